import PyProof.Rows.All
import Wide.All
import OpenK.AllK
import Wide.FinOn
import Lean
import PyProof.EqAt
import PyProof.EqKinds
import PyProof.TupleCall
import PyProof.CompFree
import PySem.SetTable
import PyProof.SetScanFacts
import PyProof.TupleKey
import PyProof.SetKind
import PyProof.IsRules
import PyProof.SetRoads
import PyProof.InstSpecial
import PyProof.Rows.SetFrom
import KE.KSortTup
import PyProof.StrWalks
import PyProof.EnumMake
import PyProof.ConsumeWalk
import PyProof.ListRange
import PyProof.NeKinds
import PyProof.ZipIter
import KE.KTryDeep
import OpenK.KOwn
import PyProof.RulesAs
import PyProof.NsDelKeeps
import PyProof.ExcArgsOwn
import PyProof.ExcAttrAll.ValueError
import KE.KIsAll
import OpenK.KNot
import PyProof.IsiH_list
import PyProof.Rows.FStr
import KE.KDictOf
import PyProof.AttrMissHeap
import PyProof.DictIter
import PyProof.DictWalks
import PyProof.Rows.DictUnroll
import KE.KRevIter
import KE.KDictList
import PyProof.CollectIter
import PyProof.TupleOfGen
import KE.KSortKey
import PyProof.FactsAll.NoneType_1
import PyProof.CompUse
import PyProof.Rows.FStrParts
import PyProof.DictFindH
import KE.KLam
import KE.KNestM
import KE.KItemsList
import PyProof.DictValues
import PyProof.CallType
import PyProof.WalksEnum
import PyProof.Rows.EnumRows
import KE.KMinKey
import PySem.Challenge.RW_treewatch_k82_whole_alike_folders
set_option Elab.async false
set_option linter.all false
set_option maxRecDepth 100000
set_option maxHeartbeats 8000000
open PySem.W (methodObj hideAll hideAll_size hideAll_get of_hideAll hideAll_none keepIn fnOf codeIn kat_cons kat_yes KatTups kat_kind kat_lt kat_no kat_lt_int Looks kat_nil kat_one envX CodeHd kla_obj tabObj kla_fn codeHdIn codeHd_of_K excIn nsIn mg_of mg_none_of)
open PyProof.Rows (boot_tuple lt_str boot_dict boot_sorted callWith_kw boot_enumerate)
open PySem.F (slot_tuple_add entry_tuple_add args_tuple_add_2 slot_dict_pop slot_dict_get plainAttrs_dict slot_dict_keyiterator_next plain_list_iadd called_tuple slot_NoneType_hash slot_dict_setdefault type_dict_setdefault plainAttrs_list slot_list_pop type_list_pop slot_dict_items slot_dict_values)
open List (mem_filter mem_range filterMap_cons mem_cons_self mem_cons_of_mem mem_cons mem_append mem_append_left getElem_inj mem_append_right size_toArray append_nil nodup_cons of_mem_zip length length_take getElem?_append_right getElem?_append_left getElem?_map take_sublist mem_of_getElem? length_append length_map length_drop map_nil map_cons any_cons length_singleton find?_cons length_cons length_nil filter_cons length_filter_le Pairwise toArray find?_some mem_map any_map any_eq_true length_range length_eq_zero_iff getD_eq_getElem?_getD getElem?_eq_getElem getElem_mem ext_getElem? getElem?_range getElem?_eq_none pairwise_iff_getElem map_map map_congr_left not_mem_nil take_succ mem_iff_getElem getElem_map getElem_take nodup_nil map_append take_length zip_cons_cons filter_append filter_cons_of_pos filter_cons_of_neg filter_nil all_eq_true Nodup pairwise_map pairwise_cons append_assoc filter_map Sublist nodup_append nil_append filter_sublist mem_singleton take_zero lookup_cons filter mem_flatMap exists_mem_of_ne_nil forall_mem_cons)
open Nat (not_lt lt_of_lt_of_le lt_irrefl ne_of_lt le_trans le_of_lt ne_of_gt le_refl zero_le le_succ lt_trans lt_of_le_of_lt lt_succ_of_lt zero_add add_assoc le_of_eq succ_mul)
open Array (length_toList toList getElem?_toList getD_eq_getD_getElem? forIn_toList size_map replicate)
open Option (isSome_iff_exists getD_none map_some isSome_map isNone_iff_eq_none)
open Bool (and_eq_true false_eq_true)
open PySem.Heap (lt_size SameBut get?_push_of_some get?_push_size size_push size_update get?_push_ne get?_update_ne FlyingW ExtBut)
open PySem.Calls (spliced_nil spliced_cons callWith_builtin evalArgs_plain)
open PySem.SeqAt (EqAt in_listAt eq_listAt RcAt RcNeAt)
open PySem.Value (type builtin)
open PySem (SetTable boot_len)
open PySem.Str (ofString empty)
open Ne (symm)
noncomputable section
namespace L2
open PySem PySem.Spec PyProof.Rows
abbrev Key:=Sum Int Str
def eJ:Key→Value→Bool
 |.inl k,v=>Value.isInt k v
 |.inr x,v=>Value.isStrOf x v
def xF(w:World):Key→Int
 |.inl k=>hashInt k
 |.inr x=>hashStr w x
theorem aE:∀{k:Key}{v:Value},eJ k v=true→(∃i t,k=Sum.inl i∧v=Value.int i t)∨(∃x t,k=Sum.inr x∧v=Value.str x t)
 |.inl i,v,h=>by
  obtain⟨t,e⟩:=Value.isInt_shape (k:=i) (v:=v) h;exact .inl ⟨i,t,rfl,e⟩
 |.inr x,v,h=>by
  obtain⟨t,e⟩:=Value.isStrOf_shape (x:=x) (v:=v) h;exact .inr ⟨x,t,rfl,e⟩
theorem jI(i:Int)(t:Tok):eJ (.inl i) (.int i t)=true:=by simp[eJ,Value.isInt]
theorem jJ(x:Str)(t:Tok):eJ (.inr x) (.str x t)=true:=by simp[eJ,Value.isStrOf]
theorem vS(a b:Int):decide ((Sum.inl a:Key)=Sum.inl b)=(a==b):=by
 by_cases e:a=b
 ·subst e;simp
 ·have h:¬(Sum.inl a:Key)=Sum.inl b:=λq=>e (Sum.inl.inj q);rw[decide_eq_false h];exact(beq_eq_false_iff_ne.mpr e).symm
theorem vT(a b:Str):decide ((Sum.inr a:Key)=Sum.inr b)=decide (a=b):=by
 by_cases e:a=b
 ·subst e;simp
 ·have h:¬(Sum.inr a:Key)=Sum.inr b:=λq=>e (Sum.inr.inj q);rw[decide_eq_false h,decide_eq_false e]
theorem vU(a:Int)(b:Str):decide ((Sum.inl a:Key)=Sum.inr b)=false:=decide_eq_false (λq=>nomatch q)
theorem vV(a:Str)(b:Int):decide ((Sum.inr a:Key)=Sum.inl b)=false:=decide_eq_false (λq=>nomatch q)
def ap(prog:Program)(w:World):PySem.KeyKind prog w Key where
 is:=eJ
 hash:=xF w
 inj:=λv a b ha hb=>by
  rcases aE ha with⟨i,t,rfl,rfl⟩|⟨x,t,rfl,rfl⟩
  ·rcases aE hb with⟨j,u,rfl,e⟩|⟨y,u,rfl,e⟩
   ·injection e with e1 _;rw[e1]
   ·exact nomatch e
  ·rcases aE hb with⟨j,u,rfl,e⟩|⟨y,u,rfl,e⟩
   ·exact nomatch e
   ·injection e with e1 _;rw[e1]
 byValue:=λk v h=>by
  rcases aE h with⟨i,t,rfl,rfl⟩|⟨x,t,rfl,rfl⟩<;>rfl
 pyHash:=λhv h=>by
  rcases aE hv with⟨i,t,rfl,rfl⟩|⟨x,t,rfl,rfl⟩
  ·exact wpAny_pyHash_int h
  ·exact wpAny_pyHash_str h
 eqBool:=λhu hv h=>by
  rcases aE hu with⟨i,t,rfl,rfl⟩|⟨x,t,rfl,rfl⟩
  ·rcases aE hv with⟨j,u,rfl,rfl⟩|⟨y,u,rfl,rfl⟩
   ·rw[vS]at h;exact wpAny_eqBool_int h
   ·rw[vU]at h;exact EqAt.int_str i t y u _ _ _ _ h
  ·rcases aE hv with⟨j,u,rfl,rfl⟩|⟨y,u,rfl,rfl⟩
   ·rw[vV]at h;exact EqAt.str_int x t j u _ _ _ _ h
   ·rw[vT]at h;exact wpAny_eqBool_str h
 «strs»:=λk x t v h=>by
  rcases aE h with⟨i,u,rfl,e⟩|⟨y,u,rfl,e⟩
  ·exact nomatch e
  ·injection e with e1 _
   subst e1;cases v<;>rfl
theorem lG(prog:Program)(w:World)(i:Int)(t:Tok):(ap prog w).is (.inl i) (.int i t)=true:=jI i t
theorem lH(prog:Program)(w:World)(x:Str)(t:Tok):(ap prog w).is (.inr x) (.str x t)=true:=jJ x t
inductive V where
 |non|bl (b:Bool)|int (i:Int)|str (x:Str)|byt (b:Array UInt8)|flt (b:UInt64)|ref (a:Addr)|ty (n:String)
 deriving DecidableEq
def aB:V→Value→Prop
 |.non,u=>u=Value.none
 |.bl b,u=>u=Value.bool b
 |.int i,u=>∃t,u=Value.int i t
 |.str x,u=>∃t,u=Value.str x t
 |.byt b,u=>∃t,u=Value.bytes b t
 |.flt b,u=>∃t,u=Value.float b t
 |.ref a,u=>u=Value.ref a
 |.ty n,u=>u=type n
abbrev ar:List V→List Value→Prop:=Paired aB
theorem ar.length{xs:List V}{us:List Value}(r:ar xs us):xs.length=us.length:=Paired.length r
theorem ar.get:∀{xs:List V}{us:List Value}{i:Nat}{x:V},ar xs us→xs[i]?=some x→∃u,us[i]?=some u∧aB x u
 |_,_,_,_,.nil,e=>by simp at e
 |_,_,0,_,.cons r _,e=>by simp at e;subst e;exact⟨_,rfl,r⟩
 |_,_,i+1,x,.cons _ t,e=>by
  obtain⟨u,h1,h2⟩:=ar.get (i:=i) (x:=x) t (by simpa using e);exact⟨u,by simpa using h1,h2⟩
theorem ar.append:∀{xs ys:List V}{us ws:List Value},ar xs us→ar ys ws→ar (xs++ys) (us++ws)
 |_,_,_,_,.nil,s=>s
 |_,_,_,_,.cons r t,s=>.cons r (ar.append t s)
theorem ar.take:∀{xs:List V}{us:List Value}(n:Nat),ar xs us→ar (xs.take n) (us.take n)
 |_,_,0,_=>.nil
 |_,_,_+1,.nil=>.nil
 |_,_,n+1,.cons r t=>.cons r (ar.take n t)
theorem ar.drop:∀{xs:List V}{us:List Value}(n:Nat),ar xs us→ar (xs.drop n) (us.drop n)
 |_,_,0,r=>r
 |_,_,_+1,.nil=>.nil
 |_,_,n+1,.cons _ t=>ar.drop n t
def fi:Option V→Option Value→Prop
 |some v,some u=>aB v u
 |none,none=>True
 |_,_=>False
def KV{κ:Type}:List (κ×V)→List (κ×Value)→Prop:=Paired λ(p:κ×V) (q:κ×Value)=>p.1=q.1∧aB p.2 q.2
def kV:Key→V
 |.inl i=>.int i
 |.inr x=>.str x
inductive HO where
 |lst (xs:List V)
 |tup (xs:List V)
 |dK (kvs:List (Key×V))|dT (kvs:List (List Key×V))
 |set (S:Int→Bool) (n:Nat)
 |ins (C dx:Addr) (fs:List (Str×V))
 |own (x:Addr)
 |xd (fs:List (Str×V))
 |met (f x:Addr)
 |rng (lo hi:Int)
 |frz (o:Obj) (u:HO)
 |tbl (ps:Array Value)
 |ext (φ:Heap→Prop)
abbrev Hp:=Addr→Option HO
def upd(H:Hp)(a:Addr)(o:HO):Hp:=λb=>if b=a then some o else H b
theorem ac{H:Hp}{a:Addr}{o:HO}:upd H a o a=some o:=by unfold upd;rw[if_pos rfl]
theorem af{H:Hp}{a b:Addr}{o:HO}(h:b≠a):upd H a o b=H b:=by unfold upd;rw[if_neg h]
theorem xG{H:Hp}{a b:Addr}{o u:HO}(h:H a=some o)(h':H b=some u)(d:o≠u):a≠b:=by
 intro e;subst e;rw[h]at h';exact d (Option.some.inj h')
theorem ao{H:Hp}{a b:Addr}{o:HO}(h:H a=some o)(h':H b=none):a≠b:=by
 intro e;subst e;rw[h]at h';cases h'
section
variable(P:Program)(w:World)
def bi(H:Hp)(h:Heap)(a:Addr):HO→Prop
 |.lst xs=>xs.length≤sizeLine∧∃(its:List Value) (n:Nat),ar xs its∧h.get? a=some {cls:=.type "list",data:=.seq its.toArray n}
 |.tup xs=>xs.length≤sizeLine∧∃its:List Value,ar xs its∧IsTup h a its.toArray
 |.dK kvs=>kvs.length≤sizeLine∧(a==sysModules)=false∧∃vs,KV kvs vs∧h.DictOf (ap P w) a vs
 |.dT kvs=>kvs.length≤sizeLine∧(a==sysModules)=false∧∃xs:List (List Key×Addr×Value),
   Paired (λ(p:List Key×V) (q:List Key×Addr×Value)=>p.1=q.1∧H q.2.1=some (.tup (p.1.map kV))∧aB p.2 q.2.2) kvs xs ∧
   ∃o es ep,h.get? a=some o∧o.ExactDict∧o.data=.dict es ep∧es.toList=xs.map (entryOfKey (tupleKind (ap P w)))∧(xs.map (·.1)).Nodup
 |.set S n=>h.SetOf (intKind P w) a S n
 |.ins C dx fs=>H dx=some (.own a)∧fs.length≤1000∧dx≠a∧h.get? a=some (PySem.W.instObj C dx) ∧
   ∃mA,h.Ns1 dx mA∧(∀f,fi (fs.lookup f) (mA f))∧PySem.Within mA (fs.map (·.1))
 |.own _=>∃o,h.get? a=some o
 |.xd fs=>∃mA,h.Ns1 a mA∧∀f,fi (fs.lookup f) (mA f)
 |.rng lo hi=>∃t u v,h.get? a=some {cls:=.type "range",data:=.fields #[.int lo t,.int hi u,.int 1 v]}
 |.frz o u=>h.get? a=some o∧bi H h a u
 |.tbl ps=>h.get? a=some {cls:=.none,data:=.fields ps}
 |.met f x=>h.get? a=some (methodObj (.ref f) (.ref x))
 |.ext φ=>φ h∧(∃o,h.get? a=some o)∧∀h1 h2:Heap,φ h1→(∀o,h1.get? a=some o→h2.get? a=some o)→φ h2
def HOk(H:Hp)(h:Heap):Prop:=∀a o,H a=some o→bi P w H h a o
end
section
variable{P:Program}{w:World}{H H':Hp}{h h':Heap}{a:Addr}{o:HO}
theorem bi.lt(x:bi P w H h a o):a<h.objs.size:=by
 cases o with
 |lst xs=>obtain⟨_,_,_,_,e⟩:=x;exact lt_size e
 |tup xs=>obtain⟨_,_,_,p⟩:=x;exact p.lt
 |dK kvs=>obtain⟨_,_,_,_,o,_,_,e,_⟩:=x;exact lt_size e
 |dT kvs=>obtain⟨_,_,_,_,o,_,_,e,_⟩:=x;exact lt_size e
 |set S n=>obtain⟨o,_,_,_,e,_⟩:=x;exact lt_size e
 |ins C dx fs=>obtain⟨_,_,_,e,_⟩:=x;exact lt_size e
 |own y=>obtain⟨_,e⟩:=x;exact lt_size e
 |xd fs=>obtain⟨_,⟨_,_,_,e,_⟩,_⟩:=x;exact lt_size e
 |rng lo hi=>obtain⟨_,_,_,e⟩:=x;exact lt_size e
 |frz ob u=>obtain⟨e,_⟩:=x;exact lt_size e
 |tbl ps=>exact lt_size (show h.get? a=some _ from x)
 |met f y=>exact lt_size (show h.get? a=some _ from x)
 |ext φ=>obtain⟨_,⟨_,e⟩,_⟩:=x;exact lt_size e
theorem Paired.mapP{α β:Type}{F G:α→β→Prop}:∀{l₁:List α}{l₂:List β},Paired F l₁ l₂→(∀a b,F a b→G a b)→Paired G l₁ l₂
 |_,_,.nil,_=>.nil
 |_,_,.cons r t,f=>.cons (f _ _ r) (Paired.mapP t f)
theorem Paired.imp'{α β:Type}{F G:α→β→Prop}(f:∀a b,F a b→G a b){l₁:List α}{l₂:List β}(r:Paired F l₁ l₂):Paired G l₁ l₂:=Paired.mapP r f
theorem bi.stay(x:bi P w H h a o)(k:∀b u,(b=a∨H b=some (.own a))→h.get? b=some u→h'.get? b=some u)(ho:∀b,H b=some (.own a)→H' b=some (.own a))(ht:∀b xs,H b=some (.tup xs)→H' b=some (.tup xs)):bi P w H' h' a o:=by
 induction o with
 |lst xs=>obtain⟨z,its,n,r,e⟩:=x;exact⟨z,its,n,r,k _ _ (.inl rfl) e⟩
 |tup xs=>obtain⟨z,its,r,ob,e,c⟩:=x;exact⟨z,its,r,ob,k _ _ (.inl rfl) e,c⟩
 |dK kvs=>obtain⟨z,y,vs,r,ob,es,ep,e,c⟩:=x;exact⟨z,y,vs,r,ob,es,ep,k _ _ (.inl rfl) e,c⟩
 |dT kvs =>
  obtain⟨z,y,xs,r,ob,es,ep,e,c⟩:=x;exact⟨z,y,xs,Paired.mapP r λp q z=>⟨z.1,ht _ _ z.2.1,z.2.2⟩,ob,es,ep,k _ _ (.inl rfl) e,c⟩
 |set S n=>obtain⟨ob,es,ep,t,e,c⟩:=x;exact⟨ob,es,ep,t,k _ _ (.inl rfl) e,c⟩
 |ins C dx fs =>
  obtain⟨d,z,ne,e,mA,⟨od,es,ep,e2,c⟩,r⟩:=x;exact⟨ho _ d,z,ne,k _ _ (.inl rfl) e,mA,⟨od,es,ep,k _ _ (.inr d) e2,c⟩,r⟩
 |own y=>obtain⟨ob,e⟩:=x;exact⟨ob,k _ _ (.inl rfl) e⟩
 |xd fs=>obtain⟨mA,⟨od,es,ep,e,c⟩,r⟩:=x;exact⟨mA,⟨od,es,ep,k _ _ (.inl rfl) e,c⟩,r⟩
 |rng lo hi=>obtain⟨t,u,v,e⟩:=x;exact⟨t,u,v,k _ _ (.inl rfl) e⟩
 |frz ob u ih=>obtain⟨e,q⟩:=x;exact⟨k _ _ (.inl rfl) e,ih q⟩
 |tbl ps =>
  have e:h.get? a=some {cls:=.none,data:=.fields ps}:=x;show h'.get? a=some {cls:=.none,data:=.fields ps};exact k a _ (.inl rfl) e
 |met f y =>
  have e:h.get? a=some (methodObj (.ref f) (.ref y)):=x;show h'.get? a=some (methodObj (.ref f) (.ref y));exact k a _ (.inl rfl) e
 |ext φ=>obtain⟨p,⟨o,e⟩,st⟩:=x;exact⟨st _ _ p λo q=>k _ _ (.inl rfl) q,⟨o,k _ _ (.inl rfl) e⟩,st⟩
theorem HOk.lt(x:HOk P w H h)(e:H a=some o):a<h.objs.size:=(x a o e).lt
theorem HOk.fresh(x:HOk P w H h)(e:h.objs.size≤a):H a=none:=by
 cases q:H a with
 |none=>rfl
 |some u=>exact absurd (lt_of_lt_of_le (x.lt q) e) (lt_irrefl _)
theorem HOk.kept(x:HOk P w H h)(k:∀b u,h.get? b=some u→h'.get? b=some u):HOk P w H h':=λa o e =>
 (x a o e).stay (λb u _ q=>k b u q) (λ_ q=>q) λ_ _ q=>q
theorem HOk.laid(x:HOk P w H h)(k:∀b u,h.get? b=some u→h'.get? b=some u)(hp:h.objs.size≤a)(new:bi P w (upd H a o) h' a o):HOk P w (upd H a o) h':=λb u e=>by
 have hn:=x.fresh hp
 by_cases hb:b=a
 ·subst hb;rw[ac]at e;cases e;exact new
 ·rw[af hb]at e;exact(x b u e).stay (λc v _ q=>k c v q) (λc q=>by rw[af (ao q hn)];exact q) λc xs q=>by rw[af (ao q hn)];exact q
end
def Rd(H:Hp)(a:Addr)(u:HO):Prop:=H a=some u∨∃o,H a=some (.frz o u)
theorem Rd.of{H:Hp}{a:Addr}{u:HO}(h:H a=some u):Rd H a u:=.inl h
theorem Rd.ok{P:Program}{w:World}{H:Hp}{h:Heap}{a:Addr}{u:HO}(r:Rd H a u)(x:HOk P w H h):bi P w H h a u:=by
 rcases r with r|⟨o,r⟩
 ·exact x a u r
 ·obtain⟨_,q⟩:=x a _ r;exact q
def Mut:Option HO→Prop
 |some (.lst _)=>True
 |some (.dK _)=>True
 |some (.dT _)=>True
 |some (.set _ _)=>True
 |some (.ins _ _ _)=>True
 |some (.ext _)=>True
 |_=>False
section
variable{P:Program}{w:World}{H:Hp}{h h':Heap}{x e:Addr}{o':HO}
theorem HOk.write(ok:HOk P w H h)(mu:Mut (H x))(he:e=x∨H e=some (.own x))(k:∀b u,b≠e→h.get? b=some u→h'.get? b=some u)(heo:∃u,h'.get? e=some u)(new:bi P w (upd H x o') h' x o'):HOk P w (upd H x o') h':=λb u q=>by
 have nown:∀c y,H c=some (.own y)→c≠x:=λc y r z=>by subst z;rw[r]at mu;exact mu
 have ntup:∀c xs,H c=some (.tup xs)→c≠x:=λc xs r z=>by subst z;rw[r]at mu;exact mu
 by_cases hb:b=x
 ·subst hb;rw[ac]at q;cases q;exact new
 ·rw[af hb]at q
  by_cases hbe:b=e
  ·have q':H b=some (.own x):=by
    rcases he with z|z
    ·exact absurd (hbe.trans z) hb
    ·rw[hbe];exact z
   rw[q]at q';cases q';obtain⟨v,hv⟩:=heo;exact⟨v,by rw[hbe];exact hv⟩
  ·refine(ok b u q).stay (λc v hc r=>k c v ?_ r) (λc r=>by rw[af (nown c b r)];exact r) λc xs r=>by rw[af (ntup c xs r)];exact r
   rcases hc with rfl|hc
   ·exact hbe
   ·rintro rfl;rcases he with z|z
    ·exact nown c b hc z
    ·rw[hc]at z;cases z;exact hb rfl
end
structure Un(fs ex:List Addr)(H H':Hp)(h h':Heap):Prop where
 keep:∀b o,h.get? b=some o→H b=none→b∉fs→b∉ex→h'.get? b=some o
 slot:∀b o,h.get? b=some o→H b=none→b∈fs→b∉ex→∃sl,h'.get? b=some {o with slots:=sl}
 free:∀b o,h.get? b=some o→H b=none→b∉ex→H' b=none
 there:∀b o,h.get? b=some o→b∉ex→∃o',h'.get? b=some o'
 tups:∀b xs,H b=some (.tup xs)→H' b=some (.tup xs)
 frzs:∀b o u,H b=some (.frz o u)→H' b=some (.frz o u)
 tbls:∀b ps,H b=some (.tbl ps)→∃more,H' b=some (.tbl (ps++more))
section
variable{fs fs' ex ex':List Addr}{H H1 H2:Hp}{h h1 h2 h':Heap}{a x e:Addr}{o:HO}
theorem Un.any(u:Un fs ex H H1 h h1){b:Addr}{ob:Obj}(q:h.get? b=some ob)(n:H b=none)(hx:b∉ex):∃sl,h1.get? b=some {ob with slots:=sl}:=by
 by_cases hb:b∈fs
 ·exact u.slot b ob q n hb hx
 ·exact⟨ob.slots,u.keep b ob q n hb hx⟩
theorem Un.trans(a:Un fs ex H H1 h h1)(b:Un fs ex H1 H2 h1 h2):Un fs ex H H2 h h2 where
 keep:=λc ob q n hc hx=>b.keep c ob (a.keep c ob q n hc hx) (a.free c ob q n hx) hc hx
 slot:=λc ob q n hc hx=>by
  obtain⟨sl,e1⟩:=a.slot c ob q n hc hx;obtain⟨sl',e2⟩:=b.slot c _ e1 (a.free c ob q n hx) hc hx;exact⟨sl',e2⟩
 free:=λc ob q n hx=>by
  obtain⟨o',e1⟩:=a.there c ob q hx;exact b.free c o' e1 (a.free c ob q n hx) hx
 there:=λc ob q hx=>by
  obtain⟨o',e1⟩:=a.there c ob q hx;exact b.there c o' e1 hx
 tups:=λc xs q=>b.tups c xs (a.tups c xs q)
 frzs:=λc ob xs q=>b.frzs c ob xs (a.frzs c ob xs q)
 tbls:=λc ps q=>by
  obtain⟨m1,e1⟩:=a.tbls c ps q;obtain⟨m2,e2⟩:=b.tbls c _ e1;exact⟨m1++m2,by rw[e2,Array.append_assoc]⟩
theorem Un.kept(k:∀b u,h.get? b=some u→h'.get? b=some u):Un fs ex H H h h' :=
 ⟨λb ob q _ _ _=>k b ob q,λb ob q _ _ _=>⟨ob.slots,k b ob q⟩,λ_ _ _ n _=>n,λb ob q _=>⟨ob,k b ob q⟩,λ_ _ q=>q,λ_ _ _ q=>q,λ_ ps q=>⟨#[],by rw[q];simp⟩⟩
theorem Un.refl:Un fs ex H H h h:=Un.kept λ_ _ q=>q
theorem Un.laid(k:∀b u,h.get? b=some u→h'.get? b=some u)(hp:h.objs.size≤a)(hn:H a=none):Un fs ex H (upd H a o) h h' where
 keep:=λb u q _ _ _=>k b u q
 slot:=λb u q _ _ _=>⟨u.slots,k b u q⟩
 free:=λb u q n _=>by rw[af (ne_of_lt (lt_of_lt_of_le (lt_size q) hp))];exact n
 there:=λb u q _=>⟨u,k b u q⟩
 tups:=λb xs q=>by rw[af (ao q hn)];exact q
 frzs:=λb u xs q=>by rw[af (ao q hn)];exact q
 tbls:=λb ps q=>⟨#[],by rw[af (ao q hn),q];simp⟩
theorem Un.write(mu:Mut (H x))(he:e=x∨H e=some (.own x))(k:∀b u,b≠e→h.get? b=some u→h'.get? b=some u)(heo:∃u,h'.get? e=some u):Un fs ex H (upd H x o) h h':=by
 have hx:∀b,H b=none→b≠x:=λb n z=>by subst z;rw[n]at mu;exact mu
 have hb:∀b,H b=none→b≠e:=λb n z=>by
  subst z;rcases he with r|r
  ·exact hx b n r
  ·rw[n]at r;cases r
 have hm:∀b u,H b=some u→¬Mut (some u)→b≠x:=λb u q nm z=>by subst z;rw[q]at mu;exact nm mu
 refine⟨λb u q n _ _=>k b u (hb b n) q,λb u q n _ _=>⟨u.slots,k b u (hb b n) q⟩,λb u q n _=>by rw[af (hx b n)];exact n,λb u q _=>?_,
  λb xs q=>by rw[af (hm b _ q λz=>z)];exact q,λb u xs q=>by rw[af (hm b _ q λz=>z)];exact q,λb ps q=>⟨#[],by rw[af (hm b _ q λz=>z),q];simp⟩⟩
 by_cases hbe:b=e
 ·subst hbe;exact heo
 ·exact⟨u,k b u hbe q⟩
end
def trk(h:Heap)(H:Hp):List Addr:=(List.range h.objs.size).filter λa=>(H a).isSome
def jz(h:Heap)(H:Hp):Heap:=hideAll h (trk h H)
theorem pZ(h:Heap)(H:Hp):(jz h H).objs.size=h.objs.size:=hideAll_size _ _
theorem qU{h:Heap}{H:Hp}{b:Addr}{o:Obj}(e:h.get? b=some o)(n:H b=none):(jz h H).get? b=some o :=
 hideAll_get _ e λhm=>by
  have q:(H b).isSome=true:=(mem_filter.mp hm).2;rw[n]at q;simp at q
theorem tT{h:Heap}{H:Hp}{b:Addr}{o:Obj}(e:(jz h H).get? b=some o):h.get? b=some o∧H b=none:=by
 have e':h.get? b=some o:=of_hideAll (trk h H) e;refine⟨e',?_⟩;cases q:H b with
 |none=>rfl
 |some x =>
  have hm:b∈trk h H:=mem_filter.mpr ⟨mem_range.mpr (lt_size e'),by simp[q]⟩;have z:(jz h H).get? b=none:=hideAll_none (trk h H) hm;rw[z]at e;cases e
structure Mod(K:PySem.W.Frag)(mg:Str→Option Value)(base:Heap):Prop where
 kin:K.In base
 glob:base.Ns mainGlobals mg
 blt:∃mb,base.Ns builtinsNs mb∧∀x:Str,x≠"__name__"→mb x=bootBuiltins x
 nolimit:base.NoLimit
structure Cx where
 prog:Program
 w:World
 K:PySem.W.Frag
 mg:Str→Option Value
 base:Heap
 A:Around
 N:List Str
 s₀:Shared
 H₀:Hp
 env:Env
 outer:List Env
 stack:List Env
 ex:List Addr
 fn:Str→Bool
 calm:Bool
 pn:List (Addr×Obj)
 xe:Value→Shared→Prop
def frs(l:List Env):List Addr:=l.filterMap (·.frame)
abbrev Cx.fs(X:Cx):List Addr:=frs X.outer
def Vis(sc:Scope)(x:Str):Prop:=sc.names.lookup x=some .local∨sc.names.lookup x=some .cell∨sc.names.lookup x=some .free
def Loc(sc:Scope)(x:Str):Prop:=sc.names.lookup x=some .local∨sc.names.lookup x=some .cell
def yM(env:Env)(h:Heap)(m:Str→Option Value)(x:Str)(u:Value):Prop :=
 (env.kindOf x=some .local∧m x=some u)∨((env.kindOf x=some .cell∨env.kindOf x=some .free)∧∃c,env.cells.lookup x=some c∧h.IsCell c (some u))
structure Cx.Ok(X:Cx):Prop where
 mod:Mod X.K X.mg X.base
 kind:X.env.scope.kind=.function
 glob:X.env.globals=mainGlobals
 blt:X.env.builtins=builtinsNs
 above:X.s₀.heap.objs.size≤X.env.locals
 inj:∀x y c,X.env.cells.lookup x=some c→X.env.cells.lookup y=some c→x=y
 has:∀x,(X.env.kindOf x=some .cell∨X.env.kindOf x=some .free)→∃c,X.env.cells.lookup x=some c
 cab:∀x c,X.fn x=true→X.env.cells.lookup x=some c→X.s₀.heap.objs.size≤c
 hd:X.calm=true→X.A.handled=none
 frames:X.A.frames=some X.stack
 stk:X.stack=X.outer∨(X.stack=X.env::X.outer∧X.env.frame=some X.env.locals)
 exf:∀b∈X.ex,b≠X.env.locals∧∀x c,X.env.cells.lookup x=some c→c≠b
 bs:∀b o,X.base.get? b=some o→X.s₀.heap.get? b=some o∧X.H₀ b=none
 bsz:X.base.objs.size≤X.s₀.heap.objs.size
 noex:∀b o,X.base.get? b=some o→b∉X.ex
 exfs:∀b∈X.ex,b∉X.fs
 funs:X.s₀.heap.FunFrames X.base X.outer
 frf:∀b∈X.fs,X.H₀ b=none
structure Inv(X:Cx)(pins:List (Addr×Obj))(σ:List (Option V))(H:Hp)(s:Shared):Prop where
 ok:X.Ok
 os:s.os=X.s₀.os
 bare:AllBare s.gens
 base:Un X.fs X.ex X.H₀ H X.s₀.heap s.heap
 loc:∃m,s.heap.Ns X.env.locals m∧∀(i:Nat)(x:Str)(v:V),X.N[i]?=some x→σ[i]?=some (some v)→Vis X.env.scope x→∃u,aB v u∧yM X.env s.heap m x u
 cell:∀x c,X.env.cells.lookup x=some c→∃v,s.heap.IsCell c v
 free:H X.env.locals=none
 freeC:∀x c,X.env.cells.lookup x=some c→H c=none
 pin:∀p∈X.pn++pins,s.heap.get? p.1=some p.2∧H p.1=none∧p.1≠X.env.locals∧p.1∉X.fs∧∀v,p.2.data≠.cell v
 hok:HOk X.prog X.w H s.heap
 len:σ.length=X.N.length
section
variable{X:Cx}{pins:List (Addr×Obj)}{σ:List (Option V)}{H H':Hp}{s:Shared}{h':Heap}
theorem Cx.Ok.nofr(ok:X.Ok){b:Addr}{o:Obj}(e:X.base.get? b=some o):b∉X.fs:=λhb=>by
 have:=(ok.funs.mem hb).1;rw[e]at this;cases this
theorem Inv.bs(I:Inv X pins σ H s):∀b o,X.base.get? b=some o→s.heap.get? b=some o∧H b=none:=λb o e =>
 ⟨I.base.keep b o (I.ok.bs b o e).1 (I.ok.bs b o e).2 (I.ok.nofr e) (I.ok.noex b o e),I.base.free b o (I.ok.bs b o e).1 (I.ok.bs b o e).2 (I.ok.noex b o e)⟩
theorem Inv.bk(I:Inv X pins σ H s):∀b o,X.base.get? b=some o→s.heap.get? b=some o:=λb o e=>(I.bs b o e).1
theorem Inv.mod(I:Inv X pins σ H s):Mod X.K X.mg X.base:=I.ok.mod
theorem Inv.kIn(I:Inv X pins σ H s):X.K.In s.heap:=I.ok.mod.kin.keeps I.bk
theorem Inv.lt(I:Inv X pins σ H s):X.env.locals<s.heap.objs.size:=let⟨_,hn,_⟩:=I.loc;hn.lt
theorem Inv.sz(I:Inv X pins σ H s):X.s₀.heap.objs.size≤s.heap.objs.size:=le_trans I.ok.above (le_of_lt I.lt)
theorem Inv.nofs(I:Inv X pins σ H s){a:Addr}(h:s.heap.objs.size≤a):a∉X.fs:=λhb=>by
 obtain⟨_,o,ho,_⟩:=I.ok.funs.mem hb;exact absurd (lt_of_lt_of_le (lt_size ho) (le_trans I.sz h)) (lt_irrefl _)
theorem Inv.cne(I:Inv X pins σ H s):∀x c,X.env.cells.lookup x=some c→c≠X.env.locals:=λx c e z=>by
 obtain⟨v,o,ho,hd⟩:=I.cell x c e;obtain⟨m,⟨o',es,ep,ho',hd',_⟩,_⟩:=I.loc;rw[z,ho']at ho;cases ho;rw[hd']at hd;cases hd
theorem Inv.funs(I:Inv X pins σ H s):s.heap.FunFrames X.base X.outer:=by
 have all:∀(l:List Env),(∀b∈frs l,b∈X.fs)→X.s₀.heap.FunFrames X.base l→s.heap.FunFrames X.base l:=by
  intro l
  induction l with
  |nil=>intro _ _;trivial
  |cons env r ih =>
   intro hs hl;obtain⟨hk,⟨L,o,hf,hn,ho,hd⟩,hr⟩:=hl;have hL:L∈X.fs:=hs L (by unfold frs;rw[filterMap_cons,hf];exact mem_cons_self);obtain⟨sl,e⟩:=I.base.slot L o ho (I.ok.frf L hL) hL λz=>I.ok.exfs L z hL;exact⟨hk,⟨L,_,hf,hn,e,hd⟩,ih (λb hb=>hs b (by unfold frs;rw[filterMap_cons,hf];exact mem_cons_of_mem _ hb)) hr⟩
 exact all X.outer (λ_ hb=>hb) I.ok.funs
theorem Inv.stack(I:Inv X pins σ H s):s.heap.FunFrames X.base X.stack:=by
 rcases I.ok.stk with e|⟨e,hf⟩
 ·rw[e];exact I.funs
 ·rw[e];obtain⟨m,hn,_⟩:=I.loc;refine .cons (by rw[I.ok.kind];decide) hf hn ?_ I.funs;exact Heap.get?_none_of_le (le_trans I.ok.bsz I.ok.above)
theorem Inv.stkSub(I:Inv X pins σ H s):∀b∈frs X.stack,b∈X.env.locals::X.fs:=λb hb=>by
 rcases I.ok.stk with e|⟨e,hf⟩
 ·rw[e]at hb;exact mem_cons_of_mem _ hb
 ·rw[e]at hb;unfold frs at hb;rw[filterMap_cons,hf]at hb;exact hb
theorem Inv.stkFree(I:Inv X pins σ H s):∀b∈frs X.stack,H b=none:=λb hb=>by
 rcases mem_cons.mp (I.stkSub b hb)with e|hb
 ·rw[e];exact I.free
 ·obtain⟨_,o,ho,_⟩:=I.ok.funs.mem hb;exact I.base.free b o ho (I.ok.frf b hb) λz=>I.ok.exfs b z hb
theorem Inv.step{g':Array GenState}{t':Nat}{d':Drawn}{ch:List Addr}(I:Inv X pins σ H s)(hch:∀b∈ch,(b∈X.ex∨X.s₀.heap.objs.size≤b)∧b≠X.env.locals∧(∀x c,X.env.cells.lookup x=some c→c≠b)∧∀p∈X.pn++pins,p.1≠b)(keep:∀b o,b≠X.env.locals→b∉X.fs→b∉ch→s.heap.get? b=some o→H b=none→h'.get? b=some o)(slot:∀b o,b≠X.env.locals→b∈X.fs→b∉ch→s.heap.get? b=some o→H b=none→∃sl,h'.get? b=some {o with slots:=sl})(free:∀b o,b∉ch→s.heap.get? b=some o→H b=none→H' b=none)(there:∀b o,b∉ch→s.heap.get? b=some o→∃o',h'.get? b=some o')(tups:∀b xs,H b=some (.tup xs)→H' b=some (.tup xs))(frzs:∀b o u,H b=some (.frz o u)→H' b=some (.frz o u))(tbls:∀b ps,H b=some (.tbl ps)→∃more,H' b=some (.tbl (ps++more)))(ns:∀m,s.heap.Ns X.env.locals m→h'.Ns X.env.locals m)(hok:HOk X.prog X.w H' h')(hg:AllBare g'):
  Inv X pins σ H' {s with heap:=h',gens:=g',drawn:=d',toks:=t'}:=by
 have neL:∀b o,X.s₀.heap.get? b=some o→b≠X.env.locals:=λb o e=>ne_of_lt (lt_of_lt_of_le (lt_size e) I.ok.above);have neC:∀b o,X.s₀.heap.get? b=some o→b∉X.ex→b∉ch:=λb o e hx hb=>by
  rcases (hch b hb).1 with z|z
  ·exact hx z
  ·exact absurd (lt_of_lt_of_le (lt_size e) z) (lt_irrefl _)
 have cellK:∀x c,X.env.cells.lookup x=some c→∀v,s.heap.IsCell c v→h'.IsCell c v:=λx c e v ⟨o,ho,hd⟩=>by
  have nch:c∉ch:=λz=>(hch c z).2.2.1 x c e rfl
  by_cases hc:c∈X.fs
  ·obtain⟨sl,q⟩:=slot c o (I.cne x c e) hc nch ho (I.freeC x c e);exact⟨_,q,hd⟩
  ·exact⟨o,keep c o (I.cne x c e) hc nch ho (I.freeC x c e),hd⟩
 refine⟨I.ok,I.os,hg,⟨λb o e n hb hx=>?_,λb o e n hb hx=>?_,λb o e n hx=>?_,λb o e hx=>?_,λb xs e=>tups b xs (I.base.tups b xs e),λb o xs e=>frzs b o xs (I.base.frzs b o xs e),λb ps e=>?_⟩,?_,λx c e=>?_,?_,λx c e=>?_,λp hp=>?_,hok,I.len⟩
 ·exact keep b o (neL b o e) hb (neC b o e hx) (I.base.keep b o e n hb hx) (I.base.free b o e n hx)
 ·obtain⟨sl,e1⟩:=I.base.slot b o e n hb hx;obtain⟨sl',e2⟩:=slot b _ (neL b o e) hb (neC b o e hx) e1 (I.base.free b o e n hx);exact⟨sl',e2⟩
 ·obtain⟨o',e1⟩:=I.base.there b o e hx;exact free b o' (neC b o e hx) e1 (I.base.free b o e n hx)
 ·obtain⟨o',e1⟩:=I.base.there b o e hx;exact there b o' (neC b o e hx) e1
 ·obtain⟨m1,e1⟩:=I.base.tbls b ps e;obtain⟨m2,e2⟩:=tbls b _ e1;exact⟨m1++m2,by rw[e2,Array.append_assoc]⟩
 ·obtain⟨m,hn,hl⟩:=I.loc;refine⟨m,ns m hn,λi x v e1 e2 e3=>?_⟩;obtain⟨u,r,l⟩:=hl i x v e1 e2 e3;refine⟨u,r,?_⟩;rcases l with l|⟨k,c,e,z⟩
  ·exact .inl l
  ·exact .inr ⟨k,c,e,cellK x c e _ z⟩
 ·obtain⟨v,z⟩:=I.cell x c e;exact⟨v,cellK x c e v z⟩
 ·obtain⟨m,⟨o,_,_,ho,_⟩,_⟩:=I.loc;exact free _ o (λz=>(hch _ z).2.1 rfl) ho I.free
 ·obtain⟨v,o,ho,hd⟩:=I.cell x c e;exact free c o (λz=>(hch c z).2.2.1 x c e rfl) ho (I.freeC x c e)
 ·obtain⟨e,n,ne,nf,d⟩:=I.pin p hp;have nch:p.1∉ch:=λz=>(hch p.1 z).2.2.2 p hp rfl;exact⟨keep p.1 p.2 ne nf nch e n,free p.1 p.2 nch e n,ne,nf,d⟩
theorem Inv.un{t':Nat}(I:Inv X pins σ H s)(u:Un X.fs [] H H' s.heap h')(hok:HOk X.prog X.w H' h'):Inv X pins σ H' {s with heap:=h',toks:=t'}:=by
 obtain⟨m,⟨o,es,ep,ho,r⟩,_⟩:=id I.loc;obtain⟨sl,hL⟩:=u.any ho I.free (by simp);exact I.step (g':=s.gens) (d':=s.drawn) (ch:=[]) (λ_ z=>nomatch z) (λb o _ hb _ e n=>u.keep b o e n hb (by simp)) (λb o _ hb _ e n=>u.slot b o e n hb (by simp)) (λb o _ e n=>u.free b o e n (by simp)) (λb o _ e=>u.there b o e (by simp)) u.tups u.frzs u.tbls (λm' hm=>by
  obtain⟨o',es',ep',ho',r'⟩:=hm;rw[ho]at ho';cases ho';exact⟨_,es',ep',hL,r'⟩) hok I.bare
theorem Inv.call{g':Array GenState}{t':Nat}{d':Drawn}{ch:List Addr}(I:Inv X pins σ H s)(u:Un (frs X.stack) ch H H' s.heap h')(hok:HOk X.prog X.w H' h')(hg:AllBare g')(hch:∀b∈ch,(b∈X.ex∨X.s₀.heap.objs.size≤b)∧b≠X.env.locals∧(∀x c,X.env.cells.lookup x=some c→c≠b)∧∀p∈X.pn++pins,p.1≠b):
  Inv X pins σ H' {s with heap:=h',gens:=g',drawn:=d',toks:=t'}:=by
 obtain⟨m,⟨o,es,ep,ho,r⟩,_⟩:=id I.loc;obtain⟨sl,hL⟩:=u.any ho I.free λz=>(hch _ z).2.1 rfl;exact I.step (ch:=ch) hch (λb o hL hb hc e n=>u.keep b o e n (λz=>(mem_cons.mp (I.stkSub b z)).elim hL hb) hc) (λb o _ _ hc e n=>u.any e n hc) (λb o hc e n=>u.free b o e n hc) (λb o hc e=>u.there b o e hc) u.tups u.frzs u.tbls (λm' hm=>by
  obtain⟨o',es',ep',ho',r'⟩:=hm;rw[ho]at ho';cases ho';exact⟨_,es',ep',hL,r'⟩) hok hg
theorem Inv.turned{t':Nat}{it:Addr}(I:Inv X pins σ H s)(k:∀b o,b≠it→s.heap.get? b=some o→h'.get? b=some o)(hn:H it=none)(hL:it≠X.env.locals)(h1:it∈X.ex∨X.s₀.heap.objs.size≤it)(h2:∀x c,X.env.cells.lookup x=some c→c≠it)(h3:∀p∈X.pn++pins,p.1≠it):Inv X pins σ H {s with heap:=h',toks:=t'}:=by
 have nit:∀b u,H b=some u→b≠it:=λb u e z=>by rw[z,hn]at e;cases e
 refine I.step (g':=s.gens) (d':=s.drawn) (ch:=[it]) (λb hb=>?_) (λb o _ _ hc e _=>k b o (λz=>hc (by simp[z])) e) (λb o _ _ hc e _=>⟨o.slots,k b o (λz=>hc (by simp[z])) e⟩) (λ_ _ _ _ n=>n)
  (λb o hc e=>⟨o,k b o (λz=>hc (by simp[z])) e⟩) (λ_ _ e=>e) (λ_ _ _ e=>e) (λb ps e=>⟨#[],by rw[e];simp⟩) (λm hm=>?_) (λb u e=>?_) I.bare
 ·have e:b=it:=by simpa using hb
  subst e;exact⟨h1,hL,h2,h3⟩
 ·obtain⟨o,es,ep,ho,r⟩:=hm;exact⟨o,es,ep,k _ o (symm hL) ho,r⟩
 ·refine(I.hok b u e).stay (λc v hc q=>k c v ?_ q) (λ_ q=>q) λ_ _ q=>q;rcases hc with z|z
  ·rw[z];exact nit b u e
  ·exact nit c _ z
theorem Inv.tok(I:Inv X pins σ H s)(t:Nat):Inv X pins σ H {s with toks:=t}:=I.un (h':=s.heap) (t':=t) Un.refl I.hok
theorem Inv.kept{t':Nat}(I:Inv X pins σ H s)(k:∀b u,s.heap.get? b=some u→h'.get? b=some u):Inv X pins σ H {s with heap:=h',toks:=t'}:=I.un (Un.kept k) (I.hok.kept k)
theorem Inv.laid{a:Addr}{o:HO}{t':Nat}(I:Inv X pins σ H s)(k:∀b u,s.heap.get? b=some u→h'.get? b=some u)(hp:s.heap.objs.size≤a)(new:bi X.prog X.w (upd H a o) h' a o):
  Inv X pins σ (upd H a o) {s with heap:=h',toks:=t'}:=I.un (Un.laid k hp (I.hok.fresh hp)) (I.hok.laid k hp new)
theorem Inv.write{x e:Addr}{o:HO}{t':Nat}(I:Inv X pins σ H s)(mu:Mut (H x))(he:e=x∨H e=some (.own x))(k:∀b u,b≠e→s.heap.get? b=some u→h'.get? b=some u)(heo:∃u,h'.get? e=some u)(new:bi X.prog X.w (upd H x o) h' x o):Inv X pins σ (upd H x o) {s with heap:=h',toks:=t'}:=I.un (Un.write mu he k heo) (I.hok.write mu he k heo new)
theorem Inv.pins_of{pins':List (Addr×Obj)}(I:Inv X pins σ H s)(h:∀p∈pins',s.heap.get? p.1=some p.2∧H p.1=none∧p.1≠X.env.locals∧p.1∉X.fs∧∀v,p.2.data≠.cell v):Inv X pins' σ H s :=
 ⟨I.ok,I.os,I.bare,I.base,I.loc,I.cell,I.free,I.freeC,λp hp=>(mem_append.mp hp).elim (λz=>I.pin p (mem_append_left _ z)) (h p),I.hok,I.len⟩
theorem lI{N:List Str}(hN:N.Nodup){i j:Nat}{x:Str}(a:N[i]?=some x)(b:N[j]?=some x):i=j:=by
 obtain⟨h1,e1⟩:=List.getElem?_eq_some_iff.mp a;obtain⟨h2,e2⟩:=List.getElem?_eq_some_iff.mp b;exact(getElem_inj hN).mp (e1.trans e2.symm)
theorem jK{M:Model}{A:Around}{E:Value→Shared→Prop}{i:Nat}{x:Str}{v:V}{u:Value}{Q:Unit→Shared→Prop}(I:Inv X pins σ H s)(hN:X.N.Nodup)(hi:X.N[i]?=some x)(hx:Loc X.env.scope x)(r:aB v u)(h:∀s',Inv X pins (σ.set i (some v)) H s'→(∃a,SameBut a s.heap s'.heap∧(a=X.env.locals∨X.env.cells.lookup x=some a))→Q () s')(hf:X.fn x=true∨X.env.scope.names.lookup x=some .local:=by first|exact .inl rfl|exact .inr rfl|assumption):wpAny M A (storeName X.env x u) Q E s:=by
 obtain⟨m,hn,hl⟩:=id I.loc;have hcls:(X.env.scope.kind==.class||(X.env.scope.kind==.module&&X.env.locals != X.env.globals))=false:=by rw[I.ok.kind];rfl
 have hiσ:i<σ.length:=by rw[I.len];exact(List.getElem?_eq_some_iff.mp hi).1
 have cne:=I.cne;have tracked:∀{a:Addr}{h':Heap},(∃o,s.heap.get? a=some o∧H a=none)→SameBut a s.heap h'→HOk X.prog X.w H h':=λ{a h'} ha hs b ob e=>by
  obtain⟨_,_,hfree⟩:=ha;refine(I.hok b ob e).stay (λc w' hc q=>(hs.2 c ?_).trans q) (λ_ q=>q) λ_ _ q=>q;rintro rfl;rcases hc with rfl|hc
  ·rw[hfree]at e;cases e
  ·rw[hfree]at hc;cases hc
 rcases hx with hk|hk
 ·refine wpAny_storeName_local hk hn (λh' hn' hs=>?_) hcls;obtain⟨oL,_,_,hoL,_⟩:=id hn;refine h _ ⟨I.ok,I.os,I.bare,⟨λb o e n hb hx=>?_,λb o e n hb hx=>?_,I.base.free,λb o e hx=>?_,I.base.tups,I.base.frzs,I.base.tbls⟩,⟨_,hn',λj y v' e1 e2 e3=>?_⟩,λy c e=>?_,I.free,I.freeC,λp hp=>?_,tracked ⟨oL,hoL,I.free⟩ hs,by simpa using I.len⟩ ⟨_,hs,.inl rfl⟩
  ·exact(hs.2 b (ne_of_lt (lt_of_lt_of_le (lt_size e) I.ok.above))).trans (I.base.keep b o e n hb hx)
  ·obtain⟨sl,e1⟩:=I.base.slot b o e n hb hx;exact⟨sl,(hs.2 b (ne_of_lt (lt_of_lt_of_le (lt_size e) I.ok.above))).trans e1⟩
  ·obtain⟨o',e1⟩:=I.base.there b o e hx;exact⟨o',(hs.2 b (ne_of_lt (lt_of_lt_of_le (lt_size e) I.ok.above))).trans e1⟩
  ·by_cases hj:j=i
   ·subst hj;rw[hi]at e1;cases e1;rw[List.getElem?_set_self hiσ]at e2;cases e2;exact⟨u,r,.inl ⟨hk,by simp⟩⟩
   ·rw[List.getElem?_set_ne (symm hj)]at e2;obtain⟨u',r',q⟩:=hl j y v' e1 e2 e3;refine⟨u',r',?_⟩;rcases q with⟨k,e⟩|⟨k,c,e,z⟩
    ·refine .inl ⟨k,?_⟩;have:y≠x:=λe=>hj (lI hN e1 (e ▸ hi));simp[this,e]
    ·exact .inr ⟨k,c,e,z.sameBut hs (cne y c e)⟩
  ·obtain⟨w',z⟩:=I.cell y c e;exact⟨w',z.sameBut hs (cne y c e)⟩
  ·obtain⟨e,n,ne,nf,d⟩:=I.pin p hp;exact⟨(hs.2 p.1 ne).trans e,n,ne,nf,d⟩
 ·have hfn:X.fn x=true:=by
   rcases hf with z|z
   ·exact z
   ·rw[z]at hk;cases hk
  obtain⟨c,hc⟩:=I.ok.has x (.inl hk);obtain⟨w',z⟩:=I.cell x c hc;refine wpAny_storeName_cell I.ok.kind hk hc z (λh' hc' hs=>?_);obtain⟨oc,hoc,hocd⟩:=id z;refine h {s with heap:=h'} ⟨I.ok,I.os,I.bare,⟨λb o e n hb hx=>?_,λb o e n hb hx=>?_,I.base.free,λb o e hx=>?_,I.base.tups,I.base.frzs,I.base.tbls⟩,⟨m,hn.sameBut hs (symm (cne x c hc)),λj y v' e1 e2 e3=>?_⟩,λy c' e=>?_,I.free,I.freeC,λp hp=>?_,tracked ⟨oc,hoc,I.freeC x c hc⟩ hs,by simpa using I.len⟩ ⟨c,hs,.inr hc⟩
  ·exact(hs.2 b (ne_of_lt (lt_of_lt_of_le (lt_size e) (I.ok.cab x c hfn hc)))).trans (I.base.keep b o e n hb hx)
  ·obtain⟨sl,e1⟩:=I.base.slot b o e n hb hx;exact⟨sl,(hs.2 b (ne_of_lt (lt_of_lt_of_le (lt_size e) (I.ok.cab x c hfn hc)))).trans e1⟩
  ·obtain⟨o',e1⟩:=I.base.there b o e hx;exact⟨o',(hs.2 b (ne_of_lt (lt_of_lt_of_le (lt_size e) (I.ok.cab x c hfn hc)))).trans e1⟩
  ·by_cases hj:j=i
   ·subst hj;rw[hi]at e1;cases e1;rw[List.getElem?_set_self hiσ]at e2;cases e2;exact⟨u,r,.inr ⟨.inl hk,c,hc,hc'⟩⟩
   ·rw[List.getElem?_set_ne (symm hj)]at e2;obtain⟨u',r',q⟩:=hl j y v' e1 e2 e3;refine⟨u',r',?_⟩;rcases q with q|⟨k,c',e,z'⟩
    ·exact .inl q
    ·refine .inr ⟨k,c',e,z'.sameBut hs ?_⟩;rintro rfl;exact hj (lI hN e1 (I.ok.inj _ _ _ e hc ▸ hi))
  ·by_cases hcc:c'=c
   ·subst hcc;exact⟨_,hc'⟩
   ·obtain⟨w2,z2⟩:=I.cell y c' e;exact⟨w2,z2.sameBut hs hcc⟩
  ·obtain⟨e,n,ne,nf,d⟩:=I.pin p hp;refine⟨(hs.2 p.1 ?_).trans e,n,ne,nf,d⟩;intro q;rw[q,hoc]at e;have q':oc=p.2:=Option.some.inj e;exact d w' (by rw[←q'];exact hocd)
theorem lJ{M:Model}{A:Around}{E:Value→Shared→Prop}{i:Nat}{x:Str}{v:V}{u:Value}{Q:Unit→Shared→Prop}(I:Inv X pins σ H s)(hN:X.N.Nodup)(hi:X.N[i]?=some x)(hx:Loc X.env.scope x)(r:aB v u)(h:∀s',Inv X pins (σ.set i (some v)) H s'→Q () s')(hf:X.fn x=true∨X.env.scope.names.lookup x=some .local:=by first|exact .inl rfl|exact .inr rfl|assumption):wpAny M A (storeName X.env x u) Q E s :=
 jK I hN hi hx r (λs' I' _=>h s' I') hf
theorem Inv.call'{s':Shared}{ch:List Addr}(I:Inv X pins σ H s)(ho:s'.os=s.os)(u:Un (frs X.stack) ch H H' s.heap s'.heap)(hok:HOk X.prog X.w H' s'.heap)(hg:AllBare s'.gens)(hch:∀b∈ch,(b∈X.ex∨X.s₀.heap.objs.size≤b)∧b≠X.env.locals∧(∀x c,X.env.cells.lookup x=some c→c≠b)∧∀p∈X.pn++pins,p.1≠b):Inv X pins σ H' s':=by
 obtain⟨h',g',d',t',o'⟩:=s';have e:o'=s.os:=ho;subst e;exact I.call (g':=g') (t':=t') (d':=d') u hok hg hch
end
abbrev XK:=Value→Option Addr→Hp→Prop
abbrev St:=List (Option V)
abbrev VK:=V→Hp→Prop
abbrev TE:=St→Hp→VK→Prop
abbrev TT:=St→Hp→(Bool→Hp→Prop)→Prop
abbrev TA:=St→Hp→(List V→Hp→Prop)→Prop
structure Ends where
 nx:St→Hp→Prop
 rt:VK
 bk:St→Hp→Prop:=λ_ _=>False
 ct:St→Hp→Prop:=λ_ _=>False
abbrev TS:=Ends→St→Hp→Prop
def EP(X:Cx)(pins:List (Addr×Obj))(σ:St)(Q:VK)(u:Value)(s':Shared):Prop:=∃v H',Inv X pins σ H' s'∧aB v u∧Q v H'
def TP(X:Cx)(pins:List (Addr×Obj))(σ:St)(Q:Bool→Hp→Prop)(b:Bool)(s':Shared):Prop:=∃H',Inv X pins σ H' s'∧Q b H'
def AP(X:Cx)(pins:List (Addr×Obj))(σ:St)(Q:List V→Hp→Prop)(us:List Value)(s':Shared):Prop:=∃vs H',Inv X pins σ H' s'∧ar vs us∧Q vs H'
def SP(X:Cx)(pins:List (Addr×Obj))(D:Ends)(f:Flow)(s':Shared):Prop :=
 match f with
 |.next=>∃σ' H',Inv X pins σ' H' s'∧D.nx σ' H'
 |.brk=>∃σ' H',Inv X pins σ' H' s'∧D.bk σ' H'
 |.cont=>∃σ' H',Inv X pins σ' H' s'∧D.ct σ' H'
 |.ret u=>∃v σ' H',Inv X pins σ' H' s'∧aB v u∧D.rt v H'
def PE(X:Cx)(e:Expr)(t:TE):Prop :=
 ∀(pins:List (Addr×Obj))(s:Shared)(σ:St)(H:Hp)(Q:VK),Inv X pins σ H s→t σ H Q→wpAny (model X.prog X.w) X.A (eval e X.env) (EP X pins σ Q) X.xe s
def PT(X:Cx)(e:Expr)(t:TT):Prop :=
 ∀(pins:List (Addr×Obj))(s:Shared)(σ:St)(H:Hp)(Q:Bool→Hp→Prop),Inv X pins σ H s→t σ H Q→wpAny (model X.prog X.w) X.A (isTrue e X.env (eval e X.env)) (TP X pins σ Q) X.xe s
def PW(X:Cx)(e:Expr)(t:TT):Prop :=
 ∀(whole:Sem Value)(pins:List (Addr×Obj))(s:Shared)(σ:St)(H:Hp)(Q:Bool→Hp→Prop),Inv X pins σ H s→t σ H Q→wpAny (model X.prog X.w) X.A (isTrue e X.env whole) (TP X pins σ Q) X.xe s
theorem PW.pt{X:Cx}{e:Expr}{t:TT}(h:PW X e t):PT X e t:=h _
def PA(X:Cx)(es:List Expr)(t:TA):Prop :=
 ∀(pos:Pos)(pins:List (Addr×Obj))(s:Shared)(σ:St)(H:Hp)(Q:List V→Hp→Prop),Inv X pins σ H s→t σ H Q→wpAny (model X.prog X.w) X.A (spliced (backTo pos (starEach es X.env))) (AP X pins σ Q) X.xe s
def PS(X:Cx)(st:Stmt)(t:TS):Prop :=
 ∀(pins:List (Addr×Obj))(s:Shared)(σ:St)(H:Hp)(D:Ends),Inv X pins σ H s→t D σ H→wpAny (model X.prog X.w) X.A (exec st X.env) (SP X pins D) X.xe s
def PSs(X:Cx)(st:List Stmt)(t:TS):Prop :=
 ∀(pins:List (Addr×Obj))(s:Shared)(σ:St)(H:Hp)(D:Ends),Inv X pins σ H s→t D σ H→wpAny (model X.prog X.w) X.A (execs st X.env) (SP X pins D) X.xe s
theorem thn{α:Type}{t:Sem α}{Q Q':α→Shared→Prop}{M:Model}{A:Around}{E:Value→Shared→Prop}{s:Shared}(h:wpAny M A t Q E s)(hQ:∀a s,Q a s→Q' a s):wpAny M A t Q' E s:=wpAny_mono h hQ λ_ _ x=>x
section
variable{X:Cx}
def fO(i:Nat):TE:=λσ H Q=>∃v,σ[i]?=some (some v)∧Q v H
def tC(v:V):TE:=λ_ H Q=>Q v H
theorem vW{i:Nat}{x:Str}{pos:Pos}(hN:X.N[i]?=some x)(hv:Vis X.env.scope x)(hd:(x==("__debug__":Str))=false:=by decide)(hcd:(x==("__classdict__":Str))=false:=by decide):PE X (.Name x pos) (fO i):=by
 intro pins s σ H Q I h;obtain⟨v,e,h⟩:=h;obtain⟨m,hn,hl⟩:=I.loc;obtain⟨u,r,l⟩:=hl i x v hN e hv;have fin:EP X pins σ Q u s:=⟨v,H,I,r,h⟩;rcases l with⟨hk,hm⟩|⟨hk,c,hc,hcell⟩
 ·exact wpAny_Name (wpAny_loadName_local I.ok.kind hk hn hm fin) hd
 ·rcases hk with hk|hk
  ·exact wpAny_Name (wpAny_loadName_cell I.ok.kind hk hc hcell fin) hd
  ·exact wpAny_Name (wpAny_loadName_free I.ok.kind hk hc hcell fin hcd) hd
theorem aj{i j pos}:PE X (.Constant (.int i) j pos) (tC (.int i)):=λ_ _ _ H _ I h=>wpAny_Constant_int ⟨.int i,H,I.tok _,⟨_,rfl⟩,h⟩
theorem vA{b j pos}:PE X (.Constant (.bool b) j pos) (tC (.bl b)):=λ_ _ _ H _ I h=>Constant_bool ⟨.bl b,H,I,rfl,h⟩
theorem dj{j pos}:PE X (.Constant .none j pos) (tC .non):=λ_ _ _ H _ I h=>Constant_none ⟨.non,H,I,rfl,h⟩
theorem cP{x j pos}:PE X (.Constant (.str x) j pos) (tC (.str x)):=λ_ _ _ H _ I h=>Calls.Constant_str ⟨.str x,H,I.tok _,⟨_,rfl⟩,h⟩
def Gl(X:Cx)(x:Str):Prop:=X.env.kindOf x=some .globalImplicit
theorem kq{E:Value→Shared→Prop}{pins:List (Addr×Obj)}{s:Shared}{σ:St}{H:Hp}{x:Str}{u:Value}{pos:Pos}{Q:Value→Shared→Prop}(I:Inv X pins σ H s)(hg:Gl X x)(hm:X.mg x=some u)(h:Q u s)(hd:(x==("__debug__":Str))=false:=by decide):wpAny (model X.prog X.w) X.A (eval (.Name x pos) X.env) Q E s :=
 Calls.Name_function_global I.ok.kind hg (Calls.loadGlobal_global (by rw[I.ok.glob];exact I.mod.glob.keeps I.bk) hm h) hd
theorem dH{E:Value→Shared→Prop}{pins:List (Addr×Obj)}{s:Shared}{σ:St}{H:Hp}{x:Str}{u:Value}{pos:Pos}{Q:Value→Shared→Prop}(I:Inv X pins σ H s)(hg:Gl X x)(hm:X.mg x=none)(hv:bootBuiltins x=some u)(h:Q u s)(hn:x≠"__name__":=by decide)(hd:(x==("__debug__":Str))=false:=by decide):wpAny (model X.prog X.w) X.A (eval (.Name x pos) X.env) Q E s:=by
 obtain⟨mb,h1,h2⟩:=I.mod.blt;exact Calls.Name_function_global I.ok.kind hg (Calls.loadGlobal_builtin (by rw[I.ok.glob];exact I.mod.glob.keeps I.bk) hm (by rw[I.ok.blt];exact h1.keeps I.bk) ((h2 x hn).trans hv) h) hd
theorem iB{x:Str}{v:V}{u:Value}{pos:Pos}(hg:Gl X x)(hm:X.mg x=some u)(r:aB v u)(hd:(x==("__debug__":Str))=false:=by decide):PE X (.Name x pos) (tC v) :=
 λ_ _ _ H _ I h=>kq I hg hm ⟨v,H,I,r,h⟩ hd
variable{a b:Expr}{ta tb:TE}{pos:Pos}
def PC(X:Cx)(op:CmpOp)(a b:Expr)(t:TE):Prop :=
 ∀(pins:List (Addr×Obj))(s:Shared)(σ:St)(H:Hp)(Q:VK),Inv X pins σ H s→t σ H Q →
  wpAny (model X.prog X.w) X.A (eval a X.env) (λv s₁=>wpAny (model X.prog X.w) X.A (eval b X.env) (λu s₂=>wpAny (model X.prog X.w) X.A (compareOp op v u) (EP X pins σ Q) X.xe s₂) X.xe s₁) X.xe s
def tB(t:TE):TT:=λσ H Q=>t σ H λx H1=>∃c,x=.bl c∧Q c H1
theorem iL{op:CmpOp}{t:TE}(h:PC X op a b t)(h1:behindInMarks op b=false:=by first|exact nobehind _ (by decide) (by decide)|rfl):PT X (.Compare a [op] [b] pos) (tB t):=by
 intro pins s σ H Q I hw;refine wpAny_isTrue_Compare1 (thn (h pins s σ H _ I hw) λv s1 h1=>thn h1 λu s2 h2=>thn h2 λc s3 ⟨x,H1,I1,r1,q1⟩=>?_) h1;obtain⟨d,rfl,q⟩:=q1;cases r1;exact wpAny_truthy_bool ⟨H1,I1,q⟩
theorem vX{e:Expr}{t:TE}(h:PE X e t)(he:∀whole,isTrue e X.env whole=(do let v ← whole;standAt e.pos;holding [v] (truthy v)):=by intro _;rfl):PT X e (tB t):=by
 intro pins s σ H Q I hw;refine isTrue_plain (thn (h pins s σ H _ I hw) λv s1 ⟨x,H1,I1,r1,q1⟩=>?_) (he _);obtain⟨d,rfl,q⟩:=q1;cases r1;exact wpAny_truthy_bool ⟨H1,I1,q⟩
variable{tA tB':TT}{rest:List Expr}
def yN(t u:TT):TT:=λσ H Q=>t σ H λc H1=>if c=true then u σ H1 Q else Q false H1
def tOr(t u:TT):TT:=λσ H Q=>t σ H λc H1=>if c=true then Q true H1 else u σ H1 Q
theorem pw_and1(ha:PT X a tA):PW X (.BoolOp .And [a] pos) tA:=by
 intro wh pins s σ H Q I h;refine isTrue_and (thn (ha pins s σ H Q I h) λc s1 e=>?_);cases c with
 |true=>exact isTrue_and_nil e
 |false=>exact e
theorem pw_or1(ha:PT X a tA):PW X (.BoolOp .Or [a] pos) tA:=by
 intro wh pins s σ H Q I h;refine isTrue_or (thn (ha pins s σ H Q I h) λc s1 e=>?_);cases c with
 |false=>exact isTrue_or_nil e
 |true=>exact e
theorem pw_and(ha:PT X a tA)(hb:PW X (.BoolOp .And (b::rest) pos) tB'):PW X (.BoolOp .And (a::b::rest) pos) (yN tA tB'):=by
 intro wh pins s σ H Q I h;refine isTrue_and (thn (ha pins s σ H _ I h) λc s1 hpt=>?_);obtain⟨H1,I1,q1⟩:=hpt;cases c with
 |true=>exact hb wh pins s1 σ H1 Q I1 q1
 |false=>exact⟨H1,I1,q1⟩
theorem pw_or(ha:PT X a tA)(hb:PW X (.BoolOp .Or (b::rest) pos) tB'):PW X (.BoolOp .Or (a::b::rest) pos) (tOr tA tB'):=by
 intro wh pins s σ H Q I h;refine isTrue_or (thn (ha pins s σ H _ I h) λc s1 hpt=>?_);obtain⟨H1,I1,q1⟩:=hpt;cases c with
 |true=>exact⟨H1,I1,q1⟩
 |false=>exact hb wh pins s1 σ H1 Q I1 q1
def tIf(t:TT)(ta tb:TE):TE:=λσ H Q=>t σ H λc H1=>if c=true then ta σ H1 Q else tb σ H1 Q
theorem iM{c:Expr}(hc:PT X c tA)(ha:PE X a ta)(hb:PE X b tb):PE X (.IfExp c a b pos) (tIf tA ta tb):=by
 intro pins s σ H Q I h;refine wpAny_IfExp (thn (hc pins s σ H _ I h) λd s1 hpt=>?_);obtain⟨H1,I1,q1⟩:=hpt;cases d with
 |true=>exact ha pins s1 σ H1 Q I1 q1
 |false=>exact hb pins s1 σ H1 Q I1 q1
end
def SqL(K:PySem.W.Frag)(H:Hp)(a:Addr)(xs:List V):Prop :=
 Rd H a (.lst xs) ∨
  ∃(o:Obj) (its:Array Value) (n:Nat),K.lookup a=some o∧o.cls=.type "list"∧o.dict=none∧o.data=.seq its n∧its.size≤sizeLine∧ar xs its.toList
def SqT(K:PySem.W.Frag)(H:Hp)(a:Addr)(xs:List V):Prop :=
 Rd H a (.tup xs) ∨
  ∃(o:Obj) (its:Array Value) (n:Nat),K.lookup a=some o∧o.cls=.type "tuple"∧o.data=.seq its n∧its.size≤sizeLine∧ar xs its.toList
def yO:Value→Option V
 |.none=>some .non
 |.bool b=>some (.bl b)
 |.int i _=>some (.int i)
 |.str x _=>some (.str x)
 |.bytes b _=>some (.byt b)
 |.float b _=>some (.flt b)
 |.ref a=>some (.ref a)
 |.type n=>some (.ty n)
 |_=>none
theorem aB.abs{x:V}{u:Value}(r:aB x u):yO u=some x:=by
 cases x with
 |non=>cases r;rfl
 |bl _=>cases r;rfl
 |int _=>obtain⟨t,rfl⟩:=r;rfl
 |str _=>obtain⟨t,rfl⟩:=r;rfl
 |byt _=>obtain⟨t,rfl⟩:=r;rfl
 |flt _=>obtain⟨t,rfl⟩:=r;rfl
 |ref _=>cases r;rfl
 |ty _=>cases r;rfl
theorem aB.inj{x y:V}{u:Value}(r:aB x u)(q:aB y u):x=y:=Option.some.inj (r.abs.symm.trans q.abs)
theorem ar.inj:∀{xs ys:List V}{us:List Value},ar xs us→ar ys us→xs=ys
 |_,_,_,.nil,.nil=>rfl
 |_,_,_,.cons r t,.cons r' t'=>by rw[r.inj r',ar.inj t t']
section
variable{X:Cx}{pins:List (Addr×Obj)}{σ:St}{H:Hp}{s:Shared}{a:Addr}{xs ys:List V}
theorem SqL.of{K:PySem.W.Frag}(h:H a=some (.lst xs)):SqL K H a xs:=.inl (.inl h)
theorem SqT.of{K:PySem.W.Frag}(h:H a=some (.tup xs)):SqT K H a xs:=.inl (.inl h)
theorem Inv.list(I:Inv X pins σ H s)(h:SqL X.K H a xs):∃its:List Value,ar xs its∧PlainL s.heap a its.toArray∧xs.length≤sizeLine:=by
 rcases h with h|⟨o,its,n,hk,hc,hd,hs,hz,r⟩
 ·obtain⟨z,its,n,r,e⟩:=h.ok I.hok;exact⟨its,r,⟨_,n,e,rfl,rfl,rfl⟩,z⟩
 ·refine⟨its.toList,r,⟨o,n,I.kIn a o hk,hc,hd,by simpa using hs⟩,?_⟩
  have e:=r.length;simp only[length_toList]at e;omega
theorem Inv.tuple(I:Inv X pins σ H s)(h:SqT X.K H a xs):∃its:List Value,ar xs its∧IsTup s.heap a its.toArray∧xs.length≤sizeLine:=by
 rcases h with h|⟨o,its,n,hk,hc,hs,hz,r⟩
 ·obtain⟨z,its,r,p⟩:=h.ok I.hok;exact⟨its,r,p,z⟩
 ·refine⟨its.toList,r,⟨o,I.kIn a o hk,hc,n,by simpa using hs⟩,?_⟩
  have e:=r.length;simp only[length_toList]at e;omega
theorem Inv.list_inj(I:Inv X pins σ H s)(h:SqL X.K H a xs)(h':SqL X.K H a ys):xs=ys:=by
 obtain⟨its,r,⟨o,n,e,_,_,d⟩,_⟩:=I.list h;obtain⟨its',r',⟨o',n',e',_,_,d'⟩,_⟩:=I.list h';rw[e]at e';cases e';rw[d]at d';injection d' with d1 _
 have:its=its':=by simpa using congrArg toList d1
 subst this;exact r.inj r'
theorem Inv.tuple_inj(I:Inv X pins σ H s)(h:SqT X.K H a xs)(h':SqT X.K H a ys):xs=ys:=by
 obtain⟨its,r,⟨o,e,_,n,d⟩,_⟩:=I.tuple h;obtain⟨its',r',⟨o',e',_,n',d'⟩,_⟩:=I.tuple h';rw[e]at e';cases e';rw[d]at d';injection d' with d1 _
 have:its=its':=by simpa using congrArg toList d1
 subst this;exact r.inj r'
end
abbrev Cx.wish(X:Cx)(E:Value→Shared→Prop):Cx:={X with xe:=E}
abbrev Cx.nox(X:Cx):Cx:=X.wish λ_ _=>False
theorem Cx.Ok.wish{X:Cx}(ok:X.Ok)(E:Value→Shared→Prop):(X.wish E).Ok :=
 ⟨ok.mod,ok.kind,ok.glob,ok.blt,ok.above,ok.inj,ok.has,ok.cab,ok.hd,ok.frames,ok.stk,ok.exf,ok.bs,ok.bsz,ok.noex,ok.exfs,ok.funs,ok.frf⟩
theorem Cx.Ok.unwish{X:Cx}{E:Value→Shared→Prop}(ok:(X.wish E).Ok):X.Ok :=
 ⟨ok.mod,ok.kind,ok.glob,ok.blt,ok.above,ok.inj,ok.has,ok.cab,ok.hd,ok.frames,ok.stk,ok.exf,ok.bs,ok.bsz,ok.noex,ok.exfs,ok.funs,ok.frf⟩
section
variable{X:Cx}{pins:List (Addr×Obj)}{σ:St}{H:Hp}{s:Shared}{E:Value→Shared→Prop}
theorem Inv.wish(I:Inv X pins σ H s)(E:Value→Shared→Prop):Inv (X.wish E) pins σ H s:=⟨I.ok.wish E,I.os,I.bare,I.base,I.loc,I.cell,I.free,I.freeC,I.pin,I.hok,I.len⟩
theorem Inv.unwish(I:Inv (X.wish E) pins σ H s):Inv X pins σ H s:=⟨I.ok.unwish,I.os,I.bare,I.base,I.loc,I.cell,I.free,I.freeC,I.pin,I.hok,I.len⟩
theorem SP.unwish{D:Ends}{f:Flow}{s':Shared}(h:SP (X.wish E) pins D f s'):SP X pins D f s':=by
 cases f with
 |next=>obtain⟨σ',H',I,q⟩:=h;exact⟨σ',H',I.unwish,q⟩
 |brk=>obtain⟨σ',H',I,q⟩:=h;exact⟨σ',H',I.unwish,q⟩
 |cont=>obtain⟨σ',H',I,q⟩:=h;exact⟨σ',H',I.unwish,q⟩
 |ret u=>obtain⟨v,σ',H',I,r,q⟩:=h;exact⟨v,σ',H',I.unwish,r,q⟩
theorem PSs.nox{st:List Stmt}{t:TS}(h:PSs X.nox st t):PSs X st t:=λpins s σ H D I hw =>
 wpAny_mono (h pins s σ H D (I.wish _) hw) (λ_ _ q=>q.unwish) λ_ _ z=>False.elim z
end
section
variable{X:Cx}{st:Stmt}{rest:List Stmt}{t u:TS}{e:Expr}{te:TE}{pos:Pos}
def xH:TS:=λD σ H=>D.nx σ H
def qV(t u:TS):TS:=λD σ H=>t {D with nx:=u D} σ H
theorem aH:PSs X [] xH:=λ_ _ σ H _ I h=>wpAny_execs_nil ⟨σ,H,I,h⟩
theorem ah(h1:PS X st t)(h2:PSs X rest u):PSs X (st::rest) (qV t u):=by
 intro pins s σ H D I h;refine wpAny_execs_cons (thn (h1 pins s σ H {D with nx:=u D} I h) λf s1 q=>?_);cases f with
 |next =>
  obtain⟨σ',H',I',q⟩:=q;exact h2 pins s1 σ' H' D I' q
 |ret v=>exact q
 |brk=>exact q
 |cont=>exact q
theorem al(h1:PS X st t):PSs X [st] t:=by
 intro pins s σ H D I h;refine wpAny_execs_cons (thn (h1 pins s σ H D I h) λf s1 q=>?_);cases f with
 |next=>exact wpAny_execs_nil q
 |ret v=>exact q
 |brk=>exact q
 |cont=>exact q
theorem Inv.quiet{pins:List (Addr×Obj)}{σ:St}{H:Hp}{s:Shared}(I:Inv X pins σ H s):interactive X.env=false:=by simp[interactive,I.ok.kind]
def vB(te:TE):TS:=λD σ H=>te σ H λ_ H1=>D.nx σ H1
theorem ba(he:PE X e te)(hs:swapsWith e none pos.line X.env=pure false:=by rfl):PS X (.Expr e pos) (vB te):=by
 intro pins s σ H D I h;exact wpAny_Expr_any (thn (he pins s σ H _ I h) λv s1 ⟨x,H1,I1,r1,q1⟩=>⟨σ,H1,I1,q1⟩) I.quiet hs
def vY(te:TE):TS:=λD σ H=>te σ H D.rt
theorem aM(he:PE X e te):PS X (.Return (some e) pos) (vY te):=by
 intro pins s σ H D I h;exact wpAny_Return_some (thn (he pins s σ H _ I h) λv s1 ⟨x,H1,I1,r1,q1⟩=>⟨x,σ,H1,I1,r1,q1⟩)
def yP(c:TT)(t u:TS):TS:=λD σ H=>c σ H λb H1=>if b=true then t D σ H1 else u D σ H1
theorem bj{c:Expr}{a b:List Stmt}{tc:TT}(hc:PT X c tc)(ha:PSs X a t)(hb:PSs X b u):PS X (.If c a b pos) (yP tc t u):=by
 intro pins s σ H D I h;refine wpAny_If (thn (hc pins s σ H _ I h) λd s1 hpt=>?_);obtain⟨H1,I1,q1⟩:=hpt;cases d with
 |true=>exact ha pins s1 σ H1 D I1 q1
 |false=>exact hb pins s1 σ H1 D I1 q1
def qW:TS:=λ_ _ _=>False
theorem qX:PS X st qW:=λ_ _ _ _ _ _ h=>h.elim
theorem gM{sts:List Stmt}:PSs X sts qW:=λ_ _ _ _ _ _ h=>h.elim
end
abbrev TG:=V→St→Hp→(St→Hp→Prop)→Prop
abbrev TGs:=List V→St→Hp→(St→Hp→Prop)→Prop
def PG(X:Cx)(target:Expr)(t:TG):Prop :=
 ∀(pins:List (Addr×Obj))(s:Shared)(σ:St)(H:Hp)(v:V)(u:Value)(Q:St→Hp→Prop),Inv X pins σ H s→aB v u→t v σ H Q →
  wpAny (model X.prog X.w) X.A (assign target X.env u) (λ_ s'=>∃σ' H',Inv X pins σ' H' s'∧Q σ' H') X.xe s
def PGs(X:Cx)(ts:List Expr)(t:TGs):Prop :=
 ∀(pins:List (Addr×Obj))(s:Shared)(σ:St)(H:Hp)(vs:List V)(us:List Value)(Q:St→Hp→Prop),Inv X pins σ H s→ar vs us→t vs σ H Q →
  wpAny (model X.prog X.w) X.A (assignInOrder ((assignEach ts X.env).map (·.2)) us) (λ_ s'=>∃σ' H',Inv X pins σ' H' s'∧Q σ' H') X.xe s
section
variable{X:Cx}{pos:Pos}
def bn(i:Nat):TG:=λv σ H Q=>Q (σ.set i (some v)) H
theorem aA{i:Nat}{x:Str}(hN:X.N.Nodup)(hi:X.N[i]?=some x)(hx:Loc X.env.scope x)(hf:X.fn x=true∨X.env.scope.names.lookup x=some .local:=by first|exact .inl rfl|exact .inr rfl|assumption):PG X (.Name x pos) (bn i):=by
 intro pins s σ H v u Q I r h;exact wpAny_assign_Name (lJ I hN hi hx r (λs' I'=>⟨_,H,I',h⟩) hf)
def xI:TGs:=λvs σ H Q=>vs=[]∧Q σ H
def qY(t:TG)(u:TGs):TGs:=λvs σ H Q=>∃v r,vs=v::r∧t v σ H λσ' H'=>u r σ' H' Q
theorem fQ:PGs X [] xI:=by
 intro pins s σ H vs us Q I r h;obtain⟨e,h⟩:=h;subst e;cases r;exact assignInOrder_nil ⟨σ,H,I,h⟩
theorem bQ{e:Expr}{es:List Expr}{t:TG}{u:TGs}(h1:PG X e t)(h2:PGs X es u)(hs:(assignEach (e::es) X.env).map (·.2)=assign e X.env::(assignEach es X.env).map (·.2):=by rfl):PGs X (e::es) (qY t u):=by
 intro pins s σ H vs us Q I r h;obtain⟨v,vr,e1,h⟩:=h;subst e1;cases r with
 |cons r rr =>
  rw[hs];refine assignInOrder_cons (thn (h1 pins s σ H _ _ _ I r h) λ_ s1 hpt=>?_);obtain⟨σ1,H1,I1,q1⟩:=hpt;exact h2 pins s1 σ1 H1 _ _ Q I1 rr q1
def xJ(K:PySem.W.Frag)(n:Nat)(t:TGs):TG:=λv σ H Q=>∃a xs,v=.ref a∧SqT K H a xs∧xs.length=n∧t xs σ H Q
theorem iN{es:List Expr}{k:Nat}{t:TGs}{n:Nat}(hc:X.calm=true)(h:PGs X es t)(hn:(assignEach es X.env).length=n:=by rfl)(hst:(assignEach es X.env).findIdx? (·.1)=none:=by rfl):PG X (.Tuple es k pos) (xJ X.K n t):=by
 intro pins s σ H v u Q I r hw;obtain⟨a,xs,e1,hq,hl,hw⟩:=hw;subst e1;cases r;obtain⟨its,rv,ht,hz⟩:=I.tuple hq;refine assign_Tuple_tuple (I.ok.hd hc) ht (by simp[hn,←hl,rv.length]) hst λh' hx=>?_;have I1:Inv X pins σ H {s with heap:=h'}:=I.kept (t':=s.toks) λb o e=>hx b o (ne_of_lt (lt_size e)) e
 exact h pins _ σ H xs _ Q I1 (by simpa using rv) hw
def tU(te:TE)(g:TG):TS:=λD σ H=>te σ H λx H1=>g x σ H1 D.nx
theorem vZ{tg e:Expr}{te:TE}{g:TG}(he:PE X e te)(hg:PG X tg g)(hs:swapsWithSole [tg] e pos.line X.env=pure false:=by rfl)(hw:swappedStores [tg] e X.env=pure none:=by rfl)(h1:(assignEach [tg] X.env).map (·.2)=[assign tg X.env]:=by rfl):PS X (.Assign [tg] e pos) (tU te g):=by
 intro pins s σ H D I h;refine wpAny_Assign_stores (thn (he pins s σ H _ I h) λv s1 ⟨x,H1,I1,r1,q1⟩=>?_) hs hw;rw[h1];exact thn (hg pins s1 σ H1 x v _ I1 r1 q1) λ_ s2 q=>q
theorem aw{i:Nat}{x:Str}{e:Expr}{te:TE}{pos':Pos}(hN:X.N.Nodup)(hi:X.N[i]?=some x)(hx:Loc X.env.scope x)(he:PE X e te)(hs:swapsWith e (some (.Name x pos')) pos.line X.env=pure false:=by rfl)(hf:X.fn x=true∨X.env.scope.names.lookup x=some .local:=by first|exact .inl rfl|exact .inr rfl|assumption):
  PS X (.Assign [.Name x pos'] e pos) (tU te (bn i)):=by
 intro pins s σ H D I h;refine wpAny_Assign_Name (thn (he pins s σ H _ I h) λv s1 ⟨y,H1,I1,r1,q1⟩=>?_) hs;exact lJ I1 hN hi hx r1 (λs2 I2=>⟨_,H1,I2,q1⟩) hf
def qZ(c:TT)(tb:TS):TS:=λD σ H=>∃W:Nat→St→Hp→Prop,(∃m,W m σ H)∧∀m σ H,W m σ H →
 c σ H λb H1=>if b=true then ∃N:St→Hp→Prop,(∀σ' H',N σ' H'→∃m',m'<m∧W m' σ' H')∧tb {D with nx:=N,ct:=N,bk:=D.nx} σ H1 else D.nx σ H1
theorem fR{c:Expr}{body:List Stmt}{tc:TT}{tb:TS}(hp:PassesOwn (model X.prog X.w) X.A X.env X.xe)(hc:PT X c tc)(hb:PSs X body tb):PS X (.While c body [] pos) (qZ tc tb):=by
 intro pins s σ H D I h;obtain⟨W,⟨m0,w0⟩,turn⟩:=h;refine wpAny_While (codeAny_whileLoop (λn s'=>∃σ' H',Inv X pins σ' H' s'∧W n σ' H') ?_ m0 ⟨σ,H,I,w0⟩);rintro n s1 ⟨σ1,H1,I1,w1⟩;refine wpAny_passesOwn hp (thn (hc pins s1 σ1 H1 _ I1 (turn n σ1 H1 w1)) λb s2 hpt=>?_);obtain⟨H2,I2,q2⟩:=hpt;cases b with
 |true =>
  obtain⟨N,hN,q2⟩:=q2;rw[if_pos rfl];refine wpAny_passesOwn hp (thn (hb pins s2 σ1 H2 _ I2 q2) λf s3 q3=>?_);cases f with
  |next =>
   obtain⟨σ3,H3,I3,n3⟩:=q3;obtain⟨m',hm,w3⟩:=hN σ3 H3 n3;exact⟨m',hm,σ3,H3,I3,w3⟩
  |cont =>
   obtain⟨σ3,H3,I3,n3⟩:=q3;obtain⟨m',hm,w3⟩:=hN σ3 H3 n3;exact⟨m',hm,σ3,H3,I3,w3⟩
  |brk=>exact q3
  |ret v=>exact q3
 |false =>
  rw[if_neg Bool.false_ne_true];exact wpAny_execs_nil ⟨σ1,H2,I2,q2⟩
end
structure It where
 go:Nat→Hp→Prop
 yld:Nat→Hp→V→Hp→Prop
 stop:Nat→Hp→Prop
def ir(X:Cx)(pins:List (Addr×Obj))(H:Hp)(b:Addr):Prop :=
 H b=none∧b≠X.env.locals∧b∉X.fs∧(b∈X.ex∨X.s₀.heap.objs.size≤b)∧(∀x c,X.env.cells.lookup x=some c→c≠b)∧∀p∈X.pn++pins,p.1≠b
theorem Inv.fpOk{X:Cx}{pins:List (Addr×Obj)}{σ:St}{H H':Hp}{s:Shared}{b:Addr}(I:Inv X pins σ H s)(hb:s.heap.objs.size≤b)(hn:H' b=none):ir X pins H' b:=by
 refine⟨hn,ne_of_gt (lt_of_lt_of_le I.lt hb),I.nofs hb,.inr (le_trans I.sz hb),λx c e z=>?_,λp hp z=>?_⟩
 ·obtain⟨v,q⟩:=I.cell x c e;exact absurd (lt_of_lt_of_le q.lt (by rw[z];exact hb)) (lt_irrefl _)
 ·exact absurd (lt_of_lt_of_le (lt_size (I.pin p hp).1) (by rw[z];exact hb)) (lt_irrefl _)
structure Turn(P:Program)(w:World)(K:PySem.W.Frag)(tg:Expr)(J:It)(fp:List Addr)(it:Addr)(tn:Nat→Heap→Prop):Prop where
 mem:it∈fp
 obj:∀i h,tn i h→∀b∈fp,∃o,h.get? b=some o∧∀v,o.data≠.cell v
 keep:∀i h h',tn i h→(∀b∈fp,∀o,h.get? b=some o→h'.get? b=some o)→tn i h'
 item:∀(X:Cx),X.prog=P→X.w=w→X.K=K→X.calm=true→∀(i:Nat)(pins:List (Addr×Obj))(s:Shared)(σ:St)(H:Hp)(E:Value→Shared→Prop),Inv X pins σ H s→(∀b∈fp,ir X pins H b)→tn i s.heap→J.go i H →
  wpAny (model P w) X.A (pyNext (.ref it)) (λr s1=>∃u,r=some u ∧
   wpAny (model P w) X.A (letOwnedTupleGo tg (.ref it) u) (λ_ s2=>∃x H',Inv X pins σ H' s2∧aB x u∧J.yld i H x H'∧tn (i+1) s2.heap∧∀b∈fp,H' b=none) E s1) E s
 done:∀(X:Cx),X.prog=P→X.w=w→X.K=K→X.calm=true→∀(i:Nat)(pins:List (Addr×Obj))(s:Shared)(σ:St)(H:Hp)(E:Value→Shared→Prop),Inv X pins σ H s→(∀b∈fp,ir X pins H b)→tn i s.heap→J.stop i H →
  wpAny (model P w) X.A (pyNext (.ref it)) (λr s1=>r=none∧Inv X pins σ H s1) E s
 self:∀(A:Around)(i:Nat)(s:Shared)(Q:Value→Shared→Prop)(E:Value→Shared→Prop),tn i s.heap→Q (.ref it) s→wpAny (model P w) A (pyIter (.ref it)) Q E s
abbrev TI:=St→Hp→(It→Hp→Prop)→Prop
def PIE(X:Cx)(pins:List (Addr×Obj))(σ:St)(tg:Expr)(R:It→Hp→Prop)(itv:Value)(s2:Shared):Prop :=
 ∃(it:Addr) (fp:List Addr) (tn:Nat→Heap→Prop) (J:It) (H':Hp),itv=.ref it∧Inv X pins σ H' s2∧Turn X.prog X.w X.K tg J fp it tn∧tn 0 s2.heap∧(∀b∈fp,ir X pins H' b)∧R J H'
def PI(X:Cx)(tg iter:Expr)(wi:TI):Prop :=
 ∀(pins:List (Addr×Obj))(s:Shared)(σ:St)(H:Hp)(R:It→Hp→Prop),Inv X pins σ H s→wi σ H R →
  wpAny (model X.prog X.w) X.A (eval iter X.env) (λv s1=>wpAny (model X.prog X.w) X.A (pyIter v) (PIE X pins σ tg R) X.xe s1) X.xe s
theorem lK{M:Model}{A:Around}{E:Value→Shared→Prop}{s:Shared}{tg:Expr}{it:Addr}{u:Value}{o:Obj}{n:String}{vs:Array Value}{Q:Unit→Shared→Prop}(ho:s.heap.get? it=some o)(hc:o.cls=.type n)(hd:o.data=.fields vs)(hn:["enumerate","zip","dict_itemiterator","dict_reverseitemiterator","odict_iterator","itertools.zip_longest","itertools.pairwise"].contains n=false)(hQ:Q () s):wpAny M A (letOwnedTupleGo tg (.ref it) u) Q E s:=by
 unfold letOwnedTupleGo;cases tg<;>first
  |exact wpAny_pure hQ
  | (cases u<;>first
    |exact wpAny_pure hQ
    | (refine wpAny_bind (wpAny_load ho ?_)
       rw[hc,hd];show wpAny M A (if (["enumerate","zip","dict_itemiterator","dict_reverseitemiterator","odict_iterator","itertools.zip_longest","itertools.pairwise"].contains n&&vs[0]?==some (rawInt _))=true then _ else _) Q E s
       rw[if_neg (by intro h;rw[hn,Bool.false_and]at h;cases h)];exact wpAny_pure hQ))
def Itl(K:PySem.W.Frag)(a:Addr):It :=
 ⟨λi H=>∃xs x,SqL K H a xs∧xs[i]?=some x,λi H x H'=>H'=H∧∀xs,SqL K H a xs→xs[i]?=some x,λi H=>∃xs,SqL K H a xs∧xs.length≤i⟩
def Itt(K:PySem.W.Frag)(a:Addr):It :=
 ⟨λi H=>∃xs x,SqT K H a xs∧xs[i]?=some x,λi H x H'=>H'=H∧∀xs,SqT K H a xs→xs[i]?=some x,λi H=>∃xs,SqT K H a xs∧xs.length≤i⟩
def Itr(lo:Int)(n:Nat):It:=⟨λi _=>i<n,λi H x H'=>H'=H∧x=.int (lo+i),λi _=>n≤i⟩
theorem qb{P:Program}{w:World}{K:PySem.W.Frag}{tg:Expr}(a it:Addr):Turn P w K tg (Itl K a) [it] it (λi h=>h.IsListIter it a i) where
 mem:=by simp
 obj:=λi h st b hb=>by
  have e:b=it:=by simpa using hb
  subst e;obtain⟨o,e,c,d⟩:=st;exact⟨o,e,λv z=>by rw[d]at z;cases z⟩
 keep:=λi h h' st k=>st.at λo e=>k it (by simp) o e
 item:=by
  intro X hP hw hK hc i pins s σ H E I hf st hg;subst hP hw hK;obtain⟨xs,x,hq,hx⟩:=hg;obtain⟨its,rv,p,hz⟩:=I.list hq;obtain⟨u,hu,ru⟩:=rv.get hx;obtain⟨f0,f1,f2,f3,f4,f5⟩:=hf it (by simp);refine wpAny_pyNext_list_item st p.isList (x:=u) (by simpa using hu) λh' st' sb=>?_;have I1:Inv X pins σ H {s with heap:=h'}:=I.turned (t':=s.toks) (λb o hb e=>(sb.2 b hb).trans e) f0 f1 f3 f4 f5
  obtain⟨o,e,c,d⟩:=id st';exact⟨u,rfl,lK (s:={s with heap:=h'}) e c d (by decide) ⟨x,H,I1,ru,⟨rfl,λys hy=>by rw[I.list_inj hy hq];exact hx⟩,st',λb hb=>(hf b hb).1⟩⟩
 done:=by
  intro X hP hw hK hc i pins s σ H E I hf st hg;subst hP hw hK;obtain⟨xs,hq,hx⟩:=hg;obtain⟨its,rv,p,hz⟩:=I.list hq;obtain⟨f0,f1,f2,f3,f4,f5⟩:=hf it (by simp);have hl:=rv.length;exact wpAny_pyNext_list_end (I.ok.hd hc) st p.isList (by simp;omega) λh' eb=>⟨rfl,I.turned (t':=s.toks) (λb o hb e=>eb b o hb e) f0 f1 f3 f4 f5⟩
 self:=λ_ _ _ _ _ st h=>wpAny_pyIter_listiter st h
theorem nM{P:Program}{w:World}{K:PySem.W.Frag}{tg:Expr}(a it:Addr):Turn P w K tg (Itt K a) [it] it (λi h=>h.IsTupleIter it a i) where
 mem:=by simp
 obj:=λi h st b hb=>by
  have e:b=it:=by simpa using hb
  subst e;obtain⟨o,e,c,d⟩:=st;exact⟨o,e,λv z=>by rw[d]at z;cases z⟩
 keep:=λi h h' st k=>st.at λo e=>k it (by simp) o e
 item:=by
  intro X hP hw hK hc i pins s σ H E I hf st hg;subst hP hw hK;obtain⟨xs,x,hq,hx⟩:=hg;obtain⟨its,rv,p,hz⟩:=I.tuple hq;obtain⟨u,hu,ru⟩:=rv.get hx;obtain⟨f0,f1,f2,f3,f4,f5⟩:=hf it (by simp);refine wpAny_pyNext_tuple_item st (show s.heap.IsTuple a its.toArray from p) (x:=u) (by simpa using hu) λh' st' sb=>?_;have I1:Inv X pins σ H {s with heap:=h'}:=I.turned (t':=s.toks) (λb o hb e=>(sb.2 b hb).trans e) f0 f1 f3 f4 f5
  obtain⟨o,e,c,d⟩:=id st';exact⟨u,rfl,lK (s:={s with heap:=h'}) e c d (by decide) ⟨x,H,I1,ru,⟨rfl,λys hy=>by rw[I.tuple_inj hy hq];exact hx⟩,st',λb hb=>(hf b hb).1⟩⟩
 done:=by
  intro X hP hw hK hc i pins s σ H E I hf st hg;subst hP hw hK;obtain⟨xs,hq,hx⟩:=hg;obtain⟨its,rv,p,hz⟩:=I.tuple hq;obtain⟨f0,f1,f2,f3,f4,f5⟩:=hf it (by simp);have hl:=rv.length;exact wpAny_pyNext_tuple_end (I.ok.hd hc) st (show s.heap.IsTuple a its.toArray from p) (by simp;omega) λh' eb=>⟨rfl,I.turned (t':=s.toks) (λb o hb e=>eb b o hb e) f0 f1 f3 f4 f5⟩
 self:=λ_ _ _ _ _ st h=>wpAny_pyIter_tupleiter st h
theorem nN{P:Program}{w:World}{K:PySem.W.Frag}{tg:Expr}(it:Addr)(lo:Int)(n:Nat):Turn P w K tg (Itr lo n) [it] it (λi h=>IsRangeIter h it (lo+(i:Nat)*1) ((n:Int)-(i:Nat)) 1) where
 mem:=by simp
 obj:=λi h st b hb=>by
  have e:b=it:=by simpa using hb
  subst e;exact⟨_,st,λv z=>by
   have z':Data.fields _=Data.cell v:=z;cases z'⟩
 keep:=λi h h' st k=>k it (by simp) _ st
 item:=by
  intro X hP hw hK hc i pins s σ H E I hf st hg;subst hP hw hK;obtain⟨f0,f1,f2,f3,f4,f5⟩:=hf it (by simp);have W:=Walks.range (prog:=X.prog) (w:=X.w) (I.ok.hd hc) it lo 1 n;refine W.item i s _ _ hg st λv h' tk hv st' kk=>?_;obtain⟨t,rfl⟩:=hv;have I1:Inv X pins σ H {s with heap:=h',toks:=tk}:=I.turned (λb o hb e=>kk b o (by simpa using hb) e) f0 f1 f3 f4 f5
  refine⟨_,rfl,lK (s:={s with heap:=h',toks:=tk}) (n:="range_iterator") st' rfl rfl (by decide) ⟨.int (lo+i),H,I1,⟨t,?_⟩,⟨rfl,rfl⟩,st',λb hb=>(hf b hb).1⟩⟩;rw[Int.mul_one]
 done:=by
  intro X hP hw hK hc i pins s σ H E I hf st hg;subst hP hw hK;obtain⟨f0,f1,f2,f3,f4,f5⟩:=hf it (by simp);exact wpAny_pyNext_range_end (I.ok.hd hc) st (by have:n≤i:=hg;omega) λh' eb=>⟨rfl,I.turned (t':=s.toks) (λb o hb e=>eb b o hb e) f0 f1 f3 f4 f5⟩
 self:=λ_ _ _ _ _ st h=>wpAny_pyIter_rangeiter st h
section
variable{X:Cx}{tg:Expr}
def xK(K:PySem.W.Frag)(tl:TE):TI:=λσ H R=>tl σ H λx H1=>∃a,x=.ref a∧(∃xs,SqL K H1 a xs)∧R (Itl K a) H1
def yQ(K:PySem.W.Frag)(tl:TE):TI:=λσ H R=>tl σ H λx H1=>∃a,x=.ref a∧(∃xs,SqT K H1 a xs)∧R (Itt K a) H1
theorem bG{l:Expr}{tl:TE}(hl:PE X l tl):PI X tg l (xK X.K tl):=by
 intro pins s σ H R I h;refine thn (hl pins s σ H _ I h) λv s1 hpt=>?_;obtain⟨x,H1,I1,r1,q1⟩:=hpt;obtain⟨a,e,⟨xs,hq⟩,q⟩:=q1;subst e;cases r1;obtain⟨its,rv,p,hz⟩:=I1.list hq;refine wpAny_pyIter_list p.isList ?_;refine⟨s1.heap.objs.size,[s1.heap.objs.size],_,_,H1,rfl,I1.kept (t':=s1.toks) λb o e=>get?_push_of_some _ e,qb a _,⟨_,get?_push_size _ rfl,rfl,rfl⟩,λb hb=>?_,q⟩;have e:b=s1.heap.objs.size:=by simpa using hb
 subst e;exact I1.fpOk (le_refl _) (I1.hok.fresh (le_refl _))
theorem dI{l:Expr}{tl:TE}(hl:PE X l tl):PI X tg l (yQ X.K tl):=by
 intro pins s σ H R I h;refine thn (hl pins s σ H _ I h) λv s1 hpt=>?_;obtain⟨x,H1,I1,r1,q1⟩:=hpt;obtain⟨a,e,⟨xs,hq⟩,q⟩:=q1;subst e;cases r1;obtain⟨its,rv,p,hz⟩:=I1.tuple hq;refine wpAny_pyIter_tuple (show s1.heap.IsTuple a its.toArray from p) ?_;refine⟨s1.heap.objs.size,[s1.heap.objs.size],_,_,H1,rfl,I1.kept (t':=s1.toks) λb o e=>get?_push_of_some _ e,nM a _,⟨_,get?_push_size _ rfl,rfl,rfl⟩,λb hb=>?_,q⟩;have e:b=s1.heap.objs.size:=by simpa using hb
 subst e;exact I1.fpOk (le_refl _) (I1.hok.fresh (le_refl _))
theorem rb{pins:List (Addr×Obj)}{σ:St}{H:Hp}{s:Shared}{R:It→Hp→Prop}{E:Value→Shared→Prop}{lo hi:Int}{t u v:Tok}{tk:Nat}(I:Inv X pins σ H s)(h1:-(2 ^ 62)≤lo)(h2:lo<2 ^ 62)(h3:-(2 ^ 62)≤hi)(h4:hi<2 ^ 62)(q:R (Itr lo (hi-lo).toNat) H):wpAny (model X.prog X.w) X.A (pyIter (.ref s.heap.objs.size)) (PIE X pins σ tg R) E {s with heap:=s.heap.push {cls:=.type "range",data:=.fields #[.int lo t,.int hi u,.int 1 v]},toks:=tk}:=by
 refine wpAny_pyIter_range (IsRange.new ..) (small_one h1 h2 h3 h4) ?_;have I1:Inv X pins σ H {s with heap:=s.heap.push {cls:=.type "range",data:=.fields #[.int lo t,.int hi u,.int 1 v]},toks:=tk}:=I.kept λb o e=>get?_push_of_some _ e
 refine⟨(s.heap.push {cls:=.type "range",data:=.fields #[.int lo t,.int hi u,.int 1 v]}).objs.size,[(s.heap.push {cls:=.type "range",data:=.fields #[.int lo t,.int hi u,.int 1 v]}).objs.size],_,_,H,rfl,
  I1.kept (t':=tk) λb o e=>get?_push_of_some _ e,nN _ lo (hi-lo).toNat,?_,λb hb=>?_,q⟩
 ·have e1:lo+((0:Nat):Int)*1=lo:=by simp
  have e2:(((hi-lo).toNat:Nat):Int)-((0:Nat):Int)=Builtin.Range.rangeSize lo hi 1:=by rw[rangeSize_one];split<;>omega
  show IsRangeIter _ _ (lo+((0:Nat):Int)*1) ((((hi-lo).toNat:Nat):Int)-((0:Nat):Int)) 1;rw[e1,e2];exact get?_push_size _ rfl
 ·have e:b=(s.heap.push {cls:=.type "range",data:=.fields #[.int lo t,.int hi u,.int 1 v]}).objs.size:=by simpa using hb
  subst e;exact I1.fpOk (le_refl _) (I1.hok.fresh (le_refl _))
def xL(ta:TA):TI:=λσ H R=>ta σ H λvs H1=>∃j:Int,vs=[.int j]∧-(2 ^ 62)≤j∧j<2 ^ 62∧R (Itr 0 j.toNat) H1
theorem qc{a:Expr}{ta:TA}{p pos:Pos}(hg:Gl X "range")(hm:X.mg "range"=none)(ha:PA X [a] ta)(hs:starEach [a] X.env=[(false,eval a X.env)]:=by rfl):PI X tg (.Call (.Name "range" p) [a] [] pos) (xL ta):=by
 intro pins s σ H R I h;refine Call_ (dH I hg hm boot_range (PyProof.Rows.callWith_type1 (thn (ha pos pins s σ H _ I h) λus s1 ⟨vs,H1,I1,r1,q1⟩=>?_) hs rfl));obtain⟨j,e,q1,q2,q⟩:=q1;subst e;cases r1 with
 |cons r rr =>
  cases rr;obtain⟨t,rfl⟩:=r;exact call_range_1 (rb I1 (by omega) (by omega) q1 q2 (by simpa using q))
def xM(wi:TI)(g:TG)(tb:TS):TS:=λD σ H=>wi σ H λJ H1=>∃W:Nat→Nat→St→Hp→Prop,(∃m,W 0 m σ H1)∧∀i m σ H,W i m σ H →
 (J.stop i H∧D.nx σ H)∨(J.go i H∧∃N:St→Hp→Prop,(∀σ' H',N σ' H'→∃m',m'<m∧W (i+1) m' σ' H')∧∀x H',J.yld i H x H'→g x σ H' λσ2 H2=>tb {D with nx:=N,ct:=N,bk:=D.nx} σ2 H2)
def kr(fp:List Addr)(h:Heap):List (Addr×Obj):=fp.filterMap λb=>(h.get? b).map λo=>(b,o)
theorem cf{fp:List Addr}{h:Heap}{b:Addr}{o:Obj}(hb:b∈fp)(e:h.get? b=some o):(b,o)∈kr fp h:=List.mem_filterMap.mpr ⟨b,hb,by rw[e];rfl⟩
theorem qd{fp:List Addr}{h:Heap}{p:Addr×Obj}(hp:p∈kr fp h):p.1∈fp∧h.get? p.1=some p.2:=by
 obtain⟨b,hb,e⟩:=List.mem_filterMap.mp hp;cases q:h.get? b with
 |none=>rw[q]at e;cases e
 |some o =>
  rw[q]at e;have e':(b,o)=p:=Option.some.inj e;subst e';exact⟨hb,q⟩
theorem Inv.pinned{pins:List (Addr×Obj)}{σ:St}{H:Hp}{s:Shared}{fp:List Addr}(I:Inv X pins σ H s)(hf:∀b∈fp,ir X pins H b)(ho:∀b∈fp,∃o,s.heap.get? b=some o∧∀v,o.data≠.cell v):Inv X (pins++kr fp s.heap) σ H s :=
 I.pins_of λp hp=>(mem_append.mp hp).elim (λz=>I.pin p (mem_append_right _ z)) λz=>by
  obtain⟨hb,e⟩:=qd z;obtain⟨f0,f1,f2,_⟩:=hf p.1 hb;obtain⟨o,e',d⟩:=ho p.1 hb;rw[e]at e';cases e';exact⟨e,f0,f1,f2,d⟩
theorem Inv.unpinned{pins pl:List (Addr×Obj)}{σ:St}{H:Hp}{s:Shared}(I:Inv X (pins++pl) σ H s):Inv X pins σ H s:=I.pins_of λp hp=>I.pin p (mem_append_right _ (mem_append_left _ hp))
theorem cg{iter:Expr}{body:List Stmt}{wi:TI}{g:TG}{tb:TS}{pos:Pos}(hp:PassesOwn (model X.prog X.w) X.A X.env X.xe)(hc:X.calm=true)(hi:PI X tg iter wi)(hg:PG X tg g)(hb:PSs X body tb)(hs:∀x,foldedSetIterable iter X.env x=pure x:=by intro _;rfl):PS X (.For tg iter body [] pos) (xM wi g tb):=by
 intro pins s σ H D I h;refine wpAny_For (thn (hi pins s σ H _ I h) λv s1 h1=>thn h1 λitv s2 h2=>?_) hs;obtain⟨it,fp,tn,J,H2,e,I2,T,st2,f2,W,⟨m0,w0⟩,turn⟩:=h2;subst e;have stat:∀{H':Hp},(∀b∈fp,H' b=none)→∀b∈fp,ir X pins H' b:=λhn b hb=>⟨hn b hb,(f2 b hb).2⟩;refine codeAny_forLoop_any (λn s'=>∃i σ' H',Inv X pins σ' H' s'∧tn i s'.heap∧(∀b∈fp,H' b=none)∧W i n σ' H') ?_ m0 ⟨0,σ,H2,I2,st2,λb hb=>(f2 b hb).1,w0⟩;rintro n s3 ⟨i,σ3,H3,I3,st3,fr3,w3⟩;rcases turn i n σ3 H3 w3 with⟨stop,qn⟩|⟨go,N,hN,step⟩
 ·refine wpAny_passesOwn hp (thn (T.done X rfl rfl rfl hc i pins s3 σ3 H3 X.xe I3 (stat fr3) st3 stop) λr s4 hpt=>?_);obtain⟨hr,I4⟩:=hpt;subst hr;exact wpAny_execs_nil ⟨σ3,H3,I4,qn⟩
 ·refine wpAny_passesOwn hp (thn (T.item X rfl rfl rfl hc i pins s3 σ3 H3 X.xe I3 (stat fr3) st3 go) λr s4 hpt=>?_);obtain⟨u,hr,h4⟩:=hpt;subst hr;refine wpAny_passesOwn hp (thn h4 λ_ s5 hpt=>?_);obtain⟨x,H5,I5,r5,y5,st5,fr5⟩:=hpt;have I5':=I5.pinned (stat fr5) (T.obj _ _ st5);refine wpAny_passesOwn hp (thn (hg _ s5 σ3 H5 x u _ I5' r5 (step x H5 y5)) λ_ s6 hpt=>?_);obtain⟨σ6,H6,I6,q6⟩:=hpt;refine wpAny_passesOwn hp (thn (hb _ s6 σ6 H6 _ I6 q6) λf s7 q7=>?_);have again:∀{σ7:St}{H7:Hp},Inv X (pins++kr fp s5.heap) σ7 H7 s7→N σ7 H7→∃m,m<n∧∃i σ' H',Inv X pins σ' H' s7∧tn i s7.heap∧(∀b∈fp,H' b=none)∧W i m σ' H':=λ{σ7 H7} I7 n7=>by
   obtain⟨m',hm,w7⟩:=hN σ7 H7 n7;refine⟨m',hm,i+1,σ7,H7,I7.unpinned,T.keep _ _ _ st5 λb hb o e=>(I7.pin (b,o) (mem_append_right _ (mem_append_right _ (cf hb e)))).1,λb hb=>?_,w7⟩;obtain⟨o,e,d⟩:=T.obj _ _ st5 b hb;exact(I7.pin (b,o) (mem_append_right _ (mem_append_right _ (cf hb e)))).2.1
  cases f with
  |next=>obtain⟨σ7,H7,I7,n7⟩:=q7;exact again I7 n7
  |cont=>obtain⟨σ7,H7,I7,n7⟩:=q7;exact again I7 n7
  |brk=>obtain⟨σ7,H7,I7,q7⟩:=q7;exact⟨σ7,H7,I7.unpinned,q7⟩
  |ret v=>obtain⟨x7,σ7,H7,I7,r7,q7⟩:=q7;exact⟨x7,σ7,H7,I7.unpinned,r7,q7⟩
end
theorem eK{K:PySem.W.Frag}{a:Addr}{xs:List V}{g:TG}{tb:TS}{D:Ends}{σ:St}{H:Hp}(Pv:Nat→St→Hp→Prop)(h0:Pv 0 σ H)(hl:∀i σ H,i≤xs.length→Pv i σ H→SqL K H a xs)(hs:∀i x σ H,xs[i]?=some x→Pv i σ H→g x σ H λσ2 H2=>tb {D with nx:=Pv (i+1),ct:=Pv (i+1),bk:=D.nx} σ2 H2)(hd:∀σ H,Pv xs.length σ H→D.nx σ H):
  ∃W:Nat→Nat→St→Hp→Prop,(∃m,W 0 m σ H)∧∀i m σ H,W i m σ H →
   ((Itl K a).stop i H∧D.nx σ H)∨((Itl K a).go i H∧∃N:St→Hp→Prop,(∀σ' H',N σ' H'→∃m',m'<m∧W (i+1) m' σ' H')∧∀x H',(Itl K a).yld i H x H'→g x σ H' λσ2 H2=>tb {D with nx:=N,ct:=N,bk:=D.nx} σ2 H2):=by
 refine⟨λi m σ H=>m=xs.length-i∧i≤xs.length∧Pv i σ H,⟨xs.length,by simp,zero_le _,h0⟩,?_⟩;rintro i m σ H ⟨rfl,hi,p⟩;have q:=hl i σ H hi p
 by_cases hlt:i<xs.length
 ·refine .inr ⟨⟨xs,xs[i],q,by simp[hlt]⟩,Pv (i+1),λσ' H' p'=>⟨xs.length-(i+1),by omega,rfl,hlt,p'⟩,λx H' y=>?_⟩;obtain⟨e,y⟩:=y;subst e;exact hs i x σ _ (y xs q) p
 ·have e:i=xs.length:=by omega
  subst e;exact .inl ⟨⟨xs,q,le_refl _⟩,hd σ H p⟩
theorem iC{K:PySem.W.Frag}{a:Addr}{xs:List V}{g:TG}{tb:TS}{D:Ends}{σ:St}{H:Hp}(Pv:Nat→St→Hp→Prop)(h0:Pv 0 σ H)(hl:∀i σ H,i≤xs.length→Pv i σ H→SqT K H a xs)(hs:∀i x σ H,xs[i]?=some x→Pv i σ H→g x σ H λσ2 H2=>tb {D with nx:=Pv (i+1),ct:=Pv (i+1),bk:=D.nx} σ2 H2)(hd:∀σ H,Pv xs.length σ H→D.nx σ H):
  ∃W:Nat→Nat→St→Hp→Prop,(∃m,W 0 m σ H)∧∀i m σ H,W i m σ H →
   ((Itt K a).stop i H∧D.nx σ H)∨((Itt K a).go i H∧∃N:St→Hp→Prop,(∀σ' H',N σ' H'→∃m',m'<m∧W (i+1) m' σ' H')∧∀x H',(Itt K a).yld i H x H'→g x σ H' λσ2 H2=>tb {D with nx:=N,ct:=N,bk:=D.nx} σ2 H2):=by
 refine⟨λi m σ H=>m=xs.length-i∧i≤xs.length∧Pv i σ H,⟨xs.length,by simp,zero_le _,h0⟩,?_⟩;rintro i m σ H ⟨rfl,hi,p⟩;have q:=hl i σ H hi p
 by_cases hlt:i<xs.length
 ·refine .inr ⟨⟨xs,xs[i],q,by simp[hlt]⟩,Pv (i+1),λσ' H' p'=>⟨xs.length-(i+1),by omega,rfl,hlt,p'⟩,λx H' y=>?_⟩;obtain⟨e,y⟩:=y;subst e;exact hs i x σ _ (y xs q) p
 ·have e:i=xs.length:=by omega
  subst e;exact .inl ⟨⟨xs,q,le_refl _⟩,hd σ H p⟩
theorem qe{lo:Int}{n:Nat}{g:TG}{tb:TS}{D:Ends}{σ:St}{H:Hp}(Pv:Nat→St→Hp→Prop)(h0:Pv 0 σ H)(hs:∀i σ H,i<n→Pv i σ H→g (.int (lo+i)) σ H λσ2 H2=>tb {D with nx:=Pv (i+1),ct:=Pv (i+1),bk:=D.nx} σ2 H2)(hd:∀σ H,Pv n σ H→D.nx σ H):
  ∃W:Nat→Nat→St→Hp→Prop,(∃m,W 0 m σ H)∧∀i m σ H,W i m σ H →
   ((Itr lo n).stop i H∧D.nx σ H)∨((Itr lo n).go i H∧∃N:St→Hp→Prop,(∀σ' H',N σ' H'→∃m',m'<m∧W (i+1) m' σ' H')∧∀x H',(Itr lo n).yld i H x H'→g x σ H' λσ2 H2=>tb {D with nx:=N,ct:=N,bk:=D.nx} σ2 H2):=by
 refine⟨λi m σ H=>m=n-i∧i≤n∧Pv i σ H,⟨n,by simp,zero_le _,h0⟩,?_⟩;rintro i m σ H ⟨rfl,hi,p⟩
 by_cases hlt:i<n
 ·refine .inr ⟨hlt,Pv (i+1),λσ' H' p'=>⟨n-(i+1),by omega,rfl,hlt,p'⟩,λx H' y=>?_⟩;obtain⟨e,y⟩:=y;subst e y;exact hs i σ _ hlt p
 ·have e:i=n:=by omega
  subst e;exact .inl ⟨le_refl _,hd σ H p⟩
theorem fX{c:TT}{tb:TS}{D:Ends}{σ:St}{H:Hp}(Pv:St→Hp→Prop)(μ:St→Hp→Nat)(h0:Pv σ H)(hs:∀σ H,Pv σ H→c σ H λb H1=>if b=true then tb {D with nx:=λσ' H'=>Pv σ' H'∧μ σ' H'<μ σ H,ct:=λσ' H'=>Pv σ' H'∧μ σ' H'<μ σ H,bk:=D.nx} σ H1 else D.nx σ H1)(mono:∀σ H Q Q',(∀b H1,Q b H1→Q' b H1)→c σ H Q→c σ H Q'):qZ c tb D σ H:=by
 refine⟨λm σ H=>m=μ σ H∧Pv σ H,⟨_,rfl,h0⟩,?_⟩;rintro m σ H ⟨rfl,p⟩;refine mono σ H _ _ (λb H1 q=>?_) (hs σ H p);cases b with
 |true=>exact⟨_,λσ' H' ⟨p',l⟩=>⟨_,l,rfl,p'⟩,q⟩
 |false=>exact q
abbrev R2:=V→V→Hp→VK→Prop
def OpR(X:Cx)(f:Value→Value→Sem Value)(r:R2):Prop :=
 ∀(pins:List (Addr×Obj))(s:Shared)(σ:St)(H:Hp)(x y:V)(v u:Value)(Q:VK),Inv X pins σ H s→aB x v→aB y u→r x y H Q →
  wpAny (model X.prog X.w) X.A (f v u) (EP X pins σ Q) X.xe s
def cq(X:Cx)(f:Value)(r:List V→Hp→VK→Prop):Prop :=
 ∀(pins:List (Addr×Obj))(s:Shared)(σ:St)(H:Hp)(xs:List V)(us:List Value)(Q:VK),Inv X pins σ H s→ar xs us→r xs H Q →
  wpAny (model X.prog X.w) X.A (call f us) (EP X pins σ Q) X.xe s
def yR(X:Cx)(r:V→Hp→(Bool→Hp→Prop)→Prop):Prop :=
 ∀(pins:List (Addr×Obj))(s:Shared)(σ:St)(H:Hp)(x:V)(v:Value)(Q:Bool→Hp→Prop),Inv X pins σ H s→aB x v→r x H Q →
  wpAny (model X.prog X.w) X.A (truthy v) (TP X pins σ Q) X.xe s
def tOp(r:R2)(ta tb:TE):TE:=λσ H Q=>ta σ H λx H1=>tb σ H1 λy H2=>r x y H2 Q
def rI(C:Int→Int→Prop)(g:Int→Int→V):R2:=λx y H Q=>∃i j,x=.int i∧y=.int j∧C i j∧Q (g i j) H
def rI0(g:Int→Int→V):R2:=λx y H Q=>∃i j,x=.int i∧y=.int j∧Q (g i j) H
section
variable{X:Cx}{a b c:Expr}{ta tb tc:TE}{pos:Pos}
theorem wa(ha:PE X a ta)(hb:PE X b tb){pins:List (Addr×Obj)}{s:Shared}{σ:St}{H:Hp}{R:V→V→Hp→Prop}(I:Inv X pins σ H s)(h:ta σ H λx H1=>tb σ H1 λy H2=>R x y H2){Q:Value→Shared→Prop}{f:Value→Value→Sem Value}(hf:∀v u s2 x y H2,Inv X pins σ H2 s2→aB x v→aB y u→R x y H2→wpAny (model X.prog X.w) X.A (f v u) Q X.xe s2):
  wpAny (model X.prog X.w) X.A (eval a X.env) (λv s₁=>wpAny (model X.prog X.w) X.A (eval b X.env) (λu s₂=>wpAny (model X.prog X.w) X.A (f v u) Q X.xe s₂) X.xe s₁) X.xe s:=by
 refine thn (ha pins s σ H _ I h) λv s1 hpt=>?_;obtain⟨x,H1,I1,r1,q1⟩:=hpt;refine thn (hb pins s1 σ H1 _ I1 q1) λu s2 hpt=>?_;obtain⟨y,H2,I2,r2,q2⟩:=hpt;exact hf v u s2 x y H2 I2 r1 r2 q2
theorem aQ{op:Operator}{r:R2}(ho:OpR X (binaryOp op) r)(ha:PE X a ta)(hb:PE X b tb):PE X (.BinOp a op b pos) (tOp r ta tb):=by
 intro pins s σ H Q I h;exact wpAny_BinOp (wa ha hb I h λv u s2 x y H2 I2 rx ry q=>ho pins s2 σ H2 x y v u Q I2 rx ry q)
theorem opI{f:Value→Value→Sem Value}{C:Int→Int→Prop}{g:Int→Int→Int}(rule:∀(i j:Int) (t u:Tok) (s:Shared) (Q:Value→Shared→Prop) (E:Value→Shared→Prop),C i j→Q (.int (g i j) s.toks) {s with toks:=s.toks+1}→wpAny (model X.prog X.w) X.A (f (.int i t) (.int j u)) Q E s):
  OpR X f (rI C λi j=>.int (g i j)):=by
 intro pins s σ H x y v u Q I rx ry h;obtain⟨i,j,rfl,rfl,hc,q⟩:=h;obtain⟨t,rfl⟩:=rx;obtain⟨t',rfl⟩:=ry;exact rule i j t t' s _ _ hc ⟨.int (g i j),H,I.tok _,⟨_,rfl⟩,q⟩
theorem yS{f:Value→Value→Sem Value}{g:Int→Int→Int}(rule:∀(i j:Int) (t u:Tok) (s:Shared) (Q:Value→Shared→Prop) (E:Value→Shared→Prop),Q (.int (g i j) s.toks) {s with toks:=s.toks+1}→wpAny (model X.prog X.w) X.A (f (.int i t) (.int j u)) Q E s):
  OpR X f (rI0 λi j=>.int (g i j)):=by
 intro pins s σ H x y v u Q I rx ry h;obtain⟨i,j,rfl,rfl,q⟩:=h;obtain⟨t,rfl⟩:=rx;obtain⟨t',rfl⟩:=ry;exact rule i j t t' s _ _ ⟨.int (g i j),H,I.tok _,⟨_,rfl⟩,q⟩
theorem xN{f:Value→Value→Sem Value}{g:Int→Int→Bool}(rule:∀(i j:Int) (t u:Tok) (s:Shared) (Q:Value→Shared→Prop) (E:Value→Shared→Prop),Q (.bool (g i j)) s→wpAny (model X.prog X.w) X.A (f (.int i t) (.int j u)) Q E s):
  OpR X f (rI0 λi j=>.bl (g i j)):=by
 intro pins s σ H x y v u Q I rx ry h;obtain⟨i,j,rfl,rfl,q⟩:=h;obtain⟨t,rfl⟩:=rx;obtain⟨t',rfl⟩:=ry;exact rule i j t t' s _ _ ⟨.bl (g i j),H,I,rfl,q⟩
def yT(i j:Int):Prop:=0<j∧j<1073741824
def wb(i j:Int):Prop:=(-(2 ^ 64)<i∧i<2 ^ 64)∨(-(2 ^ 64)<j∧j<2 ^ 64)
theorem wb.ok{i j:Int}(h:wb i j):IntMulOk i j:=by
 rcases h with⟨h1,h2⟩|⟨h1,h2⟩
 ·exact .of_left (intBits_le_64 h1 h2)
 ·exact .of_right (intBits_le_64 h1 h2)
theorem bw:OpR X (binaryOp .Add) (rI0 λi j=>.int (i+j)):=yS λ_ _ _ _ _ _ _ q=>add_int q
theorem dJ:OpR X (binaryOp .Mult) (rI wb λi j=>.int (i*j)):=opI λ_ _ _ _ _ _ _ hc q=>mul_int q hc.ok
theorem tV:OpR X (binaryOp .FloorDiv) (rI yT λi j=>.int (i / j)):=opI λi j _ _ _ _ _ hc q=>by
 have h1:(0:Int)<j:=hc.1;have h2:j<1073741824:=hc.2;exact floordiv_int (by omega) (by rw[Int.fdiv_eq_ediv_of_nonneg i (by omega)];exact q) (.inl (PyProof.noPylong_small (by omega)))
theorem ku:OpR X (binaryOp .Mod) (rI (λ_ j=>0<j) λi j=>.int (i % j)):=opI λi j _ _ _ _ _ hc q=>by
 have h1:(0:Int)<j:=hc;exact mod_int' (by omega) (by rw[Int.fmod_eq_emod_of_nonneg i (by omega)];exact q)
end
def xO:V→V→Bool
 |.non,.non=>true | .non,.int _=>true | .int _,.non=>true | .non,.bl _=>true | .bl _,.non=>true | .non,.str _=>true | .str _,.non=>true
 |.int _,.int _=>true | .bl _,.bl _=>true | .str _,.str _=>true | .byt _,.byt _=>true
 |.int _,.str _=>true | .str _,.int _=>true | .bl _,.str _=>true | .str _,.bl _=>true
 |_,_=>false
def rEq:R2:=λx y H Q=>xO x y=true∧Q (.bl (decide (x=y))) H
def rNe:R2:=λx y H Q=>xO x y=true∧Q (.bl (!decide (x=y))) H
theorem oN{i j:Int}:decide (V.int i=V.int j)=(i==j):=by
 rw[Bool.eq_iff_iff];simp
theorem rc{i j:Bool}:decide (V.bl i=V.bl j)=(i==j):=by
 rw[Bool.eq_iff_iff];simp
theorem oO{i j:Str}:decide (V.str i=V.str j)=(i==j):=by
 rw[Bool.eq_iff_iff];simp
theorem oP{i j:Array UInt8}:decide (V.byt i=V.byt j)=(i.toList==j.toList):=by
 rw[Bool.eq_iff_iff];cases i;cases j;simp
section
variable{X:Cx}{a b c:Expr}{ta tb tc:TE}{pos:Pos}
theorem aJ{pins:List (Addr×Obj)}{σ:St}{H:Hp}{s:Shared}{Q:VK}{k k':Bool}(I:Inv X pins σ H s)(q:Q (.bl k) H)(e:k=k'):EP X pins σ Q (.bool k') s:=by
 subst e;exact⟨.bl k,H,I,rfl,q⟩
theorem eD:OpR X (compareOp .Eq) rEq:=by
 intro pins s σ H x y v u Q I rx ry h;obtain⟨hs,q⟩:=h;cases x with
 |non =>
  cases rx;cases y with
  |non=>cases ry;exact PySem.EqNone.eq_none_none (aJ I q (by simp))
  |bl j=>cases ry;exact PySem.EqNone.eq_none_bool (aJ I q (by simp))
  |int j=>obtain⟨t',rfl⟩:=ry;exact PySem.EqNone.eq_none_int (aJ I q (by simp))
  |str j=>obtain⟨t',rfl⟩:=ry;exact PySem.EqNone.eq_none_str (aJ I q (by simp))
  |_=>exact absurd (show false=true from hs) Bool.false_ne_true
 |bl i =>
  cases rx;cases y with
  |non=>cases ry;exact PySem.EqNone.eq_bool_none (aJ I q (by simp))
  |bl j=>cases ry;exact eq_bool (aJ I q rc)
  |str j=>obtain⟨t',rfl⟩:=ry;exact PySem.EqMixed.eq_bool_str (aJ I q (by simp))
  |_=>exact absurd (show false=true from hs) Bool.false_ne_true
 |int i =>
  obtain⟨t,rfl⟩:=rx;cases y with
  |non=>cases ry;exact PySem.EqNone.eq_int_none (aJ I q (by simp))
  |int j=>obtain⟨t',rfl⟩:=ry;exact eq_int (aJ I q oN)
  |str j=>obtain⟨t',rfl⟩:=ry;exact PySem.EqMixed.eq_int_str (aJ I q (by simp))
  |_=>exact absurd (show false=true from hs) Bool.false_ne_true
 |str i =>
  obtain⟨t,rfl⟩:=rx;cases y with
  |non=>cases ry;exact PySem.EqNone.eq_str_none (aJ I q (by simp))
  |bl j=>cases ry;exact PySem.EqMixed.eq_str_bool (aJ I q (by simp))
  |int j=>obtain⟨t',rfl⟩:=ry;exact PySem.EqMixed.eq_str_int (aJ I q (by simp))
  |str j=>obtain⟨t',rfl⟩:=ry;exact eq_str (aJ I q oO)
  |_=>exact absurd (show false=true from hs) Bool.false_ne_true
 |byt i =>
  obtain⟨t,rfl⟩:=rx;cases y with
  |byt j=>obtain⟨t',rfl⟩:=ry;exact PySem.W.eq_bytes (aJ I q oP)
  |_=>exact absurd (show false=true from hs) Bool.false_ne_true
 |_=>cases y<;>exact absurd (show false=true from hs) Bool.false_ne_true
theorem fY:OpR X (compareOp .NotEq) rNe:=by
 intro pins s σ H x y v u Q I rx ry h;obtain⟨hs,q⟩:=h;cases x with
 |non =>
  cases rx;cases y with
  |non=>cases ry;exact PySem.EqNone.ne_none_none (aJ I q (by simp))
  |bl j=>cases ry;exact PySem.EqNone.ne_none_bool (aJ I q (by simp))
  |int j=>obtain⟨t',rfl⟩:=ry;exact PySem.EqNone.ne_none_int (aJ I q (by simp))
  |str j=>obtain⟨t',rfl⟩:=ry;exact PySem.EqNone.ne_none_str (aJ I q (by simp))
  |_=>exact absurd (show false=true from hs) Bool.false_ne_true
 |bl i =>
  cases rx;cases y with
  |non=>cases ry;exact PySem.EqNone.ne_bool_none (aJ I q (by simp))
  |bl j=>cases ry;exact ne_bool (aJ I q (congrArg not rc))
  |str j=>obtain⟨t',rfl⟩:=ry;exact PySem.EqMixed.ne_bool_str (aJ I q (by simp))
  |_=>exact absurd (show false=true from hs) Bool.false_ne_true
 |int i =>
  obtain⟨t,rfl⟩:=rx;cases y with
  |non=>cases ry;exact PySem.EqNone.ne_int_none (aJ I q (by simp))
  |int j=>obtain⟨t',rfl⟩:=ry;exact ne_int (aJ I q (congrArg not oN))
  |str j=>obtain⟨t',rfl⟩:=ry;exact PySem.EqMixed.ne_int_str (aJ I q (by simp))
  |_=>exact absurd (show false=true from hs) Bool.false_ne_true
 |str i =>
  obtain⟨t,rfl⟩:=rx;cases y with
  |non=>cases ry;exact PySem.EqNone.ne_str_none (aJ I q (by simp))
  |bl j=>cases ry;exact PySem.EqMixed.ne_str_bool (aJ I q (by simp))
  |int j=>obtain⟨t',rfl⟩:=ry;exact PySem.EqMixed.ne_str_int (aJ I q (by simp))
  |str j=>obtain⟨t',rfl⟩:=ry;exact ne_str (aJ I q (congrArg not oO))
  |_=>exact absurd (show false=true from hs) Bool.false_ne_true
 |byt i =>
  obtain⟨t,rfl⟩:=rx;cases y with
  |byt j=>obtain⟨t',rfl⟩:=ry;exact PySem.W.ne_bytes (aJ I q (congrArg not oP))
  |_=>exact absurd (show false=true from hs) Bool.false_ne_true
 |_=>cases y<;>exact absurd (show false=true from hs) Bool.false_ne_true
theorem vC:OpR X (compareOp .Lt) (rI0 λi j=>.bl (decide (i<j))):=xN λ_ _ _ _ _ _ _ q=>lt_int q
theorem vD:OpR X (compareOp .Gt) (rI0 λi j=>.bl (decide (j<i))):=xN λ_ _ _ _ _ _ _ q=>gt_int q
theorem gO:OpR X (compareOp .Is) (λx y H Q=>y=.non∧Q (.bl (decide (x=.non))) H):=by
 intro pins s σ H x y v u Q I rx ry h;obtain⟨rfl,q⟩:=h;cases ry;refine is_none_gen (aJ I q ?_);cases x<;>first
  |(cases rx;rfl)
  |(obtain⟨t,rfl⟩:=rx;rfl)
theorem kx:OpR X (compareOp .IsNot) (λx y H Q=>y=.non∧Q (.bl (!decide (x=.non))) H):=by
 intro pins s σ H x y v u Q I rx ry h;obtain⟨rfl,q⟩:=h;cases ry;refine isnot_none_gen (aJ I q ?_);cases x<;>first
  |(cases rx;rfl)
  |(obtain⟨t,rfl⟩:=rx;rfl)
theorem OpR.or{f:Value→Value→Sem Value}{r r':R2}(h:OpR X f r)(h':OpR X f r'):OpR X f (λx y H Q=>r x y H Q∨r' x y H Q):=by
 intro pins s σ H x y v u Q I rx ry q;rcases q with q|q
 ·exact h pins s σ H x y v u Q I rx ry q
 ·exact h' pins s σ H x y v u Q I rx ry q
theorem aC(b:Expr){op:CmpOp}(h:op≠.In:=by decide)(h2:op≠.NotIn:=by decide):behindInMarks op b=false:=by
 have e1:(op==CmpOp.In)=false:=by cases op<;>first|rfl|exact absurd rfl h
 have e2:(op==CmpOp.NotIn)=false:=by cases op<;>first|rfl|exact absurd rfl h2
 cases b<;>simp[behindInMarks,e1,e2]
theorem iD{op:CmpOp}{r:R2}(ho:OpR X (compareOp op) r)(ha:PE X a ta)(hb:PE X b tb)(hm:behindInMarks op b=false):PE X (.Compare a [op] [b] pos) (tOp r ta tb):=by
 intro pins s σ H Q I h;exact wpAny_Compare1 (wa ha hb I h λv u s2 x y H2 I2 rx ry q=>ho pins s2 σ H2 x y v u Q I2 rx ry q) hm
def xP(t:TE):TT:=λσ H Q=>t σ H λx H'=>∃k,x=.bl k∧Q k H'
theorem au{op:CmpOp}{r:R2}(ho:OpR X (compareOp op) r)(ha:PE X a ta)(hb:PE X b tb)(hm:behindInMarks op b=false):PT X (.Compare a [op] [b] pos) (xP (tOp r ta tb)):=by
 intro pins s σ H Q I h;refine wpAny_isTrue_Compare1 (thn (ha pins s σ H _ I h) λv s1 ⟨x,H1,I1,r1,q1⟩=>thn (hb pins s1 σ H1 _ I1 q1) λu s2 ⟨y,H2,I2,r2,q2⟩ =>
  thn (ho pins s2 σ H2 x y v u _ I2 r1 r2 q2) λc s3 ⟨z,H3,I3,r3,k,e,q3⟩=>?_) hm
 subst e;cases r3;exact wpAny_truthy_bool ⟨H3,I3,q3⟩
def wc(K:PySem.W.Frag)(x:V)(H:Hp)(k:Bool):Prop :=
 match x with
 |.non=>k=false
 |.bl b=>k=b
 |.int i=>k=(i != 0)
 |.str y=>y.length≤sizeLine∧k=((y.length:Int) != 0)
 |.byt y=>y.size≤sizeLine∧k=((y.size:Int) != 0)
 |.ref p=>(∃xs,SqL K H p xs∧k = !xs.isEmpty)∨(∃xs,SqT K H p xs∧k = !xs.isEmpty)∨∃kvs,H p=some (.dK kvs)∧k = !kvs.isEmpty
 |_=>False
theorem nO{κ:Type}{kvs:List (κ×V)}{vs:List (κ×Value)}(r:KV kvs vs):(!vs.isEmpty) = !kvs.isEmpty:=by
 cases r<;>rfl
theorem iO{xs:List V}{its:List Value}(r:ar xs its):(!its.toArray.isEmpty) = !xs.isEmpty:=by
 cases r<;>simp
theorem ky:(sizeLine:Nat)<2 ^ 63:=by rw[sizeLine_eq];decide
theorem we:yR X (λx H Q=>∃k,wc X.K x H k∧Q k H):=by
 intro pins s σ H x v Q I rx h;obtain⟨k,e,q⟩:=h;have hl:=ky;have hs:sizeLine=16777216:=sizeLine_eq;cases x with
 |non =>
  cases rx;have e':k=false:=e;subst e';exact truthy_none ⟨H,I,q⟩
 |bl b =>
  cases rx;have e':k=b:=e;subst e';exact wpAny_truthy_bool ⟨H,I,q⟩
 |int i =>
  obtain⟨t,rfl⟩:=rx;have e':k=(i != 0):=e;subst e';exact PySem.P.truthy_int ⟨H,I,q⟩
 |str y =>
  obtain⟨t,rfl⟩:=rx;obtain⟨hy,e'⟩:y.length≤sizeLine∧k=((y.length:Int) != 0):=e;subst e';exact PySem.P.truthy_str (by omega) ⟨H,I.tok _,q⟩
 |byt y =>
  obtain⟨t,rfl⟩:=rx;obtain⟨hy,e'⟩:y.size≤sizeLine∧k=((y.size:Int) != 0):=e;subst e';exact PySem.W.truthy_bytes (by omega) ⟨H,I.tok _,q⟩
 |ref p =>
  cases rx;have e':(∃xs,SqL X.K H p xs∧k = !xs.isEmpty)∨(∃xs,SqT X.K H p xs∧k = !xs.isEmpty)∨∃kvs,H p=some (.dK kvs)∧k = !kvs.isEmpty:=e;rcases e' with⟨xs,hx,e'⟩|⟨xs,hx,e'⟩|⟨kvs,hx,e'⟩
  ·subst e';obtain⟨its,r,pl,hz⟩:=I.list hx;have hlen:=r.length;exact wpAny_truthy_list pl.isList (by simp only[size_toArray];omega) ⟨H,I.tok _,by rw[iO r];exact q⟩
  ·subst e';obtain⟨its,r,pl,hz⟩:=I.tuple hx;have hlen:=r.length;exact truthy_tuple pl (by simp only[size_toArray];omega) ⟨H,I.tok _,by rw[iO r];exact q⟩
  ·subst e';obtain⟨hz,hS,vs,r,m⟩:kvs.length≤sizeLine∧(p==sysModules)=false∧∃vs,KV kvs vs∧s.heap.DictOf (ap X.prog X.w) p vs:=I.hok p _ hx;have hlen:kvs.length=vs.length:=Paired.length r;exact wpAny_truthy_dict hS m (by omega) ⟨H,I.tok _,by rw[nO r];exact q⟩
 |_=>exact(show False from e).elim
theorem lL(ha:PE X a ta)(he:∀whole,isTrue a X.env whole=(do let v ← whole;standAt a.pos;holding [v] (truthy v))):
  PT X a (λσ H Q=>ta σ H λx H'=>∃k,wc X.K x H' k∧Q k H'):=by
 intro pins s σ H Q I h;exact isTrue_plain (thn (ha pins s σ H _ I h) λv s1 ⟨x,H1,I1,r1,q1⟩=>we pins s1 σ H1 x v Q I1 r1 q1) (he _)
theorem cE{x:V}{us:List Value}(r:ar [x] us):∃u,us=[u]∧aB x u:=by
 cases r with
 |cons r1 r2=>cases r2;exact⟨_,rfl,r1⟩
theorem xQ{x y:V}{us:List Value}(r:ar [x,y] us):∃u w',us=[u,w']∧aB x u∧aB y w':=by
 cases r with
 |cons r1 r2 =>
  cases r2 with
  |cons r3 r4=>cases r4;exact⟨_,_,rfl,r1,r3⟩
end
section
variable{prog:Program}{w:World}{A:Around}{E:Value→Shared→Prop}{s:Shared}{K:PySem.W.Frag}{x dx C f:Addr}{mA:Str→Option Value}{name:Str}{v:Value}
end
theorem fi.some_of{v:V}{o:Option Value}(r:fi (some v) o):∃u,o=some u∧aB v u:=by
 cases o with
 |none=>exact(show False from r).elim
 |some u=>exact⟨u,rfl,r⟩
theorem fi.none_of{o:Option Value}(r:fi none o):o=none:=by
 cases o with
 |none=>rfl
 |some u=>exact(show False from r).elim
section
variable{P:Program}{w:World}{H H':Hp}{h h':Heap}{a C dx:Addr}{fs fs':List (Str×V)}
end
section
variable{X:Cx}{pins:List (Addr×Obj)}{σ:St}{H:Hp}{s:Shared}{a C dx:Addr}{fs:List (Str×V)}{f:Str}{v:V}{A:Around}{E:Value→Shared→Prop}
end
section
variable{X:Cx}{o e value:Expr}{f:Str}{pos pos' tpos:Pos}{ta tv:TE}
end
section
variable{X:Cx}{pins:List (Addr×Obj)}{σ:St}{H:Hp}{s:Shared}{A:Around}{E:Value→Shared→Prop}{Q:Value→Shared→Prop}{c:Value}{b:Bool}
end
structure Room(k:Nat)(A:Around):Prop where
 hd:A.handled=none
 dp:A.depth+3*k+5<recursionLimit
 un:A.units+16*k+200<cLine
 gd:A.guards=some []
theorem Room.mono{j k:Nat}{A:Around}(r:Room k A)(h:j≤k):Room j A:=⟨r.hd,by have:=r.dp;omega,by have:=r.un;omega,r.gd⟩
theorem Room.deeper{k:Nat}{A:Around}(r:Room (k+1) A)(env:Env):Room k (A.deeper env) :=
 ⟨r.hd,by have:=r.dp;show A.depth+1+3*k+5<_;omega,by have:=r.un;show A.units+3+16*k+200<_;omega,r.gd⟩
theorem Room.in1{k:Nat}{A:Around}(r:Room (k+1) A):Room k A.in1 :=
 ⟨r.hd,by have:=r.dp;show A.depth+3*k+5<_;omega,by have:=r.un;show A.units+1+16*k+200<_;omega,r.gd⟩
theorem Room.depth{k:Nat}{A:Around}(r:Room k A):A.depth<recursionLimit:=by have:=r.dp;omega
theorem Room.units{k:Nat}{A:Around}(r:Room k A):A.units+64<cLine:=by have:=r.un;omega
theorem Room.units0{k:Nat}{A:Around}(r:Room k A):A.units<cLine:=by have:=r.un;omega
def iP:TA:=λ_ H Q=>Q [] H
def ca(ta:TE)(tr:TA):TA:=λσ H Q=>ta σ H λx H1=>tr σ H1 λxs H2=>Q (x::xs) H2
section
variable{X:Cx}{e:Expr}{es:List Expr}{te:TE}{t:TA}{pos:Pos}
theorem ag:PA X [] iP:=λ_ _ _ _ H Q I h=>spliced_nil ⟨[],H,I,.nil,h⟩
theorem aa(ha:PE X e te)(hr:PA X es t)(hs:starEach (e::es) X.env=(false,eval e X.env)::starEach es X.env:=by rfl):PA X (e::es) (ca te t):=by
 intro pos pins s σ H Q I h;rw[hs];show wpAny _ _ (spliced ((false,eval e X.env)::backTo pos (starEach es X.env))) _ _ s;refine spliced_cons (thn (ha pins s σ H _ I h) λu s1 hpt=>?_);obtain⟨x,H1,I1,r1,q1⟩:=hpt;exact thn (hr pos pins s1 σ H1 _ I1 q1) λus s2 ⟨xs,H2,I2,r2,q2⟩=>⟨x::xs,H2,I2,.cons r1 r2,q2⟩
def xR(t:TA):TE:=λσ H Q=>t σ H λxs H1=>xs.length≤sizeLine∧∀p,H1 p=none→Q (.ref p) (upd H1 p (.tup xs))
def yU(t:TA):TE:=λσ H Q=>t σ H λxs H1=>xs.length≤sizeLine∧∀p,H1 p=none→Q (.ref p) (upd H1 p (.lst xs))
theorem bo{x1}(h:PA X es t):PE X (.Tuple es x1 pos) (xR t):=by
 intro pins s σ H Q I hq;refine wpAny_Tuple_spliced (thn (h pos pins s σ H _ I hq) λus s1 ⟨xs,H1,I1,r,z,q⟩=>⟨by rw[←r.length];exact z,?_⟩);have hf:H1 s1.heap.objs.size=none:=I1.hok.fresh (le_refl _);refine⟨.ref s1.heap.objs.size,upd H1 s1.heap.objs.size (.tup xs),I1.laid (t':=s1.toks) (λb u e=>get?_push_of_some _ e) (le_refl _) ?_,rfl,q _ hf⟩;exact⟨z,us,r,⟨_,get?_push_size _ rfl,rfl,_,rfl⟩⟩
theorem bq(h:PA X es t):PE X (.List es pos) (yU t):=by
 intro pins s σ H Q I hq;refine wpAny_List_spliced (thn (h pos pins s σ H _ I hq) λus s1 ⟨xs,H1,I1,r,z,q⟩=>⟨by rw[←r.length];exact z,?_⟩);have hf:H1 s1.heap.objs.size=none:=I1.hok.fresh (le_refl _);refine⟨.ref s1.heap.objs.size,upd H1 s1.heap.objs.size (.lst xs),I1.laid (t':=s1.toks) (λb u e=>get?_push_of_some _ e) (le_refl _) ?_,rfl,q _ hf⟩;exact⟨z,us,0,r,get?_push_size _ rfl⟩
end
abbrev Sp:=List V→Hp→VK→XK→Prop
abbrev CXT:=List Env→Hp→Shared→XK→Value→Shared→Prop
structure Env0(P:Program)(w:World)(K:PySem.W.Frag)(mg:Str→Option Value)(base:Heap)(A:Around)(outer:List Env)(s:Shared)(H:Hp):Prop where
 frames:A.frames=some outer
 mod:Mod K mg base
 bs:∀b o,base.get? b=some o→s.heap.get? b=some o∧H b=none
 bsz:base.objs.size≤s.heap.objs.size
 funs:s.heap.FunFrames base outer
 frf:∀b∈frs outer,H b=none
 hok:HOk P w H s.heap
 bare:AllBare s.gens
def CE(outer:List Env)(P:Program)(w:World)(H:Hp)(s:Shared)(Q:VK)(u:Value)(s':Shared):Prop :=
 ∃v H',s'.os=s.os∧AllBare s'.gens∧Un (frs outer) [] H H' s.heap s'.heap∧HOk P w H' s'.heap∧aB v u∧Q v H'
def CR(CX:CXT)(outer:List Env)(P:Program)(w:World)(H:Hp)(s:Shared)(Q:VK)(E:XK)(r:Result)(s':Shared):Prop :=
 match r with
 |.ok (.ret u)=>CE outer P w H s Q u s'
 |.ok _=>False
 |.error e=>CX outer H s E e s'
structure FnOk(P:Program)(w:World)(K:PySem.W.Frag)(mg:Str→Option Value)(base:Heap)(CX:CXT)(k:Nat)(f:Addr)(fd:FuncData)(ps:List Str)(sp:Sp):Prop where
 len:∀vs H Q E,sp vs H Q E→vs.length=ps.length
 run:∀(A:Around)(outer:List Env)(s:Shared)(H:Hp)(args:Args)(us:List Value)(vs:List V)(Q:VK)(E:XK),Room k A→Env0 P w K mg base A outer s H→BindsTo s fd args (ps.zip us)→ar vs us→sp vs H Q E →
  codeAny (model P w) A (.call (.ref f) args) (CR CX outer P w H s Q E) s
theorem Env0.in1{P:Program}{w:World}{K:PySem.W.Frag}{mg:Str→Option Value}{base:Heap}{A:Around}{outer:List Env}{s:Shared}{H:Hp}(e:Env0 P w K mg base A outer s H):
  Env0 P w K mg base A.in1 outer s H:=⟨e.frames,e.mod,e.bs,e.bsz,e.funs,e.frf,e.hok,e.bare⟩
section
variable{X:Cx}{pins:List (Addr×Obj)}{σ:St}{H:Hp}{s s':Shared}
theorem Inv.env0(I:Inv X pins σ H s):Env0 X.prog X.w X.K X.mg X.base X.A X.stack s H :=
 ⟨I.ok.frames,I.ok.mod,I.bs,le_trans I.ok.bsz I.sz,I.stack,I.stkFree,I.hok,I.bare⟩
theorem Inv.after{Q:VK}{u:Value}(I:Inv X pins σ H s)(h:CE X.stack X.prog X.w H s Q u s'):EP X pins σ Q u s':=by
 obtain⟨v,H',os,bare,un,hok,r,q⟩:=h;obtain⟨hh,g,d,t,os'⟩:=s';obtain rfl:os'=s.os:=os;exact⟨v,H',I.call (h':=hh) (g':=g) (d':=d) (t':=t) (ch:=[]) un hok bare (λb z=>absurd z (by simp)),r,q⟩
end
def lM(sp:Sp)(dvs:List V)(E:XK)(t:TA):TE:=λσ H Q=>t σ H λvs H1=>sp (vs++dvs) H1 Q E
def cb(K:PySem.W.Frag)(fd:FuncData)(ps:List Str)(ds:List Value):Prop :=
 ∀(s:Shared)(us:List Value),K.In s.heap→(us++ds).length=ps.length→BindsTo s fd ⟨us,[]⟩ (ps.zip (us++ds))
theorem cb.all{K:PySem.W.Frag}{fd:FuncData}{ps:List Str}(h:∀us:List Value,us.length=ps.length→bindArgs fd ⟨us,[]⟩=pure (ps.zip us)):cb K fd ps []:=λs us _ hl=>by
 rw[append_nil]at hl⊢;exact .of_eq (h us hl)
def iQ(CX:CXT)(X:Cx)(E:XK):Prop:=∀(pins:List (Addr×Obj))(σ:St)(H:Hp)(s:Shared)(e:Value)(s':Shared),Inv X pins σ H s→CX X.stack H s E e s'→X.xe e s'
section
variable{X:Cx}{CX:CXT}{k:Nat}{f C:Addr}{fd:FuncData}{ps:List Str}{sp:Sp}{dvs:List V}{ds:List Value}{E:XK}{x m:Str}{p pos apos:Pos}{e o:Expr}{es:List Expr}{ta:TE}{t:TA}
theorem wf{pins:List (Addr×Obj)}{σ:St}{H:Hp}{s:Shared}{Q:VK}{us:List Value}{vs:List V}(F:FnOk X.prog X.w X.K X.mg X.base CX k f fd ps sp)(hr:Room k X.A)(hb:cb X.K fd ps ds)(hd:ar dvs ds)(hx:iQ CX X E)(I:Inv X pins σ H s)(r:ar vs us)(h:sp (vs++dvs) H Q E):wpAny (model X.prog X.w) X.A (call (.ref f) us) (EP X pins σ Q) X.xe s:=by
 have r2:ar (vs++dvs) (us++ds):=r.append hd;have hl:(us++ds).length=ps.length:=by rw[←r2.length];exact F.len _ _ _ _ h
 refine wpAny_call (codeAny_mono (F.run X.A X.stack s H ⟨us,[]⟩ (us++ds) (vs++dvs) Q E hr I.env0 (hb s us I.kIn hl) r2 h) λr s' hq=>?_);cases r with
 |error e=>exact hx pins σ H s e s' I hq
 |ok fl =>
  cases fl with
  |ret u=>exact I.after hq
  |next=>exact False.elim hq
  |brk=>exact False.elim hq
  |cont=>exact False.elim hq
theorem am(F:FnOk X.prog X.w X.K X.mg X.base CX k f fd ps sp)(hr:Room k X.A)(hg:Gl X x)(hm:X.mg x=some (.ref f))(hk:keepIn X.K (.ref f)=true)(hb:cb X.K fd ps ds)(hd:ar dvs ds)(hx:iQ CX X E)(ha:PA X (e::es) t)(hdb:(x==("__debug__":Str))=false:=by decide)(he:starEach (e::es) X.env=(false,eval e X.env)::starEach es X.env:=by rfl)(hpl:(backTo pos (starEach es X.env)).any (·.1)=false:=by rfl):
  PE X (.Call (.Name x p) (e::es) [] pos) (lM sp dvs E t):=by
 intro pins s σ H Q I h;refine wpAny_Call_Name_kw (kq I hg hm ?_ hdb);refine PySem.W.callWith_K (h₀:=X.base) I.ok.mod.kin hk (thn (ha pos pins s σ H _ I h) λus s1 ⟨vs,H1,I1,r,q⟩=>⟨I1.kIn,?_⟩) he hpl;exact wf F hr hb hd hx I1 r q
end
section
variable{X:Cx}{CX:CXT}{k:Nat}{f C:Addr}{fd:FuncData}{ps ks:List Str}{sp:Sp}{E:XK}{x m:Str}{p pos apos kpos:Pos}{e o:Expr}{es:List Expr}{kws:List Keyword}{te ta:TE}{t tk:TA}{nm:Option Str}
variable{g:List Value→List Value→List Value}{gV:List V→List V→List V}
end
structure FnScope(N P:List Str)(sc:Scope):Prop where
 kind:sc.kind=.function
 co:sc.isCoroutine=false
 gen:sc.isGenerator=false
 nd:N.Nodup
 pre:N.take P.length=P
 par:∀x∈P,sc.names.lookup x=some .local∨sc.names.lookup x=some .cell
 nofree:∀y∈sc.names,y.2≠.free
theorem fsM{N P:List Str}{c:Scope}(a:c.kind=.function:=by rfl)(b:c.isCoroutine=false:=by rfl)(d:c.isGenerator=false:=by rfl)(e:N.Nodup:=by decide +kernel)(f:N.take P.length=P:=by rfl)(g:∀x∈P,c.names.lookup x=some .local∨c.names.lookup x=some .cell:=by decide +kernel)(h:∀y∈c.names,y.2≠.free:=by decide +kernel):FnScope N P c:=⟨a,b,d,e,f,g,h⟩
theorem jL{kindOf:Str→Option NameKind}{x:Str}:∀{binds:List (Str×Value)}{m:Str→Option Value},(∀v,(x,v)∉binds)→bindL kindOf binds m x=m x
 |[],_,_=>rfl
 |(n,v)::r,m,h=>by
  unfold bindL;rw[jL λw hw=>h w (mem_cons_of_mem _ hw)]
  split
  ·have:x≠n:=by rintro rfl;exact h v mem_cons_self
   simp[this]
  ·rfl
theorem jM{kindOf:Str→Option NameKind}{x:Str}:∀{binds:List (Str×Value)}{m:Str→Option Value},(∀v,(x,v)∉binds)→bindC kindOf binds m x=m x
 |[],_,_=>rfl
 |(n,v)::r,m,h=>by
  unfold bindC;rw[jM λw hw=>h w (mem_cons_of_mem _ hw)]
  split
  ·rfl
  ·have:x≠n:=by rintro rfl;exact h v mem_cons_self
   simp[this]
theorem jN{kindOf:Str→Option NameKind}{x:Str}{v:Value}:∀{P:List Str}{vs:List Value}{i:Nat}{m:Str→Option Value},P.Nodup→P[i]?=some x→vs[i]?=some v→kindOf x=some .local →
  bindL kindOf (P.zip vs) m x=some v
 |[],_,_,_,_,h,_,_=>by simp at h
 |_::_,[],_,_,_,_,h,_=>by simp at h
 |p::P,w::vs,0,m,nd,h1,h2,hk=>by
  simp at h1 h2;subst h1;subst h2;show bindL kindOf ((p,w)::P.zip vs) m p=_;unfold bindL;rw[jL λv hv=>(nodup_cons.mp nd).1 (of_mem_zip hv).1,if_pos hk];simp
 |p::P,w::vs,i+1,m,nd,h1,h2,hk=>by
  show bindL kindOf ((p,w)::P.zip vs) m x=_;unfold bindL;exact jN (i:=i) (nodup_cons.mp nd).2 (by simpa using h1) (by simpa using h2) hk
theorem jO{kindOf:Str→Option NameKind}{x:Str}{v:Value}:∀{P:List Str}{vs:List Value}{i:Nat}{m:Str→Option Value},P.Nodup→P[i]?=some x→vs[i]?=some v→kindOf x≠some .local →
  bindC kindOf (P.zip vs) m x=some v
 |[],_,_,_,_,h,_,_=>by simp at h
 |_::_,[],_,_,_,_,h,_=>by simp at h
 |p::P,w::vs,0,m,nd,h1,h2,hk=>by
  simp at h1 h2;subst h1;subst h2;show bindC kindOf ((p,w)::P.zip vs) m p=_;unfold bindC;rw[jM λv hv=>(nodup_cons.mp nd).1 (of_mem_zip hv).1,if_neg hk];simp
 |p::P,w::vs,i+1,m,nd,h1,h2,hk=>by
  show bindC kindOf ((p,w)::P.zip vs) m x=_;unfold bindC;exact jO (i:=i) (nodup_cons.mp nd).2 (by simpa using h1) (by simpa using h2) hk
def start(N:List Str)(vs:List V):St:=vs.map some++List.replicate (N.length-vs.length) none
def fZ(CX:CXT)(P:Program)(w:World)(K:PySem.W.Frag)(mg:Str→Option Value)(base:Heap)(N:List Str)(qual:Str)(scope:Scope)(f:Addr)(cd:Value)(A:Around)(outer:List Env)(s:Shared)(H:Hp)(E:XK):Cx where
 prog:=P
 w:=w
 K:=K
 mg:=mg
 base:=base
 A:=A.deeper (envOfC qual scope s.heap.objs.size f cd)
 N:=N
 s₀:=s
 H₀:=H
 env:=envOfC qual scope s.heap.objs.size f cd
 outer:=outer
 stack:=envOfC qual scope s.heap.objs.size f cd::outer
 ex:=[]
 calm:=true
 fn:=λ_=>true
 pn:=[]
 xe:=λe s'=>wpAny (model P w) (A.deeper (envOfC qual scope s.heap.objs.size f cd)) (leaving (envOfC qual scope s.heap.objs.size f cd) e) (λ_ s''=>CX outer H s E e s'') (λe' s''=>CX outer H s E e' s'') s'
theorem lN{sc:Scope}{n:Nat}{x:Str}(h:sc.names.lookup x=some .cell):∃c,(cellsFrom n sc.names []).lookup x=some c:=by
 have q:=PySem.W.cellsFrom_some sc.names n [] (.inl h);exact isSome_iff_exists.mp q
theorem qf{CX:CXT}{P:Program}{w:World}{K:PySem.W.Frag}{mg:Str→Option Value}{base:Heap}{N ps:List Str}{qual:Str}{scope:Scope}{f:Addr}{cd:Value}{A:Around}{outer:List Env}{s s1:Shared}{H:Hp}{E:XK}{us:List Value}{vs:List V}(S:FnScope N ps scope)(hd:A.handled=none)(e0:Env0 P w K mg base A outer s H)(hl:vs.length=ps.length)(r:ar vs us)(x:InCallC s s.heap.objs.size (bindL (envOfC qual scope s.heap.objs.size f cd).kindOf (ps.zip us) λ_=>none) (cellsFrom (s.heap.objs.size+1) scope.names []) (bindC (envOfC qual scope s.heap.objs.size f cd).kindOf (ps.zip us) λ_=>none) s1):
  Inv (fZ CX P w K mg base N qual scope f cd A outer s H E) [] (start N vs) H s1:=by
 have hpl:ps.length≤N.length:=by have:=congrArg length S.pre;rw[length_take]at this;omega
 obtain⟨h1,tk,rfl,hk⟩:=x.done;have noA:∀b:Addr,b∉(fZ CX P w K mg base N qual scope f cd A outer s H E).ex:=λb z=>absurd (show b∈([]:List Addr)from z) (by simp);refine⟨⟨e0.mod,S.kind,rfl,rfl,le_refl _,λy z c h1 h2=>?_,λy hy=>?_,λy c _ h=>?_,λ_=>hd,Around.frames_deeper e0.frames,.inr ⟨rfl,rfl⟩,λb z=>absurd z (noA b),e0.bs,e0.bsz,λb _ _=>noA b,λb z=>absurd z (noA b),e0.funs,e0.frf⟩,
  rfl,e0.bare,Un.kept hk,⟨_,x.toInCall.ns,λi y v h1 h2 h3=>?_⟩,λy c h=>⟨_,x.cell y c h⟩,e0.hok.fresh (le_refl _),λy c h=>?_,λp hp=>absurd (show p∈([]:List (Addr×Obj))from hp) (by simp),e0.hok.kept hk,?_⟩
 ·exact name_of_addr x.apart (PySem.mem_of_lookup h1) (PySem.mem_of_lookup h2)
 ·have hy:scope.names.lookup y=some .cell∨scope.names.lookup y=some .free:=hy;rcases hy with hy|hy
  ·exact lN hy
  ·exact absurd rfl (S.nofree _ (PySem.mem_of_lookup hy))
 ·exact le_of_lt (x.above y c (PySem.mem_of_lookup h))
 ·have hi:i<vs.length:=by
   unfold start at h2
   by_cases hi:i<vs.length
   ·exact hi
   ·rw[getElem?_append_right (by simpa using hi)]at h2;rw[List.getElem?_replicate]at h2
    split at h2<;>cases h2
  have ha:vs[i]?=some v:=by
   unfold start at h2;rw[getElem?_append_left (by simpa using hi),getElem?_map]at h2;cases e:vs[i]? with
   |none=>rw[e]at h2;cases h2
   |some a=>rw[e]at h2;cases h2;rfl
  obtain⟨u,hu,rv⟩:=r.get ha;have hp:ps[i]?=some y:=by
   rw[←S.pre,List.getElem?_take_of_lt (by omega)];exact h1
  have ndP:ps.Nodup:=by rw[←S.pre];exact S.nd.sublist (take_sublist _ _)
  refine⟨u,rv,?_⟩;rcases S.par y (mem_of_getElem? hp)with k|k
  ·exact .inl ⟨k,jN ndP hp hu k⟩
  ·obtain⟨c,e⟩:=lN (n:=s.heap.objs.size+1) k;refine .inr ⟨.inl k,c,e,?_⟩;have q:=x.cell y c e;rw[jO ndP hp hu (by show scope.names.lookup y≠_;rw[k];decide)]at q;exact q
 ·exact e0.hok.fresh (le_of_lt (x.above y c (PySem.mem_of_lookup h)))
 ·unfold start;show _=N.length;rw[length_append,length_map,List.length_replicate];omega
theorem re{CX:CXT}{P:Program}{w:World}{K:PySem.W.Frag}{mg:Str→Option Value}{base:Heap}{k:Nat}{f:Addr}{name qual:Str}{params:Arguments}{body:List Stmt}{scope:Scope}{dV kV doc pm cdv ct oc:Value}{an od:Option Addr}{osl:Array (Option Value)}{N ps:List Str}{sp:Sp}(lk:K.lookup f=some ⟨oc,od,.func (fnOf name qual params body scope dV kV doc pm an cdv ct),osl⟩)(hcd:codeIn K cdv qual=true)(S:FnScope N ps scope)(len:∀vs H Q E,sp vs H Q E→vs.length=ps.length)(hbody:∀(A:Around) (outer:List Env) (s:Shared) (H:Hp) (vs:List V) (Q:VK) (E:XK),Room k (A.deeper (envOfC qual scope s.heap.objs.size f cdv))→sp vs H Q E →
   ∃t,PSs (fZ CX P w K mg base N qual scope f cdv A outer s H E) body t∧t {nx:=λ_ H'=>Q .non H',rt:=Q} (start N vs) H):
  FnOk P w K mg base CX (k+1) f (fnOf name qual params body scope dV kV doc pm an cdv ct) ps sp:=by
 refine⟨len,λA outer s H args us vs Q E hr e0 hb r hsp=>?_⟩;have hl:=len _ _ _ _ hsp;have KX:K.In s.heap:=e0.mod.kin.keeps λb o e=>(e0.bs b o e).1;have lim:s.heap.NoLimit:=e0.mod.nolimit.keeps λb o e=>(e0.bs b o e).1;have hkind:∀y∈ps.zip us,scope.names.lookup y.1=some .local∨(scope.names.lookup y.1=some .cell∧((cellsFrom (s.heap.objs.size+1) scope.names []).lookup y.1).isSome=true):=λ⟨n,v⟩ hy=>by
  rcases S.par n (of_mem_zip hy).1 with q|q
  ·exact .inl q
  ·exact .inr ⟨q,PySem.W.cellsFrom_some _ _ _ (.inl q)⟩
 refine codeAny_call_function hr.depth (KX _ _ lk) rfl S.co S.gen rfl (PySem.W.codeRec_of KX hcd) (hb _ _ _ _ ?_);refine wpAny_newFunctionEnv_cells S.kind hkind λenv he s1 x=>?_;subst he;refine⟨lim.keeps x.toInCall.keep,codeAny_func ?_⟩;obtain⟨t,ht,hq⟩:=hbody A outer s H vs Q E (hr.deeper _) hsp;have I:Inv (fZ CX P w K mg base N qual scope f cdv A outer s H E) [] (start N vs) H s1:=qf S hr.hd e0 hl r x;refine wpAny_mono (ht [] s1 (start N vs) H _ I hq) (λfl s' hs=>?_) λe s' hs=>hs;have fin:∀{σ':St}{H':Hp}{v:V}{u:Value},Inv (fZ CX P w K mg base N qual scope f cdv A outer s H E) [] σ' H' s'→aB v u→Q v H'→CE outer P w H s Q u s' :=
  λ{σ' H' v u} J rv q=>⟨v,H',J.os,J.bare,J.base,J.hok,rv,q⟩
 cases fl with
 |ret u =>
  obtain⟨v,σ',H',J,rv,q⟩:=hs;exact fin J rv q
 |next =>
  obtain⟨σ',H',J,q⟩:=hs;exact fin (v:=V.non) (u:=Value.none) J rfl q
 |brk =>
  obtain⟨_,_,_,q⟩:=hs;exact False.elim q
 |cont =>
  obtain⟨_,_,_,q⟩:=hs;exact False.elim q
section
variable{X:Cx}{x:Str}{p pos:Pos}{e:Expr}{es:List Expr}{t:TA}{id T:String}{r:List V→Hp→VK→Prop}
def tCB(r:List V→Hp→VK→Prop)(t:TA):TE:=λσ H Q=>t σ H λvs H1=>r vs H1 Q
theorem aL(hc:cq X (.builtin id) r)(hg:Gl X x)(hm:X.mg x=none)(hv:bootBuiltins x=some (.builtin id))(ha:PA X (e::es) t)(hn:x≠"__name__":=by decide)(hdb:(x==("__debug__":Str))=false:=by decide)(he:starEach (e::es) X.env=(false,eval e X.env)::starEach es X.env:=by rfl)(hpl:(backTo pos (starEach es X.env)).any (·.1)=false:=by rfl):PE X (.Call (.Name x p) (e::es) [] pos) (tCB r t):=by
 intro pins s σ H Q I h;refine wpAny_Call_Name_kw (dH I hg hm hv ?_ hn hdb);exact PyProof.Rows.callWith_builtin1 (thn (ha pos pins s σ H _ I h) λus s1 ⟨vs,H1,I1,r1,q1⟩=>hc pins s1 σ H1 vs us Q I1 r1 q1) he hpl
theorem bh(hc:cq X (.type T) r)(hg:Gl X x)(hm:X.mg x=none)(hv:bootBuiltins x=some (.type T))(ha:PA X (e::es) t)(hn:x≠"__name__":=by decide)(hdb:(x==("__debug__":Str))=false:=by decide)(he:starEach (e::es) X.env=(false,eval e X.env)::starEach es X.env:=by rfl)(hpl:(backTo pos (starEach es X.env)).any (·.1)=false:=by rfl):PE X (.Call (.Name x p) (e::es) [] pos) (tCB r t):=by
 intro pins s σ H Q I h;refine wpAny_Call_Name_kw (dH I hg hm hv ?_ hn hdb);exact PyProof.Rows.callWith_type1 (thn (ha pos pins s σ H _ I h) λus s1 ⟨vs,H1,I1,r1,q1⟩=>hc pins s1 σ H1 vs us Q I1 r1 q1) he hpl
end
end L2
namespace HT
open PySem PyProof.Rows
section
open PySem.SeqAt
open PySem.AutoSeq1 (wpAny_loadPart')
open PySem.MeetsSeq PySem.MeetsSeq2 PySem.MeetsSeq3
end
section
variable{prog:Program}{w:World}{A:Around}{E:Value→Shared→Prop}{s:Shared}
theorem tW{t b:Addr}{vs ws:List Value}{Q:Value→Shared→Prop}(ht:IsTup s.heap t vs.toArray)(hb:IsTup s.heap b ws.toArray)(hv:vs≠[])(h1:ws=[]→Q (.ref t) s)(h2:ws≠[]→Q (.ref s.heap.objs.size) {s with heap:=s.heap.push {cls:=.type "tuple",data:=.seq (vs++ws).toArray}})(hsz:vs.length+ws.length≤sizeLine):wpAny (model prog w) A (binaryOp .Add (.ref t) (.ref b)) Q E s:=by
 obtain⟨⟨cls,dd,data,sl⟩,ho,hc,n,hd⟩:=id ht;obtain⟨⟨cls2,dd2,data2,sl2⟩,ho2,hc2,n2,hd2⟩:=id hb;simp only at hc hd hc2 hd2;subst hc hd hc2 hd2;have e:vs.toArray++ws.toArray=(vs++ws).toArray:=by simp
 by_cases hw:ws=[]
 ·exact concat_meets ⟨_,ho,rfl⟩ ⟨_,ho2,rfl⟩ noFill_tuple_add seq_tuple_add slot_tuple_add entry_tuple_add (args_tuple_add_2 _ _)
   (tuple_addW1 t b vs.toArray ws.toArray n n2 dd dd2 sl sl2 (by simpa using hv) (by simp[hw])) ⟨ho,ho2,h1 hw⟩
 ·refine concat_meets ⟨_,ho,rfl⟩ ⟨_,ho2,rfl⟩ noFill_tuple_add seq_tuple_add slot_tuple_add entry_tuple_add (args_tuple_add_2 _ _)
   (tuple_addW2 t b vs.toArray ws.toArray n n2 dd dd2 sl sl2 (by simpa using hv) (by simpa using hw) (by rw[size_toArray,size_toArray];exact hsz)) ⟨ho,ho2,?_⟩
  rw[e];exact h2 hw
def sIx(n d:Nat):Option Int→Nat
 |none=>d
 |some v=>if v<0 then (v+(n:Int)).toNat else min v.toNat n
theorem iR(n d:Nat):sIx n d none=d:=rfl
theorem iE(n d k:Nat):sIx n d (some (k:Int))=min k n:=by
 show(if (k:Int)<0 then ((k:Int)+(n:Int)).toNat else min (k:Int).toNat n)=min k n
 rw[if_neg (by omega),Int.toNat_natCast]
theorem wg(n d:Nat)(hd:d≤n)(o:Option Int):sIx n d o≤n:=by
 cases o with
 |none=>exact hd
 |some v =>
  show(if v<0 then (v+(n:Int)).toNat else min v.toNat n)≤n
  by_cases hv:v<0
  ·rw[if_pos hv];omega
  ·rw[if_neg hv];exact Nat.min_le_right _ _
theorem oQ(v:Int)(n d:Nat):(if v<0 then max (v+(n:Int)) 0 else min v (n:Int))=((sIx n d (some v):Nat):Int):=by
 show(if v<0 then max (v+(n:Int)) 0 else min v (n:Int))=(((if v<0 then (v+(n:Int)).toNat else min v.toNat n):Nat):Int)
 by_cases hv:v<0
 ·simp only[if_pos hv];omega
 ·simp only[if_neg hv];omega
theorem nP(lo hi:Option Int)(n:Nat):Builtin.Slice.sliceAdjust lo hi 1 (n:Int)=(((sIx n 0 lo:Nat):Int),((sIx n n hi:Nat):Int)):=by
 have h1:¬((1:Int)<0):=by omega
 unfold Builtin.Slice.sliceAdjust;simp only[h1,if_false];refine Prod.ext ?_ ?_
 ·cases lo with
  |none=>rfl
  |some v=>exact oQ v n 0
 ·cases hi with
  |none=>rfl
  |some v=>exact oQ v n n
theorem nQ(i j:Nat):Builtin.Slice.slicePlaces (i:Int) (j:Int) 1=j-i:=by
 unfold Builtin.Slice.slicePlaces;have h1:(1:Int)>0:=by omega
 simp only[h1,if_true,Int.ediv_one]
 split<;>omega
theorem iS{v:Value}{o:Option Int}{Q:Option Int→Shared→Prop}(p:IsPart v o)(h:Q o s):wpAny (model prog w) A (Builtin.Slice.slicePartIndex v) Q E s:=by
 cases p with
 |none=>exact slicePart_none h
 |int i t=>exact slicePart_int h
theorem dk{sl:Addr}{vl vu:Value}{lo hi:Option Int}{n:Nat}{Q:Int×Int×Nat→Shared→Prop}(hs:s.heap.IsSliceOf sl vl vu .none)(pl:IsPart vl lo)(pu:IsPart vu hi)(h:Q (((sIx n 0 lo:Nat):Int),1,sIx n n hi-sIx n 0 lo) s):wpAny (model prog w) A (Builtin.Slice.sliceApplied (.ref sl) (pure (n:Int))) Q E s:=by
 obtain⟨os,hos,hcs,hds⟩:=id hs;unfold Builtin.Slice.sliceApplied Builtin.Slice.sliceFields;refine wpAny_bind (wpAny_bind (wpAny_field hos hds (x:=vl) rfl (wpAny_bind (wpAny_field hos hds (x:=vu) rfl (wpAny_bind (wpAny_field hos hds (x:=.none) rfl (wpAny_pure ?_)))))));refine wpAny_bind (slicePart_none ?_);show wpAny _ _ (if ((1:Int)==0)=true then _ else _) _ _ s
 rw[if_neg (by decide)];refine wpAny_bind (iS pl (wpAny_bind (iS pu (wpAny_bind (wpAny_pure ?_)))));show wpAny _ _ (match Builtin.Slice.sliceAdjust lo hi 1 (n:Int)with|(lo,hi)=>pure (lo,(1:Int),Builtin.Slice.slicePlaces lo hi 1)) _ _ s
 rw[nP lo hi n];show wpAny _ _ (pure (((sIx n 0 lo:Nat):Int),(1:Int),Builtin.Slice.slicePlaces ((sIx n 0 lo:Nat):Int) ((sIx n n hi:Nat):Int) 1)) _ _ s;rw[nQ];exact wpAny_pure h
theorem rf(xs:Array Value)(i k:Nat):((List.range k).filterMap λ(m:Nat)=>xs[((i:Int)+(m:Int)*1).toNat]?).toArray=((xs.toList.drop i).take k).toArray:=by
 have e:(λ(m:Nat)=>xs[((i:Int)+(m:Int)*1).toNat]?)=λm=>xs[i+m]?:=by
  funext m
  have:((i:Int)+(m:Int)*1).toNat=i+m:=by omega
  rw[this]
 rw[e];have:=pick_run xs i k;rw[List.filterMap_map]at this;have e2:((λx=>xs[x]?)∘λx=>i+x)=λm=>xs[i+m]?:=rfl;rw[e2]at this;rw[this]
theorem ga{t sl:Addr}{items:Array Value}{vl vu:Value}{lo hi:Option Int}{Q:Value→Shared→Prop}(ht:IsTup s.heap t items)(hs:s.heap.IsSliceOf sl vl vu .none)(pl:IsPart vl lo)(pu:IsPart vu hi)(hw:¬(sIx items.size 0 lo=0∧sIx items.size items.size hi=items.size))(h:Q (.ref s.heap.objs.size) {s with heap:=s.heap.push {cls:=.type "tuple",data:=.seq ((items.toList.drop (sIx items.size 0 lo)).take (sIx items.size items.size hi-sIx items.size 0 lo)).toArray}})(hsz:items.size≤sizeLine):wpAny (model prog w) A (getItem (.ref t) (.ref sl)) Q E s:=by
 have htake:sizeOk (.seq ((items.toList.drop (sIx items.size 0 lo)).take (sIx items.size items.size hi-sIx items.size 0 lo)).toArray):=by
  show((items.toList.drop (sIx items.size 0 lo)).take (sIx items.size items.size hi-sIx items.size 0 lo)).toArray.size≤sizeLine;rw[size_toArray,length_take,length_drop,length_toList];omega
 have hj:sIx items.size items.size hi≤items.size:=wg _ _ (le_refl _) hi;obtain⟨os,hos,hcs,hds⟩:=id hs;have hTs:s.TypeIs (.ref sl) "slice":=⟨os,hos,hcs⟩;unfold getItem
 try with_reducible refine wpAny_holding ?_
 first|refine wpAny_bind (wpAny_pure ?_)|skip
 refine wpAny_bind (wpAny_sequenceKey ht.typeIs (by decide) ?_);refine wpAny_bind (wpAny_callSpecial?_slot (name:=ofString "__getitem__") ht.typeIs PyProof.Rows.slot_tuple_getitem
  (wpAny_call_entry PyProof.Rows.slot_tuple_getitem ht.typeIs entry_tuple_getitem ?_ (args_tuple_getitem _ _)))
 show wpAny _ _ (Builtin.Tuple.tupleItemsOf (.ref t) >>= _) _ _ s;refine wpAny_bind (tupleItemsOf_ ht ?_);refine wpAny_bind (wpAny_typeOf hTs ?_);rw[if_pos (by decide)];refine wpAny_bind (dk hs pl pu ?_);have hno:¬((((sIx items.size 0 lo:Nat):Int)==0&&(1:Int)==1&&(sIx items.size items.size hi-sIx items.size 0 lo)==items.size)=true):=by
  intro q;rw[and_eq_true,and_eq_true]at q;have q1:((sIx items.size 0 lo:Nat):Int)=0:=eq_of_beq q.1.1;have q2:sIx items.size items.size hi-sIx items.size 0 lo=items.size:=eq_of_beq q.2;exact hw ⟨by omega,by omega⟩
 show wpAny _ _ (if (((sIx items.size 0 lo:Nat):Int)==0&&(1:Int)==1&&(sIx items.size items.size hi-sIx items.size 0 lo)==items.size)=true then _ else _) _ _ s
 rw[if_neg hno,rf]
 first
  |exact wpAny_bind (m:=Builtin.Tuple.tupleExact _) (wpAny_newObj_type (wpAny_pure ⟨_,rfl,wpAny_pure h⟩) htake)
  |exact wpAny_bind (m:=Builtin.Tuple.tupleExact _) (wpAny_newObj_type (wpAny_bind (wpAny_pure (wpAny_pure ⟨_,rfl,wpAny_pure h⟩))) htake)
  |exact wpAny_bind (wpAny_bind (m:=Builtin.Tuple.tupleExact _) (wpAny_newObj_type (wpAny_pure (wpAny_pure ⟨_,rfl,wpAny_pure h⟩)) htake))
  |exact wpAny_bind (wpAny_bind (m:=Builtin.Tuple.tupleExact _) (wpAny_newObj_type (wpAny_pure ⟨_,rfl,wpAny_pure h⟩) htake))
end
end HT
namespace L2
open PySem PySem.Spec PyProof.Rows
abbrev TO:=St→Hp→(Option Int→Hp→Prop)→Prop
def PO(X:Cx)(e:Option Expr)(t:TO):Prop :=
 ∀(pins:List (Addr×Obj))(s:Shared)(σ:St)(H:Hp)(Q:Option Int→Hp→Prop),Inv X pins σ H s→t σ H Q →
  wpAny (model X.prog X.w) X.A (evalPart e X.env) (λu s'=>∃o H',Inv X pins σ H' s'∧IsPart u o∧Q o H') X.xe s
def tX:TO:=λ_ H Q=>Q none H
def xS(t:TE):TO:=λσ H Q=>t σ H λx H1=>∃i,x=.int i∧Q (some i) H1
theorem nR{ns:List Int}:∀{us:List Value},ar (ns.map V.int) us→IntsAre us ns:=by
 induction ns with
 |nil=>intro us r;rw[map_nil]at r;cases r;exact .nil
 |cons n ns ih =>
  intro us r;rw[map_cons]at r;cases r with
  |cons r1 r2 =>
   obtain⟨t,e⟩:=r1;subst e;exact .cons n t (ih r2)
section
variable{X:Cx}{e:Expr}{te:TE}{lo hi:Option Expr}{tl th:TO}{pos p2:Pos}
theorem iF:PO X none tX:=by
 intro pins s σ H Q I h;rw[evalPart_none];exact wpAny_pure ⟨none,H,I,.none,h⟩
theorem eT(h:PE X e te):PO X (some e) (xS te):=by
 intro pins s σ H Q I hw;rw[evalPart_some];refine thn (h pins s σ H _ I hw) λu s1 hpt=>?_;obtain⟨x,H1,I1,r1,q1⟩:=hpt;obtain⟨i,rfl,q⟩:=q1;obtain⟨t,rfl⟩:=r1;exact⟨some i,H1,I1,.int i t,q⟩
def SlR(X:Cx)(r:V→Option Int→Option Int→Hp→VK→Prop):Prop :=
 ∀(pins:List (Addr×Obj))(s:Shared)(σ:St)(H:Hp)(x:V)(v vl vu:Value)(lo hi:Option Int)(sl:Addr)(Q:VK),Inv X pins σ H s→aB x v→s.heap.IsSliceOf sl vl vu .none→IsPart vl lo→IsPart vu hi→r x lo hi H Q →
  ∃T id,typeLookup (.type T) "__getitem__"=pure (some (.builtin id))∧s.TypeIs v T∧wpAny (model X.prog X.w) X.A (getItem v (.ref sl)) (EP X pins σ Q) X.xe s
theorem SlR.or{r r':V→Option Int→Option Int→Hp→VK→Prop}(h:SlR X r)(h':SlR X r'):SlR X (λx lo hi H Q=>r x lo hi H Q∨r' x lo hi H Q):=by
 intro pins s σ H x v vl vu lo hi sl Q I rx hs pl pu q;rcases q with q|q
 ·exact h pins s σ H x v vl vu lo hi sl Q I rx hs pl pu q
 ·exact h' pins s σ H x v vl vu lo hi sl Q I rx hs pl pu q
def tSl(r:V→Option Int→Option Int→Hp→VK→Prop)(te:TE)(tl th:TO):TE:=λσ H Q=>te σ H λx H1=>tl σ H1 λl H2=>th σ H2 λu H3=>r x l u H3 Q
theorem eM{r:V→Option Int→Option Int→Hp→VK→Prop}(hr:SlR X r)(he:PE X e te)(hl:PO X lo tl)(hu:PO X hi th):PE X (.Subscript e (.Slice lo hi none p2) pos) (tSl r te tl th):=by
 intro pins s σ H Q I h;refine Subscript_ (thn (he pins s σ H _ I h) λv s1 hpt=>?_);obtain⟨x,H1,I1,r1,q1⟩:=hpt;refine wpAny_Slice (thn (hl pins s1 σ H1 _ I1 q1) λvl s2 ⟨l,H2,I2,pl,q2⟩=>thn (hu pins s2 σ H2 _ I2 q2) λvu s3 hpt=>?_);obtain⟨u,H3,I3,pu,q3⟩:=hpt;rw[evalPart_none];refine wpAny_pure ?_;have I4:Inv X pins σ H3 {s3 with heap:=s3.heap.push {cls:=.type "slice",data:=.fields #[vl,vu,.none]}}:=I3.kept (t':=s3.toks) λb ob q=>get?_push_of_some _ q
 obtain⟨T,id,hT,ht,hg⟩:=hr pins {s3 with heap:=s3.heap.push {cls:=.type "slice",data:=.fields #[vl,vu,.none]}} σ H3 x v vl vu l u s3.heap.objs.size Q I4 r1 (Heap.IsSliceOf.new ..) pl pu q3
 show wpAny (model X.prog X.w) X.A (subscriptTail e (.Slice lo hi none p2) v (.ref s3.heap.objs.size)) (EP X pins σ Q) X.xe {s3 with heap:=s3.heap.push {cls:=.type "slice",data:=.fields #[vl,vu,.none]}}
 exact tail_any (ops:=[.ref s3.heap.objs.size,v]) ht hT hg (by with_unfolding_all rfl)
def fj(xs:List V)(lo hi:Option Int):List V:=(xs.drop (HT.sIx xs.length 0 lo)).take (HT.sIx xs.length xs.length hi-HT.sIx xs.length 0 lo)
theorem ib(xs:List V)(lo hi:Option Int):(fj xs lo hi).length≤xs.length:=by
 unfold fj;rw[length_take,length_drop];omega
def rg(K:PySem.W.Frag):V→Option Int→Option Int→Hp→VK→Prop:=λx lo hi H Q=>∃a xs,x=.ref a∧SqT K H a xs ∧
 ¬(HT.sIx xs.length 0 lo=0∧HT.sIx xs.length xs.length hi=xs.length)∧∀p,H p=none→Q (.ref p) (upd H p (.tup (fj xs lo hi)))
theorem kG:SlR X (rg X.K):=by
 intro pins s σ H x v vl vu lo hi sl Q I rx hs pl pu h;obtain⟨a,xs,rfl,hx,hw,q⟩:=h;cases rx;obtain⟨its,r,ht,hz⟩:=I.tuple hx;have hlen:its.toArray.size=xs.length:=by rw[size_toArray];exact r.length.symm
 refine⟨"tuple",_,PyProof.Rows.slot_tuple_getitem.lookup,ht.typeIs,?_⟩;refine HT.ga ht hs pl pu (by rw[hlen];exact hw) ?_ (by rw[hlen];exact hz);rw[hlen];refine⟨.ref s.heap.objs.size,_,I.laid (t':=s.toks) (o:=.tup (fj xs lo hi)) (λb ob q=>get?_push_of_some _ q) (le_refl _) ?_,rfl,q _ (I.hok.fresh (le_refl _))⟩;exact⟨le_trans (ib xs lo hi) hz,_,(r.drop (HT.sIx xs.length 0 lo)).take (HT.sIx xs.length xs.length hi-HT.sIx xs.length 0 lo),IsTup.new _ _⟩
def vE(K:PySem.W.Frag):R2:=λx y H Q=>∃a b xs ys,x=.ref a∧y=.ref b∧SqT K H a xs∧SqT K H b ys∧xs≠[]∧xs.length+ys.length≤sizeLine ∧
 (ys=[]→Q (.ref a) H)∧(ys≠[]→∀p,H p=none→Q (.ref p) (upd H p (.tup (xs++ys))))
theorem ar.nil_iff{xs:List V}{us:List Value}(r:ar xs us):us=[]↔xs=[]:=by
 cases r with
 |nil=>simp
 |cons _ _=>simp
theorem oR:OpR X (binaryOp .Add) (vE X.K):=by
 intro pins s σ H x y v u Q I rx ry h;obtain⟨a,b,xs,ys,rfl,rfl,ha,hb,hx,hz,q1,q2⟩:=h;cases rx;cases ry;obtain⟨its,r1,p1,_⟩:=I.tuple ha;obtain⟨its2,r2,p2,_⟩:=I.tuple hb;refine HT.tW p1 p2 (λz=>hx (r1.nil_iff.mp z)) (λz=>⟨.ref a,H,I,rfl,q1 (r2.nil_iff.mp z)⟩) (λz=>?_) (by rw[←r1.length,←r2.length];exact hz);refine⟨.ref s.heap.objs.size,_,I.laid (t':=s.toks) (o:=.tup (xs++ys)) (λb ob q=>get?_push_of_some _ q) (le_refl _) ?_,rfl,q2 (λw=>z (r2.nil_iff.mpr w)) _ (I.hok.fresh (le_refl _))⟩;exact⟨by rw[length_append];exact hz,_,r1.append r2,IsTup.new _ _⟩
end
def ixN(n:Nat)(i:Int):Option Nat:=if 0≤i then (if i<n then some i.toNat else none)else if -(n:Int)≤i then some (i+n).toNat else none
def atI{α:Type}(xs:List α)(i:Int):Option α:=(ixN xs.length i).bind λj=>xs[j]?
theorem oS{n:Nat}{i:Int}{j:Nat}(h:ixN n i=some j):seqIndex? i n=some j∧j<n∧-(n:Int)≤i∧i<n:=by
 unfold ixN at h
 by_cases h0:0≤i
 ·rw[if_pos h0]at h
  by_cases h1:i<n
  ·rw[if_pos h1]at h;have e:i.toNat=j:=Option.some.inj h;exact⟨by rw[seqIndex_of h0 h1,e],by omega,by omega,h1⟩
  ·rw[if_neg h1]at h;cases h
 ·rw[if_neg h0]at h
  by_cases h1:-(n:Int)≤i
  ·rw[if_pos h1]at h;have e:(i+n).toNat=j:=Option.some.inj h;exact⟨by rw[seqIndex_neg (by omega) h1,e],by omega,h1,by omega⟩
  ·rw[if_neg h1]at h;cases h
theorem oT{α:Type}{xs:List α}{i:Int}{v:α}(h:atI xs i=some v):∃j,seqIndex? i xs.length=some j∧xs[j]?=some v∧j<xs.length∧-(xs.length:Int)≤i∧i<xs.length:=by
 unfold atI at h;cases e:ixN xs.length i with
 |none=>rw[e]at h;cases h
 |some j =>
  rw[e]at h;obtain⟨h1,h2,h3,h4⟩:=oS e;exact⟨j,h1,h,h2,h3,h4⟩
theorem gb{α:Type}{xs:List α}{j:Nat}{v:α}(h:xs[j]?=some v):atI xs (j:Int)=some v:=by
 have hj:j<xs.length:=(List.getElem?_eq_some_iff.mp h).1;have e:ixN xs.length (j:Int)=some j:=by
  unfold ixN;rw[if_pos (by omega),if_pos (by omega)];simp
 unfold atI;rw[e];exact h
def oU(b:Expr):Prop:=∀o i,subscripted b false o i=operate [o,i] (getItem o i)
def IxR(X:Cx)(r:R2):Prop :=
 ∀(value slice:Expr)(pins:List (Addr×Obj))(s:Shared)(σ:St)(H:Hp)(x y:V)(v u:Value)(Q:VK),Inv X pins σ H s→aB x v→aB y u→r x y H Q →
  subscripted slice false v u=operate [v,u] (getItem v u)→wpAny (model X.prog X.w) X.A (subscriptTail value slice v u) (EP X pins σ Q) X.xe s
def MtR(X:Cx)(id:String)(r:V→List V→Hp→VK→Prop):Prop :=
 ∀(pins:List (Addr×Obj))(s:Shared)(σ:St)(H:Hp)(x:V)(xs:List V)(v:Value)(us:List Value)(Q:VK),Inv X pins σ H s→aB x v→ar xs us→r x xs H Q →
  wpAny (model X.prog X.w) X.A (call (.builtin id) (v::us)) (EP X pins σ Q) X.xe s
section
variable{X:Cx}{a b:Expr}{ta tb:TE}{pos:Pos}
theorem aD{r:R2}(hr:IxR X r)(ha:PE X a ta)(hb:PE X b tb)(hs:oU b):PE X (.Subscript a b pos) (tOp r ta tb):=by
 intro pins s σ H Q I h;exact Subscript_ (wa ha hb I h λv u s2 x y H2 I2 rx ry q=>hr a b pins s2 σ H2 x y v u Q I2 rx ry q (hs _ _))
def yV(K:PySem.W.Frag):R2:=λx y H Q=>∃p xs i v,x=.ref p∧y=.int i∧SqL K H p xs∧atI xs i=some v∧Q v H
def gf(K:PySem.W.Frag):R2:=λx y H Q=>∃p xs i v,x=.ref p∧y=.int i∧SqT K H p xs∧atI xs i=some v∧Q v H
theorem dL:IxR X (yV X.K):=by
 intro value slice pins s σ H x y v u Q I rx ry h hs;obtain⟨p,xs,i,z,rfl,rfl,hq,he,q⟩:=h;cases rx;obtain⟨t,rfl⟩:=ry;obtain⟨its,r,pl,hz⟩:=I.list hq;obtain⟨j,h1,h2,h3,h4,h5⟩:=oT he;obtain⟨w,ew,rw'⟩:=r.get h2;have hl:=r.length;have hn:=ky;have fin:EP X pins σ Q w s:=⟨z,H,I,rw',q⟩
 by_cases h0:0≤i
 ·have hj:i.toNat=j:=by
   rw[seqIndex_of h0 h5]at h1;exact Option.some.inj h1
  exact item_listR pl.isList h0 (by omega) (by rw[hj];simpa using ew) fin hs
 ·have hj:(i+(its.toArray.size:Int)).toNat=j:=by
   rw[seqIndex_neg (by omega) h4]at h1;rw[size_toArray,←hl];exact Option.some.inj h1
  exact subscriptTail_builtinR (x:=w) pl.isList.typeIs slot_list_getitem.lookup
   (wpAny_getItem_list_neg (Q:=λr s'=>r=w∧EP X pins σ Q r s') pl.isList (by omega) (by rw[size_toArray]<;>omega) (by omega) (by rw[hj];simpa using ew) ⟨rfl,fin⟩) hs
theorem ax:IxR X (gf X.K):=by
 intro value slice pins s σ H x y v u Q I rx ry h hs;obtain⟨p,xs,i,z,rfl,rfl,hq,he,q⟩:=h;cases rx;obtain⟨t,rfl⟩:=ry;obtain⟨its,r,pl,hz⟩:=I.tuple hq;obtain⟨j,h1,h2,h3,h4,h5⟩:=oT he;obtain⟨w,ew,rw'⟩:=r.get h2;have hl:=r.length;have hn:=ky;have fin:EP X pins σ Q w s:=⟨z,H,I,rw',q⟩;exact subscriptTail_builtinR (x:=w) pl.typeIs slot_tuple_getitem.lookup
  (getItem_tuple (j:=j) (Q:=λr s'=>r=w∧EP X pins σ Q r s') pl (by omega) (by omega) (by rw[size_toArray,←hl];exact h1) (by simpa using ew) ⟨rfl,fin⟩) hs
theorem kH(lo hi:Option Int)(n:Nat):(sliceBounds lo hi none n).1=((HT.sIx n 0 lo:Nat):Int)∧(sliceBounds lo hi none n).2.1=((HT.sIx n n hi:Nat):Int)∧(sliceBounds lo hi none n).2.2=1:=by
 refine⟨?_,?_,rfl⟩
 ·cases lo with
  |none=>simp[sliceBounds,HT.sIx]
  |some i =>
   simp only[sliceBounds,HT.sIx,getD_none,show(1:Int)>0 by decide,if_true]
   by_cases h:i<0
   ·simp only[h,if_true]<;>omega
   ·simp only[h,if_false]<;>omega
 ·cases hi with
  |none=>simp[sliceBounds,HT.sIx]
  |some i =>
   simp only[sliceBounds,HT.sIx,getD_none,show(1:Int)>0 by decide,if_true]
   by_cases h:i<0
   ·simp only[h,if_true]<;>omega
   ·simp only[h,if_false]<;>omega
theorem jA(its:List Value)(lo hi:Option Int):slicePick its.toArray lo hi none=((its.drop (HT.sIx its.length 0 lo)).take (HT.sIx its.length its.length hi-HT.sIx its.length 0 lo)).toArray:=by
 obtain⟨h1,h2,h3⟩:=kH lo hi its.toArray.size;unfold slicePick;rw[h1,h2,h3];simp only[sliceRange_one,pick_run,size_toArray]<;>rfl
def yW(K:PySem.W.Frag):V→Option Int→Option Int→Hp→VK→Prop:=λx lo hi H Q=>∃a xs,x=.ref a∧SqL K H a xs∧∀p,H p=none→Q (.ref p) (upd H p (.lst (fj xs lo hi)))
theorem tY:SlR X (yW X.K):=by
 intro pins s σ H x v vl vu lo hi sl Q I rx hs pl pu h;obtain⟨a,xs,rfl,hx,q⟩:=h;cases rx;obtain⟨its,r,ht,hz⟩:=I.list hx;have hlen:=r.length;refine⟨"list",_,slot_list_getitem.lookup,ht.isList.typeIs,?_⟩;refine wpAny_getItem_list_slice ht.isList hs pl pu .none (by simp) ?_ (by rw[size_toArray]<;>omega);rw[jA,←hlen];refine⟨.ref s.heap.objs.size,_,I.laid (t':=s.toks) (o:=.lst (fj xs lo hi)) (λb ob q=>get?_push_of_some _ q) (le_refl _) ?_,rfl,q _ (I.hok.fresh (le_refl _))⟩;exact⟨le_trans (ib xs lo hi) hz,_,0,(r.drop (HT.sIx xs.length 0 lo)).take (HT.sIx xs.length xs.length hi-HT.sIx xs.length 0 lo),get?_push_size _ rfl⟩
def cF:V→Bool
 |.non=>true
 |.bl _=>true
 |.int _=>true
 |.str _=>true
 |_=>false
def eqV:V→V→Bool
 |.non,.non=>true
 |.bl a,.bl b=>a==b
 |.bl a,.int b=>(if a then 1 else 0)==b
 |.int a,.bl b=>a==(if b then 1 else 0)
 |.int a,.int b=>a==b
 |.str a,.str b=>a==b
 |_,_=>false
theorem gP{A:Around}{s:Shared}{y x:V}{u v:Value}(ry:aB y u)(rx:aB x v)(fy:cF y=true)(fx:cF x=true):EqAt A s u v (eqV y x):=by
 cases y with
 |non =>
  cases ry;cases x with
  |non=>cases rx;exact EqAt.same _
  |bl b=>cases rx;exact EqAt.none_bool b
  |int b=>obtain⟨t,rfl⟩:=rx;exact EqAt.none_int b t
  |str b=>obtain⟨t,rfl⟩:=rx;exact EqAt.none_str b t
  |_=>exact absurd (show false=true from fx) Bool.false_ne_true
 |bl a =>
  cases ry;cases x with
  |non=>cases rx;exact EqAt.bool_none a
  |bl b=>cases rx;exact EqAt.bool_bool a b
  |int b=>obtain⟨t,rfl⟩:=rx;exact EqAt.bool_int a b t
  |str b=>obtain⟨t,rfl⟩:=rx;exact EqAt.bool_str a b t
  |_=>exact absurd (show false=true from fx) Bool.false_ne_true
 |int a =>
  obtain⟨t',rfl⟩:=ry;cases x with
  |non=>cases rx;exact EqAt.int_none a t'
  |bl b=>cases rx;exact EqAt.int_bool a t' b
  |int b=>obtain⟨t,rfl⟩:=rx;exact EqAt.int_int a t' b t
  |str b=>obtain⟨t,rfl⟩:=rx;exact EqAt.int_str a t' b t
  |_=>exact absurd (show false=true from fx) Bool.false_ne_true
 |str a =>
  obtain⟨t',rfl⟩:=ry;cases x with
  |non=>cases rx;exact EqAt.str_none a t'
  |bl b=>cases rx;exact EqAt.str_bool a t' b
  |int b=>obtain⟨t,rfl⟩:=rx;exact EqAt.str_int a t' b t
  |str b=>obtain⟨t,rfl⟩:=rx;exact EqAt.str_str a t' b t
  |_=>exact absurd (show false=true from fx) Bool.false_ne_true
 |_=>exact absurd (show false=true from fy) Bool.false_ne_true
def eqU(x:V)(u:Value):Bool:=match u with
 |.none=>eqV .non x
 |.bool b=>eqV (.bl b) x
 |.int i _=>eqV (.int i) x
 |.str z _=>eqV (.str z) x
 |_=>false
theorem rh{x y:V}{u:Value}(r:aB y u)(f:cF y=true):eqU x u=eqV y x:=by
 cases y with
 |non=>cases r;rfl
 |bl b=>cases r;rfl
 |int i=>obtain⟨t,rfl⟩:=r;rfl
 |str z=>obtain⟨t,rfl⟩:=r;rfl
 |_=>exact absurd (show false=true from f) Bool.false_ne_true
theorem kJ{x:V}:∀{xs:List V}{us:List Value},ar xs us→xs.all cF=true→us.any (eqU x)=xs.any λy=>eqV y x
 |_,_,.nil,_=>rfl
 |y::xs,u::us,.cons r t,f=>by
  rw[List.all_cons,and_eq_true]at f;rw[any_cons,any_cons,rh r f.1,kJ t f.2]
theorem iT{A:Around}{s:Shared}{x:V}{v:Value}(rx:aB x v)(fx:cF x=true):∀{xs:List V}{us:List Value},ar xs us→xs.all cF=true→∀u∈us,EqAt A s u v (eqU x u)
 |_,_,.nil,_=>λu hu=>by cases hu
 |y::xs,u::us,.cons r t,f=>λu' hu=>by
  rw[List.all_cons,and_eq_true]at f;rcases mem_cons.mp hu with rfl|hu
  ·rw[rh r f.1];exact gP r rx f.1 fx
  ·exact iT rx fx t f.2 u' hu
def inV(x:V)(xs:List V):Bool:=xs.any λy=>eqV y x
def rIn(K:PySem.W.Frag)(neg:Bool):R2:=λx y H Q=>∃p xs,y=.ref p∧(SqL K H p xs∨SqT K H p xs)∧cF x=true∧xs.all cF=true∧Q (.bl (if neg then !inV x xs else inV x xs)) H
theorem qg:OpR X (compareOp .In) (rIn X.K false):=by
 intro pins s σ H x y v u Q I rx ry h;obtain⟨p,xs,rfl,hq,fx,fs,q⟩:=h;cases ry;rcases hq with hq|hq
 ·obtain⟨its,r,pl,hz⟩:=I.list hq;refine in_listAt (eqU x) pl.isList (λw hw=>iT rx fx r fs w (by simpa using hw)) ⟨.bl _,H,I,rfl,?_⟩;rw[show its.toArray.any (eqU x)=its.any (eqU x)by simp,kJ r fs];exact q
 ·obtain⟨its,r,pl,hz⟩:=I.tuple hq;refine SeqAt.in_tupleAt (eqU x) pl (λw hw=>iT rx fx r fs w (by simpa using hw)) ⟨.bl _,H,I,rfl,?_⟩;rw[show its.toArray.any (eqU x)=its.any (eqU x)by simp,kJ r fs];exact q
theorem aV:cq X (.builtin "len") (λxs H Q=>∃p ys,xs=[.ref p]∧(SqL X.K H p ys∨SqT X.K H p ys)∧Q (.int ys.length) H):=by
 intro pins s σ H xs us Q I r h;obtain⟨p,ys,rfl,hq,q⟩:=h;obtain⟨u,rfl,rx⟩:=cE r;cases rx;have hn:=ky;rcases hq with hq|hq
 ·obtain⟨its,r',pl,hz⟩:=I.list hq;have hlen:=r'.length;exact Calls.call_len_list pl.isList (by simp only[size_toArray]<;>omega) ⟨.int ys.length,H,I.tok _,⟨s.toks+1,by rw[size_toArray,hlen]⟩,q⟩
 ·obtain⟨its,r',pl,hz⟩:=I.tuple hq;have hlen:=r'.length;exact len_tuple pl (by simp only[size_toArray]<;>omega) ⟨.int ys.length,H,I.tok _,⟨s.toks+1,by rw[size_toArray,hlen]⟩,q⟩
theorem bu:cq X (.type "tuple") (λxs H Q=>∃p ys,xs=[.ref p]∧((SqL X.K H p ys∧∀l,H l=none→Q (.ref l) (upd H l (.tup ys)))∨(SqT X.K H p ys∧Q (.ref p) H))):=by
 intro pins s σ H xs us Q I r h;obtain⟨p,ys,rfl,h⟩:=h;obtain⟨u,rfl,rx⟩:=cE r;cases rx;rcases h with⟨hq,q⟩|⟨hq,q⟩
 ·obtain⟨its,r',pl,hz⟩:=I.list hq;have hlen:=r'.length;refine call_tuple_list pl.isList (λh' kp=>?_) (by simp only[size_toArray]<;>omega);have I1:Inv X pins σ H {s with heap:=h'}:=I.kept (t':=s.toks) kp
  have I2:Inv X pins σ (upd H h'.objs.size (.tup ys)) {s with heap:=h'.push {cls:=.type "tuple",data:=.seq its.toArray}} :=
   I1.laid (t':=s.toks) (λb o e=>get?_push_of_some _ e) (le_refl _) (show bi X.prog X.w _ _ _ (.tup ys)from⟨hz,its,r',IsTup.new _ _⟩)
  exact⟨.ref h'.objs.size,_,I2,rfl,q _ (I1.hok.fresh (le_refl _))⟩
 ·obtain⟨its,r',pl,hz⟩:=I.tuple hq;exact call_tuple_same pl ⟨.ref p,H,I,rfl,q⟩
def tyV(K:PySem.W.Frag)(T:String)(x:V)(H:Hp):Prop:=match x with
 |.str _=>T="str"
 |.int _=>T="int"
 |.ref p=>(T="list"∧∃xs,SqL K H p xs)∨(T="tuple"∧∃o,K.lookup p=some o∧o.cls=.type "tuple"∧o.dict=none) ∨
   (T="dict"∧((∃kvs,H p=some (.dK kvs))∨∃kvs,H p=some (.dT kvs)))∨(T="set"∧∃S n,H p=some (.set S n))
 |_=>False
theorem rk{pins:List (Addr×Obj)}{σ:St}{H:Hp}{s:Shared}{T:String}{x:V}{v:Value}(I:Inv X pins σ H s)(r:aB x v)(ty:tyV X.K T x H):
  s.TypeIs v T∧∀a,v=.ref a→∃ob,s.heap.get? a=some ob∧ob.dict=none:=by
 cases x with
 |str z =>
  obtain⟨t,rfl⟩:=r;cases (show T="str" from ty);exact⟨typeIs_str s z t,λ_ e=>nomatch e⟩
 |int i =>
  obtain⟨t,rfl⟩:=r;cases (show T="int" from ty);exact⟨typeIs_int s i t,λ_ e=>nomatch e⟩
 |ref p =>
  cases r;rcases ty with⟨rfl,xs,hq⟩|⟨rfl,o,hk,hc,hd⟩|⟨rfl,hk⟩|⟨rfl,S,n,hk⟩
  ·obtain⟨its,_,pl,_⟩:=I.list hq;refine⟨pl.isList.typeIs,λa e=>?_⟩;cases e;obtain⟨o,n,e,c,hd,_⟩:=pl;exact⟨o,e,hd⟩
  ·refine⟨⟨o,I.kIn p o hk,hc⟩,λa e=>?_⟩;cases e;exact⟨o,I.kIn _ o hk,hd⟩
  ·have z:∃o,s.heap.get? p=some o∧o.ExactDict:=by
    rcases hk with⟨kvs,hk⟩|⟨kvs,hk⟩
    ·obtain⟨_,_,_,_,o,_,_,e,ex,_⟩:=I.hok p _ hk;exact⟨o,e,ex⟩
    ·obtain⟨_,_,_,_,o,_,_,e,ex,_⟩:=I.hok p _ hk;exact⟨o,e,ex⟩
   obtain⟨o,e,ex⟩:=z;refine⟨⟨o,e,ex.1⟩,λa e2=>?_⟩;cases e2;exact⟨o,e,ex.2.1⟩
  ·obtain⟨o,_,_,_,e,ex,_⟩:=I.hok p _ hk;refine⟨⟨o,e,ex.1⟩,λa e2=>?_⟩;cases e2;exact⟨o,e,ex.2.1⟩
 |_=>exact False.elim ty
def yX(K:PySem.W.Frag)(T:String)(r:V→List V→Hp→VK→Prop)(to:TE):TE:=λσ H Q=>to σ H λx H1=>tyV K T x H1∧r x [] H1 Q
def tBM(K:PySem.W.Frag)(T:String)(r:V→List V→Hp→VK→Prop)(to:TE)(t:TA):TE:=λσ H Q=>to σ H λx H1=>tyV K T x H1∧t σ H1 λxs H2=>r x xs H2 Q
variable{o e:Expr}{es:List Expr}{to:TE}{t:TA}{name:Str}{apos cpos:Pos}{T id:String}{r:V→List V→Hp→VK→Prop}
theorem wq(pa:PlainAttrs T)(slot:Slot T name id)(hty:typeOf (.builtin id)=pure (.type "method_descriptor"))(hm:MtR X id r)(ho:PE X o to)(hbase:attributeBase o name X.env (eval o X.env)=eval o X.env:=by rfl)(hline:(apos.endLine==cpos.line)=true:=by rfl):PE X (.Call (.Attribute o name apos) [] [] cpos) (yX X.K T r to):=by
 intro pins s σ H Q I h;refine wpAny_Call_method0_late hbase hline (thn (ho pins s σ H _ I h) λv s1 hpt=>?_);obtain⟨x,H1,I1,r1,ty,q1⟩:=hpt;obtain⟨h1,h2⟩:=rk I1 r1 ty;exact⟨T,id,pa,slot,hty,h1,h2,callWith_builtin rfl (PySem.evalArgs_none (hm pins s1 σ H1 x [] v [] Q I1 r1 .nil q1))⟩
theorem dm(pa:PlainAttrs T)(slot:Slot T name id)(hty:typeOf (.builtin id)=pure (.type "method_descriptor"))(hm:MtR X id r)(ho:PE X o to)(ha:PA X (e::es) t)(hbase:attributeBase o name X.env (eval o X.env)=eval o X.env:=by rfl)(hfew:((backTo cpos (starEach (e::es) X.env)).all (λx=>!x.1)&&(backToKw cpos (keywordEach [] X.env)).all (λx=>x.1.isSome)
   && decide ((e::es).length+([]:List Keyword).length+(if ([]:List Keyword).isEmpty then 0 else 1)<30))=true:=by rfl)(hline:(apos.endLine==cpos.line)=true:=by rfl)(hs:starEach (e::es) X.env=(false,eval e X.env)::starEach es X.env:=by rfl)(hplain:(backTo cpos (starEach es X.env)).any (·.1)=false:=by rfl):
  PE X (.Call (.Attribute o name apos) (e::es) [] cpos) (tBM X.K T r to t):=by
 intro pins s σ H Q I h;refine wpAny_Call_method_late hbase hfew hline rfl (thn (ho pins s σ H _ I h) λv s1 hpt=>?_);obtain⟨x,H1,I1,r1,ty,q1⟩:=hpt;obtain⟨h1,h2⟩:=rk I1 r1 ty;refine⟨T,id,pa,slot,hty,h1,h2,?_⟩;have hA:=ha cpos pins s1 σ H1 _ I1 q1;rw[hs]at hA⊢;refine callWith_builtin (by show(false||(backTo cpos (starEach es X.env)).any (·.1))=false;rw[hplain]<;>rfl) (evalArgs_plain ?_);exact thn hA λus s2 ⟨vs,H2,I2,r2,q2⟩=>hm pins s2 σ H2 x vs v us Q I2 r1 r2 q2
end
def MtM(X:Cx)(id:String)(r:V→List V→Hp→VK→Prop):Prop :=
 ∀(pins:List (Addr×Obj))(s:Shared)(σ:St)(H:Hp)(x:V)(xs:List V)(v:Value)(us:List Value)(Q:VK),Inv X pins σ H s→aB x v→ar xs us→r x xs H Q →
  wpAny (model X.prog X.w) X.A (call (.builtin id) (v::us)) (EP X pins σ Q) X.xe s
theorem ar.one:∀{x:V}{us:List Value},ar [x] us→∃u,us=[u]∧aB x u
 |_,_,.cons r .nil=>⟨_,rfl,r⟩
theorem ar.two:∀{x y:V}{us:List Value},ar [x,y] us→∃u v,us=[u,v]∧aB x u∧aB y v
 |_,_,_,.cons r (.cons q .nil)=>⟨_,_,rfl,r,q⟩
theorem ar.zero:∀{us:List Value},ar [] us→us=[]
 |_,.nil=>rfl
theorem ar.dropLast{xs:List V}{us:List Value}(h:ar xs us):ar xs.dropLast us.dropLast:=by
 induction h with
 |nil=>exact .nil
 |cons r t ih =>
  cases t with
  |nil=>exact .nil
  |cons q t'=>exact .cons r ih
theorem ar.eraseIdx:∀{xs:List V}{us:List Value}(i:Nat),ar xs us→ar (xs.eraseIdx i) (us.eraseIdx i)
 |_,_,_,.nil=>.nil
 |_,_,0,.cons _ t=>t
 |_,_,i+1,.cons r t=>.cons r (ar.eraseIdx i t)
theorem ar.reverse{xs:List V}{us:List Value}(h:ar xs us):ar xs.reverse us.reverse:=by
 induction h with
 |nil=>exact .nil
 |cons r t ih=>rw[List.reverse_cons,List.reverse_cons];exact ar.append ih (.cons r .nil)
theorem nS{α:Type}(l:List α):l.eraseIdx (l.length-1)=l.dropLast:=by
 induction l with
 |nil=>rfl
 |cons a r ih =>
  cases r with
  |nil=>rfl
  |cons b r =>
   have e:(a::b::r).length-1=((b::r).length-1)+1:=by
    have h1:(a::b::r).length=r.length+2:=rfl;have h2:(b::r).length=r.length+1:=rfl;omega
   rw[e,List.eraseIdx_cons_succ,ih]
   all_goals rfl
theorem jP{α:Type}:∀(l:List α)(i:Nat),(l.eraseIdx i).length≤l.length
 |[],_=>le_refl _
 |_::_,0=>le_succ _
 |_::r,i+1=>Nat.succ_le_succ (jP r i)
section
variable{X:Cx}{pins:List (Addr×Obj)}{σ:St}{H:Hp}{s:Shared}{l b:Addr}{xs ys zs:List V}
theorem Inv.lset{its its':List Value}{n:Nat}{f:Array Value→Array Value}{t':Nat}(I:Inv X pins σ H s)(hH:H l=some (.lst xs))(e:s.heap.get? l=some {cls:=.type "list",data:=.seq its.toArray n})(hf:f its.toArray=its'.toArray)(hv:ar ys its')(hz:ys.length≤sizeLine):
  Inv X pins σ (upd H l (.lst ys)) {s with heap:=s.heap.update l (Obj.mapSeq f),toks:=t'}:=by
 have q:=PySem.IsL.update e f;rw[hf]at q;refine I.write (x:=l) (e:=l) (by rw[hH];exact trivial) (.inl rfl) (λb' u hb hu=>(Heap.get?_update_other s.heap (Obj.mapSeq f) (symm hb)).trans hu) ⟨_,q⟩ ?_;exact⟨hz,its',_,hv,q⟩
theorem Inv.lnew{its:List Value}{t':Nat}(I:Inv X pins σ H s)(hv:ar ys its)(hz:ys.length≤sizeLine):
  Inv X pins σ (upd H s.heap.objs.size (.lst ys)) {s with heap:=s.heap.push {cls:=.type "list",data:=.seq its.toArray},toks:=t'} :=
 I.laid (λ_ _ q=>get?_push_of_some _ q) (le_refl _) ⟨hz,its,0,hv,get?_push_size _ rfl⟩
theorem Inv.fresh(I:Inv X pins σ H s):H s.heap.objs.size=none:=I.hok.fresh (le_refl _)
theorem Inv.lstM(I:Inv X pins σ H s)(hH:H l=some (.lst xs)):xs.length≤sizeLine∧∃(its:List Value) (n:Nat),ar xs its∧xs.length=its.length∧s.heap.get? l=some {cls:=.type "list",data:=.seq its.toArray n}:=by
 obtain⟨z,its,n,r,e⟩:=I.hok l _ hH;exact⟨z,its,n,r,r.length,e⟩
theorem rm{n:Nat}(h:n≤sizeLine):Builtin.List.listTooLong n=false:=by
 unfold Builtin.List.listTooLong;exact decide_eq_false (by omega)
def tZ:V→List V→Hp→VK→Prop:=λx vs H Q=>∃l xs y,x=.ref l∧vs=[y]∧H l=some (.lst xs)∧xs.length<sizeLine∧Q .non (upd H l (.lst (xs++[y])))
theorem bv:MtM X "list.append" tZ:=by
 intro pins s σ H x vs v us Q I rx rv h;obtain⟨l,xs,y,rfl,rfl,hH,hz,q⟩:=h;cases rx;obtain⟨u,rfl,ru⟩:=rv.one;obtain⟨z,its,n,r,hl,e⟩:=I.lstM hH;refine call_meets F.slot_list_append ⟨_,e,rfl⟩ F.entry_list_append (F.args_list_append_2 _ _) (PySem.list_append l its.toArray n u (by rw[size_toArray];omega)) ⟨e,?_⟩;refine⟨.non,_,I.lset (its':=its++[u]) hH e (by simp) (r.append (.cons ru .nil)) ?_,rfl,q⟩;rw[length_append,length_singleton];omega
def ua:V→List V→Hp→VK→Prop:=λx vs H Q=>∃l b xs zs,x=.ref l∧vs=[.ref b]∧H l=some (.lst xs)∧H b=some (.lst zs)∧xs.length+zs.length≤sizeLine∧Q .non (upd H l (.lst (xs++zs)))
theorem qh:MtM X "list.extend" ua:=by
 intro pins s σ H x vs v us Q I rx rv h;obtain⟨l,b,xs,zs,rfl,rfl,hH,hB,hz,q⟩:=h;cases rx;obtain⟨u,rfl,ru⟩:=rv.one;cases ru;obtain⟨z,its,n,r,hl,e⟩:=I.lstM hH;obtain⟨z2,its2,n2,r2,hl2,e2⟩:=I.lstM hB;have hsz:its.toArray.size+its2.toArray.size≤sizeLine:=by rw[size_toArray,size_toArray];omega
 have hlong:¬(!its.toArray.isEmpty&&Builtin.List.listTooLong (its.toArray.size+its2.toArray.size))=true:=by
  rw[rm hsz,Bool.and_false];exact Bool.false_ne_true
 refine call_meets F.slot_list_extend ⟨_,e,rfl⟩ F.entry_list_extend (F.args_list_extend_2 _ _)
  (AutoSeq1.list_extend_list_list_0 l its.toArray n b its2.toArray n2 hlong (by rw[size_toArray];omega) (by omega)) ⟨e,e2,?_⟩
 refine⟨.non,_,I.lset (its':=its++its2) hH e (by simp) (r.append r2) ?_,rfl,q⟩;rw[length_append];omega
def yY:V→List V→Hp→VK→Prop:=λx vs H Q=>∃l xs y,x=.ref l∧vs=[]∧H l=some (.lst xs)∧xs[xs.length-1]?=some y∧Q y (upd H l (.lst xs.dropLast))
theorem wt:MtM X "list.pop" yY:=by
 intro pins s σ H x vs v us Q I rx rv h;obtain⟨l,xs,y,rfl,rfl,hH,hy,q⟩:=h;cases rx;have hus:=rv.zero;subst hus;obtain⟨z,its,n,r,hl,e⟩:=I.lstM hH;obtain⟨u,hu,ru⟩:=r.get hy;have hy':its.toArray[its.toArray.size-1]?=some u:=by
  show its.toArray[its.length-1]?=some u;rw[←getElem?_toList,←hl];exact hu
 refine call_meets F.slot_list_pop ⟨_,e,rfl⟩ F.entry_list_pop (F.args_list_pop_1 _) (MeetsSeq.list_pop_last l its.toArray n u hy' (by rw[size_toArray];omega)) ⟨e,?_⟩;refine⟨y,_,I.lset (its':=its.dropLast) hH e ?_ r.dropLast ?_,ru,q⟩
 ·show its.toArray.eraseIdxIfInBounds (its.toArray.size-1)=its.dropLast.toArray;rw[size_toArray,List.eraseIdxIfInBounds_toArray,nS]
 ·rw[List.length_dropLast];omega
def wu:V→List V→Hp→VK→Prop:=λx vs H Q=>∃l xs i k y,x=.ref l∧vs=[.int i]∧H l=some (.lst xs)∧-(2 ^ 63)≤i∧i<2 ^ 63∧seqIndex? i xs.length=some k∧xs[k]?=some y∧Q y (upd H l (.lst (xs.eraseIdx k)))
theorem rn:MtM X "list.pop" wu:=by
 intro pins s σ H x vs v us Q I rx rv h;obtain⟨l,xs,i,k,y,rfl,rfl,hH,h1,h2,hk,hy,q⟩:=h;cases rx;obtain⟨u,rfl,ru⟩:=rv.one;obtain⟨t,rfl⟩:=ru;obtain⟨z,its,n,r,hl,e⟩:=I.lstM hH;obtain⟨w,hw,rw'⟩:=r.get hy;refine call_meets F.slot_list_pop ⟨_,e,rfl⟩ F.entry_list_pop (F.args_list_pop_2 _ _)
  (MeetsSeq.list_pop_at l its.toArray n i t k w (fitsIndex_both h1 h2) (by rw[size_toArray,←hl];exact hk) (by rw[←getElem?_toList];exact hw) (by rw[size_toArray];omega)) ⟨e,?_⟩
 refine⟨y,_,I.lset (its':=its.eraseIdx k) hH e ?_ (r.eraseIdx k) ?_,rw',q⟩
 ·show its.toArray.eraseIdxIfInBounds k=(its.eraseIdx k).toArray;rw[List.eraseIdxIfInBounds_toArray]
 ·have:=jP xs k;omega
def yZ:R2:=λx y H Q=>∃l b xs zs,x=.ref l∧y=.ref b∧H l=some (.lst xs)∧H b=some (.lst zs)∧xs.length+zs.length≤sizeLine∧∀p,H p=none→Q (.ref p) (upd H p (.lst (xs++zs)))
theorem ro:OpR X (binaryOp .Add) yZ:=by
 intro pins s σ H x y v u Q I rx ry h;obtain⟨l,b,xs,zs,rfl,rfl,hH,hB,hz,q⟩:=h;cases rx;cases ry;obtain⟨z,its,n,r,hl,e⟩:=I.lstM hH;obtain⟨z2,its2,n2,r2,hl2,e2⟩:=I.lstM hB;refine PySem.P.add_list e e2 ?_ (by rw[size_toArray,size_toArray];omega);have ea:its.toArray++its2.toArray=(its++its2).toArray:=by simp
 rw[ea];exact⟨.ref _,_,I.lnew (t':=s.toks) (r.append r2) (by rw[length_append];omega),rfl,q _ I.fresh⟩
end
section
variable{prog:Program}{w:World}{A:Around}{E:Value→Shared→Prop}{s:Shared}
end
section
variable{X:Cx}
end
section
variable{κ:Type}[DecidableEq κ]
def aN(kvs:List (κ×V))(k:κ):Option V:=(kvs.find? λkv=>decide (kv.1=k)).map (·.2)
def br(kvs:List (κ×V))(k:κ)(v:V):List (κ×V) :=
 if (kvs.any λkv=>decide (kv.1=k))=true then kvs.map (λkv=>if kv.1=k then (kv.1,v)else kv)else kvs++[(k,v)]
def cG(kvs:List (κ×V))(k:κ):List (κ×V):=kvs.filter λkv=>decide (kv.1≠k)
theorem aW{p:κ×V}{r:List (κ×V)}{k:κ}(e:p.1=k):aN (p::r) k=some p.2:=by simp[aN,find?_cons,e]
theorem aO{p:κ×V}{r:List (κ×V)}{k:κ}(e:¬p.1=k):aN (p::r) k=aN r k:=by simp[aN,find?_cons,e]
theorem eN(k:κ):∀kvs:List (κ×V),(kvs.any λkv=>decide (kv.1=k))=(aN kvs k).isSome
 |[]=>rfl
 |p::r=>by
  rw[any_cons]
  by_cases e:p.1=k
  ·simp only[aW e,decide_eq_true e,Bool.true_or,Option.isSome_some]
  ·rw[aO e,decide_eq_false e,Bool.false_or];exact eN k r
theorem lO(k j:κ)(y:V):∀kvs:List (κ×V),aN (kvs.map λkv=>if kv.1=k then (kv.1,y)else kv) j=(aN kvs j).map λx=>if j=k then y else x
 |[]=>rfl
 |p::r=>by
  have ih:=lO k j y r;rw[map_cons]
  by_cases h:p.1=k
  ·rw[if_pos h]
   by_cases e:p.1=j
   ·rw[aW (p:=(p.1,y)) e,aW e,map_some,if_pos (e.symm.trans h)]
   ·rw[aO (p:=(p.1,y)) e,aO e,ih]
  ·rw[if_neg h]
   by_cases e:p.1=j
   ·rw[aW (p:=p) e,aW e,map_some,if_neg (λz=>h (e.trans z))]
   ·rw[aO (p:=p) e,aO e,ih]
theorem jQ(k j:κ)(y:V):∀kvs:List (κ×V),aN kvs k=none→aN (kvs++[(k,y)]) j=if j=k then some y else aN kvs j
 |[],_=>by
  by_cases e:k=j
  ·rw[if_pos e.symm];exact aW (p:=(k,y)) e
  ·rw[if_neg (λz=>e z.symm)];exact aO (p:=(k,y)) e
 |p::r,hn=>by
  rw[List.cons_append];have hk:¬p.1=k:=λz=>by rw[aW z]at hn;cases hn
  rw[aO hk]at hn;have ih:=jQ k j y r hn
  by_cases e:p.1=j
  ·rw[aW e,aW e,if_neg (λz=>hk (e.trans z))]
  ·rw[aO e,aO e,ih]
theorem gg(kvs:List (κ×V))(k j:κ)(y:V):aN (br kvs k y) j=if j=k then some y else aN kvs j:=by
 unfold br
 by_cases a:(kvs.any λkv=>decide (kv.1=k))=true
 ·rw[if_pos a,lO];rw[eN]at a
  by_cases e:j=k
  ·obtain⟨x,hx⟩:=isSome_iff_exists.mp a;rw[if_pos e,e,hx,map_some,if_pos rfl]
  ·rw[if_neg e];cases aN kvs j with
   |none=>rfl
   |some x=>rw[map_some,if_neg e]
 ·rw[if_neg a];refine jQ k j y kvs ?_;rw[eN]at a;cases q:aN kvs k with
  |none=>rfl
  |some x=>rw[q]at a;exact(a rfl).elim
theorem cr(kvs:List (κ×V))(k:κ)(v:V):(br kvs k v).length≤kvs.length+1:=by
 unfold br
 split
 ·rw[length_map];omega
 ·rw[length_append,length_cons,length_nil];omega
theorem iU{kvs:List (κ×V)}{k:κ}(v:V)(h:aN kvs k=none):br kvs k v=kvs++[(k,v)]:=by
 unfold br;rw[eN,h];exact if_neg (by decide)
theorem fi.isSome_eq{o:Option V}{u:Option Value}(r:fi o u):o.isSome=u.isSome:=by
 cases o with
 |none=>cases u with
  |none=>rfl
  |some _=>exact(show False from r).elim
 |some _=>cases u with
  |none=>exact(show False from r).elim
  |some _=>rfl
theorem fi.getD{o:Option V}{u:Option Value}{d:V}{d':Value}(r:fi o u)(rd:aB d d'):aB (o.getD d) (u.getD d'):=by
 cases o with
 |none=>cases u with
  |none=>exact rd
  |some _=>exact(show False from r).elim
 |some _=>cases u with
  |none=>exact(show False from r).elim
  |some _=>exact r
theorem KV.val{kvs:List (κ×V)}{vs:List (κ×Value)}(r:KV kvs vs)(k:κ):fi (aN kvs k) (valueAt vs k):=by
 unfold KV at r
 induction r with
 |nil=>exact True.intro
 |@cons p q ps qs h t ih =>
  obtain⟨h1,h2⟩:=h
  by_cases e:p.1=k
  ·have e':q.1=k:=h1.symm.trans e;have b:valueAt (q::qs) k=some q.2:=by simp[valueAt,find?_cons,e']
   rw[aW e,b];exact h2
  ·have e':¬q.1=k:=λz=>e (h1.trans z);have b:valueAt (q::qs) k=valueAt qs k:=by simp[valueAt,find?_cons,e']
   rw[aO e,b];exact ih
theorem KV.any{kvs:List (κ×V)}{vs:List (κ×Value)}(r:KV kvs vs)(k:κ):(kvs.any λkv=>decide (kv.1=k))=vs.any λkv=>decide (kv.1=k):=by
 unfold KV at r
 induction r with
 |nil=>rfl
 |cons h t ih=>rw[any_cons,any_cons,ih,h.1]
theorem KV.repl{kvs:List (κ×V)}{vs:List (κ×Value)}(r:KV kvs vs)(k:κ){y:V}{u:Value}(ry:aB y u):
  KV (kvs.map λkv=>if kv.1=k then (kv.1,y)else kv) (vs.map λkv=>if kv.1=k then (kv.1,u)else kv):=by
 unfold KV at r⊢
 induction r with
 |nil=>exact .nil
 |@cons p q ps qs h t ih =>
  rw[map_cons,map_cons];refine .cons ?_ ih;obtain⟨h1,h2⟩:=h
  by_cases e:p.1=k
  ·rw[if_pos e,if_pos (h1.symm.trans e)];exact⟨h1,ry⟩
  ·rw[if_neg e,if_neg (λz=>e (h1.trans z))];exact⟨h1,h2⟩
theorem KV.put{kvs:List (κ×V)}{vs:List (κ×Value)}(r:KV kvs vs)(k:κ){y:V}{u:Value}(ry:aB y u):KV (br kvs k y) (stored vs k u):=by
 unfold br stored;rw[r.any k]
 by_cases e:(vs.any λkv=>decide (kv.1=k))=true
 ·rw[if_pos e,if_pos e];exact r.repl k ry
 ·rw[if_neg e,if_neg e];exact Paired.snoc r ⟨rfl,ry⟩
theorem KV.drop{kvs:List (κ×V)}{vs:List (κ×Value)}(r:KV kvs vs)(k:κ):KV (cG kvs k) (without vs k):=by
 unfold KV at r⊢;unfold cG without
 induction r with
 |nil=>exact .nil
 |@cons p q ps qs h t ih =>
  obtain⟨h1,h2⟩:=h;rw[filter_cons,filter_cons]
  by_cases e:p.1=k
  ·have a:¬decide (p.1≠k)=true:=by simp[e]
   have b:¬decide (q.1≠k)=true:=by simp[h1.symm.trans e]
   rw[if_neg a,if_neg b];exact ih
  ·have e':¬q.1=k:=λz=>e (h1.trans z);have a:decide (p.1≠k)=true:=by simp[e]
   have b:decide (q.1≠k)=true:=by simp[e']
   rw[if_pos a,if_pos b];exact .cons ⟨h1,h2⟩ ih
theorem KV.length{kvs:List (κ×V)}{vs:List (κ×Value)}(r:KV kvs vs):kvs.length=vs.length:=Paired.length r
theorem lP(kvs:List (κ×V))(k:κ):(cG kvs k).length≤kvs.length:=length_filter_le _ _
end
theorem fq{P:Program}{w:World}{k:Key}{u:Value}(r:aB (kV k) u):(ap P w).is k u=true:=by
 cases k with
 |inl i=>obtain⟨t,e⟩:=(show ∃t,u=Value.int i t from r);subst e;exact lG P w i t
 |inr x=>obtain⟨t,e⟩:=(show ∃t,u=Value.str x t from r);subst e;exact lH P w x t
theorem wv{a b:Key}(e:kV a=kV b):a=b:=by
 cases a with
 |inl i=>cases b with
  |inl j=>have e':V.int i=V.int j:=e;injection e' with e';rw[e']
  |inr y=>exact nomatch (show V.int i=V.str y from e)
 |inr x=>cases b with
  |inl j=>exact nomatch (show V.str x=V.int j from e)
  |inr y=>have e':V.str x=V.str y:=e;injection e' with e';rw[e']
theorem kO:∀{a b:List Key},a.map kV=b.map kV→a=b
 |[],[],_=>rfl
 |[],_::_,e=>by simp at e
 |_::_,[],e=>by simp at e
 |x::xs,y::ys,e=>by
  rw[map_cons,map_cons]at e;injection e with e1 e2
  rw[wv e1,kO e2]
theorem gQ{P:Program}{w:World}:∀{ks:List Key}{us:List Value},ar (ks.map kV) us→ItemsAre (ap P w) ks us
 |[],_,r=>by rw[map_nil]at r;cases r;exact .nil
 |k::ks,_,r=>by
  rw[map_cons]at r;cases r with
  |cons h t=>exact .cons (fq h) (gQ t)
abbrev KT(H:Hp):List (List Key×V)→List (List Key×Addr×Value)→Prop:=Paired λp q=>p.1=q.1∧H q.2.1=some (.tup (p.1.map kV))∧aB p.2 q.2.2
theorem KT.val{H:Hp}{kvs:List (List Key×V)}{xs:List (List Key×Addr×Value)}(r:KT H kvs xs)(k:List Key):fi (aN kvs k) ((atKey xs k).map (·.2)):=by
 induction r with
 |nil=>exact True.intro
 |@cons p q ps qs h t ih =>
  obtain⟨h1,_,h2⟩:=h
  by_cases e:p.1=k
  ·have e':q.1=k:=h1.symm.trans e;have b:atKey (q::qs) k=some q.2:=by simp[atKey,find?_cons,e']
   rw[aW e,b];exact h2
  ·have e':¬q.1=k:=λz=>e (h1.trans z);have b:atKey (q::qs) k=atKey qs k:=by simp[atKey,find?_cons,e']
   rw[aO e,b];exact ih
theorem KT.repl{H:Hp}{kvs:List (List Key×V)}{xs:List (List Key×Addr×Value)}(r:KT H kvs xs)(k:List Key){y:V}{u:Value}(ry:aB y u):
  KT H (kvs.map λkv=>if kv.1=k then (kv.1,y)else kv) (xs.map (putAt k u)):=by
 induction r with
 |nil=>exact .nil
 |@cons p q ps qs h t ih =>
  rw[map_cons,map_cons];refine .cons ?_ ih;obtain⟨h1,h2,h3⟩:=h;unfold putAt
  by_cases e:p.1=k
  ·rw[if_pos e,if_pos (h1.symm.trans e)];exact⟨h1,h2,ry⟩
  ·rw[if_neg e,if_neg (λz=>e (h1.trans z))];exact⟨h1,h2,h3⟩
theorem KT.put{H:Hp}{kvs:List (List Key×V)}{xs:List (List Key×Addr×Value)}(r:KT H kvs xs)(k:List Key){b:Addr}{y:V}{u:Value}(hb:H b=some (.tup (k.map kV)))(ry:aB y u):
  KT H (br kvs k y) (storedH xs k b u):=by
 have e:(kvs.any λkv=>decide (kv.1=k))=(atKey xs k).isSome:=by
  rw[eN,(r.val k).isSome_eq,isSome_map]
 unfold br storedH;rw[e]
 by_cases q:(atKey xs k).isSome=true
 ·rw[if_pos q,if_pos q];exact r.repl k ry
 ·rw[if_neg q,if_neg q];exact Paired.snoc r ⟨rfl,hb,ry⟩
theorem KT.keeps{H H':Hp}{kvs:List (List Key×V)}{xs:List (List Key×Addr×Value)}(r:KT H kvs xs)(ht:∀b ys,H b=some (.tup ys)→H' b=some (.tup ys)):KT H' kvs xs :=
 Paired.mapP r λ_ _ z=>⟨z.1,ht _ _ z.2.1,z.2.2⟩
section
variable{P:Program}{w:World}{H:Hp}{h:Heap}{a:Addr}
theorem vF{u:HO}(ok:HOk P w H h)(e:Rd H a u):bi P w H h a u:=e.ok ok
theorem iV{kvs:List (Key×V)}(ok:HOk P w H h)(e:Rd H a (.dK kvs)):kvs.length≤sizeLine∧(a==sysModules)=false∧∃vs,KV kvs vs∧h.DictOf (ap P w) a vs :=
 show bi P w H h a (.dK kvs)from vF ok e
theorem oV{kvs:List (Key×V)}(ok:HOk P w H h)(e:H a=some (.dK kvs)):kvs.length≤sizeLine∧(a==sysModules)=false∧∃vs,KV kvs vs∧h.DictOf (ap P w) a vs:=iV ok (.inl e)
theorem gR{ks:List Key}(ok:HOk P w H h)(e:H a=some (.tup (ks.map kV))):(tupleKind (ap P w)).is h ks a:=by
 obtain⟨_,its,r,o,h1,h2,n,h3⟩:=(show bi P w H h a (.tup (ks.map kV))from ok a _ e);exact⟨o,its.toArray,n,h1,h2,h3,by simpa using gQ r⟩
theorem iW{kvs:List (List Key×V)}(ok:HOk P w H h)(e:Rd H a (.dT kvs)):kvs.length≤sizeLine∧(a==sysModules)=false ∧
  ∃xs,KT H kvs xs∧h.DictOfH (tupleKind (ap P w)) a xs:=by
 obtain⟨z,y,xs,r,o,es,ep,h1,h2,h3,h4,h5⟩:=(show bi P w H h a (.dT kvs)from vF ok e);refine⟨z,y,xs,r,o,es,ep,h1,h2,h3,h4,λx hx=>?_,h5⟩;have all:∀{l:List (List Key×V)}{m:List (List Key×Addr×Value)},KT H l m→∀x∈m,(tupleKind (ap P w)).is h x.1 x.2.1:=by
  intro l m q
  induction q with
  |nil=>intro x hx;exact nomatch hx
  |@cons p q ps qs hq t ih =>
   intro x hx;rcases mem_cons.mp hx with e|hx
   ·subst e;exact gR ok (by rw[←hq.1];exact hq.2.1)
   ·exact ih x hx
 exact all r x hx
theorem xT{kvs:List (List Key×V)}(ok:HOk P w H h)(e:H a=some (.dT kvs)):kvs.length≤sizeLine∧(a==sysModules)=false ∧
  ∃xs,KT H kvs xs∧h.DictOfH (tupleKind (ap P w)) a xs:=iW ok (.inl e)
end
def ci(H:Hp)(a:Addr)(y:V)(r:Option V):Prop :=
 (∃kvs k,Rd H a (.dK kvs)∧y=kV k∧r=aN kvs k)∨∃kvs k b,Rd H a (.dT kvs)∧y=.ref b∧H b=some (.tup (k.map kV))∧r=aN kvs k
def lQ(H:Hp)(a:Addr)(y v:V)(H':Hp):Prop :=
 (∃kvs k,H a=some (.dK kvs)∧y=kV k∧kvs.length<sizeLine∧H'=upd H a (.dK (br kvs k v))) ∨
 ∃kvs k b,H a=some (.dT kvs)∧y=.ref b∧H b=some (.tup (k.map kV))∧kvs.length<sizeLine∧H'=upd H a (.dT (br kvs k v))
theorem ci.k{H:Hp}{a:Addr}{kvs:List (Key×V)}{k:Key}(e:H a=some (.dK kvs)):ci H a (kV k) (aN kvs k):=.inl ⟨kvs,k,.inl e,rfl,rfl⟩
theorem lQ.k{H:Hp}{a:Addr}{kvs:List (Key×V)}{k:Key}{v:V}(e:H a=some (.dK kvs))(hl:kvs.length<sizeLine):lQ H a (kV k) v (upd H a (.dK (br kvs k v))):=.inl ⟨kvs,k,e,rfl,hl,rfl⟩
section
variable{X:Cx}{pins:List (Addr×Obj)}{σ:St}{H:Hp}{s:Shared}{a:Addr}{y v:V}{u r:Value}{o:Option V}{A:Around}{E:Value→Shared→Prop}
theorem Inv.big(I:Inv X pins σ H s):sysModules<s.heap.objs.size:=by
 have h:mainGlobals<s.heap.objs.size:=(I.mod.glob.keeps I.bk).lt;exact lt_trans (by decide) h
theorem qi{Q:Value→Shared→Prop}(hu:A.units+1<cLine)(I:Inv X pins σ H s)(g:ci H a y (some v))(ry:aB y u)(h:∀w' s',Inv X pins σ H s'→aB v w'→Q w' s'):
  wpAny (model X.prog X.w) A (getItem (.ref a) u) Q E s:=by
 rcases g with⟨kvs,k,e,ey,l⟩|⟨kvs,k,b,e,ey,eb,l⟩
 ·subst ey;obtain⟨z,hd,vs,rel,dd⟩:=iV I.hok e;obtain⟨w',hw,rw'⟩:=fi.some_of (v:=v) (o:=valueAt vs k) (by rw[l];exact rel.val k);exact wpAny_getItem_of (fq ry) dd.mapOf hw (h w' _ (I.tok _) rw')
 ·subst ey;cases (show u=Value.ref b from ry);obtain⟨z,hd,xs,rel,dd⟩:=iW I.hok e;obtain⟨w',hw,rw'⟩:=fi.some_of (v:=v) (o:=(atKey xs k).map (·.2)) (by rw[l];exact rel.val k);obtain⟨p,hp,hp2⟩:=Option.map_eq_some_iff.mp hw;refine wpAny_getItem_heap (tupleKind_room_in1 hu) (gR I.hok eb) dd hp ?_;rw[hp2];exact h w' _ (I.tok _) rw'
theorem za{Q:Value→Shared→Prop}(hu:A.units+1<cLine)(I:Inv X pins σ H s)(g:ci H a y o)(ry:aB y u)(h:∀s',Inv X pins σ H s'→Q (.bool o.isSome) s'):
  wpAny (model X.prog X.w) A (compareOp .In u (.ref a)) Q E s:=by
 rcases g with⟨kvs,k,e,ey,l⟩|⟨kvs,k,b,e,ey,eb,l⟩
 ·subst ey;obtain⟨z,hd,vs,rel,dd⟩:=iV I.hok e;refine wpAny_in_of (fq ry) hd dd.mapOf ?_;rw[←(rel.val k).isSome_eq,←l];exact h _ (I.tok _)
 ·subst ey;cases (show u=Value.ref b from ry);obtain⟨z,hd,xs,rel,dd⟩:=iW I.hok e;refine wpAny_in_heap (tupleKind_room_in1 hu) (gR I.hok eb) hd dd ?_;have q:=(rel.val k).isSome_eq;rw[isSome_map]at q;rw[←q,←l];exact h _ (I.tok _)
theorem uc{Q:Value→Shared→Prop}(hu:A.units+1<cLine)(I:Inv X pins σ H s)(g:ci H a y o)(ry:aB y u)(h:∀s',Inv X pins σ H s'→Q (.bool (!o.isSome)) s'):
  wpAny (model X.prog X.w) A (compareOp .NotIn u (.ref a)) Q E s:=by
 rcases g with⟨kvs,k,e,ey,l⟩|⟨kvs,k,b,e,ey,eb,l⟩
 ·subst ey;obtain⟨z,hd,vs,rel,dd⟩:=iV I.hok e;refine wpAny_notIn_of (fq ry) hd dd.mapOf ?_;rw[←(rel.val k).isSome_eq,←l];exact h _ (I.tok _)
 ·subst ey;cases (show u=Value.ref b from ry);obtain⟨z,hd,xs,rel,dd⟩:=iW I.hok e;refine wpAny_notIn_heap (tupleKind_room_in1 hu) (gR I.hok eb) hd dd ?_;have q:=(rel.val k).isSome_eq;rw[isSome_map]at q;rw[←q,←l];exact h _ (I.tok _)
theorem gh{h':Heap}{t':Nat}{ob:HO}(I:Inv X pins σ H s)(mu:Mut (H a))(hs:SameBut a s.heap h')(he:∃q,h'.get? a=some q)(new:bi X.prog X.w (upd H a ob) h' a ob):
  Inv X pins σ (upd H a ob) {s with heap:=h',toks:=t'} :=
 I.write (x:=a) (e:=a) mu (.inl rfl) (λb q hb z=>(hs.2 b hb).trans z) he new
theorem kQ{P:Program}{w:World}{H':Hp}{h':Heap}{kvs:List (Key×V)}{vs:List (Key×Value)}(z:kvs.length≤sizeLine)(hd:(a==sysModules)=false)(rel:KV kvs vs)(dd:h'.DictOf (ap P w) a vs):
  bi P w H' h' a (.dK kvs):=⟨z,hd,vs,rel,dd⟩
theorem qj{H':Hp}{Q:Unit→Shared→Prop}(hu:A.units+1<cLine)(I:Inv X pins σ H s)(g:lQ H a y v H')(ry:aB y u)(rv:aB v r)(h:∀s',Inv X pins σ H' s'→Q () s'):
  wpAny (model X.prog X.w) A (setItem (.ref a) u r) Q E s:=by
 rcases g with⟨kvs,k,e,ey,l,eH⟩|⟨kvs,k,b,e,ey,eb,l,eH⟩
 ·subst ey eH;obtain⟨z,hd,vs,rel,dd⟩:=oV I.hok e;have hz:vs.length≤sizeLine:=by rw[←rel.length];exact z
  have hl:(br kvs k v).length≤sizeLine:=by have:=cr kvs k v;omega
  refine wpAny_setItem_pairs (hsz:=hz) (fq ry) dd λh' dd' hs=>h _ ?_;have he:∃q,h'.get? a=some q:=let⟨q,_,_,hq,_⟩:=dd';⟨q,hq⟩;exact gh I (by rw[e];exact True.intro) hs he (kQ hl hd (rel.put k rv) dd')
 ·subst ey eH;cases (show u=Value.ref b from ry);obtain⟨z,hd,xs,rel,dd⟩:=xT I.hok e;have hz:xs.length≤sizeLine:=by rw[←Paired.length rel];exact z
  have hl:(br kvs k v).length≤sizeLine:=by have:=cr kvs k v;omega
  refine wpAny_setItem_heap (hsz:=hz) (tupleKind_room_in1 hu) (gR I.hok eb) dd λh' dd' hs=>h _ ?_;obtain⟨q,es,ep,hq,h2,h3,h4,_,h5⟩:=dd';refine gh I (by rw[e];exact True.intro) hs ⟨q,hq⟩ ⟨hl,hd,_,(rel.put k eb rv).keeps λc ys ec=>?_,q,es,ep,hq,h2,h3,h4,h5⟩;rw[af (xG ec e (λz=>nomatch z))];exact ec
end
section
variable{X:Cx}{pins:List (Addr×Obj)}{σ:St}{H:Hp}{s:Shared}{a:Addr}{kvs:List (Key×V)}{k:Key}{u:Value}{A:Around}{E:Value→Shared→Prop}
theorem xU{v:V}{more:List Value}{Q:Value→Shared→Prop}(I:Inv X pins σ H s)(e:H a=some (.dK kvs))(ry:aB (kV k) u)(l:aN kvs k=some v)(hm:more=[]∨∃x,more=[x])(h:∀w' s',Inv X pins σ (upd H a (.dK (cG kvs k))) s'→aB v w'→Q w' s'):wpAny (model X.prog X.w) A (call (.builtin "dict.pop") (.ref a::u::more)) Q E s:=by
 obtain⟨z,hd,vs,rel,dd⟩:=oV I.hok e;obtain⟨w',hw,rw'⟩:=fi.some_of (v:=v) (o:=valueAt vs k) (by rw[←l];exact rel.val k);have hp:(keyPart u).isSome=true:=by
  cases k with
  |inl i=>obtain⟨t,q⟩:=(show ∃t,u=Value.int i t from ry);subst q;rfl
  |inr x=>obtain⟨t,q⟩:=(show ∃t,u=Value.str x t from ry);subst q;rfl
 have ha:argsOk "dict.pop" ⟨.ref a::u::more,[]⟩:=by
  rcases hm with q|⟨x,q⟩
  ·subst q;exact PySem.F.args_dict_pop_2 _ _
  ·subst q;exact PySem.F.args_dict_pop_3 _ _ _
 refine call_meetsIn slot_dict_pop dd.typeIs PySem.F.entry_dict_pop ha (meets_dict_pop_there (ap X.prog X.w) a (fq ry) more hm hp)
  ⟨vs,w',dd,by rw[←rel.length];exact z,hw,λh' dd' hs=>h w' _ ?_ rw'⟩
 have he:∃q,h'.get? a=some q:=let⟨q,_,_,hq,_⟩:=dd';⟨q,hq⟩;exact gh I (by rw[e];exact True.intro) hs he (kQ (le_trans (lP kvs k) z) hd (rel.drop k) dd')
theorem wx{r:Value}{Q:Value→Shared→Prop}(I:Inv X pins σ H s)(e:H a=some (.dK kvs))(ry:aB (kV k) u)(l:aN kvs k=none)(h:∀s',Inv X pins σ H s'→Q r s'):
  wpAny (model X.prog X.w) A (call (.builtin "dict.pop") [.ref a,u,r]) Q E s:=by
 obtain⟨z,hd,vs,rel,dd⟩:=oV I.hok e;have hn:valueAt vs k=none:=fi.none_of (by rw[←l];exact rel.val k);have hp:(keyPart u).isSome=true:=by
  cases k with
  |inl i=>obtain⟨t,q⟩:=(show ∃t,u=Value.int i t from ry);subst q;rfl
  |inr x=>obtain⟨t,q⟩:=(show ∃t,u=Value.str x t from ry);subst q;rfl
 exact call_meetsIn slot_dict_pop dd.typeIs PySem.F.entry_dict_pop (PySem.F.args_dict_pop_3 _ _ _) (meets_dict_pop_default (ap X.prog X.w) a (fq ry) hd hp r) ⟨vs,dd,hn,h _ (I.tok _)⟩
end
def xV(i:Expr):Prop:=∀ov iv,subscripted i false ov iv=operate [ov,iv] (getItem ov iv)
theorem ud{prog:Program}{w:World}{A:Around}{E:Value→Shared→Prop}{s:Shared}{env:Env}{value slice:Expr}{pos:Pos}{T id:String}{Q:Value→Shared→Prop}(hl:typeLookup (.type T) "__getitem__"=pure (some (.builtin id)))(hs:xV slice)(h:wpAny (model prog w) A (eval value env) (λo s₁=>wpAny (model prog w) A (eval slice env) (λi s₂=>s₂.TypeIs o T∧wpAny (model prog w) A (getItem o i) Q E s₂) E s₁) E s):
  wpAny (model prog w) A (eval (.Subscript value slice pos) env) Q E s:=by
 refine Subscript_ (wpAny_mono h (λo s₁ h₁=>wpAny_mono h₁ (λi s₂ h₂=>?_) λ_ _ x=>x) λ_ _ x=>x);obtain⟨hT,h₂⟩:=h₂;unfold subscriptTail;refine wpAny_bind ?_;rw[getitemInPython_of_ne hT.not_modules];refine wpAny_bind (wpAny_specialOf hT hl ?_);have fin:wpAny (model prog w) A (subscripted slice false o i) (λr s₃=>wpAny (model prog w) A (letTemporaryGo value o r >>= λ_=>pure r) Q E s₃) E s₂:=by
  rw[hs o i];exact wpAny_operating (wpAny_mono h₂ (λr s₃ h₃=>wpAny_bind (wpAny_letTemporaryGo (wpAny_pure h₃))) λ_ _ x=>x)
 first
  |exact wpAny_pure (wpAny_bind fin)
  |exact wpAny_bind (wpAny_pure (wpAny_bind fin))
  |exact wpAny_bind fin
theorem lR{X:Cx}{pins:List (Addr×Obj)}{σ:St}{H:Hp}{s:Shared}{a:Addr}{y:V}{o:Option V}(I:Inv X pins σ H s)(g:ci H a y o):s.TypeIs (.ref a) "dict":=by
 rcases g with⟨kvs,k,e,_,_⟩|⟨kvs,k,b,e,_,_,_⟩
 ·obtain⟨_,_,vs,_,dd⟩:=iV I.hok e;exact dd.typeIs
 ·obtain⟨_,_,xs,_,dd⟩:=iW I.hok e;exact dd.typeIs
def xW(td ty:TE):TE:=λσ H Q=>td σ H λx H1=>ty σ H1 λy H2=>∃a v,x=.ref a∧ci H2 a y (some v)∧Q v H2
def zb(ty td:TE):TE:=λσ H Q=>ty σ H λy H1=>td σ H1 λx H2=>∃a o,x=.ref a∧ci H2 a y o∧Q (.bl o.isSome) H2
def ue(ty td:TE):TE:=λσ H Q=>ty σ H λy H1=>td σ H1 λx H2=>∃a o,x=.ref a∧ci H2 a y o∧Q (.bl (!o.isSome)) H2
def xX(td ty tv:TE):TS:=λD σ H=>tv σ H λv H1=>td σ H1 λx H2=>ty σ H2 λy H3=>∃a H4,x=.ref a∧lQ H3 a y v H4∧D.nx σ H4
section
variable{X:Cx}{o i e value:Expr}{pos pos' tpos:Pos}{td ty tv:TE}
theorem aZ(hu:X.A.units+1<cLine)(ho:PE X o td)(hi:PE X i ty)(hs:xV i):PE X (.Subscript o i pos) (xW td ty):=by
 intro pins s σ H Q I h;refine ud PySem.F.slot_dict_getitem.lookup hs (thn (ho pins s σ H _ I h) λu s1 ⟨x,H1,I1,rx,q1⟩=>thn (hi pins s1 σ H1 _ I1 q1) λiv s2 hpt=>?_);obtain⟨y,H2,I2,ry,a,v,ex,g,q2⟩:=hpt;subst ex;obtain rfl:u=Value.ref a:=rx;exact⟨lR I2 g,qi hu I2 g ry λw' s3 I3 rw'=>⟨v,H2,I3,rw',q2⟩⟩
theorem nT(hu:X.A.units+1<cLine)(hi:PE X i ty)(ho:PE X o td):PC X .In i o (zb ty td):=by
 intro pins s σ H Q I h;refine thn (hi pins s σ H _ I h) λiv s1 ⟨y,H1,I1,ry,q1⟩=>thn (ho pins s1 σ H1 _ I1 q1) λu s2 hpt=>?_;obtain⟨x,H2,I2,rx,a,ov,ex,g,q2⟩:=hpt;subst ex;obtain rfl:u=Value.ref a:=rx;exact za hu I2 g ry λs3 I3=>⟨.bl ov.isSome,H2,I3,rfl,q2⟩
theorem jR(hu:X.A.units+1<cLine)(hi:PE X i ty)(ho:PE X o td):PC X .NotIn i o (ue ty td):=by
 intro pins s σ H Q I h;refine thn (hi pins s σ H _ I h) λiv s1 ⟨y,H1,I1,ry,q1⟩=>thn (ho pins s1 σ H1 _ I1 q1) λu s2 hpt=>?_;obtain⟨x,H2,I2,rx,a,ov,ex,g,q2⟩:=hpt;subst ex;obtain rfl:u=Value.ref a:=rx;exact uc hu I2 g ry λs3 I3=>⟨.bl (!ov.isSome),H2,I3,rfl,q2⟩
theorem iG(hu:X.A.units+1<cLine)(ho:PE X o td)(hi:PE X i ty)(hv:PE X value tv)(hs:swapsWith value (some (.Subscript o i pos')) pos.line X.env=pure false):
  PS X (.Assign [.Subscript o i pos'] value pos) (xX td ty tv):=by
 intro pins s σ H D I h;refine wpAny_Assign_Subscript (thn (hv pins s σ H _ I h) λr s1 ⟨v,H1,I1,rv,q1⟩=>thn (ho pins s1 σ H1 _ I1 q1) λu s2 ⟨x,H2,I2,rx,q2⟩=>thn (hi pins s2 σ H2 _ I2 q2) λiv s3 ⟨y,H3,I3,ry,a,H4,ex,g,q3⟩=>?_) hs;subst ex;obtain rfl:u=Value.ref a:=rx;exact qj hu I3 g ry rv λs4 I4=>⟨σ,H4,I4,q3⟩
end
theorem rp{P:Program}{w:World}{H:Hp}(h:Heap)(hb:sysModules<h.objs.size):bi P w H (h.push {cls:=.type "dict",data:=.dict #[]}) h.objs.size (.dK []) :=
 ⟨zero_le _,beq_eq_false_iff_ne.mpr (symm (ne_of_lt hb)),[],.nil,Heap.DictOf.new h⟩
def wy:TE:=λ_ H Q=>∀p,H p=none→Q (.ref p) (upd H p (.dK []))
section
variable{X:Cx}{pos:Pos}
theorem dq:PE X (.Dict [] [] pos) wy:=λpins s σ H Q I h =>
 wpAny_Dict_empty ⟨.ref s.heap.objs.size,_,I.laid (a:=s.heap.objs.size) (o:=.dK []) (t':=s.toks) (λ_ _ q=>get?_push_of_some _ q) (le_refl _) (rp s.heap I.big),rfl,h _ (I.hok.fresh (le_refl _))⟩
end
structure M1(X:Cx)(o:Expr)(m:Str)(apos:Pos)(e:Expr)(cpos:Pos):Prop where
 base:attributeBase o m X.env (eval o X.env)=eval o X.env
 few:((backTo cpos (starEach [e] X.env)).all (λx=>!x.1)&&(backToKw cpos (keywordEach [] X.env)).all (λx=>x.1.isSome)
  && decide (([e]:List Expr).length+([]:List Keyword).length+(if ([]:List Keyword).isEmpty then 0 else 1)<30))=true
 line:(apos.endLine==cpos.line)=true
 trees:backTo cpos (starEach [e] X.env)=[(false,eval e X.env)]
structure M2(X:Cx)(o:Expr)(m:Str)(apos:Pos)(e f:Expr)(cpos:Pos):Prop where
 base:attributeBase o m X.env (eval o X.env)=eval o X.env
 few:((backTo cpos (starEach [e,f] X.env)).all (λx=>!x.1)&&(backToKw cpos (keywordEach [] X.env)).all (λx=>x.1.isSome)
  && decide (([e,f]:List Expr).length+([]:List Keyword).length+(if ([]:List Keyword).isEmpty then 0 else 1)<30))=true
 line:(apos.endLine==cpos.line)=true
 trees:backTo cpos (starEach [e,f] X.env)=[(false,eval e X.env),(false,eval f X.env)]
def IsD(H:Hp)(a:Addr):Prop:=(∃kvs,Rd H a (.dK kvs))∨∃kvs,Rd H a (.dT kvs)
theorem rq{X:Cx}{pins:List (Addr×Obj)}{σ:St}{H:Hp}{s:Shared}{a:Addr}(I:Inv X pins σ H s)(d:IsD H a):
  s.TypeIs (.ref a) "dict"∧(∀b,Value.ref a=.ref b→∃ob,s.heap.get? b=some ob∧ob.dict=none)∧(a==sysModules)=false:=by
 rcases d with⟨kvs,e⟩|⟨kvs,e⟩
 ·obtain⟨_,hd,vs,_,dd⟩:=iV I.hok e;refine⟨dd.typeIs,λb q=>?_,hd⟩;cases q;obtain⟨ob,_,_,h1,h2,_⟩:=dd;exact⟨ob,h1,h2.2.1⟩
 ·obtain⟨_,hd,xs,_,dd⟩:=iW I.hok e;refine⟨dd.typeIs,λb q=>?_,hd⟩;cases q;obtain⟨ob,_,_,h1,h2,_⟩:=dd;exact⟨ob,h1,h2.2.1⟩
section
variable{X:Cx}{pins:List (Addr×Obj)}{σ:St}{H:Hp}{s:Shared}{a:Addr}{y d:V}{u r:Value}{o:Option V}{A:Around}{E:Value→Shared→Prop}
theorem wz{Q:Value→Shared→Prop}(hu:A.units+1<cLine)(I:Inv X pins σ H s)(g:ci H a y o)(ry:aB y u)(h:∀w' s',Inv X pins σ H s'→aB (o.getD .non) w'→Q w' s'):
  wpAny (model X.prog X.w) A (call (.builtin "dict.get") [.ref a,u]) Q E s:=by
 rcases g with⟨kvs,k,e,ey,l⟩|⟨kvs,k,b,e,ey,eb,l⟩
 ·subst ey;obtain⟨z,hd,vs,rel,dd⟩:=iV I.hok e;refine call_meetsIn slot_dict_get dd.typeIs PySem.F.entry_dict_get (PySem.F.args_dict_get_2 _ _) (meets_dict_get (ap X.prog X.w) a (fq ry) hd) ⟨_,dd.mapOf,h _ _ (I.tok _) ?_⟩;rw[l];exact(rel.val k).getD rfl
 ·subst ey;cases (show u=Value.ref b from ry);obtain⟨z,hd,xs,rel,dd⟩:=iW I.hok e;refine call_meetsIn slot_dict_get dd.typeIs PySem.F.entry_dict_get (PySem.F.args_dict_get_2 _ _) (meetsH_dict_get (tupleKind (ap X.prog X.w)) a b hd) ⟨tupleKind_room_in1 hu,k,xs,gR I.hok eb,dd,h _ _ (I.tok _) ?_⟩;rw[l];exact(rel.val k).getD rfl
end
def wA(td ty:TE):TE:=λσ H Q=>td σ H λx H1=>∃a,x=.ref a∧IsD H1 a∧ty σ H1 λy H2=>∃o,ci H2 a y o∧Q (o.getD .non) H2
def wB(td ty tx:TE):TE:=λσ H Q=>td σ H λx H1=>∃a,x=.ref a∧IsD H1 a∧ty σ H1 λy H2=>tx σ H2 λz H3=>∃kvs k,H3 a=some (.dK kvs)∧y=kV k ∧
 (∀v,aN kvs k=some v→Q v (upd H3 a (.dK (cG kvs k))))∧(aN kvs k=none→Q z H3)
section
variable{X:Cx}{o e f:Expr}{apos cpos:Pos}{td ty tx:TE}
theorem rA(hu:X.A.units+1<cLine)(ho:PE X o td)(he:PE X e ty)(m:M1 X o "get" apos e cpos):PE X (.Call (.Attribute o "get" apos) [e] [] cpos) (wA td ty):=by
 intro pins s σ H Q I h;refine wpAny_Call_method m.base m.few m.line plainAttrs_dict slot_dict_get PySem.F.type_dict_get (thn (ho pins s σ H _ I h) λu s1 hpt=>?_);obtain⟨x,H1,I1,rx,a,ex,d,q1⟩:=hpt;subst ex;obtain rfl:u=Value.ref a:=rx;obtain⟨t1,t2,_⟩:=rq I1 d;refine⟨t1,t2,?_⟩;rw[m.trees];refine callWith_builtin rfl (evalArgs_plain (spliced_cons (thn (he pins s1 σ H1 _ I1 q1) λiv s2 ⟨y,H2,I2,ry,ov,g,q2⟩=>spliced_nil ?_)));exact wz hu I2 g ry λw' s3 I3 rw'=>⟨_,H2,I3,rw',q2⟩
theorem rB(ho:PE X o td)(he:PE X e ty)(hf:PE X f tx)(m:M2 X o "pop" apos e f cpos):PE X (.Call (.Attribute o "pop" apos) [e,f] [] cpos) (wB td ty tx):=by
 intro pins s σ H Q I h;refine wpAny_Call_method m.base m.few m.line plainAttrs_dict slot_dict_pop PySem.F.type_dict_pop (thn (ho pins s σ H _ I h) λu s1 hpt=>?_);obtain⟨x,H1,I1,rx,a,ex,d,q1⟩:=hpt;subst ex;obtain rfl:u=Value.ref a:=rx;obtain⟨t1,t2,_⟩:=rq I1 d;refine⟨t1,t2,?_⟩;rw[m.trees];refine callWith_builtin rfl (evalArgs_plain (spliced_cons (thn (he pins s1 σ H1 _ I1 q1) λiv s2 ⟨y,H2,I2,ry,q2⟩ =>
  spliced_cons (thn (hf pins s2 σ H2 _ I2 q2) λfv s3 ⟨z,H3,I3,rz,kvs,k,ea,ey,q3,q4⟩=>spliced_nil ?_))))
 subst ey;cases l:aN kvs k with
 |some v=>exact xU I3 ea ry l (.inr ⟨fv,rfl⟩) λw' s4 I4 rw'=>⟨v,_,I4,rw',q3 v l⟩
 |none=>exact wx I3 ea ry l λs4 I4=>⟨z,H3,I4,rz,q4 l⟩
end
section
variable{X:Cx}{pins:List (Addr×Obj)}{σ:St}{H:Hp}{s:Shared}{a:Addr}{kvs:List (Key×V)}{A:Around}{E:Value→Shared→Prop}
end
section
variable{X:Cx}{pins:List (Addr×Obj)}{σ:St}{H:Hp}{s:Shared}{a:Addr}{y:V}{u:Value}{A:Around}{E:Value→Shared→Prop}
end
end L2
namespace Att
open PySem PySem.W PySem.Calls PyProof.Rows
theorem iu{P:Params}{h:Heap}:∀(ns:List Int)(vs:List Value),WellAll P h vs (ns.map WData.int)→IntsAre vs ns:=by
 intro ns
 induction ns with
 |nil =>
  intro vs w;rw[map_nil]at w;cases w;exact .nil
 |cons n ns ih =>
  intro vs w;rw[map_cons]at w;cases w with
  |cons a b =>
   cases a;exact .cons _ _ (ih _ b)
theorem qk{l:OpenLaw}{n:Nat}(hn:l.most=some n){P:Params}{h:Heap}{args:List WData}{vals:List Value}(hpre:l.row.toRowW.claim.pre args=true)(hwl:WellAll P h vals args):
  ∃a vs ns,vals=[Value.ref a]∧args=[WData.list (ns.map WData.int)]∧h.get? a=some {cls:=.type "list",data:=.seq vs.toArray}∧IntsAre vs ns∧ns.length≤n:=by
 have hsh:WShape.hasAll [] args [.list .int]=true:=(pre_splitW hpre).1;have hc:l.pre.holds [] {args:=args}=true:=(pre_splitW hpre).2;obtain⟨d,r,rfl,h1,h2⟩:=hasAllW_cons hsh;obtain rfl:=hasAllW_nil h2;obtain⟨xs,rfl,h3⟩:=hasW_list h1;obtain⟨ns,rfl⟩:=items_int h3;have hlen:ns.length≤n:=by
  unfold OpenLaw.pre at hc;have h4:(WTm.not (.lt (.lit (.int (n:Int))) (.len (.arg 0)))).holds [] {args:=[.list (ns.map .int)]}=true:=by
   have h4:=(holds_andW hc).1;rw[hn]at h4;exact h4
  have h5:=condW_of h4 (w_not (w_lt w_lit (w_len_list (w_arg rfl))));rw[length_map]at h5;refine Nat.le_of_not_lt λq=>?_;have q':(n:Int)<((ns.length:Nat):Int):=by omega
  first
   |(rw[decide_eq_true q']at h5;exact absurd h5 (by decide))
   |(simp at h5;omega)
 cases hwl with
 |cons w1 w2 =>
  cases w2;cases w1 with
  |list ho hall=>exact⟨_,_,ns,rfl,rfl,ho,iu ns _ hall,hlen⟩
theorem ql(l:OpenLaw)(args:List WData):l.row.toRowW.claim.post args (.bool true) args=true :=
 postW_of (r:=l.row.toRowW) (X:=(true==true))
  (show WShape.has [] (.bool true) .bool=true by first|rfl|decide|simp[WShape.has,WShape.arms,WShape.armsAll])
  (show(WTm.eq .res (.lit (.bool true))).value [] {args:=args,res:=some (.bool true),after:=args}=some (.bool (true==true))from w_eq_bool (w_res rfl) w_lit) rfl
theorem lS{l:OpenLaw}{n:Nat}{q:Program}{loose:List Str}{XP:(Str→Option Value)→Heap→Prop}{YP:World→Heap→Prop}{d:DefRec}(hn:l.most=some n)(hdf:d.params.defaults=[])(call:∀(w:World) (s₀ s₁:Shared) (mg mb:Str→Option Value) (fa:Addr) (o:Obj) (pm cd doc:Value) (a:Addr) (vs:List Value) (ns:List Int),
   Ground q loose [] XP w s₀ mg mb s₁.heap→YP w s₁.heap →
   s₁.heap.get? fa=some o→o.data=.func (docDef d.name d.params d.body d.scope pm cd doc)→s₁.heap.CodeRec cd d.name→mg d.name=some (.ref fa) →
   s₁.heap.get? a=some {cls:=.type "list",data:=.seq vs.toArray}→IntsAre vs ns→ns.length≤n→s₁.gens=#[] →
   codeAny (model l.prog w) callerA (.call (.ref fa) ⟨[.ref a],[]⟩) (λr s'=>r=.ok (.ret (.bool true))∧OldK s₁.heap s'.heap∧s'.os=s₁.os∧AllBare s'.gens) s₁):
  WalkO q loose XP YP l.row.toRowW d [] (λf vs=>PySem.call f vs):=by
 intro w s₀ s₁ mg mb G Y fa o pm cd doc dV kV ho hd hcd hD hmg hg args vals as hpre hlay hrd hwl hlo;obtain rfl:dV=.none:=Dflts.none hD hdf;obtain rfl:kV=.none:=Dflts.noKw hD;obtain⟨a,vs,ns,rfl,rfl,hobj,hints,hlen⟩:=qk hn hpre hwl;refine enter_call (codeAny_mono (call w s₀ s₁ mg mb fa o pm cd doc a vs ns G Y ho (fd_plain hd) hcd hmg hobj hints hlen hg) λr s' hq=>?_);obtain⟨rfl,h2,h3,h4⟩:=hq;exact⟨.inl ⟨.bool true,.bool true,[],rfl,λ_=>rfl,.bool true,ql l _,λ_=>⟨Pairwise.nil,λ_ hm=>(nomatch hm)⟩⟩,h2,h3,h4⟩
section
variable{prog:Program}{w:World}{A:Around}{E:Value→Shared→Prop}{s:Shared}{K:Frag}
end
end Att
namespace L2
open PySem PySem.Spec PyProof.Rows
theorem jS:∀{vs:List Value}{ns:List Int},IntsAre vs ns→ar (ns.map V.int) vs
 |_,_,.nil=>.nil
 |_,_,.cons n t h=>.cons ⟨t,rfl⟩ (jS h)
def cK(s:Stmt):Arguments:=match s with
 |.FunctionDef _ a _ _ _ _ _ _ _ _=>a
 |_=>{posonlyargs:=[],args:=[],vararg:=none,kwonlyargs:=[],kw_defaults:=[],kwarg:=none,defaults:=[]}
def bb(s:Stmt):List Stmt:=match s with
 |.FunctionDef _ _ b _ _ _ _ _ _ _=>b
 |_=>[]
def ai(s:Stmt):Scope:=match s with
 |.FunctionDef _ _ _ _ _ _ sc _ _ _=>sc
 |_=>{kind:=.function,names:=[],isGenerator:=false,isCoroutine:=false}
abbrev CX0:CXT:=λ_ _ _ _ _ _=>False
abbrev E0:XK:=λ_ _ _=>False
theorem aU{X:Cx}:iQ CX0 X E0:=λ_ _ _ _ _ _ _ h=>h.elim
structure Fun(K:PySem.W.Frag)(x qual:Str)(st:Stmt)(f:Addr)(fd:FuncData):Prop where
 ex:∃(oc:Value) (od:Option Addr) (kV doc pm:Value) (an:Option Addr) (cdv ct:Value) (osl:Array (Option Value)),
  fd=fnOf x qual (cK st) (bb st) (ai st) .none kV doc pm an cdv ct∧K.lookup f=some ⟨oc,od,.func fd,osl⟩∧codeIn K cdv qual=true
 kp:keepIn K (.ref f)=true
section
variable{P:Program}{w:World}{K:PySem.W.Frag}{mg:Str→Option Value}{base:Heap}
theorem Fun.ok{x qual:Str}{st:Stmt}{f:Addr}{fd:FuncData}{N ps:List Str}{k:Nat}{sp:Sp}(F:Fun K x qual st f fd)(S:FnScope N ps (ai st))(len:∀vs H Q E,sp vs H Q E→vs.length=ps.length)(hbody:∀(cdv:Value) (A:Around) (outer:List Env) (s:Shared) (H:Hp) (vs:List V) (Q:VK) (E:XK),Room k (A.deeper (envOfC qual (ai st) s.heap.objs.size f cdv))→sp vs H Q E →
   ∃t,PSs (fZ CX0 P w K mg base N qual (ai st) f cdv A outer s H E).nox (bb st) t∧t {nx:=λ_ H'=>Q .non H',rt:=Q} (start N vs) H):FnOk P w K mg base CX0 (k+1) f fd ps sp:=by
 obtain⟨oc,od,kV,doc,pm,an,cdv,ct,osl,rfl,lk,hcd⟩:=F.ex;refine re lk hcd S len λA outer s H vs Q E hr hsp=>?_;obtain⟨t,h,q⟩:=hbody cdv A outer s H vs Q E hr hsp;exact⟨t,h.nox,q⟩
theorem Fun.binds{x qual:Str}{st:Stmt}{f:Addr}{fd:FuncData}{ps:List Str}(F:Fun K x qual st f fd)(h:∀(kV doc pm:Value) (an:Option Addr) (cdv ct:Value) (us:List Value),us.length=ps.length→bindArgs (fnOf x qual (cK st) (bb st) (ai st) .none kV doc pm an cdv ct) ⟨us,[]⟩=pure (ps.zip us)):cb K fd ps []:=by
 obtain⟨oc,od,kV,doc,pm,an,cdv,ct,osl,rfl,lk,hcd⟩:=F.ex;exact .all (h kV doc pm an cdv ct)
theorem wC{x qual:Str}{st:Stmt}{f:Addr}{oc:Value}{od an:Option Addr}{osl:Array (Option Value)}{kV doc pm cdv ct:Value}(l:K.lookup f=some ⟨oc,od,.func (fnOf x qual (cK st) (bb st) (ai st) .none kV doc pm an cdv ct),osl⟩)(c:codeIn K cdv qual=true)(k:keepIn K (.ref f)=true):Fun K x qual st f (fnOf x qual (cK st) (bb st) (ai st) .none kV doc pm an cdv ct):=⟨⟨oc,od,kV,doc,pm,an,cdv,ct,osl,rfl,l,c⟩,k⟩
end
theorem aS{A:Around}{k:Nat}(hr:Room k A):A.units+1<cLine:=lt_of_le_of_lt (Nat.add_le_add_left (by decide:1≤64) _) hr.units
theorem ay{n:Nat}(h:n≤1000):n<sizeLine:=lt_of_le_of_lt h (by decide)
section
variable{X:Cx}
theorem pv(i:Nat){x:Str}{pos:Pos}(hN:X.N[i]?=some x:=by rfl)(hv:Vis X.env.scope x:=by first|exact Or.inl rfl|exact Or.inr (Or.inl rfl)|exact Or.inr (Or.inr rfl))(hd:(x==("__debug__":Str))=false:=by decide)(hcd:(x==("__classdict__":Str))=false:=by decide):PE X (.Name x pos) (fO i):=vW hN hv hd hcd
end
theorem aX{A B:Prop}(h:B):if false=true then A else B:=by
 rw[if_neg Bool.false_ne_true];exact h
theorem bx{A B:Prop}(h:A):if true=true then A else B:=by
 rw[if_pos rfl];exact h
theorem zc{c A B:Prop}[Decidable c](h1:c→A)(h2:¬c→B):if c then A else B:=by
 by_cases h:c
 ·rw[if_pos h];exact h1 h
 ·rw[if_neg h];exact h2 h
def Same(H H':Hp):Prop:=∀b o,H b=some o→H' b=some o
theorem Same.refl(H:Hp):Same H H:=λ_ _ h=>h
theorem Same.trans{H H1 H2:Hp}(a:Same H H1)(b:Same H1 H2):Same H H2:=λc o h=>b c o (a c o h)
theorem Same.free{H H':Hp}(e:Same H H'){l:Addr}(h:H' l=Option.none):H l=Option.none:=by
 cases q:H l with
 |none=>rfl
 |some o =>
  rw[e l o q]at h;cases h
theorem Same.seq{K:PySem.W.Frag}{H H':Hp}{a:Addr}{xs:List V}(e:Same H H')(h:SqL K H a xs):SqL K H' a xs:=by
 rcases h with (h|⟨o,h⟩)|h
 ·exact .inl (.inl (e _ _ h))
 ·exact .inl (.inr ⟨o,e _ _ h⟩)
 ·exact .inr h
section
variable{κ:Type}[DecidableEq κ]
theorem qm{p:κ×V}{r:List (κ×V)}{k:κ}(e:p.1=k):cG (p::r) k=cG r k:=by
 unfold cG;rw[filter_cons,if_neg (by simp[e])]
theorem qo{p:κ×V}{r:List (κ×V)}{k:κ}(e:¬p.1=k):cG (p::r) k=p::cG r k:=by
 unfold cG;rw[filter_cons,if_pos (by simp[e])]
end
structure LcOk(X:Cx)(scope:Scope)(cl:List (Str×Addr)):Prop where
 kind:scope.kind=.function
 clos:closureFor scope X.env=pure cl
 names:∀x∈scope.names,x.2=.local→scope.names.lookup x.1=some .local
 nocell:∀x∈scope.names,x.2≠.cell
 cells:∀x c,cl.lookup x=some c→X.env.cells.lookup x=some c
 has:∀x,((relabel scope X.env).names.lookup x=some .cell∨(relabel scope X.env).names.lookup x=some .free)→∃c,cl.lookup x=some c
abbrev bR(X:Cx)(N:List Str)(scope:Scope)(cl:List (Str×Addr))(s:Shared)(H:Hp)(ex:List Addr):Cx :=
 {X with N:=N,s₀:=s,H₀:=H,env:=compEnvC scope cl s.heap.objs.size X.env,outer:=X.stack,stack:=X.stack,ex:=ex,fn:=λ_=>false,pn:=[],xe:=λ_ _=>False}
section
variable{X:Cx}{pins:List (Addr×Obj)}{σ:St}{H:Hp}{s:Shared}{N:List Str}{scope:Scope}{cl:List (Str×Addr)}{fp:List Addr}
theorem vG(I:Inv X pins σ H s)(L:LcOk X scope cl)(hf:∀b∈fp,ir X pins H b)(ho:∀b∈fp,b<s.heap.objs.size):(bR X N scope cl s H fp).Ok where
 mod:=I.ok.mod
 kind:=L.kind
 glob:=I.ok.glob
 blt:=I.ok.blt
 above:=le_refl _
 inj:=λx y c h1 h2=>I.ok.inj x y c (L.cells x c h1) (L.cells y c h2)
 has:=λx hx=>L.has x hx
 cab:=λx c h _=>absurd h (by simp)
 hd:=I.ok.hd
 frames:=I.ok.frames
 stk:=.inl rfl
 exf:=λb hb=>⟨ne_of_lt (ho b hb),λx c h=>(hf b hb).2.2.2.2.1 x c (L.cells x c h)⟩
 bs:=I.bs
 bsz:=le_trans I.ok.bsz I.sz
 noex:=λb o e hb=>by
  rcases (hf b hb).2.2.2.1 with z|z
  ·exact I.ok.noex b o e z
  ·exact absurd (lt_of_lt_of_le (lt_size e) (le_trans I.ok.bsz z)) (lt_irrefl _)
 exfs:=λb hb hs=>by
  rcases mem_cons.mp (I.stkSub b hs)with z|z
  ·exact(hf b hb).2.1 z
  ·exact(hf b hb).2.2.1 z
 funs:=I.stack
 frf:=I.stkFree
def cp(k:Nat)(js:List Nat)(σ:St):St:=List.replicate k none++js.map λj=>(σ[j]?).getD none
theorem rC{h₁:Heap}{tk:Nat}{k:Nat}{js:List Nat}(I:Inv X pins σ H s)(L:LcOk X scope cl)(hf:∀b∈fp,ir X pins H b)(ho:∀b∈fp,b<s.heap.objs.size)(hns:∃m,h₁.Ns s.heap.objs.size m)(hk:∀b o,s.heap.get? b=some o→h₁.get? b=some o)(hN:N.length=k+js.length)(hj:∀(i j:Nat) x,js[i]?=some j→N[k+i]?=some x→X.N[j]?=some x∧Vis X.env.scope x∧X.env.scope.names.lookup x≠some .local∧((relabel scope X.env).names.lookup x=some .cell∨(relabel scope X.env).names.lookup x=some .free)):
  Inv (bR X N scope cl s H fp) [] (cp k js σ) H {s with heap:=h₁,toks:=tk}:=by
 obtain⟨m,hm⟩:=hns;have cellK:∀c v,s.heap.IsCell c v→h₁.IsCell c v:=λc v ⟨o,e,d⟩=>⟨o,hk c o e,d⟩;refine⟨vG I L hf ho,rfl,I.bare,Un.kept hk,⟨m,hm,λi x v e1 e2 e3=>?_⟩,λx c e=>?_,I.hok.fresh (le_refl _),λx c e=>I.freeC x c (L.cells x c e),λp hp=>absurd (show p∈([]:List (Addr×Obj))from hp) (by simp),I.hok.kept hk,?_⟩
 ·unfold cp at e2
  by_cases hi:i<k
  ·rw[getElem?_append_left (by simpa using hi),List.getElem?_replicate]at e2
   split at e2<;>cases e2
  ·obtain⟨i',rfl⟩:∃i',i=k+i':=⟨i-k,by omega⟩;rw[getElem?_append_right (by simp),List.length_replicate,Nat.add_sub_cancel_left,getElem?_map]at e2;cases ej:js[i']? with
   |none=>rw[ej]at e2;cases e2
   |some j =>
    rw[ej]at e2;have e2':(σ[j]?).getD none=some v:=Option.some.inj e2;obtain⟨h1,h2,h3,h4⟩:=hj i' j x ej e1;have e4:σ[j]?=some (some v):=by
     cases q:σ[j]? with
     |none=>rw[q]at e2';cases e2'
     |some y=>rw[q]at e2';exact congrArg some e2'
    obtain⟨m0,_,hl⟩:=I.loc;obtain⟨u,r,lk⟩:=hl j x v h1 e4 h2;refine⟨u,r,.inr ⟨h4,?_⟩⟩;rcases lk with⟨q,_⟩|⟨_,c,e5,e6⟩
    ·exact absurd q h3
    ·obtain⟨c',e7⟩:=L.has x h4;have:c'=c:=Option.some.inj ((L.cells x c' e7).symm.trans e5);subst this;exact⟨c',e7,cellK c' _ e6⟩
 ·obtain⟨v,e1⟩:=I.cell x c (L.cells x c e);exact⟨v,cellK c v e1⟩
 ·unfold cp;rw[length_append,List.length_replicate,length_map];exact hN.symm
theorem rD{H':Hp}{σ':St}{s':Shared}{h':Heap}(I:Inv X pins σ H s)(hf:∀b∈fp,ir X pins H b)(J:Inv (bR X N scope cl s H fp) [] σ' H' s')(hs:SameBut s.heap.objs.size s'.heap h'):Inv X pins σ H' {s' with heap:=h'}:=by
 have ne:∀b o,s.heap.get? b=some o→b≠s.heap.objs.size:=λb o e=>ne_of_lt (lt_size e);have u:=J.base;have u':Un (frs X.stack) fp H H' s.heap h' :=
  ⟨λb o e n hb hx=>(hs.2 b (ne b o e)).trans (u.keep b o e n hb hx),λb o e n hb hx=>by
   obtain⟨sl,q⟩:=u.slot b o e n hb hx;exact⟨sl,(hs.2 b (ne b o e)).trans q⟩,u.free,λb o e hx=>by
   obtain⟨o',q⟩:=u.there b o e hx;exact⟨o',(hs.2 b (ne b o e)).trans q⟩,u.tups,u.frzs,u.tbls⟩
 have nt:∀b o,H' b=some o→b≠s.heap.objs.size:=λb o e z=>by
  have:=J.free;rw[show(bR X N scope cl s H fp).env.locals=s.heap.objs.size from rfl,←z,e]at this;cases this
 refine I.call' (s':={s' with heap:=h'}) J.os u' (λb o e=>?_) J.bare λb hb=>?_
 ·refine(J.hok b o e).stay (λc v hc q=>(hs.2 c ?_).trans q) (λ_ q=>q) λ_ _ q=>q;rcases hc with z|z
  ·rw[z];exact nt b o e
  ·exact nt c _ z
 ·obtain⟨f0,f1,f2,f3,f4,f5⟩:=hf b hb;exact⟨f3,f1,f4,f5⟩
end
section
variable{prog:Program}{w:World}{A:Around}{R:Result→Shared→Prop}{s:Shared}
def ocW(prog:Program)(w:World)(A:Around)(oc:Option Expr)(env:Env)(K:Bool→Shared→Prop)(s:Shared):Prop:=match oc with
 |none=>K true s
 |some c=>wpAny (model prog w) A (isTrue c env (eval c env)) K (λ_ _=>False) s
theorem iX(elt target iter c:Expr)(scope:Scope)(pos:Pos)(it acc:Value)(env:Env):
  compTurn (.ListComp elt [⟨target,iter,[c],0⟩] scope pos) 0 it acc env=(standAt iter.pos >>= λ_=>pyNext it >>= λr=>match r with
   |none=>pure (.done .next)
   |some v=>letOwnedTupleGo target it v >>= λ_=>assign target env v >>= λ_ =>
    (forIn [c] true λc r=>if r=true then do let ok ← isTrue c env (eval c env);pure (ForInStep.yield ok)else pure (ForInStep.yield r)) >>= λok =>
    if ok=true then (eval elt env >>= λx=>call (.builtin "list.append") [acc,x] >>= λ_=>pure ()) >>= λ_ =>
     again (.compLoop (.ListComp elt [⟨target,iter,[c],0⟩] scope pos) 0 it acc env)
    else again (.compLoop (.ListComp elt [⟨target,iter,[c],0⟩] scope pos) 0 it acc env)):=by rfl
theorem uf{elt target iter:Expr}{oc:Option Expr}{scope:Scope}{pos:Pos}{it acc:Value}{env:Env}(I:Nat→Shared→Prop)(turn:∀n s,I n s→wpAny (model prog w) A (pyNext it) (λr s₁=>match r with
   |none=>R (.ok .next) s₁
   | some v=>wpAny (model prog w) A (letOwnedTupleGo target it v) (λ_ s₂=>wpAny (model prog w) A (assign target env v) (λ_ s₃=>ocW prog w A oc env (λok s₃ =>
     if ok=true then wpAny (model prog w) A (eval elt env) (λx s₄ =>
      wpAny (model prog w) A (call (.builtin "list.append") [acc,x]) (λ_ s₅=>∃m,m<n∧I m s₅) (λ_ _=>False) s₄) (λ_ _=>False) s₃
     else ∃m,m<n∧I m s₃) s₃) (λ_ _=>False) s₂) (λ_ _=>False) s₁) (λ_ _=>False) s)(n:Nat)(h:I n s):codeAny (model prog w) A (.compLoop (.ListComp elt [⟨target,iter,oc.toList,0⟩] scope pos) 0 it acc env) R s:=by
 refine codeAny_loop rfl I (λn s hI=>?_) n h;show wpAny _ _ ((compTurn (.ListComp elt [⟨target,iter,oc.toList,0⟩] scope pos) 0 it acc env).onRaise (λx=>do noteFrame x env;theTreesLotGoes x)) _ _ s;refine wpAny_noted ?_;cases oc with
 |none =>
  rw[show(none:Option Expr).toList=[]from rfl,compTurn_list1];refine wpAny_bind (wpAny_standAt (wpAny_bind (wpAny_mono (turn n s hI) (λr s₁ h₁=>?_) λ_ _ h'=>h'.elim)));cases r with
  |none=>exact wpAny_pure h₁
  |some v =>
   refine wpAny_bind (wpAny_mono h₁ (λ_ s₂ h₂=>wpAny_bind (wpAny_mono h₂ (λ_ s₃ h₃=>?_) λ_ _ h'=>h'.elim)) λ_ _ h'=>h'.elim);exact wpAny_bind (wpAny_bind (wpAny_mono (show wpAny _ _ _ _ _ _ from h₃) (λx s₃ h₃=>wpAny_bind (wpAny_mono h₃ (λ_ s₄ h₄=>wpAny_pure (wpAny_pure ⟨rfl,h₄⟩)) λ_ _ h'=>h'.elim)) λ_ _ h'=>h'.elim))
 |some c =>
  rw[show(some c).toList=[c]from rfl,iX];refine wpAny_bind (wpAny_standAt (wpAny_bind (wpAny_mono (turn n s hI) (λr s₁ h₁=>?_) λ_ _ h'=>h'.elim)));cases r with
  |none=>exact wpAny_pure h₁
  |some v =>
   refine wpAny_bind (wpAny_mono h₁ (λ_ s₂ h₂=>wpAny_bind (wpAny_mono h₂ (λ_ s₃ h₃=>?_) λ_ _ h'=>h'.elim)) λ_ _ h'=>h'.elim);rw[List.forIn_cons];simp only[if_true];refine wpAny_bind (wpAny_bind (wpAny_bind (wpAny_mono (show wpAny _ _ _ _ _ _ from h₃) (λok s₄ h₄=>wpAny_pure ?_) λ_ _ h'=>h'.elim)));simp only[List.forIn_nil];refine wpAny_pure ?_;cases ok with
   |true=>exact wpAny_bind (wpAny_bind (wpAny_mono (show wpAny _ _ _ _ _ _ from h₄) (λx s₃ h₃=>wpAny_bind (wpAny_mono h₃ (λ_ s₄ h₄=>wpAny_pure (wpAny_pure ⟨rfl,h₄⟩)) λ_ _ h'=>h'.elim)) λ_ _ h'=>h'.elim))
   |false=>exact wpAny_pure ⟨rfl,h₄⟩
end
def LcW(k:Nat)(js:List Nat)(g:TG)(te:TE)(σ:St)(Q:VK)(J:It)(H1:Hp)(p:Addr):Prop:=∃W:Nat→Nat→List V→St→Hp→Prop,
 (∃m,W 0 m [] (cp k js σ) (upd H1 p (.lst [])))∧∀i m ys σ' H',W i m ys σ' H'→(J.stop i H'∧Q (.ref p) H') ∨
  (J.go i H'∧ys.length<sizeLine∧∀x H2,J.yld i H' x H2→g x σ' H2 λσ2 H3=>te σ2 H3 λy H4=>H4 p=some (.lst ys)∧∃m',m'<m∧W (i+1) m' (ys++[y]) σ2 (upd H4 p (.lst (ys++[y]))))
def tLc(k:Nat)(js:List Nat)(wi:TI)(g:TG)(te:TE):TE:=λσ H Q=>wi σ H λJ H1=>∀p,H1 p=none→LcW k js g te σ Q J H1 p
def nU(k:Nat)(js:List Nat)(g:TG)(tc:TT)(te:TE)(σ:St)(Q:VK)(J:It)(H1:Hp)(p:Addr):Prop:=∃W:Nat→Nat→List V→St→Hp→Prop,
 (∃m,W 0 m [] (cp k js σ) (upd H1 p (.lst [])))∧∀i m ys σ' H',W i m ys σ' H'→(J.stop i H'∧Q (.ref p) H') ∨
  (J.go i H'∧ys.length<sizeLine∧∀x H2,J.yld i H' x H2→g x σ' H2 λσ2 H3=>tc σ2 H3 λb H4=>if b=true then te σ2 H4 λy H5=>H5 p=some (.lst ys)∧∃m',m'<m∧W (i+1) m' (ys++[y]) σ2 (upd H5 p (.lst (ys++[y])))
   else ∃m',m'<m∧W (i+1) m' ys σ2 H4)
def xY(k:Nat)(js:List Nat)(wi:TI)(g:TG)(tc:TT)(te:TE):TE:=λσ H Q=>wi σ H λJ H1=>∀p,H1 p=none→nU k js g tc te σ Q J H1 p
def ocT(X:Cx)(oc:Option Expr)(tc:TT):Prop:=match oc with
 |none=>∀σ H K,tc σ H K→K true H
 |some c=>PT X c tc
theorem ug{X:Cx}{oc:Option Expr}{tc:TT}{pins:List (Addr×Obj)}{s:Shared}{σ:St}{H:Hp}{K:Bool→Hp→Prop}{K':Bool→Shared→Prop}(h:ocT X oc tc)(hx:X.xe=λ_ _=>False)(I:Inv X pins σ H s)(q:tc σ H K)(m:∀b s',TP X pins σ K b s'→K' b s'):ocW X.prog X.w X.A oc X.env K' s:=by
 cases oc with
 |none=>exact m true s ⟨H,I,h σ H K q⟩
 |some c=>exact wpAny_mono (h pins s σ H K I q) m λ_ _ e=>by rw[hx]at e;exact e
section
variable{X:Cx}{N:List Str}{scope:Scope}{cl:List (Str×Addr)}{k:Nat}{js:List Nat}
theorem oW{elt tg iter:Expr}{oc:Option Expr}{pos q:Pos}{wi:TI}{g:TG}{tc:TT}{te:TE}{use:Option (Value→Sem Unit)}{Qc:Value→Shared→Prop}{Q:VK}{pins:List (Addr×Obj)}{s:Shared}{σ:St}{H:Hp}(hc:X.calm=true)(L:LcOk X scope cl)(hN:N.length=k+js.length)(hj:∀(i j:Nat) x,js[i]?=some j→N[k+i]?=some x→X.N[j]?=some x∧Vis X.env.scope x∧X.env.scope.names.lookup x≠some .local∧((relabel scope X.env).names.lookup x=some .cell∨(relabel scope X.env).names.lookup x=some .free))(hi:PI X tg iter wi)(hg:∀s H fp,PG (bR X N scope cl s H fp) tg g)(ht:∀s H fp,ocT (bR X N scope cl s H fp) oc tc)(he:∀s H fp,PE (bR X N scope cl s H fp) elt te)(hs:∀x,foldedSetIterable iter X.env x=pure x){Lw:It→Hp→Addr→Prop}(hL:∀J H1 p,Lw J H1 p→nU k js g tc te σ Q J H1 p)(I:Inv X pins σ H s)(h:wi σ H λJ H1=>∀p,H1 p=none→Lw J H1 p)(fin:∀{s0 s4:Shared} {Hx H3:Hp} {σ4:St} {fp:List Addr} {p:Addr},Inv X pins σ Hx s0→(∀b∈fp,ir X pins Hx b)→Inv (bR X N scope cl s0 Hx fp) [] σ4 H3 s4→Q (.ref p) H3→compPost (model X.prog X.w) X.A X.xe use Qc (.ref p) s0.heap.objs.size (.ok .next) s4):
  wpAny (model X.prog X.w) X.A (comprehension (.ListComp elt [⟨tg,iter,oc.toList,0⟩] scope pos) scope X.env q (newList []) false (eval iter X.env) use) Qc X.xe s:=by
 refine wpAny_comprehension_free rfl hs L.clos L.kind L.names ?_;refine thn (hi pins s σ H _ I h) λv s1 h1=>thn h1 λitv s2 h2=>?_;obtain⟨it,fp,tn,J,H2,e,I2,T,st2,f2,hW⟩:=h2;subst e;have hfp:∀b∈fp,b<s2.heap.objs.size:=λb hb=>by
  obtain⟨o,e,_⟩:=T.obj _ _ st2 b hb;exact lt_size e
 refine wpAny_newObj_type (wpAny_newFunctionEnv L.nocell (by intro y hy;simp at hy) (λh₁ hns hsb=>?_) L.kind);dsimp only at hns hsb⊢;obtain⟨W,⟨m0,w0⟩,turn⟩:=hL _ _ _ (hW s2.heap.objs.size (I2.hok.fresh (le_refl _)));have I3:Inv X pins σ (upd H2 s2.heap.objs.size (.lst [])) {s2 with heap:=s2.heap.push {cls:=.type "list",dict:=none,data:=.seq ([]:List Value).toArray}}:=I2.lnew (t':=s2.toks) .nil (zero_le _)
 generalize hA:s2.heap.push {cls:=.type "list",dict:=none,data:=.seq ([]:List Value).toArray}=hpA at hns hsb I3⊢;have hszA:hpA.objs.size=s2.heap.objs.size+1:=by rw[←hA,size_push]
 have keepA:∀b o,s2.heap.get? b=some o→hpA.get? b=some o:=λb o e=>by rw[←hA];exact get?_push_of_some _ e
 have f3:∀b∈fp,ir X pins (upd H2 s2.heap.objs.size (.lst [])) b:=λb hb=>⟨by rw[af (ne_of_lt (hfp b hb))];exact(f2 b hb).1,(f2 b hb).2⟩;have hfp3:∀b∈fp,b<hpA.objs.size:=λb hb=>by rw[hszA];exact lt_succ_of_lt (hfp b hb)
 have keep1:∀b o,hpA.get? b=some o→h₁.get? b=some o:=λb o e=>hsb.extBut b o (ne_of_lt (lt_size e)) (get?_push_of_some _ e);have J0:=rC (N:=N) (k:=k) (js:=js) (tk:=s2.toks+([]:List (Str×Value)).length) I3 L f3 hfp3 ⟨_,hns⟩ keep1 hN hj;have st1:tn 0 h₁:=T.keep _ _ _ st2 λb hb o e=>keep1 b o (keepA b o e);have stat:∀{H':Hp},(∀b∈fp,H' b=none)→∀b∈fp,ir (bR X N scope cl {s2 with heap:=hpA} (upd H2 s2.heap.objs.size (.lst [])) fp) [] H' b:=λhn b hb =>
  ⟨hn b hb,ne_of_lt (hfp3 b hb),(vG (N:=N) I3 L f3 hfp3).exfs b hb,.inl hb,λx c h=>(f3 b hb).2.2.2.2.1 x c (L.cells x c h),λp hp=>absurd (show p∈([]:List (Addr×Obj))from hp) (by simp)⟩
 have loop:codeAny (model X.prog X.w) X.A (.compLoop (.ListComp elt [⟨tg,iter,oc.toList,0⟩] scope pos) 0 (.ref it) (.ref s2.heap.objs.size) (compEnvC scope cl hpA.objs.size X.env))
   (compPost (model X.prog X.w) X.A X.xe use Qc (.ref s2.heap.objs.size) hpA.objs.size) {s2 with heap:=h₁,toks:=s2.toks+([]:List (Str×Value)).length}:=by
  refine uf (λn s'=>∃i ys σ' H',Inv (bR X N scope cl {s2 with heap:=hpA} (upd H2 s2.heap.objs.size (.lst [])) fp) [] σ' H' s'∧tn i s'.heap∧(∀b∈fp,H' b=none)∧W i n ys σ' H') ?_ m0 ⟨0,[],_,_,J0,st1,λb hb=>(f3 b hb).1,w0⟩
  rintro n s3 ⟨i,ys,σ3,H3,J3,st3,fr3,w3⟩;rcases turn i n ys σ3 H3 w3 with⟨stop,qn⟩|⟨go,hlen,step⟩
  ·refine thn (T.done (bR X N scope cl {s2 with heap:=hpA} (upd H2 s2.heap.objs.size (.lst [])) fp) rfl rfl rfl hc i [] s3 σ3 H3 (λ_ _=>False) J3 (stat fr3) st3 stop) λr s4 hpt=>?_
   obtain⟨hr,J4⟩:=hpt;subst hr;exact fin I3 f3 J4 qn
  ·refine thn (T.item (bR X N scope cl {s2 with heap:=hpA} (upd H2 s2.heap.objs.size (.lst [])) fp) rfl rfl rfl hc i [] s3 σ3 H3 (λ_ _=>False) J3 (stat fr3) st3 go) λr s4 hpt=>?_
   obtain⟨u,hr,h4⟩:=hpt;subst hr;refine thn h4 λ_ s5 hpt=>?_;obtain⟨x,H5,J5,r5,y5,st5,fr5⟩:=hpt;have J5':=J5.pinned (stat fr5) (T.obj _ _ st5);refine thn (hg _ _ _ _ s5 σ3 H5 x u _ J5' r5 (step x H5 y5)) λ_ s6 hpt=>?_;obtain⟨σ6,H6,J6,q6⟩:=hpt;refine ug (ht _ _ _) rfl J6 q6 λb s6 hpt=>?_;obtain⟨H6,J6,q6⟩:=hpt;cases b with
   |true =>
    rw[if_pos rfl]at q6⊢;refine thn (he _ _ _ _ s6 σ6 H6 _ J6 q6) λy s7 hpt=>?_;obtain⟨vy,H7,J7,r7,q7,m',hm',w7⟩:=hpt;refine thn (bv _ s7 σ6 H7 (.ref s2.heap.objs.size) [vy] _ _ (λ_ H8=>H8=upd H7 s2.heap.objs.size (.lst (ys++[vy]))) J7 rfl (.cons r7 .nil) ⟨_,ys,vy,rfl,rfl,q7,hlen,rfl⟩) λ_ s8 hpt=>?_;obtain⟨_,H8,J8,_,e8⟩:=hpt;subst e8;refine⟨m',hm',i+1,ys++[vy],σ6,_,J8.unpinned,T.keep _ _ _ st5 λb hb o e=>(J8.pin (b,o) (mem_append_right _ (mem_append_right _ (cf hb e)))).1,λb hb=>?_,w7⟩;obtain⟨o,e,d⟩:=T.obj _ _ st5 b hb;exact(J8.pin (b,o) (mem_append_right _ (mem_append_right _ (cf hb e)))).2.1
   |false =>
    rw[if_neg (by simp)]at q6⊢;obtain⟨m',hm',w7⟩:=q6;refine⟨m',hm',i+1,ys,σ6,_,J6.unpinned,T.keep _ _ _ st5 λb hb o e=>(J6.pin (b,o) (mem_append_right _ (mem_append_right _ (cf hb e)))).1,λb hb=>?_,w7⟩;obtain⟨o,e,d⟩:=T.obj _ _ st5 b hb;exact(J6.pin (b,o) (mem_append_right _ (mem_append_right _ (cf hb e)))).2.1
 exact codeAny_compStart_list loop (T.self _ 0 _ _ _ st1 loop)
theorem uh{g:TG}{te:TE}{σ:St}{Q:VK}(J:It)(H1:Hp)(p:Addr)(h:LcW k js g te σ Q J H1 p):nU k js g (λ_ H K=>K true H) te σ Q J H1 p:=by
 obtain⟨W,w0,turn⟩:=h;exact⟨W,w0,turn⟩
theorem rE{elt tg iter:Expr}{oc:Option Expr}{pos:Pos}{wi:TI}{g:TG}{tc:TT}{te:TE}{Lw:St→VK→It→Hp→Addr→Prop}(hL:∀{σ Q} J H1 p,Lw σ Q J H1 p→nU k js g tc te σ Q J H1 p)(hc:X.calm=true)(L:LcOk X scope cl)(hN:N.length=k+js.length)(hj:∀(i j:Nat) x,js[i]?=some j→N[k+i]?=some x→X.N[j]?=some x∧Vis X.env.scope x∧X.env.scope.names.lookup x≠some .local∧((relabel scope X.env).names.lookup x=some .cell∨(relabel scope X.env).names.lookup x=some .free))(hi:PI X tg iter wi)(hg:∀s H fp,PG (bR X N scope cl s H fp) tg g)(ht:∀s H fp,ocT (bR X N scope cl s H fp) oc tc)(he:∀s H fp,PE (bR X N scope cl s H fp) elt te)(hs:∀x,foldedSetIterable iter X.env x=pure x):PE X (.ListComp elt [⟨tg,iter,oc.toList,0⟩] scope pos) (λσ H Q=>wi σ H λJ H1=>∀p,H1 p=none→Lw σ Q J H1 p):=by
 intro pins s σ H Q I h;rw[eval_ListComp];exact oW hc L hN hj hi hg ht he hs hL I h λI3 f3 J4 qn=>let⟨m,hm,_⟩:=J4.loc;⟨m,hm,λh' hs'=>⟨.ref _,_,rD I3 f3 J4 hs',rfl,qn⟩⟩
theorem ic{elt tg iter:Expr}{pos:Pos}{wi:TI}{g:TG}{te:TE}(hc:X.calm=true)(L:LcOk X scope cl)(hN:N.length=k+js.length)(hj:∀(i j:Nat) x,js[i]?=some j→N[k+i]?=some x→X.N[j]?=some x∧Vis X.env.scope x∧X.env.scope.names.lookup x≠some .local∧((relabel scope X.env).names.lookup x=some .cell∨(relabel scope X.env).names.lookup x=some .free))(hi:PI X tg iter wi)(hg:∀s H fp,PG (bR X N scope cl s H fp) tg g)(he:∀s H fp,PE (bR X N scope cl s H fp) elt te)(hs:∀x,foldedSetIterable iter X.env x=pure x:=by intro _;rfl):PE X (.ListComp elt [⟨tg,iter,[],0⟩] scope pos) (tLc k js wi g te):=rE (oc:=none) uh hc L hN hj hi hg (λ_ _ _ _ _ _ h=>h) he hs
theorem rF{elt tg iter c:Expr}{pos:Pos}{wi:TI}{g:TG}{tc:TT}{te:TE}(hc:X.calm=true)(L:LcOk X scope cl)(hN:N.length=k+js.length)(hj:∀(i j:Nat) x,js[i]?=some j→N[k+i]?=some x→X.N[j]?=some x∧Vis X.env.scope x∧X.env.scope.names.lookup x≠some .local∧((relabel scope X.env).names.lookup x=some .cell∨(relabel scope X.env).names.lookup x=some .free))(hi:PI X tg iter wi)(hg:∀s H fp,PG (bR X N scope cl s H fp) tg g)(ht:∀s H fp,PT (bR X N scope cl s H fp) c tc)(he:∀s H fp,PE (bR X N scope cl s H fp) elt te)(hs:∀x,foldedSetIterable iter X.env x=pure x:=by intro _;rfl):PE X (.ListComp elt [⟨tg,iter,[c],0⟩] scope pos) (xY k js wi g tc te):=rE (oc:=some c) (λ_ _ _ h=>h) hc L hN hj hi hg ht he hs
end
end L2
namespace TB
open PySem SetTable
section
variable{prog:Program}{w:World}{K:Type}[DecidableEq K]{knd:KeyKind prog w K}{A:Around}{E:Value→Shared→Prop}{s:Shared}
end
section
variable{prog:Program}{w:World}{K:Type}[DecidableEq K](knd:KeyKind prog w K)
variable{knd}
variable{A:Around}{E:Value→Shared→Prop}{s:Shared}
end
section
variable{prog:Program}{w:World}{K:Type}[DecidableEq K]{knd:KeyKind prog w K}{A:Around}{E:Value→Shared→Prop}{s:Shared}
end
section
variable{prog:Program}{w:World}{K:Type}[DecidableEq K]{knd:KeyKind prog w K}{A:Around}{R:Result→Shared→Prop}{I:Addr}{fp wr:List Addr}{G:Array GenState→Array GenState→Prop}{n:Nat}{P:Nat→Value→Prop}{St:Nat→Shared→Prop}
end
section
variable{prog:Program}{w:World}{K:Type}[DecidableEq K]{knd:KeyKind prog w K}{A:Around}{E:Value→Shared→Prop}{s:Shared}
end
end TB
namespace SRT
open PySem PySem.W PyProof.Rows
def run{α:Type}(f:Nat→Nat→Bool):KasT α→α
 |.ret a=>a
 |.ask i j k=>run f (k (f i j))
theorem dw{α β:Type}(f:Nat→Nat→Bool)(g:α→KasT β):∀t:KasT α,run f (t.bind g)=run f (g (run f t))
 |.ret a=>rfl
 |.ask i j k=>dw f g (k (f i j))
def path{α:Type}(f:Nat→Nat→Bool)(n:Nat):KasT α→Prop
 |.ret _=>True
 |.ask i j k=>i<n∧j<n∧path f n (k (f i j))
theorem cN{α β:Type}{f:Nat→Nat→Bool}{n:Nat}{g:α→KasT β}:∀{t:KasT α},path f n t→path f n (g (run f t))→path f n (t.bind g)
 |.ret a,_,h=>h
 |.ask i j k,h,h'=>⟨h.1,h.2.1,cN (t:=k (f i j)) h.2.2 h'⟩
theorem oX{α:Type}{f:Nat→Nat→Bool}{n:Nat}{cmp:Nat→Nat→(Bool→Shared→Prop)→Shared→Prop}{s:Shared}(hc:∀i j C,i<n→j<n→C (f i j) s→cmp i j C s)(Q:α→Shared→Prop):∀t:KasT α,path f n t→Q (run f t) s→t.kasWp cmp Q s
 |.ret a,_,h=>h
 |.ask i j k,p,h=>hc i j _ p.1 p.2.1 (oX hc Q (k (f i j)) p.2.2 h)
structure Ord(f:Nat→Nat→Bool)(n:Nat):Prop where
 irr:∀i,i<n→f i i=false
 tr:∀i j k,i<n→j<n→k<n→f i j=true→f j k=true→f i k=true
 tot:∀i j,i<n→j<n→i≠j→f i j=true∨f j i=true
section
variable{f:Nat→Nat→Bool}{n:Nat}
structure Row(n:Nat)(p:Array Nat):Prop where
 perm:p.toList.Perm (List.range n)
theorem Row.size{p:Array Nat}(r:Row n p):p.size=n:=by have:=r.perm.length_eq;simpa using this
theorem Row.lt{p:Array Nat}(r:Row n p){i:Nat}(hi:i<n):p.getD i 0<n:=by
 have hs:=r.size;have:p.getD i 0∈p.toList:=by
  rw[getD_eq_getD_getElem?,Array.getElem?_eq_getElem (by omega)];exact Array.getElem_mem_toList (by omega)
 exact mem_range.mp (r.perm.mem_iff.mp this)
theorem Row.ne{p:Array Nat}(r:Row n p){i j:Nat}(hi:i<n)(hj:j<n)(hij:i≠j):p.getD i 0≠p.getD j 0:=by
 have hs:=r.size;have nd:p.toList.Nodup:=r.perm.nodup_iff.mpr List.nodup_range;rw[getD_eq_getD_getElem?,getD_eq_getD_getElem?,Array.getElem?_eq_getElem (by omega),Array.getElem?_eq_getElem (by omega)];intro e;have e':p.toList[i]'(by simpa using (by omega:i<p.size))=p.toList[j]'(by simpa using (by omega:j<p.size)):=by simpa using e
 exact hij ((getElem_inj nd).mp e')
theorem Row.rev{p:Array Nat}(r:Row n p)(i j:Nat):Row n (kas_rev p i j):=⟨(Array.perm_iff_toList_perm.mp (mirror_perm p i j _)).trans r.perm⟩
theorem Row.bub{p:Array Nat}(r:Row n p)(i j:Nat):Row n (bubble p i j):=⟨(Array.perm_iff_toList_perm.mp (bubble_perm p i j)).trans r.perm⟩
def Up(f:Nat→Nat→Bool)(p:Array Nat)(m:Nat):Prop:=∀i j,i<j→j<m→f (p.getD i 0) (p.getD j 0)=true
theorem ui(O:Ord f n){p:Array Nat}(r:Row n p){m:Nat}(hm:m<n)(h1:1≤m)(u:Up f p m)(h:f (p.getD m 0) (p.getD (m-1) 0)=false):Up f p (m+1):=by
 have hl:f (p.getD (m-1) 0) (p.getD m 0)=true:=by
  rcases O.tot _ _ (r.lt (i:=m) hm) (r.lt (i:=m-1) (by omega)) (r.ne hm (by omega) (by omega))with z|z
  ·rw[h]at z;cases z
  ·exact z
 intro i j hij hj
 by_cases e:j=m
 ·subst e
  by_cases e2:i=j-1
  ·rw[e2];exact hl
  ·exact O.tr _ _ _ (r.lt (by omega)) (r.lt (by omega)) (r.lt hm) (u i (j-1) (by omega) (by omega)) hl
 ·exact u i j hij (by omega)
theorem kR(O:Ord f n){p:Array Nat}(r:Row n p):∀(fuel m:Nat),1≤m→m+fuel≤n→Up f p m →
  m≤run f (kas_asc p fuel m)∧run f (kas_asc p fuel m)≤m+fuel∧Up f p (run f (kas_asc p fuel m))∧(run f (kas_asc p fuel m)<m+fuel→f (p.getD (run f (kas_asc p fuel m)) 0) (p.getD (run f (kas_asc p fuel m)-1) 0)=true)
 |0,m,_,_,u=>⟨le_refl _,le_refl _,u,λh=>absurd h (by simp[kas_asc,run])⟩
 |fuel+1,m,h1,hm,u=>by
  cases e:f (p.getD m 0) (p.getD (m-1) 0)with
  |true =>
   have er:run f (kas_asc p (fuel+1) m)=m:=by
    show run f (if f (p.getD m 0) (p.getD (m-1) 0)=true then KasT.ret m else kas_asc p fuel (m+1))=m
    rw[e,if_pos rfl];rfl
   rw[er];exact⟨le_refl _,by omega,u,λ_=>e⟩
  |false =>
   have er:run f (kas_asc p (fuel+1) m)=run f (kas_asc p fuel (m+1)):=by
    show run f (if f (p.getD m 0) (p.getD (m-1) 0)=true then KasT.ret m else kas_asc p fuel (m+1))=_
    rw[e,if_neg (by simp)]
   rw[er];obtain⟨a1,a2,a3,a4⟩:=kR O r fuel (m+1) (by omega) (by omega) (ui O r (by omega) h1 u e);exact⟨by omega,by omega,a3,λh=>a4 (by omega)⟩
def wD(f:Nat→Nat→Bool)(p:Array Nat)(m:Nat):Prop:=∀i j,i<j→j<m→f (p.getD j 0) (p.getD i 0)=true
theorem kX(O:Ord f n){p:Array Nat}(r:Row n p):∀(fuel m:Nat),1≤m→m+fuel≤n→wD f p m →
  ∃m',run f (kas_desc fuel p m 0)=(p,m',0)∧m≤m'∧m'≤m+fuel∧wD f p m'
 |0,m,_,_,u=>⟨m,rfl,le_refl _,le_refl _,u⟩
 |fuel+1,m,h1,hm,u=>by
  cases e:f (p.getD m 0) (p.getD (m-1) 0)with
  |true =>
   have er:run f (kas_desc (fuel+1) p m 0)=run f (kas_desc fuel p (m+1) 0):=by
    show run f (if f (p.getD m 0) (p.getD (m-1) 0)=true then (if 0>0 then _ else kas_desc fuel p (m+1) 0)else _)=_
    rw[e,if_pos rfl,if_neg (by omega)]
   rw[er];obtain⟨m',a1,a2,a3,a4⟩:=kX O r fuel (m+1) (by omega) (by omega) (by
    intro i j hij hj
    by_cases ej:j=m
    ·subst ej
     by_cases e2:i=j-1
     ·rw[e2];exact e
     ·exact O.tr _ _ _ (r.lt (by omega)) (r.lt (i:=j-1) (by omega)) (r.lt (by omega)) e (u i (j-1) (by omega) (by omega))
    ·exact u i j hij (by omega))
   exact⟨m',a1,by omega,by omega,a4⟩
  |false =>
   have e2:f (p.getD (m-1) 0) (p.getD m 0)=true:=by
    rcases O.tot _ _ (r.lt (i:=m) (by omega)) (r.lt (i:=m-1) (by omega)) (r.ne (by omega) (by omega) (by omega))with z|z
    ·rw[e]at z;cases z
    ·exact z
   have er:run f (kas_desc (fuel+1) p m 0)=(p,m,0):=by
    show run f (if f (p.getD m 0) (p.getD (m-1) 0)=true then _ else KasT.ask (p.getD (m-1) 0) (p.getD m 0) λd=>if d=true then .ret (p,m,0)else kas_desc fuel p (m+1) (0+1))=_
    rw[e,if_neg (by simp)];show run f (if f (p.getD (m-1) 0) (p.getD m 0)=true then KasT.ret (p,m,0)else kas_desc fuel p (m+1) (0+1))=_
    rw[e2,if_pos rfl];rfl
   exact⟨m,er,le_refl _,by omega,u⟩
theorem oY{p:Array Nat}{m:Nat}(hm:m≤p.size)(k:Nat)(hk:k<m):(kas_rev p 0 m).getD k 0=p.getD (m-1-k) 0:=by
 unfold kas_rev;rw[getD_eq_getD_getElem?,getElem?_mirror_all hm k,if_pos ⟨by omega,hk⟩,getD_eq_getD_getElem?]
 congr 2
 omega
theorem wE{p:Array Nat}{m:Nat}(hm:m≤p.size)(d:wD f p m):Up f (kas_rev p 0 m) m:=by
 intro i j hij hj;rw[oY hm i (by omega),oY hm j hj];exact d _ _ (by omega) (by omega)
theorem lT(O:Ord f n){p:Array Nat}(r:Row n p)(h2:1≤n):∃m p',run f (kas_count n p)=(m,p')∧1≤m∧m≤n∧Row n p'∧Up f p' m:=by
 obtain⟨a1,a2,a3,a4⟩:=kR O r (n-1) 1 (by omega) (by omega) (by intro i j hij hj;omega);have er:run f (kas_count n p)=run f (if (run f (kas_asc p (n-1) 1)==n)=true then KasT.ret (run f (kas_asc p (n-1) 1),p)else if run f (kas_asc p (n-1) 1)>1 then .ask (p.getD 0 0) (p.getD (run f (kas_asc p (n-1) 1)-1) 0) λc=>if c=true then .ret (run f (kas_asc p (n-1) 1),p)else kas_descPart (run f (kas_asc p (n-1) 1)) n (kas_rev p 0 (run f (kas_asc p (n-1) 1)))
  else kas_descPart (run f (kas_asc p (n-1) 1)) n p):=by
  unfold kas_count;rw[dw]
 rw[er];generalize run f (kas_asc p (n-1) 1)=m at a1 a2 a3 a4⊢
 by_cases e:m=n
 ·rw[if_pos (by simp[e])];exact⟨m,p,rfl,a1,by omega,r,a3⟩
 ·rw[if_neg (by simpa using e)]
  by_cases e1:m>1
  ·rw[if_pos e1];refine⟨m,p,?_,a1,by omega,r,a3⟩;show run f (if f (p.getD 0 0) (p.getD (m-1) 0)=true then KasT.ret (m,p)else _)=_
   rw[a3 0 (m-1) (by omega) (by omega),if_pos rfl];rfl
  ·rw[if_neg e1];have em:m=1:=by omega
   subst em;have hd:=a4 (by omega);unfold kas_descPart;obtain⟨m',b1,b2,b3,b4⟩:=kX O r (n-(1+1)) (1+1) (by omega) (by omega) (by
    intro i j hij hj;have:i=0∧j=1:=by omega
    rw[this.1,this.2];exact hd)
   rw[dw,b1];dsimp only;rw[if_neg (by omega)];unfold kas_tail3;have hs:=r.size;have ur:=wE (f:=f) (by omega:m'≤p.size) b4;obtain⟨c1,c2,c3,c4⟩:=kR O (r.rev 0 m') (n-m') m' (by omega) (by omega) ur;rw[dw];exact⟨_,_,rfl,by omega,by omega,r.rev 0 m',c3⟩
theorem gk(O:Ord f n){p:Array Nat}(r:Row n p){k:Nat}(hk:k<n)(u:Up f p k):∀(fuel l r':Nat),r'-l≤fuel→l≤r'→r'≤k →
  (∀i,i<l→f (p.getD i 0) (p.getD k 0)=true)→(∀i,r'≤i→i<k→f (p.getD k 0) (p.getD i 0)=true) →
  run f (kas_place p k fuel l r')≤k∧(∀i,i<run f (kas_place p k fuel l r')→f (p.getD i 0) (p.getD k 0)=true)∧(∀i,run f (kas_place p k fuel l r')≤i→i<k→f (p.getD k 0) (p.getD i 0)=true)
 |0,l,r',h1,h2,h3,h4,h5=>by
  have:l=r':=by omega
  subst this;exact⟨h3,h4,h5⟩
 |fuel+1,l,r',h1,h2,h3,h4,h5=>by
  unfold kas_place
  by_cases e:l≥r'
  ·rw[if_pos e];have:l=r':=by omega
   subst this;exact⟨h3,h4,h5⟩
  ·rw[if_neg e];have hmid:(l+r') / 2<k:=by omega
   cases c:f (p.getD k 0) (p.getD ((l+r') / 2) 0)with
   |true =>
    have er:run f (KasT.ask (p.getD k 0) (p.getD ((l+r') / 2) 0) λc=>if c=true then kas_place p k fuel l ((l+r') / 2)else kas_place p k fuel ((l+r') / 2+1) r')=run f (kas_place p k fuel l ((l+r') / 2)):=by
     show run f (if f (p.getD k 0) (p.getD ((l+r') / 2) 0)=true then _ else _)=_
     rw[c,if_pos rfl]
    rw[er];refine gk O r hk u fuel l _ (by omega) (by omega) (by omega) h4 (λi hi hik=>?_)
    by_cases ei:i=(l+r') / 2
    ·rw[ei];exact c
    ·exact O.tr _ _ _ (r.lt hk) (r.lt (i:=(l+r') / 2) (by omega)) (r.lt (by omega)) c (u _ _ (by omega) hik)
   |false =>
    have er:run f (KasT.ask (p.getD k 0) (p.getD ((l+r') / 2) 0) λc=>if c=true then kas_place p k fuel l ((l+r') / 2)else kas_place p k fuel ((l+r') / 2+1) r')=run f (kas_place p k fuel ((l+r') / 2+1) r'):=by
     show run f (if f (p.getD k 0) (p.getD ((l+r') / 2) 0)=true then _ else _)=_
     rw[c,if_neg (by simp)]
    rw[er];have c':f (p.getD ((l+r') / 2) 0) (p.getD k 0)=true:=by
     rcases O.tot _ _ (r.lt (i:=k) hk) (r.lt (i:=(l+r') / 2) (by omega)) (r.ne hk (by omega) (by omega))with z|z
     ·rw[c]at z;cases z
     ·exact z
    refine gk O r hk u fuel _ r' (by omega) (by omega) h3 (λi hi=>?_) h5
    by_cases ei:i=(l+r') / 2
    ·rw[ei];exact c'
    ·exact O.tr _ _ _ (r.lt (by omega)) (r.lt (i:=(l+r') / 2) (by omega)) (r.lt hk) (u i _ (by omega) (by omega)) c'
theorem iH{p:Array Nat}{k l:Nat}(hk:k<p.size)(hl:l≤k)(i:Nat):(bubble p k (k-l)).getD i 0=if i=l then p.getD k 0 else if l<i∧i≤k then p.getD (i-1) 0 else p.getD i 0:=by
 simp only[getD_eq_getD_getElem?];rw[getElem?_bubble hk (k-l) (by omega) i];have e:k-(k-l)=l:=by omega
 rw[e]
 by_cases h1:i=l
 ·rw[if_pos h1,if_pos h1]
 ·rw[if_neg h1,if_neg h1]
  by_cases h2:l<i∧i≤k
  ·rw[if_pos h2,if_pos h2]
  ·rw[if_neg h2,if_neg h2]
theorem rG(O:Ord f n):∀(fuel:Nat)(p:Array Nat)(k:Nat),Row n p→k+fuel=n→Up f p k→Row n (run f (kas_bin fuel p k))∧Up f (run f (kas_bin fuel p k)) n
 |0,p,k,r,hk,u=>by
  have:k=n:=by omega
  subst this;exact⟨r,u⟩
 |fuel+1,p,k,r,hk,u=>by
  have hkn:k<n:=by omega
  obtain⟨a1,a2,a3⟩:=gk O r hkn u k 0 k (by omega) (by omega) (le_refl _) (λi hi=>by omega) (λi h1 h2=>by omega);have er:run f (kas_bin (fuel+1) p k)=run f (kas_bin fuel (bubble p k (k-run f (kas_place p k k 0 k))) (k+1)):=by
   show run f ((kas_place p k k 0 k).bind λl=>kas_bin fuel (bubble p k (k-l)) (k+1))=_;rw[dw]
  rw[er];generalize run f (kas_place p k k 0 k)=l at a1 a2 a3⊢;have hs:=r.size;refine rG O fuel _ (k+1) (r.bub _ _) (by omega) ?_;intro i j hij hj;rw[iH (by omega) a1 i,iH (by omega) a1 j]
  by_cases ei:i=l
  ·rw[if_pos ei,if_neg (by omega),if_pos ⟨by omega,by omega⟩];exact a3 (j-1) (by omega) (by omega)
  ·rw[if_neg ei]
   by_cases ej:j=l
   ·rw[if_pos ej,if_neg (by omega)];exact a2 i (by omega)
   ·rw[if_neg ej]
    by_cases hi2:l<i∧i≤k
    ·rw[if_pos hi2,if_pos ⟨by omega,by omega⟩];exact u _ _ (by omega) (by omega)
    ·rw[if_neg hi2]
     by_cases hj2:l<j∧j≤k
     ·rw[if_pos hj2]
      by_cases e3:i=j-1
      ·omega
      ·exact u i (j-1) (by omega) (by omega)
     ·rw[if_neg hj2];exact u i j hij (by omega)
theorem iY{p:Array Nat}(r:Row n p):∀(fuel m:Nat),1≤m→m+fuel≤n→path f n (kas_asc p fuel m)
 |0,m,_,_=>trivial
 |fuel+1,m,h1,hm=>by
  refine⟨r.lt (by omega),r.lt (by omega),?_⟩;show path f n (if f (p.getD m 0) (p.getD (m-1) 0)=true then KasT.ret m else kas_asc p fuel (m+1))
  split
  ·exact trivial
  ·exact iY r fuel (m+1) (by omega) (by omega)
theorem jT(O:Ord f n){p:Array Nat}(r:Row n p):∀(fuel m:Nat),1≤m→m+fuel≤n→path f n (kas_desc fuel p m 0)
 |0,m,_,_=>trivial
 |fuel+1,m,h1,hm=>by
  refine⟨r.lt (by omega),r.lt (by omega),?_⟩;show path f n (if f (p.getD m 0) (p.getD (m-1) 0)=true then (if 0>0 then _ else kas_desc fuel p (m+1) 0)else KasT.ask (p.getD (m-1) 0) (p.getD m 0) λd=>if d=true then .ret (p,m,0)else kas_desc fuel p (m+1) (0+1))
  cases e:f (p.getD m 0) (p.getD (m-1) 0)with
  |true =>
   rw[if_pos rfl,if_neg (by omega)];exact jT O r fuel (m+1) (by omega) (by omega)
  |false =>
   rw[if_neg (by simp)];have e2:f (p.getD (m-1) 0) (p.getD m 0)=true:=by
    rcases O.tot _ _ (r.lt (i:=m) (by omega)) (r.lt (i:=m-1) (by omega)) (r.ne (by omega) (by omega) (by omega))with z|z
    ·rw[e]at z;cases z
    ·exact z
   refine⟨r.lt (by omega),r.lt (by omega),?_⟩;dsimp only;rw[e2,if_pos rfl];exact trivial
theorem nW(O:Ord f n){p:Array Nat}(r:Row n p)(h2:1≤n):path f n (kas_count n p):=by
 obtain⟨a1,a2,a3,a4⟩:=kR O r (n-1) 1 (by omega) (by omega) (by intro i j hij hj;omega);unfold kas_count;refine cN (iY r _ _ (by omega) (by omega)) ?_;generalize run f (kas_asc p (n-1) 1)=m at a1 a2 a3 a4⊢
 by_cases e:m=n
 ·rw[if_pos (by simp[e])];exact trivial
 ·rw[if_neg (by simpa using e)]
  by_cases e1:m>1
  ·rw[if_pos e1];refine⟨r.lt (by omega),r.lt (by omega),?_⟩;dsimp only;rw[a3 0 (m-1) (by omega) (by omega),if_pos rfl];exact trivial
  ·rw[if_neg e1];have em:m=1:=by omega
   subst em;have hd:=a4 (by omega);unfold kas_descPart;refine cN (jT O r _ _ (by omega) (by omega)) ?_;obtain⟨m',b1,b2,b3,b4⟩:=kX O r (n-(1+1)) (1+1) (by omega) (by omega) (by
    intro i j hij hj;have:i=0∧j=1:=by omega
    rw[this.1,this.2];exact hd)
   rw[b1];dsimp only;rw[if_neg (by omega)];unfold kas_tail3;exact cN (iY (r.rev 0 m') _ _ (by omega) (by omega)) trivial
theorem fz{p:Array Nat}(r:Row n p){k:Nat}(hk:k<n):∀(fuel l r':Nat),r'≤k→path f n (kas_place p k fuel l r')
 |0,l,r',_=>trivial
 |fuel+1,l,r',h=>by
  unfold kas_place
  by_cases e:l≥r'
  ·rw[if_pos e];exact trivial
  ·rw[if_neg e];refine⟨r.lt hk,r.lt (by omega),?_⟩;dsimp only
   split
   ·exact fz r hk fuel _ _ (by omega)
   ·exact fz r hk fuel _ _ h
theorem lU(O:Ord f n):∀(fuel:Nat)(p:Array Nat)(k:Nat),Row n p→k+fuel=n→Up f p k→path f n (kas_bin fuel p k)
 |0,p,k,r,hk,u=>trivial
 |fuel+1,p,k,r,hk,u=>by
  have hkn:k<n:=by omega
  show path f n ((kas_place p k k 0 k).bind λl=>kas_bin fuel (bubble p k (k-l)) (k+1));refine cN (fz r hkn _ _ _ (le_refl _)) ?_;obtain⟨a1,a2,a3⟩:=gk O r hkn u k 0 k (by omega) (by omega) (le_refl _) (λi hi=>by omega) (λi h1 h2=>by omega);generalize run f (kas_place p k k 0 k)=l at a1 a2 a3⊢;have hs:=r.size;refine lU O fuel _ (k+1) (r.bub _ _) (by omega) ?_;intro i j hij hj;rw[iH (by omega) a1 i,iH (by omega) a1 j]
  by_cases ei:i=l
  ·rw[if_pos ei,if_neg (by omega),if_pos ⟨by omega,by omega⟩];exact a3 (j-1) (by omega) (by omega)
  ·rw[if_neg ei]
   by_cases ej:j=l
   ·rw[if_pos ej,if_neg (by omega)];exact a2 i (by omega)
   ·rw[if_neg ej]
    by_cases hi2:l<i∧i≤k
    ·rw[if_pos hi2,if_pos ⟨by omega,by omega⟩];exact u _ _ (by omega) (by omega)
    ·rw[if_neg hi2]
     by_cases hj2:l<j∧j≤k
     ·rw[if_pos hj2]
      by_cases e3:i=j-1
      ·omega
      ·exact u i (j-1) (by omega) (by omega)
     ·rw[if_neg hj2];exact u i j hij (by omega)
theorem qp(O:Ord f n)(h:1≤n):path f n (kas_sort n):=by
 have r0:Row n (toArray (List.range n)):=⟨by simp⟩;obtain⟨m,p',e,h1,h2,r,u⟩:=lT O r0 h;unfold kas_sort;refine cN (nW O r0 h) ?_;rw[e];dsimp only
 by_cases hm:m<n
 ·rw[if_pos hm];have:max m 1=m:=by omega
  rw[this];exact lU O (n-m) p' m r (by omega) u
 ·rw[if_neg hm];exact trivial
theorem uk(O:Ord f n)(h:1≤n):Row n (run f (kas_sort n))∧Up f (run f (kas_sort n)) n:=by
 have r0:Row n (toArray (List.range n)):=⟨by simp⟩;obtain⟨m,p',e,h1,h2,r,u⟩:=lT O r0 h;unfold kas_sort;rw[dw,e];dsimp only
 by_cases hm:m<n
 ·rw[if_pos hm];have:max m 1=m:=by omega
  rw[this];exact rG O (n-m) p' m r (by omega) u
 ·rw[if_neg hm];have:m=n:=by omega
  subst this;exact⟨r,u⟩
end
section
variable{prog:Program}{w:World}{A:Around}{E:Value→Shared→Prop}{s:Shared}
theorem uo{vs:List Value}(h:vs.length<2):((vs.toArray.zip vs.toArray).map (·.2)).toList=(toArray ((toArray (List.range vs.length)).toList.map λi=>vs.getD i Value.none)).toList:=by
 cases vs with
 |nil=>simp
 |cons v r =>
  cases r with
  |nil=>simp
  |cons u r=>exact absurd h (by simp)
theorem kY{f:Nat→Nat→Bool}{a:Addr}{vs:List Value}{n:Nat}{κ:SortKind}{P:PySem.Fin→Shared→Prop}(O:Ord f vs.length)(ho:s.heap.get? a=some (seqObj "list" vs.toArray n))(h64:vs.length<64)(hk:∀s':Shared,(∀b o,b≠a→s.heap.get? b=some o→s'.heap.get? b=some o)→∀Q:SortKind→Shared→Prop,2≤vs.length→Q κ s'→wpAny (model prog w) A (keyKind' vs.toArray) Q (λ_ _=>False) s')(hlt:∀s':Shared,(∀b o,b≠a→s.heap.get? b=some o→s'.heap.get? b=some o)→∀(i j:Nat) (C:Bool→Shared→Prop),i<vs.length→j<vs.length→C (f i j) s'→wpAny (model prog w) A (keyLt' κ (vs.getD i Value.none) (vs.getD j Value.none)) C (λ_ _=>False) s')(h:∀p:Array Nat,Row vs.length p→Up f p vs.length→P (.done (.ret .none)) {s with heap:=sortedHeap s.heap a vs (toArray (p.toList.map λi=>vs.getD i Value.none))}):
  wpAny (model prog w) A (Builtin.«list.sort» ⟨[.ref a],[]⟩) P E s:=by
 have ha:a<s.heap.objs.size:=lt_size ho;have s1:=SameBut.update s.heap a (Obj.mapSeq λ_=>(#[]:Array Value));obtain⟨e1,ho1⟩:∃e1,(s.heap.update a (Obj.mapSeq λ_=>(#[]:Array Value))).get? a=some (seqObj "list" #[] e1):=⟨_,get?_update_seq ho λ_=>#[]⟩;rw[list_sort_plain];refine wpAny_bind (listItems_at ho rfl ?_);refine wpAny_bind (listUpdate_at ho rfl ?_ (by rw[size_toArray,sizeLine_eq];omega) (zero_le _));refine wpAny_bind (seqEpoch_at ho1 rfl ?_);refine wpAny_bind (wpAny_newTuple ?_ (by show vs.length≤_;rw[sizeLine_eq];omega));refine wpAny_bind (wpAny_newList ?_ (zero_le _));refine wpAny_holding ?_;have ho6:(((s.heap.update a (Obj.mapSeq λ_=>(#[]:Array Value))).push (seqObj "tuple" vs.toArray 0)).push (seqObj "list" #[] 0)).get? a=some (seqObj "list" #[] e1):=get?_push_of_some _ (get?_push_of_some _ ho1);have keep:∀b o,b≠a→s.heap.get? b=some o→(((s.heap.update a (Obj.mapSeq λ_=>(#[]:Array Value))).push (seqObj "tuple" vs.toArray 0)).push (seqObj "list" #[] 0)).get? b=some o:=λb o hb e =>
  get?_push_of_some _ (get?_push_of_some _ ((s1.2 b hb).trans e))
 show wpAny (model prog w) A _ P E {s with heap:=((s.heap.update a (Obj.mapSeq λ_=>(#[]:Array Value))).push (seqObj "tuple" vs.toArray 0)).push (seqObj "list" #[] 0)}
 dsimp only
 by_cases hn2:vs.toArray.size<2
 ·rw[if_pos hn2,if_pos hn2];refine wpAny_bind (wpAny_pure ?_);rw[StateT.run_pure];refine wpAny_bind (wpAny_pure ?_);dsimp only;have hn2':vs.length<2:=by simpa using hn2
  have hr:Row vs.length (toArray (List.range vs.length)):=⟨by simp⟩;have hu:Up f (toArray (List.range vs.length)) vs.length:=λi j hij hj=>by omega
  have e2:(arrOf (SortSt.mk' general' (vs.toArray.zip vs.toArray) #[] 7 none)).map (·.2)=toArray ((toArray (List.range vs.length)).toList.map λi=>vs.getD i Value.none):=by
   show(vs.toArray.zip vs.toArray).map (·.2)=_;apply Array.toList_inj.mp;exact uo hn2'
  refine wpAny_bind (seqEpoch_at ho6 rfl ?_);rw[e2];refine wpAny_bind (listUpdate_at ho6 rfl ?_ (zero_le _) (by rw[size_toArray,length_map,length_toList,hr.size,sizeLine_eq];omega));show wpAny _ _ (if (e1 != e1)=true then _ else _) _ _ _
  simp only[bne_self_eq_false,false_eq_true,if_false];exact wpAny_pure (h _ hr hu)
 ·have hn2':2≤vs.length:=by rw[size_toArray]at hn2;omega
  rw[if_neg hn2,if_neg hn2];refine wpAny_bind (wpAny_mono (hk {s with heap:=((s.heap.update a (Obj.mapSeq λ_=>(#[]:Array Value))).push (seqObj "tuple" vs.toArray 0)).push (seqObj "list" #[] 0)} keep (λk' s'=>k'=κ∧s'={s with heap:=((s.heap.update a (Obj.mapSeq λ_=>(#[]:Array Value))).push (seqObj "tuple" vs.toArray 0)).push (seqObj "list" #[] 0)}) hn2' ⟨rfl,rfl⟩) (λκ' s0 hes=>?_) λ_ _ x=>x.elim)
  obtain⟨ek,es⟩:=hes;subst ek es;obtain⟨hrow,hup⟩:=uk O (by omega:1≤vs.length);refine wpAny_bind (wpAny_mono (kat_run (Q:=λst' s'=>∃p:Array Nat,p.size=vs.length∧arrOf st'=p.map (kas_item (vs.toArray.zip vs.toArray))∧failedOf st'=none∧p=run f (kas_sort vs.length)∧s'={s with heap:=((s.heap.update a (Obj.mapSeq λ_=>(#[]:Array Value))).push (seqObj "tuple" vs.toArray 0)).push (seqObj "list" #[] 0)})
   rfl hn2' h64 (λp' st' s' a1 a2 a3 a4=>⟨p',a1,a2,a3,a4⟩) (oX (n:=vs.length) (λi j C hi hj hC=>hlt _ keep i j C hi hj hC) (λp s'=>p=run f (kas_sort vs.length)∧s'={s with heap:=((s.heap.update a (Obj.mapSeq λ_=>(#[]:Array Value))).push (seqObj "tuple" vs.toArray 0)).push (seqObj "list" #[] 0)}) _ (qp O (by omega)) ⟨rfl,rfl⟩)) ?_ λ_ _ e=>e)
  rintro⟨⟨⟩,st'⟩ s' ⟨p,hp,har,hf,ep,es⟩;subst es;dsimp only;have hout:=kat_snds (ks:=vs) rfl har;refine wpAny_bind (seqEpoch_at ho6 rfl ?_);rw[hout];refine wpAny_bind (listUpdate_at ho6 rfl ?_ (zero_le _) (by rw[size_toArray,length_map,length_toList,hp,sizeLine_eq];omega));rw[hf];simp only[bne_self_eq_false,false_eq_true,if_false];rw[ep];exact wpAny_pure (h _ hrow hup)
theorem lV{l:Addr}{vs:List Value}{Q:List Value→Shared→Prop}(hl:IsTup s.heap l vs.toArray)(h:Q vs {s with heap:=(s.heap.push (seqObj "list" #[] 0)).update s.heap.objs.size (Obj.mapSeq (· ++ vs.toArray))})(hsz:vs.length≤sizeLine):
  wpAny (model prog w) A (collect (.ref l)) Q E s:=by
 obtain⟨o,ho,hc,n,hd⟩:=id hl;unfold collect;refine wpAny_bind (wpAny_runValue (codeAny_builtin entry_proto_collect' ?_));show wpAny _ _ (do again (.builtin "list.__iadd__" ⟨[←newList [],.ref l],[]⟩)) _ _ s
 refine wpAny_bind (wpAny_newList (wpAny_pure ⟨Code.quiet_builtin _ (by decide +kernel),codeAny_builtin entry_list_iadd' ?_⟩));show wpAny _ _ (Builtin.List.listExtendWith (.ref s.heap.objs.size) (.ref l) (.ref s.heap.objs.size)) _ _ {s with heap:=s.heap.push (seqObj "list" #[] 0)}
 unfold Builtin.List.listExtendWith;have ho':(s.heap.push (seqObj "list" #[] 0)).get? l=some o:=get?_push_of_some _ ho;refine wpAny_bind (wpAny_typeOf (T:="tuple") ⟨o,ho',hc⟩ ?_);have ht:(type "tuple"==type "tuple")=true:=by rfl
 rw[if_pos (by rw[ht];simp)];refine wpAny_bind (listItems_at ho' hd ?_);refine wpAny_bind (listItems_at (xs:=#[]) (n:=0) (get?_push_size _ rfl) rfl ?_);rw[if_neg (by simp)];refine wpAny_bind (listUpdate_at (xs:=#[]) (n:=0) (get?_push_size _ rfl) rfl ?_ (zero_le _) (by show(#[]++vs.toArray).size≤sizeLine+1;simp only[Array.size_append,size_toArray,length_nil];omega));refine wpAny_pure ?_;show wpAny (model prog w) A (do
   let o ← load s.heap.objs.size
   match o.data with
   |.seq xs _=>pure xs.toList
   | _=>unsupported "internal:collect") Q E {s with heap:=(s.heap.push (seqObj "list" #[] 0)).update s.heap.objs.size (Obj.mapSeq (· ++ vs.toArray))}
 refine wpAny_bind (wpAny_load (get?_update_seq (get?_push_size _ rfl) _) ?_);show wpAny _ _ (pure ((#[]:Array Value)++vs.toArray).toList) Q E _;rw[show((#[]:Array Value)++vs.toArray).toList=vs by simp];exact wpAny_pure h
theorem lW{l:Addr}{vs:List Value}{Q:List Value→Shared→Prop}(hl:s.heap.IsList l vs.toArray∨IsTup s.heap l vs.toArray)(h:Q vs {s with heap:=(s.heap.push (seqObj "list" #[] 0)).update s.heap.objs.size (Obj.mapSeq (· ++ vs.toArray))})(hsz:vs.length≤sizeLine):
  wpAny (model prog w) A (collect (.ref l)) Q E s:=by
 rcases hl with hl|hl
 ·exact collect_list hl h hsz
 ·exact lV hl h hsz
theorem dM{f:Nat→Nat→Bool}{l:Addr}{vs:List Value}{κ:SortKind}{Q:Value→Shared→Prop}(O:Ord f vs.length)(hl:s.heap.IsList l vs.toArray∨IsTup s.heap l vs.toArray)(h64:vs.length<64)(hk:∀(A':Around) (s':Shared),A'.units≤A.units+2→(∀b o,s.heap.get? b=some o→s'.heap.get? b=some o)→∀Q:SortKind→Shared→Prop,2≤vs.length→Q κ s'→wpAny (model prog w) A' (keyKind' vs.toArray) Q (λ_ _=>False) s')(hlt:∀(A':Around) (s':Shared),A'.units≤A.units+2→(∀b o,s.heap.get? b=some o→s'.heap.get? b=some o)→∀(i j:Nat) (C:Bool→Shared→Prop),i<vs.length→j<vs.length→C (f i j) s'→wpAny (model prog w) A' (keyLt' κ (vs.getD i Value.none) (vs.getD j Value.none)) C (λ_ _=>False) s')(h:∀(p:Array Nat) (h':Heap),Row vs.length p→Up f p vs.length→(∀b o,s.heap.get? b=some o→h'.get? b=some o)→s.heap.objs.size≤s.heap.objs.size+1→(∃k,h'.get? (s.heap.objs.size+1)=some (seqObj "list" (toArray (p.toList.map λi=>vs.getD i Value.none)) k))→Q (.ref (s.heap.objs.size+1)) {s with heap:=h'}):
  wpAny (model prog w) A (call (.builtin "sorted") [.ref l]) Q E s:=by
 refine Calls.call_function_entry kind_sorted plain_sorted entry_sorted (args_sorted1 _) ?_;unfold Builtin.«sorted»;refine wpAny_bind (m:=checkCount "sorted" 1 1 _) (wpAny_pure ?_);refine wpAny_bind (lW hl ?_ (by rw[sizeLine_eq];omega));refine wpAny_bind (wpAny_newList ?_ (by rw[sizeLine_eq];omega));have hsz:((s.heap.push (seqObj "list" #[] 0)).update s.heap.objs.size (Obj.mapSeq (· ++ vs.toArray))).objs.size=s.heap.objs.size+1:=by
  rw[size_update,size_push']
 have hoL:(((s.heap.push (seqObj "list" #[] 0)).update s.heap.objs.size (Obj.mapSeq (· ++ vs.toArray))).push (seqObj "list" vs.toArray 0)).get? (s.heap.objs.size+1)=some (seqObj "list" vs.toArray 0):=by
  rw[←hsz];exact get?_push_size _ rfl
 have keep:∀b o,s.heap.get? b=some o→(((s.heap.push (seqObj "list" #[] 0)).update s.heap.objs.size (Obj.mapSeq (· ++ vs.toArray))).push (seqObj "list" vs.toArray 0)).get? b=some o:=λb o q=>by
  have hlt:b<s.heap.objs.size:=lt_size q;rw[get?_push_ne _ _ _ (by rw[hsz];exact ne_of_lt (lt_succ_of_lt hlt)),get?_update_ne _ _ _ _ (ne_of_lt hlt),get?_push_ne _ _ _ (ne_of_lt hlt)];exact q
 have neD:∀b o,s.heap.get? b=some o→b≠s.heap.objs.size+1:=λb o q=>ne_of_lt (lt_succ_of_lt (lt_size q));show wpAny _ _ _ _ _ {s with heap:=((s.heap.push (seqObj "list" #[] 0)).update s.heap.objs.size (Obj.mapSeq (· ++ vs.toArray))).push (seqObj "list" vs.toArray 0)}
 rw[hsz];refine wpAny_bind (wpAny_holding (wpAny_call_entry slot_list_sort ⟨_,hoL,rfl⟩ entry_list_sort (kY (κ:=κ) (s:={s with heap:=((s.heap.push (seqObj "list" #[] 0)).update s.heap.objs.size (Obj.mapSeq (· ++ vs.toArray))).push (seqObj "list" vs.toArray 0)}) O hoL h64 ?_ ?_ λp hr hu=>⟨_,rfl,?_⟩) (args_list_sort _)))
 ·intro s' hs' Q' h2 hq;exact hk _ s' (by simp[Around.in1_units]) (λb o e=>hs' b o (neD b o e) (keep b o e)) Q' h2 hq
 ·intro s' hs' i j C hi hj hC;exact hlt _ s' (by simp[Around.in1_units]) (λb o e=>hs' b o (neD b o e) (keep b o e)) i j C hi hj hC
 ·refine wpAny_pure ⟨_,rfl,h p _ hr hu (λb o e=>?_) (le_succ _) ?_⟩
  ·unfold sortedHeap;rw[get?_update_ne _ _ _ _ (neD b o e)];refine get?_push_of_some _ (get?_push_of_some _ ?_);rw[get?_update_ne _ _ _ _ (neD b o e)];exact keep b o e
  ·unfold sortedHeap;obtain⟨e1,ho1⟩:∃e1,((((s.heap.push (seqObj "list" #[] 0)).update s.heap.objs.size (Obj.mapSeq (· ++ vs.toArray))).push (seqObj "list" vs.toArray 0)).update (s.heap.objs.size+1) (Obj.mapSeq λ_=>(#[]:Array Value))).get? (s.heap.objs.size+1)=some (seqObj "list" #[] e1):=⟨_,get?_update_seq hoL λ_=>#[]⟩;exact⟨_,get?_update_seq (get?_push_of_some _ (get?_push_of_some _ ho1)) _⟩
theorem qr{f:Nat→Nat→Bool}{l:Addr}{vs:List Value}{κ:SortKind}{Q:Value→Shared→Prop}(O:Ord f vs.length)(hl:s.heap.IsList l vs.toArray)(h64:vs.length<64)(hk:∀(A':Around) (s':Shared),A'.units≤A.units+2→(∀b o,s.heap.get? b=some o→s'.heap.get? b=some o)→∀Q:SortKind→Shared→Prop,2≤vs.length→Q κ s'→wpAny (model prog w) A' (keyKind' vs.toArray) Q (λ_ _=>False) s')(hlt:∀(A':Around) (s':Shared),A'.units≤A.units+2→(∀b o,s.heap.get? b=some o→s'.heap.get? b=some o)→∀(i j:Nat) (C:Bool→Shared→Prop),i<vs.length→j<vs.length→C (f i j) s'→wpAny (model prog w) A' (keyLt' κ (vs.getD i Value.none) (vs.getD j Value.none)) C (λ_ _=>False) s')(h:∀(p:Array Nat) (h':Heap),Row vs.length p→Up f p vs.length→(∀b o,s.heap.get? b=some o→h'.get? b=some o)→s.heap.objs.size≤s.heap.objs.size+1→(∃k,h'.get? (s.heap.objs.size+1)=some (seqObj "list" (toArray (p.toList.map λi=>vs.getD i Value.none)) k))→Q (.ref (s.heap.objs.size+1)) {s with heap:=h'}):
  wpAny (model prog w) A (call (.builtin "sorted") [.ref l]) Q E s:=dM O (.inl hl) h64 hk hlt h
end
end SRT
namespace L2
open PySem PySem.Spec PyProof.Rows
section
variable{X:Cx}{tg:Expr}
theorem lX{pins:List (Addr×Obj)}{σ:St}{H:Hp}{s:Shared}{a:Addr}{ks:List Key}(I:Inv X pins σ H s)(h:H a=some (.tup (ks.map kV)))(P:Program)(w:World):IsTupleKey (ap P w) s.heap ks a:=by
 obtain⟨_,its,r,o,e,c,n,d⟩:=I.hok a _ h;exact⟨o,its.toArray,n,e,c,d,by simpa using gQ r⟩
theorem cj:∀{as:List Addr}{us:List Value},ar (as.map V.ref) us→us=as.map Value.ref
 |[],_,.nil=>rfl
 |b::bs,_,.cons r t=>by
  have e:_=Value.ref b:=r;rw[e,cj t];rfl
theorem jB(hu:X.A.units+1<cLine):OpR X (compareOp .NotIn) (λx y H Q=>∃a p ks,∃kss:List (Addr×List Key),x=.ref a∧H a=some (.tup (ks.map kV))∧y=.ref p∧SqL X.K H p ((kss.map (·.1)).map V.ref) ∧
  (∀z∈kss,H z.1=some (.tup (z.2.map kV)))∧Q (.bl (!(kss.any λz=>decide (z.2=ks)))) H):=by
 intro pins s σ H x y v u Q I rx ry h;obtain⟨a,p,ks,kss,rfl,ha,rfl,hq,hk,q⟩:=h;cases rx;cases ry;obtain⟨its,rv,pl,hz⟩:=I.list hq;have e:=cj rv;subst e
 let e:Value→Bool:=λv=>match v with | .ref b=>((kss.find? λz=>z.1==b).map λz=>decide (z.2=ks)).getD false | _=>false
 have he:∀z∈kss,e (.ref z.1)=decide (z.2=ks):=λz hz'=>by
  show((kss.find? λy=>y.1==z.1).map λz=>decide (z.2=ks)).getD false=_;cases ef:kss.find? λy=>y.1==z.1 with
  |none=>have:=List.find?_eq_none.mp ef z hz';simp at this
  |some y =>
   have h1:=find?_some ef;have h2:=List.mem_of_find?_eq_some ef;have e1:y.1=z.1:=by simpa using h1
   have e2:=hk y h2;rw[e1,hk z hz']at e2;have e3:z.2.map kV=y.2.map kV:=by injection (Option.some.inj e2)
   rw[kO e3];rfl
 refine SeqAt.notIn_listAt e pl.isList (λy hy=>?_) ⟨.bl _,H,I,rfl,?_⟩
 ·have hy':y∈(kss.map (·.1)).map Value.ref:=by simpa using hy
  obtain⟨b,hb,rfl⟩:=mem_map.mp hy';obtain⟨z,hz',rfl⟩:=mem_map.mp hb;rw[he z hz'];intro prog w E' Q' hQ;exact wpAny_eqBool_tuple (knd:=ap prog w) (by simp;exact hu) (lX I (hk z hz') prog w) (lX I ha prog w) hQ
 ·have e1:(((kss.map (·.1)).map Value.ref).toArray.any e)=kss.any λz=>decide (z.2=ks):=by
   rw[List.any_toArray,any_map,any_map];apply Bool.eq_iff_iff.mpr;rw[any_eq_true,any_eq_true];constructor
   ·rintro⟨z,hz',h1⟩;exact⟨z,hz',by rw[←he z hz'];exact h1⟩
   ·rintro⟨z,hz',h1⟩;exact⟨z,hz',by show e (.ref z.1)=true;rw[he z hz'];exact h1⟩
  rw[e1];exact q
def uq:V→List V→Hp→VK→Prop:=λx vs H Q=>∃d kvs k y,x=.ref d∧vs=[kV k,y]∧H d=some (.dK kvs)∧kvs.length<sizeLine∧(∀v,aN kvs k=some v→Q v H)∧(aN kvs k=none→Q y (upd H d (.dK (br kvs k y))))
theorem fu:MtM X "dict.setdefault" uq:=by
 intro pins s σ H x vs v us Q I rx rv h;obtain⟨d,kvs,k,y,rfl,rfl,hd,hz,q1,q2⟩:=h;cases rx;obtain⟨u,u',rfl,ru,ru'⟩:=rv.two;obtain⟨z,hs,ws,rel,dd⟩:=oV I.hok hd;have hzw:ws.length≤sizeLine:=by rw[←rel.length];exact z
 refine call_meetsIn F.slot_dict_setdefault dd.typeIs F.entry_dict_setdefault (F.args_dict_setdefault_3 _ _ _) (kt_meets_setdefault (ap X.prog X.w) d (fq ru) hs u') ⟨ws,dd,hzw,λw' hw=>?_,λhw h' dd' sb=>?_⟩
 ·have:=rel.val k;rw[hw]at this;cases e:aN kvs k with
  |none=>rw[e]at this;cases this
  |some v =>
   rw[e]at this;exact⟨v,H,I.tok _,this,q1 v e⟩
 ·have:=rel.val k;rw[hw]at this;cases e:aN kvs k with
  |some v=>rw[e]at this;cases this
  |none =>
   have he:∃q,h'.get? d=some q:=let⟨q,_,_,hq,_⟩:=dd';⟨q,hq⟩;have hl:(br kvs k y).length≤sizeLine:=by have:=cr kvs k y;omega
   exact⟨y,_,gh I (by rw[hd];exact True.intro) sb he (kQ hl hs (rel.put k ru') dd'),ru',q2 e⟩
theorem qt:cq X (.type "range") (λxs H Q=>∃i j,xs=[.int i,.int j]∧∀p,H p=none→Q (.ref p) (upd H p (.rng i j))):=by
 intro pins s σ H xs us Q I r h;obtain⟨i,j,rfl,q⟩:=h;obtain⟨u,u',rfl,⟨t,rfl⟩,⟨t',rfl⟩⟩:=xQ r;refine call_range_2 ⟨.ref s.heap.objs.size,_,I.laid (t':=s.toks+1) (o:=.rng i j) (λb ob q=>get?_push_of_some _ q) (le_refl _) ?_,rfl,q _ (I.hok.fresh (le_refl _))⟩;exact⟨t,t',_,get?_push_size _ rfl⟩
theorem nX{lo:Int}{n:Nat}{acc:Array Value}(h:ItemsOf (λi v=>∃t,v=.int (lo+i*1) t) acc n):ar ((List.range n).map λk=>V.int (lo+(k:Nat))) acc.toList:=by
 obtain⟨h1,h2⟩:=h;have key:∀(l:List Value)(k:Nat),(∀(i:Nat)(v:Value),l[i]?=some v→∃t,v=Value.int (lo+(k+i:Nat)) t)→ar ((List.range' k l.length).map λk=>V.int (lo+(k:Nat))) l:=by
  intro l
  induction l with
  |nil=>intro k _;exact .nil
  |cons v l ih =>
   intro k hv;rw[length_cons,List.range'_succ,map_cons];refine .cons ?_ (ih (k+1) λi w hw=>?_)
   ·obtain⟨t,e⟩:=hv 0 v rfl;exact⟨t,e⟩
   ·obtain⟨t,e⟩:=hv (i+1) w hw;exact⟨t,by rw[e,show k+(i+1)=k+1+i by omega]⟩
 have hl:acc.toList.length=n:=by simpa using h1
 have:=key acc.toList 0 λi v hv=>by
  have hv':acc[i]?=some v:=by simpa using hv
  obtain⟨t,e⟩:=h2 i v hv';exact⟨t,by rw[e,Int.mul_one,zero_add]⟩
 rw[hl]at this;rw[List.range_eq_range'];exact this
theorem jC(hc:X.calm=true):cq X (.type "list") (λxs H Q=>∃p i j,xs=[.ref p]∧H p=some (.rng i j)∧(-(2 ^ 62)≤i∧i<2 ^ 62∧-(2 ^ 62)≤j∧j<2 ^ 62)∧(j-i).toNat≤1000 ∧
  ∀l,H l=none→Q (.ref l) (upd H l (.lst ((List.range (j-i).toNat).map λk=>V.int (i+(k:Nat)))))):=by
 intro pins s σ H xs us Q I r h;obtain⟨p,i,j,rfl,hp,⟨b1,b2,b3,b4⟩,hn,q⟩:=h;obtain⟨u,rfl,rx⟩:=cE r;cases rx;obtain⟨t,t',t'',e⟩:=(show bi X.prog X.w H s.heap p (.rng i j)from I.hok p _ hp);have hsz:Builtin.Range.rangeSize i j 1=((j-i).toNat:Nat):=by rw[rangeSize_one];split<;>omega
 refine call_list_range (n:=(j-i).toNat) (I.ok.hd hc) e (small_one b1 b2 b3 b4) hsz (by omega) λh' tk acc c' kp hg hi=>?_;refine⟨.ref s.heap.objs.size,_,I.laid (t':=tk) kp (le_refl _) (show bi X.prog X.w _ h' _ (.lst _)from⟨?_,acc.toList,c',nX hi,by simpa using hg⟩),rfl,q _ (I.hok.fresh (le_refl _))⟩
 rw[length_map,length_range,sizeLine_eq];omega
theorem rH:OpR X (binaryOp .Add) (λx y H Q=>∃a b ys,x=.ref a∧y=.ref b∧SqT X.K H a []∧SqT X.K H b ys∧Q (.ref b) H):=by
 intro pins s σ H x y v u Q I rx ry h;obtain⟨a,b,ys,rfl,rfl,ha,hb,q⟩:=h;cases rx;cases ry;obtain⟨its,r1,ht,_⟩:=I.tuple ha;obtain⟨its2,r2,hb',_⟩:=I.tuple hb;cases r1;obtain⟨⟨cls,dd,data,sl⟩,ho,hc,n,hd⟩:=id ht;obtain⟨⟨cls2,dd2,data2,sl2⟩,ho2,hc2,n2,hd2⟩:=id hb';simp only at hc hd hc2 hd2;subst hc hd hc2 hd2;exact concat_meets ⟨_,ho,rfl⟩ ⟨_,ho2,rfl⟩ noFill_tuple_add seq_tuple_add slot_tuple_add entry_tuple_add (args_tuple_add_2 _ _)
  (tuple_addW0 a b _ its2.toArray n n2 dd dd2 sl sl2 (by rfl)) ⟨ho,ho2,⟨.ref b,H,I,rfl,q⟩⟩
theorem gm{prog:Program}{w:World}{A:Around}{E:Value→Shared→Prop}{s:Shared}{t sl:Addr}{items:Array Value}{vl vu:Value}{lo hi:Option Int}{Q:Value→Shared→Prop}(ht:IsTup s.heap t items)(hs:s.heap.IsSliceOf sl vl vu .none)(pl:IsPart vl lo)(pu:IsPart vu hi)(hw:HT.sIx items.size 0 lo=0∧HT.sIx items.size items.size hi=items.size)(h:Q (.ref t) s):wpAny (model prog w) A (getItem (.ref t) (.ref sl)) Q E s:=by
 obtain⟨os,hos,hcs,hds⟩:=id hs;have hTs:s.TypeIs (.ref sl) "slice":=⟨os,hos,hcs⟩;unfold getItem
 try with_reducible refine wpAny_holding ?_
 first|refine wpAny_bind (wpAny_pure ?_)|skip
 refine wpAny_bind (wpAny_sequenceKey ht.typeIs (by decide) ?_);refine wpAny_bind (wpAny_callSpecial?_slot (name:=ofString "__getitem__") ht.typeIs PyProof.Rows.slot_tuple_getitem
  (wpAny_call_entry PyProof.Rows.slot_tuple_getitem ht.typeIs entry_tuple_getitem ?_ (args_tuple_getitem _ _)))
 show wpAny _ _ (Builtin.Tuple.tupleItemsOf (.ref t) >>= _) _ _ s;refine wpAny_bind (tupleItemsOf_ ht ?_);refine wpAny_bind (wpAny_typeOf hTs ?_);rw[if_pos (by decide)];refine wpAny_bind (HT.dk hs pl pu ?_);have hyes:((((HT.sIx items.size 0 lo:Nat):Int)==0&&(1:Int)==1&&(HT.sIx items.size items.size hi-HT.sIx items.size 0 lo)==items.size)=true):=by
  rw[hw.1,hw.2];simp
 show wpAny _ _ (if (((HT.sIx items.size 0 lo:Nat):Int)==0&&(1:Int)==1&&(HT.sIx items.size items.size hi-HT.sIx items.size 0 lo)==items.size)=true then _ else _) _ _ s
 rw[if_pos hyes];refine wpAny_bind ?_;unfold Builtin.Tuple.tupleIsExact;refine wpAny_bind (wpAny_typeOf ht.typeIs (wpAny_pure ?_));rw[if_pos (by decide)];exact wpAny_bind (wpAny_rule (wpAny_pure ⟨_,rfl,wpAny_pure h⟩))
theorem nY:SlR X (λx lo hi H Q=>∃a xs,x=.ref a∧SqT X.K H a xs∧HT.sIx xs.length 0 lo=0∧HT.sIx xs.length xs.length hi=xs.length∧Q (.ref a) H):=by
 intro pins s σ H x v vl vu lo hi sl Q I rx hs pl pu h;obtain⟨a,xs,rfl,hx,h1,h2,q⟩:=h;cases rx;obtain⟨its,r,ht,hz⟩:=I.tuple hx;have hlen:its.toArray.size=xs.length:=by rw[size_toArray];exact r.length.symm
 exact⟨"tuple",_,PyProof.Rows.slot_tuple_getitem.lookup,ht.typeIs,gm ht hs pl pu (by rw[hlen];exact⟨h1,h2⟩) ⟨.ref a,H,I,rfl,q⟩⟩
theorem nZ(hu:X.A.units<cLine):OpR X (compareOp .Eq) (λx y H Q=>∃a b xs,x=.ref a∧y=.ref b∧SqL X.K H a xs∧SqL X.K H b []∧Q (.bl (decide (xs=[]))) H):=by
 intro pins s σ H x y v u Q I rx ry h;obtain⟨a,b,xs,rfl,rfl,ha,hb,q⟩:=h;cases rx;cases ry;obtain⟨its,r1,ht,_⟩:=I.list ha;obtain⟨its2,r2,hb',_⟩:=I.list hb;cases r2
 by_cases e:xs=[]
 ·subst e;cases r1;refine eq_listAt (e:=λ_=>true) ht.isList hb'.isList rfl hu (λj h1 h2=>absurd h2 (by simp)) ⟨.bl _,H,I,?_,q⟩;rfl
 ·have e2:its≠[]:=λz=>e (r1.nil_iff.mp z);have e3:its.length≠0:=λz=>e2 (length_eq_zero_iff.mp z);refine SeqAt.eq_list_lengthsAt ht.isList hb'.isList (by simp[e3]) hu ⟨.bl _,H,I,?_,q⟩;show _=Value.bool _;simp[e]
end
end L2
namespace ZT
open PySem PySem.SeqAt
section
variable{prog:Program}{w:World}{A:Around}{E:Value→Shared→Prop}{s:Shared}
end
end ZT
namespace L2
open PySem PySem.Spec PyProof.Rows
section
variable{X:Cx}{tg:Expr}
abbrev gr:=Addr×Int×List V
def numAt(zs:List gr)(i:Nat):Int:=(zs.getD i (0,0,[])).2.1
theorem rJ{zs:List gr}(h:(zs.map (·.2.1)).Nodup):SRT.Ord (λi j=>decide (numAt zs i<numAt zs j)) zs.length:=by
 refine⟨λi _=>by simp,λi j k _ _ _ h1 h2=>?_,λi j hi hj hij=>?_⟩
 ·simp only[decide_eq_true_eq]at *;omega
 ·simp only[decide_eq_true_eq];have:numAt zs i≠numAt zs j:=by
   unfold numAt;rw[getD_eq_getElem?_getD,getD_eq_getElem?_getD,getElem?_eq_getElem hi,getElem?_eq_getElem hj];intro e;have e':(zs.map (·.2.1))[i]'(by simpa using hi)=(zs.map (·.2.1))[j]'(by simpa using hj):=by simpa using e
   exact hij ((getElem_inj h).mp e')
  omega
theorem gu{prog:Program}{w:World}{A:Around}{s:Shared}{b:Bool}{Q:Bool→Shared→Prop}(h:Q false s):∀(l:List Value)(i:Nat),PySem.W.KatLex prog w A b false Q (l.zip l) i s
 |[],i=>h
 |v::l,i=>kat_cons (EqAt.same v prog w _ _ (kat_yes (gu h l (i+1))))
theorem de:cq X (.builtin "sorted") (λxs H Q=>∃l,∃zs:List gr,xs=[.ref l]∧(SqL X.K H l ((zs.map (·.1)).map V.ref)∨SqT X.K H l ((zs.map (·.1)).map V.ref))∧(∀z∈zs,H z.1=some (.tup (.int z.2.1::z.2.2)))∧(zs.map (·.2.1)).Nodup∧zs.length<64 ∧
  ∀zs':List gr,zs'.Perm zs→zs'.Pairwise (λa b=>a.2.1<b.2.1)→∀p,H p=none→Q (.ref p) (upd H p (.lst ((zs'.map (·.1)).map V.ref)))):=by
 intro pins s σ H xs us Q I r h;obtain⟨l,zs,rfl,hq,hk,hnd,h64,q⟩:=h;obtain⟨u,rfl,ru⟩:=cE r;cases ru;obtain⟨its,rv,pl⟩:∃its,ar ((zs.map (·.1)).map V.ref) its∧(s.heap.IsList l its.toArray∨IsTup s.heap l its.toArray):=by
  rcases hq with hq|hq
  ·obtain⟨its,rv,pl,hz⟩:=I.list hq;exact⟨its,rv,.inl pl.isList⟩
  ·obtain⟨its,rv,pl,hz⟩:=I.tuple hq;exact⟨its,rv,.inr pl⟩
 have e:=cj rv;subst e;have hlen:((zs.map (·.1)).map Value.ref).length=zs.length:=by simp
 have hobj:∀z∈zs,∃o its n t,s.heap.get? z.1=some o∧o.cls=.type "tuple"∧o.data=.seq its n∧its.toList=.int z.2.1 t::its.toList.drop 1:=λz hz'=>by
  obtain⟨_,its,rr,o,e1,e2,n,e3⟩:=I.hok z.1 _ (hk z hz');cases rr with
  |cons r1 r2 =>
   obtain⟨t,rfl⟩:=r1;exact⟨o,_,n,t,e1,e2,e3,by simp⟩
 have hget:∀i,i<zs.length→((zs.map (·.1)).map Value.ref).getD i Value.none=.ref (zs.getD i (0,0,[])).1∧zs.getD i (0,0,[])∈zs:=λi hi=>by
  rw[getD_eq_getElem?_getD,getD_eq_getElem?_getD,getElem?_map,getElem?_map,getElem?_eq_getElem hi];exact⟨rfl,getElem_mem hi⟩
 refine SRT.dM (κ:=tuples' true) (f:=λi j=>decide (numAt zs i<numAt zs j)) (by rw[hlen];exact rJ hnd) pl (by rw[hlen];exact h64) ?kind ?less ?fin
 case kind =>
  intro A' s' _ kp Q' h2 hQ';have key:∀ys:List gr,(∀z∈ys,z∈zs)→∃fs:List Value,KatTups s'.heap ((ys.map (·.1)).map Value.ref) fs∧fs.length=ys.length∧∀v∈fs,∃i t,v=Value.int i t:=by
   intro ys
   induction ys with
   |nil=>intro _;exact⟨[],KatTups.nil,rfl,λv hv=>by simp at hv⟩
   |cons z ys ih =>
    intro hm;obtain⟨fs,h1,h2',h3⟩:=ih λy hy=>hm y (by simp[hy]);obtain⟨o,its,n,t,e1,e2,e3,e4⟩:=hobj z (hm z (by simp));refine⟨.int z.2.1 t::fs,KatTups.cons (kp _ _ e1) e2 e3 ?_ h1,by simp[h2'],λv hv=>?_⟩
    ·rw[←getElem?_toList,e4];rfl
    ·rcases mem_cons.mp hv with rfl|hv
     ·exact⟨_,_,rfl⟩
     ·exact h3 v hv
  obtain⟨fs,h1,h2',h3⟩:=key zs λz hz'=>hz';refine kat_kind (T:=.type "int") h1 (by rw[h2'];rw[hlen]at h2;omega) (λv hv=>?_) (by rfl) hQ';obtain⟨i,t,rfl⟩:=h3 v hv;exact .now
 case less =>
  intro A' s' _ kp i j C hi hj hC;rw[hlen]at hi hj;obtain⟨gi,mi⟩:=hget i hi;obtain⟨gj,mj⟩:=hget j hj;rw[gi,gj];obtain⟨oi,ii,ni,ti,a1,a2,a3,a4⟩:=hobj _ mi;obtain⟨oj,ij,nj,tj,b1,b2,b3,b4⟩:=hobj _ mj;refine kat_lt (kp _ _ a1) a3 (kp _ _ b1) b3 ?_
  by_cases hij:i=j
  ·subst hij;rw[a1]at b1;cases b1;rw[a3]at b3;cases b3;have:C false s':=by simpa using hC
   have e2:decide (ii.size<ii.size)=false:=by simp
   rw[e2];exact gu this _ _
  ·have hne:numAt zs i≠numAt zs j:=by
    rcases (rJ hnd).tot i j hi hj hij with h1|h1<;>simp only[decide_eq_true_eq]at h1<;>omega
   rw[a4,b4];refine kat_cons (wpAny_eqBool_int ?_);have e2:((zs.getD i (0,0,[])).2.1==(zs.getD j (0,0,[])).2.1)=false:=beq_eq_false_iff_ne.mpr hne;rw[e2];refine kat_no ?_;exact kat_lt_int hC
 case fin =>
  intro p h' hrow hup kp _ hg;obtain⟨c,hg⟩:=hg;rw[hlen]at hrow hup;obtain⟨zs',hzs'⟩:∃zs',zs'=p.toList.map λi=>zs.getD i (0,0,[]):=⟨_,rfl⟩;have hperm:zs'.Perm zs:=by
   rw[hzs'];refine(hrow.perm.map _).trans ?_;have:(List.range zs.length).map (λi=>zs.getD i (0,0,[]))=zs:=by
    apply ext_getElem?;intro i;rw[getElem?_map]
    by_cases hi:i<zs.length
    ·rw[getElem?_range hi,getElem?_eq_getElem hi];show some (zs.getD i (0,0,[]))=_;rw[getD_eq_getElem?_getD,getElem?_eq_getElem hi];rfl
    ·rw[getElem?_eq_none (by rw[length_range];omega),getElem?_eq_none (by omega)];rfl
   rw[this]
  have hpl:p.size=zs.length:=hrow.size;have hpw:zs'.Pairwise (λa b=>a.2.1<b.2.1):=by
   rw[pairwise_iff_getElem];intro i j hi hj hij;have hi':i<p.size:=by rw[hzs',length_map,length_toList]at hi;exact hi
   have hj':j<p.size:=by rw[hzs',length_map,length_toList]at hj;exact hj
   have:=hup i j hij (by omega);simp only[decide_eq_true_eq,numAt]at this;rw[getD_eq_getD_getElem?,getD_eq_getD_getElem?,Array.getElem?_eq_getElem hi',Array.getElem?_eq_getElem hj']at this;simpa [hzs']using this
  have hout:(toArray (p.toList.map λi=>((zs.map (·.1)).map Value.ref).getD i Value.none))=((zs'.map (·.1)).map Value.ref).toArray:=by
   congr 1
   rw[hzs'];simp only[map_map];apply map_congr_left;intro i hi;have hi':i<zs.length:=mem_range.mp (hrow.perm.mem_iff.mp hi);have:=(hget i hi').1;simp only[map_map]at this;exact this
  rw[hout]at hg;have hv:ar ((zs'.map (·.1)).map V.ref) ((zs'.map (·.1)).map Value.ref):=by
   generalize zs'.map (·.1)=as
   induction as with
   |nil=>exact .nil
   |cons a as ih=>exact .cons rfl ih
  refine⟨.ref (s.heap.objs.size+1),_,I.laid (t':=s.toks) (o:=.lst ((zs'.map (·.1)).map V.ref)) kp (le_succ _) ⟨?_,_,c,hv,hg⟩,rfl,q zs' hperm hpw _ (I.hok.fresh (le_succ _))⟩;rw[length_map,length_map,hperm.length_eq,sizeLine_eq];omega
theorem gS:cq X (.builtin "sorted") (λxs H Q=>∃l,∃zs:List gr,xs=[.ref l]∧SqL X.K H l ((zs.map (·.1)).map V.ref)∧(∀z∈zs,H z.1=some (.tup (.int z.2.1::z.2.2)))∧(zs.map (·.2.1)).Nodup∧zs.length<64 ∧
  ∀zs':List gr,zs'.Perm zs→zs'.Pairwise (λa b=>a.2.1<b.2.1)→∀p,H p=none→Q (.ref p) (upd H p (.lst ((zs'.map (·.1)).map V.ref)))) :=
 λpins s σ H xs us Q I r ⟨l,zs,e,hq,h⟩=>de pins s σ H xs us Q I r ⟨l,zs,e,.inl hq,h⟩
end
theorem kZ{scope:Scope}{env:Env}(h:∀y∈scope.names,y.2≠.free):relabel scope env=scope:=by
 unfold relabel;rw[map_eq_self (l:=scope.names) (λx hx=>by
  obtain⟨n,k⟩:=x;have:(k==NameKind.free)=false:=by simpa using h _ hx
  simp[this])]
theorem gT{X:Cx}{scope:Scope}(hk:scope.kind=.function)(hf:∀y∈scope.names,y.2≠.free)(hc:∀y∈scope.names,y.2≠.cell)(hn:∀x∈scope.names,x.2=.local→scope.names.lookup x.1=some .local):LcOk X scope [] :=
 ⟨hk,closureFor_none hf,hn,hc,λx c h=>by simp at h,λx h=>by
  rw[kZ hf]at h;rcases h with h|h
  ·exact absurd rfl (hc _ (PySem.mem_of_lookup h))
  ·exact absurd rfl (hf _ (PySem.mem_of_lookup h))⟩
theorem vH{k:Nat}{js:List Nat}{J:It}{g:TG}{te:TE}{σ:St}{H1:Hp}{Q:VK}{p:Addr}(n:Nat)(hn:n≤1000)(Pv:Nat→List V→St→Hp→Prop)(h0:Pv 0 [] (cp k js σ) (upd H1 p (.lst [])))(hy:∀i ys σ' H',Pv i ys σ' H'→ys.length≤i)(go:∀i ys σ' H',i<n→Pv i ys σ' H'→J.go i H')(stop:∀ys σ' H',Pv n ys σ' H'→J.stop n H'∧Q (.ref p) H')(step:∀i ys σ' H',i<n→Pv i ys σ' H'→∀x H2,J.yld i H' x H2→g x σ' H2 λσ2 H3=>te σ2 H3 λy H4=>H4 p=some (.lst ys)∧Pv (i+1) (ys++[y]) σ2 (upd H4 p (.lst (ys++[y]))))(mg:∀x σ H (Q Q':St→Hp→Prop),(∀σ H,Q σ H→Q' σ H)→g x σ H Q→g x σ H Q')(me:∀σ H (Q Q':VK),(∀y H,Q y H→Q' y H)→te σ H Q→te σ H Q'):
  LcW k js g te σ Q J H1 p:=by
 refine⟨λi m ys σ' H'=>m=n-i∧i≤n∧Pv i ys σ' H',⟨n,by simp,zero_le _,h0⟩,?_⟩;rintro i m ys σ' H' ⟨rfl,hi,hp⟩
 by_cases hlt:i<n
 ·refine .inr ⟨go i ys σ' H' hlt hp,?_,λx H2 y=>?_⟩
  ·have:=hy i ys σ' H' hp;exact lt_of_le_of_lt this (ay (by omega))
  ·refine mg _ _ _ _ _ (λσ2 H3 h3=>me _ _ _ _ (λz H4 h4=>⟨h4.1,n-(i+1),by omega,rfl,hlt,h4.2⟩) h3) (step i ys σ' H' hlt hp x H2 y)
 ·have e:i=n:=by omega
  subst e;exact .inl (stop ys σ' H' hp)
theorem ae{H:Hp}{p:Addr}{o:HO}(h:H p=none):Same H (upd H p o):=λb u e=>by rw[af (ao e h)];exact e
theorem cQ{H:Hp}{p a:Addr}{o u:HO}(h:H p=none)(e:H a=some u):upd H p o a=some u:=by rw[af (ao e h)];exact e
theorem aI{H0 H:Hp}{p:Addr}{o:HO}(h0:H0 p=none)(s:Same H0 H):Same H0 (upd H p o):=λb u e=>by
 rw[af (ao e h0)];exact s b u e
structure Fly(P:Program)(w:World)(outer:List Env)(H:Hp)(s:Shared)(H':Hp)(ea C:Addr)(s':Shared):Prop where
 os:s'.os=s.os
 bare:AllBare s'.gens
 un:Un (frs outer) [] H H' s.heap s'.heap
 new:H' ea=none
 fly:∃B a0,FlyingW B outer ea (.ref C) a0 s'.heap∧HOk P w H' B∧(∀b o,s.heap.get? b=some o→H b=none→b∉frs outer→B.get? b=some o) ∧
  ∀b o,s.heap.get? b=some o→b∉frs outer→∃o',B.get? b=some o'
def CX1(P:Program)(w:World):CXT:=λouter H s E e s'=>∃ea C H',e=.ref ea∧Fly P w outer H s H' ea C s'∧E (.ref C) none H'
theorem bi.ex{P:Program}{w:World}{H:Hp}{h:Heap}{a:Addr}{o:HO}(x:bi P w H h a o):∃ob,h.get? a=some ob:=by
 cases o with
 |lst xs=>obtain⟨_,_,_,_,e⟩:=x;exact⟨_,e⟩
 |tup xs=>obtain⟨_,_,_,ob,e,_⟩:=x;exact⟨ob,e⟩
 |dK kvs=>obtain⟨_,_,_,_,o,_,_,e,_⟩:=x;exact⟨_,e⟩
 |dT kvs=>obtain⟨_,_,_,_,o,_,_,e,_⟩:=x;exact⟨_,e⟩
 |set S n=>obtain⟨o,_,_,_,e,_⟩:=x;exact⟨_,e⟩
 |ins C dx fs=>obtain⟨_,_,_,e,_⟩:=x;exact⟨_,e⟩
 |own y=>obtain⟨_,e⟩:=x;exact⟨_,e⟩
 |xd fs=>obtain⟨_,⟨_,_,_,e,_⟩,_⟩:=x;exact⟨_,e⟩
 |rng lo hi=>obtain⟨_,_,_,e⟩:=x;exact⟨_,e⟩
 |frz ob u=>obtain⟨e,_⟩:=x;exact⟨_,e⟩
 |tbl ps=>exact⟨_,(show h.get? a=some _ from x)⟩
 |met f y=>exact⟨_,(show h.get? a=some _ from x)⟩
 |ext φ=>obtain⟨_,⟨_,e⟩,_⟩:=x;exact⟨_,e⟩
theorem rK{P:Program}{w:World}{H:Hp}{h:Heap}{l:List Addr}(x:HOk P w H h)(hl:∀b∈l,H b=none):HOk P w H (hideAll h l):=λa o e =>
 (x a o e).stay (λb u hb q=>hideAll_get l q λz=>by
  have:=hl b z;rcases hb with hb|hb
  ·rw[hb,e]at this;cases this
  ·rw[hb]at this;cases this) (λ_ q=>q) λ_ _ q=>q
section
variable{P:Program}{w:World}{l:List Env}{H H':Hp}{h1 h2 h3 B:Heap}{ea:Addr}{cls a0:Value}
theorem rL(un:Un (frs l) [] H H' h1 h2)(fl:FlyingW B l ea cls a0 h2)(hB:HOk P w H' B)(kp:∀b o,h1.get? b=some o→H b=none→b∉frs l→B.get? b=some o)(th:∀b o,h1.get? b=some o→b∉frs l→∃o',B.get? b=some o')(st:B.StaysIn h3)(hs:h2.UpToSlots h3):Un (frs l) [] H H' h1 h3∧HOk P w H' h3:=by
 refine⟨⟨λb o e n hb _=>st b o (kp b o e n hb),λb o e n hb hx=>?_,un.free,λb o e _=>?_,un.tups,un.frzs,un.tbls⟩,hB.kept st⟩
 ·obtain⟨sl,q⟩:=un.slot b o e n hb hx;obtain⟨_,o',ho',hd⟩:=fl.2.2.1.mem hb;rw[q]at ho';cases ho';obtain⟨sl',q'⟩:=hs b _ q hd;exact⟨sl',q'⟩
 ·by_cases hb:b∈frs l
  ·obtain⟨_,o',ho',hd⟩:=fl.2.2.1.mem hb;obtain⟨sl',q'⟩:=hs b _ ho' hd;exact⟨_,q'⟩
  ·obtain⟨o',q⟩:=th b o e hb;exact⟨o',st b o' q⟩
end
section
variable{X:Cx}{pins:List (Addr×Obj)}{σ:St}{H H':Hp}{s s':Shared}{ea C:Addr}{E:XK}
theorem Inv.fly_up(I:Inv X pins σ H s)(hex:X.ex=[])(J:Inv X pins σ H' s')(new:H' ea=none){B:Heap}{a0:Value}(fl:FlyingW B X.outer ea (.ref C) a0 s'.heap)(hB:HOk X.prog X.w H' B)(kp:∀b o,s.heap.get? b=some o→H b=none→b∉frs X.stack→B.get? b=some o)(th:∀b o,s.heap.get? b=some o→b∉frs X.stack→∃o',B.get? b=some o'):Fly X.prog X.w X.outer X.H₀ X.s₀ H' ea C s':=by
 have ub:=I.base;rw[hex]at ub;have uj:=J.base;rw[hex]at uj;have ne:∀b o,X.s₀.heap.get? b=some o→b∉frs X.outer→b∉frs X.stack:=λb o e n hb=>by
  rcases mem_cons.mp (I.stkSub b hb)with z|z
  ·have:=lt_size e;rw[z]at this;exact absurd (lt_of_lt_of_le this I.ok.above) (lt_irrefl _)
  ·exact n z
 refine⟨J.os,J.bare,uj,new,B,a0,fl,hB,λb o e n hb=>?_,λb o e hb=>?_⟩
 ·exact kp b o (ub.keep b o e n hb (by simp)) (ub.free b o e n (by simp)) (ne b o e hb)
 ·obtain⟨o',q⟩:=ub.there b o e (by simp);exact th b o' q (ne b o e hb)
structure Lv(X:Cx)(E:XK):Prop where
 ex:X.ex=[]
 stk:X.stack=X.env::X.outer
 fr:X.env.frame=some X.env.locals
 xe:X.xe=λe s'=>wpAny (model X.prog X.w) X.A (leaving X.env e) (λ_ s''=>CX1 X.prog X.w X.outer X.H₀ X.s₀ E e s'') (λe' s''=>CX1 X.prog X.w X.outer X.H₀ X.s₀ E e' s'') s'
theorem bH{P:Program}{w:World}{K:PySem.W.Frag}{mg:Str→Option Value}{base:Heap}{N:List Str}{qual:Str}{scope:Scope}{f:Addr}{cd:Value}{A:Around}{outer:List Env}{s:Shared}{H:Hp}{E:XK} :
  Lv (fZ (CX1 P w) P w K mg base N qual scope f cd A outer s H E) E:=⟨rfl,rfl,rfl,rfl⟩
theorem cR(L:Lv X E):iQ (CX1 X.prog X.w) X E:=by
 intro pins σ H s e s' I h;obtain⟨ea,C,H',rfl,F,hE⟩:=h;rw[L.xe];obtain⟨B,a0,fl,hB,kp,th⟩:=id F.fly;have fl':=fl;rw[L.stk]at fl';refine wpAny_leaves_onW (by rw[I.ok.frames,L.stk]) L.fr fl' λh' fl2 hs=>?_;obtain⟨u,ok⟩:=rL F.un fl hB kp th fl2.1 hs;have J:Inv X pins σ H' {s' with heap:=h'}:=I.call' (s':={s' with heap:=h'}) F.os u ok F.bare λb z=>absurd z (by simp)
 exact⟨ea,C,H',rfl,I.fly_up L.ex J F.new fl2 hB kp th,hE⟩
theorem Inv.ground(I:Inv X pins σ H s):(hideAll s.heap (frs X.stack)).StaysIn s.heap∧s.heap.FunFrames (hideAll s.heap (frs X.stack)) X.stack∧HOk X.prog X.w H (hideAll s.heap (frs X.stack)) :=
 ⟨λb o q=>of_hideAll _ q,PySem.W.funFrames_hide I.stack λenv he b hb=>List.mem_filterMap.mpr ⟨env,he,hb⟩,rK I.hok I.stkFree⟩
theorem xZ(L:Lv X E)(I:Inv X pins σ H s){h':Heap}{vs:List Value}(hx:Heap.MadeExcOf s.heap h' ea (.ref C) vs)(hE:E (.ref C) none H):X.xe (.ref ea) {s with heap:=h'}:=by
 rw[L.xe];obtain⟨g1,g2,g3⟩:=I.ground;have g2':s.heap.FunFrames (hideAll s.heap (frs X.stack)) (X.env::X.outer):=L.stk ▸ g2;refine wpAny_leaves_madeW (s:={s with heap:=h'}) (by rw[I.ok.frames,L.stk]) L.fr g1 g2' hx λh'' t fl _ _ hs=>?_;have hs':s.heap.UpToSlots h'':=(Heap.UpToSlots.of_keeps hx.keeps).trans hs;have u:Un (frs X.stack) [] H H s.heap h'':=⟨λb o e n hb _=>fl.1 b o (hideAll_get _ e hb),λb o e n hb _=>by
   obtain⟨_,o',ho',hd⟩:=g2.mem hb;rw[e]at ho';cases ho';exact hs' b o e hd,λb o e n _=>n,λb o e _=>by
   by_cases hb:b∈frs X.stack
   ·obtain⟨_,o',ho',hd⟩:=g2.mem hb;obtain⟨sl,q⟩:=hs' b o' ho' hd;exact⟨_,q⟩
   ·exact⟨o,fl.1 b o (hideAll_get _ e hb)⟩,λ_ _ q=>q,λ_ _ _ q=>q,λb ps q=>⟨#[],by simpa using q⟩⟩
 have J:Inv X pins σ H {s with heap:=h''}:=I.call' (s':={s with heap:=h''}) rfl u (g3.kept fl.1) I.bare λb z=>absurd z (by simp)
 have new:H ea=none:=by
  cases q:H ea with
  |none=>rfl
  |some o =>
   obtain⟨ob,e⟩:=(I.hok ea o q).ex;have h2:=hx.new;rw[e]at h2;cases h2
 exact⟨ea,C,H,rfl,I.fly_up L.ex J new fl g3 (λb o e _ hb=>hideAll_get _ e hb) λb o e hb=>⟨o,hideAll_get _ e hb⟩,hE⟩
end
end L2
namespace XI
open PySem PySem.Spec PySem.W
section
variable{prog:Program}{w:World}{A:Around}{E:Value→Shared→Prop}{h:Heap}{g:Array GenState}{d:Drawn}{t:Nat}{os:OsState}{a:Addr}{o:Obj}{vs:Array Value}{nm q:Str}{C N:Addr}{bs bm:List Value}{hdct:Bool}{sn:List Str}{sub:List Value}{ab:Bool}{col:Option Bool}{dd:Option Addr}{k0 k1 k2 k3 k5:Option Value}{newId:String}
end
end XI
namespace L2
open PySem PySem.Spec PyProof.Rows
section
variable{X:Cx}{pins:List (Addr×Obj)}{σ:St}{H:Hp}{s:Shared}
abbrev bmV:List Value:=[.type "ValueError",.type "Exception",.type "BaseException",.type "object"]
abbrev ya(X:Cx)(x:Str)(C:Addr):Prop:=OwnCls x C bmV "ValueError.__new__" X.mg X.base
def wF(C:Addr)(E:XK)(ta:TE):TS:=λ_ σ H=>ca ta iP σ H λvs H1=>vs.length≤sizeLine∧E (.ref C) none H1
theorem dy{E:XK}(L:Lv X E){x:Str}{C:Addr}{np cpos pos:Pos}{a:Expr}{ta:TE}(O:ya X x C)(hh:X.A.handled=none)(hg:Gl X x)(ha:PE X a ta)(hs:starEach [a] X.env=[(false,eval a X.env)]:=by rfl)(hd:(x==("__debug__":Str))=false:=by decide):PS X (.Raise (some (.Call (.Name x np) [a] [] cpos)) none pos) (wF C E ta):=by
 intro pins s σ H D I h;obtain⟨tl,N,nm,q,bs,hdct,sn,sub,ab,col,dd,k0,k1,k2,k3,k5,mN,hC,hN,hni,T⟩:=O.obj;refine wpAny_Raise_call_subT (C:=C) (nm:=nm) (q:=q) (N:=N) (bs:=bs) (bm:=tl) (hdct:=hdct) (sn:=sn) (sub:=sub) (ab:=ab) (col:=col) (dd:=dd) (k0:=k0) (k1:=k1) (k2:=k2) (k3:=k3) (k5:=k5)
  PySem.F.excBase_ValueError (mN:=mN) (T.hasType PySem.F.excBase_ValueError.hasBase) hh (by rw[hs];rfl) hni (kq I hg O.bound ⟨rfl,?_⟩ hd)
 have hA:PA X [a] (ca ta iP):=aa ha ag hs;have h':=hA cpos pins s σ H (λvs H1=>vs.length≤sizeLine∧E (.ref C) none H1) I h;rw[hs]at h'⊢;refine evalArgs_plain (thn h' λus s2 hpt=>?_);obtain⟨vs,H2,I2,r2,q2⟩:=hpt;exact⟨rfl,by rw[←r2.length];exact q2.1,I2.bk _ _ hC,hN.keeps I2.bk,T.keeps I2.bk,λh' e hx=>xZ L I2 hx q2.2⟩
end
end L2
namespace DL
open PySem PySem.Spec PyProof.Rows
theorem iZ:entryFor table "dict.update.loop"=some Builtin.«dict.update.loop»:=entryFor_of_tree (by kernel_rfl)
theorem dN:plainId "dict.update.loop"=true:=by decide +kernel
theorem la:typeLookup (.type "list") "keys"=pure none:=by rw[typeLookup_type,builtinLookup_eq_fast];kernel_rfl
section
variable{prog:Program}{w:World}{A:Around}{E:Value→Shared→Prop}{s:Shared}
theorem ut{a:Addr}{xs:Array Value}{k:Nat}{sl:Array (Option Value)}{u:Tok}{Q:Value→Shared→Prop}(hx:s.heap.get? a=some {cls:=.type "list",dict:=none,data:=.seq xs k,slots:=sl})(hA:A.handled=none)(h:∀h' tk e,Heap.NewExcOf s.heap h' e "AttributeError"→E (.ref e) {s with heap:=h',toks:=tk}):
  wpAny (model prog w) A (getAttrBy (.ref a) (.str "keys" u) false) Q E s:=by
 obtain⟨hp,g,d,tk,os⟩:=s;have hT:∀tk',(⟨hp,g,d,tk',os⟩:Shared).TypeIs (.ref a) "list":=λ_=>⟨_,hx,rfl⟩;have f1:=sub_AttributeError;have f3:=F.slot_list_getattribute.lookup;have f4:=F.slot_list_getattribute.bind (.ref a);have f5:=am_list_getattr_none;unfold getAttrBy
 repeat (any_goals (first|assumption|exact hT _|((with_reducible show wpAny _ _ (call (builtin "list.__getattribute__") _ _) _ _ _);refine call_meets F.slot_list_getattribute (hT _) am_entry_list_getattribute (F.args_list_getattribute_2 _ _) (meets_getattribute_miss_list a xs k sl "keys" _ la (by decide) (by size_fits)) ⟨hx,hA,λh' tk' e hx'=>?_⟩)|wp_step))
 obtain⟨t',u',he⟩:=hx'.there;show wpAny _ _ (getattributeRaised _ _ _ _ _ _ _) _ _ _;unfold getattributeRaised
 repeat (any_goals (first|assumption|wp_step))
 exact h _ _ _ hx'.of
theorem uu{a:Addr}{xs:Array Value}{k:Nat}{sl:Array (Option Value)}{Q:Option Value→Shared→Prop}(hx:s.heap.get? a=some {cls:=.type "list",dict:=none,data:=.seq xs k,slots:=sl})(hA:A.handled=none)(h:∀h' tk,(∀b o,s.heap.get? b=some o→h'.get? b=some o)→Q none {s with heap:=h',toks:=tk}):
  wpAny (model prog w) A (getAttr? (.ref a) "keys") Q E s:=by
 obtain⟨hp,g,d,tk,os⟩:=s;have f1:=sub_AttributeError;unfold getAttr? getAttrBy?
 repeat (any_goals (first|assumption|((with_reducible show wpAny _ _ (getAttrBy _ _ false) _ _ _);refine ut (s:=⟨hp,g,d,_,os⟩) hx hA λh' tk' e hx'=>?_)|wp_step))
 obtain⟨⟨oc,od,odt,osl⟩,vs,he,hc,_,_⟩:=hx'.there;simp only at hc;subst hc
 repeat (any_goals (first|assumption|with_reducible refine wpAny_loadPart_at he ?_|wp_step))
 exact h h' tk' λb o e=>hx'.keeps b o e
end
section
variable{prog:Program}{w:World}{A:Around}{E:Value→Shared→Prop}{R:Result→Shared→Prop}{I:Addr}{fp wr:List Addr}{G:Array GenState→Array GenState→Prop}{n:Nat}{P:Nat→Value→Prop}{St:Nat→Shared→Prop}
theorem qu(W:WalksS prog w A.in1 I fp wr G n P St)(d:Addr)(hdf:d∉fp)(ad:Nat→Addr)(kk vv:Nat→Value)(hval:∀i v,P i v→v=.ref (ad i))(had:∀i,i<n→ad i∉d::wr)(D:Nat→Heap→Prop)(hD:∀i (h h':Heap),D i h→(∀b o,b∉wr→h.get? b=some o→h'.get? b=some o)→D i h')(step:∀i (s:Shared) (E:Value→Shared→Prop) (Q:Unit→Shared→Prop),i<n→D i s.heap→(∀h' tk,s.toks≤tk→SameBut d s.heap h'→D (i+1) h'→Q () {s with heap:=h',toks:=tk})→wpAny (model prog w) A.in1 (dictSet d (kk i) (vv i)) Q E s):
  ∀(k i:Nat)(s:Shared)(tk:Tok),n-i=k→i≤n→St i s→D i s.heap→(∀j,j<n→IsTup s.heap (ad j) #[kk j,vv j]) →
   (∀s',Moved (d::wr) G s s'→D n s'.heap→R (.ok (.ret .none)) s') →
   codeAny (model prog w) A (.builtin "dict.update.loop" ⟨[.ref d,.ref I,.int i tk,.none],[]⟩) R s:=by
 have hdw:d∉wr:=λh=>hdf (W.sub _ h);have hsub:∀b∈wr,b∈d::wr:=λb hb=>mem_cons_of_mem _ hb;have hadw:∀i,i<n→ad i∉wr:=λi hi h=>had i hi (mem_cons_of_mem _ h);have hadd:∀i,i<n→ad i≠d:=λi hi h=>had i hi (by rw[h];exact mem_cons_self);intro k
 induction k with
 |zero =>
  intro i s tk hk hi hst hDi htp hR;have hin:i=n:=by omega
  subst hin;refine codeAny_builtin iZ ?_;rw[Around.under_plainId dN _];show wpAny _ A.in1 (pyNext (.ref I) >>= _) _ _ s;refine wpAny_bind (W.done s _ _ hst λs' hm=>?_);show wpAny _ A.in1 (Builtin.Dict.addKeywords d [] >>= λ_=>ret Value.none) _ _ s';exact wpAny_bind (wpAny_pure (wpAny_pure (hR s' (hm.mono hsub) (hD _ _ _ hDi hm.heap))))
 |succ k ih =>
  intro i s tk hk hi hst hDi htp hR;have hlt:i<n:=by omega
  refine codeAny_builtin iZ ?_;rw[Around.under_plainId dN _];show wpAny _ A.in1 (pyNext (.ref I) >>= _) _ _ s;refine wpAny_bind (W.item i s _ _ hlt hst λv s' hP hst' hm=>?_);have hv:=hval i v hP;subst hv;have hDi':D i s'.heap:=hD _ _ _ hDi hm.heap;have htp':∀j,j<n→IsTup s'.heap (ad j) #[kk j,vv j]:=λj hj=>by
   obtain⟨o,ho,r⟩:=htp j hj;exact⟨o,hm.heap _ o (hadw j hj) ho,r⟩
  obtain⟨ot,hot,hct,nt,hdt⟩:=htp' i hlt;have hT:s'.TypeIs (.ref (ad i)) "tuple":=⟨ot,hot,hct⟩;refine wpAny_bind (wpAny_holding ?_);refine wpAny_bind (wpAny_tryCatch ?_);unfold Builtin.Dict.pairItems;refine wpAny_bind (wpAny_typeOf hT ?_);rw[if_pos (by decide)];generalize hDS:dictSet=DS;obtain⟨hp,g,dr,t,os⟩:=s';obtain⟨ocls,odict,odata,oslots⟩:=ot;simp only at hct hdt;subst hct hdt
  repeat (any_goals (first|assumption|with_reducible refine wpAny_loadPart_at hot ?_|wp_step))
  subst hDS;refine step i _ _ _ hlt hDi' λh' tk' htk hsb hD'=>?_;have hsb':SameBut d hp h':=hsb;have hkeep:∀b o,b∉d::wr→hp.get? b=some o→h'.get? b=some o:=λb o hb e=>by
   rw[hsb'.2 b (λz:b=d=>hb (by rw[z];exact mem_cons_self))];exact e
  refine wpAny_pure ⟨plainId_quiet dN _,?_⟩;refine ih (i+1) _ _ (by omega) hlt (W.frame _ _ _ _ hst' htk λb hb o e=>?_) hD' (λj hj=>?_) λs'' hm'' hD''=>?_
  ·rw[hsb'.2 b (λh:b=d=>hdf (by rw[←h];exact hb))];exact e
  ·obtain⟨o,ho,r⟩:=htp' j hj;exact⟨o,hkeep _ o (had j hj) ho,r⟩
  ·exact hR s'' (Moved.trans W.gtrans ((hm.mono hsub).then_heap htk λb o hb e=>hkeep b o hb e) hm'') hD''
end
section
variable{prog:Program}{w:World}{A:Around}{E:Value→Shared→Prop}{s:Shared}
theorem ja{l:Addr}{items:Array Value}{nl:Nat}{sl:Array (Option Value)}{Q:Value→Shared→Prop}(hh:A.handled=none)(hl:s.heap.get? l=some {cls:=.type "list",dict:=none,data:=.seq items nl,slots:=sl})(ad:Nat→Addr)(kk vv:Nat→Value)(hi:∀(i:Nat) (v:Value),items[i]?=some v→v=Value.ref (ad i))(ht:∀i,i<items.size→IsTup s.heap (ad i) #[kk i,vv i])(D:Nat→Heap→Prop)(hD0:∀h',h'.get? s.heap.objs.size=some {cls:=.type "dict",data:=.dict #[]}→(∀b o,s.heap.get? b=some o→h'.get? b=some o)→D 0 h')(hD:∀i (h h':Heap),D i h→(∀b o,b≤s.heap.objs.size→h.get? b=some o→h'.get? b=some o)→D i h')(step:∀i (s':Shared) (E:Value→Shared→Prop) (Q:Unit→Shared→Prop),i<items.size→D i s'.heap→(∀h' tk,s'.toks≤tk→SameBut s.heap.objs.size s'.heap h'→D (i+1) h'→Q () {s' with heap:=h',toks:=tk}) →
   wpAny (model prog w) A.in1.in1 (dictSet s.heap.objs.size (kk i) (vv i)) Q E s')(h:∀h' tk,D items.size h'→(∀b o,s.heap.get? b=some o→h'.get? b=some o)→Q (.ref s.heap.objs.size) {s with heap:=h',toks:=tk}):
  wpAny (model prog w) A (call (.type "dict") [.ref l]) Q E s:=by
 refine callType_codes (Q₁:=λobj s₁=>obj=.ref s.heap.objs.size∧s₁={s with heap:=s.heap.push {cls:=.type "dict",data:=.dict #[]}}) F.kt_called_dict (F.kt_typeCall_dict_1 _) F.entry_dict_init (kt_code_dict_new _ ⟨rfl,rfl⟩) ?_;rintro obj s₁ ⟨rfl,rfl⟩;have hnew:(s.heap.push {cls:=.type "dict",data:=.dict #[]}).get? s.heap.objs.size=some {cls:=.type "dict",data:=.dict #[]}:=get?_push_size _ rfl;have hTd:Shared.TypeIs {s with heap:=s.heap.push {cls:=.type "dict",data:=.dict #[]}} (.ref s.heap.objs.size) "dict":=⟨_,hnew,rfl⟩
 have hl':(s.heap.push {cls:=.type "dict",data:=.dict #[]}).get? l=some {cls:=.type "list",dict:=none,data:=.seq items nl,slots:=sl}:=get?_push_of_some _ hl;have hTl:Shared.TypeIs {s with heap:=s.heap.push {cls:=.type "dict",data:=.dict #[]}} (.ref l) "list":=⟨_,hl',rfl⟩
 refine⟨hTd,F.args_dict_init_2 _ _,?_⟩;unfold Builtin.«dict.__init__»;refine wpAny_bind ?_;unfold Builtin.Dict.selfAndRest;refine wpAny_bind (wpAny_notOrdered_dict hTd ?_);show wpAny _ _ (pure (s.heap.objs.size,[Value.ref l])) _ _ _;refine wpAny_pure ?_;show wpAny _ _ (Builtin.Dict.updateFrom "dict.__init__" s.heap.objs.size (.ref l) [] .none) _ _ _;unfold Builtin.Dict.updateFrom;refine wpAny_bind (wpAny_typeOf hTl ?_);rw[if_pos (by decide)];refine wpAny_bind (uu (s:={s with heap:=s.heap.push {cls:=.type "dict",data:=.dict #[]}}) hl' (show A.in1.in1.handled=none by simp[hh]) λh1 tk1 hk1=>?_);have hk1':∀b o,(s.heap.push {cls:=.type "dict",data:=.dict #[]}).get? b=some o→h1.get? b=some o:=hk1;have hL1:h1.IsList l items:=⟨_,hk1' _ _ hl',rfl,nl,rfl⟩;rw[if_pos (show(none:Option Value).isNone=true from rfl)];refine wpAny_bind (wpAny_rule ?_);refine wpAny_bind (wpAny_pyIter_list hL1 ?_);have hlS:l<s.heap.objs.size:=lt_size hl;have hS1:s.heap.objs.size<h1.objs.size:=lt_size (hk1' _ _ hnew);have k0:∀b o,s.heap.get? b=some o→h1.get? b=some o:=λb o e=>hk1' b o (get?_push_of_some _ e);have hadlt:∀i,i<items.size→ad i<s.heap.objs.size:=λi hi'=>by
  obtain⟨o,ho,_⟩:=ht i hi';exact lt_size ho
 refine wpAny_pure ⟨plainId_quiet dN _,qu (A:=A.in1) ((Walks.list (show A.in1.in1.handled=none by simp[hh]) h1.objs.size l (ne_of_lt (lt_trans hlS hS1)) items).toS) s.heap.objs.size ?hdf ad kk vv hi ?had D ?hD' (λi s' E Q hi' hDi hq=>step i s' E Q hi' hDi hq)
  (items.size-0) 0 _ 0 (by omega) (zero_le _) ⟨⟨_,get?_push_size _ rfl,rfl,rfl⟩,hL1.push _⟩ ?hD0' ?ht' λs' hm hDn=>?_⟩
 case hdf =>
  simp only[mem_cons,not_mem_nil,or_false,not_or];exact⟨ne_of_lt hS1,ne_of_gt hlS⟩
 case had =>
  intro i hi';simp only[mem_cons,not_mem_nil,or_false,not_or];exact⟨ne_of_lt (hadlt i hi'),ne_of_lt (lt_trans (hadlt i hi') hS1)⟩
 case hD' =>
  intro i g g' hDi hk;refine hD i g g' hDi λb o hb e=>hk b o ?_ e;simp only[mem_cons,not_mem_nil,or_false];exact ne_of_lt (lt_of_le_of_lt hb hS1)
 case hD0' =>
  exact hD0 _ (get?_push_of_some _ (hk1' _ _ hnew)) λb o e=>get?_push_of_some _ (k0 b o e)
 case ht' =>
  intro j hj;obtain⟨o,ho,r⟩:=ht j hj;exact⟨o,get?_push_of_some _ (k0 _ _ ho),r⟩
 obtain⟨h',g',d',tk',os'⟩:=s';have eg:g'=s.gens:=hm.gens;have ed:d'=s.drawn:=hm.drawn;have eo:os'=s.os:=hm.os;subst eg;subst ed;subst eo;refine⟨rfl,h h' tk' hDn λb o e=>?_⟩;have hb:b<s.heap.objs.size:=lt_size e;refine hm.heap b o ?_ (get?_push_of_some _ (k0 b o e));simp only[mem_cons,not_mem_nil,or_false,not_or];exact⟨ne_of_lt hb,ne_of_lt (lt_trans hb hS1)⟩
end
end DL
namespace L2
open PySem PySem.Spec PyProof.Rows
section
variable{X:Cx}
theorem oe{pins:List (Addr×Obj)}{σ:St}{H:Hp}{s:Shared}(I:Inv X pins σ H s){a:Addr}{x y:V}(h:H a=some (.tup [x,y])):∃u v,aB x u∧aB y v∧IsTup s.heap a #[u,v]:=by
 obtain⟨_,its,r,ht⟩:=I.hok a _ h;cases r with
 |cons r1 r =>
  cases r with
  |cons r2 r=>cases r;exact⟨_,_,r1,r2,by simpa using ht⟩
theorem rM{κ:Type}{pins:List (Addr×Obj)}{σ:St}{H:Hp}{s:Shared}(I:Inv X pins σ H s){zs:List (Addr×κ×V)}(kf:Addr×κ×V→V)(hk:∀z∈zs,H z.1=some (.tup [kf z,z.2.2])):
  ∃f:Addr×κ×V→Value×Value,∀z∈zs,aB (kf z) (f z).1∧aB z.2.2 (f z).2∧IsTup s.heap z.1 #[(f z).1,(f z).2]:=by
 have hch:∀z:Addr×κ×V,∃p:Value×Value,z∈zs→aB (kf z) p.1∧aB z.2.2 p.2∧IsTup s.heap z.1 #[p.1,p.2]:=λz=>by
  by_cases hz':z∈zs
  ·obtain⟨u,v,a,b,c⟩:=oe I (hk z hz');exact⟨(u,v),λ_=>⟨a,b,c⟩⟩
  ·exact⟨(.none,.none),λh=>absurd h hz'⟩
 exact⟨λz=>Classical.choose (hch z),λz hz=>Classical.choose_spec (hch z) hz⟩
theorem aY{α:Type}{l:List α}{i:Nat}{d:α}(h:i<l.length):l.getD i d∈l∧l[i]?=some (l.getD i d):=by
 rw[getD_eq_getElem?_getD,getElem?_eq_getElem h];exact⟨getElem_mem h,rfl⟩
theorem qv{κ:Type}{zs:List (Addr×κ×V)}{d:Addr×κ×V}{i:Nat}{v:Value}(h:(((zs.map (·.1)).map Value.ref).toArray)[i]?=some v):v=Value.ref (zs.getD i d).1:=by
 have h':((zs.map (·.1)).map Value.ref)[i]?=some v:=by simpa using h
 rw[getElem?_map,getElem?_map]at h';rw[getD_eq_getElem?_getD];cases e:zs[i]? with
 |none=>rw[e]at h';cases h'
 |some z=>rw[e]at h';exact(Option.some.inj h').symm
theorem aP{α:Type}{l:List α}{i:Nat}{x:α}(h:l[i]?=some x):l.take (i+1)=l.take i++[x]:=by rw[take_succ,h];rfl
theorem qw{α κ:Type}{l:List α}{f:α→κ}{i:Nat}{x:α}(hn:(l.map f).Nodup)(h:l[i]?=some x):f x∉(l.take i).map f:=by
 intro hm;obtain⟨y,hy,e⟩:=mem_map.mp hm;obtain⟨j,hj,e2⟩:=mem_iff_getElem.mp hy;have hj':j<i:=by rw[length_take]at hj;omega
 have hi:i<l.length:=(List.getElem?_eq_some_iff.mp h).1;have e3:(l.map f)[j]'(by rw[length_map];omega)=(l.map f)[i]'(by rw[length_map];omega):=by
  rw[getElem_map,getElem_map];rw[getElem_take]at e2;rw[e2,e,(List.getElem?_eq_some_iff.mp h).2]
 have:=(getElem_inj hn).mp e3;omega
theorem ie(hc:X.calm=true):cq X (.type "dict") (λxs H Q=>∃l,∃zs:List (Addr×Key×V),xs=[.ref l]∧H l=some (.lst ((zs.map (·.1)).map V.ref))∧(∀z∈zs,H z.1=some (.tup [kV z.2.1,z.2.2]))∧zs.length≤1000 ∧
  (zs.map (·.2.1)).Nodup∧((∀d o,H d=none→Q (.ref d) (upd H d (.frz o (.dK (zs.map (·.2))))))∨∀d,H d=none→Q (.ref d) (upd H d (.dK (zs.map (·.2)))))):=by
 intro pins s σ H xs us Q I r h;obtain⟨l,zs,rfl,hl,hk,hz,hnd,q⟩:=h;obtain⟨u,rfl,ru⟩:=cE r;cases ru;obtain⟨_,its,nl,rv,ho⟩:=I.hok l _ hl;have e:=cj rv;subst e;obtain⟨f,hf⟩:=rM I (λz=>kV z.2.1) hk;have hsz:(((zs.map (·.1)).map Value.ref).toArray).size=zs.length:=by simp
 refine DL.ja (s:=s) (I.ok.hd hc) ho (λi=>(zs.getD i (0,.inl 0,.non)).1) (λi=>(f (zs.getD i (0,.inl 0,.non))).1) (λi=>(f (zs.getD i (0,.inl 0,.non))).2) (λi v hv=>qv hv) (λi hi=>?_)
  (λi h'=>h'.DictOf (ap X.prog X.w) s.heap.objs.size ((zs.take i).map λz=>(z.2.1,(f z).2))) (λh' hg _=>?_) (λi g g' hd hk=>?_) (λi s' E Q hi hd hq=>?_) λh' tk hd hkeep=>?_
 ·rw[hsz]at hi;exact(hf _ (aY hi).1).2.2
 ·exact⟨_,#[],0,hg,⟨rfl,rfl,rfl⟩,rfl,λ_ he=>by simp at he,Pairs.nil,nodup_nil⟩
 ·obtain⟨o,es,ep,ho,r⟩:=hd;exact⟨o,es,ep,hk _ o (le_refl _) ho,r⟩
 ·rw[hsz]at hi;obtain⟨hm,hg⟩:=aY (d:=((0,.inl 0,.non):Addr×Key×V)) hi;refine wpAny_dictSet_pairs (hsz:=by rw[length_map,length_take];have:=ay hz;omega) (k:=(zs.getD i (0,.inl 0,.non)).2.1) (fq (hf _ hm).1) hd λh' hd' hs=>hq h' _ (le_succ _) hs ?_;have e1:=aP hg;have e2:=qw hnd hg;rw[e1,map_append];unfold stored at hd';rw[if_neg]at hd'
  ·exact hd'
  ·intro ha;obtain⟨p,hp,he⟩:=any_eq_true.mp ha;obtain⟨z,hz',rfl⟩:=mem_map.mp hp;exact e2 (mem_map.mpr ⟨z,hz',of_decide_eq_true he⟩)
 ·rw[hsz,take_length]at hd;obtain⟨ob,hob⟩:∃ob,h'.get? s.heap.objs.size=some ob:=let⟨o,_,_,ho,_⟩:=hd;⟨o,ho⟩;have hrel:KV (zs.map (·.2)) (zs.map λz=>(z.2.1,(f z).2)):=by
   have:∀ys:List (Addr×Key×V),(∀z∈ys,z∈zs)→KV (ys.map (·.2)) (ys.map λz=>(z.2.1,(f z).2)):=by
    intro ys
    induction ys with
    |nil=>intro _;exact .nil
    |cons z ys ih=>intro hm;exact .cons ⟨rfl,(hf z (hm z (by simp))).2.1⟩ (ih λy hy=>hm y (by simp[hy]))
   exact this zs λz hz=>hz
  have hdk:∀H':Hp,bi X.prog X.w H' h' s.heap.objs.size (.dK (zs.map (·.2))):=λH'=>kQ (le_of_lt (ay (by rw[length_map];exact hz))) (beq_eq_false_iff_ne.mpr (symm (ne_of_lt I.big))) hrel hd;rcases q with q|q
  ·exact⟨.ref s.heap.objs.size,_,I.laid (t':=tk) (o:=.frz ob (.dK (zs.map (·.2)))) hkeep (le_refl _) ⟨hob,hdk _⟩,rfl,q _ ob (I.hok.fresh (le_refl _))⟩
  ·exact⟨.ref s.heap.objs.size,_,I.laid (t':=tk) (o:=.dK (zs.map (·.2))) hkeep (le_refl _) (hdk _),rfl,q _ (I.hok.fresh (le_refl _))⟩
theorem og(hc:X.calm=true):cq X (.type "dict") (λxs H Q=>∃l,∃zs:List (Addr×Key×V),xs=[.ref l]∧H l=some (.lst ((zs.map (·.1)).map V.ref))∧(∀z∈zs,H z.1=some (.tup [kV z.2.1,z.2.2]))∧zs.length≤1000∧(zs.map (·.2.1)).Nodup∧∀d o,H d=none→Q (.ref d) (upd H d (.frz o (.dK (zs.map (·.2)))))) :=
 λpins s σ H xs us Q I r ⟨l,zs,h1,h2,h3,h4,h5,q⟩=>ie hc pins s σ H xs us Q I r ⟨l,zs,h1,h2,h3,h4,h5,.inl q⟩
theorem ig(hc:X.calm=true):cq X (.type "dict") (λxs H Q=>∃l,∃zs:List (Addr×Key×V),xs=[.ref l]∧H l=some (.lst ((zs.map (·.1)).map V.ref))∧(∀z∈zs,H z.1=some (.tup [kV z.2.1,z.2.2]))∧zs.length≤1000∧(zs.map (·.2.1)).Nodup∧∀d,H d=none→Q (.ref d) (upd H d (.dK (zs.map (·.2))))) :=
 λpins s σ H xs us Q I r ⟨l,zs,h1,h2,h3,h4,h5,q⟩=>ie hc pins s σ H xs us Q I r ⟨l,zs,h1,h2,h3,h4,h5,.inr q⟩
end
def wG(h:Heap)(d:Addr)(es:Array DictEntry)(ep:Nat):Prop:=∃o,h.get? d=some o∧o.ExactDict∧o.data=.dict es ep
section
variable{prog:Program}{w:World}{A:Around}{E:Value→Shared→Prop}{s:Shared}
theorem rN{d:Addr}{es:Array DictEntry}{ep:Nat}{Q:Value→Shared→Prop}(hd:(d==sysModules)=false)(hm:wG s.heap d es ep)(hQ:Q (.ref s.heap.objs.size) {s with heap:=s.heap.push {cls:=.type "dict_keyiterator",data:=.fields #[.ref d,.int 0 0,.int es.size 0,.int ep 0]}}):
  wpAny (model prog w) A (pyIter (.ref d)) Q E s:=by
 obtain⟨o,ho,hc,hdat⟩:=id hm;have hT:s.TypeIs (.ref d) "dict":=⟨o,ho,hc.1⟩;refine wpAny_pyIter_slot hT PySem.F.slot_dict_iter (wpAny_call_entry PySem.F.slot_dict_iter hT PySem.F.entry_dict_iter ?_ (PySem.F.args_dict_iter_1 _));unfold Builtin.«dict.__iter__»;refine wpAny_bind ?_;unfold Builtin.Dict.dictSlotNone;refine wpAny_bind (wpAny_notOrdered_dict hT ?_);show wpAny _ _ (pure (Value.ref d)) _ _ s;refine wpAny_pure ?_;show wpAny _ _ (Builtin.Dict.showsAll d >>= _) _ _ s;unfold Builtin.Dict.showsAll;rw[if_neg (by rw[hd];exact Bool.false_ne_true)];refine wpAny_bind (wpAny_pure ?_);refine wpAny_bind (wpAny_dictEntries ho hdat ?_);refine wpAny_bind (wpAny_dictEpoch ho hdat ?_);refine wpAny_bind (wpAny_newObj_type (wpAny_pure ⟨_,rfl,"dict_keyiterator",_,⟨_,get?_push_size _ rfl,rfl⟩,slot_dict_keyiterator_next.lookup,?_⟩));simpa [rawInt]using hQ
theorem rO{it d:Addr}{i ep:Nat}{es:Array DictEntry}{e:DictEntry}{Q:Option Value→Shared→Prop}(hit:s.heap.IsKeyIter it d i es.size ep)(hm:wG s.heap d es ep)(hx:es[i]?=some e)(hQ:∀h',h'.IsKeyIter it d (i+1) es.size ep→SameBut it s.heap h'→Q (some e.key) {s with heap:=h'}):
  wpAny (model prog w) A (pyNext (.ref it)) Q E s:=by
 obtain⟨o,ho,hc,hd⟩:=id hit;obtain⟨od,hod,hcd,hdd⟩:=id hm;unfold pyNext;refine wpAny_bind (wpAny_attempt (wpAny_callSpecial?_slot (name:=ofString "__next__") hit.typeIs slot_dict_keyiterator_next
  (wpAny_call_entry slot_dict_keyiterator_next hit.typeIs PySem.F.entry_dict_keyiterator_next ?_ (PySem.F.args_dict_keyiterator_next_1 _))))
 refine wpAny_bind (wpAny_pure ?_);refine wpAny_bind ?_;refine wpAny_bind ?_
 first|refine wpAny_bind (wpAny_typeNameOfWhole_keyiter hit.typeIs (wpAny_pure ?_))|refine wpAny_bind (wpAny_typeNameOf_keyiter hit.typeIs (wpAny_pure ?_))
 refine wpAny_bind (wpAny_fieldsOf ho hd ?_);have hown:Builtin.Dict_items.ownsTuple "dict_keyiterator"=false:=by decide
 simp only[hown,false_eq_true,if_false];show wpAny _ _ (if (Value.ref d==Value.none)=true then _ else _) _ _ s
 rw[if_neg (show ¬((Value.ref d==Value.none)=true)from Bool.false_ne_true)];refine wpAny_bind (wpAny_pure ?_);refine wpAny_bind (wpAny_dictEntries hod hdd ?_);rw[if_neg (by simp)];refine wpAny_bind (wpAny_pure ?_);refine wpAny_bind (wpAny_dictEpoch hod hdd ?_);rw[if_neg (by simp)];refine wpAny_pure ?_;have hlt':i<es.size:=(Array.getElem?_eq_some_iff.mp hx).1;have he:es[i]=e:=(Array.getElem?_eq_some_iff.mp hx).2;simp only[show ¬((i:Int)<0)from by omega,if_false,Int.toNat_natCast,Array.getElem?_eq_getElem hlt'];refine wpAny_bind ?_
 first|refine wpAny_bind (wpAny_typeNameOfWhole_keyiter hit.typeIs (wpAny_pure ?_))|refine wpAny_bind (wpAny_typeNameOf_keyiter hit.typeIs (wpAny_pure ?_))
 refine wpAny_bind (wpAny_isOneOf_keyiter hit.typeIs ?_);show wpAny _ _ (setField (.ref it) 1 (rawInt ((i:Int)+1)) >>= _) _ _ s;refine wpAny_bind (wpAny_setField ho hd (by simp) ?_);have hit':(s.heap.update it (Obj.mapFields (·.setIfInBounds 1 (rawInt ((i:Int)+1))))).IsKeyIter it d (i+1) es.size ep :=
  ⟨_,Heap.get?_update_self _ ho (Obj.isFreed_of_fields (Obj.data_mapFields hd _)),(Obj.cls_mapFields ..).trans hc,by rw[Obj.data_mapFields hd];simp[rawInt]⟩
 refine wpAny_bind (wpAny_holding ?_);refine wpAny_bind (wpAny_isOneOf_keyiter (s:={s with heap:=s.heap.update it (Obj.mapFields (·.setIfInBounds 1 (rawInt ((i:Int)+1))))}) hit'.typeIs ?_)
 show wpAny _ _ (pure es[i].key) _ _ _;rw[he];exact wpAny_pure (wpAny_pure ⟨_,rfl,wpAny_pure (hQ _ hit' (SameBut.update ..))⟩)
theorem uv{it d:Addr}{i ep:Nat}{es:Array DictEntry}{Q:Option Value→Shared→Prop}(hh:A.handled=none)(hit:s.heap.IsKeyIter it d i es.size ep)(hm:wG s.heap d es ep)(hge:es.size≤i)(hQ:∀h',ExtBut it s.heap h'→Q none {s with heap:=h'}):wpAny (model prog w) A (pyNext (.ref it)) Q E s:=by
 obtain⟨o,ho,hc,hd⟩:=id hit;obtain⟨od,hod,hcd,hdd⟩:=id hm;unfold pyNext;refine wpAny_bind (wpAny_attempt (wpAny_callSpecial?_slot (name:=ofString "__next__") hit.typeIs slot_dict_keyiterator_next
  (wpAny_call_entry slot_dict_keyiterator_next hit.typeIs PySem.F.entry_dict_keyiterator_next ?_ (PySem.F.args_dict_keyiterator_next_1 _))))
 refine wpAny_bind (wpAny_pure ?_);refine wpAny_bind ?_;refine wpAny_bind ?_
 first|refine wpAny_bind (wpAny_typeNameOfWhole_keyiter hit.typeIs (wpAny_pure ?_))|refine wpAny_bind (wpAny_typeNameOf_keyiter hit.typeIs (wpAny_pure ?_))
 refine wpAny_bind (wpAny_fieldsOf ho hd ?_);have hown:Builtin.Dict_items.ownsTuple "dict_keyiterator"=false:=by decide
 simp only[hown,false_eq_true,if_false];show wpAny _ _ (if (Value.ref d==Value.none)=true then _ else _) _ _ s
 rw[if_neg (show ¬((Value.ref d==Value.none)=true)from Bool.false_ne_true)];refine wpAny_bind (wpAny_pure ?_);refine wpAny_bind (wpAny_dictEntries hod hdd ?_);rw[if_neg (by simp)];refine wpAny_bind (wpAny_pure ?_);refine wpAny_bind (wpAny_dictEpoch hod hdd ?_);rw[if_neg (by simp)];refine wpAny_pure ?_;simp only[show ¬((i:Int)<0)from by omega,if_false,Int.toNat_natCast,Array.getElem?_eq_none hge];refine wpAny_bind ?_
 first|refine wpAny_bind (wpAny_typeNameOfWhole_keyiter hit.typeIs (wpAny_pure ?_))|refine wpAny_bind (wpAny_typeNameOf_keyiter hit.typeIs (wpAny_pure ?_))
 show wpAny _ _ (setField (.ref it) 0 .none >>= _) _ _ s;refine wpAny_bind (wpAny_setField ho hd (by simp) ?_);show wpAny _ _ (newExc (.type "StopIteration") [] >>= _) _ _ _;refine wpAny_bind ?_;simp only[newExc,newTuple];refine wpAny_bind (wpAny_newObj_type ?_ (by size_fits));refine wpAny_bind (m:=firstArgMember _ _) (wpAny_of_eq (a:=Value.none) (by first|rfl|(simp only[firstArgMember];rfl)) ?_)
 refine wpAny_newObj_type ?_ (by size_fits);simp only[raiseNew];refine wpAny_bind (wpAny_handled ?_);rw[show A.in1.handled=none from hh];refine wpAny_bind (wpAny_pure (wpAny_throw ?_));refine wpAny_bind (wpAny_isInstance (T:="StopIteration") (b:=true) ⟨_,get?_push_size _ rfl,rfl⟩ isSubtype_stop ?_);exact wpAny_pure (hQ _ (((SameBut.update ..).extBut.push _).push _))
end
def Itk(d:Addr)(o:Obj)(u:HO)(ks:List V):It:=⟨λi H=>H d=some (.frz o u)∧i<ks.length,λi H x H'=>H'=H∧ks[i]?=some x,λi H=>H d=some (.frz o u)∧ks.length≤i⟩
theorem qx{P:Program}{w:World}{K:PySem.W.Frag}{tg:Expr}{d it:Addr}{o:Obj}{u:HO}{es:Array DictEntry}{ep:Nat}{ks:List V}(hx:o.ExactDict)(hd:o.data=.dict es ep)(hv:ar ks (es.toList.map (·.key))):
  Turn P w K tg (Itk d o u ks) [it] it (λi h=>h.IsKeyIter it d i es.size ep) where
 mem:=by simp
 obj:=λi h st b hb=>by
  have e:b=it:=by simpa using hb
  subst e;obtain⟨o,e,c,d⟩:=st;exact⟨o,e,λv z=>by rw[d]at z;cases z⟩
 keep:=λi h h' st k=>st.at λo e=>k it (by simp) o e
 item:=by
  intro X hP hw hK hc i pins s σ H E I hf st hg;subst hP hw hK;obtain⟨hH,hi⟩:=hg;have ho:=(I.hok d _ hH).1;have hl:ks.length=es.size:=by rw[hv.length,length_map,length_toList]
  have hi':i<es.size:=by omega
  obtain⟨v,hv1,hv2⟩:=hv.get (getElem?_eq_getElem hi);obtain⟨f0,f1,f2,f3,f4,f5⟩:=hf it (by simp);have ev:v=es[i].key:=by
   rw[getElem?_map,getElem?_toList,Array.getElem?_eq_getElem hi']at hv1;exact(Option.some.inj hv1).symm
  refine rO st ⟨o,ho,hx,hd⟩ (Array.getElem?_eq_getElem hi') λh' st' sb=>?_;have I1:Inv X pins σ H {s with heap:=h'}:=I.turned (t':=s.toks) (λb o hb e=>(sb.2 b hb).trans e) f0 f1 f3 f4 f5
  obtain⟨oi,e,c,dd⟩:=id st';exact⟨_,rfl,lK (s:={s with heap:=h'}) e c dd (by decide) ⟨ks[i],H,I1,ev ▸ hv2,⟨rfl,getElem?_eq_getElem hi⟩,st',λb hb=>(hf b hb).1⟩⟩
 done:=by
  intro X hP hw hK hc i pins s σ H E I hf st hg;subst hP hw hK;obtain⟨hH,hi⟩:=hg;have ho:=(I.hok d _ hH).1;have hl:ks.length=es.size:=by rw[hv.length,length_map,length_toList]
  obtain⟨f0,f1,f2,f3,f4,f5⟩:=hf it (by simp);exact uv (I.ok.hd hc) st ⟨o,ho,hx,hd⟩ (by omega) λh' eb=>⟨rfl,I.turned (t':=s.toks) (λb o hb e=>eb b o hb e) f0 f1 f3 f4 f5⟩
 self:=λ_ _ _ _ _ st h=>wpAny_pyIter_keyiter st h
section
variable{X:Cx}{tg:Expr}
def iDF(td:TE):TI:=λσ H R=>td σ H λv H1=>∃d o kvs,v=.ref d∧H1 d=some (.frz o (.dK kvs))∧R (Itk d o (.dK kvs) (kvs.map λp=>kV p.1)) H1
theorem yb{l:Expr}{tl:TE}(hl:PE X l tl):PI X tg l (iDF tl):=by
 intro pins s σ H R I h;refine thn (hl pins s σ H _ I h) λv s1 hpt=>?_;obtain⟨x,H1,I1,r1,q1⟩:=hpt;obtain⟨d,o,kvs,e,hH,q⟩:=q1;subst e;cases r1;obtain⟨ho,_,hsm,vs,rel,o',es,ep,ho',hx,hd,hk,hp,hn⟩:=I1.hok d _ hH;rw[ho]at ho';cases ho';refine rN hsm ⟨o,ho,hx,hd⟩ ?_;refine⟨s1.heap.objs.size,[s1.heap.objs.size],_,_,H1,rfl,I1.kept (t':=s1.toks) λb o e=>get?_push_of_some _ e,qx hx hd ?_,⟨_,get?_push_size _ rfl,rfl,rfl⟩,λb hb=>?_,q⟩
 ·have key:∀(es:List DictEntry)(vs:List (Key×Value))(kvs:List (Key×V)),Pairs (ap X.prog X.w) es vs→KV kvs vs→ar (kvs.map λp=>kV p.1) (es.map (·.key)):=by
   intro es vs kvs hp
   induction hp generalizing kvs with
   |nil=>intro r;cases r;exact .nil
   |cons h1 h2 _ ih =>
    intro r;cases r with
    |cons r1 r2 =>
     refine .cons ?_ (ih _ r2);dsimp only;rw[r1.1];rcases aE h1 with⟨i,t,e1,e2⟩|⟨x,t,e1,e2⟩
     ·rw[e1,e2];exact⟨t,rfl⟩
     ·rw[e1,e2];exact⟨t,rfl⟩
  exact key _ _ _ hp rel
 ·have e:b=s1.heap.objs.size:=by simpa using hb
  subst e;exact I1.fpOk (le_refl _) (I1.hok.fresh (le_refl _))
end
theorem qy:typeLookup (.type "list_reverseiterator") "__len__"=pure none:=by rw[typeLookup_type,builtinLookup_eq_fast];kernel_rfl
theorem rP:typeLookup (.type "list_reverseiterator") "__length_hint__"=pure (some (.builtin "list_reverseiterator.__length_hint__")):=by rw[typeLookup_type,builtinLookup_eq_fast];kernel_rfl
theorem uw:isSubtype (.type "list_reverseiterator") (.type "list_reverseiterator")=pure true:=by rw[isSubtype_type];kernel_rfl
section
variable{prog:Program}{w:World}{A:Around}{E:Value→Shared→Prop}{s:Shared}
theorem lY{I l:Addr}{items:Array Value}{Q:List Value→Shared→Prop}(hh:A.handled=none)(hI:s.heap.IsRevIter I l ((items.size:Int)-1))(hl:s.heap.IsList l items)(hne:l≠I)(hn:items.size≤sizeLine)(hQ:∀h' tk acc,(∀b o,b≠I→s.heap.get? b=some o→h'.get? b=some o)→acc=items.toList.reverse→Q acc {s with heap:=h',toks:=tk}):wpAny (model prog w) A (collect (.ref I)) Q E s:=by
 have W:=(Walks.listRev (prog:=prog) (w:=w) (show A.in1.handled=none by simp[hh]) I l hne items).toS;obtain⟨oI,hoI,_⟩:=id hI;obtain⟨oL,hoL,_⟩:=id hl;have ltI:I<s.heap.objs.size:=lt_size hoI;have ltL:l<s.heap.objs.size:=lt_size hoL;have hSf:s.heap.objs.size∉[I,l]:=by
  simp only[mem_cons,not_mem_nil,or_false,not_or];exact⟨ne_of_gt ltI,ne_of_gt ltL⟩
 have hSI:s.heap.objs.size≠I:=ne_of_gt ltI;have key:∀(s':Shared)(acc:Array Value),Moved [I] (λa b=>b=a) s s'→ItemsOf (λi v=>items[items.size-1-i]?=some v) acc items.size→Q acc.toList s':=by
  intro s' acc hm hacc;obtain⟨h',g',d',tk',os'⟩:=s';have eg:g'=s.gens:=hm.gens;have ed:d'=s.drawn:=hm.drawn;have eo:os'=s.os:=hm.os;subst eg;subst ed;subst eo;refine hQ h' tk' acc.toList (λb o hb e=>hm.heap b o (by simpa using hb) e) ?_;apply ext_getElem?;intro i;rw[getElem?_toList]
  by_cases hi:i<items.size
  ·have hi':i<acc.size:=by rw[hacc.1];exact hi
   have ha:acc[i]?=some acc[i]:=Array.getElem?_eq_getElem hi';rw[List.getElem?_reverse (by simpa using hi),ha,length_toList,getElem?_toList];exact(hacc.2 i _ ha).symm
  ·rw[Array.getElem?_eq_none (by rw[hacc.1];omega),getElem?_eq_none (by simp;omega)]
 have st0:∀o,(λ(i:Nat) (h:Heap)=>i≤items.size∧h.IsRevIter I l ((items.size:Int)-1-(i:Int))∧h.IsList l items) 0 (s.heap.push o):=λo=>by
  refine⟨zero_le _,?_,?_⟩
  ·rw[show(items.size:Int)-1-((0:Nat):Int)=(items.size:Int)-1 by omega];exact hI.at λo' e=>get?_push_of_some _ e
  ·exact hl.push _
 unfold collect;refine wpAny_bind (wpAny_runValue (codeAny_builtin PySem.F.entry_proto_collect ?_));rw[Around.under_plainId PySem.F.plain_proto_collect _];show wpAny _ A.in1 (newList [] >>= λl=>again (.builtin "list.__iadd__" ⟨[l,.ref I],[]⟩)) _ _ s;refine wpAny_bind (wpAny_newObj_type (wpAny_pure ⟨plainId_quiet plain_list_iadd _,codeAny_builtin PySem.F.entry_list_iadd ?_⟩));rw[Around.under_plainId plain_list_iadd _];have hTI:Shared.TypeIs {s with heap:=s.heap.push {cls:=.type "list",data:=.seq ([]:List Value).toArray}} (.ref I) "list_reverseiterator":=((st0 _).2.1).typeIs
 have h1:Builtin.List.listSameRef (.ref s.heap.objs.size) (.ref I)=false:=by simp[Builtin.List.listSameRef,hSI]
 show wpAny _ A.in1 (Builtin.List.listExtendWith (.ref s.heap.objs.size) (.ref I) (.ref s.heap.objs.size)) _ _ _;unfold Builtin.List.listExtendWith;refine wpAny_bind (wpAny_typeOf hTI ?_);rw[if_neg (by rw[h1];decide)];refine wpAny_bind (W.self 0 _ _ _ (st0 _) (wpAny_bind (wpAny_holding ?_)));unfold Builtin.List.listLengthHint;refine wpAny_bind (wpAny_specialOf hTI qy ?_);show wpAny _ A.in1 (specialOf (Value.ref I) (ofString "__length_hint__") >>= _) _ _ _;refine wpAny_bind (wpAny_specialOf hTI rP ?_);generalize hid:("list_reverseiterator.__length_hint__":String)=id0
 wp_delta
 rw[show splitId id0=some ("list_reverseiterator","__length_hint__")from by subst hid;decide +kernel];subst hid;refine wpAny_bind (wpAny_isInstance (b:=true) hTI uw (wpAny_pure ?_));rw[if_neg (by decide)];have hS:(s.heap.push {cls:=.type "list",data:=.seq ([]:List Value).toArray}).get? s.heap.objs.size=some {cls:=.type "list",data:=.seq ([]:List Value).toArray}:=get?_push_size _ rfl;refine wpAny_pure ⟨plainId_quiet PySem.F.plain_extend_loop _,codeAny_extend_loopS W hn _ hSf _ items.size 0 _ _ _ rfl (zero_le _) (st0 _) hS (ItemsOf.nil _) λs' acc c hm hS' hacc=>?_⟩;show wpAny _ A (load s.heap.objs.size >>= _) _ _ s';exact wpAny_bind (wpAny_load hS' (wpAny_pure (key s' acc (Moved.drop_new (o:={cls:=.type "list",data:=.seq ([]:List Value).toArray}) (tk:=s.toks) hm (le_refl _)) hacc)))
theorem jb{I l:Addr}{items:Array Value}{Q:Value→Shared→Prop}(hh:A.handled=none)(hI:s.heap.IsRevIter I l ((items.size:Int)-1))(hl:s.heap.IsList l items)(hne:l≠I)(hn:items.size≤sizeLine)(hQ:∀(h':Heap) (tk:Nat),(∀b o,b≠I→s.heap.get? b=some o→h'.get? b=some o)→Q (.ref h'.objs.size) {s with heap:=h'.push {cls:=.type "tuple",data:=.seq items.toList.reverse.toArray},toks:=tk}):
  wpAny (model prog w) A (call (.type "tuple") [.ref I]) Q E s:=by
 refine callType_codes (Q₁:=λobj s₁=>s₁.TypeIs obj "tuple"∧Q obj s₁) called_tuple (PySem.F.typeCall_tuple_1 _) PySem.F.entry_object_init ?_ λobj s₁ h₁=>?_
 ·refine codeAny_of_tree ?_;show wpAny _ A.in1.in1 (do checkBuiltinCall "tuple.__new__" ⟨[.type "tuple",.ref I],[]⟩;again (.builtin "tuple.__new__" ⟨[.type "tuple",.ref I],[]⟩)) _ _ s
  refine wpAny_bind (wpAny_of_eq (PySem.F.newCall_tuple_1 _) (wpAny_pure ⟨plainId_quiet PySem.F.plain_tuple_new _,codeAny_builtin PySem.F.entry_tuple_new ?_⟩));rw[Around.under_plainId PySem.F.plain_tuple_new _];have hsub:=sub_tuple_self;have hinit:=init_tuple_lookup;have hmh:=madeHere_tuple;have hTI:s.TypeIs (.ref I) "list_reverseiterator":=hI.typeIs
  wp_walk using wpAny_typeOf hTI,lY (show A.in1.in1.handled=none by simp[hh]) hI hl hne hn
  intro h' tk acc hk hacc;subst hacc;refine wpAny_bind (wpAny_pure ?_);show wpAny _ _ (Builtin.Tuple.tupleExact items.toList.reverse.toArray >>= λv=>ret v) _ _ _;unfold Builtin.Tuple.tupleExact;have hsz:items.toList.reverse.toArray.size≤sizeLine:=by simpa using hn
  exact wpAny_bind (wpAny_newObj_type (wpAny_pure ⟨⟨_,get?_push_size _ rfl,rfl⟩,hQ h' tk hk⟩) hsz)
 ·exact⟨h₁.1,PySem.F.args_object_init_2 obj _,object_init_meets called_tuple.init.lookup called_tuple.made (by decide) prog w A.in1 _ s₁ ⟨h₁.1,rfl,h₁.2⟩⟩
end
section
variable{X:Cx}
def ux(te:TE):TE:=λσ H Q=>ca te iP σ H λvs H1=>∃l ys,vs=[.ref l]∧H1 l=some (.lst ys)∧∀p,H1 p=none→Q (.ref p) (upd H1 p (.tup ys.reverse))
theorem qz{e:Expr}{te:TE}{q1 q2 p1 p2:Pos}(hc:X.calm=true)(hg:Gl X "tuple")(hm:X.mg "tuple"=none)(hg':Gl X "reversed")(hm':X.mg "reversed"=none)(he:PE X e te)(s1:starEach [e] X.env=[(false,eval e X.env)]:=by rfl)(s2:starEach [.Call (.Name "reversed" q1) [e] [] p1] X.env=[(false,eval (.Call (.Name "reversed" q1) [e] [] p1) X.env)]:=by rfl):
  PE X (.Call (.Name "tuple" q2) [.Call (.Name "reversed" q1) [e] [] p1] [] p2) (ux te):=by
 intro pins s σ H Q I h;refine wpAny_Call_Name_kw (dH I hg hm boot_tuple ?_ (by decide) (by decide));refine PyProof.Rows.callWith_type1 ?_ s2 rfl;rw[s2];refine spliced_cons ?_;refine wpAny_Call_Name_kw (dH I hg' hm' PyProof.Rows.boot_reversed ?_ (by decide) (by decide));have hA:PA X [e] (ca te iP):=aa he ag s1;refine PyProof.Rows.callWith_type1 (thn (hA p1 pins s σ H _ I h) λus s3 ⟨vs,H1,I1,r1,q1⟩=>?_) s1 rfl;obtain⟨l,ys,rfl,hl,q⟩:=q1;obtain⟨u,rfl,ru⟩:=cE r1;cases ru;obtain⟨hz,its,n,rv,ho⟩:=I1.hok l _ hl;have hL:s3.heap.IsList l its.toArray:=⟨_,ho,rfl,n,rfl⟩;have hlen:its.toArray.size≤sizeLine:=by rw[size_toArray,←rv.length];exact hz
 refine call_reversed_list hL (spliced_nil ?_);have ltl:l<s3.heap.objs.size:=lt_size ho;refine jb (s:={s3 with heap:=s3.heap.push (revObj l ((its.toArray.size:Int)-1))}) (items:=its.toArray) (I.ok.hd hc) ⟨_,get?_push_size _ rfl,rfl,rfl⟩ (hL.push _) (ne_of_lt ltl) hlen λh' tk hk=>?_
 have k0:∀b o,s3.heap.get? b=some o→h'.get? b=some o:=λb o e=>hk b o (ne_of_lt (lt_size e)) (get?_push_of_some _ e);have I2:Inv X pins σ H1 {s3 with heap:=h',toks:=tk}:=I1.kept (t':=tk) k0
 have er:its.toArray.toList.reverse.toArray=its.reverse.toArray:=by simp
 rw[er];have I3:Inv X pins σ (upd H1 h'.objs.size (.tup ys.reverse)) {s3 with heap:=h'.push {cls:=.type "tuple",data:=.seq its.reverse.toArray},toks:=tk} :=
  I2.laid (t':=tk) (λb o e=>get?_push_of_some _ e) (le_refl _) (show bi X.prog X.w _ _ _ (.tup ys.reverse)from⟨by rw[List.length_reverse];exact hz,its.reverse,rv.reverse,IsTup.new _ _⟩)
 exact⟨.ref h'.objs.size,_,I3,rfl,q _ (I2.hok.fresh (le_refl _))⟩
theorem uy{P:Program}{w:World}{kvs:List (Key×V)}{vs:List (Key×Value)}{acc:Array Value}(rel:KV kvs vs)(h:ItemsOf (λi v=>∃k x,vs[i]?=some (k,x)∧(ap P w).is k v=true) acc vs.length):ar (kvs.map λp=>kV p.1) acc.toList:=by
 obtain⟨h1,h2⟩:=h;have hl:acc.toList.length=vs.length:=by simpa using h1
 have h3:∀(i:Nat)(v:Value),acc.toList[i]?=some v→∃k x,vs[i]?=some (k,x)∧(ap P w).is k v=true:=λi v hv=>h2 i v (by simpa using hv);clear h1 h2;generalize acc.toList=l at hl h3
 induction rel generalizing l with
 |nil =>
  cases l with
  |nil=>exact .nil
  |cons a r=>simp at hl
 |@cons p q kvs vs r _ ih =>
  cases l with
  |nil=>simp at hl
  |cons a l =>
   refine .cons ?_ (ih l (by simpa using hl) λi v hv=>by simpa using h3 (i+1) v (by simpa using hv))
   obtain⟨k,x,e1,e2⟩:=h3 0 a rfl;have e3:q=(k,x):=by simpa using e1
   show aB (kV p.1) a;rw[r.1,e3];rcases aE e2 with⟨i,t,e4,e5⟩|⟨y,t,e4,e5⟩
   ·rw[e4,e5];exact⟨t,rfl⟩
   ·rw[e4,e5];exact⟨t,rfl⟩
end
end L2
namespace HT
open PySem PyProof.Rows
def cH(x y:Str):Bool:=decide (x.cps.toList<y.cps.toList)
def cu:List Str→List Str→Bool
 |[],[]=>false
 |[],_::_=>true
 |_::_,[]=>false
 |x::xs,y::ys=>if x=y then cu xs ys else cH x y
theorem dA(x y:Str)(xs ys:List Str):cu (x::xs) (y::ys)=if x=y then cu xs ys else cH x y:=rfl
theorem lg:cu [] []=false:=rfl
theorem jD(y:Str)(ys:List Str):cu [] (y::ys)=true:=rfl
theorem jE(x:Str)(xs:List Str):cu (x::xs) []=false:=rfl
theorem uz{x y:Str}(h:x.cps.toList=y.cps.toList):x=y:=by
 obtain⟨x⟩:=x;obtain⟨y⟩:=y
 congr
 exact Array.toList_inj.mp h
theorem dB(x:Str):cH x x=false:=decide_eq_false (List.lt_irrefl _)
theorem jc{x y z:Str}(h1:cH x y=true)(h2:cH y z=true):cH x z=true:=by
 unfold cH at *;rw[decide_eq_true_eq]at *;exact List.lt_trans h1 h2
theorem jU{x y:Str}(h:x≠y):cH x y=true∨cH y x=true:=by
 unfold cH;rw[decide_eq_true_eq,decide_eq_true_eq];rcases Decidable.em (x.cps.toList<y.cps.toList)with a|a
 ·exact .inl a
 ·refine .inr ?_;have hle:y.cps.toList≤x.cps.toList:=List.not_lt.mp a;rcases Decidable.em (y.cps.toList<x.cps.toList)with b|b
  ·exact b
  ·have hle2:x.cps.toList≤y.cps.toList:=List.not_lt.mp b;exact absurd (uz (List.le_antisymm hle2 hle)) h
theorem cw:∀p:List Str,cu p p=false
 |[]=>rfl
 |x::p=>by rw[dA,if_pos rfl];exact cw p
theorem iI:∀{p q r:List Str},cu p q=true→cu q r=true→cu p r=true
 |[],[],_,h,_=>by cases h
 |[],_::_,[],_,h=>by cases h
 |[],_::_,_::_,_,_=>rfl
 |_::_,[],_,h,_=>by cases h
 |_::_,_::_,[],_,h=>by cases h
 |x::p,y::q,z::r,h1,h2=>by
  rw[dA]at h1 h2⊢
  by_cases a:x=y
  ·subst a;rw[if_pos rfl]at h1
   by_cases b:x=z
   ·rw[if_pos b]at h2⊢;exact iI h1 h2
   ·rw[if_neg b]at h2⊢;exact h2
  ·rw[if_neg a]at h1
   by_cases b:y=z
   ·subst b;rw[if_neg a];exact h1
   ·rw[if_neg b]at h2;have h3:=jc h1 h2;have c:x≠z:=λe=>by
     subst e;rw[dB]at h3;cases h3
    rw[if_neg c];exact h3
theorem jd:∀{p q:List Str},p≠q→cu p q=true∨cu q p=true
 |[],[],h=>absurd rfl h
 |[],_::_,_=>.inl rfl
 |_::_,[],_=>.inr rfl
 |x::p,y::q,h=>by
  rw[dA,dA]
  by_cases a:x=y
  ·subst a;rw[if_pos rfl,if_pos rfl];exact jd λe=>h (by rw[e])
  ·rw[if_neg a,if_neg (symm a)];exact jU a
theorem rQ(A:Around)(s:Shared)(a:Str)(t:Tok)(c:Str)(u:Tok):∃e,EqAt A s (.str a t) (.str c u) e∧(e=true↔a=c) :=
 ⟨decide (a=c),λprog w E Q h=>wpAny_eqBool_str h,by simp⟩
theorem rR(A:Around)(s:Shared)(a:Str)(t:Tok)(c:Str)(u:Tok)(prog:Program)(w:World)(E:Value→Shared→Prop)(Q:Value→Shared→Prop)(h:Q (.bool (cH a c)) s):
  wpAny (model prog w) A (richCompare .Lt (.str a t) (.str c u)) Q E s :=
 (lt_str h:wpAny (model prog w) A (compareOp .Lt (.str a t) (.str c u)) Q E s)
section
open PySem.SeqAt
open PySem.AutoSeq1 (wpAny_loadPart')
open PySem.MeetsSeq PySem.MeetsSeq2 PySem.MeetsSeq3
theorem jF(l b:Addr)(items items2:Array Value)(n n2:Nat)(dd dd2:Option Addr)(sl sl2:Array (Option Value))(ns ms:List Str)(hi:StrsAre items.toList ns)(hj:StrsAre items2.toList ms):
  Meets (Builtin.«tuple.__lt__» ⟨[.ref l,.ref b],[]⟩)
   (λ_ R s=>s.heap.get? l=some {cls:=.type "tuple",dict:=dd,data:=.seq items n,slots:=sl}∧s.heap.get? b=some {cls:=.type "tuple",dict:=dd2,data:=.seq items2 n2,slots:=sl2} ∧
    R (.ok (.ret (.bool (cu ns ms)))) s) :=
 .of_wp λprog w A R s h=>by
  obtain⟨hp,g,d,tk,os⟩:=s;obtain⟨hl,hb,h⟩:=h;have f2:=AutoSeq1.sub_tuple_tuple;have z1:items.size=ns.length:=by rw[←hi.length];simp
  have z2:items2.size=ms.length:=by rw[←hj.length];simp
  wp_walk using wpAny_loadPart' hl,wpAny_loadPart' hb,wpAny_forIn_list _ (λrest b s'=>b.1=none∧s'=⟨hp,g,d,tk,os⟩∧∃(vs ws:List Value) (ns' ms':List Str),rest=vs.zip ws ∧
   StrsAre vs ns'∧StrsAre ws ms'∧ns'.length+items2.size=ms'.length+items.size∧R (.ok (.ret (.bool (cu ns' ms')))) ⟨hp,g,d,tk,os⟩) _
  case turn =>
   rintro⟨y,x⟩ rest b s' ⟨hb',rfl,vs,ws,ns',ms',hz,hvi,hwi,hlen,hR⟩;cases hvi with
   |nil=>rw[List.zip_nil_left]at hz;cases hz
   |cons a t hvi' =>
    cases hwi with
    |nil=>rw[List.zip_nil_right]at hz;cases hz
    |cons c u hwi' =>
     rw[zip_cons_cons]at hz;injection hz with hyx hrest
     injection hyx with hy hx
     subst hy hx;rw[dA]at hR;simp only[length_cons]at hlen;obtain⟨e,he,hiff⟩:=rQ A.in1 ⟨hp,g,d,tk,os⟩ a t c u;refine wpAny_bind (he prog w _ _ ?_);cases e with
     |true =>
      rw[if_pos (hiff.mp rfl)]at hR
      wp_walk
      exact⟨rfl,rfl,_,_,_,_,hrest,hvi',hwi',by omega,hR⟩
     |false =>
      rw[if_neg (λq=>absurd (hiff.mpr q) Bool.false_ne_true)]at hR;have hri:=rR A.in1 ⟨hp,g,d,tk,os⟩ a t c u prog w
      wp_walk using hri
      exact⟨_,rfl,by simpa using hR⟩
  case fin =>
   rintro⟨b1,b2⟩ s' ⟨hb',rfl,vs,ws,ns',ms',hz,hvi,hwi,hlen,hR⟩;simp only at hb';subst hb';have hv:cu ns' ms'=decide (items.size<items2.size):=by
    cases hvi with
    |nil =>
     cases hwi with
     |nil =>
      simp only[length_nil]at hlen;rw[lg];exact(decide_eq_false (by omega)).symm
     |cons c u hw =>
      simp only[length_nil,length_cons]at hlen;rw[jD];exact(decide_eq_true (by omega)).symm
    |cons a t hv =>
     cases hwi with
     |nil =>
      simp only[length_nil,length_cons]at hlen;rw[jE];exact(decide_eq_false (by omega)).symm
     |cons c u hw =>
      rw[zip_cons_cons]at hz;cases hz
   rw[hv]at hR
   wp_walk
   exact⟨_,rfl,by simpa [Builtin.Tuple.tupleCompareSizes]using hR⟩
  case h =>
   exact⟨rfl,rfl,items.toList,items2.toList,ns,ms,rfl,hi,hj,by omega,h⟩
end
section
variable{prog:Program}{w:World}{A:Around}{E:Value→Shared→Prop}{s:Shared}
theorem je{l b:Addr}{items items2:Array Value}{ns ms:List Str}{Q:Value→Shared→Prop}(hl:IsTup s.heap l items)(hb:IsTup s.heap b items2)(hi:StrsAre items.toList ns)(hj:StrsAre items2.toList ms)(hu:A.units<cLine)(h:Q (.bool (cu ns ms)) s):wpAny (model prog w) A (compareOp .Lt (.ref l) (.ref b)) Q E s:=by
 obtain⟨⟨cls,dd,data,sl⟩,ho,hc,n,hd⟩:=id hl;obtain⟨⟨cls2,dd2,data2,sl2⟩,ho2,hc2,n2,hd2⟩:=id hb;simp only at hc hd hc2 hd2;subst hc hd hc2 hd2;exact richCompare_meets_room (op:=.Lt) ⟨_,ho,rfl⟩ ⟨_,ho2,rfl⟩ PySem.F.slot_tuple_lt PySem.F.entry_tuple_lt (PySem.F.args_tuple_lt_2 _ _) (jF l b items items2 n n2 dd dd2 sl sl2 ns ms hi hj)
  ⟨ho,ho2,show Value.bool (cu ns ms)≠Value.notImplemented∧Q (.bool (cu ns ms)) s from⟨(λx=>nomatch x),h⟩⟩ hu
end
end HT
namespace L2
open PySem PySem.Spec PyProof.Rows
section
variable{X:Cx}
theorem qA{α:Type}{zs:List α}{val:α→V}{d:α}:∀{us:List Value},ar (zs.map val) us→∀(ps:List Nat),(∀i∈ps,i<zs.length)→ar ((ps.map λi=>zs.getD i d).map val) (ps.map λi=>us.getD i Value.none):=by
 intro us rv ps
 induction ps with
 |nil=>intro _;exact .nil
 |cons i ps ih =>
  intro h;refine .cons ?_ (ih λj hj=>h j (by simp[hj]));have hi:=h i (by simp);obtain⟨u,hu,r⟩:=rv.get (i:=i) (x:=val (zs.getD i d)) (by rw[getElem?_map,(aY (d:=d) hi).2];rfl);have:us.getD i Value.none=u:=by rw[getD_eq_getElem?_getD,hu];rfl
  show aB (val (zs.getD i d)) (us.getD i Value.none);rw[this];exact r
theorem eO{α:Type}{zs:List α}{val:α→V}{d:α}{us:List Value}{f:α→α→Bool}{l:Addr}{pins:List (Addr×Obj)}{σ:St}{H:Hp}{s:Shared}{Q:VK}{κ:SortKind}{E:Value→Shared→Prop}(I:Inv X pins σ H s)(rv:ar (zs.map val) us)(O:SRT.Ord (λi j=>f (zs.getD i d) (zs.getD j d)) zs.length)(pl:s.heap.IsList l us.toArray)(h64:zs.length<64)(hk:∀(A':Around) (s':Shared),A'.units≤X.A.units+2→(∀b o,s.heap.get? b=some o→s'.heap.get? b=some o)→∀Q:SortKind→Shared→Prop,2≤zs.length→Q κ s'→wpAny (model X.prog X.w) A' (keyKind' us.toArray) Q (λ_ _=>False) s')(hlt:∀(A':Around) (s':Shared),A'.units≤X.A.units+2→(∀b o,s.heap.get? b=some o→s'.heap.get? b=some o)→∀(i j:Nat) (C:Bool→Shared→Prop),i<zs.length→j<zs.length→C (f (zs.getD i d) (zs.getD j d)) s'→wpAny (model X.prog X.w) A' (keyLt' κ (us.getD i Value.none) (us.getD j Value.none)) C (λ_ _=>False) s')(q:∀zs':List α,zs'.Perm zs→zs'.Pairwise (λa b=>f a b=true)→∀p,H p=none→Q (.ref p) (upd H p (.lst (zs'.map val)))):wpAny (model X.prog X.w) X.A (call (.builtin "sorted") [.ref l]) (EP X pins σ Q) E s:=by
 have hlen:us.length=zs.length:=by rw[←rv.length,length_map]
 refine SRT.qr (κ:=κ) (f:=λi j=>f (zs.getD i d) (zs.getD j d)) (by rw[hlen];exact O) pl (by rw[hlen];exact h64) (λA' s' h1 h2 Q' h3=>hk A' s' h1 h2 Q' (by omega)) (λA' s' h1 h2 i j C hi hj=>hlt A' s' h1 h2 i j C (by omega) (by omega)) ?_;intro p h' hrow hup kp _ hg;obtain⟨c,hg⟩:=hg;rw[hlen]at hrow hup;have hin:∀i∈p.toList,i<zs.length:=λi hi=>mem_range.mp (hrow.perm.mem_iff.mp hi);have hperm:(p.toList.map λi=>zs.getD i d).Perm zs:=by
  refine(hrow.perm.map _).trans ?_;have:(List.range zs.length).map (λi=>zs.getD i d)=zs:=by
   apply ext_getElem?;intro i;rw[getElem?_map]
   by_cases hi:i<zs.length
   ·rw[getElem?_range hi,(aY (d:=d) hi).2];rfl
   ·rw[getElem?_eq_none (by rw[length_range];omega),getElem?_eq_none (by omega)];rfl
  rw[this]
 have hpl:p.size=zs.length:=hrow.size;have hpw:(p.toList.map λi=>zs.getD i d).Pairwise (λa b=>f a b=true):=by
  rw[pairwise_iff_getElem];intro i j hi hj hij;have hi':i<p.size:=by rw[length_map,length_toList]at hi;exact hi
  have hj':j<p.size:=by rw[length_map,length_toList]at hj;exact hj
  have:=hup i j hij (by omega);simp only[]at this;rw[getD_eq_getD_getElem?,getD_eq_getD_getElem?,Array.getElem?_eq_getElem hi',Array.getElem?_eq_getElem hj']at this;simpa using this
 refine⟨.ref (s.heap.objs.size+1),_,I.laid (t':=s.toks) (o:=.lst ((p.toList.map λi=>zs.getD i d).map val)) kp (le_succ _) ⟨?_,_,c,qA rv p.toList hin,hg⟩,rfl,q _ hperm hpw _ (I.hok.fresh (le_succ _))⟩;rw[length_map,hperm.length_eq,sizeLine_eq];omega
theorem uA{ns:List Int}{us:List Value}(r:ar (ns.map V.int) us):IntsAre us ns:=nR r
theorem cm:cq X (.builtin "sorted") (λxs H Q=>∃l,∃ns:List Int,xs=[.ref l]∧H l=some (.lst (ns.map V.int))∧ns.Nodup∧ns.length<64 ∧
  ∀ms:List Int,ms.Perm ns→ms.Pairwise (λa b=>a<b)→∀p,H p=none→Q (.ref p) (upd H p (.lst (ms.map V.int)))):=by
 intro pins s σ H xs us Q I r h;obtain⟨l,ns,rfl,hl,hnd,h64,q⟩:=h;obtain⟨u,rfl,ru⟩:=cE r;cases ru;obtain⟨_,its,n,rv,ho⟩:=I.hok l _ hl;have hI:=uA rv;have hlen:its.length=ns.length:=by rw[←rv.length,length_map]
 refine eO (val:=V.int) (d:=(0:Int)) (f:=λa b=>decide (a<b)) (κ:=oneType') I rv ⟨λi _=>by simp,λi j k _ _ _ h1 h2=>?_,λi j hi hj hij=>?_⟩ ⟨_,ho,rfl,n,rfl⟩ h64 (λA' s' _ _ Q' h2 hQ=>?_) (λA' s' _ _ i j C hi hj hC=>?_) λzs' h1 h2 p hp=>q zs' h1 (h2.imp λh=>by simpa using h) p hp
 ·simp only[decide_eq_true_eq]at *;omega
 ·simp only[decide_eq_true_eq];have:ns.getD i 0≠ns.getD j 0:=by
   rw[getD_eq_getElem?_getD,getD_eq_getElem?_getD,getElem?_eq_getElem hi,getElem?_eq_getElem hj];exact λe=>hij ((getElem_inj hnd).mp e)
  omega
 ·rw[ksk_kind (keys:=its.toArray) (kz:=ns) (by simpa using hI) (by rw[size_toArray];omega)];exact wpAny_pure hQ
 ·have gi:∀i,i<ns.length→∃t,its.getD i Value.none=.int (ns.getD i 0) t:=λi hi=>by
   obtain⟨v,hv,r⟩:=rv.get (i:=i) (x:=.int (ns.getD i 0)) (by rw[getElem?_map,(aY (d:=(0:Int)) hi).2];rfl);obtain⟨t,rfl⟩:=r;exact⟨t,by rw[getD_eq_getElem?_getD,hv];rfl⟩
  obtain⟨t,e1⟩:=gi i hi;obtain⟨t',e2⟩:=gi j hj;rw[e1,e2];exact kat_lt_int hC
structure Cp where
 a:Addr
 t:Addr
 p:List Str
 n:Int
def lZ(H:Hp)(z:Cp):Prop:=H z.a=some (.tup [.ref z.t,.int z.n])∧H z.t=some (.tup (z.p.map V.str))
theorem lh:∀{ps:List Str}{us:List Value},ar (ps.map V.str) us→StrsAre us ps
 |[],_,.nil=>.nil
 |p::ps,_,.cons ⟨t,e⟩ r=>by subst e;exact .cons p t (lh r)
theorem iw(hu:X.A.units+8<cLine):cq X (.builtin "sorted") (λxs H Q=>∃l,∃zs:List Cp,xs=[.ref l]∧H l=some (.lst (zs.map λz=>V.ref z.a))∧(∀z∈zs,lZ H z)∧(zs.map (·.p)).Nodup∧zs.length<64 ∧
  ∀zs':List Cp,zs'.Perm zs→zs'.Pairwise (λa b=>HT.cu a.p b.p=true)→∀p,H p=none→Q (.ref p) (upd H p (.lst (zs'.map λz=>V.ref z.a)))):=by
 intro pins s σ H xs us Q I r h;obtain⟨l,zs,rfl,hl,hk,hnd,h64,q⟩:=h;obtain⟨u,rfl,ru⟩:=cE r;cases ru;obtain⟨_,its,n,rv,ho⟩:=I.hok l _ hl
 let d:Cp:=⟨0,0,[],0⟩
 have hlen:its.length=zs.length:=by rw[←rv.length,length_map]
 have gi:∀i,i<zs.length→its.getD i Value.none=.ref (zs.getD i d).a:=λi hi=>by
  obtain⟨v,hv,r⟩:=rv.get (i:=i) (x:=.ref (zs.getD i d).a) (by rw[getElem?_map,(aY (d:=d) hi).2];rfl);cases r;rw[getD_eq_getElem?_getD,hv];rfl
 have eits:its=zs.map λz=>Value.ref z.a:=by
  have key:∀(l:List Cp)(us:List Value),ar (l.map λz=>V.ref z.a) us→us=l.map λz=>Value.ref z.a:=by
   intro l
   induction l with
   |nil=>intro us r;cases r;rfl
   |cons z l ih =>
    intro us r;cases r with
    |cons r1 r2 =>
     rw[ih _ r2];cases r1;rfl
  exact key zs its rv
 have hobj:∀z∈zs,∃t',IsTup s.heap z.a #[.ref z.t,.int z.n t']:=λz hz=>by
  obtain⟨u,v,r1,r2,ht⟩:=oe I (hk z hz).1;cases r1;obtain⟨t',rfl⟩:=r2;exact⟨t',ht⟩
 have htup:∀z∈zs,∃ws:List Value,StrsAre ws z.p∧IsTup s.heap z.t ws.toArray:=λz hz=>by
  obtain⟨_,ws,r1,ht⟩:=I.hok z.t _ (hk z hz).2;exact⟨ws,lh r1,ht⟩
 have kept:∀{s':Shared}{a:Addr}{xs:Array Value},(∀b o,s.heap.get? b=some o→s'.heap.get? b=some o)→IsTup s.heap a xs→IsTup s'.heap a xs:=λk ⟨o,e,r⟩=>⟨o,k _ o e,r⟩;refine eO (val:=λz:Cp=>V.ref z.a) (d:=d) (f:=λa b=>HT.cu a.p b.p) (κ:=tuples' false) I rv ⟨λi _=>HT.cw _,λi j k _ _ _ h1 h2=>HT.iI h1 h2,λi j hi hj hij=>HT.jd ?_⟩ ⟨_,ho,rfl,n,rfl⟩ h64 (λA' s' _ kp Q' h2 hQ=>?_) (λA' s' hA kp i j C hi hj hC=>?_) q
 ·intro e;have e':(zs.map (·.p))[i]'(by simpa using hi)=(zs.map (·.p))[j]'(by simpa using hj):=by
   have h1:=(aY (d:=d) hi).2;have h2:=(aY (d:=d) hj).2;rw[getElem_map,getElem_map,(List.getElem?_eq_some_iff.mp h1).2,(List.getElem?_eq_some_iff.mp h2).2];exact e
  exact hij ((getElem_inj hnd).mp e')
 ·have key:∀ys:List Cp,(∀z∈ys,z∈zs)→KatTups s'.heap (ys.map λz=>Value.ref z.a) (ys.map λz=>Value.ref z.t):=by
   intro ys
   induction ys with
   |nil=>intro _;exact KatTups.nil
   |cons z ys ih =>
    intro hm;obtain⟨t',o,e1,e2,n',e3⟩:=hobj z (hm z (by simp));exact KatTups.cons (kp _ _ e1) e2 e3 rfl (ih λy hy=>hm y (by simp[hy]))
  rw[eits];refine kat_kind (T:=.type "tuple") (key zs λz hz=>hz) (by rw[length_map];omega) (λv hv=>?_) (by rfl) hQ;obtain⟨z,hz,rfl⟩:=mem_map.mp hv;obtain⟨ws,_,o,e1,e2,_⟩:=htup z hz;exact e2 ▸ (Looks.ld (kp _ _ e1)).andThen .now
 ·rw[gi i hi,gi j hj];have mi:=(aY (d:=d) hi).1;have mj:=(aY (d:=d) hj).1;generalize zs.getD i d=zi at mi hC⊢;generalize zs.getD j d=zj at mj hC⊢;obtain⟨ti,oi,a1,a2,ni,a3⟩:=hobj zi mi;obtain⟨tj,oj,b1,b2,nj,b3⟩:=hobj zj mj;refine kat_lt (kp _ _ a1) a3 (kp _ _ b1) b3 ?_;obtain⟨wi,si,pi⟩:=htup zi mi;obtain⟨wj,sj,pj⟩:=htup zj mj;have hu1:A'.units<cLine:=by omega
  have ki:IsTupleKey (ap X.prog X.w) s'.heap (zi.p.map Sum.inr) zi.t:=by
   obtain⟨o,its',n',ho',r⟩:=lX (ks:=zi.p.map Sum.inr) I (by rw[map_map];exact(hk zi mi).2) X.prog X.w;exact⟨o,its',n',kp _ _ ho',r⟩
  have kj:IsTupleKey (ap X.prog X.w) s'.heap (zj.p.map Sum.inr) zj.t:=by
   obtain⟨o,its',n',ho',r⟩:=lX (ks:=zj.p.map Sum.inr) I (by rw[map_map];exact(hk zj mj).2) X.prog X.w;exact⟨o,its',n',kp _ _ ho',r⟩
  refine kat_cons (wpAny_eqBool_tuple (knd:=ap X.prog X.w) hu1 ki kj ?_)
  by_cases e:zi.p=zj.p
  ·rw[e,decide_eq_true rfl];have hC':C false s':=by rw[e,HT.cw]at hC;exact hC
   have en:zi=zj:=by
    obtain⟨x,hx,ex⟩:=mem_iff_getElem.mp mi;obtain⟨y,hy,ey⟩:=mem_iff_getElem.mp mj;have e':(zs.map (·.p))[x]'(by simpa using hx)=(zs.map (·.p))[y]'(by simpa using hy):=by rw[getElem_map,getElem_map,ex,ey];exact e
    have:=(getElem_inj hnd).mp e';subst this;rw[←ex,←ey]
   subst en;refine kat_yes (kat_cons (wpAny_eqBool_int ?_));rw[beq_self_eq_true];exact kat_yes (kat_nil (by simpa using hC'))
  ·have hne:¬(zi.p.map Sum.inr:List Key)=zj.p.map Sum.inr:=λz=>e (by
    have:=congrArg (List.map λk:Key=>match k with | .inr x=>x | .inl _=>empty) z;simpa [map_map,Function.comp_def]using this)
   rw[decide_eq_false hne];refine kat_no (kat_one _ _ ?_);exact HT.je (kept kp pi) (kept kp pj) (by simpa using si) (by simpa using sj) hu1 hC
end
def oZ(H:Hp):Nat→V→V→Prop
 |0,x,y=>x=y∧cF x=true
 |n+1,x,y=>(x=y∧cF x=true)∨∃a b xs ys,x=.ref a∧y=.ref b∧H a=some (.tup xs)∧H b=some (.tup ys)∧xs.length=ys.length∧∀(i:Nat) x' y',xs[i]?=some x'→ys[i]?=some y'→oZ H n x' y'
theorem mh{x:V}(f:cF x=true):eqV x x=true:=by
 cases x<;>first|rfl|(simp[eqV];done) | (exact absurd (show false=true from f) Bool.false_ne_true)
theorem jf{H:Hp}{n:Nat}{x y:V}(h:x=y∧cF x=true):oZ H n x y:=by
 cases n with
 |zero=>exact h
 |succ n=>exact .inl h
section
variable{X:Cx}{pins:List (Addr×Obj)}{σ:St}{H:Hp}{s:Shared}
theorem rS(I:Inv X pins σ H s):∀(n:Nat){A:Around}{x y:V}{u v:Value},aB x u→aB y v→oZ H n x y→A.units+n<cLine→EqAt A s u v true:=by
 intro n
 induction n with
 |zero =>
  intro A x y u v ru rv h hu;obtain⟨e,f⟩:=h;subst e;have:=gP (A:=A) (s:=s) ru rv f f;rw[mh f]at this;exact this
 |succ n ih =>
  intro A x y u v ru rv h hu;rcases h with⟨e,f⟩|⟨a,b,xs,ys,rfl,rfl,ha,hb,hl,hx⟩
  ·subst e;have:=gP (A:=A) (s:=s) ru rv f f;rw[mh f]at this;exact this
  ·cases ru;cases rv
   by_cases hab:a=b
   ·subst hab;exact EqAt.same _
   ·obtain⟨_,us,r1,t1⟩:=I.hok a _ ha;obtain⟨_,ws,r2,t2⟩:=I.hok b _ hb;have l1:=r1.length;have l2:=r2.length;have:=RcAt.tuples (A:=A) (s:=s) (e:=λ_=>true) t1 t2 (by omega) (λj h1 h2=>by
     have h1':j<xs.length:=by rw[l1];simpa using h1
     have h2':j<ys.length:=by rw[l2];simpa using h2
     obtain⟨u',hu1,hu2⟩:=r1.get (getElem?_eq_getElem h1');obtain⟨v',hv1,hv2⟩:=r2.get (getElem?_eq_getElem h2');have e1:us.toArray[j]=u':=by
      have:us[j]?=some us.toArray[j]:=by rw[getElem?_eq_getElem (by simpa using h1)];simp
      rw[hu1]at this;exact(Option.some.inj this).symm
     have e2:ws.toArray[j]=v':=by
      have:ws[j]?=some ws.toArray[j]:=by rw[getElem?_eq_getElem (by simpa using h2)];simp
      rw[hv1]at this;exact(Option.some.inj this).symm
     rw[e1,e2];exact ih hu2 hv2 (hx j _ _ (getElem?_eq_getElem h1') (getElem?_eq_getElem h2')) (by simp[Around.in1_units];omega))
    have e3:((List.range (min us.toArray.size ws.toArray.size)).all (λ_=>true)&&us.toArray.size==ws.toArray.size)=true:=by
     have:us.toArray.size=ws.toArray.size:=by simp only[size_toArray];omega
     simp[this]
    rw[e3]at this;exact EqAt.of_refs hab this
def ml(H:Hp)(xs ys:List V):Prop:=xs.length=ys.length∧∀(i:Nat) x y,xs[i]?=some x→ys[i]?=some y→oZ H 3 x y
theorem mm{pins:List (Addr×Obj)}{σ:St}{H:Hp}{s:Shared}(I:Inv X pins σ H s){xs ys:List V}{us ws:List Value}(r1:ar xs us)(r2:ar ys ws)(h:ml H xs ys){A:Around}(hu:A.units+3<cLine):
  ∀j (h1:j<us.toArray.size) (h2:j<ws.toArray.size),EqAt A s us.toArray[j] ws.toArray[j] true:=λj h1 h2=>by
 have h1':j<xs.length:=by rw[r1.length];simpa using h1
 have h2':j<ys.length:=by rw[r2.length];simpa using h2
 obtain⟨u',hu1,hu2⟩:=r1.get (getElem?_eq_getElem h1');obtain⟨v',hv1,hv2⟩:=r2.get (getElem?_eq_getElem h2');have e1:us.toArray[j]=u':=by
  have:us[j]?=some us.toArray[j]:=by rw[getElem?_eq_getElem (by simpa using h1)];simp
  rw[hu1]at this;exact(Option.some.inj this).symm
 have e2:ws.toArray[j]=v':=by
  have:ws[j]?=some ws.toArray[j]:=by rw[getElem?_eq_getElem (by simpa using h2)];simp
  rw[hv1]at this;exact(Option.some.inj this).symm
 rw[e1,e2];exact rS I 3 hu2 hv2 (h.2 j _ _ (getElem?_eq_getElem h1') (getElem?_eq_getElem h2')) hu
end
section
variable{prog:Program}{w:World}{A:Around}{E:Value→Shared→Prop}{s:Shared}
theorem qB{Q:Int→Shared→Prop}(h:Q 4238894112 {s with toks:=s.toks+1}):wpAny (model prog w) A (pyHash .none) Q E s:=by
 have hT:s.TypeIs .none "NoneType":=rfl;have f1:=slot_NoneType_hash.lookup;show wpAny _ _ (pyHashByItsType .none) _ _ _;unfold pyHashByItsType;refine wpAny_bind ?_;rw[cRoomFor,if_neg (by show ¬([Value.none].any Value.onHeap=true);decide)];refine wpAny_pure (wpAny_bind (wpAny_specialOf hT f1 ?_));rw[if_neg (by decide)];refine wpAny_bind (wpAny_specialOf hT f1 ?_);rw[if_neg (by decide)];refine wpAny_bind (wpAny_callSpecialIfBoundUnlessNone?_slot hT slot_NoneType_hash (wpAny_call_entry slot_NoneType_hash hT PySem.F.entry_NoneType_hash (show wpAny _ _ (do ret (← mkInt 0xFCA86420)) _ _ s from wpAny_ret_mkInt ?_) (PySem.F.args_NoneType_hash_1 _)))
 show wpAny _ _ (if (decide (-(2:Int) ^ 63≤4238894112)&&decide ((4238894112:Int)<2 ^ 63))=true then _ else _) Q E _
 rw[if_pos (by decide)];exact wpAny_pure h
end
def nIs:Option Key→Value→Bool
 |some k,v=>eJ k v
 |none,.none=>true
 |none,_=>false
theorem cx{v:Value}(h:nIs none v=true):v=.none:=by
 cases v<;>first|rfl|(exact absurd (show false=true from h) Bool.false_ne_true)
def jV(prog:Program)(w:World):PySem.KeyKind prog w (Option Key) where
 is:=nIs
 hash:=λk=>match k with|some k=>xF w k|none=>4238894112
 inj:=λv a b ha hb=>by
  cases a with
  |none =>
   have e:=cx ha;subst e;cases b with
   |none=>rfl
   |some k=>rcases aE (show eJ k .none=true from hb)with⟨i,t,_,e⟩|⟨x,t,_,e⟩<;>cases e
  |some j =>
   cases b with
   |none =>
    have e:=cx hb;subst e;rcases aE (show eJ j .none=true from ha)with⟨i,t,_,e⟩|⟨x,t,_,e⟩<;>cases e
   |some k=>rw[(ap prog w).inj v j k ha hb]
 byValue:=λk v h=>by
  cases k with
  |none=>rw[cx h];rfl
  |some k=>exact(ap prog w).byValue k v h
 pyHash:=λ{A E s k v Q} hv h=>by
  cases k with
  |none=>rw[cx hv];exact qB h
  |some k=>exact(ap prog w).pyHash (k:=k) hv h
 eqBool:=λ{A E s a b u v Q} hu hv h=>by
  cases a with
  |none =>
   rw[cx hu];cases b with
   |none =>
    rw[cx hv];exact EqAt.same _ _ _ _ _ (by simpa using h)
   |some k =>
    have h':Q false s:=by simpa using h
    rcases aE (show eJ k v=true from hv)with⟨i,t,_,e⟩|⟨x,t,_,e⟩
    ·rw[e];exact EqAt.none_int i t _ _ _ _ h'
    ·rw[e];exact EqAt.none_str x t _ _ _ _ h'
  |some j =>
   cases b with
   |none =>
    rw[cx hv];have h':Q false s:=by simpa using h
    rcases aE (show eJ j u=true from hu)with⟨i,t,_,e⟩|⟨x,t,_,e⟩
    ·rw[e];exact EqAt.int_none i t _ _ _ _ h'
    ·rw[e];exact EqAt.str_none x t _ _ _ _ h'
   |some k =>
    refine(ap prog w).eqBool (a:=j) (b:=k) hu hv ?_;have:decide ((some j:Option Key)=some k)=decide (j=k):=by simp
    rw[←this];exact h
 «strs»:=λk x t v h=>by
  cases k with
  |none=>exact absurd (cx h) (by simp)
  |some k=>exact(ap prog w).strs k x t v h
section
variable{P:Program}{w:World}
end
section
variable{X:Cx}{o e:Expr}{td ty:TE}{apos cpos:Pos}
end
def Ext(p:Addr)(H H':Hp):Prop:=∀b o,b≠p→H b=some o→H' b=some o
theorem Ext.of{p:Addr}{H H':Hp}(s:Same H H'):Ext p H H':=λb o _ e=>s b o e
theorem Ext.upd{p:Addr}{H:Hp}{o:HO}:Ext p H (upd H p o):=λb u hb e=>by rw[af hb];exact e
theorem Ext.trans{p:Addr}{H H1 H2:Hp}(a:Ext p H H1)(b:Ext p H1 H2):Ext p H H2:=λc o hc e=>b c o hc (a c o hc e)
def yc(te:TE):Prop:=∀σ H (Q Q':VK),(∀y H,Q y H→Q' y H)→te σ H Q→te σ H Q'
theorem ol{js:List Nat}{J:It}{te:TE}{σ:St}{H1:Hp}{Q:VK}{p:Addr}{fr:List (Option V)}(n:Nat)(hn:n≤1000)(hp:H1 p=none)(hfr:cp 1 js σ=none::fr)(R:Nat→V→Hp→Prop)(hR:∀i y H H',R i y H→Ext p H H'→R i y H')(go:∀i H',i<n→Same H1 H'→J.go i H')(stop:∀H',Same H1 H'→J.stop n H')(me:yc te)(step:∀i H' x H2,i<n→Same H1 H'→(∃ys,H' p=some (.lst ys))→J.yld i H' x H2→H2=H'∧te (some x::fr) H' λy H4=>Same H' H4∧R i y H4)(fin:∀ys H',Same H1 H'→H' p=some (.lst ys)→ys.length=n→(∀(j:Nat) y,ys[j]?=some y→R j y H')→Q (.ref p) H'):LcW 1 js (bn 0) te σ Q J H1 p:=by
 refine vH (k:=1) (js:=js) (J:=J) (p:=p) n hn (λi ys σ' H'=>(∃o,σ'=o::fr)∧Same H1 H'∧H' p=some (.lst ys)∧ys.length=i∧∀(j:Nat) y,ys[j]?=some y→R j y H') ⟨⟨none,hfr⟩,ae hp,ac,rfl,λj y h=>by simp at h⟩
  (λi ys σ' H' h=>by have:=h.2.2.2.1;omega) (λi ys σ' H' hi h=>go i H' hi h.2.1) (λys σ' H' h=>⟨stop H' h.2.1,fin ys H' h.2.1 h.2.2.1 h.2.2.2.1 h.2.2.2.2⟩) (λi ys σ' H' hi h x H2 hy=>?_) ?_ me
 ·obtain⟨⟨o,rfl⟩,s1,hl,hlen,hrs⟩:=h;obtain⟨rfl,ht⟩:=step i H' x H2 hi s1 ⟨ys,hl⟩ hy;refine me _ _ _ _ (λy H4 h4=>?_) ht;obtain⟨s4,r4⟩:=h4;refine⟨s4 _ _ hl,⟨some x,rfl⟩,aI hp (s1.trans s4),ac,by rw[length_append,hlen];rfl,λj z hz=>?_⟩;have ex:Ext p H2 (upd H4 p (.lst (ys++[y]))):=(Ext.of s4).trans Ext.upd
  by_cases hj:j<ys.length
  ·rw[getElem?_append_left hj]at hz;exact hR _ _ _ _ (hrs j z hz) ex
  ·rw[getElem?_append_right (by omega)]at hz;have hj':j-ys.length=0:=by
    cases e:j-ys.length with
    |zero=>rfl
    |succ m=>rw[e]at hz;simp at hz
   rw[hj']at hz;have ez:y=z:=by simpa using hz
   subst ez;have ej:j=i:=by omega
   subst ej;exact hR _ _ _ _ r4 Ext.upd
 ·intro _ _ _ _ _ m q;exact m _ _ q
theorem gU{H:Hp}{p q:Addr}(hp:∃ys,H p=some (.lst ys))(hq:H q=none):q≠p:=λe=>by
 obtain⟨ys,h⟩:=hp;rw[←e,hq]at h;cases h
section
variable{X:Cx}{N:List Str}{scope:Scope}{cl:List (Str×Addr)}{k:Nat}{js:List Nat}
theorem qC{elt tg iter:Expr}{oc:Option Expr}{pos spos py:Pos}{y:Str}{ii:Nat}{wi:TI}{g:TG}{tc:TT}{te:TE}{Lw:St→VK→It→Hp→Addr→Prop}(hL:∀{σ Q} J H1 p,Lw σ Q J H1 p→nU k js g tc te σ Q J H1 p)(hXN:X.N.Nodup)(hii:X.N[ii]?=some y)(hx:Loc X.env.scope y)(hc:X.calm=true)(L:LcOk X scope cl)(hN:N.length=k+js.length)(hj:∀(i j:Nat) x,js[i]?=some j→N[k+i]?=some x→X.N[j]?=some x∧Vis X.env.scope x∧X.env.scope.names.lookup x≠some .local∧((relabel scope X.env).names.lookup x=some .cell∨(relabel scope X.env).names.lookup x=some .free))(hi:PI X tg iter wi)(hg:∀s H fp,PG (bR X N scope cl s H fp) tg g)(ht:∀s H fp,ocT (bR X N scope cl s H fp) oc tc)(he:∀s H fp,PE (bR X N scope cl s H fp) elt te)(hs:∀x,foldedSetIterable iter X.env x=pure x)(hsw:swapsWith (.ListComp elt [⟨tg,iter,oc.toList,0⟩] scope pos) (some (.Name y py)) spos.line X.env=pure true)(hf:X.fn y=true∨X.env.scope.names.lookup y=some .local):PS X (.Assign [.Name y py] (.ListComp elt [⟨tg,iter,oc.toList,0⟩] scope pos) spos) (tU (λσ H Q=>wi σ H λJ H1=>∀p,H1 p=none→Lw σ Q J H1 p) (bn ii)):=by
 intro pins s σ H D I h;rw[exec_Assign_Name_used _ _ _ _ hsw];refine wpAny_bind (wpAny_standAt (wpAny_bind ?_));show wpAny _ X.A (do let _ ← comprehension (.ListComp elt [⟨tg,iter,oc.toList,0⟩] scope pos) scope X.env _ (newList []) false (eval iter X.env) (some (assign (.Name y py) X.env))) _ _ s
 refine wpAny_bind (wpAny_mono (oW (Qc:=λ_ s'=>∃σ' H',Inv X pins σ' H' s'∧D.nx σ' H') hc L hN hj hi hg ht he hs hL I h λ{s0 s4 Hx H3 σ4 fp p} I3 f3 J4 qn=>?_) (λ_ s' hq=>wpAny_pure (wpAny_pure hq)) λ_ _ e=>e);obtain⟨m,hm,_⟩:=J4.loc;have I4:Inv X pins σ H3 s4:=rD I3 f3 J4 (SameBut.refl _ _);obtain⟨f0,f1,f2,f3',f4,f5⟩:=I3.fpOk (b:=s0.heap.objs.size) (le_refl _) (H':=H3) J4.free;show wpAny _ _ (assign (.Name y py) X.env (.ref p)) _ _ _;refine wpAny_assign_Name (jK I4 hXN hii hx (v:=.ref p) rfl (λs5 I5 ⟨a,sb,ha⟩=>⟨m,hm.sameBut sb ?_,λh' hs'=>⟨_,H3,I5.turned (t':=s5.toks) (λb o hb e=>(hs'.2 b hb).trans e) f0 f1 f3' f4 f5,qn⟩⟩) hf);rcases ha with e|e
 ·rw[e];exact f1
 ·exact λz=>f4 _ _ e z.symm
theorem eU{elt tg iter c:Expr}{pos spos py:Pos}{y:Str}{ii:Nat}{wi:TI}{g:TG}{tc:TT}{te:TE}(hXN:X.N.Nodup)(hii:X.N[ii]?=some y)(hx:Loc X.env.scope y)(hc:X.calm=true)(L:LcOk X scope cl)(hN:N.length=k+js.length)(hj:∀(i j:Nat) x,js[i]?=some j→N[k+i]?=some x→X.N[j]?=some x∧Vis X.env.scope x∧X.env.scope.names.lookup x≠some .local∧((relabel scope X.env).names.lookup x=some .cell∨(relabel scope X.env).names.lookup x=some .free))(hi:PI X tg iter wi)(hg:∀s H fp,PG (bR X N scope cl s H fp) tg g)(ht:∀s H fp,PT (bR X N scope cl s H fp) c tc)(he:∀s H fp,PE (bR X N scope cl s H fp) elt te)(hs:∀x,foldedSetIterable iter X.env x=pure x:=by intro _;rfl)(hsw:swapsWith (.ListComp elt [⟨tg,iter,[c],0⟩] scope pos) (some (.Name y py)) spos.line X.env=pure true:=by rfl)(hf:X.fn y=true∨X.env.scope.names.lookup y=some .local:=by first|exact .inl rfl|exact .inr rfl|assumption):PS X (.Assign [.Name y py] (.ListComp elt [⟨tg,iter,[c],0⟩] scope pos) spos) (tU (xY k js wi g tc te) (bn ii)):=qC (oc:=some c) (λ_ _ _ h=>h) hXN hii hx hc L hN hj hi hg ht he hs hsw hf
end
abbrev TJ:=St→Hp→(Hp→Prop)→Prop
section
variable{X:Cx}{tg:Expr}
def PJ(X:Cx)(ps:List Expr)(b:Nat)(t:TJ):Prop :=
 ∀(out:Str)(pins:List (Addr×Obj))(s:Shared)(σ:St)(H:Hp)(Q:VK),Inv X pins σ H s→out.length+b≤1000→(t σ H λH1=>∀y,Q (.str y) H1)→wpAny (model X.prog X.w) X.A (joinParts out (evalEach ps X.env)) (EP X pins σ Q) X.xe s
theorem gW:PJ X [] 0 (λσ H k=>k H):=by
 intro out pins s σ H Q I hb h;exact joinParts_nilE (joinParts_nil ⟨.str _,H,I.tok _,⟨_,rfl⟩,h _⟩ (le_of_lt (ay (by omega))))
theorem cS{x:Str}{c b:Nat}{j:Nat}{p:Pos}{ps:List Expr}{t:TJ}(hx:x.length≤c)(h:PJ X ps b t):PJ X (.Constant (.str x) j p::ps) (c+b) t:=by
 intro out pins s σ H Q I hb hq;refine joinParts_cons (Calls.Constant_str ?_);have hl:(out++x).length=out.length+x.length:=strLen_append ..;exact⟨le_of_lt (ay (by omega)),h _ pins _ σ H Q (I.tok _) (by omega) hq⟩
theorem wH{e:Expr}{te:TE}{b:Nat}{p:Pos}{ps:List Expr}{t:TJ}(he:PE X e te)(h:PJ X ps b t):PJ X (.FormattedValue e (-1) none p::ps) (100+b) (λσ H k=>te σ H λv H1=>∃x:Str,v=.str x∧x.length≤100∧t σ H1 k):=by
 intro out pins s σ H Q I hb hq;refine joinParts_cons (FormattedValue_plain (thn (he pins _ σ H _ I hq) λv s1 hpt=>?_));obtain⟨y,H1,I1,r1,q1⟩:=hpt;obtain⟨x,rfl,h2,q⟩:=q1;obtain⟨tk,rfl⟩:=r1;have hl:(out++x).length=out.length+x.length:=strLen_append ..;refine formatField_str (λt' tk=>⟨le_of_lt (ay (by omega)),?_⟩) (le_of_lt (ay (by omega)));exact h _ pins _ σ H1 Q (I1.tok _) (by omega) q
def yd(t:TJ):TE:=λσ H Q=>t σ H λH1=>∀y,Q (.str y) H1
theorem eV{p1 p2:Expr}{ps:List Expr}{pos:Pos}{b:Nat}{t:TJ}(h:PJ X (p1::p2::ps) b t)(hb:b≤1000):PE X (.JoinedStr (p1::p2::ps) pos) (yd t):=by
 intro pins s σ H Q I hq;exact JoinedStr_many (h empty pins s σ H Q I (by show 0+b≤1000;omega) hq)
theorem zd{E:XK}(L:Lv X E):PassesOwn (model X.prog X.w) X.A X.env X.xe:=by
 rw[L.xe];exact PassesOwn.leaving
theorem jg(hu:X.A.units+1<cLine):OpR X (compareOp .In) (λx y H Q=>∃a p ks,∃kss:List (Addr×List Key),x=.ref a∧H a=some (.tup (ks.map kV))∧y=.ref p∧SqL X.K H p ((kss.map (·.1)).map V.ref) ∧
  (∀z∈kss,H z.1=some (.tup (z.2.map kV)))∧Q (.bl (kss.any λz=>decide (z.2=ks))) H):=by
 intro pins s σ H x y v u Q I rx ry h;obtain⟨a,p,ks,kss,rfl,ha,rfl,hq,hk,q⟩:=h;cases rx;cases ry;obtain⟨its,rv,pl,hz⟩:=I.list hq;have e:=cj rv;subst e
 let e:Value→Bool:=λv=>match v with | .ref b=>((kss.find? λz=>z.1==b).map λz=>decide (z.2=ks)).getD false | _=>false
 have he:∀z∈kss,e (.ref z.1)=decide (z.2=ks):=λz hz'=>by
  show((kss.find? λy=>y.1==z.1).map λz=>decide (z.2=ks)).getD false=_;cases ef:kss.find? λy=>y.1==z.1 with
  |none=>have:=List.find?_eq_none.mp ef z hz';simp at this
  |some y =>
   have h1:=find?_some ef;have h2:=List.mem_of_find?_eq_some ef;have e1:y.1=z.1:=by simpa using h1
   have e2:=hk y h2;rw[e1,hk z hz']at e2;have e3:z.2.map kV=y.2.map kV:=by injection (Option.some.inj e2)
   rw[kO e3];rfl
 refine in_listAt e pl.isList (λy hy=>?_) ⟨.bl _,H,I,rfl,?_⟩
 ·have hy':y∈(kss.map (·.1)).map Value.ref:=by simpa using hy
  obtain⟨b,hb,rfl⟩:=mem_map.mp hy';obtain⟨z,hz',rfl⟩:=mem_map.mp hb;rw[he z hz'];intro prog w E' Q' hQ;exact wpAny_eqBool_tuple (knd:=ap prog w) (by simp;exact hu) (lX I (hk z hz') prog w) (lX I ha prog w) hQ
 ·have e1:(((kss.map (·.1)).map Value.ref).toArray.any e)=kss.any λz=>decide (z.2=ks):=by
   rw[List.any_toArray,any_map,any_map];apply Bool.eq_iff_iff.mpr;rw[any_eq_true,any_eq_true];constructor
   ·rintro⟨z,hz',h1⟩;exact⟨z,hz',by rw[←he z hz'];exact h1⟩
   ·rintro⟨z,hz',h1⟩;exact⟨z,hz',by show e (.ref z.1)=true;rw[he z hz'];exact h1⟩
  rw[e1];exact q
theorem wI(hu:X.A.units+4<cLine):OpR X (compareOp .Eq) (λx y H Q=>rEq x y H Q∨(∃a b xs ys,x=.ref a∧y=.ref b∧ml H xs ys∧((H a=some (.lst xs)∧H b=some (.lst ys))∨(H a=some (.tup xs)∧H b=some (.tup ys)))∧Q (.bl true) H)):=by
 intro pins s σ H x y v u Q I rx ry h;rcases h with h|⟨a,b,xs,ys,rfl,rfl,hx,h,q⟩
 ·exact eD pins s σ H x y v u Q I rx ry h
 ·cases rx;cases ry;rcases h with⟨ha,hb⟩|⟨ha,hb⟩
  ·obtain⟨_,us,n1,r1,o1⟩:=I.hok a _ ha;obtain⟨_,ws,n2,r2,o2⟩:=I.hok b _ hb;have hl:=hx.1;have l1:=r1.length;have l2:=r2.length;refine eq_listAt (e:=λ_=>true) ⟨_,o1,rfl,n1,rfl⟩ ⟨_,o2,rfl,n2,rfl⟩ (by simp only[size_toArray];omega) (by omega) (mm I r1 r2 hx (by simp[Around.in1_units];omega)) ⟨.bl true,H,I,?_,q⟩;show _=Value.bool true;simp
  ·obtain⟨_,us,r1,t1⟩:=I.hok a _ ha;obtain⟨_,ws,r2,t2⟩:=I.hok b _ hb;have hl:=hx.1;have l1:=r1.length;have l2:=r2.length;refine SeqAt.eq_tupleAt (e:=λ_=>true) t1 t2 (by omega) (mm I r1 r2 hx (by simp[Around.in1_units];omega)) ⟨.bl true,H,I,?_,q⟩;show _=Value.bool true;have:us.toArray.size=ws.toArray.size:=by simp only[size_toArray];omega
   simp[this]
end
theorem Same.seqT{K:PySem.W.Frag}{H H':Hp}{a:Addr}{xs:List V}(e:Same H H')(h:SqT K H a xs):SqT K H' a xs:=by
 rcases h with (h|⟨o,h⟩)|h
 ·exact .inl (.inl (e _ _ h))
 ·exact .inl (.inr ⟨o,e _ _ h⟩)
 ·exact .inr h
structure Src(J:It)(H1:Hp)(xs:List V):Prop where
 go:∀i H',i<xs.length→Same H1 H'→J.go i H'
 stop:∀H',Same H1 H'→J.stop xs.length H'
 yl:∀i H' x H2,i<xs.length→Same H1 H'→J.yld i H' x H2→H2=H'∧xs[i]?=some x
theorem li{K:PySem.W.Frag}{a:Addr}{xs:List V}{H1:Hp}(h:SqT K H1 a xs):Src (Itt K a) H1 xs :=
 ⟨λi H' hi s=>⟨xs,xs[i],s.seqT h,getElem?_eq_getElem hi⟩,λH' s=>⟨xs,s.seqT h,le_refl _⟩,λi H' x H2 _ s ⟨e,y⟩=>⟨e,y xs (by subst e;exact s.seqT h)⟩⟩
theorem dO{K:PySem.W.Frag}{a:Addr}{xs:List V}{H1:Hp}(h:SqL K H1 a xs):Src (Itl K a) H1 xs :=
 ⟨λi H' hi s=>⟨xs,xs[i],s.seq h,getElem?_eq_getElem hi⟩,λH' s=>⟨xs,s.seq h,le_refl _⟩,λi H' x H2 _ s ⟨e,y⟩=>⟨e,y xs (by subst e;exact s.seq h)⟩⟩
theorem Paired.snoc{α β:Type}{R:α→β→Prop}:∀{as:List α}{bs:List β}{a:α}{b:β},Paired R as bs→R a b→Paired R (as++[a]) (bs++[b])
 |_,_,_,_,.nil,h=>.cons h .nil
 |_,_,_,_,.cons r t,h=>.cons r (Paired.snoc t h)
theorem jh{α:Type}{js:List Nat}{J:It}{tc:TT}{te:TE}{σ:St}{H1:Hp}{Q:VK}{p:Addr}{fr:List (Option V)}(zs:List α)(val:α→V)(hn:zs.length≤1000)(hp:H1 p=none)(S:Src J H1 (zs.map val))(hfr:cp 1 js σ=none::fr)(g:α→Bool)(R:α→V→Hp→Prop)(hR:∀z y H H',R z y H→Ext p H H'→R z y H')(cond:∀z H' (k:Bool→Hp→Prop),z∈zs→Same H1 H'→(∃ys,H' p=some (.lst ys))→(∀H4,Same H' H4→k (g z) H4)→tc (some (val z)::fr) H' k)(elt:∀z H' (k:VK),z∈zs→g z=true→Same H1 H'→(∃ys,H' p=some (.lst ys))→(∀y H4,Same H' H4→R z y H4→k y H4)→te (some (val z)::fr) H' k)(fin:∀ys H',Same H1 H'→H' p=some (.lst ys)→Paired (λz y=>R z y H') (zs.filter g) ys→Q (.ref p) H'):nU 1 js (bn 0) tc te σ Q J H1 p:=by
 have grow:∀{as:List α}{ys:List V}{H H':Hp},Ext p H H'→Paired (λz y=>R z y H) as ys→Paired (λz y=>R z y H') as ys:=λex r=>Paired.mapP r λa b h=>hR a b _ _ h ex;have hlen:∀{as:List α}{ys:List V}{H:Hp},Paired (λz y=>R z y H) as ys→ys.length=as.length:=λr=>(Paired.length r).symm;refine⟨λi m ys σ' H'=>m=zs.length-i∧i≤zs.length∧(∃o,σ'=o::fr)∧Same H1 H'∧H' p=some (.lst ys)∧Paired (λz y=>R z y H') ((zs.take i).filter g) ys,⟨zs.length,by simp,zero_le _,⟨none,hfr⟩,ae hp,ac,.nil⟩,?_⟩;rintro i m ys σ' H' ⟨rfl,hi,⟨o,rfl⟩,s1,hl,hys⟩
 by_cases hlt:i<zs.length
 ·have hlt':i<(zs.map val).length:=by rw[length_map];exact hlt
  refine .inr ⟨S.go i H' hlt' s1,?_,λx H2 hy=>?_⟩
  ·have h1:ys.length≤zs.length:=by
    rw[hlen hys];exact le_trans (length_filter_le _ _) (by rw[length_take];omega)
   exact lt_of_le_of_lt h1 (ay hn)
  ·obtain⟨rfl,hx⟩:=S.yl i H' x H2 hlt' s1 hy;have gz:zs[i]?=some zs[i]:=getElem?_eq_getElem hlt;have mz:=mem_of_getElem? gz;rw[getElem?_map,gz]at hx;have ex:val zs[i]=x:=Option.some.inj hx;have et:zs.take (i+1)=zs.take i++[zs[i]]:=aP gz;subst ex;generalize zs[i]=z at gz mz et⊢;refine cond z H2 _ mz s1 ⟨ys,hl⟩ λH4 s4=>?_;cases hb:g z with
   |true =>
    rw[if_pos rfl];refine elt z H4 _ mz hb (s1.trans s4) ⟨ys,s4 _ _ hl⟩ λy H5 s5 r5=>⟨s5 _ _ (s4 _ _ hl),zs.length-(i+1),by omega,rfl,hlt,⟨_,rfl⟩,aI hp ((s1.trans s4).trans s5),ac,?_⟩;rw[et,filter_append,filter_cons_of_pos hb];exact Paired.snoc (grow ((Ext.of (s4.trans s5)).trans Ext.upd) hys) (hR _ _ _ _ r5 Ext.upd)
   |false =>
    rw[if_neg (by simp)];refine⟨zs.length-(i+1),by omega,rfl,hlt,⟨_,rfl⟩,s1.trans s4,s4 _ _ hl,?_⟩;rw[et,filter_append,filter_cons_of_neg (by simp[hb]),filter_nil,append_nil];exact grow (Ext.of s4) hys
 ·have e:i=zs.length:=by omega
  subst e;have st:=S.stop H' s1;rw[length_map]at st;refine .inl ⟨st,fin ys H' s1 hl ?_⟩;rw[take_length]at hys;exact hys
theorem gy{α:Type}{js:List Nat}{J:It}{te:TE}{σ:St}{H1:Hp}{Q:VK}{p:Addr}{fr:List (Option V)}(zs:List α)(val:α→V)(hn:zs.length≤1000)(hp:H1 p=none)(S:Src J H1 (zs.map val))(hfr:cp 1 js σ=none::fr)(R:α→V→Hp→Prop)(hR:∀z y H H',R z y H→Ext p H H'→R z y H')(elt:∀z H' (k:VK),z∈zs→Same H1 H'→(∃ys,H' p=some (.lst ys))→(∀y H4,Same H' H4→R z y H4→k y H4)→te (some (val z)::fr) H' k)(fin:∀ys H',Same H1 H'→H' p=some (.lst ys)→Paired (λz y=>R z y H') zs ys→Q (.ref p) H'):LcW 1 js (bn 0) te σ Q J H1 p:=by
 have grow:∀{as:List α}{ys:List V}{H H':Hp},Ext p H H'→Paired (λz y=>R z y H) as ys→Paired (λz y=>R z y H') as ys:=λex r=>Paired.mapP r λa b h=>hR a b _ _ h ex;have hlen:∀{as:List α}{ys:List V}{H:Hp},Paired (λz y=>R z y H) as ys→ys.length=as.length:=λr=>(Paired.length r).symm;refine⟨λi m ys σ' H'=>m=zs.length-i∧i≤zs.length∧(∃o,σ'=o::fr)∧Same H1 H'∧H' p=some (.lst ys)∧Paired (λz y=>R z y H') (zs.take i) ys,⟨zs.length,by simp,zero_le _,⟨none,hfr⟩,ae hp,ac,.nil⟩,?_⟩;rintro i m ys σ' H' ⟨rfl,hi,⟨o,rfl⟩,s1,hl,hys⟩
 by_cases hlt:i<zs.length
 ·have hlt':i<(zs.map val).length:=by rw[length_map];exact hlt
  refine .inr ⟨S.go i H' hlt' s1,?_,λx H2 hy=>?_⟩
  ·have h1:ys.length≤zs.length:=by
    rw[hlen hys,length_take];omega
   exact lt_of_le_of_lt h1 (ay hn)
  ·obtain⟨rfl,hx⟩:=S.yl i H' x H2 hlt' s1 hy;have gz:zs[i]?=some zs[i]:=getElem?_eq_getElem hlt;have mz:=mem_of_getElem? gz;rw[getElem?_map,gz]at hx;have ex:val zs[i]=x:=Option.some.inj hx;have et:zs.take (i+1)=zs.take i++[zs[i]]:=aP gz;subst ex;generalize zs[i]=z at gz mz et⊢;refine elt z H2 _ mz s1 ⟨ys,hl⟩ λy H5 s5 r5=>⟨s5 _ _ hl,zs.length-(i+1),by omega,rfl,hlt,⟨_,rfl⟩,aI hp (s1.trans s5),ac,?_⟩;rw[et];exact Paired.snoc (grow ((Ext.of s5).trans Ext.upd) hys) (hR _ _ _ _ r5 Ext.upd)
 ·have e:i=zs.length:=by omega
  subst e;have st:=S.stop H' s1;rw[length_map]at st;refine .inl ⟨st,fin ys H' s1 hl ?_⟩;rw[take_length]at hys;exact hys
theorem eW{α β:Type}{R:α→V→Prop}{val:β→V}{S:α→β→Prop}{zs:List α}{ys:List V}(h:Paired R zs ys)(f:∀z y,z∈zs→R z y→∃b,y=val b∧S z b):
  ∃bs:List (α×β),bs.map (·.1)=zs∧ys=bs.map (λx=>val x.2)∧∀x∈bs,S x.1 x.2:=by
 induction h with
 |nil=>exact⟨[],rfl,rfl,by simp⟩
 |@cons a y as bs r _ ih =>
  obtain⟨cs,e1,e2,e3⟩:=ih λz y hz=>f z y (by simp[hz]);obtain⟨b,e,s⟩:=f _ _ (by simp) r;refine⟨(a,b)::cs,by rw[map_cons,e1],by rw[map_cons,←e2,e],λx hx=>?_⟩;rcases mem_cons.mp hx with rfl|hx
  ·exact s
  ·exact e3 x hx
theorem bY{α:Type}{R:α→V→Prop}{f:α→V}{zs:List α}{ys:List V}(h:Paired R zs ys)(hf:∀z y,z∈zs→R z y→y=f z):ys=zs.map f:=by
 induction h with
 |nil=>rfl
 |cons r _ ih=>rw[map_cons,←ih λz y hz=>hf z y (by simp[hz]),hf _ _ (by simp) r]
theorem uB(p:Int)(ms:List Int):inV (.int p) (ms.map V.int)=decide (p∈ms):=by
 unfold inV;rw[any_map,Bool.eq_iff_iff,any_eq_true,decide_eq_true_eq];constructor
 ·rintro⟨x,hx,e⟩;have:x=p:=by simpa [eqV]using e
  rw[←this];exact hx
 ·intro h;exact⟨p,h,by simp[eqV]⟩
theorem qD(ms:List Int):(ms.map V.int).all cF=true:=by
 rw[List.all_map,all_eq_true];intro x _;rfl
theorem pc{X:Cx}:iQ (CX1 X.prog X.w) X E0:=λ_ _ _ _ _ _ _ ⟨_,_,_,_,_,h⟩=>h.elim
end L2
namespace TW
structure Nd(S:Type) where
 num:Int
 par:Int
 nm:S
 st:Option Int
section
variable{S:Type}
inductive Reach(ns:List (Nd S))(f:Int):Nd S→Prop where
 |base {n:Nd S}:n∈ns→n.par=f→Reach ns f n
 |step {m n:Nd S}:Reach ns f m→m.st=none→n∈ns→n.par=m.num→Reach ns f n
theorem Reach.mem{ns:List (Nd S)}{f:Int}{n:Nd S}(h:Reach ns f n):n∈ns:=by
 cases h<;>assumption
theorem Reach.mono{ns ms:List (Nd S)}{f:Int}{n:Nd S}(h:Reach ns f n)(hs:∀x∈ns,x∈ms):Reach ms f n:=by
 induction h with
 |base hm hp=>exact .base (hs _ hm) hp
 |step _ hf hm hp ih=>exact .step ih hf (hs _ hm) hp
def inside(ns:List (Nd S))(k:Int):List (Nd S):=ns.filter λn=>decide (n.par=k)
def eE(dn:List Int)(n:Nd S):Bool:=decide (n.par∈dn)
structure Walk(ns:List (Nd S))(f:Int)(dn:List Int)(fd:List (Nd S))(pd:List Int):Prop where
 perm:fd.Perm (ns.filter (eE dn))
 reach:∀n∈fd,Reach ns f n
 cover:∀k,(k∈pd∨k∈dn)↔(k=f∨∃m∈fd,m.st=none∧m.num=k)
theorem Walk.start(ns:List (Nd S))(f:Int):Walk ns f [] [] [f]:=by
 refine⟨?_,by simp,λk=>by simp⟩;have e:ns.filter (eE [])=[]:=by
  rw[List.filter_eq_nil_iff];intro a _;simp[eE]
 rw[e]
theorem eP{α:Type}(p q:α→Bool)(hd:∀x,p x=true→q x=true→False):∀l:List α,
  (l.filter p++l.filter q).Perm (l.filter λx=>p x||q x)
 |[]=>by simp
 |x::l=>by
  have ih:=eP p q hd l;cases hp:p x with
  |true =>
   have hq:q x=false:=by
    cases h:q x with
    |false=>rfl
    |true=>exact(hd x hp h).elim
   rw[filter_cons_of_pos hp,filter_cons_of_neg (by simp[hq]),filter_cons_of_pos (by simp[hp])];exact List.Perm.cons x ih
  |false =>
   cases hq:q x with
   |true =>
    rw[filter_cons_of_neg (by simp[hp]),filter_cons_of_pos hq,filter_cons_of_pos (by simp[hq])];exact List.perm_middle.trans (List.Perm.cons x ih)
   |false =>
    rw[filter_cons_of_neg (by simp[hp]),filter_cons_of_neg (by simp[hq]),filter_cons_of_neg (by simp[hp,hq])];exact ih
def here(ns:List (Nd S))(dn:List Int)(x:Int):List (Nd S):=if x∈dn then []else inside ns x
def aF(l:List (Nd S)):List Int:=(l.filter λn=>n.st.isNone).map (·.num)
theorem ik{l:List (Nd S)}{k:Int}:k∈aF l↔∃m∈l,m.st=none∧m.num=k:=by
 unfold aF;rw[mem_map];constructor
 ·rintro⟨m,hm,e⟩;rw[mem_filter]at hm;exact⟨m,hm.1,by simpa using hm.2,e⟩
 ·rintro⟨m,hm,h,e⟩;exact⟨m,mem_filter.mpr ⟨hm,by simp[h]⟩,e⟩
theorem Walk.turn{ns:List (Nd S)}{f x:Int}{dn:List Int}{fd:List (Nd S)}{pd:List Int}(w:Walk ns f dn fd (pd++[x])):
  Walk ns f (x::dn) (fd++here ns dn x) (pd++aF (here ns dn x)):=by
 have hx:=(w.cover x).mp (.inl (by simp))
 by_cases hd:x∈dn
 ·have eh:here ns dn x=[]:=by unfold here;rw[if_pos hd]
  rw[eh];refine⟨?_,by simpa using w.reach,λk=>?_⟩
  ·have e:ns.filter (eE (x::dn))=ns.filter (eE dn):=by
    apply List.filter_congr;intro n _;simp only[eE,mem_cons,decide_eq_decide];constructor
    ·rintro(h|h)
     ·rw[h];exact hd
     ·exact h
    ·exact .inr
   rw[e,append_nil];exact w.perm
  ·have c:=w.cover k;rw[append_nil,←c];simp only[aF,filter_nil,map_nil,append_nil,mem_append,mem_cons,not_mem_nil,or_false];constructor
   ·rintro(h|h|h)
    ·exact .inl (.inl h)
    ·exact .inl (.inr h)
    ·exact .inr h
   ·rintro((h|h)|h)
    ·exact .inl h
    ·exact .inr (.inl h)
    ·exact .inr (.inr h)
 ·have eh:here ns dn x=inside ns x:=by unfold here;rw[if_neg hd]
  rw[eh];refine⟨?_,λn hn=>?_,λk=>?_⟩
  ·have e:ns.filter (eE (x::dn))=ns.filter λn=>eE dn n||decide (n.par=x):=by
    apply List.filter_congr;intro n _;rw[Bool.eq_iff_iff];simp only[eE,mem_cons,decide_eq_true_eq,Bool.or_eq_true];constructor
    ·rintro(h|h)
     ·exact .inr h
     ·exact .inl h
    ·rintro(h|h)
     ·exact .inr h
     ·exact .inl h
   rw[e];refine(List.Perm.append_right _ w.perm).trans (eP _ _ (λy h1 h2=>?_) ns);simp only[eE,decide_eq_true_eq]at h1 h2;rw[h2]at h1;exact hd h1
  ·rcases mem_append.mp hn with h|h
   ·exact w.reach n h
   ·unfold inside at h;rw[mem_filter]at h;obtain⟨hm,hp⟩:=h;simp only[decide_eq_true_eq]at hp;rcases hx with e|⟨m,hm',hf,e⟩
    ·exact .base hm (hp.trans e)
    ·exact .step (w.reach m hm') hf hm (hp.trans e.symm)
  ·have c:=w.cover k;simp only[mem_append,mem_cons,not_mem_nil,or_false]at c⊢;rw[ik];constructor
   ·rintro((h|⟨m,hm,h1,h2⟩)|h|h)
    ·rcases c.mp (.inl (.inl h))with e|⟨m,hm,z⟩
     ·exact .inl e
     ·exact .inr ⟨m,.inl hm,z⟩
    ·exact .inr ⟨m,.inr hm,h1,h2⟩
    ·rcases c.mp (.inl (.inr h))with e|⟨m,hm,z⟩
     ·exact .inl e
     ·exact .inr ⟨m,.inl hm,z⟩
    ·rcases c.mp (.inr h)with e|⟨m,hm,z⟩
     ·exact .inl e
     ·exact .inr ⟨m,.inl hm,z⟩
   ·rintro(e|⟨m,hm|hm,z⟩)
    ·rcases c.mpr (.inl e)with (h|h)|h
     ·exact .inl (.inl h)
     ·exact .inr (.inl h)
     ·exact .inr (.inr h)
    ·rcases c.mpr (.inr ⟨m,hm,z⟩)with (h|h)|h
     ·exact .inl (.inl h)
     ·exact .inr (.inl h)
     ·exact .inr (.inr h)
    ·exact .inl (.inr ⟨m,hm,z⟩)
theorem Walk.len{ns:List (Nd S)}{f:Int}{dn:List Int}{fd:List (Nd S)}{pd:List Int}(w:Walk ns f dn fd pd):fd.length≤ns.length:=by
 rw[w.perm.length_eq];exact length_filter_le _ _
theorem dg(l:List (Nd S)):(aF l).length≤l.length:=by
 unfold aF;rw[length_map];exact length_filter_le _ _
theorem Walk.mem{ns:List (Nd S)}{f:Int}{dn:List Int}{fd:List (Nd S)}(w:Walk ns f dn fd [])(n:Nd S):n∈fd↔Reach ns f n:=by
 constructor
 ·exact w.reach n
 ·have cov:∀k,(k=f∨∃m∈fd,m.st=none∧m.num=k)→k∈dn:=λk h=>by
   rcases (w.cover k).mpr h with z|z
   ·simp at z
   ·exact z
  have back:∀x,x∈ns→x.par∈dn→x∈fd:=λx hx hp=>w.perm.mem_iff.mpr (mem_filter.mpr ⟨hx,by simp[eE,hp]⟩);intro h
  induction h with
  |base hm hp=>exact back _ hm (cov _ (.inl hp))
  |step _ hf hm hp ih=>exact back _ hm (cov _ (.inr ⟨_,ih,hf,hp.symm⟩))
def eQ(ns:List (Nd S)):Prop:=ns.Pairwise λa b=>a.num<b.num
def cn(ns:List (Nd S)):Prop:=(ns.map λn=>(n.par,n.nm)).Nodup
structure Tree(ns:List (Nd S)):Prop where
 rise:eQ ns
 own:cn ns
 down:∀n∈ns,Reach ns 0 n
inductive Built:List (Nd S)→Prop where
 |nil:Built []
 |snoc {l:List (Nd S)} {n:Nd S}:Built l→(n.par=0∨∃m∈l,m.st=none∧m.num=n.par)→Built (l++[n])
theorem Built.down{l:List (Nd S)}(b:Built l):∀n∈l,Reach l 0 n:=by
 induction b with
 |nil=>simp
 |@snoc l n b h ih =>
  intro x hx;have up:∀y∈l,y∈l++[n]:=λy hy=>mem_append_left _ hy;rcases mem_append.mp hx with hx|hx
  ·exact(ih x hx).mono up
  ·have e:x=n:=by simpa using hx
   subst e;rcases h with h|⟨m,hm,hf,he⟩
   ·exact .base (by simp) h
   ·exact .step ((ih m hm).mono up) hf (by simp) he.symm
theorem uC{l t:List (Nd S)}(b:Built l)(p:t.Perm l)(hr:t.Pairwise λa b=>a.num≤b.num)(hn:(l.map (·.num)).Nodup)(ho:cn l):Tree t:=by
 refine⟨?_,?_,λn hn'=>?_⟩
 ·have hn':(t.map (·.num)).Nodup:=((p.map _).nodup_iff).mpr hn;unfold Nodup at hn';rw[pairwise_map]at hn';unfold eQ;exact hr.imp₂ (λa b h1 h2=>by omega) hn'
 ·unfold cn;exact((p.map _).nodup_iff).mpr ho
 ·exact(b.down n (p.mem_iff.mp hn')).mono λx hx=>p.mem_iff.mpr hx
theorem rT{t:List (Nd S)}(h:eQ t){a b:Nd S}(ha:a∈t)(hb:b∈t)(e:a.num=b.num):a=b:=by
 unfold eQ at h
 induction t with
 |nil=>simp at ha
 |cons x r ih =>
  rw[pairwise_cons]at h;rcases mem_cons.mp ha with ea|ha'
  ·rcases mem_cons.mp hb with eb|hb'
   ·rw[ea,eb]
   ·have:=h.1 b hb';rw[←ea]at this;omega
  ·rcases mem_cons.mp hb with eb|hb'
   ·have:=h.1 a ha';rw[←eb]at this;omega
   ·exact ih h.2 ha' hb'
end
end TW
namespace TW
section
variable{S:Type}
inductive PathTo(ns:List (Nd S)):Int→List S→Prop where
 |top:PathTo ns 0 []
 |node {n:Nd S} {p:List S}:n∈ns→PathTo ns n.par p→PathTo ns n.num (p++[n.nm])
structure Tree1(ns:List (Nd S)):Prop extends Tree ns where
 pos:∀n∈ns,1≤n.num
theorem Tree1.inj{ns:List (Nd S)}(T:Tree1 ns){a b:Nd S}(ha:a∈ns)(hb:b∈ns)(e:a.num=b.num):a=b:=rT T.rise ha hb e
theorem PathTo.zero{ns:List (Nd S)}(T:Tree1 ns){k:Int}{p:List S}(h:PathTo ns k p)(e:k=0):p=[]:=by
 cases h with
 |top=>rfl
 |@node n p hm _=>have:=T.pos n hm;omega
theorem PathTo.inv{ns:List (Nd S)}(T:Tree1 ns){k:Int}{p:List S}(h:PathTo ns k p){n:Nd S}(hn:n∈ns)(e:k=n.num):∃q,p=q++[n.nm]∧PathTo ns n.par q:=by
 cases h with
 |top=>have:=T.pos n hn;omega
 |@node m q hm hq =>
  have:m=n:=T.inj hm hn e;subst this;exact⟨q,rfl,hq⟩
theorem PathTo.uniq{ns:List (Nd S)}(T:Tree1 ns){k:Int}{p:List S}(h:PathTo ns k p):∀{q:List S},PathTo ns k q→p=q:=by
 induction h with
 |top=>intro q hq;exact(hq.zero T rfl).symm
 |@node n p hm _ ih =>
  intro q hq;obtain⟨q',e,hq'⟩:=hq.inv T hm rfl;rw[e,ih hq']
theorem PathTo.ex{ns:List (Nd S)}(T:Tree1 ns){n:Nd S}(hn:n∈ns):∃p,PathTo ns n.num p:=by
 have key:∀x,Reach ns 0 x→∃p,PathTo ns x.num p:=by
  intro x r
  induction r with
  |base hm hp=>exact⟨_,.node hm (by rw[hp];exact .top)⟩
  |step _ _ hm hp ih =>
   obtain⟨p,h⟩:=ih;exact⟨_,.node hm (by rw[hp];exact h)⟩
 exact key n (T.down n hn)
theorem PathTo.key{ns:List (Nd S)}(T:Tree1 ns):∀{p:List S}{k j:Int},PathTo ns k p→PathTo ns j p→k=j:=by
 have main:∀(m:Nat){p:List S}{k j:Int},p.length=m→PathTo ns k p→PathTo ns j p→k=j:=by
  intro m
  induction m with
  |zero =>
   intro p k j hl h1 h2;have e:p=[]:=length_eq_zero_iff.mp hl;subst e;have z:∀{k:Int}{q:List S},PathTo ns k q→q=[]→k=0:=by
    intro k q h e;cases h with
    |top=>rfl
    |node _ _=>simp at e
   rw[z h1 rfl,z h2 rfl]
  |succ m ih =>
   intro p k j hl h1 h2;have z:∀{k:Int}{q:List S},PathTo ns k q→q=p→∃n q',n∈ns∧n.num=k∧p=q'++[n.nm]∧PathTo ns n.par q':=by
    intro k q h e;cases h with
    |top=>rw[←e]at hl;simp at hl
    |@node n q' hm hq'=>exact⟨n,q',hm,rfl,e.symm,hq'⟩
   obtain⟨n,q,hn,e1,e2,hq⟩:=z h1 rfl;obtain⟨n',q',hn',e1',e2',hq'⟩:=z h2 rfl;have e3:q++[n.nm]=q'++[n'.nm]:=e2.symm.trans e2';obtain⟨e4,e5⟩:=List.append_inj' e3 rfl;subst e4;have e6:n.nm=n'.nm:=by simpa using e5
   have e7:n.par=n'.par:=ih (by rw[e2]at hl;simpa using hl) hq hq';have ho:=T.own;have:n=n':=by
    unfold cn at ho;obtain⟨i,hi,gi⟩:=mem_iff_getElem.mp hn;obtain⟨j',hj,gj⟩:=mem_iff_getElem.mp hn';have:(ns.map λn=>(n.par,n.nm))[i]'(by simpa using hi)=(ns.map λn=>(n.par,n.nm))[j']'(by simpa using hj):=by
     rw[getElem_map,getElem_map,gi,gj,e6,e7]
    have hij:=(getElem_inj ho).mp this;subst hij;rw[←gi,←gj]
   rw[←e1,←e1',this]
 intro p k j h1 h2;exact main p.length rfl h1 h2
theorem PathTo.chain{ns:List (Nd S)}(T:Tree1 ns){k:Int}{p:List S}(h:PathTo ns k p):∃l:List Int,l.length=p.length∧l.Nodup∧∀x∈l,x∈ns.map (·.num)∧∃q,PathTo ns x q∧q.length≤p.length:=by
 induction h with
 |top=>exact⟨[],rfl,nodup_nil,by simp⟩
 |@node n p hm hp ih =>
  obtain⟨l,e,nd,hx⟩:=ih;refine⟨n.num::l,by simp[e],nodup_cons.mpr ⟨λhin=>?_,nd⟩,λx hx'=>?_⟩
  ·obtain⟨_,q,hq,hl⟩:=hx _ hin;have:=hq.uniq T (.node hm hp);rw[this]at hl;simp at hl;omega
  ·rcases mem_cons.mp hx' with e'|h'
   ·rw[e'];exact⟨mem_map.mpr ⟨n,hm,rfl⟩,_,.node hm hp,le_refl _⟩
   ·obtain⟨a,q,b,c⟩:=hx x h';exact⟨a,q,b,by simp;omega⟩
theorem PathTo.len{ns:List (Nd S)}(T:Tree1 ns){k:Int}{p:List S}(h:PathTo ns k p):p.length≤ns.length:=by
 obtain⟨l,e,nd,hx⟩:=h.chain T;rw[←e];have:=Nodup.length_le_of_subset nd (λx hx'=>(hx x hx').1);rw[length_map]at this;exact this
inductive Und(ns:List (Nd S))(g:Int):Int→Prop where
 |here:Und ns g g
 |up {n:Nd S}:n∈ns→Und ns g n.par→Und ns g n.num
theorem Und.zero{ns:List (Nd S)}(T:Tree1 ns){g k:Int}(h:Und ns g k)(e:k=0):g=0:=by
 cases h with
 |here=>exact e
 |@up n hm _=>have:=T.pos n hm;omega
theorem Und.inv{ns:List (Nd S)}(T:Tree1 ns){g k:Int}(h:Und ns g k){n:Nd S}(hn:n∈ns)(e:k=n.num)(hg:k≠g):Und ns g n.par:=by
 cases h with
 |here=>exact absurd rfl hg
 |@up m hm hu =>
  have:m=n:=T.inj hm hn e;subst this;exact hu
theorem qE{ns:List (Nd S)}(T:Tree1 ns){n:Nd S}(hn:n∈ns):n.par=0∨∃m∈ns,m.st=none∧m.num=n.par:=by
 have:=T.down n hn;cases this with
 |base _ hp=>exact .inl hp
 |@step m _ hr hf _ hp=>exact .inr ⟨m,hr.mem,hf,hp.symm⟩
theorem gX{ns:List (Nd S)}(T:Tree1 ns){g:Int}{n:Nd S}(h:Reach ns g n):Und ns g n.num∧∃p q,PathTo ns n.num (p++q)∧q≠[]∧PathTo ns g p:=by
 induction h with
 |@base n hm hp =>
  obtain⟨p,h⟩:=PathTo.ex T hm;obtain⟨q,e,hq⟩:=h.inv T hm rfl;refine⟨.up hm (by rw[hp];exact .here),q,[n.nm],by rw[←e];exact h,by simp,by rw[←hp];exact hq⟩
 |@step m n hr hf hm hp ih =>
  obtain⟨hu,p,q,h1,h2,h3⟩:=ih;refine⟨.up hm (by rw[hp];exact hu),p,q++[n.nm],?_,by simp,h3⟩;rw[←append_assoc];exact .node hm (by rw[hp];exact h1)
theorem rU{ns:List (Nd S)}(T:Tree1 ns){g:Int}{n:Nd S}(h:Reach ns g n):n.num≠g:=by
 obtain⟨_,p,q,h1,h2,h3⟩:=gX T h;intro e;rw[e]at h1;have:=h1.uniq T h3;have hl:=congrArg length this;rw[length_append]at hl;have:q.length≠0:=λz=>h2 (length_eq_zero_iff.mp z);omega
theorem qF{ns:List (Nd S)}(T:Tree1 ns){g:Int}(hg:1≤g):∀{k:Int}{p:List S},PathTo ns k p→∀{n:Nd S},n∈ns→k=n.num→Und ns g k→k≠g→Reach ns g n:=by
 intro k p h
 induction h with
 |top=>intro n hn e;have:=T.pos n hn;omega
 |@node m p hm hp ih =>
  intro n hn e hu hne;have:m=n:=T.inj hm hn e;subst this;have hu':=hu.inv T hm rfl hne
  by_cases hpg:m.par=g
  ·exact .base hm hpg
  ·rcases qE T hm with h0|⟨r,hr,hf,er⟩
   ·have:=hu'.zero T h0;omega
   ·exact .step (ih hr er.symm hu' hpg) hf hm er.symm
theorem cO{ns:List (Nd S)}(T:Tree1 ns){g:Int}(hg:1≤g){n:Nd S}(hn:n∈ns):Reach ns g n↔n.num≠g∧Und ns g n.num:=by
 constructor
 ·intro h;exact⟨rU T h,(gX T h).1⟩
 ·rintro⟨h1,h2⟩;obtain⟨p,hp⟩:=PathTo.ex T hn;exact qF T hg hp hn rfl h2 h1
end
end TW
namespace TW
section
variable{S:Type}
theorem jW{t:List (Nd S)}:eQ t↔(t.map (·.num)).Pairwise (λa b:Int=>a<b):=by
 unfold eQ;rw[pairwise_map]
def Fold(t:List (Nd S))(p:Int):Prop:=p=0∨∃m∈t,m.st=none∧m.num=p
theorem made{t u:List (Nd S)}{n:Nd S}(T:Tree1 t)(hp:u.Perm (n::t))(hr:eQ u)(h1:1≤n.num)(hf:Fold t n.par)(ho:∀m∈t,¬(m.par=n.par∧m.nm=n.nm)):Tree1 u:=by
 have hm:∀x,x∈u↔x=n∨x∈t:=λx=>by rw[hp.mem_iff,mem_cons]
 have ht:∀x,x∈t→x∈u:=λx hx=>(hm x).mpr (.inr hx);refine⟨⟨hr,?_,λx hx=>?_⟩,λx hx=>?_⟩
 ·unfold cn;rw[(hp.map λn:Nd S=>(n.par,n.nm)).nodup_iff,map_cons,nodup_cons];refine⟨λhx=>?_,T.own⟩;obtain⟨m,h2,e⟩:=mem_map.mp hx;injection e with e1 e2
  exact ho m h2 ⟨e1,e2⟩
 ·rcases (hm x).mp hx with e|hx
  ·subst e;rcases hf with e|⟨m,h2,h3,e⟩
   ·exact .base hx e
   ·exact .step ((T.down m h2).mono ht) h3 hx e.symm
  ·exact(T.down x hx).mono ht
 ·rcases (hm x).mp hx with e|hx
  ·subst e;exact h1
  ·exact T.pos x hx
def put(z:Nd S)(m:Nd S):Nd S:=if m.num=z.num then z else m
theorem pe(z m:Nd S):(put z m).num=m.num:=by
 unfold put
 split
 ·rename_i h;exact h.symm
 ·rfl
theorem eX{z m:Nd S}(h:m.num≠z.num):put z m=m:=by unfold put;rw[if_neg h]
theorem ji{z m:Nd S}(h:m.num=z.num):put z m=z:=by unfold put;rw[if_pos h]
theorem rV(z:Nd S)(t:List (Nd S)):(t.map (put z)).map (·.num)=t.map (·.num):=by
 rw[map_map];apply map_congr_left;intro m _;exact pe z m
theorem rW{z:Nd S}{t:List (Nd S)}(h:eQ t):eQ (t.map (put z)):=by
 rw[jW,rV,←jW];exact h
theorem uD{z:Nd S}{t:List (Nd S)}(T:Tree1 t):∀n∈t.map (put z),1≤n.num:=λn hn=>by
 obtain⟨m,hm,rfl⟩:=mem_map.mp hn;rw[pe];exact T.pos m hm
theorem wrote{t:List (Nd S)}{y z:Nd S}(T:Tree1 t)(hy:y∈t)(e1:z.num=y.num)(e2:z.par=y.par)(e3:z.nm=y.nm)(hs:y.st≠none):Tree1 (t.map (put z)):=by
 have par:∀m∈t,(put z m).par=m.par∧(put z m).nm=m.nm:=λm hm=>by
  by_cases h:m.num=z.num
  ·have:m=y:=T.inj hm hy (h.trans e1);subst this;rw[ji h];exact⟨e2,e3⟩
  ·rw[eX h];exact⟨rfl,rfl⟩
 refine⟨⟨rW T.rise,?_,λn hn=>?_⟩,uD T⟩
 ·have:(t.map (put z)).map (λn=>(n.par,n.nm))=t.map (λn=>(n.par,n.nm)):=by
   rw[map_map];apply map_congr_left;intro m hm;show((put z m).par,(put z m).nm)=_;rw[(par m hm).1,(par m hm).2]
  unfold cn;rw[this];exact T.own
 ·obtain⟨m,hm,rfl⟩:=mem_map.mp hn;have key:∀x,Reach t 0 x→Reach (t.map (put z)) 0 (put z x):=by
   intro x r
   induction r with
   |@base x hx hp=>exact .base (mem_map.mpr ⟨x,hx,rfl⟩) (by rw[(par x hx).1];exact hp)
   |@step a x ra hf hx hp ih =>
    have ha:put z a=a:=eX λe=>hs (by rw[←T.inj ra.mem hy (e.trans e1)];exact hf);rw[ha]at ih;exact .step ih hf (mem_map.mpr ⟨x,hx,rfl⟩) (by rw[(par x hx).1];exact hp)
  exact key m (T.down m hm)
end
end TW
namespace TW
section
variable{S:Type}
inductive Deed(S:Type) where
 |make (n p:Int) (nm:S) (st:Option Int)
 |write (n st:Int)
 |move (n p:Int) (nm:S)
 |drop (n:Int)
inductive Wd where
 |known|noNode|notFile|notFolder|inside|taken
def dP(t:List (Nd S))(k:Int):Prop:=∃m∈t,m.num=k
inductive Told(t:List (Nd S)):Deed S→Sum Wd (List (Nd S))→Prop where
 |mKnown {n p:Int} {nm:S} {st:Option Int}:dP t n→Told t (.make n p nm st) (.inl .known)
 |mNo {n p:Int} {nm:S} {st:Option Int}:¬dP t n→p≠0→¬dP t p→Told t (.make n p nm st) (.inl .noNode)
 |mFile {n p:Int} {nm:S} {st:Option Int} {m:Nd S}:¬dP t n→p≠0→m∈t→m.num=p→m.st≠none→Told t (.make n p nm st) (.inl .notFolder)
 |mTaken {n p:Int} {nm:S} {st:Option Int} {m:Nd S}:¬dP t n→Fold t p→m∈t→m.par=p→m.nm=nm→Told t (.make n p nm st) (.inl .taken)
 |made {n p:Int} {nm:S} {st:Option Int} {u:List (Nd S)}:¬dP t n→Fold t p→(∀m∈t,¬(m.par=p∧m.nm=nm))→u.Perm (⟨n,p,nm,st⟩::t)→eQ u→Told t (.make n p nm st) (.inr u)
 |wNo {n st:Int}:¬dP t n→Told t (.write n st) (.inl .noNode)
 |wFold {n st:Int} {y:Nd S}:y∈t→y.num=n→y.st=none→Told t (.write n st) (.inl .notFile)
 |wrote {n st:Int} {y:Nd S}:y∈t→y.num=n→y.st≠none→Told t (.write n st) (.inr (t.map (put ⟨n,y.par,y.nm,some st⟩)))
 |vNo {n p:Int} {nm:S}:¬dP t n→Told t (.move n p nm) (.inl .noNode)
 |vNoP {n p:Int} {nm:S}:dP t n→p≠0→¬dP t p→Told t (.move n p nm) (.inl .noNode)
 |vFile {n p:Int} {nm:S} {m:Nd S}:dP t n→p≠0→m∈t→m.num=p→m.st≠none→Told t (.move n p nm) (.inl .notFolder)
 |vIn {n p:Int} {nm:S}:dP t n→Fold t p→p≠0→Und t n p→Told t (.move n p nm) (.inl .inside)
 |vTaken {n p:Int} {nm:S} {m:Nd S}:dP t n→Fold t p→(p≠0→¬Und t n p)→m∈t→m.num≠n→m.par=p→m.nm=nm→Told t (.move n p nm) (.inl .taken)
 |moved {n p:Int} {nm:S} {y:Nd S}:y∈t→y.num=n→Fold t p→(p≠0→¬Und t n p)→(∀m∈t,m.num≠n→¬(m.par=p∧m.nm=nm))→Told t (.move n p nm) (.inr (t.map (put ⟨n,p,nm,y.st⟩)))
 |dNo {n:Int}:¬dP t n→Told t (.drop n) (.inl .noNode)
 |dropped {n:Int} {f:Nd S→Bool}:dP t n→(∀m∈t,f m=true↔¬Und t n m.num)→Told t (.drop n) (.inr (t.filter f))
end
end TW
namespace TW
section
variable{S:Type}
end
end TW
namespace L2
open PySem PySem.Spec PyProof.Rows
section
variable{P:Program}{w:World}{K:PySem.W.Frag}{mg:Str→Option Value}{base:Heap}
theorem Fun.okX{x qual:Str}{st:Stmt}{f:Addr}{fd:FuncData}{N ps:List Str}{k:Nat}{sp:Sp}(F:Fun K x qual st f fd)(S:FnScope N ps (ai st))(len:∀vs H Q E,sp vs H Q E→vs.length=ps.length)(hbody:∀(cdv:Value) (A:Around) (outer:List Env) (s:Shared) (H:Hp) (vs:List V) (Q:VK) (E:XK),Room k (A.deeper (envOfC qual (ai st) s.heap.objs.size f cdv))→sp vs H Q E →
   ∃t,PSs (fZ (CX1 P w) P w K mg base N qual (ai st) f cdv A outer s H E) (bb st) t∧t {nx:=λ_ H'=>Q .non H',rt:=Q} (start N vs) H):FnOk P w K mg base (CX1 P w) (k+1) f fd ps sp:=by
 obtain⟨oc,od,kV,doc,pm,an,cdv,ct,osl,rfl,lk,hcd⟩:=F.ex;exact re lk hcd S len λA outer s H vs Q E hr hsp=>hbody cdv A outer s H vs Q E hr hsp
theorem LcOk.mk'{X:Cx}{scope:Scope}{cl:List (Str×Addr)}(fs:List Str)(hk:scope.kind=.function)(hc:closureFor scope X.env=pure cl)(hn:∀x∈scope.names,x.2=.local→scope.names.lookup x.1=some .local)(hnc:∀x∈scope.names,x.2≠.cell)(hcl:∀y∈cl,X.env.cells.lookup y.1=some y.2)(hfs:cl.map (·.1)=fs)(hall:scope.names.all (λy=>!(y.2==.free)||fs.contains y.1)=true):LcOk X scope cl:=by
 refine⟨hk,hc,hn,hnc,λx c h=>hcl (x,c) (PySem.mem_of_lookup h),λx h=>?_⟩;have hm:∃k,(x,k)∈(relabel scope X.env).names∧(k=.cell∨k=.free):=by
  rcases h with h|h
  ·exact⟨_,PySem.mem_of_lookup h,.inl rfl⟩
  ·exact⟨_,PySem.mem_of_lookup h,.inr rfl⟩
 obtain⟨k,hm,hk'⟩:=hm;unfold relabel at hm;obtain⟨⟨y,k0⟩,hy,e⟩:=mem_map.mp hm;have hfree:x=y∧k0=.free:=by
  cases k0 with
  |free =>
   simp only at e
   split at e
   ·injection e with e1 e2;exact⟨e1.symm,rfl⟩
   ·injection e with e1 e2;exact⟨e1.symm,rfl⟩
  |cell=>exact absurd rfl (hnc _ hy)
  |_ =>
   exfalso
   have e2:k=_:=(congrArg Prod.snd e).symm;simp at e2;rcases hk' with z|z<;>rw[z]at e2<;>cases e2
 obtain⟨rfl,rfl⟩:=hfree;have:=all_eq_true.mp hall _ hy;have hin:fs.contains x=true:=by simpa using this
 rw[←hfs]at hin;have hmem:x∈cl.map (·.1):=List.contains_iff_mem.mp hin;cases e:cl.lookup x with
 |some c=>exact⟨c,rfl⟩
 |none =>
  exfalso
  obtain⟨y,hy,ey⟩:=mem_map.mp hmem;have:=List.lookup_eq_none_iff.mp e y hy;rw[ey]at this;simp at this
end
end L2
namespace TK
open PySem L2
abbrev Nd:=TW.Nd Str
def stV:Option Int→V
 |none=>.non
 |some i=>.int i
def vals(n:Nd):List V:=[.int n.num,.int n.par,.str n.nm,stV n.st]
abbrev ZN:=List (Addr×Nd)
def aR(zs:ZN):List V:=(zs.map (·.1)).map V.ref
def nds(zs:ZN):List Nd:=zs.map (·.2)
def At(H:Hp)(zs:ZN):Prop:=∀z∈zs,H z.1=some (.tup (vals z.2))
theorem At.same{H H':Hp}{zs:ZN}(h:At H zs)(s:Same H H'):At H' zs:=λz hz=>s _ _ (h z hz)
theorem bt(zs:ZN):(aR zs).length=zs.length:=by simp[aR]
theorem aG(zs:ZN):(nds zs).length=zs.length:=by simp[nds]
theorem cy{zs:ZN}{i:Nat}{x:V}(h:(aR zs)[i]?=some x):∃z,zs[i]?=some z∧x=.ref z.1:=by
 unfold aR at h;rw[getElem?_map,getElem?_map]at h;cases e:zs[i]? with
 |none=>rw[e]at h;cases h
 |some z=>rw[e]at h;exact⟨z,rfl,(Option.some.inj h).symm⟩
theorem jj{zs:ZN}{i:Nat}{z:Addr×Nd}(h:zs[i]?=some z):(aR zs)[i]?=some (.ref z.1):=by
 unfold aR;rw[getElem?_map,getElem?_map,h];rfl
theorem at0(n:Nd):atI (vals n) 0=some (.int n.num):=rfl
theorem at1(n:Nd):atI (vals n) 1=some (.int n.par):=rfl
theorem at2(n:Nd):atI (vals n) 2=some (.str n.nm):=rfl
theorem at3(n:Nd):atI (vals n) 3=some (stV n.st):=rfl
theorem wJ{σ:St}(h:σ.length=1):∃a,σ=[a]:=by
 match σ,h with
 |[a],_=>exact⟨a,rfl⟩
theorem aK{n:Nat}(h:n≤1000):n≤sizeLine:=le_of_lt (ay h)
theorem le2:2≤sizeLine:=aK (by decide)
theorem rX{A:Around}{k:Nat}(hr:Room k A):A.units+4<cLine:=lt_of_le_of_lt (Nat.add_le_add_left (by decide:4≤64) _) hr.units
def plK(n:Nd):List Key:=[.inl n.par,.inr n.nm]
def ins(zs:ZN)(k:Int):ZN:=zs.filter λz=>decide (z.2.par=k)
theorem pg(zs:ZN)(k:Int):nds (ins zs k)=TW.inside (nds zs) k:=by
 unfold nds ins TW.inside;rw[filter_map];rfl
theorem eR(zs:ZN)(z:Addr×Nd)(k:Int):ins (zs++[z]) k=if z.2.par=k then ins zs k++[z]else ins zs k:=by
 unfold ins;rw[filter_append]
 by_cases h:z.2.par=k
 ·rw[if_pos h,filter_cons_of_pos (by simp[h])];rfl
 ·rw[if_neg h,filter_cons_of_neg (by simp[h])];simp
theorem uE{zs:ZN}{k:Int}{z:Addr×Nd}(h:z∈ins zs k):z∈zs:=(mem_filter.mp h).1
theorem gY(zs:ZN)(z:Addr×Nd):aR (zs++[z])=aR zs++[.ref z.1]:=by simp[aR]
theorem rY{zs:ZN}(h:aR zs=[]):zs=[]:=by
 cases zs with
 |nil=>rfl
 |cons a r=>simp[aR]at h
structure Mem(H0 H:Hp)(d:Addr)(L:Int→Addr)(kvs:List (Key×V))(xs:ZN)(dn:List Int):Prop where
 dict:H d=some (.dK kvs)
 d0:H0 d=none
 len:kvs.length≤xs.length
 val:∀k:Int,aN kvs (Sum.inl k:Key)=if k∈dn∨ins xs k=[]then none else some (.ref (L k))
 at':∀k,k∉dn→ins xs k≠[]→H (L k)=some (.lst (aR (ins xs k)))∧H0 (L k)=none
 inj:∀k k',k∉dn→k'∉dn→ins xs k≠[]→ins xs k'≠[]→L k=L k'→k=k'
 same:Same H0 H
theorem Mem.grow{H0 H H':Hp}{d:Addr}{L:Int→Addr}{kvs:List (Key×V)}{xs:ZN}{dn:List Int}(m:Mem H0 H d L kvs xs dn)(s:Same H H'):Mem H0 H' d L kvs xs dn :=
 ⟨s _ _ m.dict,m.d0,m.len,m.val,λk h1 h2=>⟨s _ _ (m.at' k h1 h2).1,(m.at' k h1 h2).2⟩,m.inj,m.same.trans s⟩
theorem Mem.other{H0 H:Hp}{d p:Addr}{L:Int→Addr}{kvs:List (Key×V)}{xs:ZN}{dn:List Int}{is:List Int}{o:HO}(m:Mem H0 H d L kvs xs dn)(hp:H p=some (.lst (is.map V.int)))(h0:H0 p=none):Mem H0 (upd H p o) d L kvs xs dn:=by
 refine⟨?_,m.d0,m.len,m.val,λk h1 h2=>⟨?_,(m.at' k h1 h2).2⟩,m.inj,aI h0 m.same⟩
 ·rw[af]
  ·exact m.dict
  ·intro e;have:=m.dict;rw[e,hp]at this;cases this
 ·have e1:=(m.at' k h1 h2).1;rw[af]
  ·exact e1
  ·intro e;rw[e,hp]at e1;injection e1 with e1
   injection e1 with e1
   have hne:=h2;cases hk:ins xs k with
   |nil=>exact h2 hk
   |cons a r =>
    rw[hk]at e1;cases is with
    |nil=>simp[aR]at e1
    |cons i r'=>simp[aR]at e1
theorem Mem.start{H0:Hp}{d:Addr}(h:H0 d=none):Mem H0 (upd H0 d (.dK [])) d (λ_=>d) [] [] [] :=
 ⟨ac,h,by simp,λk=>by rw[if_pos (.inr rfl)];rfl,λk _ h=>absurd rfl h,λk k' _ _ h=>absurd rfl h,ae h⟩
theorem Mem.hit{H0 H:Hp}{d:Addr}{L:Int→Addr}{kvs:List (Key×V)}{xs:ZN}{z:Addr×Nd}(m:Mem H0 H d L kvs xs [])(hp:ins xs z.2.par≠[]):
  Mem H0 (upd H (L z.2.par) (.lst (aR (ins xs z.2.par)++[.ref z.1]))) d L kvs (xs++[z]) []:=by
 have e1:=(m.at' z.2.par (by simp) hp);have hd:d≠L z.2.par:=λe=>by
  have:=m.dict;rw[e,e1.1]at this;cases this
 have ne:∀k,ins (xs++[z]) k=[]↔ins xs k=[]:=λk=>by
  rw[eR]
  by_cases h:z.2.par=k
  ·rw[if_pos h];subst h;simp[hp]
  ·rw[if_neg h]
 refine⟨by rw[af hd];exact m.dict,m.d0,by have:=m.len;simp;omega,λk=>?_,λk h1 h2=>?_,λk k' _ _ h2 h3 e=>m.inj k k' (by simp) (by simp) (λh=>h2 ((ne k).mpr h)) (λh=>h3 ((ne k').mpr h)) e,aI e1.2 m.same⟩
 ·rw[m.val k];simp only[ne k]
 ·have h2':ins xs k≠[]:=λh=>h2 ((ne k).mpr h);refine⟨?_,(m.at' k h1 h2').2⟩
  by_cases h:z.2.par=k
  ·subst h;rw[ac,eR,if_pos rfl,gY]
  ·rw[af,eR,if_neg h]
   ·exact(m.at' k h1 h2').1
   ·intro e;exact h (m.inj _ _ (by simp) (by simp) hp h2' e.symm)
theorem Mem.fresh{H0 H:Hp}{d q:Addr}{L:Int→Addr}{kvs:List (Key×V)}{xs:ZN}{z:Addr×Nd}(m:Mem H0 H d L kvs xs [])(hp:ins xs z.2.par=[])(hq:H q=none):
  Mem H0 (upd (upd (upd H q (.lst [])) d (.dK (br kvs (Sum.inl z.2.par:Key) (.ref q)))) q (.lst ([]++[.ref z.1]))) d (λk=>if k=z.2.par then q else L k) (br kvs (Sum.inl z.2.par:Key) (.ref q)) (xs++[z]) []:=by
 have hdq:d≠q:=λe=>by
  have:=m.dict;rw[e,hq]at this;cases this
 have lq:∀k,ins xs k≠[]→L k≠q:=λk h e=>by
  have:=(m.at' k (by simp) h).1;rw[e,hq]at this;cases this
 have ld:∀k,ins xs k≠[]→L k≠d:=λk h e=>by
  have:=(m.at' k (by simp) h).1;rw[e,m.dict]at this;cases this
 have q0:H0 q=none:=m.same.free hq;have e2:∀k,k≠z.2.par→ins (xs++[z]) k=ins xs k:=λk h=>by rw[eR,if_neg (λe=>h e.symm)]
 have e3:ins (xs++[z]) z.2.par=[z]:=by rw[eR,if_pos rfl,hp];rfl
 refine⟨by rw[af hdq,ac],m.d0,?_,λk=>?_,λk h1 h2=>?_,λk k' _ _ h2 h3 e=>?_,?_⟩
 ·have h1:=m.len;have h2:=cr kvs (Sum.inl z.2.par:Key) (.ref q);rw[length_append,length_singleton];omega
 ·rw[gg]
  by_cases h:k=z.2.par
  ·subst h;rw[if_pos rfl,if_neg (by rw[e3];simp),if_pos rfl]
  ·rw[if_neg (λe=>h (Sum.inl.inj e)),m.val k,e2 k h,if_neg h]
 ·by_cases h:k=z.2.par
  ·subst h;simp only[if_true];exact⟨by rw[ac,e3];rfl,q0⟩
  ·rw[e2 k h]at h2;simp only[if_neg h];refine⟨?_,(m.at' k h1 h2).2⟩;rw[af (lq k h2),af (ld k h2),af (lq k h2),e2 k h];exact(m.at' k h1 h2).1
 ·by_cases h:k=z.2.par
  ·by_cases h':k'=z.2.par
   ·rw[h,h']
   ·rw[e2 k' h']at h3;simp only[if_pos h,if_neg h']at e;exact absurd e.symm (lq k' h3)
  ·rw[e2 k h]at h2
   by_cases h':k'=z.2.par
   ·simp only[if_neg h,if_pos h']at e;exact absurd e (lq k h2)
   ·rw[e2 k' h']at h3;simp only[if_neg h,if_neg h']at e;exact m.inj k k' (by simp) (by simp) h2 h3 e
 ·exact aI q0 (aI m.d0 (m.same.trans (ae hq)))
theorem qG{κ:Type}[DecidableEq κ](kvs:List (κ×V))(k j:κ):aN (cG kvs k) j=if j=k then none else aN kvs j:=by
 induction kvs with
 |nil=>simp[cG,aN]
 |cons p r ih =>
  by_cases e:p.1=k
  ·rw[qm e,ih]
   by_cases h:j=k
   ·rw[if_pos h,if_pos h]
   ·rw[if_neg h,if_neg h,aO (λz=>h (z.symm.trans e))]
  ·rw[qo e]
   by_cases h:p.1=j
   ·rw[aW h,if_neg (λz=>e (h.trans z)),aW h]
   ·rw[aO h,ih,aO h]
theorem Mem.drop{H0 H:Hp}{d:Addr}{L:Int→Addr}{kvs:List (Key×V)}{xs:ZN}{dn:List Int}(m:Mem H0 H d L kvs xs dn)(x:Int):Mem H0 (upd H d (.dK (cG kvs (Sum.inl x:Key)))) d L (cG kvs (Sum.inl x:Key)) xs (x::dn):=by
 have ld:∀k,k∉dn→ins xs k≠[]→L k≠d:=λk h0 h e=>by
  have:=(m.at' k h0 h).1;rw[e,m.dict]at this;cases this
 have no:∀k,k∉x::dn→k∉dn:=λk h h'=>h (mem_cons_of_mem _ h');refine⟨ac,m.d0,le_trans (lP _ _) m.len,λk=>?_,λk h1 h2=>?_,λk k' h0 h1 h2 h3 e=>m.inj k k' (no k h0) (no k' h1) h2 h3 e,aI m.d0 m.same⟩
 ·rw[qG,m.val k]
  by_cases h:k=x
  ·rw[if_pos (by rw[h]),if_pos (.inl (by rw[h];simp))]
  ·rw[if_neg (λe=>h (Sum.inl.inj e))];simp[h]
 ·rw[af (ld k (no k h1) h2)];exact m.at' k (no k h1) h2
theorem Mem.skip{H0 H:Hp}{d:Addr}{L:Int→Addr}{kvs:List (Key×V)}{xs:ZN}{dn:List Int}(m:Mem H0 H d L kvs xs dn){x:Int}(hx:x∈dn∨ins xs x=[]):Mem H0 H d L kvs xs (x::dn):=by
 have no:∀k,k∉x::dn→k∉dn:=λk h h'=>h (mem_cons_of_mem _ h');refine⟨m.dict,m.d0,m.len,λk=>?_,λk h1 h2=>m.at' k (no k h1) h2,λk k' h0 h1 h2 h3 e=>m.inj k k' (no k h0) (no k' h1) h2 h3 e,m.same⟩;rw[m.val k]
 by_cases h:k=x
 ·subst h;rw[if_pos hx,if_pos (.inl (by simp))]
 ·simp[h]
theorem rZ{Q:VK}{H0 H:Hp}{d q:Addr}{L:Int→Addr}{kvs:List (Key×V)}{zs:ZN}{dn:List Int}{x:Int}(m:Mem H0 H d L kvs zs dn)(hq:H q=some (.lst []))(k:∀hl Hc kvs' hs,Mem H0 Hc d L kvs' zs (x::dn)→Hc hl=some (.lst (aR hs))→nds hs=TW.here (nds zs) dn x→(∀z∈hs,z∈zs)→(∀p,p≠d→Hc p=H p)→(hs=[]→hl=q)→Q (.ref hl) Hc):
  ∃kvs k,H d=some (.dK kvs)∧V.int x=kV k∧(∀v,aN kvs k=some v→Q v (upd H d (.dK (cG kvs k))))∧(aN kvs k=none→Q (.ref q) H):=by
 refine⟨kvs,.inl x,m.dict,rfl,λv hv=>?_,λhn=>?_⟩
 ·rw[m.val x]at hv
  by_cases h:x∈dn∨ins zs x=[]
  ·rw[if_pos h]at hv;cases hv
  ·rw[if_neg h]at hv;have h1:x∉dn:=λz=>h (.inl z);have h2:ins zs x≠[]:=λz=>h (.inr z);cases hv;have a:=(m.at' x h1 h2).1;have ld:L x≠d:=λe=>by rw[e,m.dict]at a;cases a
   refine k (L x) _ _ (ins zs x) (m.drop x) (by rw[af ld];exact a) ?_ (λz hz=>uE hz) (λp hp=>af hp) (λe=>absurd e h2);rw[pg];unfold TW.here;rw[if_neg h1]
 ·rw[m.val x]at hn
  by_cases h:x∈dn∨ins zs x=[]
  ·refine k q _ _ [] (m.skip h) hq ?_ (by simp) (λp _=>rfl) (λ_=>rfl);unfold TW.here
   by_cases h1:x∈dn
   ·rw[if_pos h1];rfl
   ·rw[if_neg h1];rcases h with h|h
    ·exact absurd h h1
    ·rw[←pg,h]
  ·rw[if_neg h]at hn;cases hn
theorem ph{H:Hp}{p hl:Addr}{hs:ZN}{is:List Int}(hp:H p=some (.lst (is.map V.int)))(h:H hl=some (.lst (aR hs)))(hne:hs≠[]):hl≠p:=by
 intro e;rw[e,hp]at h;injection h with h
 injection h with h
 cases hs with
 |nil=>exact hne rfl
 |cons a r =>
  cases is with
  |nil=>simp[aR]at h
  |cons i r'=>simp[aR]at h
def gB(H:Hp)(p:Addr):Nat:=match H p with
 |some (.lst xs)=>xs.length
 |_=>0
theorem dC{H:Hp}{p:Addr}{xs:List V}(h:H p=some (.lst xs)):gB H p=xs.length:=by unfold gB;rw[h]
def dD(l:List Nd):List V:=(l.map (·.num)).map V.int
def gC(K:PySem.W.Frag)(H:Hp)(a:Addr):Prop:=∃ns:List Int,SqL K H a (ns.map V.int)
theorem gC.same{K:PySem.W.Frag}{H H':Hp}{a:Addr}(h:gC K H a)(s:Same H H'):gC K H' a:=let⟨ns,e⟩:=h;⟨ns,s.seq e⟩
theorem mn{ns:List Int}{i:Int}(h0:0≤i)(h1:i<ns.length):∃j,atI (ns.map V.int) i=some (.int j):=by
 refine⟨ns[i.toNat]'(by omega),?_⟩;have:=gb (xs:=ns.map V.int) (j:=i.toNat) (v:=.int (ns[i.toNat]'(by omega))) (by rw[getElem?_map,getElem?_eq_getElem (by omega)];rfl);rw[show((i.toNat:Nat):Int)=i by omega]at this;exact this
def Has(P:Program)(w:World)(K:PySem.W.Frag)(mg:Str→Option Value)(base:Heap)(k:Nat)(x:Str)(ps:List Str)(sp:Sp):Prop:=∃f fd,FnOk P w K mg base CX0 k f fd ps sp∧mg x=some (.ref f)∧keepIn K (.ref f)=true∧cb K fd ps []
def uF(n:Nd):Prop:=1≤n.num∧n.num≤12∧(n.nm="a"∨n.nm="b"∨n.nm="c"∨n.nm="abcde")∧(n.st=none∨n.st=some 0∨n.st=some 1∨n.st=some 2∨n.st=some 999)
structure Bd(zs:ZN)(lf:List Int):Prop where
 built:TW.Built (nds zs)
 nd:((nds zs).map (·.num)++lf).Nodup
 rng:∀x∈lf,1≤x∧x≤12
 own:TW.cn (nds zs)
 ok:∀z∈zs,uF z.2
theorem Bd.skip{zs:ZN}{lf:List Int}(b:Bd zs lf)(i:Nat):Bd zs (lf.eraseIdx i) :=
 ⟨b.built,Nodup.sublist (Sublist.append (Sublist.refl _) (List.eraseIdx_sublist lf i)) b.nd,λx hx=>b.rng x ((List.eraseIdx_sublist lf i).mem hx),b.own,b.ok⟩
theorem jk:∀{l:List Int}{i:Nat}{x:Int},l[i]?=some x→(x::l.eraseIdx i).Perm l
 |a::l,0,x,h=>by
  have:a=x:=by simpa using h
  subst this;exact List.Perm.refl _
 |a::l,i+1,x,h=>by
  have h':l[i]?=some x:=by simpa using h
  exact(List.Perm.swap a x _).trans (List.Perm.cons a (jk h'))
 |[],i,x,h=>by simp at h
theorem Bd.add{zs:ZN}{lf:List Int}{i:Nat}{q:Addr}{n:Nd}(b:Bd zs lf)(hi:lf[i]?=some n.num)(hp:n.par∈(0:Int)::TW.aF (nds zs))(ho:∀z∈zs,¬(z.2.par=n.par∧z.2.nm=n.nm))(h3:n.nm="a"∨n.nm="b"∨n.nm="c"∨n.nm="abcde")(h4:n.st=none∨n.st=some 0∨n.st=some 1∨n.st=some 2∨n.st=some 999):Bd (zs++[(q,n)]) (lf.eraseIdx i):=by
 have e:nds (zs++[(q,n)])=nds zs++[n]:=by simp[nds]
 have pm:=jk hi;refine⟨?_,?_,λx hx=>b.rng x ((List.eraseIdx_sublist lf i).mem hx),?_,λz hz=>?_⟩
 ·rw[e];refine .snoc b.built ?_;rcases mem_cons.mp hp with h|h
  ·exact .inl h
  ·exact .inr (TW.ik.mp h)
 ·rw[e,map_append,append_assoc];exact((List.Perm.append_left _ pm).nodup_iff).mpr b.nd
 ·rw[e];unfold TW.cn;rw[map_append,nodup_append];refine⟨b.own,by simp,λx hx y hy=>?_⟩;have ey:y=(n.par,n.nm):=by simpa using hy
  subst ey;obtain⟨m,hm,rfl⟩:=mem_map.mp hx;obtain⟨z,hz,rfl⟩:=mem_map.mp hm;intro h;injection h with h1 h2
  exact ho z hz ⟨h1,h2⟩
 ·rcases mem_append.mp hz with h|h
  ·exact b.ok z h
  ·have ez:z=(q,n):=by simpa using h
   subst ez;have:=b.rng n.num (mem_of_getElem? hi);exact⟨this.1,this.2,h3,h4⟩
def tp(z:Addr×Nd):gr:=(z.1,z.2.num,[.int z.2.par,.str z.2.nm,stV z.2.st])
def un(t:gr):Addr×Nd:=(t.1,match t.2.2 with
 |[.int p,.str s,.int i]=>⟨t.2.1,p,s,some i⟩
 |[.int p,.str s,_]=>⟨t.2.1,p,s,none⟩
 | _=>⟨0,0,"",none⟩)
theorem vI(z:Addr×Nd):un (tp z)=z:=by
 obtain⟨a,⟨n,p,s,st⟩⟩:=z;cases st<;>rfl
theorem back{zs:ZN}{ts:List gr}(h:ts.Perm (zs.map tp)):(ts.map un).Perm zs∧(ts.map un).map tp=ts:=by
 constructor
 ·have:=h.map un;rw[map_map]at this;have e:zs.map (un∘tp)=zs.map id:=map_congr_left λz _=>vI z;rw[e,List.map_id]at this;exact this
 ·rw[map_map,map_congr_left (g:=id)]
  ·simp
  ·intro t ht;obtain⟨z,_,rfl⟩:=mem_map.mp (h.mem_iff.mp ht);show tp (un (tp z))=tp z;rw[vI]
theorem iJ(zs:ZN):((zs.map tp).map (·.1)).map V.ref=aR zs:=by
 unfold aR;simp only[map_map];rfl
theorem wK{n:Nat}{j:Int}(h0:0≤j)(h1:j<n):seqIndex? j n=some j.toNat:=(oS (by unfold ixN;rw[if_pos h0,if_pos h1])).1
theorem jX:∀(l:List Int)(i:Nat),(l.map V.int).eraseIdx i=(l.eraseIdx i).map V.int
 |[],i=>by simp
 |a::l,0=>rfl
 |a::l,i+1=>by
  show V.int a::(l.map V.int).eraseIdx i=V.int a::(l.eraseIdx i).map V.int;rw[jX l i]
theorem uG{ns:List Int}{i:Int}(h0:0≤i)(h1:i<ns.length):∃x∈ns,atI (ns.map V.int) i=some (.int x):=by
 refine⟨ns[i.toNat]'(by omega),getElem_mem _,?_⟩;have:=gb (xs:=ns.map V.int) (j:=i.toNat) (v:=.int (ns[i.toNat]'(by omega))) (by rw[getElem?_map,getElem?_eq_getElem (by omega)];rfl);rw[show((i.toNat:Nat):Int)=i by omega]at this;exact this
theorem uH{j:Int}(h0:0≤j)(h1:j<4):∃x:Str,(x="a"∨x="b"∨x="c"∨x="abcde")∧atI [V.str "a",.str "b",.str "c",.str "abcde"] j=some (.str x):=by
 obtain rfl|rfl|rfl|rfl:j=0∨j=1∨j=2∨j=3:=by omega
 ·exact⟨"a",.inl rfl,rfl⟩
 ·exact⟨"b",.inr (.inl rfl),rfl⟩
 ·exact⟨"c",.inr (.inr (.inl rfl)),rfl⟩
 ·exact⟨"abcde",.inr (.inr (.inr rfl)),rfl⟩
theorem uI{j:Int}(h0:0≤j)(h1:j<4):∃i:Int,(some i=none∨some i=some (0:Int)∨some i=some 1∨some i=some 2∨some i=some 999)∧atI [V.int 0,.int 1,.int 2,.int 999] j=some (.int i):=by
 obtain rfl|rfl|rfl|rfl:j=0∨j=1∨j=2∨j=3:=by omega
 ·exact⟨0,.inr (.inl rfl),rfl⟩
 ·exact⟨1,.inr (.inr (.inl rfl)),rfl⟩
 ·exact⟨2,.inr (.inr (.inr (.inl rfl))),rfl⟩
 ·exact⟨999,.inr (.inr (.inr (.inr rfl))),rfl⟩
structure Sta(H:Hp)(pl pf pn:Addr)(Hx:Hp)(lf fs:List Int)(zs:ZN):Prop where
 same:Same H Hx
 l:Hx pl=some (.lst (lf.map V.int))
 f:Hx pf=some (.lst (fs.map V.int))
 n:Hx pn=some (.lst (aR zs))
 nd:At Hx zs
 l0:H pl=none
 f0:H pf=none
 n0:H pn=none
 lf':pl≠pf
 ln':pl≠pn
 fn':pf≠pn
theorem Sta.grow{H Hx Hy:Hp}{pl pf pn:Addr}{lf fs:List Int}{zs:ZN}(a:Sta H pl pf pn Hx lf fs zs)(s:Same Hx Hy):Sta H pl pf pn Hy lf fs zs :=
 ⟨a.same.trans s,s _ _ a.l,s _ _ a.f,s _ _ a.n,a.nd.same s,a.l0,a.f0,a.n0,a.lf',a.ln',a.fn'⟩
theorem At.over{H:Hp}{p:Addr}{xs:List V}{o:HO}{zs:ZN}(h:At H zs)(hp:H p=some (.lst xs)):At (upd H p o) zs:=λz hz=>by
 rw[af]
 ·exact h z hz
 ·intro e;have:=h z hz;rw[e,hp]at this;cases this
theorem Sta.pop{H Hx:Hp}{pl pf pn:Addr}{lf fs:List Int}{zs:ZN}(a:Sta H pl pf pn Hx lf fs zs)(lf2:List Int):Sta H pl pf pn (upd Hx pl (.lst (lf2.map V.int))) lf2 fs zs :=
 ⟨aI a.l0 a.same,ac,by rw[af (symm a.lf')];exact a.f,by rw[af (symm a.ln')];exact a.n,a.nd.over a.l,a.l0,a.f0,a.n0,a.lf',a.ln',a.fn'⟩
theorem Sta.fold{H Hx:Hp}{pl pf pn:Addr}{lf fs:List Int}{zs:ZN}(a:Sta H pl pf pn Hx lf fs zs)(x:Int):Sta H pl pf pn (upd Hx pf (.lst (fs.map V.int++[.int x]))) lf (fs++[x]) zs :=
 ⟨aI a.f0 a.same,by rw[af a.lf'];exact a.l,by rw[ac];simp,by rw[af (symm a.fn')];exact a.n,a.nd.over a.f,a.l0,a.f0,a.n0,a.lf',a.ln',a.fn'⟩
theorem Sta.node{H Hx:Hp}{pl pf pn q:Addr}{lf fs:List Int}{zs:ZN}{n:Nd}(a:Sta H pl pf pn Hx lf fs zs)(hq:Hx q=some (.tup (vals n))):Sta H pl pf pn (upd Hx pn (.lst (aR zs++[.ref q]))) lf fs (zs++[(q,n)]) :=
 ⟨aI a.n0 a.same,by rw[af a.ln'];exact a.l,by rw[af a.fn'];exact a.f,by rw[ac,gY],(λz hz=>by
  rcases mem_append.mp hz with h|h
  ·exact a.nd.over a.n z h
  ·have ez:z=(q,n):=by simpa using h
   subst ez;rw[af]
   ·exact hq
   ·intro e;have e':q=pn:=e;rw[e',a.n]at hq;cases hq),a.l0,a.f0,a.n0,a.lf',a.ln',a.fn'⟩
def lf0(m:Int):List Int:=(List.range (m+4-1).toNat).map λk=>(1:Int)+(k:Nat)
theorem uJ{m:Int}(h:0≤m):((lf0 m).length:Int)=m+3:=by unfold lf0;rw[length_map,length_range];omega
theorem uK{m:Int}(h:m≤9):∀x∈lf0 m,1≤x∧x≤12:=λx hx=>by
 unfold lf0 at hx;obtain⟨k,hk,rfl⟩:=mem_map.mp hx;have:=mem_range.mp hk;omega
theorem wL(m:Int):(lf0 m).Nodup:=by
 unfold lf0 Nodup;rw[pairwise_map];exact List.nodup_range.imp λh e=>h (by omega)
theorem Bd.zero{m:Int}(h:m≤9):Bd [] (lf0 m):=⟨.nil,by show(([]:List Int)++lf0 m).Nodup;rw[nil_append];exact wL m,uK h,by unfold TW.cn nds;simp,by simp⟩
def cA(zs:ZN):List (Key×V):=zs.map λz=>((Sum.inl z.2.num:Key),V.ref z.1)
theorem lj{zs:ZN}(hn:((nds zs).map (·.num)).Nodup){z:Addr×Nd}(hz:z∈zs):aN (cA zs) (Sum.inl z.2.num:Key)=some (.ref z.1):=by
 induction zs with
 |nil=>simp at hz
 |cons y zs ih =>
  have hn':y.2.num∉(nds zs).map (·.num)∧((nds zs).map (·.num)).Nodup:=by simpa [nds]using hn
  show aN (((Sum.inl y.2.num:Key),V.ref y.1)::cA zs) _=_;rcases mem_cons.mp hz with e|hz'
  ·subst e;exact aW rfl
  ·rw[aO]
   ·exact ih hn'.2 hz'
   ·intro e;injection e with e
    exact hn'.1 (mem_map.mpr ⟨z.2,mem_map.mpr ⟨z,hz',rfl⟩,e.symm⟩)
theorem om{zs:ZN}{k:Int}(h:∀z∈zs,z.2.num≠k):aN (cA zs) (Sum.inl k:Key)=none:=by
 induction zs with
 |nil=>rfl
 |cons y zs ih =>
  show aN (((Sum.inl y.2.num:Key),V.ref y.1)::cA zs) _=_;rw[aO]
  ·exact ih λz hz=>h z (mem_cons_of_mem _ hz)
  ·intro e;injection e with e
   exact h y (by simp) e
def ix(H:Hp)(d:Addr)(zs:ZN):Prop:=∃o,H d=some (.frz o (.dK (cA zs)))
theorem ix.same{H H':Hp}{d:Addr}{zs:ZN}(h:ix H d zs)(s:Same H H'):ix H' d zs:=let⟨o,e⟩:=h;⟨o,s _ _ e⟩
theorem ix.get{H:Hp}{d:Addr}{zs:ZN}(h:ix H d zs)(hn:((nds zs).map (·.num)).Nodup){z:Addr×Nd}(hz:z∈zs):ci H d (.int z.2.num) (some (.ref z.1)):=by
 obtain⟨o,e⟩:=h;exact .inl ⟨cA zs,Sum.inl z.2.num,.inr ⟨o,e⟩,rfl,(lj hn hz).symm⟩
theorem ix.not{H:Hp}{d:Addr}{zs:ZN}(h:ix H d zs){k:Int}(hk:∀z∈zs,z.2.num≠k):ci H d (.int k) none:=by
 obtain⟨o,e⟩:=h;exact .inl ⟨cA zs,Sum.inl k,.inr ⟨o,e⟩,rfl,(om hk).symm⟩
theorem bc{ns:List Nd}(T:TW.Tree1 ns):(ns.map (·.num)).Nodup:=by
 have h:=T.rise;unfold TW.eQ at h;unfold Nodup;rw[pairwise_map];exact h.imp λh e=>by omega
theorem uL{ys:List V}{zs:ZN}{H:Hp}{p:Addr}{g:Addr×Nd→List V}(hlen:ys.length=zs.length)(h:∀(i:Nat) y,ys[i]?=some y→∃q z,zs[i]?=some z∧y=.ref q∧q≠p∧H q=some (.tup (g z))):
  ∃as:List (Addr×(Addr×Nd)),as.map (·.2)=zs∧ys=(as.map (·.1)).map V.ref∧∀a∈as,a.1≠p∧H a.1=some (.tup (g a.2)):=by
 induction ys generalizing zs with
 |nil =>
  have:zs=[]:=length_eq_zero_iff.mp hlen.symm;subst this;exact⟨[],rfl,rfl,by simp⟩
 |cons y ys ih =>
  cases zs with
  |nil=>simp at hlen
  |cons z zs =>
   obtain⟨as,e1,e2,e3⟩:=ih (zs:=zs) (by simpa using hlen) λi x hx=>by simpa using h (i+1) x (by simpa using hx)
   obtain⟨q,z',f1,f2,f3,f4⟩:=h 0 y rfl;have:z=z':=by simpa using f1
   subst this;refine⟨(q,z)::as,by simp[e1],by simp[e2,f2],λa ha=>?_⟩;rcases mem_cons.mp ha with rfl|ha
   ·exact⟨f3,f4⟩
   ·exact e3 a ha
theorem mq{κ:Type}[DecidableEq κ]{kvs:List (κ×V)}(hn:(kvs.map (·.1)).Nodup){k:κ}{v:V}(h:(k,v)∈kvs):aN kvs k=some v:=by
 induction kvs with
 |nil=>simp at h
 |cons y kvs ih =>
  have hn':y.1∉kvs.map (·.1)∧(kvs.map (·.1)).Nodup:=by simpa using hn
  rcases mem_cons.mp h with e|h'
  ·subst e;exact aW rfl
  ·rw[aO]
   ·exact ih hn'.2 h'
   ·intro e;exact hn'.1 (mem_map.mpr ⟨_,h',e.symm⟩)
theorem uM{κ:Type}[DecidableEq κ]{kvs:List (κ×V)}{k:κ}(h:k∉kvs.map (·.1)):aN kvs k=none:=by
 induction kvs with
 |nil=>rfl
 |cons y kvs ih =>
  have h':¬k=y.1∧k∉kvs.map (·.1):=by simpa using h
  rw[aO (λe=>h'.1 e.symm)];exact ih h'.2
theorem ll{zs:ZN}{k:Int}{q:List Str}(T:TW.Tree1 (nds zs))(h:TW.PathTo (nds zs) k q)(hk:k≠0):∃z∈zs,z.2.num=k∧∃q',q=q'++[z.2.nm]∧TW.PathTo (nds zs) z.2.par q':=by
 cases h with
 |top=>exact absurd rfl hk
 |@node n q' hm hq' =>
  obtain⟨z,hz,rfl⟩:=mem_map.mp hm;exact⟨z,hz,rfl,q',rfl,hq'⟩
def cB(P:Program)(w:World)(K:PySem.W.Frag)(mg:Str→Option Value)(base:Heap)(k:Nat)(x:Str)(ps:List Str)(sp:Sp):Prop:=∃f fd,FnOk P w K mg base (CX1 P w) k f fd ps sp∧mg x=some (.ref f)∧keepIn K (.ref f)=true∧cb K fd ps []
structure Tre(H:Hp)(t:Addr)(zs:ZN):Prop where
 tup:H t=some (.tup (aR zs))
 nod:At H zs
 tr:TW.Tree1 (nds zs)
 len:zs.length≤30
theorem Tre.same{H H':Hp}{t:Addr}{zs:ZN}(h:Tre H t zs)(s:Same H H'):Tre H' t zs:=⟨s _ _ h.tup,h.nod.same s,h.tr,h.len⟩
theorem qH{ns:List Nd}(T:TW.Tree1 ns){f:Int}{dn:List Int}{fd:List Nd}(wk:TW.Walk ns f dn fd []):(fd.map (·.num)).Nodup:=by
 have h:=bc T;have:(fd.map (·.num)).Perm ((ns.filter (TW.eE dn)).map (·.num)):=wk.perm.map _;exact this.nodup_iff.mpr (h.sublist (filter_sublist.map _))
theorem _root_.L2.Same.rd{H H':Hp}(s:Same H H'){a:Addr}{u:HO}(r:Rd H a u):Rd H' a u:=by
 rcases r with r|⟨o,r⟩
 ·exact .inl (s _ _ r)
 ·exact .inr ⟨o,s _ _ r⟩
def cT(as:List (Addr×(Addr×Nd))):List (Key×V):=as.map λa=>((Sum.inl a.2.2.num:Key),V.ref a.1)
def eF(n:Nd):List V:=[.int n.par,.str n.nm,stV n.st]
structure Book(H:Hp)(d:Addr)(as:List (Addr×(Addr×Nd)))(zs:ZN):Prop where
 dict:Rd H d (.dK (cT as))
 of:as.map (·.2)=zs
 at':∀a∈as,H a.1=some (.tup (eF a.2.2))
theorem Book.same{H H':Hp}{d:Addr}{as:List (Addr×(Addr×Nd))}{zs:ZN}(b:Book H d as zs)(s:Same H H'):Book H' d as zs:=⟨s.rd b.dict,b.of,λa ha=>s _ _ (b.at' a ha)⟩
theorem jl{as:List (Addr×(Addr×Nd))}{zs:ZN}(h:as.map (·.2)=zs):(cT as).map (·.1)=((nds zs).map (·.num)).map (Sum.inl:Int→Key):=by
 rw[←h];unfold cT nds;simp only[map_map];rfl
theorem sa{as:List (Addr×(Addr×Nd))}{zs:ZN}(h:as.map (·.2)=zs)(hn:((nds zs).map (·.num)).Nodup):((cT as).map (·.1)).Nodup:=by
 rw[jl h];unfold Nodup at hn⊢;rw[pairwise_map];exact hn.imp λh e=>h (by injection e)
theorem Book.get{H:Hp}{d:Addr}{as:List (Addr×(Addr×Nd))}{zs:ZN}(b:Book H d as zs)(hn:((nds zs).map (·.num)).Nodup){z:Addr×Nd}(hz:z∈zs):∃q,ci H d (.int z.2.num) (some (.ref q))∧H q=some (.tup (eF z.2)):=by
 have:z∈as.map (·.2):=by rw[b.of];exact hz
 obtain⟨a,ha,rfl⟩:=mem_map.mp this;refine⟨a.1,.inl ⟨cT as,Sum.inl a.2.2.num,b.dict,rfl,?_⟩,b.at' a ha⟩;exact(mq (sa b.of hn) (mem_map.mpr ⟨a,ha,rfl⟩)).symm
def fk(ns:List Nd)(k:Int):Nat:=open Classical in if h:∃p,TW.PathTo ns k p then (Classical.choose h).length else 0
theorem cM{ns:List Nd}(T:TW.Tree1 ns){k:Int}{p:List Str}(h:TW.PathTo ns k p):fk ns k=p.length:=by
 unfold fk;have hx:∃p,TW.PathTo ns k p:=⟨p,h⟩;rw[dif_pos hx];rw[(Classical.choose_spec hx).uniq T h]
theorem wM(n:Nd):atI (eF n) 0=some (.int n.par):=rfl
theorem ye(n:Nd):atI (eF n) 1=some (.str n.nm):=rfl
abbrev se(x:Str)(mg:Str→Option Value)(base:Heap)(C:Addr):Prop:=PyProof.Rows.OwnCls x C bmV "ValueError.__new__" mg base
theorem uN(o:Option Int):(!decide (stV o=V.non))=o.isSome:=by cases o<;>simp[stV]
theorem ce(zs:ZN):zs.map (λz=>V.ref z.1)=aR zs:=by simp[aR]
def ze:TW.Wd→Str
 |.known=>"Known"
 |.noNode=>"NoNode"
 |.notFile=>"NotFile"
 |.notFolder=>"NotFolder"
 |.inside=>"Inside"
 |.taken=>"Taken"
abbrev uO(mg:Str→Option Value)(base:Heap)(cls:TW.Wd→Addr):Prop:=∀w,se (ze w) mg base (cls w)
structure Outs(H:Hp)(t:List Nd)(d:TW.Deed Str)(cls:TW.Wd→Addr)(Q:VK)(E:XK):Prop where
 ok:∀us t' H',Same H H'→H' t'=some (.tup (aR us))→At H' us→TW.Told t d (.inr (nds us))→Q (.ref t') H'
 no:∀w H',Same H H'→TW.Told t d (.inl w)→E (.ref (cls w)) none H'
theorem mr{K:PySem.W.Frag}{H:Hp}{l:Addr}{zs:ZN}{Q:VK}(hl:SqL K H l (aR zs)∨SqT K H l (aR zs))(hA:At H zs)(hn:((nds zs).map (·.num)).Nodup)(h64:zs.length<64)(q:∀us t' H',Same H H'→H' t'=some (.tup (aR us))→At H' us→us.Perm zs→TW.eQ (nds us)→Q (.ref t') H'):
  ∃l',∃ts:List gr,[V.ref l]=[V.ref l']∧(SqL K H l' ((ts.map (·.1)).map V.ref)∨SqT K H l' ((ts.map (·.1)).map V.ref))∧(∀z∈ts,H z.1=some (.tup (.int z.2.1::z.2.2)))∧(ts.map (·.2.1)).Nodup∧ts.length<64 ∧
   ∀ts':List gr,ts'.Perm ts→ts'.Pairwise (λa b=>a.2.1<b.2.1)→∀p,H p=none→∃p' ys,[V.ref p]=[V.ref p']∧((SqL K (upd H p (.lst ((ts'.map (·.1)).map V.ref))) p' ys∧∀l,upd H p (.lst ((ts'.map (·.1)).map V.ref)) l=none→Q (.ref l) (upd (upd H p (.lst ((ts'.map (·.1)).map V.ref))) l (.tup ys))) ∨
    (SqT K (upd H p (.lst ((ts'.map (·.1)).map V.ref))) p' ys∧Q (.ref p') (upd H p (.lst ((ts'.map (·.1)).map V.ref))))):=by
 have hnum:(zs.map tp).map (·.2.1)=(nds zs).map (·.num):=by
  unfold nds;simp only[map_map];rfl
 refine⟨l,zs.map tp,rfl,by rw[iJ];exact hl,λz hz=>?_,by rw[hnum];exact hn,by rw[length_map];exact h64,λts pm up p hp=>?_⟩
 ·obtain⟨y,hy,rfl⟩:=mem_map.mp hz;exact hA y hy
 ·obtain⟨pm2,eb⟩:=back pm;have er:(ts.map (·.1)).map V.ref=aR (ts.map un):=by rw[←iJ,eb]
  rw[er];refine⟨p,_,rfl,.inl ⟨SqL.of ac,λl hl=>?_⟩⟩;refine q (ts.map un) l _ ((ae hp).trans (ae hl)) ac ?_ pm2 ?_
  ·intro z hz;exact((ae hp).trans (ae hl)) _ _ (hA z (pm2.mem_iff.mp hz))
  ·unfold nds TW.eQ;rw[pairwise_map];have up2:((ts.map un).map tp).Pairwise (λa b=>a.2.1<b.2.1):=by rw[eb];exact up
   rw[pairwise_map]at up2;exact up2
def vJ:TW.Deed Str→List V
 |.make n p nm st=>[.str "make",.int n,.int p,.str nm,stV st]
 |.write n st=>[.str "write",.int n,.int st]
 |.move n p nm=>[.str "move",.int n,.int p,.str nm]
 |.drop n=>[.str "drop",.int n]
theorem av{zs:ZN}{z:Addr×Nd}(h:z∈zs):z.2∈nds zs:=mem_map.mpr ⟨z,h,rfl⟩
theorem cU{zs:ZN}{n:Nd}(h:n∈nds zs):∃z∈zs,z.2=n:=mem_map.mp h
theorem eY{zs:ZN}{k:Int}(h:¬∃z∈zs,z.2.num=k):¬TW.dP (nds zs) k:=λ⟨m,hm,e⟩=>by
 obtain⟨z,hz,rfl⟩:=cU hm;exact h ⟨z,hz,e⟩
theorem mv{zs:ZN}{k:Int}{z:Addr×Nd}(hz:z∈zs)(e:z.2.num=k):TW.dP (nds zs) k:=⟨z.2,av hz,e⟩
theorem wN(n:Nd):atI (eF n) 2=some (stV n.st):=rfl
def top(i:Nat):Stmt:=PySem.Challenge.pw_treewatch_k82_whole_alike_folders.main.body.getD i (.Pass ⟨0,0,0,0⟩)
abbrev wO:Stmt:=top 10
abbrev wP:Stmt:=top 11
abbrev wQ:Stmt:=top 12
abbrev sf:Stmt:=top 13
abbrev wR:Stmt:=top 14
abbrev wS:Stmt:=top 15
abbrev uP:Stmt:=top 16
abbrev gD:Stmt:=top 18
abbrev bJ:Stmt:=top 19
abbrev be:Stmt:=top 20
abbrev aT:Stmt:=top 21
abbrev wT:Stmt:=top 23
abbrev po:Stmt:=top 24
abbrev sg:Stmt:=top 25
abbrev oo:Stmt:=top 26
abbrev sk:Stmt:=top 27
abbrev pq:Stmt:=top 28
abbrev so:Stmt:=top 29
abbrev sr:Stmt:=top 31
abbrev ss:Stmt:=top 32
abbrev gZ:Stmt:=top 33
abbrev su:Stmt:=top 34
abbrev oq:Stmt:=top 35
abbrev ou:Stmt:=top 36
abbrev jm:Stmt:=top 37
structure Txt(mg:Str→Option Value):Prop where
 isin:mg "isinstance"=none
 dict:mg "dict"=none
 len:mg "len"=none
 tuple:mg "tuple"=none
 list:mg "list"=none
 range:mg "range"=none
 sorted:mg "sorted"=none
 reversed:mg "reversed"=none
 ValueError:mg "ValueError"=none
 str:mg "str"=none
 set:mg "set"=none
 max:mg "max"=none
 min:mg "min"=none
 sum:mg "sum"=none
 zip:mg "zip"=none
 enumerate:mg "enumerate"=none
 all:mg "all"=none
 int:mg "int"=none
 bool:mg "bool"=none
 top:∃t,mg "TOP"=some (.int 0 t)
end TK
namespace L2
open PySem
theorem fsc{N P:List Str}{sc:Scope}(h1:sc.kind=.function:=by rfl)(h2:sc.isCoroutine=false:=by rfl)(h3:sc.isGenerator=false:=by rfl)(h4:N.Nodup:=by decide +kernel)(h5:N.take P.length=P:=by rfl)(h6:∀x∈P,sc.names.lookup x=some .local∨sc.names.lookup x=some .cell:=by decide +kernel)(h7:∀y∈sc.names,y.2≠.free:=by decide +kernel):FnScope N P sc:=⟨h1,h2,h3,h4,h5,h6,h7⟩
section
variable{X:Cx}{scope:Scope}{x:Str}{px pos:Pos}{elt iter c:Expr}{wi:TI}{te:TE}{tc:TT}{cl:List (Str×Addr)}{js:List Nat}{fs:List Str}
structure LcF(X:Cx)(scope:Scope)(x:Str)(px:Pos)(cl:List (Str×Addr))(js:List Nat)(fs:List Str):Prop where
 c:X.calm=true
 L:LcOk X scope cl
 n:(x::fs).length=1+js.length
 j:∀(i j:Nat) y,js[i]?=some j→(x::fs)[1+i]?=some y→X.N[j]?=some y∧Vis X.env.scope y∧X.env.scope.names.lookup y≠some .local∧((relabel scope X.env).names.lookup y=some .cell∨(relabel scope X.env).names.lookup y=some .free)
 g:∀s H fp,PG (bR X (x::fs) scope cl s H fp) (.Name x px) (bn 0)
theorem lcF(hc:X.calm=true:=by rfl)(h1:scope.kind=.function:=by rfl)(h2:closureFor scope X.env=pure cl:=by rfl)(h3:∀x∈scope.names,x.2=.local→scope.names.lookup x.1=some .local:=by decide +kernel)(h4:∀x∈scope.names,x.2≠.cell:=by decide +kernel)(h5:∀y∈cl,X.env.cells.lookup y.1=some y.2:=by intro y hy;repeat (first|cases hy;done|(rcases mem_cons.mp hy with e|hy;· rw[e];rfl)))(h6:cl.map (·.1)=fs.reverse:=by rfl)(h7:scope.names.all (λy=>!(y.2==.free)||fs.reverse.contains y.1)=true:=by decide +kernel)(h8:(x::fs).length=1+js.length:=by rfl)(h9:∀p∈js.zip fs,X.N[p.1]?=some p.2∧Vis X.env.scope p.2∧X.env.scope.names.lookup p.2≠some .local∧((relabel scope X.env).names.lookup p.2=some .cell∨(relabel scope X.env).names.lookup p.2=some .free):=by intro p hp;repeat (first|cases hp;done|(rcases mem_cons.mp hp with e|hp;· rw[e];exact⟨rfl,Or.inr (Or.inl rfl),(λh=>by first|exact absurd (show some NameKind.cell=some NameKind.local from h) (by decide)|exact absurd (show some NameKind.free=some NameKind.local from h) (by decide)),by first|exact Or.inl rfl|exact Or.inr rfl⟩)))(hn:(x::fs).Nodup:=by decide +kernel)(hl:∀n,Loc (compEnvC scope cl n X.env).scope x:=by intro _;exact Or.inl rfl)(hf:∀n,(compEnvC scope cl n X.env).scope.names.lookup x=some .local:=by intro _;rfl):LcF X scope x px cl js fs :=
 ⟨hc,LcOk.mk' fs.reverse h1 h2 h3 h4 h5 h6 h7,h8,λi j y hi hy=>h9 (j,y) (by
  rw[show(x::fs)[1+i]?=fs[i]? by rw[Nat.add_comm];rfl]at hy;exact mem_of_getElem? (List.getElem?_zip_eq_some.mpr ⟨hi,hy⟩:(js.zip fs)[i]?=some (j,y))),λs H fp=>aA (i:=0) hn rfl (hl _) (.inr (hf _))⟩
theorem sv(L:LcF X scope x px cl js fs)(hi:PI X (.Name x px) iter wi)(he:∀s H fp,PE (bR X (x::fs) scope cl s H fp) elt te)(hs:∀x,foldedSetIterable iter X.env x=pure x:=by intro _;rfl):PE X (.ListComp elt [⟨.Name x px,iter,[],0⟩] scope pos) (tLc 1 js wi (bn 0) te):=ic L.c L.L L.n L.j hi L.g he hs
theorem ixT{a b:Expr}{ta tb:TE}(K:PySem.W.Frag)(ha:PE X a ta)(hb:PE X b tb)(hs:oU b:=by exact λ_ _=>rfl)(hK:X.K=K:=by rfl):PE X (.Subscript a b pos) (tOp (gf K) ta tb):=by
 subst hK;exact aD ax ha hb hs
end
end L2
namespace TK
open PySem L2
theorem uQ{X:Cx}{k:Nat}{y:Str}{ps:List Str}{sp:Sp}{e:Expr}{es:List Expr}{p pos:Pos}{t:TA}(C:Has X.prog X.w X.K X.mg X.base k y ps sp)(hr:Room k X.A)(ha:PA X (e::es) t)(hg:Gl X y:=by rfl)(hdb:(y==("__debug__":Str))=false:=by decide)(he:starEach (e::es) X.env=(false,eval e X.env)::starEach es X.env:=by rfl)(hpl:(backTo pos (starEach es X.env)).any (·.1)=false:=by rfl):
  PE X (.Call (.Name y p) (e::es) [] pos) (lM sp [] E0 t):=by
 obtain⟨f,fd,G,m,kk,b⟩:=C;exact am G hr hg m kk b .nil aU ha hdb he hpl
theorem _root_.L2.Fun.okA{P:Program}{w:World}{K:PySem.W.Frag}{mg:Str→Option Value}{base:Heap}{x qual:Str}{st:Stmt}{f:Addr}{fd:FuncData}{N ps:List Str}{k:Nat}{sp:Sp}(F:Fun K x qual st f fd)(S:FnScope N ps (ai st))(hbody:∀(cdv:Value) (A:Around) (outer:List Env) (s:Shared) (H:Hp) (vs:List V) (Q:VK) (E:XK),Room k (A.deeper (PyProof.Rows.envOfC qual (ai st) s.heap.objs.size f cdv))→sp vs H Q E →
   ∃t,PSs (fZ CX0 P w K mg base N qual (ai st) f cdv A outer s H E).nox (bb st) t∧t {nx:=λ_ H'=>Q .non H',rt:=Q} (start N vs) H)(len:∀vs H Q E,sp vs H Q E→vs.length=ps.length:=by intro vs H Q E h;repeat first|(obtain⟨rfl,_⟩:=h;rfl)|obtain⟨_,h⟩:=h):FnOk P w K mg base CX0 (k+1) f fd ps sp:=F.ok S len hbody
end TK
namespace L2
open PySem PySem.Spec PyProof.Rows
section
variable{prog:Program}{w:World}{K:Type}[DecidableEq K](knd:PySem.KeyKind prog w K)
inductive RefsAre(h:Heap):List (List K)→List Value→Prop
 |nil:RefsAre h [] []
 |cons {k:List K} {a:Addr} {ks:List (List K)} {vs:List Value}:IsTupleKey knd h k a→RefsAre h ks vs→RefsAre h (k::ks) (.ref a::vs)
def bO(h:Heap)(ks:List (List K))(a:Addr):Prop:=∃o items n,h.get? a=some o∧o.cls=.type "tuple"∧o.data=.seq items n∧RefsAre knd h ks items.toList
variable{knd}
theorem RefsAre.inj{h:Heap}{x y:List (List K)}{vs:List Value}(hx:RefsAre knd h x vs)(hy:RefsAre knd h y vs):x=y:=by
 induction hx generalizing y with
 |nil=>cases hy;rfl
 |cons h1 _ ih =>
  cases hy with
  |cons h2 t2=>rw[h1.inj h2,ih t2]
theorem RefsAre.mono{h h':Heap}(m:∀k a,IsTupleKey knd h k a→IsTupleKey knd h' k a){x:List (List K)}{vs:List Value}(hx:RefsAre knd h x vs):RefsAre knd h' x vs:=by
 induction hx with
 |nil=>exact .nil
 |cons h1 _ ih=>exact .cons (m _ _ h1) ih
theorem bO.typeIs{s:Shared}{ks:List (List K)}{a:Addr}(x:bO knd s.heap ks a):s.TypeIs (.ref a) "tuple":=let⟨o,_,_,ho,hc,_⟩:=x;⟨o,ho,hc⟩
theorem bO.inj{h:Heap}{a:Addr}{x y:List (List K)}(hx:bO knd h x a)(hy:bO knd h y a):x=y:=by
 obtain⟨o,items,n,ho,_,hd,hi⟩:=hx;obtain⟨o',items',n',ho',_,hd',hi'⟩:=hy;obtain rfl:o=o':=Option.some.inj (ho.symm.trans ho');rw[hd]at hd';injection hd' with h1 _
 subst h1;exact hi.inj hi'
theorem bO.keeps{h h':Heap}{ks:List (List K)}{a d:Addr}{o:Obj}{es ep}(x:bO knd h ks a)(ho:h.get? d=some o)(hd:o.data=.dict es ep)(hs:SameBut d h h'):bO knd h' ks a:=by
 obtain⟨o',items,n,ho',hc,hd',hi⟩:=x;have hne:a≠d:=by
  rintro rfl;obtain rfl:o'=o:=Option.some.inj (ho'.symm.trans ho);rw[hd]at hd';exact nomatch hd'
 exact⟨o',items,n,(hs.2 a hne).trans ho',hc,hd',hi.mono λk b hb=>hb.keeps ho hd hs⟩
def sw(knd:PySem.KeyKind prog w K)(ks:List (List K)):Int:=reduceHash (Builtin.Tuple.tupleHashOf (ks.map (tupleKeyHash knd)))
def ow(ks:List (List K)):Nat:=(ks.map λk=>k.length+1).sum+1
variable{A:Around}{E:Value→Shared→Prop}{s:Shared}
theorem mw{ks:List (List K)}{a:Addr}{Q:Int→Shared→Prop}(hu:A.units+4<cLine)(hk:bO knd s.heap ks a)(h:Q (sw knd ks) {s with toks:=s.toks+ow ks}):wpAny (model prog w) A (pyHash (.ref a)) Q E s:=by
 have hT:=hk.typeIs;obtain⟨o,items,n,ho,_,hd,hi⟩:=hk;unfold pyHash
 first|unfold pyHashByItsType|skip
 first|refine wpAny_bind (wpAny_cRoomFor_or (.inr (by omega)) ?_)|skip
 refine wpAny_bind (wpAny_specialOf hT F.slot_tuple_hash.lookup ?_);show wpAny _ _ (if (some (builtin "tuple.__hash__")==some Value.none)=true then _ else _) Q E s
 rw[if_neg (by rw[beq_builtin_none];exact Bool.false_ne_true)];refine wpAny_bind (wpAny_specialOf hT F.slot_tuple_hash.lookup ?_);show wpAny _ _ (callSpecialIfBoundUnlessNone? (.ref a) "__hash__" _ >>= _) Q E s;refine wpAny_bind (wpAny_callSpecialIfBoundUnlessNone?_slot hT F.slot_tuple_hash (wpAny_call_entry F.slot_tuple_hash hT F.entry_tuple_hash ?_ (F.args_tuple_hash_1 _)));show wpAny _ _ (Builtin.Tuple.tupleItemsOf (.ref a) >>= _) _ _ s;refine wpAny_bind (wpAny_tupleItemsOf ho hd ?_);refine wpAny_bind ?_;rw[←forIn_toList];refine wpAny_forIn_list _
  (λrest (b:Array Int) s'=>∃done left,ks=done++left∧RefsAre knd s.heap left rest∧b.toList=done.map (tupleKeyHash knd)∧s'={s with toks:=s.toks+(done.map λk=>k.length+1).sum})
  _ ?_ ?_ _ _ ⟨[],ks,rfl,hi,rfl,rfl⟩
 ·rintro x rest b s' ⟨done,left,rfl,hl,hb,rfl⟩;cases hl with
  |@cons k c ks' _ h1 hl' =>
   refine wpAny_bind (wpAny_pyHash_tuple (ks:=k) (by first|omega|(simp;omega)) h1 ?_)
   first
    |exact wpAny_pure ⟨done++[k],ks',by simp,hl',by simp[hb],by simp[add_assoc]⟩
    |exact wpAny_bind (wpAny_pure (wpAny_pure ⟨done++[k],ks',by simp,hl',by simp[hb],by simp[add_assoc]⟩))
 ·rintro b s' ⟨done,left,rfl,hl,hb,rfl⟩;cases hl;rw[append_nil]at h;show wpAny _ _ (retInt (Builtin.Tuple.tupleHashOf b.toList)) _ _ _;rw[hb];refine wpAny_ret_mkInt ?_;show wpAny _ _ (if (decide (-(2:Int) ^ 63≤Builtin.Tuple.tupleHashOf (done.map (tupleKeyHash knd)))&&decide (Builtin.Tuple.tupleHashOf (done.map (tupleKeyHash knd))<2 ^ 63))=true then _ else _) Q E _
  unfold sw reduceHash ow at h
  by_cases hr:(decide (-(2:Int) ^ 63≤Builtin.Tuple.tupleHashOf (done.map (tupleKeyHash knd)))&&decide (Builtin.Tuple.tupleHashOf (done.map (tupleKeyHash knd))<2 ^ 63))=true
  ·rw[if_pos hr];rw[if_pos hr]at h;exact wpAny_pure (by simpa [add_assoc]using h)
  ·rw[if_neg hr];rw[if_neg hr]at h;exact wpAny_bind (wpAny_rule (wpAny_pure (by simpa [add_assoc]using h)))
theorem sx{x y:List (List K)}{a b:Addr}{P:PySem.Fin→Shared→Prop}(hu:A.units+2<cLine)(hx:bO knd s.heap x a)(hy:bO knd s.heap y b)(h:P (.done (.ret (.bool (decide (x=y))))) s):
  wpAny (model prog w) A (Builtin.«tuple.__eq__» ⟨[.ref a,.ref b],[]⟩) P E s:=by
 have hTb:=hy.typeIs;obtain⟨oa,xs,na,hoa,_,hda,hia⟩:=hx;obtain⟨ob,ys,nb,hob,_,hdb,hib⟩:=hy;show wpAny _ _ (isInstance (.ref b) (.type "tuple") >>= _) _ _ s;refine wpAny_bind (wpAny_isInstance hTb isSubtype_tuple_tuple ?_);simp only[Bool.not_true,false_eq_true,if_false];refine wpAny_bind (wpAny_tupleItemsOf hoa hda ?_);refine wpAny_bind (wpAny_tupleItemsOf hob hdb ?_);refine wpAny_bind ?_;refine wpAny_forIn_list _
  (λrest r s'=>r.1=none∧s'=s∧∃x' y' xs' ys',rest=List.zip xs' ys'∧RefsAre knd s.heap x' xs'∧RefsAre knd s.heap y' ys'∧decide (x'=y')=decide (x=y)∧(xs'.length==ys'.length)=(xs.size==ys.size))
  _ ?_ ?_ _ _ ⟨rfl,rfl,x,y,xs.toList,ys.toList,rfl,hia,hib,rfl,by simp⟩
 ·rintro⟨u,v⟩ rest r s' ⟨hr,rfl,x',y',xs',ys',hz,hx',hy',hdec,hlen⟩;cases hx' with
  |nil=>simp at hz
  |@cons k1 u' x'' xs'' h1 hx'' =>
   cases hy' with
   |nil=>simp at hz
   |@cons k2 v' y'' ys'' h2 hy'' =>
    simp only[zip_cons_cons,List.cons.injEq,Prod.mk.injEq]at hz;obtain⟨⟨rfl,rfl⟩,rfl⟩:=hz;refine wpAny_bind (wpAny_eqBool_tuple (x:=k1) (y:=k2) (by omega) h1 h2 ?_)
    by_cases hk:k1=k2
    ·subst hk;rw[decide_eq_true rfl];simp only[Bool.not_true,false_eq_true,if_false];refine wpAny_pure ⟨rfl,rfl,x'',y'',xs'',ys'',rfl,hx'',hy'',?_,by simpa using hlen⟩
     rw[←hdec]
     by_cases hxy:x''=y''
     ·simp[hxy]
     ·simp[hxy]
    ·rw[decide_eq_false hk];simp only[Bool.not_false,if_true];have hf:decide (x=y)=false:=by rw[←hdec];simp[hk]
     rw[hf]at h;exact wpAny_bind (wpAny_pure (wpAny_pure (wpAny_pure h)))
 ·rintro⟨r1,r2⟩ s' ⟨hr,rfl,x',y',xs',ys',hz,hx',hy',hdec,hlen⟩;simp only at hr;subst hr;refine wpAny_pure ?_;have hfin:(xs.size==ys.size)=decide (x=y):=by
   rw[←hdec,←hlen];cases hx' with
   |nil =>
    cases hy' with
    |nil=>simp
    |cons _ _=>simp
   |cons _ _ =>
    cases hy' with
    |nil=>simp
    |cons _ _=>simp at hz
  show P (.done (.ret (.bool (xs.size==ys.size)))) s';rw[hfin];exact h
theorem my{x y:List (List K)}{a b:Addr}{Q:Bool→Shared→Prop}(hu:A.units+4<cLine)(hx:bO knd s.heap x a)(hy:bO knd s.heap y b)(h:Q (decide (x=y)) s):
  wpAny (model prog w) A (eqBool (.ref a) (.ref b)) Q E s:=by
 unfold eqBool
 try with_reducible refine wpAny_holding ?_
 show wpAny _ _ (if (Value.ref a==Value.ref b)=true then _ else _) Q E s
 by_cases hab:(Value.ref a==Value.ref b)=true
 ·rw[if_pos hab];have e:a=b:=by have:=eq_of_beq hab;injection this
  subst e;obtain rfl:=hx.inj hy;exact wpAny_bind (wpAny_rule (wpAny_pure (by simpa using h)))
 ·rw[if_neg hab];exact wpAny_bind (wpAny_richCompare_same_room (op:=.Eq) hx.typeIs hy.typeIs F.slot_tuple_eq
   (wpAny_call_entry F.slot_tuple_eq hx.typeIs F.entry_tuple_eq (sx (by first|omega|(simp;omega)) hx hy ⟨_,rfl,(λe=>nomatch e),wpAny_truthy_bool h⟩) (F.args_tuple_eq_2 _ _)) (by omega))
theorem wU{m:Nat}{ks:List K}{a:Addr}{Q:Bool→Shared→Prop}(hk:IsTupleKey knd s.heap ks a)(h:Q true s):wpAny (model prog w) A (eqIsQuiet (m+1) (.ref a)) Q E s:=by
 have hT:=hk.typeIs;obtain⟨o,items,n,ho,_,hd,hi⟩:=hk;unfold eqIsQuiet;refine wpAny_bind (wpAny_specialOf hT F.slot_tuple_eq.lookup ?_);show wpAny _ _ (isInstance (.ref a) (.type "tuple") >>= _) _ _ s;refine wpAny_bind (wpAny_isInstance hT isSubtype_tuple_tuple ?_);simp only[Bool.not_true,false_eq_true,if_false];refine wpAny_bind (wpAny_seqItems ho hd ?_);refine wpAny_bind ?_;show wpAny _ _ (forIn items _ _) _ _ s;rw[←forIn_toList];refine wpAny_forIn_list _ (λrest r s'=>r.1=none∧s'=s∧∀v∈rest,carriedByValue v=true) _ ?_ ?_ _ _ ⟨rfl,rfl,hi.byValue⟩
 ·rintro v rest r s' ⟨hr,rfl,hall⟩;rw[eqIsQuiet_byValue _ (hall v mem_cons_self)];refine wpAny_bind (wpAny_pure ?_);simp only[Bool.not_true,false_eq_true,if_false];exact wpAny_pure ⟨rfl,rfl,λu hu'=>hall u (mem_cons_of_mem _ hu')⟩
 ·rintro⟨r1,r2⟩ s' ⟨hr,rfl,_⟩;simp only at hr;subst hr;exact wpAny_pure h
theorem wV{ks:List (List K)}{a:Addr}{Q:Bool→Shared→Prop}(hk:bO knd s.heap ks a)(h:Q true s):wpAny (model prog w) A (eqIsQuiet 8 (.ref a)) Q E s:=by
 have hT:=hk.typeIs;obtain⟨o,items,n,ho,_,hd,hi⟩:=hk;unfold eqIsQuiet;refine wpAny_bind (wpAny_specialOf hT F.slot_tuple_eq.lookup ?_);show wpAny _ _ (isInstance (.ref a) (.type "tuple") >>= _) _ _ s;refine wpAny_bind (wpAny_isInstance hT isSubtype_tuple_tuple ?_);simp only[Bool.not_true,false_eq_true,if_false];refine wpAny_bind (wpAny_seqItems ho hd ?_);refine wpAny_bind ?_;show wpAny _ _ (forIn items _ _) _ _ s;rw[←forIn_toList];refine wpAny_forIn_list _ (λrest r s'=>r.1=none∧s'=s∧∃x,RefsAre knd s.heap x rest) _ ?_ ?_ _ _ ⟨rfl,rfl,ks,hi⟩
 ·rintro v rest r s' ⟨hr,rfl,x,hall⟩;cases hall with
  |cons h1 h2 =>
   refine wpAny_bind (wU (m:=6) h1 ?_);simp only[Bool.not_true,false_eq_true,if_false];exact wpAny_pure ⟨rfl,rfl,_,h2⟩
 ·rintro⟨r1,r2⟩ s' ⟨hr,rfl,_⟩;simp only at hr;subst hr;exact wpAny_pure h
end
def jn{prog:Program}{w:World}{K:Type}[DecidableEq K](knd:PySem.KeyKind prog w K):HeapKind prog w (List (List K)) where
 is:=bO knd
 hash:=sw knd
 draws:=ow
 room:=λA=>A.units+4<cLine
 inj:=λhx hy=>hx.inj hy
 keeps:=λx ho hd hs=>x.keeps ho hd hs
 pyHash:=λhu hk h=>mw hu hk h
 eqBool:=λhu hx hy h=>my hu hx hy h
 quiet:=λhk h=>wV hk h
end L2
namespace TB
open PySem SetTable
section
variable{prog:Program}{w:World}{A:Around}{E:Value→Shared→Prop}{s:Shared}
end
section
variable{prog:Program}{w:World}{A:Around}{R:Result→Shared→Prop}{I:Addr}{fp wr:List Addr}{G:Array GenState→Array GenState→Prop}{n:Nat}{P:Nat→Value→Prop}{St:Nat→Shared→Prop}
end
section
variable{prog:Program}{w:World}{A:Around}{E:Value→Shared→Prop}{s:Shared}
end
end TB
namespace SRT
open PySem PySem.W PyProof.Rows
section
variable{prog:Program}{w:World}{A:Around}{E:Value→Shared→Prop}{s:Shared}
theorem mG{T:String}{r d:Addr}{n:Nat}{P:Nat→Value→Prop}{OK:Heap→Prop}{Q:List Value→Shared→Prop}(K:PySem.W.KdlSrc prog w T r d n P OK)(hh:A.handled=none)(hok:OK s.heap)(hn:n≤sizeLine)(hQ:∀h' tk acc,(∀b o,s.heap.get? b=some o→h'.get? b=some o)→s.heap.objs.size<h'.objs.size→ItemsOf P acc n→Q acc.toList {s with heap:=h',toks:=tk}):wpAny (model prog w) A (collect (.ref r)) Q E s:=by
 unfold collect;refine wpAny_bind (wpAny_runValue (codeAny_builtin entry_proto_collect' ?_));show wpAny _ _ (do again (.builtin "list.__iadd__" ⟨[←newList [],.ref r],[]⟩)) _ _ s
 refine wpAny_bind (wpAny_newList (wpAny_pure ⟨Code.quiet_builtin _ (by decide +kernel),codeAny_builtin entry_list_iadd' ?_⟩));rw[Around.under_plainId plain_list_iadd _];show wpAny _ _ (Builtin.List.listExtendWith (.ref s.heap.objs.size) (.ref r) (.ref s.heap.objs.size)) _ _ {s with heap:=s.heap.push (seqObj "list" #[] 0)}
 have hlt:=K.there _ hok;have hS:(s.heap.push (seqObj "list" #[] 0)).get? s.heap.objs.size=some (seqObj "list" #[] 0):=get?_push_size _ rfl;have key:=PySem.W.kdl_extend (A:=A) (s:={s with heap:=s.heap.push (seqObj "list" #[] 0)}) (R:=λr s'=>∃h' tk acc c',r=.ok (.ret (.ref s.heap.objs.size))∧s'={s with heap:=h',toks:=tk}∧(∀b o,s.heap.get? b=some o→h'.get? b=some o)∧h'.get? s.heap.objs.size=some {cls:=.type "list",dict:=none,data:=.seq acc c',slots:=#[]}∧ItemsOf P acc n)
  K hh (K.keep _ _ hok λb _ o e=>get?_push_of_some _ e) s.heap.objs.size (ne_of_gt hlt.1) (ne_of_gt hlt.2) (.ref s.heap.objs.size) 0 hS (λh' tk acc' c' hk hS' hacc=>⟨h',tk,acc',c',rfl,rfl,λb o e=>hk b o (ne_of_lt (lt_size e)) (get?_push_of_some _ e),hS',hacc⟩) hn
 have fin:∀(h':Heap)(tk:Nat)(acc:Array Value)(c':Nat),(∀b o,s.heap.get? b=some o→h'.get? b=some o)→h'.get? s.heap.objs.size=some {cls:=.type "list",dict:=none,data:=.seq acc c',slots:=#[]}→ItemsOf P acc n→wpAny (model prog w) A (do
   let o ← load s.heap.objs.size
   match o.data with
   |.seq xs _=>pure xs.toList
   | _=>unsupported "internal:collect") Q E {s with heap:=h',toks:=tk}:=λh' tk acc c' hk hS' hacc=>by
  refine wpAny_bind (wpAny_load hS' ?_);exact wpAny_pure (hQ h' tk acc hk (lt_size hS') hacc)
 refine wpAny_mono key (λfn s' hf=>?_) λe s' hf=>?_
 ·cases fn with
  |done f =>
   obtain⟨h',tk,acc,c',e1,e2,hk,hS',hacc⟩:=hf;cases e1;subst e2;exact fin h' tk acc c' hk hS' hacc
  |again c =>
   refine⟨hf.1,codeAny_mono hf.2 λr s' hr=>?_⟩;obtain⟨h',tk,acc,c',e1,e2,hk,hS',hacc⟩:=hr;subst e1 e2;exact fin h' tk acc c' hk hS' hacc
 ·obtain⟨h',tk,acc,c',e1,_⟩:=hf;cases e1
end
end SRT
namespace L2
open PySem PySem.Spec PyProof.Rows
section
variable{X:Cx}
theorem Inv.dK{pins:List (Addr×Obj)}{σ:St}{H:Hp}{s:Shared}(I:Inv X pins σ H s){a:Addr}{kvs:List (Key×V)}(h:Rd H a (.dK kvs)):
  kvs.length≤sizeLine∧(a==sysModules)=false∧∃vs,KV kvs vs∧s.heap.DictOf (ap X.prog X.w) a vs:=by
 rcases h with h|⟨o,h⟩
 ·obtain⟨hz,hsm,vs,rel,dd⟩:=I.hok a _ h;exact⟨hz,hsm,vs,rel,dd⟩
 ·obtain⟨_,hz,hsm,vs,rel,dd⟩:=I.hok a _ h;exact⟨hz,hsm,vs,rel,dd⟩
def dh:V→Bool
 |.non=>true
 |.int _=>true
 |.str _=>true
 |_=>false
theorem dQ{x:V}(h:dh x=true):cF x=true:=by cases x<;>first|rfl|cases h
theorem mH{x y:V}(hx:dh x=true)(hy:dh y=true):eqV x y=decide (x=y):=by
 cases x<;>cases y<;>simp_all [eqV,dh]<;>rw[Bool.eq_iff_iff]<;>simp
theorem wW{xs ys:List V}(hl:xs.length=ys.length):((List.range xs.length).all λi=>decide (xs.getD i .non=ys.getD i .non))=decide (xs=ys):=by
 rw[Bool.eq_iff_iff,all_eq_true,decide_eq_true_eq];constructor
 ·intro h;apply ext_getElem?;intro i
  by_cases hi:i<xs.length
  ·have:=h i (mem_range.mpr hi);rw[decide_eq_true_eq,getD_eq_getElem?_getD,getD_eq_getElem?_getD,getElem?_eq_getElem hi,getElem?_eq_getElem (by omega)]at this;rw[getElem?_eq_getElem hi,getElem?_eq_getElem (by omega)];exact congrArg some this
  ·rw[getElem?_eq_none (by omega),getElem?_eq_none (by omega)]
 ·intro h i hi;rw[h];simp
end
theorem gE{α:Type}[DecidableEq α]:∀{l m:List α},l.Nodup→(∀x∈l,x∈m)→l.length≤m.length
 |[],_,_,_=>zero_le _
 |x::l,m,hn,h=>by
  obtain⟨h1,h2⟩:=nodup_cons.mp hn;have hx:=h x mem_cons_self;have ih:=gE (l:=l) (m:=m.erase x) h2 λy hy=>(List.mem_erase_of_ne (by rintro rfl;exact h1 hy)).mpr (h y (mem_cons_of_mem _ hy));rw[List.length_erase_of_mem hx]at ih;have:=List.length_pos_of_mem hx;rw[length_cons];omega
section
variable{prog:Program}{w:World}{K:Type}[DecidableEq K]{knd:HeapKind prog w K}{A:Around}{E:Value→Shared→Prop}{s:Shared}
theorem mJ{d a:Addr}{xs:List (K×Addr×Value)}{k:K}{v:Value}{Q:Value→Shared→Prop}(hu:knd.room A)(hkey:knd.is s.heap k a)(hm:s.heap.DictOfH knd d xs)(there:∀p,atKey xs k=some p→Q p.2 {s with toks:=s.toks+knd.draws k})(new:atKey xs k=none→∀h',h'.DictOfH knd d (xs++[(k,a,v)])→SameBut d s.heap h'→Q v {s with heap:=h',toks:=s.toks+knd.draws k})(hsz:xs.length≤sizeLine):
  wpAny (model prog w) A (dictSetDefault d (.ref a) v) Q E s:=by
 obtain⟨o,es,ep,ho,hc,hd,he,his,hn⟩:=hm;unfold dictSetDefault
 try with_reducible refine wpAny_holding ?_
 refine wpAny_bind (knd.pyHash hu hkey ?_);refine wpAny_bind (wpAny_dictFind_heap (s:={s with toks:=s.toks+knd.draws k}) hu hkey ho hd he his hn ?_ ?_)
 ·intro hno;have hnot:k∉xs.map (·.1):=not_mem_keys_of_get hno;refine wpAny_bind (wpAny_rule (wpAny_bind (wpAny_updateDictKeys (hz:=by have e:=size_of_entries he;omega) (s:={s with toks:=s.toks+knd.draws k}) ho hd (wpAny_pure (new (atKey_none_of_get hno) _ ⟨_,_,ep+1,Heap.get?_update_self _ ho (Obj.isFreed_of_dict (Obj.data_mapDictKeys hd _)),
   hc.mapDictKeys _,Obj.data_mapDictKeys hd _,?_,?_,?_⟩ (SameBut.update ..))))))
  ·simp[he,entryOfKey]
  ·intro x hx;rcases mem_append.mp hx with hx|hx
   ·exact knd.keeps (his x hx) ho hd (SameBut.update ..)
   ·simp only[mem_singleton]at hx;subst hx;exact knd.keeps hkey ho hd (SameBut.update ..)
  ·rw[map_append,nodup_append];refine⟨hn,by simp,?_⟩;intro x hx y hy;simp only[map_cons,map_nil,mem_singleton]at hy;subst hy;exact λe=>hnot (e ▸ hx)
 ·intro j p hj;refine wpAny_bind (wpAny_dictEntries (s:={s with toks:=s.toks+knd.draws k}) ho hd ?_);rw[entry_at he j,hj];exact wpAny_bind (wpAny_rule (wpAny_pure (there p (atKey_of_get hn hj))))
theorem jG{d a:Addr}(v:Value)(hd:(d==sysModules)=false):
  MeetsIn prog w (Builtin.«dict.setdefault» ⟨[.ref d,.ref a,v],[]⟩) (λA R s=>knd.room A.in1∧∃xs k,knd.is s.heap k a∧s.heap.DictOfH knd d xs∧xs.length≤sizeLine ∧
   (∀p,atKey xs k=some p→R (.ok (.ret p.2)) {s with toks:=s.toks+knd.draws k}) ∧
   (atKey xs k=none→∀h',h'.DictOfH knd d (xs++[(k,a,v)])→SameBut d s.heap h'→R (.ok (.ret v)) {s with heap:=h',toks:=s.toks+knd.draws k})) :=
 .of_wp λA R s ⟨hu,xs,k,hk,hm,hz,h1,h2⟩=>by
  unfold Builtin.«dict.setdefault»;refine wpAny_bind ?_;unfold Builtin.Dict.keyAndDefault;refine wpAny_bind (wpAny_notOrdered_dict hm.typeIs ?_);show wpAny _ _ (pure (d,Value.ref a,some v)) _ _ s;refine wpAny_pure ?_;show wpAny _ _ (if (d==sysModules)=true then _ else (dictSetDefault d (.ref a) v >>= _)) _ _ s
  rw[if_neg (by rw[hd];exact Bool.false_ne_true)];exact wpAny_bind (mJ hu hk hm (λp hp=>wpAny_pure ⟨p.2,rfl,h1 p hp⟩) (λhn h' hm' hs'=>wpAny_pure ⟨v,rfl,h2 hn h' hm' hs'⟩) hz)
end
abbrev mO:=Option Key
def nV:mO→V
 |none=>.non
 |some k=>kV k
abbrev bf:=List (List mO)
def dE(H:Hp)(a:Addr)(k:bf):Prop:=∃bs:List Addr,H a=some (.tup (bs.map V.ref))∧Paired (λ(ks:List mO) (b:Addr)=>H b=some (.tup (ks.map nV))) k bs
theorem dE.same{H H':Hp}{a:Addr}{k:bf}(s:Same H H')(h:dE H a k):dE H' a k:=by
 obtain⟨bs,h1,h2⟩:=h;exact⟨bs,s _ _ h1,Paired.imp' (λks b e=>s _ _ e) h2⟩
def D2(P:Program)(w:World)(d:Addr)(kvs:List (bf×Addr×Int))(h:Heap):Prop:=(d==sysModules)=false∧∃xs:List (bf×Addr×Value),Paired (λ(p:bf×Addr×Int) (q:bf×Addr×Value)=>p.1=q.1∧p.2.1=q.2.1∧∃t,q.2.2=.int p.2.2 t) kvs xs ∧
 ∃o es ep,h.get? d=some o∧o.ExactDict∧o.data=.dict es ep∧es.toList=xs.map (entryOfKey (jn (jV P w)))∧(xs.map (·.1)).Nodup
theorem D2.stay{P:Program}{w:World}{d:Addr}{kvs:List (bf×Addr×Int)}:∀h1 h2:Heap,D2 P w d kvs h1→(∀o,h1.get? d=some o→h2.get? d=some o)→D2 P w d kvs h2:=λh1 h2 ⟨hd,xs,p,o,es,ep,ho,hr⟩ k=>⟨hd,xs,p,o,es,ep,k _ ho,hr⟩
section
variable{P:Program}{w:World}{H:Hp}{h:Heap}
theorem gF:∀{ks:List mO}{us:List Value},ar (ks.map nV) us→ItemsAre (jV P w) ks us
 |[],_,.nil=>.nil
 |none::ks,_,.cons r q=>by
  cases r;exact .cons rfl (gF q)
 |some (.inl i)::ks,_,.cons r q=>by
  obtain⟨t,rfl⟩:=r;exact .cons (jI i t) (gF q)
 |some (.inr x)::ks,_,.cons r q=>by
  obtain⟨t,rfl⟩:=r;exact .cons (jJ x t) (gF q)
theorem pr(hok:HOk P w H h):∀{k:bf}{bs:List Addr}{us:List Value},Paired (λ(ks:List mO) (b:Addr)=>H b=some (.tup (ks.map nV))) k bs→ar (bs.map V.ref) us→RefsAre (jV P w) h k us
 |_,_,_,.nil,.nil=>.nil
 |_,_,_,.cons e p,.cons r q=>by
  cases r;obtain⟨_,its,rv,o',e1,e2,n,e3⟩:=hok _ _ e;exact .cons ⟨o',_,n,e1,e2,e3,by simpa using gF rv⟩ (pr hok p q)
theorem dE.is(hok:HOk P w H h){a:Addr}{k:bf}(x:dE H a k):bO (jV P w) h k a:=by
 obtain⟨bs,ha,hp⟩:=x;obtain⟨_,its,rv,o',e1,e2,n,e3⟩:=hok _ _ ha;exact⟨o',_,n,e1,e2,e3,by simpa using pr hok hp rv⟩
end
section
variable{X:Cx}{pins:List (Addr×Obj)}{σ:St}{H:Hp}{s:Shared}
theorem D2.dict{P:Program}{w:World}{h:Heap}(hok:HOk P w H h){d:Addr}{kvs:List (bf×Addr×Int)}(x:D2 P w d kvs h)(hk:∀p∈kvs,dE H p.2.1 p.1):(d==sysModules)=false∧∃xs:List (bf×Addr×Value),Paired (λ(p:bf×Addr×Int) (q:bf×Addr×Value)=>p.1=q.1∧p.2.1=q.2.1∧∃t,q.2.2=.int p.2.2 t) kvs xs∧h.DictOfH (jn (jV P w)) d xs:=by
 obtain⟨hd,xs,p,o,es,ep,ho,hx,hdt,he,hn⟩:=x;refine⟨hd,xs,p,o,es,ep,ho,hx,hdt,he,λq hq=>?_,hn⟩;have key:∀{kvs:List (bf×Addr×Int)}{xs:List (bf×Addr×Value)},Paired (λ(p:bf×Addr×Int) (q:bf×Addr×Value)=>p.1=q.1∧p.2.1=q.2.1∧∃t,q.2.2=.int p.2.2 t) kvs xs→∀q∈xs,∃p∈kvs,p.1=q.1∧p.2.1=q.2.1:=λ{kvs xs} r=>by
  induction r with
  |nil=>intro q hq;cases hq
  |cons r _ ih =>
   intro q hq;rcases mem_cons.mp hq with e|e
   ·exact⟨_,mem_cons_self,by rw[e];exact⟨r.1,r.2.1⟩⟩
   ·obtain⟨p,hp,h⟩:=ih q e;exact⟨p,mem_cons_of_mem _ hp,h⟩
 obtain⟨p',hp',e1,e2⟩:=key p q hq;have:=(hk p' hp').is hok;rw[e1,e2]at this;exact this
def eI(kvs:List (bf×Addr×Int))(k:bf):Option Int:=(kvs.find? λx=>decide (x.1=k)).map (·.2.2)
theorem pA{k:bf}:∀{kvs:List (bf×Addr×Int)}{xs:List (bf×Addr×Value)},Paired (λ(p:bf×Addr×Int) (q:bf×Addr×Value)=>p.1=q.1∧p.2.1=q.2.1∧∃t,q.2.2=.int p.2.2 t) kvs xs→(atKey xs k=none→eI kvs k=none)∧∀p,atKey xs k=some p→∃m t,eI kvs k=some m∧p.2=.int m t:=λ{kvs xs} r=>by
 unfold atKey eI
 induction r with
 |nil=>exact⟨λ_=>rfl,λp h=>by cases h⟩
 |@cons p q _ _ r _ ih =>
  rw[find?_cons,find?_cons,r.1]
  by_cases e:q.1=k
  ·rw[decide_eq_true e];refine⟨λh=>(by cases h),λp' h=>?_⟩;cases h;obtain⟨t,ht⟩:=r.2.2;exact⟨_,t,rfl,ht⟩
  ·rw[decide_eq_false e];exact ih
def vK(P:Program)(w:World):V→List V→Hp→VK→Prop:=λx vs H Q=>∃d a n k kvs,x=.ref d∧vs=[.ref a,.int n]∧H d=some (.ext (D2 P w d kvs))∧(∀p∈kvs,dE H p.2.1 p.1)∧dE H a k∧kvs.length<1000∧(∀m,eI kvs k=some m→Q (.int m) H)∧(eI kvs k=none→Q (.int n) (upd H d (.ext (D2 P w d (kvs++[(k,a,n)])))))
theorem uR(hu:X.A.units+8<cLine):MtM X "dict.setdefault" (vK X.prog X.w):=by
 intro pins s σ H x vs v us Q I rx rv h;obtain⟨d,a,n,k,kvs,rfl,rfl,hd,hks,hk,hz,q1,q2⟩:=h;cases rx;obtain⟨u,u',rfl,ru,⟨t,rfl⟩⟩:=rv.two;cases ru;obtain⟨φ,_,_⟩:=I.hok d _ hd;obtain⟨hs,xs,rel,dd⟩:=φ.dict I.hok hks;have hl:=rel.length;refine call_meetsIn F.slot_dict_setdefault dd.typeIs F.entry_dict_setdefault (F.args_dict_setdefault_3 _ _ _) (jG (knd:=jn (jV X.prog X.w)) (.int n t) hs) ⟨by show X.A.in1.units+4<cLine;simp[Around.in1_units];omega,xs,k,hk.is I.hok,dd,by rw[←hl,sizeLine_eq];omega,λp hp=>?_,λhn h' dd' sb=>?_⟩
 ·obtain⟨m,t',hm,ep⟩:=(pA rel).2 p hp;exact⟨.int m,H,I.tok _,⟨t',ep⟩,q1 m hm⟩
 ·have hv:=(pA rel).1 hn;obtain⟨o,es,ep,ho,hx,hdt,he,_,hnd⟩:=dd';have new:D2 X.prog X.w d (kvs++[(k,a,n)]) h':=⟨hs,xs++[(k,a,.int n t)],Paired.snoc rel ⟨rfl,rfl,t,rfl⟩,o,es,ep,ho,hx,hdt,he,hnd⟩;exact⟨.int n,_,gh (ob:=.ext (D2 X.prog X.w d (kvs++[(k,a,n)]))) I (by rw[hd];exact True.intro) sb ⟨o,ho⟩ ⟨new,⟨o,ho⟩,D2.stay⟩,⟨t,rfl⟩,q2 hv⟩
theorem Inv.as2{d:Addr}(I:Inv X pins σ H s)(hH:H d=some (.dK [])):Inv X pins σ (upd H d (.ext (D2 X.prog X.w d []))) s:=by
 obtain⟨hz,hsm,vs,rel,o,es,ep,ho,hx,hd,hk,hp,hn⟩:=I.hok d _ hH;have e0:es.toList=[]:=by
  cases rel;generalize es.toList=l at hp⊢;cases hp;rfl
 have new:D2 X.prog X.w d [] s.heap:=⟨hsm,[],.nil,o,es,ep,ho,hx,hd,by rw[e0];rfl,nodup_nil⟩;exact I.write (t':=s.toks) (x:=d) (e:=d) (by rw[hH];trivial) (.inl rfl) (λ_ _ _ q=>q) ⟨o,ho⟩ ⟨new,⟨o,ho⟩,D2.stay⟩
def zf(P:Program)(w:World)(t:TS):TS:=λD σ H=>∃d,H d=some (.dK [])∧t D σ (upd H d (.ext (D2 P w d [])))
theorem wX{st:Stmt}{t:TS}(hs:PS X st t):PS X st (zf X.prog X.w t):=λpins s σ H D I ⟨d,h,ht⟩=>hs pins s σ _ D (I.as2 h) ht
end
theorem lm{prog:Program}{w:World}{d:Addr}(hd:(d==sysModules)=false):
  MeetsIn prog w (Builtin.«dict.__len__» ⟨[.ref d],[]⟩) (λ_ R s=>∃o es ep,s.heap.get? d=some o∧o.data=.dict es ep∧R (.ok (.ret (.int es.size s.toks))) {s with toks:=s.toks+1}) :=
 .of_wp λA R s ⟨o,es,ep,ho,hdat,h⟩=>by
  show wpAny _ _ (dictSize d >>= _) _ _ s;unfold dictSize;refine wpAny_bind (wpAny_bind (wpAny_dictEntries ho hdat (wpAny_pure ?_)));show wpAny _ _ (Builtin.Dict.pendingCount d >>= _) _ _ s;refine wpAny_bind (wpAny_pendingCount_other hd ?_);refine wpAny_ret_mkInt ?_;rw[Nat.add_zero];exact h
theorem mQ{prog:Program}{w:World}{A:Around}{E:Value→Shared→Prop}{s:Shared}{d:Addr}{o:Obj}{es:Array DictEntry}{ep:Nat}{Q:Value→Shared→Prop}(hd:(d==sysModules)=false)(ho:s.heap.get? d=some o)(hx:o.ExactDict)(hdat:o.data=.dict es ep)(hfit:(es.size:Int)<2 ^ 63)(h:Q (.int es.size (s.toks+1)) {s with toks:=s.toks+1+1}):wpAny (model prog w) A (call (.builtin "len") [.ref d]) Q E s:=by
 have ty:s.TypeIs (.ref d) "dict":=⟨o,ho,hx.1⟩;refine Calls.call_function_entry kind_len plain_len entry_len (args_len1 _) ?_;unfold Builtin.«len»;refine wpAny_bind (m:=oneArg "len" _) (wpAny_pure ?_);refine wpAny_bind (m:=callSpecial? (.ref d) (ofString "__len__")) (wpAny_callSpecial?_slot (name:=ofString "__len__") ty F.slot_dict_len
  (call_meetsIn F.slot_dict_len ty F.entry_dict_len (F.args_dict_len_1 _) (lm hd) ⟨o,es,ep,ho,hdat,?_⟩))
 show wpAny _ _ _ _ _ {s with toks:=s.toks+1}
 refine wpAny_bind (wpAny_holding (wpAny_pure ?_));refine wpAny_bind (wpAny_letGo ?_);show wpAny _ _ (if ((es.size:Nat):Int)<0 then _ else _) _ _ _
 rw[if_neg (by omega)];show wpAny _ _ (if ((es.size:Nat):Int)≥2 ^ 63 then _ else _) _ _ _
 rw[if_neg (by omega)];exact wpAny_bind (wpAny_mkInt (wpAny_pure ⟨_,rfl,h⟩))
theorem qI{X:Cx}:cq X (.builtin "len") (λxs H Q=>∃d kvs,xs=[.ref d]∧H d=some (.ext (D2 X.prog X.w d kvs))∧kvs.length≤1000∧Q (.int kvs.length) H):=by
 intro pins s σ H xs us Q I r h;obtain⟨d,kvs,rfl,hH,hn,q⟩:=h;obtain⟨u,rfl,ru⟩:=cE r;cases ru;obtain⟨⟨hd,xs,p,o,es,ep,ho,hx,hdt,he,hnd⟩,_,_⟩:=I.hok d _ hH;have hs:es.size=kvs.length:=by rw[size_of_entries he,←p.length]
 refine mQ hd ho hx hdt (by rw[hs];omega) ⟨.int kvs.length,H,I.tok _,?_,q⟩;rw[hs];exact⟨_,rfl⟩
def yf(P:Program)(w:World)(td ty tx:TE):TE:=λσ H Q=>td σ H λx H1=>∃d kvs,x=.ref d∧H1 d=some (.ext (D2 P w d kvs))∧ty σ H1 λy H2=>tx σ H2 λz H3=>vK P w (.ref d) [y,z] H3 Q
theorem uS{X:Cx}{o e f:Expr}{td ty tx:TE}{apos cpos:Pos}(hu:X.A.units+8<cLine)(ho:PE X o td)(he:PE X e ty)(hf:PE X f tx)(m:M2 X o "setdefault" apos e f cpos):PE X (.Call (.Attribute o "setdefault" apos) [e,f] [] cpos) (yf X.prog X.w td ty tx):=by
 intro pins s σ H Q I h;refine wpAny_Call_method m.base m.few m.line plainAttrs_dict slot_dict_setdefault type_dict_setdefault (thn (ho pins s σ H _ I h) λu s1 hpt=>?_);obtain⟨x,H1,I1,rx,a,kvs,ex,d,q1⟩:=hpt;subst ex;obtain rfl:u=Value.ref a:=rx;obtain⟨⟨_,xs,_,ob,es,ep,hob,hx,_⟩,_,_⟩:=I1.hok a _ d;refine⟨⟨ob,hob,hx.1⟩,λb e=>by cases e;exact⟨ob,hob,hx.2.1⟩,?_⟩;rw[m.trees];refine callWith_builtin rfl (evalArgs_plain (spliced_cons (thn (he pins s1 σ H1 _ I1 q1) λiv s2 ⟨y,H2,I2,ry,q2⟩ =>
  spliced_cons (thn (hf pins s2 σ H2 _ I2 q2) λfv s3 ⟨z,H3,I3,rz,q3⟩=>spliced_nil ?_))))
 exact uR hu pins s3 σ H3 (.ref a) [y,z] _ _ Q I3 (show aB (.ref a) (Value.ref a)from rfl) (.cons ry (.cons rz .nil)) q3
end L2
namespace TW
section
variable{S:Type}
end
end TW
namespace TW
section
variable{S:Type}
end
end TW
namespace TW
section
variable{S:Type}
end
end TW
namespace TW
section
variable{S:Type}
end
end TW
namespace TW
section
variable{S:Type}
section
variable{q:S→Bool}{t:List (Nd S)}
end
end
end TW
namespace TW
section
variable{S:Type}
section
variable{t u:List (Nd S)}{k g:Int}
end
section
variable{t u:List (Nd S)}{g:Int→Int}
end
end
end TW
namespace TK
open PySem L2
section
variable{t u:List Nd}{ws vs:List Wt}
end
section
variable{t u:List Nd}{wo wn:List Wt}{g:Int→Int}
end
section
variable{t u:List Nd}{wo wn:List Wt}{ns:List Int}
end
section
variable{t u:List Nd}{wo wn:List Wt}{G:Int}
end
section
variable{t u v:List Nd}{wo wn:List Wt}{G:Int}{g:Int→Int}
end
def iy(z:Addr×Nd):Bool:=z.2.st.isNone
def ak(zs:ZN):List Int:=(zs.filter iy).map λz=>z.2.num
def bg(zs:ZN)(k:Int):ZN:=zs.filter λz=>decide (z.2.par=k)
def dR(L:Int→Addr)(fs:List Int):List (Key×V):=fs.map λk=>((Sum.inl k:Key),V.ref (L k))
theorem gG{fs:List Int}{L:Int→Addr}{k:Int}:aN (dR L fs) (Sum.inl k:Key)=if k∈fs then some (.ref (L k))else none:=by
 unfold dR
 induction fs with
 |nil=>rfl
 |cons a r ih =>
  unfold aN at ih⊢;rw[map_cons,find?_cons]
  by_cases h:a=k
  ·subst h;simp
  ·have h1:decide ((Sum.inl a:Key)=Sum.inl k)=false:=by simp[h]
   have h2:(k∈a::r)↔k∈r:=by simp[symm h]
   simp only[h1,h2];exact ih
structure Mems(H0 H:Hp)(d:Addr)(L:Int→Addr)(fs:List Int)(ys:ZN):Prop where
 dict:H d=some (.dK (dR L fs))
 d0:H0 d=none
 at':∀k∈fs,H (L k)=some (.lst (aR (bg ys k)))∧H0 (L k)=none
 inj:∀k∈fs,∀k'∈fs,L k=L k'→k=k'
 same:Same H0 H
theorem mR{L:Int→Addr}{fs:List Int}:(dR L fs).length=fs.length:=by unfold dR;rw[length_map]
theorem Mems.more{H0 H:Hp}{d:Addr}{L:Int→Addr}{fs:List Int}(m:Mems H0 H d L fs []){k:Int}(hk:k∉fs){l:Addr}(hl:H l=none):Mems H0 (upd (upd H l (.lst [])) d (.dK (br (dR L fs) (Sum.inl k:Key) (.ref l)))) d (λj=>if j=k then l else L j) (fs++[k]) []:=by
 have hld:l≠d:=λe=>by rw[e,m.dict]at hl;cases hl
 have e1:br (dR L fs) (Sum.inl k:Key) (.ref l)=dR (λj=>if j=k then l else L j) (fs++[k]):=by
  rw[iU _ (by rw[gG,if_neg hk])];unfold dR;rw[map_append,map_cons,map_nil];show _++[((Sum.inl k:Key),V.ref l)]=_++[((Sum.inl k:Key),V.ref (if k=k then l else L k))];rw[if_pos rfl]
  congr 1
  exact map_congr_left λj hj=>by show _=((Sum.inl j:Key),V.ref (if j=k then l else L j));rw[if_neg λe=>hk (by rw[←e];exact hj)]
 have ne:∀j∈fs,L j≠l:=λj hj e=>by have:=(m.at' j hj).1;rw[e,hl]at this;cases this
 refine⟨by rw[ac,e1],m.d0,λj hj=>?_,λj hj j' hj' e=>?_,λb o hb=>?_⟩
 ·rcases mem_append.mp hj with h|h
  ·have hjk:j≠k:=λe=>hk (by rw[←e];exact h);obtain⟨h1,h2⟩:=m.at' j h;have hd:L j≠d:=λe=>by rw[e,m.dict]at h1;cases h1
   rw[if_neg hjk,af hd,af (ne j h)];exact⟨h1,h2⟩
  ·obtain rfl:=mem_singleton.mp h;rw[if_pos rfl,af hld,ac];exact⟨rfl,m.same.free hl⟩
 ·have q:∀i∈fs++[k],i≠k→i∈fs:=λi hi n=>by
   rcases mem_append.mp hi with h|h
   ·exact h
   ·exact absurd (mem_singleton.mp h) n
  by_cases h1:j=k
  ·by_cases h2:j'=k
   ·rw[h1,h2]
   ·simp only[if_pos h1,if_neg h2]at e;exact absurd e.symm (ne j' (q j' hj' h2))
  ·by_cases h2:j'=k
   ·simp only[if_neg h1,if_pos h2]at e;exact absurd e (ne j (q j hj h1))
   ·simp only[if_neg h1,if_neg h2]at e;exact m.inj j (q j hj h1) j' (q j' hj' h2) e
 ·have h1:=m.same b o hb;rw[af (ao hb m.d0),af (ao h1 hl)];exact h1
theorem Mems.next{H0 H:Hp}{d:Addr}{L:Int→Addr}{fs:List Int}{ys:ZN}(m:Mems H0 H d L fs ys){z:Addr×Nd}(hk:z.2.par∈fs):Mems H0 (upd H (L z.2.par) (.lst (aR (bg ys z.2.par)++[.ref z.1]))) d L fs (ys++[z]):=by
 obtain⟨h1,h2⟩:=m.at' _ hk;have hd:d≠L z.2.par:=λe=>by have:=m.dict;rw[e,h1]at this;cases this
 refine⟨by rw[af hd];exact m.dict,m.d0,λk hk'=>?_,m.inj,λb o hb=>?_⟩
 ·obtain⟨g1,g2⟩:=m.at' k hk';refine⟨?_,g2⟩;unfold bg;rw[filter_append]
  by_cases e:z.2.par=k
  ·subst e;rw[ac,filter_cons_of_pos (by simp),filter_nil,←ce,←ce,map_append];rfl
  ·rw[filter_cons_of_neg (by simpa using e),filter_nil,append_nil,af λq=>e (m.inj _ hk _ hk' q.symm)];exact g1
 ·rw[af (ao hb h2)];exact m.same b o hb
theorem Mems.skip{H0 H:Hp}{d:Addr}{L:Int→Addr}{fs:List Int}{ys:ZN}(m:Mems H0 H d L fs ys){z:Addr×Nd}(hk:z.2.par∉fs):Mems H0 H d L fs (ys++[z]):=by
 refine⟨m.dict,m.d0,λk hk'=>?_,m.inj,m.same⟩;obtain⟨g1,g2⟩:=m.at' k hk';refine⟨?_,g2⟩;unfold bg;rw[filter_append,filter_cons_of_neg (by simpa using λe=>hk (by rw[e];exact hk')),filter_nil,append_nil]
 exact g1
theorem mX(ys:ZN)(z:Addr×Nd):ak (ys++[z])=if iy z=true then ak ys++[z.2.num]else ak ys:=by
 unfold ak;rw[filter_append]
 by_cases h:iy z=true
 ·rw[if_pos h,filter_cons_of_pos h,map_append];rfl
 ·rw[if_neg h,filter_cons_of_neg h];simp
def ent(M:Int→Option Int)(z:Addr×Nd):List mO:=[some (.inr z.2.nm),z.2.st.map Sum.inl,(M z.2.num).map Sum.inl]
def yg:List mO→Str
 |some (.inr x)::_=>x
 |_=>""
def zg(a b:List mO):Prop:=HT.cH (yg a) (yg b)=true
def cV(zs:ZN)(M:Int→Option Int)(k:Int)(e:bf):Prop:=e.Perm ((bg zs k).map (ent M))∧e.Pairwise zg
theorem sy{zs:ZN}{M:Int→Option Int}{k k':Int}{e e':bf}(h:cV zs M k e)(h':cV zs M k' e'):e=e'↔((bg zs k).map (ent M)).Perm ((bg zs k').map (ent M)):=by
 constructor
 ·intro q;rw[q]at h;exact h.1.symm.trans h'.1
 ·intro q;have p:e.Perm e':=(h.1.trans q).trans h'.1.symm;exact p.eq_of_pairwise (λa b _ _ h1 h2=>by
   have:=HT.jc h1 h2;rw[HT.dB]at this;cases this) h.2 h'.2
def hJ(M:Int→Option Int)(k m:Int):Int→Option Int:=λn=>if n=k then some m else M n
theorem uT{M:Int→Option Int}{k m:Int}{z:Addr×Nd}(h:z.2.num≠k):ent (hJ M k m) z=ent M z:=by unfold ent hJ;rw[if_neg h]
theorem cV.set{zs:ZN}{M:Int→Option Int}{k j m:Int}{e:bf}(h:cV zs M j e)(n:∀z∈bg zs j,z.2.num≠k):cV zs (hJ M k m) j e:=by
 refine⟨?_,h.2⟩;rw[map_congr_left λz hz=>uT (n z hz)];exact h.1
structure ShM(zs:ZN)(dn:List Int)(M:Int→Option Int)(kd:List (bf×Addr×Int)):Prop where
 num:∀(j:Nat) p,kd[j]?=some p→p.2.2=(j:Int)
 dom:∀n,(M n).isSome=true↔n∈dn
 key:∀k∈dn,∃e,cV zs M k e∧eI kd e=M k
theorem ShM.start(zs:ZN):ShM zs [] (λ_=>none) []:=⟨λj p h=>by simp at h,λn=>by simp,λk h=>by cases h⟩
theorem sA{kd:List (bf×Addr×Int)}{x:bf×Addr×Int}{e:bf}{m:Int}(h:eI kd e=some m):eI (kd++[x]) e=some m:=by
 unfold eI at *;rw[List.find?_append];cases f:kd.find? (λx=>decide (x.1=e))with
 |none=>rw[f]at h;cases h
 |some y=>rw[f]at h;exact h
theorem mY{kd:List (bf×Addr×Int)}{e:bf}{m:Int}(h:eI kd e=some m):∃(j:Nat) (p:bf×Addr×Int),kd[j]?=some p∧p.1=e∧p.2.2=m:=by
 unfold eI at h;cases f:kd.find? (λx=>decide (x.1=e))with
 |none=>rw[f]at h;cases h
 |some y =>
  rw[f]at h;have hm:=List.mem_of_find?_eq_some f;have hy:=find?_some f;obtain⟨j,hj⟩:=List.getElem?_of_mem hm;exact⟨j,y,hj,by simpa using hy,Option.some.inj h⟩
section
variable{zs:ZN}{dn:List Int}{M:Int→Option Int}{kd:List (bf×Addr×Int)}{k m:Int}{e:bf}
theorem ShM.put(h:ShM zs dn M kd)(cl:∀j∈dn++[k],∀z∈bg zs j,z.2.num≠k)(he:cV zs M k e){kd':List (bf×Addr×Int)}(hn:∀(j:Nat) p,kd'[j]?=some p→p.2.2=(j:Int))(hk:k∉dn)(keep:∀e' m',eI kd e'=some m'→eI kd' e'=some m')(hv:eI kd' e=some m):ShM zs (dn++[k]) (hJ M k m) kd':=by
 refine⟨hn,λn=>?_,λj hj=>?_⟩
 ·unfold hJ
  by_cases e1:n=k
  ·rw[if_pos e1,e1];simp
  ·rw[if_neg e1,h.dom n,mem_append];simp[e1]
 ·rcases mem_append.mp hj with hj'|hj'
  ·obtain⟨e',h1,h2⟩:=h.key j hj';have ne:j≠k:=λq=>hk (by rw[←q];exact hj');refine⟨e',h1.set (cl j hj),?_⟩;have hs:=(h.dom j).mpr hj';unfold hJ;rw[if_neg ne];cases q:M j with
   |none=>rw[q]at hs;cases hs
   |some m'=>rw[q]at h2;exact keep e' m' h2
  ·obtain rfl:=mem_singleton.mp hj';exact⟨e,he.set (cl j hj),by unfold hJ;rw[if_pos rfl];exact hv⟩
theorem ShM.hit(h:ShM zs dn M kd)(cl:∀j∈dn++[k],∀z∈bg zs j,z.2.num≠k)(he:cV zs M k e)(hk:k∉dn)(hv:eI kd e=some m):ShM zs (dn++[k]) (hJ M k m) kd:=h.put cl he h.num hk (λ_ _ q=>q) hv
theorem ShM.new{a:Addr}(h:ShM zs dn M kd)(cl:∀j∈dn++[k],∀z∈bg zs j,z.2.num≠k)(he:cV zs M k e)(hk:k∉dn)(hv:eI kd e=none):ShM zs (dn++[k]) (hJ M k kd.length) (kd++[(e,a,(kd.length:Int))]):=by
 refine h.put cl he (λj p hp=>?_) hk (λ_ _ q=>sA q) ?_
 ·by_cases hj:j<kd.length
  ·rw[getElem?_append_left hj]at hp;exact h.num j p hp
  ·rw[getElem?_append_right (by omega)]at hp;have:j-kd.length=0:=by
    have:=(List.getElem?_eq_some_iff.mp hp).1;simp at this;omega
   rw[this]at hp;cases hp;show(kd.length:Int)=j;omega
 ·unfold eI at *;rw[List.find?_append];cases f:kd.find? (λx=>decide (x.1=e))with
  |some y=>rw[f]at hv;cases hv
  |none=>simp
structure Marks(zs:ZN)(M:Int→Option Int):Prop where
 dom:∀n,(M n).isSome=true↔n∈ak zs
 eq:∀k∈ak zs,∀k'∈ak zs,M k=M k'↔((bg zs k).map (ent M)).Perm ((bg zs k').map (ent M))
theorem ShM.marks(h:ShM zs dn M kd)(hd:∀n,n∈dn↔n∈ak zs):Marks zs M:=by
 refine⟨λn=>(h.dom n).trans (hd n),λk hk k' hk'=>?_⟩;obtain⟨e,h1,h2⟩:=h.key k ((hd k).mpr hk);obtain⟨e',h1',h2'⟩:=h.key k' ((hd k').mpr hk');rw[←sy h1 h1',←h2,←h2'];constructor
 ·intro q;have hs:=(h.dom k).mpr ((hd k).mpr hk);rw[←h2]at hs;cases v:eI kd e with
  |none=>rw[v]at hs;cases hs
  |some m =>
   obtain⟨j,p,g1,g2,g3⟩:=mY v;obtain⟨j',p',g1',g2',g3'⟩:=mY (q.symm.trans v);have e1:=h.num j p g1;have e2:=h.num j' p' g1';have:j=j':=by omega
   subst this;rw[g1]at g1';cases g1';rw[←g2,←g2']
 ·intro q;rw[q]
end
section
variable{P:Program}{w:World}{K:PySem.W.Frag}{mg:Str→Option Value}{base:Heap}
def pB:Sp:=λvs H Q _=>∃t f zs,vs=[.ref t,.int f]∧H t=some (.tup (aR zs))∧At H zs∧zs.length≤100∧∀fd dn l H',TW.Walk (nds zs) f dn fd []→H' l=some (.lst (dD fd))→Same H H'→Q (.ref l) H'
theorem jo:FnScope ["nodes","folder","members","node","found","pending","here"] ["nodes","folder"] (ai wO):=fsM
theorem wY{f:Addr}{fd:FuncData}(F:Fun K "numbers_inside" "numbers_inside" wO f fd)(T:Txt mg):FnOk P w K mg base CX0 1 f fd ["nodes","folder"] pB:=by
 refine F.ok jo (λvs H Q E h=>?_) (λcdv A outer s H vs Q E hr h=>?_)
 ·obtain⟨t,f,zs,rfl,_⟩:=h;rfl
 ·obtain⟨t,f,zs,rfl,ht,hA,hl,k⟩:=h;refine⟨_,ah (aw (i:=2) jo.nd rfl (Or.inl rfl) dq)
   (ah (cg PassesOwn.never rfl (dI (pv 0)) (aA (i:=3) jo.nd rfl (Or.inl rfl)) (al (ba (dm plainAttrs_list PySem.F.slot_list_append PySem.F.type_list_append bv
     (dm plainAttrs_dict slot_dict_setdefault type_dict_setdefault fu (pv 2) (aa (aD ax (pv 3) aj (λ_ _=>rfl)) (aa (bq ag) ag))) (aa (pv 3) ag)))))
   (ah (aw (i:=4) jo.nd rfl (Or.inl rfl) (bq ag))
   (ah (aw (i:=5) jo.nd rfl (Or.inl rfl) (bq (aa (pv 1) ag)))
   (ah (fR PassesOwn.never (lL (pv 5) (λ_=>rfl))
    (ah (aw (i:=6) jo.nd rfl (Or.inl rfl) (rB (pv 2) (wq plainAttrs_list slot_list_pop type_list_pop wt (pv 5)) (bq ag) ⟨rfl,rfl,rfl,rfl⟩))
    (al (cg PassesOwn.never rfl (bG (pv 6)) (aA (i:=3) jo.nd rfl (Or.inl rfl))
     (ah (ba (dm plainAttrs_list PySem.F.slot_list_append PySem.F.type_list_append bv (pv 4) (aa (aD ax (pv 3) aj (λ_ _=>rfl)) ag)))
     (al (bj (au gO (aD ax (pv 3) aj (λ_ _=>rfl)) dj (aC _)) (al (ba (dm plainAttrs_list PySem.F.slot_list_append PySem.F.type_list_append bv (pv 5) (aa (aD ax (pv 3) aj (λ_ _=>rfl)) ag)))) aH)))))))
   (al (aM (pv 4))))))),?_⟩
  refine λd hd=>?_;have z100:∀{n:Nat},n≤100→n<sizeLine:=λh=>ay (by omega);refine⟨_,rfl,t,rfl,⟨_,SqT.of (cQ hd ht)⟩,iC (xs:=aR zs) (λi σ H'=>∃L kvs on,σ=[some (.ref t),some (.int f),some (.ref d),on,none,none,none]∧Mem H H' d L kvs (zs.take i) [])
   ⟨_,_,_,rfl,Mem.start hd⟩ (λi σ H' _ h=>?_) (λi x σ H' hx h=>?_) (λσ H' h=>?_)⟩
  ·obtain⟨_,_,_,_,m⟩:=h;exact SqT.of (m.same _ _ ht)
  ·obtain⟨L,kvs,on,rfl,m⟩:=h;obtain⟨z,gz,rfl⟩:=cy hx;have mz:=mem_of_getElem? gz;have ez:zs.take (i+1)=zs.take i++[z]:=by rw[take_succ,gz];rfl
   have hkl:kvs.length≤100:=by have:=m.len;rw[length_take]at this;omega
   refine⟨_,rfl,.inr (.inr (.inl ⟨rfl,.inl ⟨_,m.dict⟩⟩)),_,rfl,z.1,_,_,_,rfl,rfl,SqT.of (m.same _ _ (hA z mz)),at1 z.2,zero_le _,λq hq=>?_⟩;have m':=m.grow (ae (o:=.lst []) hq);refine⟨d,kvs,.inl z.2.par,.ref q,rfl,rfl,m'.dict,z100 hkl,λv hv=>?_,λhn=>?_⟩
   ·rw[m.val]at hv
    by_cases h:z.2.par∈([]:List Int)∨ins (zs.take i) z.2.par=[]
    ·rw[if_pos h]at hv;cases hv
    ·rw[if_neg h]at hv;cases hv;have h2:ins (zs.take i) z.2.par≠[]:=λz=>h (.inr z);have a:=(m'.at' z.2.par (by simp) h2).1;refine⟨.inl ⟨rfl,_,SqL.of a⟩,_,rfl,_,_,_,rfl,rfl,a,?_,?_⟩
     ·refine z100 ?_;rw[bt];exact le_trans (Sublist.length_le (Sublist.trans filter_sublist (take_sublist _ _))) hl
     ·refine⟨L,kvs,_,rfl,?_⟩;rw[ez];exact m'.hit h2
   ·rw[m.val]at hn
    by_cases h:z.2.par∈([]:List Int)∨ins (zs.take i) z.2.par=[]
    ·have h2:ins (zs.take i) z.2.par=[]:=h.resolve_left (by simp);have hqd:q≠d:=λe=>by rw[e,m.dict]at hq;cases hq
     have a:upd (upd H' q (.lst [])) d (.dK (br kvs (Sum.inl z.2.par:Key) (.ref q))) q=some (.lst []):=by rw[af hqd];exact ac
     refine⟨.inl ⟨rfl,_,SqL.of a⟩,_,rfl,q,[],_,rfl,rfl,a,z100 (zero_le _),?_⟩;have fr:=m.fresh (z:=z) h2 hq;rw[←ez]at fr;exact⟨_,_,_,rfl,fr⟩
    ·rw[if_neg h]at hn;cases hn
  ·obtain⟨L,kvs,on,rfl,m⟩:=h;rw[bt,take_length]at m;refine⟨zero_le _,λpf hpf=>⟨_,rfl,aK (by simp),λpp hpp=>?_⟩⟩;have m1:=(m.grow (ae (o:=.lst []) hpf)).grow (ae (o:=.lst [.int f]) hpp);have hpf0:H pf=none:=m.same.free hpf;have hne:pp≠pf:=λe=>by rw[e,ac]at hpp;cases hpp
   have hpp0:H pp=none:=by rw[af hne]at hpp;exact m.same.free hpp
   dsimp only[bn,qV];refine fX (λσ H'=>∃L kvs dn fd pd on oh,σ=[some (.ref t),some (.int f),some (.ref d),on,some (.ref pf),some (.ref pp),oh]∧pd.length≤fd.length+1∧Mem H H' d L kvs zs dn∧TW.Walk (nds zs) f dn fd pd∧H' pf=some (.lst (dD fd))∧H' pp=some (.lst (pd.map V.int)))
    (λσ H'=>2*(zs.length-gB H' pf)+gB H' pp) ⟨L,kvs,[],[],[f],_,_,rfl,le_refl _,m1,TW.Walk.start _ _,by rw[af (symm hne),ac];rfl,ac⟩ (λσ H' h=>?_) ?_
   ·obtain⟨L,kvs,dn,fd,pd,on,oh,rfl,hpl,m,wk,ef,ep⟩:=h;refine⟨_,rfl,_,.inl ⟨_,SqL.of ep,rfl⟩,?_⟩
    by_cases hpd:pd=[]
    ·subst hpd;exact aX ⟨_,rfl,k fd dn pf H' wk ef m.same⟩
    ·obtain⟨pd',x,rfl⟩:∃pd' x,pd=pd'++[x]:=⟨pd.dropLast,pd.getLast hpd,(List.dropLast_concat_getLast hpd).symm⟩;have et:(!((pd'++[x]).map V.int).isEmpty)=true:=by simp
     rw[if_pos et];have elast:((pd'++[x]).map V.int)[((pd'++[x]).map V.int).length-1]?=some (.int x):=by simp
     have edrop:((pd'++[x]).map V.int).dropLast=pd'.map V.int:=by simp
     refine⟨_,rfl,d,rfl,.inl ⟨_,Rd.of m.dict⟩,_,rfl,.inl ⟨rfl,_,SqL.of ep⟩,pp,_,.int x,rfl,rfl,ep,elast,zero_le _,λq hq=>?_⟩;rw[edrop]at hq⊢;have m2:=(m.other (o:=.lst (pd'.map V.int)) ep hpp0).grow (ae (o:=.lst []) hq);have hqp:q≠pp:=λe=>by rw[e,ac]at hq;cases hq
     have hqf:q≠pf:=λe=>by rw[e,af (symm hne),ef]at hq;cases hq
     refine rZ m2 ac λhl Hc kvs' hs m3 ehl eh hsub hkeep hnil=>?_;have df:pf≠d:=λe=>by have:=m.dict;rw[←e,ef]at this;cases this
     have dp:pp≠d:=λe=>by have:=m.dict;rw[←e,ep]at this;cases this
     have ef3:Hc pf=some (.lst (dD fd)):=by rw[hkeep pf df,af (symm hqf),af (symm hne)];exact ef
     have ep3:Hc pp=some (.lst (pd'.map V.int)):=by rw[hkeep pp dp,af (symm hqp),ac]
     have hlf:hl≠pf:=by
      by_cases h:hs=[]
      ·rw[hnil h];exact hqf
      ·exact ph ef3 ehl h
     have hlp:hl≠pp:=by
      by_cases h:hs=[]
      ·rw[hnil h];exact hqp
      ·exact ph ep3 ehl h
     have wk':=wk.turn;rw[←eh]at wk';have hlen:=wk'.len;rw[length_append,aG,aG]at hlen;rw[length_append,length_singleton]at hpl;refine⟨_,rfl,hl,rfl,⟨_,SqL.of ehl⟩,eK (xs:=aR hs) (λj σ H'=>∃on,σ=[some (.ref t),some (.int f),some (.ref d),on,some (.ref pf),some (.ref pp),some (.ref hl)]∧Mem H H' d L kvs' zs (x::dn)∧H' hl=some (.lst (aR hs)) ∧
      H' pf=some (.lst (dD (fd++nds (hs.take j))))∧H' pp=some (.lst ((pd'++TW.aF (nds (hs.take j))).map V.int))) ⟨_,rfl,m3,ehl,by rw[ef3];simp[nds],by rw[ep3];simp[nds,TW.aF]⟩
      (λj σ H' _ h=>?_) (λj y σ H' hy h=>?_) (λσ H' h=>?_)⟩
     ·obtain⟨_,_,_,e,_⟩:=h;exact SqL.of e
     ·obtain⟨on,rfl,m4,e1,e2,e3⟩:=h;obtain⟨z,gz,rfl⟩:=cy hy;have mz:=hsub z (mem_of_getElem? gz);have ez:hs.take (j+1)=hs.take j++[z]:=by rw[take_succ,gz];rfl
      have l1:(dD (fd++nds (hs.take j))).length≤100:=by
       unfold dD;rw[length_map,length_map,length_append,aG,length_take];omega
      have l2:((pd'++TW.aF (nds (hs.take j))).map V.int).length≤1000:=by
       have:=TW.dg (nds (hs.take j));rw[aG,length_take]at this;rw[length_map,length_append];omega
      have g0:∀{Hx:Hp},Same H Hx→Hx z.1=some (.tup (vals z.2)):=λs=>s _ _ (hA z mz);have e4:dD (fd++nds (hs.take (j+1)))=dD (fd++nds (hs.take j))++[.int z.2.num]:=by rw[ez];simp[dD,nds]
      have m5:Mem H (upd H' pf (.lst (dD (fd++nds (hs.take j))++[.int z.2.num]))) d L kvs' zs (x::dn):=m4.other e2 hpf0;have e5:(upd H' pf (.lst (dD (fd++nds (hs.take j))++[.int z.2.num]))) hl=some (.lst (aR hs)):=by rw[af hlf];exact e1
      have e6:(upd H' pf (.lst (dD (fd++nds (hs.take j))++[.int z.2.num]))) pp=some (.lst ((pd'++TW.aF (nds (hs.take j))).map V.int)):=by rw[af hne];exact e3
      refine⟨_,rfl,.inl ⟨rfl,_,SqL.of e2⟩,_,rfl,z.1,_,_,_,rfl,rfl,SqT.of (g0 m4.same),at0 z.2,pf,_,_,rfl,rfl,e2,z100 l1,?_⟩;refine⟨_,rfl,z.1,_,_,_,rfl,rfl,SqT.of (g0 m5.same),at3 z.2,rfl,_,rfl,?_⟩;cases est:z.2.st with
      |none =>
       have e7:TW.aF (nds (hs.take (j+1)))=TW.aF (nds (hs.take j))++[z.2.num]:=by rw[ez];simp[TW.aF,nds,est]
       refine bx ⟨_,rfl,.inl ⟨rfl,_,SqL.of e6⟩,_,rfl,z.1,_,_,_,rfl,rfl,SqT.of (g0 m5.same),at0 z.2,pp,_,_,rfl,rfl,e6,ay l2,?_⟩;refine⟨_,rfl,m5.other e6 hpp0,by rw[af hlp];exact e5,by rw[af (symm hne),ac,e4],?_⟩;rw[ac,e7];simp
      |some i =>
       have e7:TW.aF (nds (hs.take (j+1)))=TW.aF (nds (hs.take j)):=by rw[ez];simp[TW.aF,nds,est]
       refine aX ⟨_,rfl,m5,e5,by rw[ac,e4],?_⟩;rw[e6,e7]
     ·obtain⟨on,rfl,m4,e1,e2,e3⟩:=h;rw[bt,take_length]at e2 e3;refine⟨⟨L,kvs',x::dn,_,_,on,_,rfl,?_,m4,wk',e2,e3⟩,?_⟩
      ·have:=TW.dg (nds hs);rw[aG]at this;rw[length_append,length_append,aG];omega
      show 2*(zs.length-gB H' pf)+gB H' pp<_;rw[dC e2,dC e3,dC ef,dC ep];have:=TW.dg (nds hs);rw[aG]at this;simp only[dD,length_map,length_append,aG,length_singleton];omega
   ·rintro σ H Q Q' mo ⟨v,e,k,tv,q⟩;exact⟨v,e,k,tv,mo _ _ q⟩
def mZ:Sp:=λvs H Q _=>∃t zs,vs=[.ref t]∧Tre H t zs∧∀d L H',Mems H H' d L (ak zs) zs→Q (.ref d) H'
def mbN:List Str:=["tree","members","node"]
theorem uU:FnScope mbN ["tree"] (ai bJ):=fsc
theorem wZ{f:Addr}{fd:FuncData}(F:Fun K "members_by_folder" "members_by_folder" bJ f fd):FnOk P w K mg base CX0 1 f fd ["tree"] mZ:=by
 refine F.okA uU (λcdv A outer s H vs Q E hr h=>?_);obtain⟨t,zs,rfl,tr,q⟩:=h;refine⟨_,ah (aw (i:=1) uU.nd rfl (Or.inl rfl) dq)
  (ah (cg PassesOwn.never rfl (dI (pv 0)) (aA (i:=2) uU.nd rfl (Or.inl rfl)) (al (bj (au gO (ixT K (pv 2) aj) dj (aC _)) (al (iG (aS hr) (pv 1) (ixT K (pv 2) aj) (bq ag) rfl)) aH)))
  (ah (cg PassesOwn.never rfl (dI (pv 0)) (aA (i:=2) uU.nd rfl (Or.inl rfl)) (al (bj (iL (nT (aS hr) (ixT K (pv 2) aj) (pv 1))) (al (ba (dm plainAttrs_list PySem.F.slot_list_append PySem.F.type_list_append bv (aZ (aS hr) (pv 1) (ixT K (pv 2) aj) (λ_ _=>rfl)) (aa (pv 2) ag)))) aH)))
  (al (aM (pv 1))))),?_⟩
 refine λd hd=>?_;have hl:=tr.len;have nd:=bc tr.tr;have m0:Mems H (upd H d (.dK [])) d (λ_=>d) [] []:=⟨ac,hd,λk hk=>(by cases hk),λk hk=>(by cases hk),ae hd⟩;generalize upd H d (.dK [])=H1 at m0⊢;refine⟨_,rfl,t,rfl,⟨_,SqT.of (m0.same _ _ tr.tup)⟩,iC (xs:=aR zs) (λi σ H'=>∃x L,σ=[some (.ref t),some (.ref d),x]∧Mems H H' d L (ak (zs.take i)) []) ⟨_,_,rfl,m0⟩ (λi σ H' _ h=>?_) (λi x σ H' hx h=>?_) (λσ H' h=>?_)⟩
 ·obtain⟨x,L,rfl,m⟩:=h;exact SqT.of (m.same _ _ tr.tup)
 ·obtain⟨x,L,rfl,m⟩:=h;obtain⟨z,gz,rfl⟩:=cy hx;have mz:=mem_of_getElem? gz;rw[aP gz,mX];refine⟨_,rfl,z.1,_,_,_,rfl,rfl,SqT.of (m.same _ _ (tr.nod z mz)),at3 z.2,rfl,_,rfl,?_⟩
  by_cases hz:z.2.st=none
  ·rw[show decide (stV z.2.st=V.non)=true by rw[hz];rfl];refine bx ?_;have hf:iy z=true:=by unfold iy;rw[hz];rfl
   rw[if_pos hf];refine⟨zero_le _,λl hl'=>?_⟩;have hnk:z.2.num∉ak (zs.take i):=λhm=>by
    unfold ak at hm;obtain⟨y,hy,e⟩:=mem_map.mp hm;have hy':=(mem_filter.mp hy).1;obtain⟨j,hj1,hj2⟩:=List.getElem_of_mem hy';rw[getElem_take]at hj2;have hji:j<i:=by rw[length_take]at hj1;omega
    have hil:i<zs.length:=(List.getElem?_eq_some_iff.mp gz).1;have pw:=pairwise_iff_getElem.mp nd j i (by simp[nds];omega) (by simp[nds];omega) hji;have ez:zs[i]=z:=by have:=getElem?_eq_getElem hil;rw[this]at gz;exact Option.some.inj gz
    apply pw;simp only[nds,getElem_map,ez,hj2];exact e
   refine⟨_,rfl,_,rfl,z.1,_,_,_,rfl,rfl,SqT.of ((ae hl') _ _ (m.same _ _ (tr.nod z mz))),at0 z.2,d,_,rfl,.inl ⟨_,Sum.inl z.2.num,by rw[af (λe=>by rw[←e,m.dict]at hl';cases hl')];exact m.dict,rfl,?_,rfl⟩,_,_,rfl,m.more hnk hl'⟩;rw[mR];have:(ak (zs.take i)).length≤zs.length:=by
    unfold ak;rw[length_map];exact le_trans (length_filter_le _ _) (by rw[length_take];omega)
   rw[PySem.sizeLine_eq];omega
  ·rw[show decide (stV z.2.st=V.non)=false by cases e:z.2.st with|none=>exact absurd e hz|some i=>rfl]
   have hf:¬iy z=true:=by
    unfold iy;cases e:z.2.st with
    |none=>exact absurd e hz
    |some i=>simp
   rw[if_neg hf];exact aX ⟨_,L,rfl,m⟩
 ·obtain⟨x,L,rfl,m⟩:=h;rw[bt,take_length]at m;refine⟨_,rfl,t,rfl,⟨_,SqT.of (m.same _ _ tr.tup)⟩,iC (xs:=aR zs) (λi σ H'=>∃x,σ=[some (.ref t),some (.ref d),x]∧Mems H H' d L (ak zs) (zs.take i)) ⟨_,rfl,by rw[take_zero];exact m⟩ (λi σ H' _ h=>?_) (λi x σ H' hx h=>?_) (λσ H' h=>?_)⟩
  ·obtain⟨x,rfl,m⟩:=h;exact SqT.of (m.same _ _ tr.tup)
  ·obtain⟨x,rfl,m⟩:=h;obtain⟨z,gz,rfl⟩:=cy hx;have mz:=mem_of_getElem? gz;rw[aP gz];have hz1:=m.same _ _ (tr.nod z mz);refine⟨_,rfl,z.1,_,_,_,rfl,rfl,SqT.of hz1,at1 z.2,_,rfl,d,_,rfl,ci.k (k:=Sum.inl z.2.par) m.dict,_,rfl,?_⟩;rw[gG]
   by_cases hk:z.2.par∈ak zs
   ·rw[if_pos hk];refine bx ?_;obtain⟨g1,g2⟩:=m.at' _ hk;refine⟨_,rfl,_,rfl,z.1,_,_,_,rfl,rfl,SqT.of hz1,at1 z.2,d,.ref (L z.2.par),rfl,by have:=ci.k (k:=Sum.inl z.2.par) m.dict;rw[gG,if_pos hk]at this;exact this,.inl ⟨rfl,_,SqL.of g1⟩,_,rfl,_,_,_,rfl,rfl,g1,ay ?_,_,rfl,m.next hk⟩;have:(bg (zs.take i) z.2.par).length≤zs.length:=le_trans (length_filter_le _ _) (by rw[length_take];omega);rw[bt];omega
   ·rw[if_neg hk];exact aX ⟨_,rfl,m.skip hk⟩
  ·obtain⟨x,rfl,m⟩:=h;rw[bt,take_length]at m;exact⟨_,rfl,q d L H' m⟩
end
end TK
namespace L2
open PySem PySem.Spec PyProof.Rows
section
variable{X:Cx}
theorem nc(i:Int)(h0:-1≤i)(h1:i≤99):(ofString (toString i)).length≤100:=by
 have key:∀n:Fin 101,(ofString (toString (((n.val:Nat):Int)-1))).length≤100:=by decide +kernel
 have:=key ⟨(i+1).toNat,by omega⟩;have e:(((i+1).toNat:Nat):Int)-1=i:=by omega
 rw[e]at this;exact this
theorem dS{e:Expr}{te:TE}{b:Nat}{p:Pos}{ps:List Expr}{t:TJ}(he:PE X e te)(h:PJ X ps b t):PJ X (.FormattedValue e (-1) none p::ps) (100+b) (λσ H k=>te σ H λv H1=>∃i:Int,v=.int i∧0≤i∧i≤99∧t σ H1 k):=by
 intro out pins s σ H Q I hb hq;refine joinParts_cons (FormattedValue_plain (thn (he pins _ σ H _ I hq) λv s1 hpt=>?_));obtain⟨y,H1,I1,r1,q1⟩:=hpt;obtain⟨i,rfl,h0,h1,q⟩:=q1;obtain⟨tk,rfl⟩:=r1;have h2:=nc i (by omega) h1;have hl:(out++ofString (toString i)).length=out.length+(ofString (toString i)).length:=strLen_append ..;refine formatField_int_small (lt_of_le_of_lt (Nat.log2_le_self _) (by omega)) ⟨le_of_lt (ay (by omega)),?_⟩;exact h _ pins _ σ H1 Q (I1.tok _) (by omega) q
end
end L2
namespace TK
open PySem L2
def eZ:TW.Deed Str→Prop
 |.make n p nm _=>1≤n∧n≤99∧0≤p∧p≤99∧nm.length≤100
 |.write n _=>1≤n∧n≤99
 |.move n p nm=>1≤n∧n≤99∧0≤p∧p≤99∧nm.length≤100
 |.drop n=>1≤n∧n≤99
section
variable{P:Program}{w:World}{K:PySem.W.Frag}{mg:Str→Option Value}{base:Heap}
def gH:Sp:=λvs H Q _=>∃t zs,vs=[.ref t]∧H t=some (.tup (aR zs))∧At H zs∧zs.length≤100∧((nds zs).map (·.num)).Nodup∧∀d H',Same H H'→ix H' d zs→Q (.ref d) H'
theorem yh:FnScope ["tree"] ["tree"] (ai wP):=fsM
theorem xa{f:Addr}{fd:FuncData}(F:Fun K "by_number" "by_number" wP f fd)(T:Txt mg):FnOk P w K mg base CX0 1 f fd ["tree"] gH:=by
 refine F.ok yh (λvs H Q E h=>?_) (λcdv A outer s H vs Q E hr h=>?_)
 ·obtain⟨t,zs,rfl,_⟩:=h;rfl
 ·obtain⟨t,zs,rfl,ht,hA,hl,hnd,k⟩:=h;refine⟨_,al (aM (bh (og rfl) rfl T.dict boot_dict (aa (ic (N:=["node"]) (k:=1) (js:=[]) (g:=bn 0) rfl (gT rfl (by decide +kernel) (by decide +kernel) (by decide +kernel)) rfl (λi j x h=>by simp at h)
   (dI (pv 0)) (λs H fp=>aA (i:=0) (show(["node"]:List Str).Nodup by decide +kernel) rfl (Or.inl rfl) (Or.inr rfl))
   (λs H fp=>bo (aa (aD (r:=gf K) ax (pv 0) aj (λ_ _=>rfl)) (aa (pv 0) ag)))) ag))),?_⟩
  refine⟨_,rfl,t,rfl,⟨_,SqT.of ht⟩,λp hp=>?_⟩;refine ol (fr:=[]) zs.length (by omega) hp rfl (λi y H'=>∃q z,zs[i]?=some z∧y=.ref q∧q≠p∧H' q=some (.tup [.int z.2.num,.ref z.1])) (λi y H1 H2 h ex=>?_) (λi H' hi s1=>?_) (λH' s1=>?_) ?_ (λi H' x H2 hi s1 hpl hy=>?_) (λys H' s1 hp' hlen hys=>?_)
  ·obtain⟨q,z,e1,e2,e3,e4⟩:=h;exact⟨q,z,e1,e2,e3,ex q _ e3 e4⟩
  ·exact⟨_,_,SqT.of (s1 _ _ ht),jj (getElem?_eq_getElem hi)⟩
  ·exact⟨_,SqT.of (s1 _ _ ht),by rw[bt];exact le_refl _⟩
  ·rintro _ _ _ _ m ⟨v1,b1,p1,xs,i1,v2,c1,c2,c3,c4,v3,b3,hz,q⟩;exact⟨v1,b1,p1,xs,i1,v2,c1,c2,c3,c4,v3,b3,hz,λl hl=>m _ _ (q l hl)⟩
  ·obtain⟨rfl,hx⟩:=hy;obtain⟨z,gz,rfl⟩:=cy (hx _ (SqT.of (s1 _ _ ht)));have mz:=mem_of_getElem? gz;refine⟨rfl,_,rfl,z.1,_,_,_,rfl,rfl,SqT.of (s1 _ _ (hA z mz)),at0 z.2,_,rfl,le2,λq hq=>⟨ae hq,q,z,gz,rfl,gU hpl hq,ac⟩⟩
  ·obtain⟨as,e1,e2,e3⟩:=uL (g:=λz=>[.int z.2.num,.ref z.1]) hlen hys;have e4:as.length=zs.length:=by rw[←e1,length_map]
   have e5:(as.map λa=>((Sum.inl a.2.2.num:Key),V.ref a.2.1))=cA zs:=by rw[←e1];unfold cA;rw[map_map];rfl
   refine⟨p,as.map λa=>(a.1,(Sum.inl a.2.2.num:Key),V.ref a.2.1),rfl,?_,?_,?_,?_,λd o hd=>?_⟩
   ·rw[hp',e2,map_map,map_map,map_map];rfl
   ·intro z hz;obtain⟨a,ha,rfl⟩:=mem_map.mp hz;exact(e3 a ha).2
   ·rw[length_map];omega
   ·rw[map_map];have:(as.map ((λx:Addr×Key×V=>x.2.1)∘λa=>(a.1,(Sum.inl a.2.2.num:Key),V.ref a.2.1)))=((nds zs).map (·.num)).map (Sum.inl:Int→Key):=by
     rw[←e1];unfold nds;simp only[map_map];rfl
    rw[this];unfold Nodup at hnd⊢;rw[pairwise_map];exact hnd.imp λh e=>h (by injection e)
   ·refine k d _ (s1.trans (ae hd)) ⟨o,?_⟩;rw[ac,map_map];exact congrArg (λx=>some (HO.frz o (.dK x))) e5
abbrev sB(mg:Str→Option Value)(base:Heap)(C:Addr):Prop:=PyProof.Rows.OwnCls "NoNode" C bmV "ValueError.__new__" mg base
def im(C:Addr):Sp:=λvs H Q E=>∃d k zs,vs=[.ref d,.int k]∧ix H d zs∧((nds zs).map (·.num)).Nodup∧0≤k∧k≤99∧(∀z∈zs,z.2.num=k→Q (.ref z.1) H)∧((∀z∈zs,z.2.num≠k)→E (.ref C) none H)
theorem yi:FnScope ["nodes","number"] ["nodes","number"] (ai wQ):=fsM
theorem xb{f C:Addr}{fd:FuncData}(F:Fun K "node_of" "node_of" wQ f fd)(O:sB mg base C):FnOk P w K mg base (CX1 P w) 1 f fd ["nodes","number"] (im C):=by
 refine F.okX yi (λvs H Q E h=>?_) (λcdv A outer s H vs Q E hr h=>?_)
 ·obtain⟨d,k,zs,rfl,_⟩:=h;rfl
 ·obtain⟨d,k,zs,rfl,hd,hnd,h0,h1,q1,q2⟩:=h;refine⟨_,ah (bj (iL (jR (aS hr) (pv 1) (pv 0))) (al (dy bH O hr.hd rfl (eV (cS (c:=100) (by decide +kernel) (dS (pv 1) gW)) (by decide)))) aH) (al (aM (aZ (aS hr) (pv 0) (pv 1) (λ_ _=>rfl)))),?_⟩
  by_cases hk:∀z∈zs,z.2.num≠k
  ·refine⟨_,rfl,_,rfl,d,_,rfl,hd.not hk,_,rfl,?_⟩;exact bx ⟨_,rfl,k,rfl,h0,h1,λy=>⟨aK (show 1≤1000 by decide),q2 hk⟩⟩
  ·obtain⟨z,hz,e⟩:∃z∈zs,z.2.num=k:=by
    by_cases h:∃z∈zs,z.2.num=k
    ·exact h
    ·exact absurd (λz hz e=>h ⟨z,hz,e⟩) hk
   subst e;refine⟨_,rfl,_,rfl,d,_,rfl,hd.get hnd hz,_,rfl,?_⟩;exact aX ⟨_,rfl,_,rfl,d,_,rfl,hd.get hnd hz,q1 z hz rfl⟩
def ng(C:Addr):Sp:=λvs H Q E=>∃t k zs,vs=[.ref t,.int k]∧Tre H t zs∧0≤k∧k≤99 ∧
 ((k=0∨∃z∈zs,z.2.num=k)→∀(ms:List Int)(l:Addr)(H':Hp),Same H H'→ms.Pairwise (λa b:Int=>a<b)→ms.length≤zs.length→(∀x,x∈ms↔∃n∈nds zs,n.num=x∧TW.Reach (nds zs) k n)→H' l=some (.lst (ms.map V.int))→Q (.ref l) H') ∧
 (k≠0→(∀z∈zs,z.2.num≠k)→∀H',Same H H'→E (.ref C) none H')
theorem yj:FnScope ["tree","number"] ["tree","number"] (ai wS):=fsM
theorem xc{f C:Addr}{fd:FuncData}(F:Fun K "below" "below" wS f fd)(T:Txt mg)(CB:Has P w K mg base 1 "by_number" ["tree"] gH)(CN:cB P w K mg base 1 "node_of" ["nodes","number"] (im C))(CI:Has P w K mg base 1 "numbers_inside" ["nodes","folder"] pB):
  FnOk P w K mg base (CX1 P w) 2 f fd ["tree","number"] (ng C):=by
 obtain⟨fB,fdB,GB,mB,kB,bB⟩:=CB;obtain⟨fN,fdN,GN,mN,kN,bN⟩:=CN;obtain⟨fI,fdI,GI,mI,kI,bI⟩:=CI;obtain⟨tt,hT⟩:=T.top;refine F.okX yj (λvs H Q E h=>?_) (λcdv A outer s H vs Q E hr h=>?_)
 ·obtain⟨t,k,zs,rfl,_⟩:=h;rfl
 ·obtain⟨t,k,zs,rfl,tr,h0,h1,q1,q2⟩:=h;have hnd:=bc tr.tr;have hl:=tr.len;refine⟨_,ah (bj (au fY (pv 1) (iB (v:=.int 0) rfl hT ⟨_,rfl⟩) (aC _))
    (al (ba (am (E:=E) GN hr rfl mN kN bN .nil (cR bH) (aa (am GB hr rfl mB kB bB .nil aU (aa (pv 0) ag)) (aa (pv 1) ag))))) aH)
   (al (aM (aL cm rfl T.sorted boot_sorted (aa (am GI hr rfl mI kI bI .nil aU (aa (pv 0) (aa (pv 1) ag))) ag)))),?_⟩
  have main:∀H1,Same H H1→(k=0∨∃z∈zs,z.2.num=k)→vY (tCB (λxs H Q=>∃l,∃ns:List Int,xs=[.ref l]∧H l=some (.lst (ns.map V.int))∧ns.Nodup∧ns.length<64∧∀ms:List Int,ms.Perm ns→ms.Pairwise (λa b=>a<b)→∀p,H p=none→Q (.ref p) (upd H p (.lst (ms.map V.int))))
    (ca (lM pB [] E0 (ca (fO 0) (ca (fO 1) iP))) iP)) {nx:=λ_ H'=>Q .non H',rt:=Q} [some (.ref t),some (.int k)] H1:=by
   intro H1 s1 hk;refine⟨_,rfl,_,rfl,t,k,zs,rfl,s1 _ _ tr.tup,tr.nod.same s1,by omega,λfd dn l H2 wk el s2=>?_⟩;have hfl:=wk.len;rw[aG]at hfl;refine⟨l,fd.map (λn:Nd=>n.num),rfl,(show H2 l=some (.lst ((fd.map λn:Nd=>n.num).map V.int))from el),qH tr.tr wk,by rw[length_map];omega,λms hp hs p hpn=>?_⟩;refine q1 hk ms p _ ((s1.trans s2).trans (ae hpn)) hs (by rw[hp.length_eq,length_map];exact hfl) (λx=>?_) ac;rw[hp.mem_iff,mem_map];constructor
   ·rintro⟨n,hn,e⟩;have:=(wk.mem n).mp hn;exact⟨n,this.mem,e,this⟩
   ·rintro⟨n,_,e,hr⟩;exact⟨n,(wk.mem n).mpr hr,e⟩
  refine⟨_,rfl,rfl,_,rfl,?_⟩
  by_cases hk0:k=0
  ·have:decide (V.int k=V.int 0)=true:=by simp[hk0]
   rw[this];exact aX (main H (Same.refl _) (.inl hk0))
  ·have:decide (V.int k=V.int 0)=false:=by simp[hk0]
   rw[this];refine bx ?_;refine⟨_,rfl,t,zs,rfl,tr.tup,tr.nod,by omega,hnd,λd H1 s1 nd1=>?_⟩;refine⟨_,rfl,d,k,zs,rfl,nd1,hnd,h0,h1,λz hz e=>main H1 s1 (.inr ⟨z,hz,e⟩),λhk=>q2 hk0 hk H1 s1⟩
end
end TK
namespace TB
open PySem SetTable
section
variable{prog:Program}{w:World}{A:Around}{E:Value→Shared→Prop}{s:Shared}
end
end TB
namespace L2
open PySem PySem.Spec PyProof.Rows
section
variable{X:Cx}
end
end L2
namespace TK
open PySem L2
instance decNd:DecidableEq (TW.Nd Str):=λa b=>Classical.propDecidable _
end TK
namespace L2
open PySem PySem.Spec PyProof.Rows
theorem Inv.freeze{X:Cx}{pins:List (Addr×Obj)}{σ:St}{H:Hp}{s:Shared}{d:Addr}{kvs:List (Key×V)}(I:Inv X pins σ H s)(hH:H d=some (.dK kvs)):∃o,Inv X pins σ (upd H d (.frz o (.dK kvs))) s:=by
 obtain⟨hz,hsm,vs,rel,o,es,ep,ho,hx,hd,hk,hp,hn⟩:=I.hok d _ hH;exact⟨o,I.write (t':=s.toks) (x:=d) (e:=d) (by rw[hH];trivial) (.inl rfl) (λ_ _ _ q=>q) ⟨o,ho⟩ ⟨ho,hz,hsm,vs,rel,o,es,ep,ho,hx,hd,hk,hp,hn⟩⟩
def zh(t:TS):TS:=λD σ H=>∃d kvs,H d=some (.dK kvs)∧∀o,t D σ (upd H d (.frz o (.dK kvs)))
theorem qJ{X:Cx}{st:Stmt}{t:TS}(hs:PS X st t):PS X st (zh t):=λpins s σ H D I ⟨d,kvs,h,ht⟩=>by
 obtain⟨o,I2⟩:=I.freeze h;exact hs pins s σ _ D I2 (ht o)
end L2
namespace TW
section
variable{S:Type}[DecidableEq S]
end
section
variable{S:Type}{ns:List (Nd S)}
theorem sC(T:Tree1 ns){g k:Int}(h:Und ns g k):∀{p:List S},PathTo ns k p→∃q r,PathTo ns g q∧p=q++r:=by
 induction h with
 |here=>intro p hp;exact⟨p,[],hp,(append_nil _).symm⟩
 |@up n hn _ ih =>
  intro p hp;obtain⟨q,e,hq⟩:=hp.inv T hn rfl;obtain⟨q',r,h1,h2⟩:=ih hq;exact⟨q',r++[n.nm],h1,by rw[e,h2,append_assoc]⟩
variable[DecidableEq S]
end
end TW
namespace TK
open PySem L2
section
variable{P:Program}{w:World}{K:PySem.W.Frag}{mg:Str→Option Value}{base:Heap}
def pC:Sp:=λvs H Q _=>∃d k zs p,vs=[.ref d,.int k]∧ix H d zs∧At H zs∧TW.Tree1 (nds zs)∧zs.length≤100∧TW.PathTo (nds zs) k p∧∀t H',Same H H'→H' t=some (.tup (p.map V.str))→Q (.ref t) H'
theorem pD:FnScope ["nodes","number","names","at"] ["nodes","number"] (ai wR):=fsM
theorem xf{f:Addr}{fd:FuncData}(F:Fun K "path_up" "path_up" wR f fd)(T:Txt mg):FnOk P w K mg base CX0 1 f fd ["nodes","number"] pC:=by
 obtain⟨tt,hT⟩:=T.top;refine F.ok pD (λvs H Q E h=>?_) (λcdv A outer s H vs Q E hr h=>?_)
 ·obtain⟨d,k,zs,p,rfl,_⟩:=h;rfl
 ·obtain⟨d,k,zs,p,rfl,hd,hA,hTr,hl,hp,q⟩:=h;have hnd:=bc hTr;have hpl:p.length≤100:=by have:=hp.len hTr;rw[aG]at this;omega
  refine⟨_,ah (aw (i:=2) pD.nd rfl (Or.inl rfl) (bq ag)) (ah (aw (i:=3) pD.nd rfl (Or.inl rfl) (pv 1))
   (ah (fR PassesOwn.never (au fY (pv 3) (iB (v:=.int 0) rfl hT ⟨_,rfl⟩) (aC _))
    (ah (ba (dm plainAttrs_list PySem.F.slot_list_append PySem.F.type_list_append bv (pv 2) (aa (aD ax (aZ (aS hr) (pv 0) (pv 3) (λ_ _=>rfl)) aj (λ_ _=>rfl)) ag)))
    (al (aw (i:=3) pD.nd rfl (Or.inl rfl) (aD ax (aZ (aS hr) (pv 0) (pv 3) (λ_ _=>rfl)) aj (λ_ _=>rfl))))))
   (al (aM (qz rfl rfl T.tuple rfl T.reversed (pv 2)))))),?_⟩
  refine⟨zero_le _,λpn hpn=>⟨_,rfl,?_⟩⟩;dsimp only[bn,qV];refine fX (λσ H'=>∃at' q' r,σ=[some (.ref d),some (.int k),some (.ref pn),some (.int at')]∧TW.PathTo (nds zs) at' q'∧p=q'++r∧H' pn=some (.lst (r.reverse.map V.str))∧Same H H')
   (λσ H'=>p.length-gB H' pn) ⟨k,p,[],rfl,hp,by simp,ac,ae hpn⟩ (λσ H' h=>?_) ?_
  ·obtain⟨at',q',r,rfl,hq',ep,en,s1⟩:=h;refine⟨_,rfl,rfl,_,rfl,?_⟩
   by_cases h0:at'=0
   ·subst h0;have e0:q'=[]:=hq'.zero hTr rfl;subst e0;refine aX ⟨_,rfl,pn,_,rfl,en,λt ht=>q t _ (s1.trans (ae ht)) ?_⟩;rw[ac,ep,nil_append,←List.map_reverse,List.reverse_reverse]
   ·have hne:decide (V.int at'=V.int 0)=false:=by simp[h0]
    rw[hne];refine bx ?_;obtain⟨z,hz,e1,q'',e2,hq''⟩:=ll hTr hq' h0;subst e1;have hdz:=(hd.same s1).get hnd hz;have hat:=s1 _ _ (hA z hz);have hrl:r.length<100:=by
     have:=congrArg length ep;rw[e2]at this;simp at this;omega
    refine⟨_,rfl,.inl ⟨rfl,_,SqL.of en⟩,_,rfl,_,rfl,d,_,rfl,hdz,z.1,_,_,_,rfl,rfl,SqT.of hat,at2 z.2,pn,_,_,rfl,rfl,en,ay (by rw[length_map,List.length_reverse];omega),?_⟩;have hpnd:pn≠d:=λe=>by
     obtain⟨o,e'⟩:=hd.same s1;rw[←e,en]at e';cases e'
    have hpnz:z.1≠pn:=λe=>by rw[e,en]at hat;cases hat
    have s2:Same H (upd H' pn (.lst (r.reverse.map V.str++[.str z.2.nm]))):=aI hpn s1;refine⟨_,rfl,_,rfl,d,_,rfl,(hd.same s2).get hnd hz,z.1,_,_,_,rfl,rfl,SqT.of (s2 _ _ (hA z hz)),at1 z.2,?_⟩;refine⟨⟨z.2.par,q'',z.2.nm::r,rfl,hq'',by rw[ep,e2];simp,by rw[ac];simp,s2⟩,?_⟩;show p.length-gB _ pn<p.length-gB H' pn;rw[dC ac,dC en,ep,e2];simp;omega
  ·rintro σ H1 Q1 Q2 m ⟨v,e,h2,b,e3,q⟩;exact⟨v,e,h2,b,e3,m _ _ q⟩
theorem ox{A:Around}{k:Nat}(hr:Room k A):A.units+8<cLine:=lt_of_le_of_lt (Nat.add_le_add_left (by decide:8≤64) _) hr.units
structure Wl(H:Hp)(zs:ZN)(cs:List Cp):Prop where
 at':∀c∈cs,lZ H c
 up:cs.Pairwise (λa b=>HT.cu a.p b.p=true)
 mem:∀p n,(∃c∈cs,c.p=p∧c.n=n)↔∃z∈zs,z.2.num=n∧TW.PathTo (nds zs) n p
structure Cps(H:Hp)(zs:ZN)(cs:List Cp):Prop where
 at':∀c∈cs,lZ H c
 nums:cs.map (·.n)=(nds zs).map (·.num)
 path:∀c∈cs,TW.PathTo (nds zs) c.n c.p
theorem xg{H:Hp}{p:Addr}{zs:ZN}{ys:List V}(hlen:ys.length=zs.length)(h:∀(i:Nat) y,ys[i]?=some y→∃q t z pa,zs[i]?=some z∧y=.ref q∧q≠p∧t≠p∧H q=some (.tup [.ref t,.int z.2.num])∧H t=some (.tup (pa.map V.str))∧TW.PathTo (nds zs) z.2.num pa):
  ∃cs:List Cp,ys=cs.map (λc=>V.ref c.a)∧Cps H zs cs∧∀c∈cs,c.a≠p∧c.t≠p:=by
 have main:∀(ys:List V)(xs:ZN),ys.length=xs.length→(∀(i:Nat) y,ys[i]?=some y→∃q t z pa,xs[i]?=some z∧y=.ref q∧q≠p∧t≠p∧H q=some (.tup [.ref t,.int z.2.num])∧H t=some (.tup (pa.map V.str))∧TW.PathTo (nds zs) z.2.num pa) →
   ∃cs:List Cp,ys=cs.map (λc=>V.ref c.a)∧(∀c∈cs,lZ H c∧TW.PathTo (nds zs) c.n c.p∧c.a≠p∧c.t≠p)∧cs.map (·.n)=(nds xs).map (·.num):=by
  intro ys
  induction ys with
  |nil =>
   intro xs hl _;have:xs=[]:=length_eq_zero_iff.mp hl.symm;subst this;exact⟨[],rfl,by simp,rfl⟩
  |cons y ys ih =>
   intro xs hl h;cases xs with
   |nil=>simp at hl
   |cons x xs =>
    obtain⟨cs,e1,e2,e3⟩:=ih xs (by simpa using hl) λi y hy=>by simpa using h (i+1) y (by simpa using hy)
    obtain⟨q,t,z,pa,f1,f2,f3,f4,f5,f6,f7⟩:=h 0 y rfl;have:x=z:=by simpa using f1
    subst this;refine⟨⟨q,t,pa,x.2.num⟩::cs,by simp[e1,f2],λc hc=>?_,by simp[nds]at e3⊢;exact e3⟩;rcases mem_cons.mp hc with rfl|hc
    ·exact⟨⟨f5,f6⟩,f7,f3,f4⟩
    ·exact e2 c hc
 obtain⟨cs,e1,e2,e3⟩:=main ys zs hlen h;exact⟨cs,e1,⟨λc hc=>(e2 c hc).1,e3,λc hc=>(e2 c hc).2.1⟩,λc hc=>(e2 c hc).2.2⟩
theorem Cps.paths_nd{H:Hp}{zs:ZN}{cs:List Cp}(h:Cps H zs cs)(T:TW.Tree1 (nds zs)):(cs.map (·.p)).Nodup:=by
 have hn:(cs.map (·.n)).Nodup:=by rw[h.nums];exact bc T
 unfold Nodup at hn⊢;rw[pairwise_map]at hn⊢;have hp:=h.path;clear h
 induction cs with
 |nil=>exact .nil
 |cons c cs ih =>
  rw[pairwise_cons]at hn⊢;refine⟨λd hd e=>hn.1 d hd ?_,ih hn.2 λx hx=>hp x (by simp[hx])⟩;have h1:=hp c (by simp);have h2:=hp d (by simp[hd]);rw[←e]at h2;exact h1.key T h2
theorem Cps.wl{H:Hp}{zs:ZN}{cs cs':List Cp}(h:Cps H zs cs)(T:TW.Tree1 (nds zs))(hp:cs'.Perm cs)(hs:cs'.Pairwise (λa b=>HT.cu a.p b.p=true)):Wl H zs cs':=by
 refine⟨λc hc=>h.at' c (hp.mem_iff.mp hc),hs,λp n=>?_⟩;constructor
 ·rintro⟨c,hc,rfl,rfl⟩;have hc':=hp.mem_iff.mp hc;have:c.n∈(nds zs).map (·.num):=by rw[←h.nums];exact mem_map.mpr ⟨c,hc',rfl⟩
  obtain⟨n,hn,e⟩:=mem_map.mp this;obtain⟨z,hz,rfl⟩:=mem_map.mp hn;exact⟨z,hz,e,h.path c hc'⟩
 ·rintro⟨z,hz,rfl,hpa⟩;have:z.2.num∈cs.map (·.n):=by rw[h.nums];exact mem_map.mpr ⟨z.2,mem_map.mpr ⟨z,hz,rfl⟩,rfl⟩
  obtain⟨c,hc,e⟩:=mem_map.mp this;refine⟨c,hp.mem_iff.mpr hc,?_,e⟩;have:=h.path c hc;rw[e]at this;exact this.uniq T hpa
def sD:Sp:=λvs H Q _=>∃t zs,vs=[.ref t]∧Tre H t zs∧∀cs l H',Same H H'→Wl H' zs cs→cs.length=zs.length→H' l=some (.lst (cs.map λc=>V.ref c.a))→Q (.ref l) H'
theorem vL:FnScope ["tree","nodes"] ["tree"] (ai uP):=fsM
theorem xh{f:Addr}{fd:FuncData}(F:Fun K "walked" "walked" uP f fd)(T:Txt mg)(CB:Has P w K mg base 1 "by_number" ["tree"] gH)(CU:Has P w K mg base 1 "path_up" ["nodes","number"] pC):
  FnOk P w K mg base CX0 2 f fd ["tree"] sD:=by
 obtain⟨fB,fdB,GB,mB,kB,bB⟩:=CB;obtain⟨fU,fdU,GU,mU,kU,bU⟩:=CU;refine F.ok vL (λvs H Q E h=>?_) (λcdv A outer s H vs Q E hr h=>?_)
 ·obtain⟨t,zs,rfl,_⟩:=h;rfl
 ·obtain⟨t,zs,rfl,tr,k⟩:=h;have hnd:=bc tr.tr;have hl:=tr.len;refine⟨_,ah (aw (i:=1) vL.nd rfl (Or.inr rfl) (am GB hr rfl mB kB bB .nil aU (aa (pv 0) ag)))
   (al (aM (aL (iw (ox hr)) rfl T.sorted boot_sorted (aa (ic (N:=["number","nodes"]) (cl:=[("nodes",s.heap.objs.size+1)]) (k:=1) (js:=[1]) (g:=bn 0) rfl
     (LcOk.mk' ["nodes"] rfl rfl (by decide +kernel) (by decide +kernel) ?hcl rfl (by decide +kernel)) rfl ?hj
    (yb (pv 1)) (λs H fp=>aA (i:=0) (show(["number","nodes"]:List Str).Nodup by decide +kernel) rfl (Or.inl rfl) (Or.inr rfl))
    (λs H fp=>bo (aa (am (X:=bR _ _ _ _ _ _ _) GU hr rfl mU kU bU .nil aU (aa (pv 1) (aa (pv 0) ag))) (aa (pv 0) ag)))) ag)))),?_⟩
  case hcl =>
   intro y hy;rcases mem_cons.mp hy with e|hy
   ·rw[e];rfl
   ·cases hy
  case hj =>
   intro i j x h1 h2
   match i,h1,h2 with
   |0,h1,h2 =>
    cases h1;cases h2;exact⟨rfl,Or.inr (Or.inl rfl),(show((ai uP).names.lookup ("nodes":Str)≠some NameKind.local)by decide +kernel),by first|exact Or.inl rfl|exact Or.inr rfl⟩
   |i+1,h1,h2=>simp at h1
  refine⟨_,rfl,t,zs,rfl,tr.tup,tr.nod,by omega,hnd,λd H1 s1 nd1=>?_⟩;obtain⟨o,ho⟩:=id nd1;have tr1:=tr.same s1;refine⟨_,rfl,d,o,_,rfl,ho,λp hp=>?_⟩;refine ol (fr:=[some (.ref d)]) zs.length (by omega) hp rfl (λi y H'=>∃q t z pa,zs[i]?=some z∧y=.ref q∧q≠p∧t≠p∧H' q=some (.tup [.ref t,.int z.2.num])∧H' t=some (.tup (pa.map V.str))∧TW.PathTo (nds zs) z.2.num pa) (λi y H1 H2 h ex=>?_) (λi H' hi s2=>?_) (λH' s2=>?_) ?_ (λi H' x H2 hi s2 hpl hy=>?_) (λys H' s2 hp' hlen hys=>?_)
  ·obtain⟨q,t,z,pa,e1,e2,e3,e4,e5,e6,e7⟩:=h;exact⟨q,t,z,pa,e1,e2,e3,e4,ex q _ e3 e5,ex t _ e4 e6,e7⟩
  ·exact⟨s2 _ _ ho,by simpa [cA]using hi⟩
  ·exact⟨s2 _ _ ho,by simp[cA]⟩
  ·rintro _ _ _ _ m ⟨v1,b1,v2,b2,d',k',zs',pa,c1,c2,c3,c4,c5,c6,q⟩;refine⟨v1,b1,v2,b2,d',k',zs',pa,c1,c2,c3,c4,c5,c6,λt' H' st ht=>?_⟩;obtain⟨v3,b3,hz,q'⟩:=q t' H' st ht;exact⟨v3,b3,hz,λl hl=>m _ _ (q' l hl)⟩
  ·obtain⟨rfl,hx⟩:=hy;have gz:zs[i]?=some zs[i]:=getElem?_eq_getElem hi;have ex:x=.int zs[i].2.num:=by
    unfold cA at hx;rw[getElem?_map,getElem?_map,gz]at hx;exact(Option.some.inj hx).symm
   subst ex;have mz:=mem_of_getElem? gz;generalize zs[i]=z at gz mz⊢;obtain⟨pa,hpa⟩:=TW.PathTo.ex tr.tr (mem_map.mpr ⟨z,mz,rfl⟩:z.2∈nds zs);have s12:=s1.trans s2;refine⟨rfl,_,rfl,_,rfl,d,_,zs,pa,rfl,nd1.same s2,tr.nod.same s12,tr.tr,by omega,hpa,λt' H4 s4 ht'=>?_⟩;have hpl4:∃ys,H4 p=some (.lst ys):=let⟨ys,e⟩:=hpl;⟨ys,s4 _ _ e⟩;have htp:t'≠p:=λe=>by obtain⟨ys,e'⟩:=hpl4;rw[←e,ht']at e';cases e'
   refine⟨_,rfl,le2,λq hq=>⟨s4.trans (ae hq),q,t',z,pa,gz,rfl,gU hpl4 hq,htp,ac,cQ hq ht',hpa⟩⟩
  ·obtain⟨cs,e1,e2,e3⟩:=xg (p:=p) hlen hys;subst e1;have hcl:cs.length=zs.length:=by rw[←hlen,length_map]
   refine⟨p,cs,rfl,hp',e2.at',e2.paths_nd tr.tr,by omega,λcs' hpm hup q hq=>?_⟩;have s3:=ae (o:=.lst (cs'.map λc=>V.ref c.a)) hq;have wl:=e2.wl tr.tr hpm hup;refine k cs' q _ ((s1.trans s2).trans s3) ⟨λc hc=>?_,wl.up,wl.mem⟩ (hpm.length_eq.trans hcl) ac;obtain⟨g1,g2⟩:=wl.at' c hc;exact⟨s3 _ _ g1,s3 _ _ g2⟩
end
end TK
namespace L2
open PySem PySem.Spec PyProof.Rows
section
variable{X:Cx}
abbrev oy:=Addr×Str×List V
def io(zs:List oy)(i:Nat):Str:=(zs.getD i (0,"",[])).2.1
theorem yk{zs:List oy}(h:(zs.map (·.2.1)).Nodup):SRT.Ord (λi j=>HT.cH (io zs i) (io zs j)) zs.length:=by
 refine⟨λi _=>HT.dB _,λi j k _ _ _ h1 h2=>HT.jc h1 h2,λi j hi hj hij=>HT.jU ?_⟩;unfold io;rw[getD_eq_getElem?_getD,getD_eq_getElem?_getD,getElem?_eq_getElem hi,getElem?_eq_getElem hj];intro e;have e':(zs.map (·.2.1))[i]'(by simpa using hi)=(zs.map (·.2.1))[j]'(by simpa using hj):=by simpa using e
 exact hij ((getElem_inj h).mp e')
theorem gI:cq X (.builtin "sorted") (λxs H Q=>∃l,∃zs:List oy,xs=[.ref l]∧(SqL X.K H l ((zs.map (·.1)).map V.ref)∨SqT X.K H l ((zs.map (·.1)).map V.ref))∧(∀z∈zs,H z.1=some (.tup (.str z.2.1::z.2.2)))∧(zs.map (·.2.1)).Nodup∧zs.length<64 ∧
  ∀zs':List oy,zs'.Perm zs→zs'.Pairwise (λa b=>HT.cH a.2.1 b.2.1=true)→∀p,H p=none→Q (.ref p) (upd H p (.lst ((zs'.map (·.1)).map V.ref)))):=by
 intro pins s σ H xs us Q I r h;obtain⟨l,zs,rfl,hq,hk,hnd,h64,q⟩:=h;obtain⟨u,rfl,ru⟩:=cE r;cases ru;obtain⟨its,rv,pl⟩:∃its,ar ((zs.map (·.1)).map V.ref) its∧(s.heap.IsList l its.toArray∨IsTup s.heap l its.toArray):=by
  rcases hq with hq|hq
  ·obtain⟨its,rv,pl,hz⟩:=I.list hq;exact⟨its,rv,.inl pl.isList⟩
  ·obtain⟨its,rv,pl,hz⟩:=I.tuple hq;exact⟨its,rv,.inr pl⟩
 have e:=cj rv;subst e;have hlen:((zs.map (·.1)).map Value.ref).length=zs.length:=by simp
 have hobj:∀z∈zs,∃o its n t,s.heap.get? z.1=some o∧o.cls=.type "tuple"∧o.data=.seq its n∧its.toList=.str z.2.1 t::its.toList.drop 1:=λz hz'=>by
  obtain⟨_,its,rr,o,e1,e2,n,e3⟩:=I.hok z.1 _ (hk z hz');cases rr with
  |cons r1 r2 =>
   obtain⟨t,rfl⟩:=r1;exact⟨o,_,n,t,e1,e2,e3,by simp⟩
 have hget:∀i,i<zs.length→((zs.map (·.1)).map Value.ref).getD i Value.none=.ref (zs.getD i (0,"",[])).1∧zs.getD i (0,"",[])∈zs:=λi hi=>by
  rw[getD_eq_getElem?_getD,getD_eq_getElem?_getD,getElem?_map,getElem?_map,getElem?_eq_getElem hi];exact⟨rfl,getElem_mem hi⟩
 refine SRT.dM (κ:=tuples' true) (f:=λi j=>HT.cH (io zs i) (io zs j)) (by rw[hlen];exact yk hnd) pl (by rw[hlen];exact h64) ?kind ?less ?fin
 case kind =>
  intro A' s' _ kp Q' h2 hQ';have key:∀ys:List oy,(∀z∈ys,z∈zs)→∃fs:List Value,KatTups s'.heap ((ys.map (·.1)).map Value.ref) fs∧fs.length=ys.length∧∀v∈fs,∃i t,v=Value.str i t:=by
   intro ys
   induction ys with
   |nil=>intro _;exact⟨[],KatTups.nil,rfl,λv hv=>by simp at hv⟩
   |cons z ys ih =>
    intro hm;obtain⟨fs,h1,h2',h3⟩:=ih λy hy=>hm y (by simp[hy]);obtain⟨o,its,n,t,e1,e2,e3,e4⟩:=hobj z (hm z (by simp));refine⟨.str z.2.1 t::fs,KatTups.cons (kp _ _ e1) e2 e3 ?_ h1,by simp[h2'],λv hv=>?_⟩
    ·rw[←getElem?_toList,e4];rfl
    ·rcases mem_cons.mp hv with rfl|hv
     ·exact⟨_,_,rfl⟩
     ·exact h3 v hv
  obtain⟨fs,h1,h2',h3⟩:=key zs λz hz'=>hz';refine kat_kind (T:=.type "str") h1 (by rw[h2'];rw[hlen]at h2;omega) (λv hv=>?_) (by rfl) hQ';obtain⟨i,t,rfl⟩:=h3 v hv;exact .now
 case less =>
  intro A' s' _ kp i j C hi hj hC;rw[hlen]at hi hj;obtain⟨gi,mi⟩:=hget i hi;obtain⟨gj,mj⟩:=hget j hj;rw[gi,gj];obtain⟨oi,ii,ni,ti,a1,a2,a3,a4⟩:=hobj _ mi;obtain⟨oj,ij,nj,tj,b1,b2,b3,b4⟩:=hobj _ mj;refine kat_lt (kp _ _ a1) a3 (kp _ _ b1) b3 ?_
  by_cases hij:i=j
  ·subst hij;rw[a1]at b1;cases b1;rw[a3]at b3;cases b3;have:C false s':=by rw[HT.dB]at hC;exact hC
   have e2:decide (ii.size<ii.size)=false:=by simp
   rw[e2];exact gu this _ _
  ·have hne:io zs i≠io zs j:=λe=>by
    rcases (yk hnd).tot i j hi hj hij with h1|h1<;>rw[e,HT.dB]at h1<;>cases h1
   rw[a4,b4];refine kat_cons (wpAny_eqBool_str ?_);rw[decide_eq_false (show ¬(zs.getD i (0,"",[])).2.1=(zs.getD j (0,"",[])).2.1 from hne)];refine kat_no ?_;exact PySem.W.kas_lt_str hC
 case fin =>
  intro p h' hrow hup kp _ hg;obtain⟨c,hg⟩:=hg;rw[hlen]at hrow hup;obtain⟨zs',hzs'⟩:∃zs',zs'=p.toList.map λi=>zs.getD i (0,"",[]):=⟨_,rfl⟩;have hperm:zs'.Perm zs:=by
   rw[hzs'];refine(hrow.perm.map _).trans ?_;have:(List.range zs.length).map (λi=>zs.getD i (0,"",[]))=zs:=by
    apply ext_getElem?;intro i;rw[getElem?_map]
    by_cases hi:i<zs.length
    ·rw[getElem?_range hi,getElem?_eq_getElem hi];show some (zs.getD i (0,"",[]))=_;rw[getD_eq_getElem?_getD,getElem?_eq_getElem hi];rfl
    ·rw[getElem?_eq_none (by rw[length_range];omega),getElem?_eq_none (by omega)];rfl
   rw[this]
  have hpl:p.size=zs.length:=hrow.size;have hpw:zs'.Pairwise (λa b=>HT.cH a.2.1 b.2.1=true):=by
   rw[pairwise_iff_getElem];intro i j hi hj hij;have hi':i<p.size:=by rw[hzs',length_map,length_toList]at hi;exact hi
   have hj':j<p.size:=by rw[hzs',length_map,length_toList]at hj;exact hj
   have:=hup i j hij (by omega);simp only[io]at this;rw[getD_eq_getD_getElem?,getD_eq_getD_getElem?,Array.getElem?_eq_getElem hi',Array.getElem?_eq_getElem hj']at this;simpa [hzs']using this
  have hout:(toArray (p.toList.map λi=>((zs.map (·.1)).map Value.ref).getD i Value.none))=((zs'.map (·.1)).map Value.ref).toArray:=by
   congr 1
   rw[hzs'];simp only[map_map];apply map_congr_left;intro i hi;have hi':i<zs.length:=mem_range.mp (hrow.perm.mem_iff.mp hi);have:=(hget i hi').1;simp only[map_map]at this;exact this
  rw[hout]at hg;have hv:ar ((zs'.map (·.1)).map V.ref) ((zs'.map (·.1)).map Value.ref):=by
   generalize zs'.map (·.1)=as
   induction as with
   |nil=>exact .nil
   |cons a as ih=>exact .cons rfl ih
  refine⟨.ref (s.heap.objs.size+1),_,I.laid (t':=s.toks) (o:=.lst ((zs'.map (·.1)).map V.ref)) kp (le_succ _) ⟨?_,_,c,hv,hg⟩,rfl,q zs' hperm hpw _ (I.hok.fresh (le_succ _))⟩;rw[length_map,length_map,hperm.length_eq,sizeLine_eq];omega
theorem fG(hu:X.A.units<cLine):OpR X (compareOp .NotEq) (λx y H Q=>∃a b xs,x=.ref a∧y=.ref b∧SqL X.K H a xs∧SqL X.K H b []∧Q (.bl (!decide (xs=[]))) H):=by
 intro pins s σ H x y v u Q I rx ry h;obtain⟨a,b,xs,rfl,rfl,ha,hb,q⟩:=h;cases rx;cases ry;obtain⟨its,r1,ht,_⟩:=I.list ha;obtain⟨its2,r2,hb',_⟩:=I.list hb;cases r2
 by_cases e:xs=[]
 ·subst e;cases r1;refine RcNeAt.lists (e:=λ_=>true) ht.isList hb'.isList rfl hu (λj h1 h2=>absurd h2 (by simp)) _ _ _ _ ⟨.bl _,H,I,?_,q⟩;rfl
 ·have e2:its≠[]:=λz=>e (r1.nil_iff.mp z);have e3:its.length≠0:=λz=>e2 (length_eq_zero_iff.mp z);refine RcNeAt.lists_lengths ht.isList hb'.isList (by simp[e3]) hu _ _ _ _ ⟨.bl _,H,I,?_,q⟩;show _=Value.bool _;simp[e]
end
end L2
namespace TK
open PySem L2
end TK
namespace L2
open PySem PySem.Spec PyProof.Rows
section
variable{X:Cx}{tg:Expr}
end
theorem uV{A:Around}{s:Shared}{a b:Addr}{xs ys:List V}{us ws:List Value}(r1:ar xs us)(r2:ar ys ws)(t1:s.heap.IsTuple a us.toArray)(t2:s.heap.IsTuple b ws.toArray)(hu:A.units<cLine)(fx:∀v∈xs,dh v=true)(fy:∀v∈ys,dh v=true):RcAt A s (.ref a) (.ref b) (decide (xs=ys)):=by
 have l1:=r1.length;have l2:=r2.length;have e:((List.range (min us.toArray.size ws.toArray.size)).all (λi=>decide (xs.getD i .non=ys.getD i .non))&&us.toArray.size==ws.toArray.size)=decide (xs=ys):=by
  simp only[size_toArray,←l1,←l2]
  by_cases hl:xs.length=ys.length
  ·rw[←hl,Nat.min_self,wW hl];simp
  ·have:(xs.length==ys.length)=false:=by simpa using hl
   rw[this,Bool.and_false];exact(decide_eq_false λe=>hl (by rw[e])).symm
 rw[←e];refine RcAt.tuples t1 t2 hu λj h1 h2=>?_;have h1':j<xs.length:=by rw[l1];simpa using h1
 have h2':j<ys.length:=by rw[l2];simpa using h2
 obtain⟨u',hu1,hu2⟩:=r1.get (getElem?_eq_getElem h1');obtain⟨v',hv1,hv2⟩:=r2.get (getElem?_eq_getElem h2');have e1:us.toArray[j]=u':=by
  have:us[j]?=some us.toArray[j]:=by rw[getElem?_eq_getElem (by simpa using h1)];simp
  rw[hu1]at this;exact(Option.some.inj this).symm
 have e2:ws.toArray[j]=v':=by
  have:ws[j]?=some ws.toArray[j]:=by rw[getElem?_eq_getElem (by simpa using h2)];simp
  rw[hv1]at this;exact(Option.some.inj this).symm
 rw[e1,e2,getD_eq_getElem?_getD,getD_eq_getElem?_getD,getElem?_eq_getElem h1',getElem?_eq_getElem h2'];have f1:=fx _ (getElem_mem h1');have f2:=fy _ (getElem_mem h2');show EqAt _ _ _ _ (decide (xs[j]=ys[j]));rw[←mH f1 f2];exact gP hu2 hv2 (dQ f1) (dQ f2)
section
variable{X:Cx}
theorem uW{ps qs:List (List V)}(hl:ps.length=qs.length):((List.range ps.length).all λi=>decide (ps.getD i []=qs.getD i []))=decide (ps=qs):=by
 rw[Bool.eq_iff_iff,all_eq_true,decide_eq_true_eq];constructor
 ·intro h;apply ext_getElem?;intro i
  by_cases hi:i<ps.length
  ·have:=h i (mem_range.mpr hi);rw[decide_eq_true_eq,getD_eq_getElem?_getD,getD_eq_getElem?_getD,getElem?_eq_getElem hi,getElem?_eq_getElem (by omega)]at this;rw[getElem?_eq_getElem hi,getElem?_eq_getElem (by omega)];exact congrArg some this
  ·rw[getElem?_eq_none (by omega),getElem?_eq_none (by omega)]
 ·intro h i hi;rw[h];simp
end
theorem cut_from{xs:List V}{k:Nat}(h:k≤xs.length):fj xs (some (k:Int)) none=xs.drop k:=by
 unfold fj;rw[HT.iR,HT.iE,Nat.min_eq_left h,List.take_of_length_le (by rw[length_drop];exact le_refl _)]
end L2
namespace L2
open PySem PyProof PyProof.Rows
section
variable{X:Cx}{pos:Pos}
end
end L2
namespace L2
open PySem PySem.Spec PyProof.Rows
def uX(CX:CXT)(P:Program)(w:World)(K:PySem.W.Frag)(mg:Str→Option Value)(base:Heap)(N:List Str)(qual:Str)(scope:Scope)(f:Addr)(cd:Value)(cl:List (Str×Addr))(A:Around)(outer:List Env)(s:Shared)(H:Hp)(E:XK):Cx where
 prog:=P
 w:=w
 K:=K
 mg:=mg
 base:=base
 A:=A.deeper (envX qual scope s.heap.objs.size f cd cl)
 N:=N
 s₀:=s
 H₀:=H
 env:=envX qual scope s.heap.objs.size f cd cl
 outer:=outer
 stack:=envX qual scope s.heap.objs.size f cd cl::outer
 ex:=[]
 calm:=true
 fn:=λ_=>false
 pn:=[]
 xe:=λe s'=>wpAny (model P w) (A.deeper (envX qual scope s.heap.objs.size f cd cl)) (leaving (envX qual scope s.heap.objs.size f cd cl) e) (λ_ s''=>CX outer H s E e s'') (λe' s''=>CX outer H s E e' s'') s'
structure LaScope(ps:List Str)(scope:Scope)(cl:List (Str×Addr)):Prop where
 kind:scope.kind=.function
 co:scope.isCoroutine=false
 gen:scope.isGenerator=false
 nocell:∀x∈scope.names,x.2≠.cell
 par:∀x∈ps,scope.names.lookup x=some .local
 nd:ps.Nodup
 has:∀x,scope.names.lookup x=some .free→∃c,cl.lookup x=some c
 inj:∀x y c,cl.lookup x=some c→cl.lookup y=some c→x=y
structure Capt(base:Heap)(scope:Scope)(cl:List (Str×Addr))(fs:List Str)(fv:List V):Prop where
 cell:∀x c,cl.lookup x=some c→∃v,base.IsCell c v
 len:fs.length=fv.length
 val:∀(i:Nat) x v,fs[i]?=some x→fv[i]?=some v→scope.names.lookup x=some .free∧∃c u,cl.lookup x=some c∧base.IsCell c (some u)∧aB v u
theorem pE:∀(ps:List Str)(us:List Value),((ps.zip us).map (·.1)).Sublist ps
 |[],_=>by simp
 |_::_,[]=>by simp
 |p::ps,u::us=>by rw[zip_cons_cons,map_cons];exact(pE ps us).cons₂ _
theorem nh{ps:List Str}{us:List Value}{i:Nat}{x:Str}{u:Value}(nd:ps.Nodup)(h1:ps[i]?=some x)(h2:us[i]?=some u):(ps.zip us).reverse.lookup x=some u:=by
 have mem:(x,u)∈(ps.zip us).reverse:=by
  rw[List.mem_reverse];exact mem_of_getElem? (i:=i) (by rw[List.getElem?_zip_eq_some];exact⟨h1,h2⟩)
 have nd2:((ps.zip us).reverse.map (·.1)).Nodup:=by
  rw[List.map_reverse];unfold Nodup;rw[List.pairwise_reverse];exact(nd.sublist (pE ps us)).imp λh=>symm h
 generalize (ps.zip us).reverse=l at mem nd2
 induction l with
 |nil=>cases mem
 |cons a r ih =>
  obtain⟨y,w⟩:=a;rw[map_cons,nodup_cons]at nd2;rcases mem_cons.mp mem with e|e
  ·cases e;rw[lookup_cons,beq_self_eq_true]
  ·have ne:x≠y:=λz=>nd2.1 (by rw[←z];exact mem_map.mpr ⟨(x,u),e,rfl⟩);rw[lookup_cons,show(x==y)=false by simpa using ne]
   exact ih e nd2.2
section
variable{CX:CXT}{P:Program}{w:World}{K:PySem.W.Frag}{mg:Str→Option Value}{base:Heap}{k:Nat}{f c:Addr}{name qual:Str}{params:Arguments}{body:Expr}{scope:Scope}{cl:List (Str×Addr)}{pm ctv:Value}{ps fs:List Str}{fv:List V}{sp:Sp}
theorem sE{A:Around}{outer:List Env}{s:Shared}{H:Hp}{E:XK}{us:List Value}{vs:List V}{h₁:Heap}{tk:Nat}(S:LaScope ps scope cl)(C:Capt base scope cl fs fv)(hd:A.handled=none)(e0:Env0 P w K mg base A outer s H)(hl:vs.length=ps.length)(r:ar vs us)(hns:h₁.Ns s.heap.objs.size (λx=>(ps.zip us).reverse.lookup x))(hk:∀b o,s.heap.get? b=some o→h₁.get? b=some o):
  Inv (uX CX P w K mg base (ps++fs) qual scope f (.ref c) cl A outer s H E) [] (vs.map some++fv.map some) H {s with heap:=h₁,toks:=tk}:=by
 have noA:∀b:Addr,b∉(uX CX P w K mg base (ps++fs) qual scope f (.ref c) cl A outer s H E).ex:=λb z=>absurd (show b∈([]:List Addr)from z) (by simp);have cellB:∀c v,base.IsCell c v→h₁.IsCell c v∧H c=none∧c≠s.heap.objs.size:=λc v ⟨o,e,d⟩=>⟨⟨o,hk c o (e0.bs _ _ e).1,d⟩,(e0.bs _ _ e).2,ne_of_lt (lt_size (e0.bs _ _ e).1)⟩;refine⟨⟨e0.mod,S.kind,rfl,rfl,le_refl _,S.inj,λy hy=>?_,λy c h _=>absurd h (by simp[uX]),λ_=>hd,Around.frames_deeper e0.frames,.inr ⟨rfl,rfl⟩,λb z=>absurd z (noA b),e0.bs,e0.bsz,λb _ _=>noA b,λb z=>absurd z (noA b),e0.funs,e0.frf⟩,
  rfl,e0.bare,Un.kept hk,⟨_,hns,λi y v h1 h2 h3=>?_⟩,λy c h=>?_,e0.hok.fresh (le_refl _),λy c h=>?_,λp hp=>absurd (show p∈([]:List (Addr×Obj))from hp) (by simp),e0.hok.kept hk,?_⟩
 ·have hy:scope.names.lookup y=some .cell∨scope.names.lookup y=some .free:=hy;rcases hy with hy|hy
  ·exact absurd rfl (S.nocell _ (PySem.mem_of_lookup hy))
  ·exact S.has y hy
 ·have h1:(ps++fs)[i]?=some y:=h1
  by_cases hi:i<ps.length
  ·rw[getElem?_append_left hi]at h1;rw[getElem?_append_left (by rw[length_map];omega),getElem?_map]at h2;cases e:vs[i]? with
   |none=>rw[e]at h2;cases h2
   |some a =>
    rw[e]at h2;cases h2;obtain⟨u,hu,rv⟩:=r.get e;exact⟨u,rv,.inl ⟨S.par y (mem_of_getElem? h1),nh S.nd h1 hu⟩⟩
  ·rw[getElem?_append_right (by omega)]at h1;rw[getElem?_append_right (by rw[length_map];omega),length_map,hl,getElem?_map]at h2;cases e:fv[i-ps.length]? with
   |none=>rw[e]at h2;cases h2
   |some a =>
    rw[e]at h2;cases h2;obtain⟨g1,cc,u,g2,g3,rv⟩:=C.val _ _ _ h1 e;exact⟨u,rv,.inr ⟨.inr g1,cc,g2,(cellB _ _ g3).1⟩⟩
 ·obtain⟨v,hv⟩:=C.cell y c h;exact⟨v,(cellB _ _ hv).1⟩
 ·obtain⟨v,hv⟩:=C.cell y c h;exact(cellB _ _ hv).2.1
 ·show _=(ps++fs).length;rw[length_append,length_append,length_map,length_map,hl,C.len]
end
def cdφ(c:Addr)(qual:Str)(h:Heap):Prop:=h.CodeRec (.ref c) qual
theorem nq{c:Addr}{qual:Str}:∀h1 h2:Heap,cdφ c qual h1→(∀o,h1.get? c=some o→h2.get? c=some o)→cdφ c qual h2:=λh1 h2 h k=>by
 obtain⟨c',oc,vs,tq,e1,e2,e3⟩:=h;cases e1;exact⟨c,oc,vs,tq,rfl,k _ e2,e3⟩
theorem sF{c:Addr}{qual:Str}{h:Heap}(x:cdφ c qual h):∃o,h.get? c=some o:=by
 obtain⟨c',oc,vs,tq,e1,e2,e3⟩:=x;cases e1;exact⟨oc,e2⟩
def bz(H:Hp)(P:Addr)(qual:Str):Prop:=∃ps:Array Value,H P=some (.tbl ps)∧TriplesOk ps.toList∧∀pos cv,codeAmong pos ps.toList=some cv→∃c,cv=.ref c∧H c=some (.ext (cdφ c qual))
theorem bz.start{H:Hp}{P:Addr}{qual:Str}(h:H P=some (.tbl #[])):bz H P qual:=⟨#[],h,trivial,λpos cv e=>by cases e⟩
theorem jY{pos:Pos}{a b:Int}{t u:Tok}{v cv:Value}:∀{l:List Value},TriplesOk l→codeAmong pos (l++[.int a t,.int b u,v])=some cv→codeAmong pos l=some cv∨cv=v
 |[],_,h=>by
  have h:(if a==pos.line&&b==pos.col then some v else codeAmong pos [])=some cv:=h
  split at h
  ·exact .inr (Option.some.inj h).symm
  ·cases h
 |.int x t1::.int y t2::c::rest,ht,h=>by
  have h:(if x==pos.line&&y==pos.col then some c else codeAmong pos (rest++[.int a t,.int b u,v]))=some cv:=h
  show(if x==pos.line&&y==pos.col then some c else codeAmong pos rest)=some cv∨cv=v
  split at h
  ·rename_i e;rw[if_pos e];exact .inl h
  ·rename_i e;rw[if_neg e];exact jY (show TriplesOk rest from ht) h
theorem ip{a b:Int}{t u:Tok}{v:Value}:∀{l:List Value},TriplesOk l→TriplesOk (l++[.int a t,.int b u,v])
 |[],_=>trivial
 |.int x t1::.int y t2::c::rest,ht=>ip (l:=rest) ht
def db(P:Addr)(H H':Hp):Prop:=∀b o,b≠P→H b=some o→H' b=some o
theorem db.refl(P:Addr)(H:Hp):db P H H:=λ_ _ _ h=>h
def BmB(base:Heap)(mg:Str→Option Value):Prop:=∃bm o,mg "__builtins__"=some (.ref bm)∧bm≠builtinsNs∧base.get? bm=some o∧o.cls=.type "module"∧o.dict=some builtinsNs∧o.data=.plain
section
variable{X:Cx}{pins:List (Addr×Obj)}{σ:St}{H:Hp}{s:Shared}
theorem Inv.tab{P:Addr}{ps more:Array Value}{h':Heap}{t':Nat}(I:Inv X pins σ H s)(hP:H P=some (.tbl ps))(k:∀b o,b≠P→s.heap.get? b=some o→h'.get? b=some o)(hP':h'.get? P=some {cls:=.none,data:=.fields (ps++more)}):Inv X pins σ (upd H P (.tbl (ps++more))) {s with heap:=h',toks:=t'}:=by
 have ne:∀b,H b=none→b≠P:=λb n z=>by rw[z,hP]at n;cases n
 refine I.un (t':=t') ⟨λb o e n _ _=>k b o (ne b n) e,λb o e n _ _=>⟨o.slots,k b o (ne b n) e⟩,λb o e n _=>by rw[af (ne b n)];exact n,λb o e _=>?_,λb xs e=>?_,λb o u e=>?_,λb qs e=>?_⟩ λb u e=>?_
 ·by_cases hb:b=P
  ·rw[hb];exact⟨_,hP'⟩
  ·exact⟨o,k b o hb e⟩
 ·rw[af (λz=>by rw[z,hP]at e;cases e)];exact e
 ·rw[af (λz=>by rw[z,hP]at e;cases e)];exact e
 ·by_cases hb:b=P
  ·subst hb;rw[hP]at e;cases e;exact⟨more,ac⟩
  ·exact⟨#[],by rw[af hb,e];simp⟩
 ·by_cases hb:b=P
  ·subst hb;rw[ac]at e;cases e;exact hP'
  ·rw[af hb]at e;refine(I.hok b u e).stay (λc v hc q=>k c v (λz=>?_) q) (λc q=>?_) λc xs q=>?_
   ·rcases hc with hc|hc
    ·exact hb (hc.symm.trans z)
    ·rw[z,hP]at hc;cases hc
   ·rw[af (λz=>by rw[z,hP]at q;cases q)];exact q
   ·rw[af (λz=>by rw[z,hP]at q;cases q)];exact q
theorem pF{c0 P:Addr}{params:Arguments}{body:Expr}{scope:Scope}{pos:Pos}{cl:List (Str×Addr)}{Q:Value→Shared→Prop}{E:Value→Shared→Prop}(I:Inv X pins σ H s)(C0:CodeHd X.base c0 P)(hc:X.env.code=.ref c0)(Bm:BmB X.base X.mg)(T:bz H P (X.env.qual++"<lambda>"))(hdef:defaultsOf params X.env=([],[]))(hcl:closureFor scope X.env=pure cl)(h:∀f c pm ctv H' s',db P H H'→bz H' P (X.env.qual++"<lambda>")→H' c=some (.ext (cdφ c (X.env.qual++"<lambda>")))→Inv X pins σ H' s'→s'.heap.get? f=some (kla_obj "<lambda>" (X.env.qual++"<lambda>") params body scope cl pm c ctv)→s.heap.objs.size≤f→H' f=none→(∀b v,s.heap.IsCell b v→H b=none→s'.heap.IsCell b v)→Q (.ref f) s'):
  wpAny (model X.prog X.w) X.A (eval (.Lambda params body scope pos) X.env) Q E s:=by
 obtain⟨ps,hP,ht,hq⟩:=T;have hPs:s.heap.get? P=some (tabObj ps):=I.hok P _ hP;have hg:s.heap.Ns mainGlobals X.mg:=I.ok.mod.glob.keeps I.bk;have hgP:mainGlobals≠P:=λq=>by
  obtain⟨o,es,ep,e,hd,_⟩:=I.ok.mod.glob;have:=(I.bs _ _ e).2;rw[q,hP]at this;cases this
 have hb:s.heap.BuiltinsAt X.mg P:=by
  obtain⟨bm,ob,b1,b2,b3,b4,b5,b6⟩:=Bm;refine⟨bm,ob,b1,b2,λq=>?_,λq=>?_,I.bk _ _ b3,b4,b5,b6⟩
  ·obtain⟨o,es,ep,e,hd,_⟩:=I.ok.mod.glob;rw[q,e]at b3;cases b3;rw[hd]at b6;cases b6
  ·have:=(I.bs _ _ b3).2;rw[q,hP]at this;cases this
 have C:=C0.keeps I.bk;have cellP:∀b v,s.heap.IsCell b v→H b=none→b≠P:=λb v _ n z=>by rw[z,hP]at n;cases n
 refine PySem.W.kla_eval hdef ?_;cases ha:codeAmong pos ps.toList with
 |none =>
  refine PySem.W.kla_makeFunction (mg:=X.mg) hcl I.ok.glob hg hc C hPs ht ha hgP hb λc' ctv h' tk hx hge hlt hrec htb=>?_;have J:=I.tab (t':=tk) (more:=#[rawInt pos.line,rawInt pos.col,.ref c']) (h':=h'.push (kla_obj "<lambda>" (X.env.qual++"<lambda>") params body scope cl ((X.mg "__name__").getD .none) c' ctv)) hP (λb o n e=>get?_push_of_some _ (hx b o n e)) (get?_push_of_some _ htb);have fr:H c'=none:=I.hok.fresh hge;have ncP:c'≠P:=λz=>by rw[z,hP]at fr;cases fr
  have fr':upd H P (.tbl (ps ++ #[rawInt pos.line,rawInt pos.col,.ref c'])) c'=none:=by rw[af ncP];exact fr
  have hrec':cdφ c' (X.env.qual++"<lambda>") (h'.push (kla_obj "<lambda>" (X.env.qual++"<lambda>") params body scope cl ((X.mg "__name__").getD .none) c' ctv)):=nq _ _ hrec λo e=>get?_push_of_some _ e;have Hq:db P H (upd (upd H P (.tbl (ps ++ #[rawInt pos.line,rawInt pos.col,.ref c']))) c' (.ext (cdφ c' (X.env.qual++"<lambda>")))):=λb o n e=>by
   rw[af (ao e fr),af n];exact e
  have sz:s.heap.objs.size≤h'.objs.size:=le_trans hge (le_of_lt hlt);have nfc:h'.objs.size≠c':=ne_of_gt hlt;have frf:H h'.objs.size=none:=I.hok.fresh sz;have nfP:h'.objs.size≠P:=λz=>by rw[z,hP]at frf;cases frf
  have J2:Inv X pins σ (upd (upd H P (.tbl (ps ++ #[rawInt pos.line,rawInt pos.col,.ref c']))) c' (.ext (cdφ c' (X.env.qual++"<lambda>")))) {s with heap:=h'.push (kla_obj "<lambda>" (X.env.qual++"<lambda>") params body scope cl ((X.mg "__name__").getD .none) c' ctv),toks:=tk}:=by
   refine⟨J.ok,J.os,J.bare,⟨λb o e n hb hx=>J.base.keep b o e n hb hx,λb o e n hb hx=>J.base.slot b o e n hb hx,λb o e n hx=>?_,J.base.there,λb xs e=>?_,λb o u e=>?_,λb qs e=>?_⟩,J.loc,J.cell,?_,λx c e=>?_,λp hp=>?_,λb u e=>?_,J.len⟩
   ·have h1:=J.base.free b o e n hx;have:b≠c':=ne_of_lt (lt_of_lt_of_le (lt_of_lt_of_le (lt_size e) I.sz) hge);rw[af this];exact h1
   ·have h1:=J.base.tups b xs e;rw[af (ao h1 fr')];exact h1
   ·have h1:=J.base.frzs b o u e;rw[af (ao h1 fr')];exact h1
   ·obtain⟨m,h1⟩:=J.base.tbls b qs e;exact⟨m,by rw[af (ao h1 fr')];exact h1⟩
   ·rw[af (ne_of_lt (lt_of_lt_of_le I.lt hge))];exact J.free
   ·have h1:=J.freeC x c e;obtain⟨v,o,ho,_⟩:=I.cell x c e;rw[af (ne_of_lt (lt_of_lt_of_le (lt_size ho) hge))];exact h1
   ·obtain⟨g1,g2,g3,g4,g5⟩:=J.pin p hp;obtain⟨i1,_⟩:=I.pin p hp;exact⟨g1,by rw[af (ne_of_lt (lt_of_lt_of_le (lt_size i1) hge))];exact g2,g3,g4,g5⟩
   ·by_cases hb:b=c'
    ·subst hb;rw[ac]at e;cases e;exact⟨hrec',sF hrec',nq⟩
    ·rw[af hb]at e;exact(J.hok b u e).stay (λ_ _ _ q=>q) (λc q=>by rw[af (ao q fr')];exact q) λc xs q=>by rw[af (ao q fr')];exact q
  refine h h'.objs.size c' _ ctv _ _ Hq ⟨_,by rw[af (symm ncP)];exact ac,?_,λpos' cv e=>?_⟩ ac J2 (get?_push_size _ rfl) sz ?_ λb v ⟨o,ho,hd⟩ n=>⟨o,get?_push_of_some _ (hx b o (cellP b v ⟨o,ho,hd⟩ n) ho),hd⟩
  ·rw[Array.toList_append];exact ip ht
  ·rw[Array.toList_append]at e;rcases jY ht e with e|e
   ·obtain⟨c,e1,e2⟩:=hq pos' cv e;refine⟨c,e1,Hq c _ (λz=>?_) e2⟩;rw[z,hP]at e2;cases e2
   ·exact⟨c',e,ac⟩
  ·rw[af nfc,af nfP];exact frf
 |some cv =>
  obtain⟨c,rfl,hcx⟩:=hq pos cv ha;refine PySem.W.kla_makeFunctionHit (mg:=X.mg) hcl I.ok.glob hg hc C hPs ht ha hb λctv h' tk hk hsz=>?_;have J:=I.kept (t':=tk) (h':=h'.push (kla_obj "<lambda>" (X.env.qual++"<lambda>") params body scope cl ((X.mg "__name__").getD .none) c ctv)) λb o e=>get?_push_of_some _ (hk b o e);exact h h'.objs.size c _ ctv H _ (db.refl _ _) ⟨ps,hP,ht,hq⟩ hcx J (get?_push_size _ rfl) hsz (I.hok.fresh hsz) λb v ⟨o,ho,hd⟩ _=>⟨o,get?_push_of_some _ (hk b o ho),hd⟩
end
def bB(X:Cx)(H:Hp)(s:Shared):Heap:=hideAll s.heap (trk s.heap H++frs X.stack)
section
variable{X:Cx}{pins:List (Addr×Obj)}{σ:St}{H:Hp}{s:Shared}
theorem lp{b:Addr}{o:Obj}(e:s.heap.get? b=some o)(n:H b=none)(nf:b∉frs X.stack):(bB X H s).get? b=some o :=
 hideAll_get _ e λhm=>by
  rcases mem_append.mp hm with hm|hm
  ·have q:(H b).isSome=true:=(mem_filter.mp hm).2;rw[n]at q;simp at q
  ·exact nf hm
theorem sG{b:Addr}{o:Obj}(e:(bB X H s).get? b=some o):s.heap.get? b=some o∧H b=none∧b∉frs X.stack:=by
 have e':s.heap.get? b=some o:=of_hideAll (trk s.heap H++frs X.stack) e;have hid:b∉trk s.heap H++frs X.stack:=λhm=>by
  have z:(bB X H s).get? b=none:=hideAll_none _ hm;rw[z]at e;cases e
 refine⟨e',?_,λhm=>hid (mem_append_right _ hm)⟩;cases q:H b with
 |none=>rfl
 |some x=>exact absurd (mem_append_left _ (mem_filter.mpr ⟨mem_range.mpr (lt_size e'),by simp[q]⟩)) hid
theorem dF{h base base':Heap}:∀{l:List Env},h.FunFrames base l→(∀b∈frs l,base'.get? b=none)→h.FunFrames base' l
 |[],_,_=>trivial
 |env::rest,⟨k,⟨L,o,hf,hb,ho,hd⟩,r⟩,hn=>by
  have e:frs (env::rest)=L::frs rest:=by unfold frs;rw[filterMap_cons,hf]
  rw[e]at hn;exact⟨k,⟨L,o,hf,hn L mem_cons_self,ho,hd⟩,dF r λb hb=>hn b (mem_cons_of_mem _ hb)⟩
theorem Inv.bsub(I:Inv X pins σ H s):∀b o,X.base.get? b=some o→(bB X H s).get? b=some o:=λb o e=>by
 obtain⟨h1,h2⟩:=I.bs b o e;refine lp h1 h2 λhm=>?_;have:=(I.stack.mem hm).1;rw[e]at this;cases this
theorem Inv.env0B(I:Inv X pins σ H s):Env0 X.prog X.w X.K X.mg (bB X H s) X.A X.stack s H:=by
 have kp:=I.bsub;obtain⟨mb,hb,hbb⟩:=I.ok.mod.blt;refine⟨I.ok.frames,⟨I.ok.mod.kin.keeps kp,I.ok.mod.glob.keeps kp,⟨mb,hb.keeps kp,hbb⟩,I.ok.mod.nolimit.keeps kp⟩,λb o e=>⟨(sG e).1,(sG e).2.1⟩,le_of_eq (hideAll_size _ _),dF I.stack λb hb=>?_,I.stkFree,I.hok,I.bare⟩;cases q:(bB X H s).get? b with
 |none=>rfl
 |some o=>exact absurd hb (sG q).2.2
def ym(js:List Nat)(σ:St)(fv:List V):Prop:=js.map (λj=>(σ[j]?).getD none)=fv.map some
structure CapOk(X:Cx)(scope:Scope)(cl:List (Str×Addr))(fs:List Str)(js:List Nat):Prop where
 len:fs.length=js.length
 cells:∀x c,cl.lookup x=some c→X.env.cells.lookup x=some c
 at':∀(i j:Nat) x,js[i]?=some j→fs[i]?=some x→X.N[j]?=some x∧X.env.scope.names.lookup x=some .cell∧scope.names.lookup x=some .free∧∃c,cl.lookup x=some c
 fn:∀x,X.fn x=true
theorem Inv.cellF(I:Inv X pins σ H s)(hfn:∀x,X.fn x=true){x:Str}{c:Addr}(h:X.env.cells.lookup x=some c):c∉frs X.stack:=λhm=>by
 rcases mem_cons.mp (I.stkSub c hm)with z|z
 ·exact I.cne x c h z
 ·obtain⟨_,o,ho,_⟩:=I.ok.funs.mem z;have:=lt_of_lt_of_le (lt_size ho) (I.ok.cab x c (hfn x) h);exact absurd this (lt_irrefl _)
theorem Inv.capt{scope:Scope}{cl:List (Str×Addr)}{fs:List Str}{js:List Nat}{fv:List V}(I:Inv X pins σ H s)(O:CapOk X scope cl fs js)(hv:ym js σ fv):Capt (bB X H s) scope cl fs fv:=by
 have cellB:∀x c v,X.env.cells.lookup x=some c→s.heap.IsCell c v→(bB X H s).IsCell c v:=λx c v e ⟨o,ho,hd⟩=>⟨o,lp ho (I.freeC x c e) (I.cellF O.fn e),hd⟩;refine⟨λx c e=>?_,?_,λi x v h1 h2=>?_⟩
 ·obtain⟨v,hv⟩:=I.cell x c (O.cells x c e);exact⟨v,cellB x c v (O.cells x c e) hv⟩
 ·rw[O.len];have:=congrArg length hv;rw[length_map,length_map]at this;exact this
 ·have hi:i<js.length:=by rw[←O.len];exact(List.getElem?_eq_some_iff.mp h1).1
  obtain⟨a1,a2,a3,c,a4⟩:=O.at' i js[i] x (getElem?_eq_getElem hi) h1;have e:(js.map (λj=>(σ[j]?).getD none))[i]?=some (some v):=by
   rw[show js.map (λj=>(σ[j]?).getD none)=fv.map some from hv,getElem?_map,h2];rfl
  rw[getElem?_map,getElem?_eq_getElem hi]at e;have e':(σ[js[i]]?).getD none=some v:=Option.some.inj e;have e4:σ[js[i]]?=some (some v):=by
   cases q:σ[js[i]]? with
   |none=>rw[q]at e';cases e'
   |some y=>rw[q]at e';exact congrArg some e'
  obtain⟨m,_,hl⟩:=I.loc;obtain⟨u,r,lk⟩:=hl js[i] x v a1 e4 (.inr (.inl a2));rcases lk with⟨q,_⟩|⟨_,c',e5,e6⟩
  ·rw[show X.env.kindOf x=X.env.scope.names.lookup x from rfl,a2]at q;cases q
  ·have:c=c':=Option.some.inj ((O.cells x c a4).symm.trans e5);subst this;exact⟨a3,c,u,a4,cellB x c _ e5 e6,r⟩
end
section
variable{CX:CXT}{P:Program}{w:World}{K:PySem.W.Frag}{mg:Str→Option Value}{base:Heap}{k:Nat}{f c:Addr}{name qual:Str}{params:Arguments}{body:Expr}{scope:Scope}{cl:List (Str×Addr)}{pm ctv:Value}{ps fs:List Str}{fv:List V}{sp:Sp}
theorem pG(ho:base.get? f=some (kla_obj name qual params body scope cl pm c ctv))(hcd:∀vs H Q E,sp vs H Q E→H c=some (.ext (cdφ c qual)))(S:LaScope ps scope cl)(C:Capt base scope cl fs fv)(len:∀vs H Q E,sp vs H Q E→vs.length=ps.length)(hbody:∀(A:Around) (outer:List Env) (s:Shared) (H:Hp) (vs:List V) (Q:VK) (E:XK),Room k (A.deeper (envX qual scope s.heap.objs.size f (.ref c) cl))→sp vs H Q E →
   ∃t,PE (uX CX P w K mg base (ps++fs) qual scope f (.ref c) cl A outer s H E) body t∧t (vs.map some++fv.map some) H Q):
  FnOk P w K mg base CX (k+1) f (kla_fn name qual params body scope cl pm (.ref c) ctv) ps sp:=by
 refine⟨len,λA outer s H args us vs Q E hr e0 hb r hsp=>?_⟩;have hl:=len _ _ _ _ hsp;have kp:∀b o,base.get? b=some o→s.heap.get? b=some o:=λb o e=>(e0.bs b o e).1;have lim:s.heap.NoLimit:=e0.mod.nolimit.keeps kp;have hcd':s.heap.CodeRec (.ref c) qual:=(e0.hok c _ (hcd _ _ _ _ hsp)).1;refine PySem.W.kla_callFunE hr.depth (kp _ _ ho) rfl S.co S.gen rfl hcd' (hb _ _ _ _ ?_);refine wpAny_newFunctionEnv S.nocell (λx hx=>S.par _ (of_mem_zip hx).1) (λh₁ hns hsb=>?_) S.kind;have hk₁:∀b o,s.heap.get? b=some o→h₁.get? b=some o:=λb o e=>hsb.extBut b o (ne_of_lt (lt_size e)) (get?_push_of_some _ e);refine⟨lim.keeps hk₁,PySem.W.kla_codeExpr ?_⟩;obtain⟨t,ht,hq⟩:=hbody A outer s H vs Q E (hr.deeper _) hsp;have I:=sE (CX:=CX) (P:=P) (w:=w) (K:=K) (mg:=mg) (qual:=qual) (f:=f) (c:=c) (E:=E) (tk:=s.toks+(ps.zip us).length) S C hr.hd e0 hl r hns hk₁;exact wpAny_mono (ht [] _ _ H _ I hq) (λu s' ⟨v,H',J,rv,q⟩=>⟨v,H',J.os,J.bare,J.base,J.hok,rv,q⟩) λe s' h=>h
end
section
variable{P:Program}{w:World}{H:Hp}{fs:List Addr}{s s1:Shared}
variable{K:PySem.W.Frag}{mg:Str→Option Value}{base:Heap}{A:Around}{outer:List Env}{k:Nat}{f:Addr}{fd:FuncData}{y:Str}{spK:Sp}{key:V→Str}
end
section
variable{X:Cx}
end
theorem qK{P:Program}{w:World}{K:PySem.W.Frag}{mg mb:Str→Option Value}{k:Nat}{fa a:Addr}{fd:FuncData}{x:Str}{sp:Sp}{s₁:Shared}{vs:List Value}{ns:List Int}{tabs:List Addr}(KX:K.In s₁.heap)(hns:s₁.heap.Ns mainGlobals mg)(hb:s₁.heap.Ns builtinsNs mb)(hbb:∀x:Str,x≠"__name__"→mb x=bootBuiltins x)(hlim:s₁.heap.NoLimit)(hg:s₁.gens=#[])(hT:∀t∈tabs,(∃c,CodeHd s₁.heap c t)∧s₁.heap.get? t=some (tabObj #[]))(hKT:∀t∈tabs,K.lookup t=none)(hbm:BmB s₁.heap mg)(ha:s₁.heap.get? a=some {cls:=.type "list",data:=.seq vs.toArray})(hi:IntsAre vs ns)(hl:ns.length≤sizeLine)(hr:Room k callerA)(F:∀base:Heap,K.In base→base.Ns mainGlobals mg→BmB base mg→FnOk P w K mg base CX0 k fa fd [x] sp)(hbind:∀(s:Shared) (u:Value),BindsTo s fd ⟨[u],[]⟩ [(x,u)])(hsp:∀H:Hp,SqL K H a (ns.map V.int)→(∀t∈tabs,H t=some (.tbl #[]))→sp [.ref a] H (λv _=>v=.bl true) λ_ _ _=>False):
  codeAny (model P w) callerA (.call (.ref fa) ⟨[.ref a],[]⟩) (λr s'=>r=.ok (.ret (.bool true))∧OldK s₁.heap s'.heap∧s'.os=s₁.os∧AllBare s'.gens) s₁:=by
 have rv:=jS hi;have lenV:=hi.length;have naT:a∉tabs:=λh=>by
  have:=(hT a h).2;rw[ha]at this;cases this
 have core:∀(H:Hp),SqL K H a (ns.map V.int)→HOk P w H s₁.heap→(∀t∈tabs,H t=some (.tbl #[]))→(∀b o,H b=some o→(b=a∧K.lookup a=none∧∃ob xs,o=.frz ob (.lst xs))∨b∈tabs) →
   codeAny (model P w) callerA (.call (.ref fa) ⟨[.ref a],[]⟩) (λr s'=>r=.ok (.ret (.bool true))∧OldK s₁.heap s'.heap∧s'.os=s₁.os∧AllBare s'.gens) s₁:=by
  intro H hS hok hTt hA;have base_of:∀{b:Addr}{o:Obj},s₁.heap.get? b=some o→H b=none→(jz s₁.heap H).get? b=some o:=λe n=>qU e n;have noA:∀{b:Addr}{o:Obj}{es:Array DictEntry}{ep:Nat},s₁.heap.get? b=some o→o.data=.dict es ep→H b=none:=λ{b o es ep} e d=>by
   cases q:H b with
   |none=>rfl
   |some u =>
    rcases hA b u q with⟨e',_⟩|hm
    ·subst e';rw[ha]at e;cases e;cases d
    ·rw[(hT b hm).2]at e;cases e;cases d
  have nsK:∀{b:Addr}{m:Str→Option Value},s₁.heap.Ns b m→(jz s₁.heap H).Ns b m:=λ{b m} ⟨o,es,ep,e,d,r⟩=>⟨o,es,ep,base_of e (noA e d),d,r⟩;have hKb:K.In (jz s₁.heap H):=λb o e=>base_of (KX b o e) (by
   cases q:H b with
   |none=>rfl
   |some u =>
    rcases hA b u q with⟨e',hk,_⟩|hm
    ·subst e';rw[hk]at e;cases e
    ·rw[hKT b hm]at e;cases e)
  have hM:Mod K mg (jz s₁.heap H):=⟨hKb,nsK hns,⟨mb,nsK hb,hbb⟩,let⟨mc,h1,h2⟩:=hlim;⟨mc,nsK h1,h2⟩⟩;have e0:Env0 P w K mg (jz s₁.heap H) callerA [] s₁ H:=⟨rfl,hM,λb o e=>tT e,le_of_eq (pZ _ _),trivial,λb hb=>absurd (show b∈([]:List Addr)from hb) (by simp),hok,.of_eq hg⟩;have hBm:BmB (jz s₁.heap H) mg:=by
   obtain⟨bm,o,b1,b2,b3,b4,b5,b6⟩:=hbm;refine⟨bm,o,b1,b2,base_of b3 ?_,b4,b5,b6⟩;cases q:H bm with
   |none=>rfl
   |some u =>
    rcases hA bm u q with⟨e',_⟩|hm
    ·subst e';rw[ha]at b3;cases b3;cases b6
    ·rw[(hT bm hm).2]at b3;cases b3;cases b6
  refine codeAny_mono ((F _ hKb (nsK hns) hBm).run callerA [] s₁ H ⟨[.ref a],[]⟩ [.ref a] [.ref a] _ _ hr e0 (hbind s₁ (.ref a)) (.cons rfl .nil) (hsp H hS hTt)) λr s' h=>?_;cases r with
  |error e=>exact False.elim h
  |ok fl =>
   cases fl with
   |next=>exact False.elim h
   |brk=>exact False.elim h
   |cont=>exact False.elim h
   |ret u =>
    obtain⟨v,H',os,bare,un,hok',r',q⟩:=h;have q':v=.bl true:=q;subst q';obtain rfl:u=Value.bool true:=r';refine⟨rfl,⟨λb o e=>?_,λb o e=>?_⟩,os,bare⟩
    ·cases q:H b with
     |none=>exact .inl (un.keep b o e q (by intro z;exact absurd (show b∈([]:List Addr)from z) (by simp)) (by simp))
     |some u =>
      rcases hA b u q with⟨e',_,ob,xs,z⟩|hm
      ·subst z;have z2:=un.frzs b ob _ q;obtain⟨e1,_⟩:=hok b _ q;obtain⟨e2,_⟩:=hok' b _ z2;rw[e]at e1;cases e1;exact .inl e2
      ·obtain⟨⟨c,C⟩,e1⟩:=hT b hm;obtain⟨more,e2⟩:=un.tbls b _ (hTt b hm);have e3:s'.heap.get? b=some (tabObj (#[]++more)):=hok' b _ e2;rw[e]at e1;cases e1;exact .inr (.inl ⟨(C.tab e).isCodeTable,rfl,#[],more,rfl,e3⟩)
    ·exact un.there b o e (by simp)
 cases hk:K.lookup a with
 |some o =>
  have e:=KX a o hk;rw[ha]at e;cases e;refine core (λb=>if b∈tabs then some (.tbl #[])else none) (.inr ⟨_,vs.toArray,_,hk,rfl,rfl,rfl,by rw[size_toArray,lenV];exact hl,by simpa using rv⟩) (λb u z=>?_) (λt h=>if_pos h) λb o z=>?_
  ·by_cases hb:b∈tabs
   ·have z':=(if_pos hb).symm.trans z;cases z';exact(hT b hb).2
   ·have z':=(if_neg hb).symm.trans z;cases z'
  ·by_cases hb:b∈tabs
   ·exact .inr hb
   ·have z':=(if_neg hb).symm.trans z;cases z'
 |none =>
  refine core (λb=>if b=a then some (.frz {cls:=.type "list",data:=.seq vs.toArray} (.lst (ns.map V.int)))else if b∈tabs then some (.tbl #[])else none) (.inl (.inr ⟨{cls:=.type "list",data:=.seq vs.toArray},if_pos rfl⟩)) (λb u z=>?_) (λt h=>?_) λb o z=>?_
  ·by_cases hb:b=a
   ·have z':=(if_pos hb).symm.trans z;cases z';subst hb;exact⟨ha,by rw[length_map];exact hl,vs,_,rv,ha⟩
   ·have z1:=(if_neg hb).symm.trans z
    by_cases hm:b∈tabs
    ·have z':=(if_pos hm).symm.trans z1;cases z';exact(hT b hm).2
    ·have z':=(if_neg hm).symm.trans z1;cases z'
  ·have:t≠a:=λz=>naT (by rw[←z];exact h);rw[if_neg this,if_pos h]
  ·by_cases hb:b=a
   ·have z':=(if_pos hb).symm.trans z;exact .inl ⟨hb,hk,_,_,(Option.some.inj z').symm⟩
   ·have z1:=(if_neg hb).symm.trans z
    by_cases hm:b∈tabs
    ·exact .inr hm
    ·have z':=(if_neg hm).symm.trans z1;cases z'
theorem sH{l:PySem.W.OpenLaw}{n k:Nat}{q:Program}{loose:List Str}{XP:(Str→Option Value)→Heap→Prop}{YP:World→Heap→Prop}{d:DefRec}{K:Params→PySem.W.Frag}{sp:World→Sp}{x:Str}{tabs:List Addr}(hn:l.most=some n)(hn2:n≤sizeLine)(hdf:d.params.defaults=[])(hr:Room k callerA)(hY:∀(w:World) (h:Heap),YP w h→(K w.params).In h)(hT:∀(w:World) (h:Heap),YP w h→∀t∈tabs,h.get? t=some (tabObj #[]))(hC:∀w:World,∀t∈tabs,(∃c,codeHdIn (K w.params) c t=true)∧(K w.params).lookup t=none)(F:∀(w:World) (mg:Str→Option Value) (fa:Addr) (h:Heap),(K w.params).In h→h.Ns mainGlobals mg→mg d.name=some (.ref fa) →
   ∃fd:FuncData,(∀(s:Shared) (u:Value),BindsTo s fd ⟨[u],[]⟩ [(x,u)]) ∧
    ∀base:Heap,(K w.params).In base→base.Ns mainGlobals mg→BmB base mg→FnOk l.prog w (K w.params) mg base CX0 k fa fd [x] (sp w))(hsp:∀(w:World) (H:Hp) (a:Addr) (ns:List Int),ns.length≤n→SqL (K w.params) H a (ns.map V.int)→(∀t∈tabs,H t=some (.tbl #[]))→sp w [.ref a] H (λv _=>v=.bl true) λ_ _ _=>False):
  PySem.W.WalkO q loose XP YP l.row.toRowW d [] (λf vs=>PySem.call f vs):=by
 refine Att.lS hn hdf λw s₀ s₁ mg mb fa o pm cd doc a vs ns G Y ho hd hcd hmg hobj hints hlen hg=>?_;have KX:=hY w _ Y;obtain⟨fd,hb,hF⟩:=F w mg fa _ KX G.T.g hmg;exact qK KX G.T.g G.T.b G.T.builtins G.T.nolimit hg (λt h=>⟨let⟨c,e⟩:=(hC w t h).1;⟨c,codeHd_of_K KX e⟩,hT w _ Y t h⟩) (λt h=>(hC w t h).2) G.T.bmain hobj hints (le_trans hlen hn2) hr hF hb λH hS hTt=>hsp w H a ns hlen hS hTt
theorem Fun.okT{P:Program}{w:World}{K:PySem.W.Frag}{mg:Str→Option Value}{base:Heap}{x qual:Str}{st:Stmt}{f c0:Addr}{fd:FuncData}{N ps:List Str}{k:Nat}{sp:Sp}(F:Fun K x qual st f fd)(hc:fd.code=.ref c0)(S:FnScope N ps (ai st))(len:∀vs H Q E,sp vs H Q E→vs.length=ps.length)(hbody:∀(A:Around) (outer:List Env) (s:Shared) (H:Hp) (vs:List V) (Q:VK) (E:XK),Room k (A.deeper (envOfC qual (ai st) s.heap.objs.size f (.ref c0)))→sp vs H Q E →
   ∃t,PSs (fZ CX0 P w K mg base N qual (ai st) f (.ref c0) A outer s H E).nox (bb st) t∧t {nx:=λ_ H'=>Q .non H',rt:=Q} (start N vs) H):FnOk P w K mg base CX0 (k+1) f fd ps sp:=by
 obtain⟨oc,od,kV,doc,pm,an,cdv,ct,osl,rfl,lk,hcd⟩:=F.ex;obtain rfl:cdv=.ref c0:=hc;refine re lk hcd S len λA outer s H vs Q E hr hsp=>?_;obtain⟨t,h,q⟩:=hbody A outer s H vs Q E hr hsp;exact⟨t,h.nox,q⟩
theorem BmB.sub{base base':Heap}{mg:Str→Option Value}(h:BmB base mg)(s:∀b o,base.get? b=some o→base'.get? b=some o):BmB base' mg:=let⟨bm,o,b1,b2,b3,r⟩:=h;⟨bm,o,b1,b2,s _ _ b3,r⟩
end L2
namespace L2
open PySem PySem.W PySem.Spec PyProof.Rows
theorem fb{α β:Type}{g:α→β}{ps qs:List β}(h:ps.Perm qs):∀{zs:List α},zs.map g=qs→∃ys:List α,ys.Perm zs∧ys.map g=ps:=by
 induction h with
 |nil=>intro zs e;exact⟨zs,.refl _,e⟩
 |cons x _ ih =>
  intro zs e;cases zs with
  |nil=>cases e
  |cons z zs =>
   rw[map_cons]at e;injection e with e1 e2
   obtain⟨ys,p,q⟩:=ih e2;exact⟨z::ys,p.cons _,by rw[map_cons,e1,q]⟩
 |swap x y l =>
  intro zs e
  match zs,e with
  |a::b::zs,e =>
   rw[map_cons,map_cons]at e;injection e with e1 e2
   injection e2 with e2 e3
   exact⟨b::a::zs,.swap _ _ _,by rw[map_cons,map_cons,e1,e2,e3]⟩
 |trans _ _ ih1 ih2 =>
  intro zs e;obtain⟨ys,p,q⟩:=ih2 e;obtain⟨ws,p',q'⟩:=ih1 q;exact⟨ws,p'.trans p,q'⟩
theorem nr:∀{xs:List V}{us:List Value},ar xs us→∃zs:List (V×Value),zs.map (·.1)=xs∧zs.map (·.2)=us∧∀z∈zs,aB z.1 z.2
 |_,_,.nil=>⟨[],rfl,rfl,λz h=>by cases h⟩
 |_,_,.cons (a:=x) (b:=u) r q=>by
  obtain⟨zs,h1,h2,h3⟩:=nr q;refine⟨(x,u)::zs,by rw[map_cons,h1],by rw[map_cons,h2],λz hz=>?_⟩;rcases mem_cons.mp hz with e|e
  ·rw[e];exact r
  ·exact h3 z e
theorem pH:∀{zs:List (V×Value)},(∀z∈zs,aB z.1 z.2)→ar (zs.map (·.1)) (zs.map (·.2))
 |[],_=>.nil
 |z::zs,h=>.cons (h z mem_cons_self) (pH λy hy=>h y (mem_cons_of_mem _ hy))
theorem sI{b:Bool}{key:V→Int}{xs:List V}{vs out:List Value}(r:ar xs vs)(h:KskOut b (xs.map key) vs out):∃ys:List V,ys.Perm xs∧ar ys out∧ys.Pairwise λx y=>if b then key y≤key x else key x≤key y:=by
 obtain⟨ps,pp,rfl,pw⟩:=h;obtain⟨zs,rfl,rfl,hz⟩:=nr r;have e:zs.map (λz=>(key z.1,z.2))=((zs.map (·.1)).map key).zip (zs.map (·.2)):=by
  rw[map_map];clear hz pp pw r
  induction zs with
  |nil=>rfl
  |cons z zs ih=>rw[map_cons,map_cons,map_cons,zip_cons_cons,ih];rfl
 obtain⟨ys,p,rfl⟩:=fb pp e;refine⟨ys.map (·.1),p.map _,?_,?_⟩
 ·rw[map_map];exact pH λz hz'=>hz z (p.mem_iff.mp hz')
 ·rw[pairwise_map]at pw⊢;exact pw
structure KSg(P:Program)(w:World)(H H1:Hp)(fs:List Addr)(s s':Shared):Prop where
 os:s'.os=s.os
 bare:AllBare s'.gens
 hok:HOk P w H1 s'.heap
 un:Un fs [] H H1 s.heap s'.heap
theorem fw{base h h':Heap}{fs:List Addr}{H H1:Hp}:∀{l:List Env},h.FunFrames base l→Un fs [] H H1 h h'→(∀b∈frs l,H b=none)→h'.FunFrames base l
 |[],_,_,_=>trivial
 |env::rest,⟨k,⟨L,o,hf,hb,ho,hd⟩,r⟩,u,hn=>by
  have e:frs (env::rest)=L::frs rest:=by unfold frs;rw[filterMap_cons,hf]
  rw[e]at hn;obtain⟨sl,q⟩:=u.any ho (hn L mem_cons_self) (by simp);exact⟨k,⟨L,_,hf,hb,q,hd⟩,fw r u λb hb=>hn b (mem_cons_of_mem _ hb)⟩
section
variable{P:Program}{w:World}{H H1:Hp}{fs:List Addr}{s s1:Shared}
theorem KSg.low(h:KSg P w H H1 fs s s1){Pv:Addr→Prop}(hp:∀b,Pv b→s.heap.objs.size≤b∧H1 b=none){h2:Heap}{t:Nat}(k:∀b o,¬Pv b→s1.heap.get? b=some o→h2.get? b=some o):KSg P w H H1 fs s {s1 with heap:=h2,toks:=t}:=by
 have old:∀b o,s.heap.get? b=some o→¬Pv b:=λb o e z=>absurd (lt_size e) (not_lt.mpr (hp b z).1);refine⟨h.os,h.bare,λb u e=>(h.hok b u e).stay (λc v hc q=>k c v (λz=>?_) q) (λ_ q=>q) λ_ _ q=>q,⟨λb o e n hb hx=>k b o (old b o e) (h.un.keep b o e n hb hx),λb o e n hb hx=>?_,h.un.free,λb o e hx=>?_,h.un.tups,h.un.frzs,h.un.tbls⟩⟩
 ·have z':=(hp c z).2;rcases hc with q|q
  ·rw[q,e]at z';cases z'
  ·rw[q]at z';cases z'
 ·obtain⟨sl,q⟩:=h.un.slot b o e n hb hx;exact⟨sl,k b _ (old b o e) q⟩
 ·obtain⟨o',q⟩:=h.un.there b o e hx;exact⟨o',k b o' (old b o e) q⟩
variable{K:PySem.W.Frag}{mg:Str→Option Value}{base:Heap}{A:Around}{outer:List Env}{k:Nat}{f:Addr}{fd:FuncData}{y:Str}{spK:Sp}{key:V→Int}{b:Bool}{Rl:Hp→Hp→Prop}
theorem qL(F:FnOk P w K mg base CX0 k f fd [y] spK)(hb:cb K fd [y] [])(hr:Room k A)(e0:Env0 P w K mg base A outer s H)(h:KSg P w H H1 (frs outer) s s1)(hsz:s.heap.objs.size≤s1.heap.objs.size){x:V}{u:Value}(r:aB x u)(hsp:spK [x] H1 (λv H'=>v=.int (key x)∧Rl H1 H') E0):
  wpAny (model P w) A (call (.ref f) [u]) (λv s2=>∃H2,Rl H1 H2∧KSg P w H H2 (frs outer) s s2∧(∃t,v=.int (key x) t)∧∀b o,s.heap.objs.size≤b→H1 b=none→s1.heap.get? b=some o→s2.heap.get? b=some o∧H2 b=none) (λ_ _=>False) s1:=by
 have lowF:∀b∈frs outer,b<s.heap.objs.size:=λb hb=>by
  obtain⟨_,o,ho,_⟩:=e0.funs.mem hb;exact lt_size ho
 have bs:∀b o,base.get? b=some o→s1.heap.get? b=some o∧H1 b=none:=λb o e=>by
  obtain⟨h1,h2⟩:=e0.bs b o e;refine⟨h.un.keep b o h1 h2 (λhm=>?_) (by simp),h.un.free b o h1 h2 (by simp)⟩;have:=(e0.funs.mem hm).1;rw[e]at this;cases this
 have e1:Env0 P w K mg base A outer s1 H1:=⟨e0.frames,e0.mod,bs,le_trans e0.bsz hsz,fw e0.funs h.un e0.frf,λb hb=>by
  obtain⟨_,o,ho,_⟩:=e0.funs.mem hb;exact h.un.free b o ho (e0.frf b hb) (by simp),h.hok,h.bare⟩
 have KX:K.In s1.heap:=e0.mod.kin.keeps λb o e=>(bs b o e).1;have hb':=hb s1 [u] KX rfl;refine wpAny_call (codeAny_mono (F.run A outer s1 H1 ⟨[u],[]⟩ [u] [x] _ E0 hr e1 hb' (.cons r .nil) hsp) λrs s2 hq=>?_);cases rs with
 |error e=>exact hq
 |ok fl =>
  cases fl with
  |next=>exact False.elim hq
  |brk=>exact False.elim hq
  |cont=>exact False.elim hq
  |ret v =>
   obtain⟨x',H',os,bare,un,hok,rv,ev,eH⟩:=hq;subst ev;refine⟨H',eH,⟨os.trans h.os,bare,hok,h.un.trans un⟩,rv,λb o hb' hn e=>⟨un.keep b o e hn (λhm=>?_) (by simp),un.free b o e hn (by simp)⟩⟩;exact absurd (lowF b hm) (not_lt.mpr hb')
theorem qM(rl0:∀H,Rl H H)(rl2:∀H H' H'',Rl H H'→Rl H' H''→Rl H H'')(F:FnOk P w K mg base CX0 k f fd [y] spK)(hb:cb K fd [y] [])(hr:Room k A)(e0:Env0 P w K mg base A outer s H){a:Addr}{vs:List Value}{xs:List V}{n:Nat}(h:KSg P w H H (frs outer) s s1)(ha:s.heap.objs.size≤a)(ho:s1.heap.get? a=some (seqObj "list" vs.toArray n))(rv:ar xs vs)(h64:xs.length<64)(hsp:∀x∈xs,∀H1,Rl H H1→spK [x] H1 (λv H'=>v=.int (key x)∧Rl H1 H') E0){Q:PySem.Fin→Shared→Prop}{E:Value→Shared→Prop}(q:∀(out:Array Value) s2 c H2,KskOut b (xs.map key) vs out.toList→Rl H H2→KSg P w H H2 (frs outer) s s2→H2 a=none→s2.heap.get? a=some (seqObj "list" out c)→Q (.done (.ret .none)) s2):
  wpAny (model P w) A (ksk_tree a (.ref f) b) Q E s1:=by
 have lenV:=rv.length;have s1':=SameBut.update s1.heap a (Obj.mapSeq λ_=>(#[]:Array Value));obtain⟨e1,ho1⟩:∃e1,(s1.heap.update a (Obj.mapSeq λ_=>(#[]:Array Value))).get? a=some (seqObj "list" #[] e1):=⟨_,get?_update_seq ho λ_=>#[]⟩;have haL:a<s1.heap.objs.size:=lt_size ho;have haH:H a=none:=e0.hok.fresh ha;unfold ksk_tree;refine wpAny_bind (listItems_at ho rfl (wpAny_bind (listUpdate_at ho rfl ?_ (by rw[size_toArray,sizeLine_eq];omega) (zero_le _))));refine wpAny_bind (seqEpoch_at ho1 rfl (wpAny_bind (wpAny_newTuple ?_ (by show vs.length≤_;rw[sizeLine_eq];omega))));refine wpAny_bind (wpAny_newList (wpAny_holding ?_) (zero_le _));have hkS:((s1.heap.update a (Obj.mapSeq λ_=>(#[]:Array Value))).push (seqObj "tuple" vs.toArray 0)).objs.size=s1.heap.objs.size+1:=by rw[size_push',size_update]
 have ho2:(((s1.heap.update a (Obj.mapSeq λ_=>(#[]:Array Value))).push (seqObj "tuple" vs.toArray 0)).push (seqObj "list" #[] 0)).get? a=some (seqObj "list" #[] e1):=get?_push_of_some _ (get?_push_of_some _ ho1);have hk2:(((s1.heap.update a (Obj.mapSeq λ_=>(#[]:Array Value))).push (seqObj "tuple" vs.toArray 0)).push (seqObj "list" #[] 0)).get? (s1.heap.objs.size+1)=some (seqObj "list" #[] 0):=by rw[←hkS];exact get?_push_size _ rfl
 have K2:KSg P w H H (frs outer) s {s1 with heap:=((s1.heap.update a (Obj.mapSeq λ_=>(#[]:Array Value))).push (seqObj "tuple" vs.toArray 0)).push (seqObj "list" #[] 0),toks:=s1.toks}:=h.low (Pv:=λb=>b=a) (λb z=>by rw[z];exact⟨ha,haH⟩) λb o hb e=>get?_push_of_some _ (get?_push_of_some _ ((s1'.2 b hb).trans e))
 show wpAny (model P w) A (ksk_rest a (.ref f) b vs.toArray e1 (.ref ((s1.heap.update a (Obj.mapSeq λ_=>(#[]:Array Value))).push (seqObj "tuple" vs.toArray 0)).objs.size)) Q E {s1 with heap:=((s1.heap.update a (Obj.mapSeq λ_=>(#[]:Array Value))).push (seqObj "tuple" vs.toArray 0)).push (seqObj "list" #[] 0)}
 rw[hkS];have hka:s1.heap.objs.size+1≠a:=ne_of_gt (lt_succ_of_lt haL);have hkl:s.heap.objs.size≤s1.heap.objs.size+1:=Nat.le_succ_of_le (le_trans ha (le_of_lt haL));generalize hh:({s1 with heap:=((s1.heap.update a (Obj.mapSeq λ_=>(#[]:Array Value))).push (seqObj "tuple" vs.toArray 0)).push (seqObj "list" #[] 0)}:Shared)=s2
 have ho3:s2.heap.get? a=some (seqObj "list" #[] e1):=by rw[←hh];exact ho2
 have hk3:s2.heap.get? (s1.heap.objs.size+1)=some (seqObj "list" #[] 0):=by rw[←hh];exact hk2
 have K3:KSg P w H H (frs outer) s s2:=by rw[←hh];exact K2
 generalize s1.heap.objs.size+1=kS at hka hkl hk3⊢;clear K2 hk2 ho2 hkS ho1 s1' hh;unfold ksk_rest;refine wpAny_bind (wpAny_rule ?_);rw[←forIn_toList];refine wpAny_bind (ksk_fold (λi s'=>∃H1,Rl H H1∧KSg P w H H1 (frs outer) s s'∧H1 a=none∧H1 kS=none∧s'.heap.get? a=some (seqObj "list" #[] e1)∧∃kA c,s'.heap.get? kS=some (seqObj "list" kA c)∧IntsAre kA.toList ((xs.take i).map key)) vs.toArray.toList 0 s2 ⟨H,rl0 H,K3,haH,e0.hok.fresh hkl,ho3,#[],0,hk3,by rw[take_zero];exact .nil⟩ ?step ?done)
 case step =>
  rintro j u s' hu ⟨H1,rl1,K4,na4,nk4,ho4,kA,c,hk4,hka4⟩;rw[List.toList_toArray]at hu;rw[zero_add]at hka4⊢;have hj:j<vs.length:=(List.getElem?_eq_some_iff.mp hu).1;have hjx:j<xs.length:=by omega
  have rj:aB xs[j] u:=by
   obtain⟨u',h1,h2⟩:=rv.get (getElem?_eq_getElem hjx);rw[hu]at h1;cases h1;exact h2
  have hz:kA.size≤vs.length:=by
   have h1:=hka4.length;rw[length_toList,length_map,length_take]at h1;omega
  refine wpAny_bind (wpAny_attempt (wpAny_mono (qL F hb hr e0 K4 (le_of_lt (lt_of_le_of_lt hkl (lt_size hk4))) rj (hsp _ (getElem_mem hjx) H1 rl1)) (λv s3 hv=>?_) λ_ _ z=>z.elim));obtain⟨H2,rl12,K5,⟨t,rfl⟩,kp⟩:=hv;obtain⟨hk5,nk5⟩:=kp _ _ hkl nk4 hk4;obtain⟨ho5,na5⟩:=kp _ _ ha na4 ho4;have sb:=SameBut.update s3.heap kS (Obj.mapSeq (·.push (Value.int (key xs[j]) t)));dsimp only;refine wpAny_bind (listUpdate_at hk5 rfl ?_ (by rw[sizeLine_eq];omega) (le_trans (le_of_eq (Array.size_push ..)) (by rw[sizeLine_eq];omega)));refine wpAny_pure ⟨rfl,H2,rl2 _ _ _ rl1 rl12,K5.low (t:=s3.toks) (Pv:=λb=>b=kS) (λb z=>by rw[z];exact⟨hkl,nk5⟩) λb o hb' e=>(sb.2 b hb').trans e,na5,nk5,(sb.2 a (symm hka)).trans ho5,kA.push (.int (key xs[j]) t),_,get?_update_seq hk5 (·.push (Value.int (key xs[j]) t)),?_⟩;rw[List.take_add_one,getElem?_eq_getElem hjx,Array.toList_push,map_append];exact ksk_snoc hka4
 case done =>
  rintro s' ⟨H1,rl1,K4,na4,nk4,ho4,kA,c,hk4,hka4⟩;have hka5:IntsAre kA.toList (xs.map key):=by
   rw[zero_add,List.take_of_length_le (by rw[List.toList_toArray];omega)]at hka4;exact hka4
  have kz:kA.size=vs.length:=by
   have h1:=hka5.length;rw[length_toList,length_map]at h1;omega
  refine wpAny_bind (listItems_at hk4 rfl ?_);have hzs:(kA.zip vs.toArray).size=vs.length:=by rw[Array.size_zip,kz,size_toArray,Nat.min_self]
  have fin:∀(st:SortSt),(arrOf st).Perm (kA.zip vs.toArray)→SortedTo (arrOf st) (arrOf st).size→failedOf st=none→wpAny (model P w) A (ksk_tail a b e1 (.ref kS) st) Q E s':=λst hp hs hfl=>by
   have hsz2:(arrOf st).size=vs.length:=by rw[hp.size_eq,hzs]
   have hout:(if b then ((arrOf st).map (·.2)).reverse else (arrOf st).map (·.2)).size=vs.length:=by
    cases b with
    |false=>simp only[false_eq_true,if_false,size_map];exact hsz2
    |true=>simp only[if_true,Array.size_reverse,size_map];exact hsz2
   have sb:=SameBut.update s'.heap kS (Obj.mapSeq λ_=>(#[]:Array Value));have ho6:=(sb.2 a (symm hka)).trans ho4;have sb2:=SameBut.update (s'.heap.update kS (Obj.mapSeq λ_=>(#[]:Array Value))) a (Obj.mapSeq λ_=>if b then ((arrOf st).map (·.2)).reverse else (arrOf st).map (·.2))
   unfold ksk_tail
   try dsimp only
   refine wpAny_bind (listUpdate_at hk4 rfl (wpAny_bind (wpAny_letGo (wpAny_bind (seqEpoch_at ho6 rfl ?_)))) (by rw[kz,sizeLine_eq];omega) (zero_le _));refine wpAny_bind (listUpdate_at ho6 rfl ?_ (zero_le _) (le_trans (le_of_eq hout) (by rw[sizeLine_eq];omega)));rw[hfl];simp only[bne_self_eq_false,false_eq_true,if_false];refine wpAny_pure (q _ _ _ H1 (ksk_out hka5 hp hs) rl1 (K4.low (t:=s'.toks) (Pv:=λb=>b=a∨b=kS) (λb' z=>z.elim (λz=>by rw[z];exact⟨ha,na4⟩) λz=>by rw[z];exact⟨hkl,nk4⟩) λb' o hb' e=>?_) na4 (get?_update_seq ho6 _));exact(sb2.2 b' λz=>hb' (.inl z)).trans ((sb.2 b' λz=>hb' (.inr z)).trans e)
  have step:∀t:Sem PySem.Fin,wpAny (model P w) A t Q E s'→wpAny (model P w) A (if b=true then (do let _ ← rule "list.sort.reverse";t)else t) Q E s':=by
   intro t ht
   split
   ·exact wpAny_bind (wpAny_rule ht)
   ·exact ht
  have hstart:(if b=true then (kA.zip vs.toArray).reverse else kA.zip vs.toArray).Perm (kA.zip vs.toArray):=by
   cases b with
   |false=>exact Array.Perm.refl _
   |true=>exact Array.perm_iff_toList_perm.mpr (by rw[if_pos rfl,Array.toList_reverse];exact List.reverse_perm _)
  unfold ksk_end
  try dsimp only
  refine step _ ?_
  by_cases h2:vs.toArray.size<2
  ·rw[if_pos h2,if_pos h2];refine wpAny_bind (wpAny_pure ?_);rw[StateT.run_pure];refine wpAny_bind (wpAny_pure ?_)
   try dsimp only
   refine fin (SortSt.mk' general' (if b=true then (kA.zip vs.toArray).reverse else kA.zip vs.toArray) #[] 7 none) hstart (λi j hij hj=>?_) rfl
   have hj2:j<(if b=true then (kA.zip vs.toArray).reverse else kA.zip vs.toArray).size:=hj
   rw[hstart.size_eq,hzs]at hj2;rw[size_toArray]at h2;have:i=j:=by omega
   subst this;exact Int.le_refl _
  ·rw[if_neg h2,if_neg h2];rw[size_toArray]at h2;rw[ksk_kind hka5 (by rw[kz];omega)];refine wpAny_bind (wpAny_pure ?_);refine wpAny_bind (wpAny_mono (wpS_sortRuns (a₀:=kA.zip vs.toArray) (st:=SortSt.mk' oneType' (if b=true then (kA.zip vs.toArray).reverse else kA.zip vs.toArray) #[] 7 none)
    (Q:=λ_ st'=>(arrOf st').Perm (kA.zip vs.toArray)∧failedOf st'=none∧SortedTo (arrOf st') (kA.zip vs.toArray).size)
    (ksk_intKeys hka5) ⟨hstart,rfl,rfl,rfl⟩ (by rw[hzs];omega) (by rw[hzs];omega) λst' a1 a2 a3=>⟨a1,a2,a3⟩) ?_ λ_ _ e=>e)
   rintro⟨⟨⟩,st'⟩ s'' ⟨rfl,hp,hf,hs⟩
   try dsimp only
   exact fin st' hp (by rw[hp.size_eq];exact hs) hf
end
theorem jp{X:Cx}{pins:List (Addr×Obj)}{σ:St}{H:Hp}{s:Shared}{h1:Heap}{tk k:Nat}{f:Addr}{fd:FuncData}{y:Str}{spK:Sp}{key:V→Int}{b:Bool}{Rl:Hp→Hp→Prop}{its:List Value}{xs:List V}{kw:List (Str×Value)}{E:Value→Shared→Prop}{Q:VK}(rl0:∀H,Rl H H)(rl2:∀H H' H'',Rl H H'→Rl H' H''→Rl H H'')(J:Inv X pins σ H s)(hk1:∀b o,s.heap.get? b=some o→h1.get? b=some o)(hz1:s.heap.objs.size≤h1.objs.size)(rv:ar xs its)(h64:xs.length<64)(F:FnOk X.prog X.w X.K X.mg (bB X H s) CX0 k f fd [y] spK)(hb:cb X.K fd [y] [])(hr:Room (k+2) X.A)(kt:∀a,Builtin.«list.sort» ⟨[.ref a],kw⟩=ksk_tree a (.ref f) b)(ka:∀a,argsOk "list.sort" ⟨[a],kw⟩)(hsp:∀x∈xs,∀H1,Rl H H1→spK [x] H1 (λv H'=>v=.int (key x)∧Rl H1 H') E0)(q:∀D ys H2,ys.Perm xs→ys.Pairwise (λx y=>if b then key y≤key x else key x≤key y)→Rl H H2→H2 D=none→Q (.ref D) (upd H2 D (.lst ys))):
  wpAny (model X.prog X.w) X.A.in1 (do
   let l ← newList its
   let _ ← holding [l] (call (.builtin "list.sort") [l] kw)
   ret l) (λfin s'=>∃v,fin=.done (.ret v)∧EP X pins σ Q v s') E {s with heap:=h1,toks:=tk}:=by
 have lenV:=rv.length;refine wpAny_bind (wpAny_newList ?_ (by rw[sizeLine_eq];omega));have hoL:(h1.push (seqObj "list" its.toArray 0)).get? h1.objs.size=some (seqObj "list" its.toArray 0):=get?_push_size _ rfl;have K0:KSg X.prog X.w H H (frs X.stack) s s:=⟨rfl,J.bare,J.hok,Un.refl⟩;have K1:=K0.low (t:=tk) (h2:=h1.push (seqObj "list" its.toArray 0)) (Pv:=λ_=>False) (λ_ z=>z.elim) λb o _ e=>get?_push_of_some _ (hk1 b o e);show wpAny _ _ _ _ _ {s with heap:=h1.push (seqObj "list" its.toArray 0),toks:=tk}
 refine wpAny_bind (wpAny_holding (wpAny_call_entry_kw slot_list_sort ⟨_,hoL,rfl⟩ entry_list_sort ?_ (ka _)));show wpAny _ _ (Builtin.«list.sort» ⟨[.ref h1.objs.size],kw⟩) _ _ _;rw[kt];refine qM (b:=b) (key:=key) rl0 rl2 F hb hr.in1.in1 J.env0B.in1.in1 K1 hz1 hoL rv h64 hsp λout s3 cc H2 ko rl K3 fD hD=>⟨_,rfl,wpAny_pure ⟨_,rfl,?_⟩⟩;obtain⟨ys,yp,yv,yw⟩:=sI rv ko;have fk:ys.length=xs.length:=yp.length_eq;have un:Un (frs X.stack) [] H (upd H2 h1.objs.size (.lst ys)) s.heap s3.heap:=by
  refine⟨K3.un.keep,K3.un.slot,λb o e n hx=>?_,K3.un.there,λb xs e=>?_,λb o u e=>?_,λb ps e=>?_⟩
  ·rw[af (ne_of_lt (lt_of_lt_of_le (lt_size e) hz1))];exact K3.un.free b o e n hx
  ·have e:=K3.un.tups _ _ e;rw[af (ao e fD)];exact e
  ·have e:=K3.un.frzs _ _ _ e;rw[af (ao e fD)];exact e
  ·obtain⟨m,e⟩:=K3.un.tbls _ _ e;exact⟨m,by rw[af (ao e fD),e]⟩
 have hok:HOk X.prog X.w (upd H2 h1.objs.size (.lst ys)) s3.heap:=λb u e=>by
  by_cases hb:b=h1.objs.size
  ·subst hb;rw[ac]at e;cases e;exact⟨by rw[fk,sizeLine_eq];omega,_,cc,yv,by rw[Array.toArray_toList];exact hD⟩
  ·rw[af hb]at e;exact(K3.hok b u e).stay (λ_ _ _ z=>z) (λc z=>by rw[af (ao z fD)];exact z) λc xs z=>by rw[af (ao z fD)];exact z
 have J3:=J.call' (s':=s3) (ch:=[]) K3.os un hok K3.bare λb z=>absurd z (by simp);exact⟨.ref h1.objs.size,_,J3,rfl,q _ _ _ yp yw rl fD⟩
end L2
namespace L2
open PySem PySem.Spec PyProof.Rows
def sJ(P:Addr)(qual:Str)(spK:Addr→Addr→Sp)(key:Hp→V→Int)(Q:VK):List V→Hp→Prop
 |[v],H1=>∃l xs,v=.ref l∧H1 l=some (.lst xs)∧xs.length<64∧bz H1 P qual∧∀f c H',db P H1 H'→bz H' P qual→H' c=some (.ext (cdφ c qual)) →
  (∀x∈xs,spK f c [x] H' (λv H2=>v=.int (key H' x)∧H2=H') E0)∧∀D ys,ys.Perm xs→ys.Pairwise (λa b=>key H' b≤key H' a)→H' D=none→Q (.ref D) (upd H' D (.lst ys))
 |_,_=>False
def xi(P:Addr)(qual:Str)(spK:Addr→Addr→Sp)(key:Hp→V→Int)(te:TE):TE:=λσ H Q=>te σ H λv H1=>sJ P qual spK key Q [v] H1
section
variable{X:Cx}
theorem sK{P c0:Addr}{k:Nat}{y:Str}{p lpos kpos pos cpos rpos:Pos}{ck:Nat}{params:Arguments}{body:Expr}{scope:Scope}{qual:Str}{spK:Addr→Addr→Sp}{key:Hp→V→Int}{e:Expr}{te:TE}(C0:CodeHd X.base c0 P)(hc:X.env.code=.ref c0)(Bm:BmB X.base X.mg)(hq:X.env.qual++"<lambda>"=qual)(hdef:defaultsOf params X.env=([],[]))(hcl:closureFor scope X.env=pure [])(hK:∀(base':Heap) (f c:Addr) (pm ctv:Value),(∀b o,X.base.get? b=some o→base'.get? b=some o)→base'.get? f=some (kla_obj "<lambda>" qual params body scope [] pm c ctv)→FnOk X.prog X.w X.K X.mg base' CX0 k f (kla_fn "<lambda>" qual params body scope [] pm (.ref c) ctv) [y] (spK f c))(hbn:∀(pm ctv:Value) (c:Addr),cb X.K (kla_fn "<lambda>" qual params body scope [] pm (.ref c) ctv) [y] [])(hr:Room (k+2) X.A)(hg:Gl X "sorted")(hm:X.mg "sorted"=none)(he:PE X e te)(hse:starEach [e] X.env=(false,eval e X.env)::starEach [] X.env:=by rfl)(hpl:(backTo pos (starEach [e] X.env)).any (·.1)=false:=by rfl):
  PE X (.Call (.Name "sorted" p) [e] [⟨some "key",.Lambda params body scope lpos,kpos⟩,⟨some "reverse",.Constant (.bool true) ck cpos,rpos⟩] pos) (xi P qual spK key te):=by
 intro pins s σ H Q I h;subst hq;refine wpAny_Call_Name_kw (dH I hg hm boot_sorted ?_ (by decide) (by decide));refine callWith_kw ?_ (by rw[hse];rfl) hpl rfl rfl;refine thn (aa he ag hse pos pins s σ H (sJ P (X.env.qual++"<lambda>") spK key Q) I h) λus s1 hpt=>?_;obtain⟨vs,H1,I1,r,q0⟩:=hpt;obtain⟨v,rfl⟩:∃v,vs=[v]:=by
  match vs,q0 with
  |[v],_=>exact⟨v,rfl⟩
 obtain⟨l,xs,rfl,hl,h64,T,q⟩:=q0;obtain⟨u,rfl,ru⟩:=cE r;cases ru;show wpAny _ _ (evalAll [(do let v ← eval (.Lambda params body scope lpos) X.env;standAt pos;pure v),(do let v ← eval (.Constant (.bool true) ck cpos) X.env;standAt pos;pure v)]) _ _ s1
 refine wpAny_evalAll_cons (wpAny_bind (pF I1 C0 hc Bm T hdef hcl λf c pm ctv H' s2 off tq hc' J ho hsz hf hcell=>wpAny_bind (wpAny_standAt (wpAny_pure (wpAny_evalAll_cons (wpAny_bind (Constant_bool (wpAny_bind (wpAny_standAt (wpAny_pure (wpAny_evalAll_nil ?_)))))))))));obtain⟨hsp,qq⟩:=q f c H' off tq hc';have hl2:H' l=some (.lst xs):=off l _ (λz=>by obtain⟨ps,hP,_⟩:=T;rw[z,hP]at hl;cases hl) hl;have nf:f∉frs X.stack:=λhm=>by
  rcases mem_cons.mp (I1.stkSub f hm)with z|z
  ·have:=I1.lt;rw[←z]at this;exact absurd this (not_lt.mpr hsz)
  ·exact I1.nofs hsz z
 obtain⟨_,its,n,rv,hol⟩:=J.hok l _ hl2;have lenV:=rv.length;show wpAny _ _ (call (.builtin "sorted") [.ref l] [("key",.ref f),("reverse",.bool true)]) _ _ s2;refine call_function_entry_kw kind_sorted plain_sorted entry_sorted (ksk_s2 _ _ _) ?_;unfold Builtin.«sorted»;refine wpAny_bind (m:=checkCount "sorted" 1 1 _) (wpAny_pure (wpAny_bind (collect_list ⟨_,hol,rfl,n,rfl⟩ ?_ (by rw[sizeLine_eq];omega))));refine jp (key:=key H') (b:=true) (Rl:=λa b=>b=a) (tk:=s2.toks) (λ_=>rfl) (λ_ _ _ a b=>b.trans a) J (λb o e=>?_) (by rw[size_update,size_push'];exact le_succ _) rv h64 (hK _ f c pm ctv J.bsub (lp ho hf nf)) (hbn pm ctv c) hr (λ_=>rfl) (λ_=>ksk_l2 _ _ _) (λx hx H1 e=>?_) λD ys H2 yp yw e fD=>?_
 ·rw[get?_update_ne _ _ _ _ (ne_of_lt (lt_size e)),get?_push_ne _ _ _ (ne_of_lt (lt_size e))];exact e
 ·subst e;exact hsp x hx
 ·subst e;exact qq D ys yp (by simpa using yw) fD
end
end L2
namespace TK
open PySem L2
def shN:List Str:=["tree","members","marks","known","path","number","inner"]
theorem oz:FnScope shN ["tree"] (ai be):=fsc
def uY:Stmt→List Stmt
 |.For _ _ b _ _=>b
 |_=>[]
def zk:Stmt→List Stmt
 |.If _ b _ _=>b
 |_=>[]
def shS(i:Nat):Stmt:=(zk ((uY ((bb be).getD 3 (.Pass ⟨0,0,0,0⟩))).getD 0 (.Pass ⟨0,0,0,0⟩))).getD i (.Pass ⟨0,0,0,0⟩)
abbrev ShX(P:Program)(w:World)(K:PySem.W.Frag)(mg:Str→Option Value)(base:Heap)(f:Addr)(cdv:Value)(A:Around)(outer:List Env)(s:Shared)(H:Hp)(E:XK):Cx:=(fZ CX0 P w K mg base shN "shape_marks" (ai be) f cdv A outer s H E).nox
theorem nu(M:Int→Option Int)(z:Addr×Nd):(ent M z).map nV=[.str z.2.nm,stV z.2.st,((M z.2.num).map V.int).getD .non]:=by
 unfold ent;cases h1:z.2.st<;>cases h2:M z.2.num<;>rfl
theorem uZ{zs:ZN}(T:TW.Tree1 (nds zs))(k:Int):((bg zs k).map λz=>z.2.nm).Nodup:=by
 have h:=T.own;unfold TW.cn nds Nodup at h;unfold bg Nodup;rw[pairwise_map];rw[map_map,pairwise_map]at h;refine(Pairwise.sublist filter_sublist h).imp_of_mem ?_;intro a b ha hb hab e;have h1:=(mem_filter.mp ha).2;have h2:=(mem_filter.mp hb).2;simp only[decide_eq_true_eq]at h1 h2;exact hab (Prod.ext (h1.trans h2.symm) e)
theorem pI{α γ δ:Type}{R:γ→δ→Prop}{g:α→γ}{g':α→δ}:∀{l:List α},(∀b∈l,R (g b) (g' b))→Paired R (l.map g) (l.map g')
 |[],_=>.nil
 |b::l,h=>.cons (h b mem_cons_self) (pI λx hx=>h x (mem_cons_of_mem _ hx))
section
variable{P:Program}{w:World}{K:PySem.W.Frag}{mg:Str→Option Value}{base:Heap}{f:Addr}{cdv:Value}{A:Around}{outer:List Env}{s:Shared}{H0:Hp}{E:XK}
theorem sm0(T:Txt mg)(hr:Room 2 (A.deeper (PyProof.Rows.envOfC "shape_marks" (ai be) s.heap.objs.size f cdv))):
  ∃rd,PS (ShX P w K mg base f cdv A outer s H0 E) (shS 0) rd∧∀(D:Ends)(H:Hp)(t mb md:Addr)(x3 x4:Option V)(k:Int)(x6:Option V)(zs:ZN)(L:Int→Addr)(fs:List Int)(M:Int→Option Int)(kvs:List (Key×V)),Tre H t zs→H mb=some (.dK (dR L fs))→k∈fs→H (L k)=some (.lst (aR (bg zs k)))→H md=some (.dK kvs)→(∀n,aN kvs (Sum.inl n:Key)=(M n).map V.int) →
   (∀a e H',Same H H'→dE H' a e→cV zs M k e→D.nx [some (.ref t),some (.ref mb),some (.ref md),x3,x4,some (.int k),some (.ref a)] H')→rd D [some (.ref t),some (.ref mb),some (.ref md),x3,x4,some (.int k),x6] H:=by
 refine⟨_,aw (i:=6) oz.nd rfl (Or.inl rfl) (bh bu rfl T.tuple rfl (aa (aL gI rfl T.sorted boot_sorted (aa (sv (fs:=["marks"]) (cl:=[("marks",s.heap.objs.size+1)]) (js:=[2]) lcF (bG (aZ (aS hr) (pv 1) (pv 5) (λ_ _=>rfl)))
  (λs H fp=>aQ (r:=vE K) oR (eM (r:=rg K) kG (pv 0) (eT aj) iF) (bo (aa (rA (aS hr) (pv 1) (ixT K (pv 0) aj) ⟨rfl,rfl,rfl,rfl⟩) ag)))) ag)) ag)),?_⟩
 intro D H t mb md x3 x4 k x6 zs L fs M kvs tr hmb hk hL hmd hv q;have hl:=tr.len;have sub:∀z∈bg zs k,z∈zs:=λz hz=>(mem_filter.mp hz).1;have il:(bg zs k).length≤zs.length:=length_filter_le _ _;refine⟨_,rfl,_,rfl,mb,.ref (L k),rfl,by have:=ci.k (k:=Sum.inl k) hmb;rw[gG,if_pos hk]at this;exact this,L k,rfl,⟨_,SqL.of hL⟩,λp hp=>?_⟩;refine gy (fr:=[some (.ref md)]) (bg zs k) (λz=>V.ref z.1) (by omega) hp (dO (by rw[ce];exact SqL.of hL)) rfl (λz y H'=>∃a,y=.ref a∧a≠p∧H' a=some (.tup ((ent M z).map nV))) (λz y Ha Hb ⟨a,h1,h2,h3⟩ x=>⟨a,h1,h2,x a _ h2 h3⟩) (λz H' kk mz s1 hpl hkk=>?_) (λys H1 s1 hp1 hys=>?_)
 ·obtain⟨yy,hyy⟩:=hpl;have hz:=s1 _ _ (tr.nod z (sub z mz));refine⟨_,rfl,_,rfl,z.1,_,rfl,SqT.of hz,λh=>absurd (show HT.sIx 4 0 (some 2)=0 from h.1) (by decide +kernel),λp1 hp1=>?_⟩;have s2:=ae (o:=.tup (fj (vals z.2) (some 2) none)) hp1;have g1:upd H' p1 (.tup (fj (vals z.2) (some 2) none)) p1=some (.tup [.str z.2.nm,stV z.2.st]):=by rw[ac];rfl
  generalize upd H' p1 (.tup (fj (vals z.2) (some 2) none))=H2 at s2 g1⊢;have hmd2:=s2 _ _ (s1 _ _ hmd);refine⟨_,rfl,md,rfl,.inl ⟨kvs,.inl hmd2⟩,_,rfl,z.1,_,_,_,rfl,rfl,SqT.of (s2 _ _ hz),at0 z.2,_,ci.k (k:=Sum.inl z.2.num) hmd2,aK (show 1≤1000 by decide),λp2 hp2=>?_⟩;rw[hv];have s3:=ae (o:=.tup [((M z.2.num).map V.int).getD .non]) hp2;refine⟨p1,p2,_,_,rfl,rfl,SqT.of (s3 _ _ g1),SqT.of ac,by simp,aK (show 3≤1000 by decide),λe=>(by cases e),λ_ p3 hp3=>?_⟩;refine hkk _ _ ((s2.trans s3).trans (ae hp3)) ⟨p3,rfl,λe=>?_,by rw[ac,nu];rfl⟩;rw[e]at hp3;rw[s3 _ _ (s2 _ _ hyy)]at hp3;cases hp3
 ·obtain⟨bs,eb1,eb2,hbs⟩:=eW (val:=λa:Addr=>V.ref a) (S:=λ(z:Addr×Nd) (a:Addr)=>H1 a=some (.tup ((ent M z).map nV))) hys λz y _ ⟨a,h1,_,h3⟩=>⟨a,h1,h3⟩;have bl:bs.length=(bg zs k).length:=by rw[←eb1,length_map]
  refine⟨p,bs.map λb=>(b.2,b.1.2.nm,[stV b.1.2.st,((M b.1.2.num).map V.int).getD .non]),rfl,.inl (SqL.of (by rw[hp1,eb2,map_map,map_map];rfl)),λz hz=>?_,?_,by rw[length_map];omega,λws wp ww p' hp'=>?_⟩
  ·obtain⟨b,hb,rfl⟩:=mem_map.mp hz;rw[hbs b hb,nu]
  ·rw[map_map];have:=uZ tr.tr k;rw[←eb1,map_map]at this;exact this
  ·obtain⟨bs',bp,rfl⟩:=fb wp rfl;refine⟨p',_,rfl,.inl ⟨SqL.of ac,λc hc=>?_⟩⟩;have s2:=(ae (o:=.lst (((bs'.map λb=>((b.2,b.1.2.nm,[stV b.1.2.st,((M b.1.2.num).map V.int).getD .non]):oy)).map (·.1)).map V.ref)) hp').trans (ae (o:=.tup (((bs'.map λb=>((b.2,b.1.2.nm,[stV b.1.2.st,((M b.1.2.num).map V.int).getD .non]):oy)).map (·.1)).map V.ref)) hc);refine q c (bs'.map λb=>ent M b.1) _ (s1.trans s2) ⟨bs'.map (·.2),by rw[ac,map_map,map_map,map_map];rfl,?_⟩ ⟨?_,?_⟩
   ·exact pI λb hb=>s2 _ _ (hbs b (bp.mem_iff.mp hb))
   ·rw[←eb1,map_map];exact bp.map _
   ·rw[pairwise_map]at ww⊢;exact ww
end
theorem bd{H H':Hp}{Pt:Addr}{qual:Str}(h:bz H Pt qual)(s:Same H H'):bz H' Pt qual:=by
 obtain⟨ps,h1,h2,h3⟩:=h;refine⟨ps,s _ _ h1,h2,λpos cv e=>?_⟩;obtain⟨c,e1,e2⟩:=h3 pos cv e;exact⟨c,e1,s _ _ e2⟩
def sL(H H':Hp):Prop:=∀b xs,H b=some (.tup xs)→H' b=some (.tup xs)
theorem sM{H H':Hp}{a:Addr}{k:bf}(h:dE H a k)(s:sL H H'):dE H' a k:=by
 obtain⟨bs,h1,h2⟩:=h;exact⟨bs,s _ _ h1,Paired.imp' (λks b e=>s _ _ e) h2⟩
structure ShI(P:Program)(w:World)(H:Hp)(zs:ZN)(md kn:Addr)(dn:List Int)(M:Int→Option Int)(kvs:List (Key×V))(kd:List (bf×Addr×Int))(i:Nat):Prop where
 md':H md=some (.dK kvs)
 val:∀n,aN kvs (Sum.inl n:Key)=(M n).map V.int
 kl:kvs.length≤i
 kn':H kn=some (.ext (D2 P w kn kd))
 keys:∀p∈kd,dE H p.2.1 p.1
 dl:kd.length≤i
 ne:md≠kn
 sh:ShM zs dn M kd
theorem ShI.same{P:Program}{w:World}{H H':Hp}{zs:ZN}{md kn:Addr}{dn:List Int}{M:Int→Option Int}{kvs:List (Key×V)}{kd:List (bf×Addr×Int)}{i j:Nat}(h:ShI P w H zs md kn dn M kvs kd i)(s:Same H H')(hj:i≤j):ShI P w H' zs md kn dn M kvs kd j :=
 ⟨s _ _ h.md',h.val,le_trans h.kl hj,s _ _ h.kn',λp hp=>(h.keys p hp).same s,le_trans h.dl hj,h.ne,h.sh⟩
section
variable{P:Program}{w:World}{K:PySem.W.Frag}{mg:Str→Option Value}{base:Heap}{f:Addr}{cdv:Value}{A:Around}{outer:List Env}{s:Shared}{H0:Hp}{E:XK}
theorem sm1(T:Txt mg)(hr:Room 2 (A.deeper (PyProof.Rows.envOfC "shape_marks" (ai be) s.heap.objs.size f cdv))):
  ∃rd,PS (ShX P w K mg base f cdv A outer s H0 E) (shS 1) rd∧∀(D:Ends)(H:Hp)(t mb md kn a:Addr)(x4:Option V)(k:Int)(zs:ZN)(dn:List Int)(M:Int→Option Int)(kvs:List (Key×V))(kd:List (bf×Addr×Int))(e:bf)(i:Nat),ShI P w H zs md kn dn M kvs kd i→i≤100→dE H a e→cV zs M k e→k∉dn→(∀j∈dn++[k],∀z∈bg zs j,z.2.num≠k) →
   (∀M' kvs' kd' H',(∀b o,b≠md→b≠kn→H b=some o→H' b=some o)→ShI P w H' zs md kn (dn++[k]) M' kvs' kd' (i+1)→D.nx [some (.ref t),some (.ref mb),some (.ref md),some (.ref kn),x4,some (.int k),some (.ref a)] H')→rd D [some (.ref t),some (.ref mb),some (.ref md),some (.ref kn),x4,some (.int k),some (.ref a)] H:=by
 refine⟨_,iG (aS hr) (pv 2) (pv 5) (uS (ox hr) (pv 3) (pv 6) (aL qI rfl T.len boot_len (aa (pv 3) ag)) ⟨rfl,rfl,rfl,rfl⟩) rfl,?_⟩;intro D H t mb md kn a x4 k zs dn M kvs kd e i I hi ha he hk cl q;have kl:=I.kl;have dl:=I.dl;have dput:∀{H1:Hp}{m:Int},H1 md=some (.dK kvs)→lQ H1 md (.int k) (.int m) (upd H1 md (.dK (br kvs (Sum.inl k:Key) (.int m)))):=λ{H1 m} h1=>lQ.k (k:=Sum.inl k) h1 (by rw[PySem.sizeLine_eq];omega);have vput:∀(m:Int)(n:Int),aN (br kvs (Sum.inl k:Key) (.int m)) (Sum.inl n:Key)=(hJ M k m n).map V.int:=λm n=>by
  rw[gg];unfold hJ
  by_cases h:n=k
  ·rw[if_pos (by rw[h]),if_pos h];rfl
  ·rw[if_neg (by simpa using h),if_neg h];exact I.val n
 have lput:∀m:Int,(br kvs (Sum.inl k:Key) (.int m)).length≤i+1:=λm=>by have:=cr kvs (Sum.inl k:Key) (.int m);omega
 refine⟨_,rfl,kn,kd,rfl,I.kn',_,rfl,_,rfl,kn,kd,rfl,I.kn',by omega,kn,a,_,e,kd,rfl,rfl,I.kn',I.keys,ha,by omega,λm hm=>?_,λhm=>?_⟩
 ·refine⟨_,rfl,_,rfl,md,_,rfl,dput I.md',?_⟩;have nk:kn≠md:=symm I.ne;have tk:sL H (upd H md (.dK (br kvs (Sum.inl k:Key) (.int m)))):=λb xs hb=>by rw[af (λz=>by rw[z,I.md']at hb;cases hb)];exact hb
  exact q (hJ M k m) _ kd _ (λb o h1 _ hb=>by rw[af h1];exact hb) ⟨ac,vput m,lput m,by rw[af nk];exact I.kn',λp hp=>sM (I.keys p hp) tk,by omega,I.ne,I.sh.hit cl he hk hm⟩
 ·have nk:kn≠md:=symm I.ne;have h1:upd H kn (.ext (D2 P w kn (kd++[(e,a,(kd.length:Int))]))) md=some (.dK kvs):=by rw[af I.ne];exact I.md'
  refine⟨_,rfl,_,rfl,md,_,rfl,dput h1,?_⟩;have tk:sL H (upd (upd H kn (.ext (D2 P w kn (kd++[(e,a,(kd.length:Int))])))) md (.dK (br kvs (Sum.inl k:Key) (.int kd.length)))):=λb xs hb=>by
   rw[af (λz=>by rw[z,I.md']at hb;cases hb),af (λz=>by rw[z,I.kn']at hb;cases hb)];exact hb
  refine q (hJ M k kd.length) _ (kd++[(e,a,(kd.length:Int))]) _ (λb o h1 h2 hb=>by rw[af h1,af h2];exact hb) ⟨ac,vput _,lput _,by rw[af nk,ac];rfl,λp hp=>?_,by rw[length_append];exact Nat.add_le_add_right dl 1,I.ne,I.sh.new cl he hk hm⟩;rcases mem_append.mp hp with hp|hp
  ·exact sM (I.keys p hp) tk
  ·rw[mem_singleton.mp hp];exact sM ha tk
end
def fm:Str:=("shape_marks"++".<locals>.")++"<lambda>"
def xj(c:Addr):Sp:=λvs H Q _=>∃z:Cp,vs=[.ref z.a]∧lZ H z∧H c=some (.ext (cdφ c fm))∧Q (.int (z.p.length:Int)) H
def yn(H:Hp)(v:V):Int:=match v with
 |.ref a=>match H a with
  |some (.tup [.ref t,_])=>match H t with
   |some (.tup xs)=>(xs.length:Int)
   |_=>0
  |_=>0
 |_=>0
theorem lr{H:Hp}{z:Cp}(h:lZ H z):yn H (.ref z.a)=(z.p.length:Int):=by
 show(match H z.a with
  |some (.tup [.ref t,_])=>match H t with
   |some (.tup xs)=>(xs.length:Int)
   |_=>0
  | _=>0)=_
 rw[h.1];show(match H z.t with
   |some (.tup xs)=>(xs.length:Int)
   | _=>0)=_
 rw[h.2];show((z.p.map V.str).length:Int)=_;rw[length_map]
theorem yo{P:Program}{w:World}{d:Addr}{kvs:List (bf×Addr×Int)}{q:Str}(e:D2 P w d kvs=cdφ d q):False:=by
 obtain⟨o,ho⟩:∃o:Obj,o=⟨.none,none,.fields #[.none,.str q 0],#[]⟩:=⟨_,rfl⟩;obtain⟨h,hh⟩:∃h:Heap,h=⟨replicate (d+1) o,{}⟩:=⟨_,rfl⟩;have g:h.get? d=some o:=by
  rw[hh];unfold Heap.get?;have:(replicate (d+1) o)[d]?=some o:=by rw[Array.getElem?_replicate];exact if_pos (Nat.lt_succ_self d)
  dsimp only;rw[this,ho]
 have c:cdφ d q h:=⟨d,o,#[.none,.str q 0],0,rfl,g,by rw[ho],rfl⟩;rw[←e]at c;obtain⟨_,xs,_,o',es,ep,h1,_,h2,_⟩:=c;rw[g]at h1;cases h1;rw[ho]at h2;cases h2
theorem pJ{zs:ZN}(T:TW.Tree1 (nds zs)){j k:Int}{p q:List Str}(hp:TW.PathTo (nds zs) j p)(hq:TW.PathTo (nds zs) k q){z:Addr×Nd}(hz:z∈bg zs j)(e:z.2.num=k):q.length=p.length+1:=by
 obtain⟨h1,h2⟩:=mem_filter.mp hz;simp only[decide_eq_true_eq]at h2;obtain⟨r,e1,e2⟩:=hq.inv T (av h1) e.symm;rw[h2]at e2;rw[e1,TW.PathTo.uniq T e2 hp,length_append];rfl
section
variable{P:Program}{w:World}{K:PySem.W.Frag}{mg:Str→Option Value}{base:Heap}{f c0 Pt:Addr}
def sN(Pt:Addr):Sp:=λvs H Q _=>∃t zs,vs=[.ref t]∧Tre H t zs∧bz H Pt fm∧∀d M kvs H',db Pt H H'→bz H' Pt fm→H' d=some (.dK kvs)→H d=none→(∀n,aN kvs (Sum.inl n:Key)=(M n).map V.int)→Marks zs M→Q (.ref d) H'
theorem xk{fd:FuncData}(F:Fun K "shape_marks" "shape_marks" be f fd)(hc:fd.code=.ref c0)(T:Txt mg)(C0:CodeHd base c0 Pt)(Bm:BmB base mg)(CM:Has P w K mg base 1 "members_by_folder" ["tree"] mZ)(CW:Has P w K mg base 2 "walked" ["tree"] sD):FnOk P w K mg base CX0 4 f fd ["tree"] (sN Pt):=by
 refine F.okT hc oz (λvs H Q E h=>?_) (λA outer s H vs Q E hr h=>?_)
 ·obtain⟨t,zs,rfl,_⟩:=h;rfl
 obtain⟨t,zs,rfl,tr,TQ,q⟩:=h;have hr1:Room 1 _:=hr.mono (by decide);have hr2:Room 2 _:=hr.mono (by decide);obtain⟨r0,p0,h0⟩:=sm0 (P:=P) (w:=w) (K:=K) (mg:=mg) (base:=base) (f:=f) (cdv:=.ref c0) (A:=A) (outer:=outer) (s:=s) (H0:=H) (E:=E) T hr2;obtain⟨r1,p1,h1⟩:=sm1 (P:=P) (w:=w) (K:=K) (mg:=mg) (base:=base) (f:=f) (cdv:=.ref c0) (A:=A) (outer:=outer) (s:=s) (H0:=H) (E:=E) T hr2;refine⟨_,ah (aw (i:=1) oz.nd rfl (Or.inl rfl) (uQ CM hr1 (aa (pv 0) ag)))
  (ah (aw (i:=2) oz.nd rfl (Or.inr rfl) dq)
  (ah (aw (i:=3) oz.nd rfl (Or.inl rfl) dq)
  (ah (wX (cg PassesOwn.never rfl (bG (sK (k:=1) (y:="place") (qual:=fm) (spK:=λf c=>xj c) (key:=yn) C0 rfl Bm rfl rfl rfl ?hK ?hbn hr rfl T.sorted (uQ CW hr2 (aa (pv 0) ag))))
   (iN (n:=2) rfl (bQ (aA (i:=4) oz.nd rfl (Or.inl rfl)) (bQ (aA (i:=5) oz.nd rfl (Or.inl rfl)) fQ)))
   (al (bj (iL (nT (aS hr) (pv 5) (pv 1))) (ah p0 (al p1)) aH))))
  (al (aM (pv 2)))))),?_⟩
 case hK =>
  intro base' f' c pm ctv sub ho;refine pG (k:=0) (fs:=[]) (fv:=[]) ho (λvs H Q E h=>?_) ⟨rfl,rfl,rfl,by decide +kernel,λx hx=>?_,by decide +kernel,λx h=>?_,λx y c h=>by simp at h⟩ ⟨λx c h=>by simp at h,rfl,λi x v h=>by simp at h⟩ (λvs H Q E h=>?_) (λA outer s H vs Q E hr h=>?_)
  ·obtain⟨z,_,_,h,_⟩:=h;exact h
  ·have:x="place":=by simpa using hx
   subst this;rfl
  ·exact absurd rfl ((by decide +kernel:∀y∈_,y.2≠NameKind.free) _ (PySem.mem_of_lookup h))
  ·obtain⟨z,rfl,_⟩:=h;rfl
  ·obtain⟨z,rfl,hz,hc,q⟩:=h;refine⟨_,aL aV rfl T.len boot_len (aa (aD (r:=gf K) ax (pv 0) aj (λ_ _=>rfl)) ag),?_⟩;refine⟨_,rfl,z.a,_,_,_,rfl,rfl,SqT.of hz.1,gb (j:=0) rfl,z.t,_,rfl,.inr (SqT.of hz.2),?_⟩;rw[length_map];exact q
 case hbn=>exact λpm ctv c=>.all λus hl=>match us,hl with | [_],_=>rfl
 have hl:=tr.len;refine⟨_,rfl,t,zs,rfl,tr,λmb L H1 m1=>λmd hmd=>λkn hkn=>⟨kn,ac,?_⟩⟩;have hkn1:H1 kn=none:=by
  by_cases z:kn=md
  ·rw[z,ac]at hkn;cases hkn
  ·rw[af z]at hkn;exact hkn
 have nkm:md≠kn:=λz=>by rw[←z,ac]at hkn;cases hkn
 have s4:Same H1 (upd (upd (upd H1 md (.dK [])) kn (.dK [])) kn (.ext (D2 P w kn []))):=λb o e=>by
  rw[af (ao e hkn1),af (ao e hkn1),af (ao e hmd)];exact e
 have g1:upd (upd (upd H1 md (.dK [])) kn (.dK [])) kn (.ext (D2 P w kn [])) md=some (.dK []):=by rw[af nkm,af nkm,ac]
 have g2:upd (upd (upd H1 md (.dK [])) kn (.dK [])) kn (.ext (D2 P w kn [])) kn=some (.ext (D2 P w kn [])):=ac;refine(λkey:∀H4,Same H1 H4→H4 md=some (.dK [])→H4 kn=some (.ext (D2 P w kn []))→xM _ _ _ _ _ H4=>key _ s4 g1 g2) λH4 s4 g1 g2=>?_;have s04:=m1.same.trans s4;refine⟨_,rfl,t,zs,rfl,tr.same s04,λcs l H5 s5 wl hcl hl5=>⟨l,_,rfl,hl5,by rw[length_map];omega,bd TQ (s04.trans s5),λf' c H6 off tq hc6=>?_⟩⟩;have TQ5:=bd TQ (s04.trans s5);have hne:∀b u,H5 b=some u→(∀ps,u≠.tbl ps)→H6 b=some u:=λb u e n=>off b u (λz=>by
  obtain⟨ps,h1,_⟩:=TQ5;rw[z,h1]at e;exact n ps (Option.some.inj e).symm) e
 have hcp:∀c∈cs,lZ H6 c:=λc hc=>⟨hne _ _ (wl.at' c hc).1 (λps e=>by cases e),hne _ _ (wl.at' c hc).2 (λps e=>by cases e)⟩;refine⟨λx hx=>?_,λDl ys yp yw hDl=>?_⟩
 ·obtain⟨c',hc',rfl⟩:=mem_map.mp hx;exact⟨c',rfl,hcp c' hc',hc6,⟨by rw[lr (hcp c' hc')],rfl⟩⟩
 obtain⟨ws,wp,rfl⟩:=fb yp rfl;have wm:∀c∈ws,c∈cs:=λc hc=>wp.mem_iff.mp hc;have ww:ws.Pairwise λa b=>b.p.length≤a.p.length:=by
  rw[pairwise_map]at yw;refine Pairwise.imp_of_mem ?_ yw;intro a b ha hb h;rw[lr (hcp a (wm a ha)),lr (hcp b (wm b hb))]at h;omega
 have wnd:(ws.map (·.p)).Nodup:=by
  refine(wp.map _).nodup_iff.mpr ?_;unfold Nodup;rw[pairwise_map];exact wl.up.imp λh e=>by rw[e,HT.cw]at h;cases h
 have path:∀c∈ws,TW.PathTo (nds zs) c.n c.p:=λc hc=>by
  obtain⟨z,_,e,h⟩:=(wl.mem c.p c.n).mp ⟨c,wm c hc,rfl,rfl⟩;exact h
 have s7:=ae (o:=.lst (ws.map λc=>V.ref c.a)) hDl;have h7:upd H6 Dl (.lst (ws.map λc=>V.ref c.a)) Dl=some (.lst (ws.map λc=>V.ref c.a)):=ac;have keep5:∀b u,H4 b=some u→(∀ps,u≠.tbl ps)→upd H6 Dl (.lst (ws.map λc=>V.ref c.a)) b=some u:=λb u e n=>s7 _ _ (hne _ _ (s5 _ _ e) n);have hcp7:∀c∈ws,lZ (upd H6 Dl (.lst (ws.map λc=>V.ref c.a))) c:=λc hc=>⟨s7 _ _ (hcp c (wm c hc)).1,s7 _ _ (hcp c (wm c hc)).2⟩;have off7:db Pt H (upd H6 Dl (.lst (ws.map λc=>V.ref c.a))):=λb u n e=>s7 _ _ (off b u n (s5 _ _ (s04 _ _ e)));have tq7:=bd tq s7;generalize upd H6 Dl (.lst (ws.map λc=>V.ref c.a))=H7 at s7 h7 keep5 hcp7 off7 tq7⊢;have tr4:=tr.same s04;have mb7:=keep5 mb _ (s4 _ _ m1.dict) (λps e=>by cases e);have L7:∀k∈ak zs,H7 (L k)=some (.lst (aR (bg zs k))):=λk hk=>keep5 _ _ (s4 _ _ (m1.at' k hk).1) (λps e=>by cases e);have md7:=keep5 md _ g1 (λps e=>by cases e);have kn7:=keep5 kn _ g2 (λps e=>by cases e);have t7:H7 t=some (.tup (aR zs)):=keep5 _ _ tr4.tup (λps e=>by cases e);have n7:∀z∈zs,H7 z.1=some (.tup (vals z.2)):=λz hz=>keep5 _ _ (tr4.nod z hz) (λps e=>by cases e);have nmb1:mb≠md:=λe=>by have:=m1.dict;rw[e,hmd]at this;cases this
 have nmb2:mb≠kn:=λe=>by have:=m1.dict;rw[e,hkn1]at this;cases this
 have fin0:H md=none:=m1.same.free hmd;have wlen:ws.length=zs.length:=wp.length_eq.trans hcl;refine⟨Dl,rfl,⟨_,SqL.of h7⟩,eK (xs:=ws.map λc=>V.ref c.a) (λi σ H'=>∃x4 x5 x6 M kvs kd dn,σ=[some (.ref t),some (.ref mb),some (.ref md),some (.ref kn),x4,x5,x6]∧(∀b o,b≠md→b≠kn→H7 b=some o→H' b=some o)∧ShI P w H' zs md kn dn M kvs kd i∧∀n,n∈dn↔n∈ak zs∧n∈(ws.take i).map (·.n))
  ⟨_,_,_,λ_=>none,[],[],[],rfl,λb o _ _ e=>e,⟨md7,λn=>rfl,le_refl _,kn7,λp hp=>(by cases hp),le_refl _,nkm,ShM.start zs⟩,λn=>by simp⟩ (λi σ H' _ h=>?_) (λi x σ H' hx h=>?_) (λσ H' h=>?_)⟩
 ·obtain⟨x4,x5,x6,M,kvs,kd,dn,rfl,kp,I,hd⟩:=h;exact SqL.of (kp _ _ (λe=>by rw[e,md7]at h7;cases h7) (λe=>by rw[e,kn7]at h7;cases h7) h7)
 ·obtain⟨x4,x5,x6,M,kvs,kd,dn,rfl,kp,I,hd⟩:=h;have kT:∀b xs,H7 b=some (.tup xs)→H' b=some (.tup xs):=λb xs e=>kp _ _ (λz=>by rw[z,md7]at e;cases e) (λz=>by rw[z,kn7]at e;cases e) e;have kL:∀b xs,H7 b=some (.lst xs)→H' b=some (.lst xs):=λb xs e=>kp _ _ (λz=>by rw[z,md7]at e;cases e) (λz=>by rw[z,kn7]at e;cases e) e;rw[getElem?_map]at hx;cases gx:ws[i]? with
  |none=>rw[gx]at hx;cases hx
  |some c =>
   rw[gx]at hx;cases hx;have mc:=mem_of_getElem? gx;have il:i<ws.length:=(List.getElem?_eq_some_iff.mp gx).1;have mb':=kp _ _ nmb1 nmb2 mb7;have et:(ws.take (i+1)).map (·.n)=(ws.take i).map (·.n)++[c.n]:=by rw[aP gx,map_append];rfl
   refine⟨c.a,_,rfl,SqT.of (kT _ _ (hcp7 c mc).1),rfl,_,_,rfl,_,_,rfl,rfl,?_⟩;refine⟨_,rfl,_,rfl,mb,_,rfl,ci.k (k:=Sum.inl c.n) mb',_,rfl,?_⟩;rw[gG]
   by_cases hk:c.n∈ak zs
   ·rw[if_pos hk];have ahead:∀j∈(ws.take i).map (·.n),∃c'∈ws,c'.n=j∧c.p.length≤c'.p.length∧c'.p≠c.p:=λj hj=>by
     obtain⟨c',hc',e⟩:=mem_map.mp hj;obtain⟨m,hm1,hm2⟩:=List.getElem_of_mem hc';rw[length_take]at hm1;rw[getElem_take]at hm2;have ei:ws[i]=c:=Option.some.inj ((getElem?_eq_getElem il).symm.trans gx);have h1:=pairwise_iff_getElem.mp ww m i (by omega) il (by omega);have h2:=pairwise_iff_getElem.mp wnd m i (by rw[length_map];omega) (by rw[length_map];omega) (by omega);rw[hm2,ei]at h1;rw[getElem_map,getElem_map,hm2,ei]at h2;exact⟨c',by rw[←hm2];exact getElem_mem _,e,h1,h2⟩
    have hkd:c.n∉dn:=λhm=>by
     obtain⟨c',hc',e,_,ne⟩:=ahead _ ((hd _).mp hm).2;have:=path c' hc';rw[e]at this;exact ne (TW.PathTo.uniq tr.tr this (path c mc))
    have cl:∀j∈dn++[c.n],∀z∈bg zs j,z.2.num≠c.n:=λj hj z hz e=>by
     rcases mem_append.mp hj with hj|hj
     ·obtain⟨c',hc',e',hle,_⟩:=ahead _ ((hd _).mp hj).2;have:=path c' hc';rw[e']at this;have:=pJ tr.tr this (path c mc) hz e;omega
     ·rw[mem_singleton.mp hj]at hz;have:=pJ tr.tr (path c mc) (path c mc) hz e;omega
    refine bx ?_;refine h0 _ H' t mb md _ _ c.n _ zs L (ak zs) M kvs ⟨kT _ _ t7,λz hz=>kT _ _ (n7 z hz),tr.tr,tr.len⟩ mb' hk (kL _ _ (L7 _ hk)) I.md' I.val λa e H2 s2 ka he=>?_;refine h1 _ H2 t mb md kn a _ c.n zs dn M kvs kd e i (I.same s2 (le_refl _)) (by omega) ka he hkd cl λM' kvs' kd' H3 kp3 I3=>?_;refine⟨_,_,_,M',kvs',kd',dn++[c.n],rfl,λb o h1 h2 e=>kp3 _ _ h1 h2 (s2 _ _ (kp _ _ h1 h2 e)),I3,λn=>?_⟩;rw[et,mem_append,mem_append,hd n,mem_singleton];constructor
    ·rintro(⟨h1,h2⟩|rfl)
     ·exact⟨h1,.inl h2⟩
     ·exact⟨hk,.inr rfl⟩
    ·rintro⟨h1,h2|h2⟩
     ·exact .inl ⟨h1,h2⟩
     ·exact .inr h2
   ·rw[if_neg hk];refine aX ⟨_,_,_,M,kvs,kd,dn,rfl,kp,I.same (Same.refl _) (le_succ _),λn=>?_⟩;rw[et,mem_append,hd n,mem_singleton];constructor
    ·rintro⟨h1,h2⟩;exact⟨h1,.inl h2⟩
    ·rintro⟨h1,h2|h2⟩
     ·exact⟨h1,h2⟩
     ·exact absurd (by rw[←h2];exact h1) hk
 ·obtain⟨x4,x5,x6,M,kvs,kd,dn,rfl,kp,I,hd⟩:=h;rw[length_map,take_length]at hd;have all:∀n,n∈dn↔n∈ak zs:=λn=>by
   rw[hd n];refine⟨λh=>h.1,λh=>⟨h,?_⟩⟩;unfold ak at h;obtain⟨z,hz,e⟩:=mem_map.mp h;have hz':=(mem_filter.mp hz).1;obtain⟨p,hp⟩:=TW.PathTo.ex tr.tr (av hz');obtain⟨c,hc,_,e2⟩:=(wl.mem p z.2.num).mpr ⟨z,hz',rfl,hp⟩;exact mem_map.mpr ⟨c,wp.mem_iff.mpr hc,e2.trans e⟩
  have hPt:H Pt≠none:=by obtain⟨ps,h1,_⟩:=TQ;rw[h1];simp
  refine⟨_,rfl,q md M kvs H' (λb o n e=>?_) ?_ I.md' fin0 I.val (I.sh.marks all)⟩
  ·exact kp _ _ (ao e fin0) (ao e (m1.same.free hkn1)) (off7 b o n e)
  ·obtain⟨ps,g1',g2',g3'⟩:=tq7;refine⟨ps,kp _ _ (λz=>by rw[z,md7]at g1';cases g1') (λz=>by rw[z,kn7]at g1';cases g1') g1',g2',λpos cv e=>?_⟩;obtain⟨c,e1,e2⟩:=g3' pos cv e;refine⟨c,e1,kp _ _ (λz=>by rw[z,md7]at e2;cases e2) (λz=>?_) e2⟩;rw[z,kn7]at e2;have e3:D2 P w kn []=cdφ kn fm:=by injection (Option.some.inj e2)
   exact yo e3
end
end TK
namespace L2
open PySem PySem.Spec PyProof.Rows
section
variable{X:Cx}
structure Cv where
 a:Addr
 t:Addr
 p:List Str
 v:V
def ls(H:Hp)(z:Cv):Prop:=H z.a=some (.tup [.ref z.t,z.v])∧H z.t=some (.tup (z.p.map V.str))
theorem iz(hu:X.A.units+8<cLine):cq X (.builtin "sorted") (λxs H Q=>∃l,∃zs:List Cv,xs=[.ref l]∧H l=some (.lst (zs.map λz=>V.ref z.a))∧(∀z∈zs,ls H z)∧(∀z∈zs,cF z.v=true∧eqV z.v z.v=true)∧(zs.map (·.p)).Nodup∧zs.length<64 ∧
  ∀zs':List Cv,zs'.Perm zs→zs'.Pairwise (λa b=>HT.cu a.p b.p=true)→∀p,H p=none→Q (.ref p) (upd H p (.lst (zs'.map λz=>V.ref z.a)))):=by
 intro pins s σ H xs us Q I r h;obtain⟨l,zs,rfl,hl,hk,hfv,hnd,h64,q⟩:=h;obtain⟨u,rfl,ru⟩:=cE r;cases ru;obtain⟨_,its,n,rv,ho⟩:=I.hok l _ hl
 let d:Cv:=⟨0,0,[],.non⟩
 have hlen:its.length=zs.length:=by rw[←rv.length,length_map]
 have gi:∀i,i<zs.length→its.getD i Value.none=.ref (zs.getD i d).a:=λi hi=>by
  obtain⟨v,hv,r⟩:=rv.get (i:=i) (x:=.ref (zs.getD i d).a) (by rw[getElem?_map,(aY (d:=d) hi).2];rfl);cases r;rw[getD_eq_getElem?_getD,hv];rfl
 have eits:its=zs.map λz=>Value.ref z.a:=by
  have key:∀(l:List Cv)(us:List Value),ar (l.map λz=>V.ref z.a) us→us=l.map λz=>Value.ref z.a:=by
   intro l
   induction l with
   |nil=>intro us r;cases r;rfl
   |cons z l ih =>
    intro us r;cases r with
    |cons r1 r2 =>
     rw[ih _ r2];cases r1;rfl
  exact key zs its rv
 have hobj:∀z∈zs,∃v',aB z.v v'∧IsTup s.heap z.a #[.ref z.t,v']:=λz hz=>by
  obtain⟨u,v,r1,r2,ht⟩:=oe I (hk z hz).1;cases r1;exact⟨v,r2,ht⟩
 have htup:∀z∈zs,∃ws:List Value,StrsAre ws z.p∧IsTup s.heap z.t ws.toArray:=λz hz=>by
  obtain⟨_,ws,r1,ht⟩:=I.hok z.t _ (hk z hz).2;exact⟨ws,lh r1,ht⟩
 have kept:∀{s':Shared}{a:Addr}{xs:Array Value},(∀b o,s.heap.get? b=some o→s'.heap.get? b=some o)→IsTup s.heap a xs→IsTup s'.heap a xs:=λk ⟨o,e,r⟩=>⟨o,k _ o e,r⟩;refine eO (val:=λz:Cv=>V.ref z.a) (d:=d) (f:=λa b=>HT.cu a.p b.p) (κ:=tuples' false) I rv ⟨λi _=>HT.cw _,λi j k _ _ _ h1 h2=>HT.iI h1 h2,λi j hi hj hij=>HT.jd ?_⟩ ⟨_,ho,rfl,n,rfl⟩ h64 (λA' s' _ kp Q' h2 hQ=>?_) (λA' s' hA kp i j C hi hj hC=>?_) q
 ·intro e;have e':(zs.map (·.p))[i]'(by simpa using hi)=(zs.map (·.p))[j]'(by simpa using hj):=by
   have h1:=(aY (d:=d) hi).2;have h2:=(aY (d:=d) hj).2;rw[getElem_map,getElem_map,(List.getElem?_eq_some_iff.mp h1).2,(List.getElem?_eq_some_iff.mp h2).2];exact e
  exact hij ((getElem_inj hnd).mp e')
 ·have key:∀ys:List Cv,(∀z∈ys,z∈zs)→KatTups s'.heap (ys.map λz=>Value.ref z.a) (ys.map λz=>Value.ref z.t):=by
   intro ys
   induction ys with
   |nil=>intro _;exact KatTups.nil
   |cons z ys ih =>
    intro hm;obtain⟨t',_,o,e1,e2,n',e3⟩:=hobj z (hm z (by simp));exact KatTups.cons (kp _ _ e1) e2 e3 rfl (ih λy hy=>hm y (by simp[hy]))
  rw[eits];refine kat_kind (T:=.type "tuple") (key zs λz hz=>hz) (by rw[length_map];omega) (λv hv=>?_) (by rfl) hQ;obtain⟨z,hz,rfl⟩:=mem_map.mp hv;obtain⟨ws,_,o,e1,e2,_⟩:=htup z hz;exact e2 ▸ (Looks.ld (kp _ _ e1)).andThen .now
 ·rw[gi i hi,gi j hj];have mi:=(aY (d:=d) hi).1;have mj:=(aY (d:=d) hj).1;generalize zs.getD i d=zi at mi hC⊢;generalize zs.getD j d=zj at mj hC⊢;obtain⟨ti,ri,oi,a1,a2,ni,a3⟩:=hobj zi mi;obtain⟨tj,rj,oj,b1,b2,nj,b3⟩:=hobj zj mj;refine kat_lt (kp _ _ a1) a3 (kp _ _ b1) b3 ?_;obtain⟨wi,si,pi⟩:=htup zi mi;obtain⟨wj,sj,pj⟩:=htup zj mj;have hu1:A'.units<cLine:=by omega
  have ki:IsTupleKey (ap X.prog X.w) s'.heap (zi.p.map Sum.inr) zi.t:=by
   obtain⟨o,its',n',ho',r⟩:=lX (ks:=zi.p.map Sum.inr) I (by rw[map_map];exact(hk zi mi).2) X.prog X.w;exact⟨o,its',n',kp _ _ ho',r⟩
  have kj:IsTupleKey (ap X.prog X.w) s'.heap (zj.p.map Sum.inr) zj.t:=by
   obtain⟨o,its',n',ho',r⟩:=lX (ks:=zj.p.map Sum.inr) I (by rw[map_map];exact(hk zj mj).2) X.prog X.w;exact⟨o,its',n',kp _ _ ho',r⟩
  refine kat_cons (wpAny_eqBool_tuple (knd:=ap X.prog X.w) hu1 ki kj ?_)
  by_cases e:zi.p=zj.p
  ·rw[e,decide_eq_true rfl];have hC':C false s':=by rw[e,HT.cw]at hC;exact hC
   have en:zi=zj:=by
    obtain⟨x,hx,ex⟩:=mem_iff_getElem.mp mi;obtain⟨y,hy,ey⟩:=mem_iff_getElem.mp mj;have e':(zs.map (·.p))[x]'(by simpa using hx)=(zs.map (·.p))[y]'(by simpa using hy):=by rw[getElem_map,getElem_map,ex,ey];exact e
    have:=(getElem_inj hnd).mp e';subst this;rw[←ex,←ey]
   subst en;have ee:=(hfv zi mi).2;refine kat_yes (kat_cons (gP ri rj (hfv zi mi).1 (hfv zi mi).1 X.prog X.w _ _ ?_));rw[ee];exact kat_yes (kat_nil (by simpa using hC'))
  ·have hne:¬(zi.p.map Sum.inr:List Key)=zj.p.map Sum.inr:=λz=>e (by
    have:=congrArg (List.map λk:Key=>match k with | .inr x=>x | .inl _=>empty) z;simpa [map_map,Function.comp_def]using this)
   rw[decide_eq_false hne];refine kat_no (kat_one _ _ ?_);exact HT.je (kept kp pi) (kept kp pj) (by simpa using si) (by simpa using sj) hu1 hC
abbrev dU:=Addr×Int×Int
def cI(a b:Int×Int):Bool:=if a.1=b.1 then decide (a.2<b.2)else decide (a.1<b.1)
theorem bZ{a b:Int×Int}:cI a b=true↔a.1<b.1∨(a.1=b.1∧a.2<b.2):=by
 unfold cI
 by_cases h:a.1=b.1
 ·rw[if_pos h,decide_eq_true_eq];omega
 ·rw[if_neg h,decide_eq_true_eq];omega
theorem hO(a:Int×Int):cI a a=false:=by unfold cI;simp
def di(zs:List dU)(i:Nat):Int×Int:=(zs.getD i (0,0,0)).2
theorem yq{zs:List dU}(h:(zs.map (·.2)).Nodup):SRT.Ord (λi j=>cI (di zs i) (di zs j)) zs.length:=by
 refine⟨λi _=>hO _,λi j k _ _ _ h1 h2=>?_,λi j hi hj hij=>?_⟩
 ·rw[bZ]at *;omega
 ·have ne:di zs i≠di zs j:=by
   unfold di;rw[getD_eq_getElem?_getD,getD_eq_getElem?_getD,getElem?_eq_getElem hi,getElem?_eq_getElem hj];intro e;have e':(zs.map (·.2))[i]'(by simpa using hi)=(zs.map (·.2))[j]'(by simpa using hj):=by simpa using e
   exact hij ((getElem_inj h).mp e')
  rw[bZ,bZ];have:¬((di zs i).1=(di zs j).1∧(di zs i).2=(di zs j).2):=λh=>ne (Prod.ext h.1 h.2);omega
theorem iA:cq X (.builtin "sorted") (λxs H Q=>∃l,∃zs:List dU,xs=[.ref l]∧(SqL X.K H l ((zs.map (·.1)).map V.ref)∨SqT X.K H l ((zs.map (·.1)).map V.ref))∧(∀z∈zs,H z.1=some (.tup ([.int z.2.1,.int z.2.2])))∧(zs.map (·.2)).Nodup∧zs.length<64 ∧
  ∀zs':List dU,zs'.Perm zs→zs'.Pairwise (λa b=>cI a.2 b.2=true)→∀p,H p=none→Q (.ref p) (upd H p (.lst ((zs'.map (·.1)).map V.ref)))):=by
 intro pins s σ H xs us Q I r h;obtain⟨l,zs,rfl,hq,hk,hnd,h64,q⟩:=h;obtain⟨u,rfl,ru⟩:=cE r;cases ru;obtain⟨its,rv,pl⟩:∃its,ar ((zs.map (·.1)).map V.ref) its∧(s.heap.IsList l its.toArray∨IsTup s.heap l its.toArray):=by
  rcases hq with hq|hq
  ·obtain⟨its,rv,pl,hz⟩:=I.list hq;exact⟨its,rv,.inl pl.isList⟩
  ·obtain⟨its,rv,pl,hz⟩:=I.tuple hq;exact⟨its,rv,.inr pl⟩
 have e:=cj rv;subst e;have hlen:((zs.map (·.1)).map Value.ref).length=zs.length:=by simp
 have hobj:∀z∈zs,∃o its n t t',s.heap.get? z.1=some o∧o.cls=.type "tuple"∧o.data=.seq its n∧its.toList=[.int z.2.1 t,.int z.2.2 t']:=λz hz'=>by
  obtain⟨_,its,rr,o,e1,e2,n,e3⟩:=I.hok z.1 _ (hk z hz');cases rr with
  |cons r1 r2=>cases r2 with
   |cons r2 r3 =>
    cases r3;obtain⟨t,rfl⟩:=r1;obtain⟨t',rfl⟩:=r2;exact⟨o,_,n,t,t',e1,e2,e3,rfl⟩
 have hget:∀i,i<zs.length→((zs.map (·.1)).map Value.ref).getD i Value.none=.ref (zs.getD i (0,0,0)).1∧zs.getD i (0,0,0)∈zs:=λi hi=>by
  rw[getD_eq_getElem?_getD,getD_eq_getElem?_getD,getElem?_map,getElem?_map,getElem?_eq_getElem hi];exact⟨rfl,getElem_mem hi⟩
 refine SRT.dM (κ:=tuples' true) (f:=λi j=>cI (di zs i) (di zs j)) (by rw[hlen];exact yq hnd) pl (by rw[hlen];exact h64) ?kind ?less ?fin
 case kind =>
  intro A' s' _ kp Q' h2 hQ';have key:∀ys:List dU,(∀z∈ys,z∈zs)→∃fs:List Value,KatTups s'.heap ((ys.map (·.1)).map Value.ref) fs∧fs.length=ys.length∧∀v∈fs,∃i t,v=Value.int i t:=by
   intro ys
   induction ys with
   |nil=>intro _;exact⟨[],KatTups.nil,rfl,λv hv=>by simp at hv⟩
   |cons z ys ih =>
    intro hm;obtain⟨fs,h1,h2',h3⟩:=ih λy hy=>hm y (by simp[hy]);obtain⟨o,its,n,t,t',e1,e2,e3,e4⟩:=hobj z (hm z (by simp));refine⟨.int z.2.1 t::fs,KatTups.cons (kp _ _ e1) e2 e3 ?_ h1,by simp[h2'],λv hv=>?_⟩
    ·rw[←getElem?_toList,e4];rfl
    ·rcases mem_cons.mp hv with rfl|hv
     ·exact⟨_,_,rfl⟩
     ·exact h3 v hv
  obtain⟨fs,h1,h2',h3⟩:=key zs λz hz'=>hz';refine kat_kind (T:=.type "int") h1 (by rw[h2'];rw[hlen]at h2;omega) (λv hv=>?_) (by rfl) hQ';obtain⟨i,t,rfl⟩:=h3 v hv;exact .now
 case less =>
  intro A' s' _ kp i j C hi hj hC;rw[hlen]at hi hj;obtain⟨gi,mi⟩:=hget i hi;obtain⟨gj,mj⟩:=hget j hj;rw[gi,gj];obtain⟨oi,ii,ni,ti,ti',a1,a2,a3,a4⟩:=hobj _ mi;obtain⟨oj,ij,nj,tj,tj',b1,b2,b3,b4⟩:=hobj _ mj;refine kat_lt (kp _ _ a1) a3 (kp _ _ b1) b3 ?_
  by_cases hij:i=j
  ·subst hij;rw[a1]at b1;cases b1;rw[a3]at b3;cases b3;have:C false s':=by rw[hO]at hC;exact hC
   have e2:decide (ii.size<ii.size)=false:=by simp
   rw[e2];exact gu this _ _
  ·have hne:di zs i≠di zs j:=λe=>by
    rcases (yq hnd).tot i j hi hj hij with h1|h1<;>rw[e,hO]at h1<;>cases h1
   have hC':C (cI (zs.getD i (0,0,0)).2 (zs.getD j (0,0,0)).2) s':=hC;rw[a4,b4];refine kat_cons (wpAny_eqBool_int ?_)
   by_cases h1:(zs.getD i (0,0,0)).2.1=(zs.getD j (0,0,0)).2.1
   ·rw[show((zs.getD i (0,0,0)).2.1==(zs.getD j (0,0,0)).2.1)=true from beq_iff_eq.mpr h1];refine kat_yes (kat_cons (wpAny_eqBool_int ?_));have h2:(zs.getD i (0,0,0)).2.2≠(zs.getD j (0,0,0)).2.2:=λe=>hne (Prod.ext h1 e);rw[show((zs.getD i (0,0,0)).2.2==(zs.getD j (0,0,0)).2.2)=false from beq_eq_false_iff_ne.mpr h2];refine kat_no (kat_one _ _ (PyProof.Rows.lt_int ?_));unfold cI at hC';rw[if_pos h1]at hC';exact hC'
   ·rw[show((zs.getD i (0,0,0)).2.1==(zs.getD j (0,0,0)).2.1)=false from beq_eq_false_iff_ne.mpr h1];refine kat_no ?_;unfold cI at hC';rw[if_neg h1]at hC';exact kat_lt_int hC'
 case fin =>
  intro p h' hrow hup kp _ hg;obtain⟨c,hg⟩:=hg;rw[hlen]at hrow hup;obtain⟨zs',hzs'⟩:∃zs',zs'=p.toList.map λi=>zs.getD i (0,0,0):=⟨_,rfl⟩;have hperm:zs'.Perm zs:=by
   rw[hzs'];refine(hrow.perm.map _).trans ?_;have:(List.range zs.length).map (λi=>zs.getD i (0,0,0))=zs:=by
    apply ext_getElem?;intro i;rw[getElem?_map]
    by_cases hi:i<zs.length
    ·rw[getElem?_range hi,getElem?_eq_getElem hi];show some (zs.getD i (0,0,0))=_;rw[getD_eq_getElem?_getD,getElem?_eq_getElem hi];rfl
    ·rw[getElem?_eq_none (by rw[length_range];omega),getElem?_eq_none (by omega)];rfl
   rw[this]
  have hpl:p.size=zs.length:=hrow.size;have hpw:zs'.Pairwise (λa b=>cI a.2 b.2=true):=by
   rw[pairwise_iff_getElem];intro i j hi hj hij;have hi':i<p.size:=by rw[hzs',length_map,length_toList]at hi;exact hi
   have hj':j<p.size:=by rw[hzs',length_map,length_toList]at hj;exact hj
   have:=hup i j hij (by omega);simp only[di]at this;rw[getD_eq_getD_getElem?,getD_eq_getD_getElem?,Array.getElem?_eq_getElem hi',Array.getElem?_eq_getElem hj']at this;simpa [hzs']using this
  have hout:(toArray (p.toList.map λi=>((zs.map (·.1)).map Value.ref).getD i Value.none))=((zs'.map (·.1)).map Value.ref).toArray:=by
   congr 1
   rw[hzs'];simp only[map_map];apply map_congr_left;intro i hi;have hi':i<zs.length:=mem_range.mp (hrow.perm.mem_iff.mp hi);have:=(hget i hi').1;simp only[map_map]at this;exact this
  rw[hout]at hg;have hv:ar ((zs'.map (·.1)).map V.ref) ((zs'.map (·.1)).map Value.ref):=by
   generalize zs'.map (·.1)=as
   induction as with
   |nil=>exact .nil
   |cons a as ih=>exact .cons rfl ih
  refine⟨.ref (s.heap.objs.size+1),_,I.laid (t':=s.toks) (o:=.lst ((zs'.map (·.1)).map V.ref)) kp (le_succ _) ⟨?_,_,c,hv,hg⟩,rfl,q zs' hperm hpw _ (I.hok.fresh (le_succ _))⟩;rw[length_map,length_map,hperm.length_eq,sizeLine_eq];omega
theorem vM{kvs:List (Key×V)}{vs:List (Key×Value)}(r:KV kvs vs){j:Nat}{q:Key×Value}(h:vs[j]?=some q):∃p,kvs[j]?=some p∧p.1=q.1∧aB p.2 q.2:=by
 induction r generalizing j with
 |nil=>cases h
 |cons hh _ ih =>
  cases j with
  |zero=>cases h;exact⟨_,rfl,hh.1,hh.2⟩
  |succ j=>exact ih h
theorem yr{P:Program}{w:World}{k:Key}{u:Value}(h:(ap P w).is k u=true):aB (kV k) u:=by
 rcases aE h with⟨i,t,e4,e5⟩|⟨y,t,e4,e5⟩
 ·rw[e4,e5];exact⟨_,rfl⟩
 ·rw[e4,e5];exact⟨_,rfl⟩
end
end L2
namespace LZ
open PySem PySem.SeqAt
section
variable{prog:Program}{w:World}{A:Around}{E:Value→Shared→Prop}{s:Shared}
end
section
variable{prog:Program}{w:World}{A:Around}{s:Shared}{R:Result→Shared→Prop}{n l1 l2:Nat}{xs ys:Array Value}{ps:List (Value×Value)}
end
end LZ
namespace L2
open PySem PySem.Spec PyProof.Rows
section
variable{X:Cx}
end
theorem jq:entryFor table "dict_itemiterator.__iter__"=some Builtin.«dict_keyiterator.__iter__» :=
 entryFor_alias (id':="dict_keyiterator.__iter__") (by kernel_rfl) rfl (by decide +kernel) (by kernel_rfl)
def Iti(d:Addr)(o:Obj)(kvs:List (Key×V)):It :=
 ⟨λi H=>H d=some (.frz o (.dK kvs))∧i<kvs.length,λi H v H'=>∃p kv,H p=none∧v=.ref p∧kvs[i]?=some kv∧H'=upd H p (.tup [kV kv.1,kv.2]),λi H=>H d=some (.frz o (.dK kvs))∧kvs.length≤i⟩
theorem lu{X:Cx}{pins:List (Addr×Obj)}{σ:St}{H:Hp}{s:Shared}{d:Addr}{o:Obj}{kvs:List (Key×V)}{es:Array DictEntry}{ep:Nat}(I:Inv X pins σ H s)(hd:o.data=.dict es ep)(h:H d=some (.frz o (.dK kvs))):
  ∃vs,KV kvs vs∧s.heap.DictAt (ap X.prog X.w) d vs ep:=by
 obtain⟨ho,hz,hsm,vs,rel,o',es',ep',ho',hx',hd',hk',hp',hn'⟩:=I.hok d _ h;rw[ho]at ho';cases ho';rw[hd]at hd';cases hd';exact⟨vs,rel,o,es,ho,hx',hd,hk',hp',hn'⟩
theorem oA{P:Program}{w:World}{K:PySem.W.Frag}{es:List Expr}{k:Nat}{p0:Pos}{d it:Addr}{o:Obj}{kvs:List (Key×V)}{des:Array DictEntry}{ep:Nat}(hd:o.data=.dict des ep):
  Turn P w K (.Tuple es k p0) (Iti d o kvs) [it] it (λi h=>∃ok ov,IsItemIter h it d i kvs.length ep ok ov) where
 mem:=by simp
 obj:=λi h st b hb=>by
  have e:b=it:=by simpa using hb
  subst e;obtain⟨ok,ov,e⟩:=st;exact⟨_,e,λv z=>nomatch z⟩
 keep:=λi h h' st k=>by
  obtain⟨ok,ov,e⟩:=st;exact⟨ok,ov,k it (by simp) _ e⟩
 item:=by
  intro X hP hw hK hc i pins s σ H E I hf st hg;subst hP hw hK;obtain⟨hH,hi⟩:=hg;obtain⟨ok,ov,hit⟩:=st;obtain⟨vs,rel,da⟩:=lu I hd hH;obtain⟨f0,f1,f2,f3,f4,f5⟩:=hf it (by simp);have hl:kvs.length=vs.length:=rel.length;obtain⟨⟨k,v⟩,hq⟩:∃q,vs[i]?=some q:=⟨vs[i]'(by omega),getElem?_eq_getElem (by omega)⟩;obtain⟨kv,hkv,ek,rv⟩:=vM rel hq;have ek':kv.1=k:=ek;rw[hl]at hit;refine wpAny_pyNext_items_item hit da hq λkey g hkey hout hnew hsz kp=>⟨_,rfl,?_⟩;refine wpAny_letOwnedTupleGo_items hout λg' hit' sb=>?_;have nz:s.heap.objs.size≠it:=ne_of_gt (lt_size hit);have kp':∀c o,c≠it→s.heap.get? c=some o→g'.get? c=some o:=λc o c1 e=>(sb.2 c c1).trans (kp c o c1 e);have kpO:∀c o,c∉[it]→s.heap.get? c=some o→g'.get? c=some o:=λc o hn e=>kp' c o (λq=>hn (by simp[q])) e;have hnot:∀c o,H c=some o→c∉[it]:=λc o e hm=>by rw[(hf c hm).1]at e;cases e
  have nsz:∀c o,s.heap.get? c=some o→c≠s.heap.objs.size:=λc o e=>ne_of_lt (lt_size e);have trk:∀c o,H c=some o→c≠s.heap.objs.size:=λc o e=>ne_of_lt (I.hok.lt e);have new':g'.get? s.heap.objs.size=some {cls:=.type "tuple",data:=.seq #[key,v]}:=(sb.2 _ nz).trans hnew;have okH:HOk X.prog X.w (upd H s.heap.objs.size (.tup [kV kv.1,kv.2])) g':=λc o e=>by
   by_cases ec:c=s.heap.objs.size
   ·subst ec;rw[ac]at e;cases e;exact⟨by show 2≤sizeLine;rw[sizeLine_eq];decide,[key,v],.cons (by rw[ek'];exact yr hkey) (.cons rv .nil),⟨_,new',rfl,0,rfl⟩⟩
   ·rw[af ec]at e;refine(I.hok c o e).stay (λd v hd q=>kpO d v ?_ q) (λd q=>by rw[af (trk d _ q)];exact q) λd zs q=>by rw[af (trk d _ q)];exact q
    rcases hd with rfl|hd
    ·exact hnot _ _ e
    ·exact hnot _ _ hd
  have I2:Inv X pins σ (upd H s.heap.objs.size (.tup [kV kv.1,kv.2])) {s with heap:=g'}:=by
   refine I.step (g':=s.gens) (t':=s.toks) (d':=s.drawn) (ch:=[it]) (λc hc'=>?_) (λc o _ _ hn e _=>kpO c o hn e) (λc o _ _ hn e _=>⟨o.slots,kpO c o hn e⟩) (λc o _ e n=>by rw[af (nsz c o e)];exact n) (λc o hn e=>⟨o,kpO c o hn e⟩)
    (λc zs q=>by rw[af (trk c _ q)];exact q) (λc o u q=>by rw[af (trk c _ q)];exact q) (λc ps q=>⟨#[],by rw[af (trk c _ q),q];simp⟩) (λm hm=>?_) okH I.bare
   ·obtain⟨f0,f1,f2,f3,f4,f5⟩:=hf c hc';exact⟨f3,f1,f4,f5⟩
   ·obtain⟨o,es',ep,ho,r⟩:=hm;exact⟨o,es',ep,kpO _ o (λhm'=>(hf _ hm').2.1 rfl) ho,r⟩
  refine⟨.ref s.heap.objs.size,_,I2,rfl,⟨s.heap.objs.size,kv,I.hok.fresh (le_refl _),rfl,hkv,rfl⟩,⟨_,_,by rw[hl];exact hit'⟩,λc hc'=>?_⟩;have e:c=it:=by simpa using hc'
  subst e;rw[af (symm nz)];exact f0
 done:=by
  intro X hP hw hK hc i pins s σ H E I hf st hg;subst hP hw hK;obtain⟨hH,hi⟩:=hg;obtain⟨ok,ov,hit⟩:=st;obtain⟨vs,rel,da⟩:=lu I hd hH;obtain⟨f0,f1,f2,f3,f4,f5⟩:=hf it (by simp);have hl:kvs.length=vs.length:=rel.length;rw[hl]at hit;exact wpAny_pyNext_items_end (I.ok.hd hc) hit da (getElem?_eq_none (by omega)) λh' eb=>⟨rfl,I.turned (t':=s.toks) (λb o hb e=>eb b o hb e) f0 f1 f3 f4 f5⟩
 self:=λA i s Q E st hq=>by
  obtain⟨ok,ov,hit⟩:=st;have hT:s.TypeIs (.ref it) "dict_itemiterator":=⟨_,hit,rfl⟩;refine wpAny_pyIter_slot hT PySem.F.slot_dict_itemiterator_iter (wpAny_call_entry PySem.F.slot_dict_itemiterator_iter hT jq ?_ (PySem.F.args_dict_itemiterator_iter_1 _));show wpAny _ _ (ret (.ref it)) _ _ s;exact wpAny_pure ⟨_,rfl,"dict_itemiterator",_,hT,PySem.F.slot_dict_itemiterator_next.lookup,hq⟩
section
variable{X:Cx}
def xm(td:TE):TI:=λσ H R=>td σ H λv H1=>∃d kvs,v=.ref d∧H1 d=some (.dK kvs)∧∀o,R (Iti d o kvs) (upd H1 d (.frz o (.dK kvs)))
theorem sO{es:List Expr}{k:Nat}{p0:Pos}{e:Expr}{te:TE}{apos cpos:Pos}(he:PE X e te)(hbase:attributeBase e "items" X.env (eval e X.env)=eval e X.env:=by rfl)(hline:(apos.endLine==cpos.line)=true:=by rfl):
  PI X (.Tuple es k p0) (.Call (.Attribute e "items" apos) [] [] cpos) (xm te):=by
 intro pins s σ H R I h;refine wpAny_Call_method0_late hbase hline (thn (he pins s σ H _ I h) λv s1 hpt=>?_);obtain⟨x,H1,I1,r1,q1⟩:=hpt;obtain⟨d,kvs,rfl,hH,q⟩:=q1;cases r1;obtain⟨hz,hsm,vs,rel,o,es,ep,ho,hx,hd,hk,hp,hn⟩:=I1.hok d _ hH;have I2:Inv X pins σ (upd H1 d (.frz o (.dK kvs))) s1:=I1.write (t':=s1.toks) (x:=d) (e:=d) (by rw[hH];trivial) (.inl rfl) (λ_ _ _ q=>q) ⟨o,ho⟩ ⟨ho,hz,hsm,vs,rel,o,es,ep,ho,hx,hd,hk,hp,hn⟩;have dd:s1.heap.DictOf (ap X.prog X.w) d vs:=⟨o,es,ep,ho,hx,hd,hk,hp,hn⟩;have da:s1.heap.DictAt (ap X.prog X.w) d vs ep:=⟨o,es,ho,hx,hd,hk,hp,hn⟩;have hT:s1.TypeIs (.ref d) "dict":=dd.typeIs;refine⟨"dict","dict.items",plainAttrs_dict,slot_dict_items,PySem.F.type_dict_items,hT,?_,callWith_builtin rfl (PySem.evalArgs_none ?_)⟩
 ·intro a ea;cases ea;exact⟨o,ho,hx.2.1⟩
 ·show wpAny _ _ (call (.builtin "dict.items") [.ref d]) _ _ _;have key:∀(Q:Value→Shared→Prop)(E:Value→Shared→Prop),Q (.ref s1.heap.objs.size) {s1 with heap:=s1.heap.push {cls:=.type "dict_items",data:=.fields #[.ref d]}}→wpAny (model X.prog X.w) X.A (call (.builtin "dict.items") [.ref d]) Q E s1:=λQ E hq =>
   wpAny_call (codeAny_call_builtin slot_dict_items.plain PySem.F.entry_dict_items (slot_dict_items.check _ _ _ _ _ _ _ _ hT (PySem.F.args_dict_items_1 _) (meets_dict_items (ap X.prog X.w) d hsm X.A (wants Q E) s1 ⟨⟨vs,dd⟩,hq⟩)))
  refine key _ _ ?_;have hsz:(s1.heap.push {cls:=.type "dict_items",data:=.fields #[.ref d]}).objs.size=s1.heap.objs.size+1:=size_push' ..;refine wpAny_pyIter_items (knd:=ap X.prog X.w) (d:=d) (kvs:=vs) (ep:=ep) ⟨_,get?_push_size _ rfl,rfl,rfl⟩ (da.push _) ?_;refine⟨(s1.heap.push {cls:=.type "dict_items",data:=.fields #[.ref d]}).objs.size,[(s1.heap.push {cls:=.type "dict_items",data:=.fields #[.ref d]}).objs.size],_,_,upd H1 d (.frz o (.dK kvs)),rfl,I2.kept (t':=s1.toks) λb o e=>get?_push_of_some _ (get?_push_of_some _ e),oA hd,⟨.none,.none,by rw[rel.length];exact get?_push_size _ rfl⟩,λb hb=>?_,q o⟩;have e:b=s1.heap.objs.size+1:=by rw[←hsz];simpa using hb
  subst e;exact I2.fpOk (le_succ _) (I2.hok.fresh (le_succ _))
end
theorem jH:entryFor table "dict_valueiterator.__iter__"=some Builtin.«dict_keyiterator.__iter__» :=
 entryFor_alias (id':="dict_keyiterator.__iter__") (by kernel_rfl) rfl (by decide +kernel) (by kernel_rfl)
def Itv(d:Addr)(o:Obj)(kvs:List (Key×V)):It :=
 ⟨λi H=>H d=some (.frz o (.dK kvs))∧i<kvs.length,λi H v H'=>H'=H∧∃kv,kvs[i]?=some kv∧v=kv.2,λi H=>H d=some (.frz o (.dK kvs))∧kvs.length≤i⟩
theorem qN{P:Program}{w:World}{K:PySem.W.Frag}{tg:Expr}{d it:Addr}{o:Obj}{kvs:List (Key×V)}{des:Array DictEntry}{ep:Nat}(hd:o.data=.dict des ep):
  Turn P w K tg (Itv d o kvs) [it] it (λi h=>h.IsValIter it d i kvs.length ep) where
 mem:=by simp
 obj:=λi h st b hb=>by
  have e:b=it:=by simpa using hb
  subst e;obtain⟨o,e,c,d⟩:=st;exact⟨o,e,λv z=>by rw[d]at z;cases z⟩
 keep:=λi h h' st k=>by
  obtain⟨o,e,r⟩:=st;exact⟨o,k it (by simp) _ e,r⟩
 item:=by
  intro X hP hw hK hc i pins s σ H E I hf st hg;subst hP hw hK;obtain⟨hH,hi⟩:=hg;obtain⟨vs,rel,da⟩:=lu I hd hH;obtain⟨f0,f1,f2,f3,f4,f5⟩:=hf it (by simp);have hl:kvs.length=vs.length:=rel.length;obtain⟨⟨k,v⟩,hq⟩:∃q,vs[i]?=some q:=⟨vs[i]'(by omega),getElem?_eq_getElem (by omega)⟩;obtain⟨kv,hkv,ek,rv⟩:=vM rel hq;rw[hl]at st;refine wpAny_pyNext_values_item st da hq λh' st' sb=>?_;have I1:Inv X pins σ H {s with heap:=h'}:=I.turned (t':=s.toks) (λb o hb e=>(sb.2 b hb).trans e) f0 f1 f3 f4 f5
  obtain⟨oi,e,c,dd⟩:=id st';exact⟨_,rfl,lK (s:={s with heap:=h'}) e c dd (by decide) ⟨kv.2,H,I1,rv,⟨rfl,kv,hkv,rfl⟩,by rw[hl];exact st',λb hb=>(hf b hb).1⟩⟩
 done:=by
  intro X hP hw hK hc i pins s σ H E I hf st hg;subst hP hw hK;obtain⟨hH,hi⟩:=hg;obtain⟨vs,rel,da⟩:=lu I hd hH;obtain⟨f0,f1,f2,f3,f4,f5⟩:=hf it (by simp);have hl:kvs.length=vs.length:=rel.length;rw[hl]at st;exact wpAny_pyNext_values_end (I.ok.hd hc) st da (getElem?_eq_none (by omega)) λh' eb=>⟨rfl,I.turned (t':=s.toks) (λb o hb e=>eb b o hb e) f0 f1 f3 f4 f5⟩
 self:=λA i s Q E st hq=>by
  have hT:s.TypeIs (.ref it) "dict_valueiterator":=st.typeIs;refine wpAny_pyIter_slot hT PySem.F.slot_dict_valueiterator_iter (wpAny_call_entry PySem.F.slot_dict_valueiterator_iter hT jH ?_ (PySem.F.args_dict_valueiterator_iter_1 _));show wpAny _ _ (ret (.ref it)) _ _ s;exact wpAny_pure ⟨_,rfl,"dict_valueiterator",_,hT,PySem.F.slot_dict_valueiterator_next.lookup,hq⟩
section
variable{X:Cx}{tg:Expr}
def yt(td:TE):TI:=λσ H R=>td σ H λv H1=>∃d kvs,v=.ref d∧H1 d=some (.dK kvs)∧∀o,R (Itv d o kvs) (upd H1 d (.frz o (.dK kvs)))
theorem va{e:Expr}{te:TE}{apos cpos:Pos}(he:PE X e te)(hbase:attributeBase e "values" X.env (eval e X.env)=eval e X.env:=by rfl)(hline:(apos.endLine==cpos.line)=true:=by rfl):
  PI X tg (.Call (.Attribute e "values" apos) [] [] cpos) (yt te):=by
 intro pins s σ H R I h;refine wpAny_Call_method0_late hbase hline (thn (he pins s σ H _ I h) λv s1 hpt=>?_);obtain⟨x,H1,I1,r1,q1⟩:=hpt;obtain⟨d,kvs,rfl,hH,q⟩:=q1;cases r1;obtain⟨hz,hsm,vs,rel,o,es,ep,ho,hx,hd,hk,hp,hn⟩:=I1.hok d _ hH;have I2:Inv X pins σ (upd H1 d (.frz o (.dK kvs))) s1:=I1.write (t':=s1.toks) (x:=d) (e:=d) (by rw[hH];trivial) (.inl rfl) (λ_ _ _ q=>q) ⟨o,ho⟩ ⟨ho,hz,hsm,vs,rel,o,es,ep,ho,hx,hd,hk,hp,hn⟩;have dd:s1.heap.DictOf (ap X.prog X.w) d vs:=⟨o,es,ep,ho,hx,hd,hk,hp,hn⟩;have da:s1.heap.DictAt (ap X.prog X.w) d vs ep:=⟨o,es,ho,hx,hd,hk,hp,hn⟩;have hT:s1.TypeIs (.ref d) "dict":=dd.typeIs;refine⟨"dict","dict.values",plainAttrs_dict,slot_dict_values,PySem.F.type_dict_values,hT,?_,callWith_builtin rfl (PySem.evalArgs_none ?_)⟩
 ·intro a ea;cases ea;exact⟨o,ho,hx.2.1⟩
 ·show wpAny _ _ (call (.builtin "dict.values") [.ref d]) _ _ _;have key:∀(Q:Value→Shared→Prop)(E:Value→Shared→Prop),Q (.ref s1.heap.objs.size) {s1 with heap:=s1.heap.push {cls:=.type "dict_values",data:=.fields #[.ref d]}}→wpAny (model X.prog X.w) X.A (call (.builtin "dict.values") [.ref d]) Q E s1:=λQ E hq =>
   wpAny_call (codeAny_call_builtin slot_dict_values.plain PySem.F.entry_dict_values (slot_dict_values.check _ _ _ _ _ _ _ _ hT (PySem.F.args_dict_values_1 _) (meets_dict_values (ap X.prog X.w) d hsm X.A (wants Q E) s1 ⟨⟨vs,dd⟩,hq⟩)))
  refine key _ _ ?_;have hsz:(s1.heap.push {cls:=.type "dict_values",data:=.fields #[.ref d]}).objs.size=s1.heap.objs.size+1:=size_push' ..;refine wpAny_pyIter_values (knd:=ap X.prog X.w) (d:=d) (kvs:=vs) (ep:=ep) ⟨_,get?_push_size _ rfl,rfl,rfl⟩ (da.push _) ?_;refine⟨(s1.heap.push {cls:=.type "dict_values",data:=.fields #[.ref d]}).objs.size,[(s1.heap.push {cls:=.type "dict_values",data:=.fields #[.ref d]}).objs.size],_,_,upd H1 d (.frz o (.dK kvs)),rfl,I2.kept (t':=s1.toks) λb o e=>get?_push_of_some _ (get?_push_of_some _ e),qN hd,⟨_,get?_push_size _ rfl,rfl,by rw[rel.length];rfl⟩,λb hb=>?_,q o⟩;have e:b=s1.heap.objs.size+1:=by rw[←hsz];simpa using hb
  subst e;exact I2.fpOk (le_succ _) (I2.hok.fresh (le_succ _))
theorem sP{d:Addr}{o:Obj}{kvs:List (Key×V)}{g:TG}{tb:TS}{D:Ends}{σ:St}{H:Hp}(Pv:Nat→St→Hp→Prop)(h0:Pv 0 σ H)(hl:∀i σ H,i≤kvs.length→Pv i σ H→H d=some (.frz o (.dK kvs)))(hs:∀i kv σ H,kvs[i]?=some kv→Pv i σ H→g kv.2 σ H λσ2 H2=>tb {D with nx:=Pv (i+1),ct:=Pv (i+1),bk:=D.nx} σ2 H2)(hd:∀σ H,Pv kvs.length σ H→D.nx σ H):
  ∃W:Nat→Nat→St→Hp→Prop,(∃m,W 0 m σ H)∧∀i m σ H,W i m σ H →
   ((Itv d o kvs).stop i H∧D.nx σ H)∨((Itv d o kvs).go i H∧∃N:St→Hp→Prop,(∀σ' H',N σ' H'→∃m',m'<m∧W (i+1) m' σ' H')∧∀x H',(Itv d o kvs).yld i H x H'→g x σ H' λσ2 H2=>tb {D with nx:=N,ct:=N,bk:=D.nx} σ2 H2):=by
 refine⟨λi m σ H=>m=kvs.length-i∧i≤kvs.length∧Pv i σ H,⟨kvs.length,by simp,zero_le _,h0⟩,?_⟩;rintro i m σ H ⟨rfl,hi,hP⟩
 by_cases hlt:i<kvs.length
 ·refine .inr ⟨⟨hl i σ H hi hP,hlt⟩,Pv (i+1),λσ' H' hP'=>⟨kvs.length-(i+1),by omega,rfl,hlt,hP'⟩,?_⟩;rintro x H' ⟨rfl,kv,hkv,rfl⟩;exact hs i kv σ H' hkv hP
 ·have e:i=kvs.length:=by omega
  subst e;exact .inl ⟨⟨hl _ σ H hi hP,le_refl _⟩,hd σ H hP⟩
end
theorem sQ{k:Nat}{js:List Nat}{g:TG}{tc:TT}{te:TE}{σ:St}{H1:Hp}{Q:VK}{p d:Addr}{o:Obj}{fr:List (Option V)}(zs:List (Key×V))(hn:zs.length≤1000)(hp:H1 p=none)(hd:H1 d=some (.frz o (.dK zs)))(hfr:∃σ0:St,σ0.length=k∧cp k js σ=σ0++fr)(gd:Key×V→Bool)(R:Key×V→V→Hp→Prop)(hR:∀z y H H',R z y H→Ext p H H'→R z y H')(elt:∀z q (σ0:St) H' (kk:St→VK) (kn:St→Hp→Prop),σ0.length=k→z∈zs→Same H1 H'→(∃ys,H' p=some (.lst ys))→H' q=some (.tup [kV z.1,z.2])→(∀σ2 y H4,(∃σ0':St,σ0'.length=k∧σ2=σ0'++fr)→Same H' H4→gd z=true→R z y H4→kk σ2 y H4)→(∀σ2 H4,(∃σ0':St,σ0'.length=k∧σ2=σ0'++fr)→Same H' H4→gd z=false→kn σ2 H4)→g (.ref q) (σ0++fr) H' λσ2 H3=>tc σ2 H3 λb H4=>if b=true then te σ2 H4 (kk σ2)else kn σ2 H4)(fin:∀ys H',Same H1 H'→H' p=some (.lst ys)→Paired (λz y=>R z y H') (zs.filter gd) ys→Q (.ref p) H'):nU k js g tc te σ Q (Iti d o zs) H1 p:=by
 have grow:∀{as:List (Key×V)}{ys:List V}{H H':Hp},Ext p H H'→Paired (λz y=>R z y H) as ys→Paired (λz y=>R z y H') as ys:=λex r=>Paired.mapP r λa b h=>hR a b _ _ h ex;have hlen:∀{as:List (Key×V)}{ys:List V}{H:Hp},Paired (λz y=>R z y H) as ys→ys.length=as.length:=λr=>(Paired.length r).symm;refine⟨λi m ys σ' H'=>m=zs.length-i∧i≤zs.length∧(∃σ0:St,σ0.length=k∧σ'=σ0++fr)∧Same H1 H'∧H' p=some (.lst ys)∧Paired (λz y=>R z y H') ((zs.take i).filter gd) ys,⟨zs.length,by simp,zero_le _,hfr,ae hp,ac,.nil⟩,?_⟩;rintro i m ys σ' H' ⟨rfl,hi,⟨σ0,hσ0,rfl⟩,s1,hl,hys⟩
 by_cases hlt:i<zs.length
 ·refine .inr ⟨⟨s1 _ _ hd,hlt⟩,?_,λx H2 hy=>?_⟩
  ·have h1:ys.length≤zs.length:=by
    rw[hlen hys];exact le_trans (length_filter_le _ _) (by rw[length_take];omega)
   exact lt_of_le_of_lt h1 (ay hn)
  ·obtain⟨q,z,hq,rfl,gz,rfl⟩:=hy;have mz:=mem_of_getElem? gz;have et:zs.take (i+1)=zs.take i++[z]:=aP gz;have s2:=ae (o:=.tup [kV z.1,z.2]) hq;have s12:=s1.trans s2;have hl2:=s2 _ _ hl;refine elt z q σ0 _ _ (λσ2 H4=>∃m',m'<zs.length-i∧_) hσ0 mz s12 ⟨ys,hl2⟩ ac (λσ2 y H5 hσ2 s5 hb r5=>⟨s5 _ _ hl2,zs.length-(i+1),by omega,rfl,hlt,hσ2,aI hp (s12.trans s5),ac,?_⟩) (λσ2 H4 hσ2 s4 hb=>⟨zs.length-(i+1),by omega,rfl,hlt,hσ2,s12.trans s4,s4 _ _ hl2,?_⟩)
   ·rw[et,filter_append,filter_cons_of_pos hb];exact Paired.snoc (grow ((Ext.of (s2.trans s5)).trans Ext.upd) hys) (hR _ _ _ _ r5 Ext.upd)
   ·rw[et,filter_append,filter_cons_of_neg (by simp[hb]),filter_nil,append_nil];exact grow (Ext.of (s2.trans s4)) hys
 ·have e:i=zs.length:=by omega
  subst e;refine .inl ⟨⟨s1 _ _ hd,le_refl _⟩,fin ys H' s1 hl ?_⟩;rw[take_length]at hys;exact hys
end L2
namespace PySem
open Sem (wp)
open AutoSeq1 (wpAny_loadPart')
theorem EN.typeCall(a b:Value):checkTypeCall "enumerate" ⟨[a],[("start",b)]⟩=pure ():=by kernel_rfl
def EN.HI(i:Int):Prop:=0≤i∧i≤1000
theorem EN.newCall(a b:Value):checkBuiltinCall "enumerate.__new__" ⟨[.type "enumerate",a],[("start",b)]⟩=pure ():=by kernel_rfl
theorem EN.initArgs(o a b:Value):argsOk "object.__init__" ⟨[o,a],[("start",b)]⟩:=by unfold argsOk;kernel_rfl
open AutoSeq1 (wpAny_loadPart')
theorem EN.new(l:Addr)(items:Array Value)(n:Nat)(dct:Option Addr)(sl:Array (Option Value))(i:Int)(t:Tok)(hi:EN.HI i):
  Meets (Builtin.«enumerate.__new__» ⟨[.type "enumerate",.ref l],[("start",.int i t)]⟩) (λ_ R s=>s.heap.get? l=some {cls:=.type "list",dict:=dct,data:=.seq items n,slots:=sl} ∧
   R (.ok (.ret (.ref (s.heap.push {cls:=.type "list_iterator",data:=.fields #[.ref l,.int 0 0]}).objs.size)))
    {s with heap:=(s.heap.push {cls:=.type "list_iterator",data:=.fields #[.ref l,.int 0 0]}).push {cls:=.type "enumerate",data:=.fields #[.none,.bool false,.ref s.heap.objs.size,rawInt i,.none,.none]}}) :=
 .of_wp λprog w A R s h=>by
  obtain⟨hp,g,d,tk,os⟩:=s;obtain⟨hl,h⟩:=h;have hsub:=sub_enumerate;have hL:Heap.IsList (Shared.heap ⟨hp,g,d,tk,os⟩) l items:=⟨_,hl,rfl,n,rfl⟩
  wp_walk using wpAny_loadPart' hl
  have hf:Builtin.SmallTypes.fitsIndex i=true:=by
   unfold Builtin.SmallTypes.fitsIndex;obtain⟨h0,h1⟩:=hi;have e1:decide (-(2 ^ 63:Int)≤i)=true:=decide_eq_true (by omega);have e2:decide (i<(2 ^ 63:Int))=true:=decide_eq_true (by omega);rw[e1,e2];rfl
  refine wpAny_stack_any λst=>wpAny_pure ?_
  split
  ·rename_i c _ _ _ _ _
   cases (c==type "enumerate")
   ·wp_walk using wpAny_loadPart' hl,wpAny_pyIter_list hL
    exact⟨_,rfl,h⟩
   ·wp_walk using wpAny_loadPart' hl,wpAny_pyIter_list hL
    exact⟨_,rfl,h⟩
  ·wp_walk using wpAny_loadPart' hl,wpAny_pyIter_list hL
   exact⟨_,rfl,h⟩
theorem EN.init{self a b:Value}(hl:typeLookup (.type "enumerate") "__init__"=pure (some (.builtin "object.__init__")))(hm:Bind.madeBy (.type "enumerate")=pure (some "enumerate.__new__"))(hne:(some "enumerate.__new__" != some "object.__new__")=true):
  Meets (Builtin.«object.__init__» ⟨[self,a],[("start",b)]⟩) (λ_ R s=>s.TypeIs self "enumerate"∧R (.ok (.ret .none)) s):=by
 refine Meets.of_wp λprog w A R s hs=>?_;obtain⟨hT,hq⟩:=hs
 repeat (any_goals (first|assumption|wp_step))
 exact⟨_,rfl,hq⟩
theorem EN.call{prog:Program}{w:World}{A:Around}{E:Value→Shared→Prop}{s:Shared}{l:Addr}{items:Array Value}{i:Int}{t:Tok}{Q:Value→Shared→Prop}(hi:EN.HI i)(hL:s.heap.IsList l items)(h:∀h',IsEnum h' (s.heap.objs.size+1) s.heap.objs.size i .none→h'.IsListIter s.heap.objs.size l 0→h'.objs.size=s.heap.objs.size+2 →
   (∀b o,s.heap.get? b=some o→h'.get? b=some o)→Q (.ref (s.heap.objs.size+1)) {s with heap:=h'}):
  wpAny (model prog w) A (call (.type "enumerate") [.ref l] [("start",.int i t)]) Q E s:=by
 obtain⟨⟨c,dct,dt,sl⟩,hl,hc,n,hd⟩:=hL
 replace hc:c=.type "list":=hc
 replace hd:dt=.seq items n:=hd
 subst hc hd;have ft:=F.called_enumerate;obtain⟨c,tl,hmro⟩:=ft.mro;have hmade:=ft.made;have hsub:=ft.sub;have hct:=EN.typeCall (.ref l) (.int i t);refine wpAny_call (codeAny_of_tree ?_);show wpAny _ _ (callAny (.type "enumerate") _) _ _ _;refine wpAny_pure ⟨Code.quiet_builtin _ (by decide +kernel),codeAny_builtin F.entry_type_call ?_⟩;rw[Around.under_plain (weight_type_call_type "enumerate" _ _) (units_type_call_type "enumerate" _ _)];have h1:=ft.notType;have h2:=ft.canCreate
 repeat (any_goals (first|assumption|wp_step))
 have hz:(s.heap.push {cls:=.type "list_iterator",data:=.fields #[.ref l,.int 0 0]}).objs.size=s.heap.objs.size+1:=size_push ..;have he:IsEnum ((s.heap.push {cls:=.type "list_iterator",data:=.fields #[.ref l,.int 0 0]}).push
   {cls:=.type "enumerate",data:=.fields #[.none,.bool false,.ref s.heap.objs.size,rawInt i,.none,.none]}) (s.heap.objs.size+1) s.heap.objs.size i .none:=by
  have:=get?_push_size (s.heap.push {cls:=.type "list_iterator",data:=.fields #[.ref l,.int 0 0]})
   (o:={cls:=.type "enumerate",data:=.fields #[.none,.bool false,.ref s.heap.objs.size,rawInt i,.none,.none]}) rfl
  rw[hz]at this;exact this
 refine codeAny_mono (codeAny_call_builtin ft.plain F.entry_enumerate_new (wpAny_of_eq (EN.newCall (.ref l) (.int i t)) (EN.new l items n dct sl i t hi prog w A.in1 (wants (λobj s₁=>s₁.TypeIs obj "enumerate"∧Q obj s₁) E) s ⟨hl,?_⟩))) λr s₁ hr=>?_
 ·show _∧_;rw[hz];exact⟨⟨_,he,rfl⟩,h _ he ⟨_,get?_push_of_some _ (get?_push_size _ rfl),rfl,rfl⟩ (by rw[size_push,hz]) λb o x=>get?_push_of_some _ (get?_push_of_some _ x)⟩
 ·cases r with
  |error e=>exact hr
  |ok fl =>
   cases fl with
   |ret obj =>
    obtain⟨hT,hq⟩:=hr;have hli:=ft.init.lookup;have hbi:=ft.init.bind obj
    repeat (any_goals (first|assumption|wp_step))
    refine codeAny_mono (codeAny_call_builtin ft.init.plain F.entry_object_init (ft.init.check _ _ _ _ _ _ _ _ hT (EN.initArgs obj (.ref l) (.int i t)) ((EN.init ft.init.lookup ft.made (by decide)) prog w A.in1 (wants (λr s₂=>r=.none∧Q obj s₂) E) s₁ ⟨hT,rfl,hq⟩))) λr₂ s₂ hr₂=>?_;cases r₂ with
    |error e=>exact hr₂
    |ok fl₂ =>
     cases fl₂ with
     |ret r =>
      obtain⟨rfl,hq⟩:=hr₂
      repeat (any_goals (first|assumption|wp_step))
     |_=>exact hr₂.elim
   |_=>exact hr.elim
section
variable{prog:Program}{w:World}{A:Around}{E:Value→Shared→Prop}{s:Shared}
theorem EN.next{e it l:Addr}{i:Nat}{c:Int}{items:Array Value}{x old:Value}{Q:Option Value→Shared→Prop}(he:IsEnum s.heap e it c old)(hit:s.heap.IsListIter it l i)(hl:s.heap.IsList l items)(hx:items[i]?=some x)(hne:e≠it)(hQ:∀h',IsEnumOut h' e it (c+1) x s.heap.objs.size→h'.IsListIter it l (i+1) →
   h'.get? s.heap.objs.size=some {cls:=.type "tuple",data:=.seq #[.int c s.toks,x]}→h'.objs.size=s.heap.objs.size+1 →
   (∀b o,b≠e→b≠it→s.heap.get? b=some o→h'.get? b=some o)→Q (some (.ref s.heap.objs.size)) {s with heap:=h',toks:=s.toks+1}):
  wpAny (model prog w) A (pyNext (.ref e)) Q E s:=by
 have hT:s.TypeIs (.ref e) "enumerate":=⟨_,he,rfl⟩;unfold pyNext;refine wpAny_bind (wpAny_attempt (wpAny_callSpecial?_slot (name:=ofString "__next__") hT F.slot_enumerate_next (wpAny_call_entry F.slot_enumerate_next hT F.entry_enumerate_next ?_ (F.args_enumerate_next_1 _))));obtain⟨hp,g,d,tk,os⟩:=s;show wpAny _ _ (field (.ref e) 2 >>= _) _ _ _;refine wpAny_bind (wpAny_field he rfl (x:=.ref it) rfl (wpAny_bind (wpAny_nextOf_list_item hit hl hx λh1 it1 sb1=>?_)))
 replace sb1:SameBut it hp h1:=sb1
 have e1:IsEnum h1 e it c old:=(sb1.2 e hne).trans he;show wpAny _ _ (field (.ref e) 3 >>= _) _ _ ⟨h1,g,d,tk,os⟩;refine wpAny_bind (wpAny_field e1 rfl (x:=rawInt c) rfl ?_);show wpAny _ _ (field (.ref e) 4 >>= _) _ _ ⟨h1,g,d,tk,os⟩;refine wpAny_bind (wpAny_field e1 rfl (x:=.none) rfl ?_);show wpAny _ _ (mkInt c >>= _) _ _ ⟨h1,g,d,tk,os⟩;refine wpAny_bind (wpAny_mkInt ?_);show wpAny _ _ (setField (.ref e) 3 (rawInt (c+1)) >>= _) _ _ ⟨h1,g,d,tk+1,os⟩;refine wpAny_bind (wpAny_setField_rec e1 (by simp) λh2 e2 sb2=>?_)
 replace sb2:SameBut e h1 h2:=sb2
 replace e2:IsEnum h2 e it (c+1) old:=e2
 show wpAny _ _ (setField (.ref e) 4 .none >>= _) _ _ ⟨h2,g,d,tk+1,os⟩;refine wpAny_bind (wpAny_setField_rec e2 (by simp) λh3 e3 sb3=>?_)
 replace sb3:SameBut e h2 h3:=sb3
 replace e3:IsEnum h3 e it (c+1) old:=e3
 have z3:h3.objs.size=hp.objs.size:=by rw[sb3.1,sb2.1,sb1.1]
 have it3:h3.IsListIter it l (i+1):=(it1.extBut sb2.extBut (symm hne)).extBut sb3.extBut (symm hne);have k3:∀b o,b≠e→b≠it→hp.get? b=some o→h3.get? b=some o:=λb o n1 n2 hb=>sb3.extBut b o n1 (sb2.extBut b o n1 (sb1.extBut b o n2 hb));show wpAny _ _ (newTuple [.int c tk,x] >>= _) _ _ ⟨h3,g,d,tk+1,os⟩;refine wpAny_bind (wpAny_newTuple ?_);have e4:IsEnum (h3.push {cls:=.type "tuple",data:=.seq #[.int c tk,x]}) e it (c+1) old:=get?_push_of_some _ e3;have t4:(h3.push {cls:=.type "tuple",data:=.seq #[.int c tk,x]}).get? hp.objs.size=some {cls:=.type "tuple",data:=.seq #[.int c tk,x]}:=by rw[←z3];exact get?_push_size _ rfl
 have z4:(h3.push {cls:=.type "tuple",data:=.seq #[.int c tk,x]}).objs.size=hp.objs.size+1:=by rw[size_push,z3]
 have k4:∀b o,h3.get? b=some o→(h3.push {cls:=.type "tuple",data:=.seq #[.int c tk,x]}).get? b=some o:=λb o hb=>get?_push_of_some _ hb;rw[z3];generalize h3.push {cls:=.type "tuple",data:=.seq #[.int c tk,x]}=h4 at e4 t4 z4 k4⊢;have ne4:hp.objs.size≠e:=ne_of_gt (lt_size he);show wpAny _ _ (Builtin.SmallTypes.ownedTupleIsFree (.ref e) >>= _) _ _ ⟨h4,g,d,tk+1,os⟩;refine wpAny_bind ?_;unfold Builtin.SmallTypes.ownedTupleIsFree;refine wpAny_bind (wpAny_field e4 rfl (x:=.none) rfl (wpAny_pure ?_));simp only[if_true];refine wpAny_bind (wpAny_rule (wpAny_bind (wpAny_field e4 rfl (x:=old) rfl (wpAny_bind (wpAny_setField_rec e4 (by simp) λh5 e5 sb5=>?_)))))
 replace sb5:SameBut e h4 h5:=sb5
 replace e5:IsEnum h5 e it (c+1) x:=e5
 show wpAny _ _ (Builtin.SmallTypes.ownedTupleHandOut (.ref e) (.ref hp.objs.size) >>= _) _ _ ⟨h5,g,d,tk+1,os⟩;refine wpAny_bind ?_;unfold Builtin.SmallTypes.ownedTupleHandOut;refine wpAny_bind (wpAny_setField_rec e5 (by simp) λh6 e6 sb6=>?_)
 replace sb6:SameBut e h5 h6:=sb6
 replace e6:IsEnumOut h6 e it (c+1) x hp.objs.size:=e6
 refine wpAny_setField_rec e6 (by simp) λh7 e7 sb7=>?_
 replace sb7:SameBut e h6 h7:=sb7
 replace e7:IsEnumOut h7 e it (c+1) x hp.objs.size:=e7
 have up:∀b o,b≠e→h4.get? b=some o→h7.get? b=some o:=λb o n hb=>sb7.extBut b o n (sb6.extBut b o n (sb5.extBut b o n hb));refine wpAny_bind (wpAny_letGo (wpAny_pure ⟨_,rfl,wpAny_pure (hQ h7 e7 ?_ (up _ _ ne4 t4) (by rw[sb7.1,sb6.1,sb5.1,z4]) λb o n1 n2 hb=>up b o n1 (k4 b o (k3 b o n1 n2 hb)))⟩));obtain⟨o,ho,r⟩:=it3;exact⟨o,up _ _ (symm hne) (k4 _ _ ho),r⟩
theorem EN.stop{e it l:Addr}{i:Nat}{c:Int}{items:Array Value}{old:Value}{Q:Option Value→Shared→Prop}(hh:A.handled=none)(he:IsEnum s.heap e it c old)(hit:s.heap.IsListIter it l i)(hl:s.heap.IsList l items)(hx:items[i]?=none)(hQ:∀h',ExtBut it s.heap h'→Q none {s with heap:=h'}):wpAny (model prog w) A (pyNext (.ref e)) Q E s:=by
 have hT:s.TypeIs (.ref e) "enumerate":=⟨_,he,rfl⟩;unfold pyNext;refine wpAny_bind (wpAny_attempt (wpAny_callSpecial?_slot (name:=ofString "__next__") hT F.slot_enumerate_next (wpAny_call_entry F.slot_enumerate_next hT F.entry_enumerate_next ?_ (F.args_enumerate_next_1 _))));show wpAny _ _ (field (.ref e) 2 >>= _) _ _ _;refine wpAny_bind (wpAny_field he rfl (x:=.ref it) rfl (wpAny_bind (wpAny_nextOf_list_end hh hit hl hx λh' x he' hpt=>?_)));obtain⟨o,ho,hc⟩:=hpt;exact wpAny_bind (wpAny_isInstance (T:="StopIteration") (b:=true) ⟨o,ho,hc⟩ isSubtype_stop (wpAny_pure (hQ _ he')))
end
end PySem
namespace L2
open PySem PySem.Spec PyProof.Rows
section
variable{X:Cx}{tg:Expr}
def Ite(K:PySem.W.Frag)(a:Addr)(c0:Int):It :=
 ⟨λi H=>∃xs x,SqL K H a xs∧xs[i]?=some x,λi H v H'=>∃p x,H p=none∧v=.ref p∧(∀xs,SqL K H a xs→xs[i]?=some x)∧H'=upd H p (.tup [.int (c0+i),x]),λi H=>∃xs,SqL K H a xs∧xs.length≤i⟩
theorem jZ{P:Program}{w:World}{K:PySem.W.Frag}{es:List Expr}{k:Nat}{p0:Pos}(e it a:Addr)(c0:Int)(nei:e≠it):
  Turn P w K (.Tuple es k p0) (Ite K a c0) [e,it] e (λi h=>(∃old,IsEnum h e it (c0+i) old)∧h.IsListIter it a i) where
 mem:=by simp
 obj:=λi h R c hc=>by
  obtain⟨⟨old,z1⟩,o2,z2,_,z2'⟩:=R;simp only[mem_cons,not_mem_nil,or_false]at hc;rcases hc with rfl|rfl
  ·exact⟨_,z1,λv z=>nomatch z⟩
  ·exact⟨_,z2,λv z=>by rw[z2']at z;cases z⟩
 keep:=λi h h' R kp=>by
  obtain⟨⟨old,z1⟩,o2,z2,r2⟩:=R;exact⟨⟨old,kp _ (by simp) _ z1⟩,o2,kp _ (by simp) _ z2,r2⟩
 item:=by
  intro X hP hw hK hc i pins s σ H E I hf st hg;subst hP hw hK;obtain⟨xs,x,hq,hx⟩:=hg;obtain⟨its,rv,k1,_⟩:=I.list hq;obtain⟨u1,hu1,ru1⟩:=rv.get hx;obtain⟨⟨old,he⟩,hit⟩:=st;refine EN.next he hit k1.isList (x:=u1) (by simpa using hu1) nei λg ho hit' new hsz kp=>⟨_,rfl,?_⟩;refine wpAny_letOwnedTupleGo_enum ho λg' z' sb=>?_;have nz:s.heap.objs.size≠e:=ne_of_gt (lt_size he);have kpO:∀c o,c∉[e,it]→s.heap.get? c=some o→g'.get? c=some o:=λc o hn q=>(sb.2 c λz=>hn (by simp[z])).trans (kp c o (λz=>hn (by simp[z])) (λz=>hn (by simp[z])) q);have hnot:∀c o,H c=some o→c∉[e,it]:=λc o q hm=>by rw[(hf c hm).1]at q;cases q
  have nsz:∀c o,s.heap.get? c=some o→c≠s.heap.objs.size:=λc o q=>ne_of_lt (lt_size q);have trk:∀c o,H c=some o→c≠s.heap.objs.size:=λc o q=>ne_of_lt (I.hok.lt q);have new':g'.get? s.heap.objs.size=some {cls:=.type "tuple",data:=.seq #[.int (c0+i) s.toks,u1]}:=(sb.2 _ nz).trans new;have R2:(∃old,IsEnum g' e it (c0+((i+1:Nat):Int)) old)∧g'.IsListIter it a (i+1):=by
   refine⟨⟨u1,?_⟩,?_⟩
   ·have:c0+((i+1:Nat):Int)=c0+i+1:=by omega
    rw[this];exact z'
   ·obtain⟨o,h1,h2⟩:=hit';exact⟨o,(sb.2 it (symm nei)).trans h1,h2⟩
  have okH:HOk X.prog X.w (upd H s.heap.objs.size (.tup [.int (c0+i),x])) g':=λc o q=>by
   by_cases ec:c=s.heap.objs.size
   ·subst ec;rw[ac]at q;cases q;exact⟨by show 2≤sizeLine;rw[sizeLine_eq];decide,[.int (c0+i) s.toks,u1],.cons ⟨_,rfl⟩ (.cons ru1 .nil),⟨_,new',rfl,0,rfl⟩⟩
   ·rw[af ec]at q;refine(I.hok c o q).stay (λd v hd q'=>kpO d v ?_ q') (λd q'=>by rw[af (trk d _ q')];exact q') λd zs q'=>by rw[af (trk d _ q')];exact q'
    rcases hd with rfl|hd
    ·exact hnot _ _ q
    ·exact hnot _ _ hd
  have I2:Inv X pins σ (upd H s.heap.objs.size (.tup [.int (c0+i),x])) {s with heap:=g',toks:=s.toks+1}:=by
   refine I.step (g':=s.gens) (t':=s.toks+1) (d':=s.drawn) (ch:=[e,it]) (λc hc'=>?_) (λc o _ _ hn q _=>kpO c o hn q) (λc o _ _ hn q _=>⟨o.slots,kpO c o hn q⟩) (λc o _ q n=>by rw[af (nsz c o q)];exact n) (λc o hn q=>⟨o,kpO c o hn q⟩)
    (λc zs q=>by rw[af (trk c _ q)];exact q) (λc o u q=>by rw[af (trk c _ q)];exact q) (λc ps q=>⟨#[],by rw[af (trk c _ q),q];simp⟩) (λm hm=>?_) okH I.bare
   ·obtain⟨f0,f1,f2,f3,f4,f5⟩:=hf c hc';exact⟨f3,f1,f4,f5⟩
   ·obtain⟨o,es',ep,ho',r⟩:=hm;exact⟨o,es',ep,kpO _ o (λhm'=>(hf _ hm').2.1 rfl) ho',r⟩
  refine⟨.ref s.heap.objs.size,_,I2,rfl,⟨s.heap.objs.size,x,I.hok.fresh (le_refl _),rfl,λzs hz=>?_,rfl⟩,R2,λc hc'=>?_⟩
  ·rw[I.list_inj hz hq];exact hx
  ·obtain⟨o,q⟩:∃o,s.heap.get? c=some o:=by
    simp only[mem_cons,not_mem_nil,or_false]at hc';rcases hc' with rfl|rfl
    ·exact⟨_,he⟩
    ·obtain⟨o,h1,_⟩:=hit;exact⟨o,h1⟩
   rw[af (nsz c o q)];exact(hf c hc').1
 done:=by
  intro X hP hw hK hc i pins s σ H E I hf st hg;subst hP hw hK;obtain⟨xs,hq,hle⟩:=hg;obtain⟨its,rv,k1,_⟩:=I.list hq;have e1:=rv.length;obtain⟨⟨old,he⟩,hit⟩:=st;refine EN.stop (I.ok.hd hc) he hit k1.isList (Array.getElem?_eq_none (by simp;omega)) λg kp=>⟨rfl,?_⟩;have kpO:∀c o,c∉[e,it]→s.heap.get? c=some o→g.get? c=some o:=λc o hn q=>kp c o (λz=>hn (by simp[z])) q;have hnot:∀c o,H c=some o→c∉[e,it]:=λc o q hm=>by rw[(hf c hm).1]at q;cases q
  refine I.step (g':=s.gens) (t':=s.toks) (d':=s.drawn) (ch:=[e,it]) (λc hc'=>?_) (λc o _ _ hn q _=>kpO c o hn q) (λc o _ _ hn q _=>⟨o.slots,kpO c o hn q⟩) (λc o _ q n=>n) (λc o hn q=>⟨o,kpO c o hn q⟩)
   (λc zs q=>q) (λc o u q=>q) (λc ps q=>⟨#[],by rw[q];simp⟩) (λm hm=>?_) (λc o q=>?_) I.bare
  ·obtain⟨f0,f1,f2,f3,f4,f5⟩:=hf c hc';exact⟨f3,f1,f4,f5⟩
  ·obtain⟨o,es',ep,ho',r⟩:=hm;exact⟨o,es',ep,kpO _ o (λhm'=>(hf _ hm').2.1 rfl) ho',r⟩
  ·refine(I.hok c o q).stay (λd v hd q'=>kpO d v ?_ q') (λd q'=>q') λd zs q'=>q';rcases hd with rfl|hd
   ·exact hnot _ _ q
   ·exact hnot _ _ hd
 self:=λA i s Q E ⟨⟨old,he⟩,_⟩ hq=>wpAny_pyIter_enum he hq
theorem lw{M:Model}{A:Around}{env:Env}{E:Value→Shared→Prop}{s:Shared}{pos:Pos}{T:String}{e:Expr}{rest:List Expr}{kws:List Keyword}{Q:Value→Shared→Prop}(h:wpAny M A (spliced (backTo pos (starEach (e::rest) env))) (λvs s₁=>wpAny M A (evalAll ((backToKw pos (keywordEach kws env)).map (·.2)))
   (λkvs s₂=>wpAny M A (call (.type T) vs (((backToKw pos (keywordEach kws env)).filterMap (·.1)).zip kvs)) Q E s₂) E s₁) E s)(he:backTo pos (starEach (e::rest) env)=(false,eval e env)::backTo pos (starEach rest env))(hplain:(backTo pos (starEach (e::rest) env)).any (·.1)=false)(hall:(backToKw pos (keywordEach kws env)).all (·.1.isSome)=true)(hkw:(backToKw pos (keywordEach kws env)).any (·.1.isNone)=false):
  wpAny M A (callWith pos (.type T) [] (backTo pos (starEach (e::rest) env)) (backToKw pos (keywordEach kws env))) Q E s:=by
 unfold callWith;rw[he]at h⊢;rw[he]at hplain;refine wpAny_bind (wpAny_holding (wpAny_mono (evalArgs_kwB (f:=.type T) (Q:=λa s₁=>wpAny M A (call (.type T) ([]++a.pos) a.kw) Q E s₁) hall h) (λa s₁ h₁=>wpAny_bind (wpAny_standAt ?_)) λ_ _ x=>x));simp only[hplain,hkw,Bool.or_false];refine wpAny_bind (wpAny_pure ?_);exact wpAny_bind (wpAny_mono h₁ (λr s₂ hr=>wpAny_bind (wpAny_holding (wpAny_point (wpAny_pure hr)))) λ_ _ x=>x)
def enQ(td:TE)(σ:St)(R:It→Hp→Prop)(K:PySem.W.Frag):List V→Hp→Prop
 |[v],H1=>∃l xs,v=.ref l∧H1 l=some (.lst xs)∧td σ H1 λdv H2=>∃c:Int,dv=.int c∧0≤c∧c≤1000∧H2 l=some (.lst xs)∧R (Ite K l c) H2
 |_,_=>False
theorem sR{es:List Expr}{k:Nat}{p0:Pos}{p dpos pos:Pos}{e ed:Expr}{te td:TE}(hg:Gl X "enumerate")(hm:X.mg "enumerate"=none)(he:PE X e te)(hd:PE X ed td)(hse:starEach [e] X.env=(false,eval e X.env)::starEach [] X.env:=by rfl)(hpl:(backTo pos (starEach [e] X.env)).any (·.1)=false:=by rfl):
  PI X (.Tuple es k p0) (.Call (.Name "enumerate" p) [e] [⟨some "start",ed,dpos⟩] pos) (λσ H R=>te σ H λv H1=>enQ td σ R X.K [v] H1):=by
 intro pins s σ H R I h;refine wpAny_Call_Name_kw (dH I hg hm boot_enumerate ?_ (by decide) (by decide));refine lw ?_ (by rw[hse];rfl) hpl rfl rfl;refine thn (aa he ag hse pos pins s σ H (enQ td σ R X.K) I h) λus s1 hpt=>?_;obtain⟨vs,H1,I1,r,q0⟩:=hpt;obtain⟨v,rfl⟩:∃v,vs=[v]:=by
  match vs,q0 with
  |[v],_=>exact⟨v,rfl⟩
 obtain⟨l,xs,rfl,hl,q⟩:=q0;obtain⟨u,rfl,ru⟩:=cE r;cases ru;show wpAny _ _ (evalAll [(do let v ← eval ed X.env;standAt pos;pure v)]) _ _ s1;refine wpAny_evalAll_cons (wpAny_bind (thn (hd _ s1 σ H1 _ I1 q) λdu s3 ⟨dv,H2,J3,rd,c,ec,c0,c1,hl2,q1⟩=>wpAny_bind (wpAny_standAt (wpAny_pure (wpAny_evalAll_nil ?_)))));subst ec;obtain⟨t,rfl⟩:=rd;show wpAny _ _ (call (.type "enumerate") [.ref l] [("start",.int c t)]) _ _ s3;obtain⟨its,rv,k1,_⟩:=J3.list (SqL.of hl2);refine EN.call ⟨c0,c1⟩ k1.isList λh' hE hI hsz kp=>?_;refine wpAny_pyIter_enum hE ?_;have hs1:s3.heap.objs.size≤s3.heap.objs.size:=le_refl _;refine⟨s3.heap.objs.size+1,[s3.heap.objs.size+1,s3.heap.objs.size],_,Ite X.K l c,H2,rfl,J3.kept (t':=s3.toks) kp,jZ _ _ l c (Nat.succ_ne_self _),⟨⟨_,by rw[show c+((0:Nat):Int)=c by omega];exact hE⟩,hI⟩,λb hb=>?_,q1⟩;have hle:s3.heap.objs.size≤b:=by
  simp only[mem_cons,not_mem_nil,or_false]at hb;rcases hb with rfl|rfl
  ·exact Nat.le_add_right _ _
  ·exact le_refl _
 exact J3.fpOk hle (J3.hok.fresh hle)
end
theorem nv{K:PySem.W.Frag}{a:Addr}{c:Int}{xs:List V}{g:TG}{tb:TS}{D:Ends}{σ:St}{H:Hp}(Pv:Nat→St→Hp→Prop)(h0:Pv 0 σ H)(hl:∀i σ H,i≤xs.length→Pv i σ H→SqL K H a xs)(hs:∀i x σ H p,xs[i]?=some x→Pv i σ H→H p=none→g (.ref p) σ (upd H p (.tup [.int (c+i),x])) λσ2 H2=>tb {D with nx:=Pv (i+1),ct:=Pv (i+1),bk:=D.nx} σ2 H2)(hd:∀σ H,Pv xs.length σ H→D.nx σ H):
  ∃W:Nat→Nat→St→Hp→Prop,(∃m,W 0 m σ H)∧∀i m σ H,W i m σ H →
   ((Ite K a c).stop i H∧D.nx σ H)∨((Ite K a c).go i H∧∃N:St→Hp→Prop,(∀σ' H',N σ' H'→∃m',m'<m∧W (i+1) m' σ' H')∧∀x H',(Ite K a c).yld i H x H'→g x σ H' λσ2 H2=>tb {D with nx:=N,ct:=N,bk:=D.nx} σ2 H2):=by
 refine⟨λi m σ H=>m=xs.length-i∧i≤xs.length∧Pv i σ H,⟨xs.length,by simp,zero_le _,h0⟩,?_⟩;rintro i m σ H ⟨rfl,hi,p⟩;have q:=hl i σ H hi p
 by_cases hlt:i<xs.length
 ·refine .inr ⟨⟨xs,xs[i],q,by simp[hlt]⟩,Pv (i+1),λσ' H' p'=>⟨xs.length-(i+1),by omega,rfl,hlt,p'⟩,λv H' y=>?_⟩;obtain⟨pp,x,hp,rfl,hx,rfl⟩:=y;exact hs i x σ H pp (hx xs q) p hp
 ·have e:i=xs.length:=by omega
  subst e;exact .inl ⟨⟨xs,q,le_refl _⟩,hd σ H p⟩
end L2
namespace TG
open PySem L2 TK
def gv(xs:List (Int×V))(k:Int):List V:=(xs.filter λx=>decide (x.1=k)).map (·.2)
theorem gJ(xs:List (Int×V))(a k:Int)(v:V):gv (xs++[(a,v)]) k=if a=k then gv xs k++[v]else gv xs k:=by
 unfold gv;rw[filter_append]
 by_cases h:a=k
 ·rw[if_pos h,filter_cons_of_pos (by simpa using h),map_append];rfl
 ·rw[if_neg h,filter_cons_of_neg (by simpa using h)];simp
theorem xn(xs:List (Int×V))(k:Int):(gv xs k).length≤xs.length:=by
 unfold gv;rw[length_map];exact length_filter_le _ _
structure Grp(H0 H:Hp)(d:Addr)(L:Int→Addr)(ns:List Int)(xs:List (Int×V)):Prop where
 dict:H d=some (.dK (ns.map λk=>((Sum.inl k:Key),V.ref (L k))))
 d0:H0 d=none
 nd:ns.Nodup
 mem:∀k,k∈ns↔gv xs k≠[]
 at':∀k∈ns,H (L k)=some (.lst (gv xs k))∧H0 (L k)=none
 inj:∀k∈ns,∀k'∈ns,L k=L k'→k=k'
 same:Same H0 H
 len:ns.length≤xs.length
theorem lx{ns:List Int}{L:Int→Addr}{k:Int}:aN (ns.map λk=>((Sum.inl k:Key),V.ref (L k))) (Sum.inl k:Key)=if k∈ns then some (.ref (L k))else none:=by
 induction ns with
 |nil=>rfl
 |cons a r ih =>
  unfold aN at ih⊢;rw[map_cons,find?_cons]
  by_cases h:a=k
  ·subst h;simp
  ·have h1:decide ((Sum.inl a:Key)=Sum.inl k)=false:=by simp[h]
   have h2:(k∈a::r)↔k∈r:=by simp[symm h]
   simp only[h1,h2];exact ih
section
variable{H0 H H':Hp}{d:Addr}{L:Int→Addr}{ns:List Int}{xs:List (Int×V)}
theorem Grp.grow(m:Grp H0 H d L ns xs)(s:Same H H'):Grp H0 H' d L ns xs :=
 ⟨s _ _ m.dict,m.d0,m.nd,m.mem,λk hk=>⟨s _ _ (m.at' k hk).1,(m.at' k hk).2⟩,m.inj,m.same.trans s,m.len⟩
theorem Grp.start(h:H0 d=none):Grp H0 (upd H0 d (.dK [])) d (λ_=>d) [] [] :=
 ⟨ac,h,nodup_nil,λk=>by simp[gv],λk h=>(by cases h),λk h=>(by cases h),ae h,le_refl _⟩
theorem Grp.hit{k:Int}{v:V}(m:Grp H0 H d L ns xs)(hk:k∈ns):Grp H0 (upd H (L k) (.lst (gv xs k++[v]))) d L ns (xs++[(k,v)]):=by
 obtain⟨e1,e2⟩:=m.at' k hk;have hd:d≠L k:=λe=>by
  have:=m.dict;rw[e,e1]at this;cases this
 refine⟨by rw[af hd];exact m.dict,m.d0,m.nd,λj=>?_,λj hj=>⟨?_,(m.at' j hj).2⟩,m.inj,aI e2 m.same,by have:=m.len;rw[length_append];omega⟩
 ·rw[gJ,m.mem j]
  by_cases h:k=j
  ·subst h;rw[if_pos rfl];exact⟨λ_=>by simp,λ_=>(m.mem k).mp hk⟩
  ·rw[if_neg h]
 ·rw[gJ]
  by_cases h:k=j
  ·subst h;rw[if_pos rfl,ac]
  ·rw[if_neg h,af λe=>h (m.inj k hk j hj e.symm)];exact(m.at' j hj).1
theorem Grp.fresh{k:Int}{v:V}{q:Addr}(m:Grp H0 H d L ns xs)(hk:k∉ns)(hq:H q=none):
  Grp H0 (upd (upd (upd H q (.lst [])) d (.dK (br (ns.map λk=>((Sum.inl k:Key),V.ref (L k))) (Sum.inl k:Key) (.ref q)))) q (.lst ([]++[v]))) d (λj=>if j=k then q else L j) (ns++[k]) (xs++[(k,v)]):=by
 have hdq:d≠q:=λe=>by
  have:=m.dict;rw[e,hq]at this;cases this
 have lq:∀j∈ns,L j≠q:=λj h e=>by
  have:=(m.at' j h).1;rw[e,hq]at this;cases this
 have ld:∀j∈ns,L j≠d:=λj h e=>by
  have:=(m.at' j h).1;rw[e,m.dict]at this;cases this
 have q0:H0 q=none:=m.same.free hq;have g0:gv xs k=[]:=by
  cases e:gv xs k with
  |nil=>rfl
  |cons a r=>exact absurd ((m.mem k).mpr (by rw[e];simp)) hk
 have nk:∀j∈ns,j≠k:=λj h e=>hk (by rw[←e];exact h);refine⟨?_,m.d0,?_,λj=>?_,λj hj=>?_,λi hi j hj e=>?_,?_,by have:=m.len;rw[length_append,length_append];show ns.length+1≤xs.length+1;omega⟩
 ·rw[af hdq,ac,iU _ (by rw[lx,if_neg hk]),map_append];have e1:(ns.map λk=>((Sum.inl k:Key),V.ref (L k)))=ns.map λj=>((Sum.inl j:Key),V.ref (if j=k then q else L j)):=by
   apply map_congr_left;intro j hj;rw[if_neg (nk j hj)]
  have e2:[((Sum.inl k:Key),V.ref q)]=[k].map λj=>((Sum.inl j:Key),V.ref (if j=k then q else L j)):=by
   show _=[((Sum.inl k:Key),V.ref (if k=k then q else L k))];rw[if_pos rfl]
  rw[e1,e2]
 ·rw[nodup_append];exact⟨m.nd,by simp,λa ha b hb=>by
   have:b=k:=by simpa using hb
   subst this;exact nk a ha⟩
 ·rw[gJ,mem_append,m.mem j]
  by_cases h:k=j
  ·subst h;rw[if_pos rfl];exact⟨λ_=>by simp,λ_=>.inr (by simp)⟩
  ·rw[if_neg h];have:j∉[k]:=by simp[symm h]
   simp[this]
 ·rcases mem_append.mp hj with hj|hj
  ·have hn:=nk j hj;rw[if_neg hn];refine⟨?_,(m.at' j hj).2⟩;rw[af (lq j hj),af (ld j hj),af (lq j hj),gJ,if_neg (symm hn)];exact(m.at' j hj).1
  ·have:j=k:=by simpa using hj
   subst this;rw[if_pos rfl];exact⟨by rw[ac,gJ,if_pos rfl,g0],q0⟩
 ·rcases mem_append.mp hi with hi|hi<;>rcases mem_append.mp hj with hj|hj
  ·rw[if_neg (nk i hi),if_neg (nk j hj)]at e;exact m.inj i hi j hj e
  ·have e2:j=k:=by simpa using hj
   rw[if_neg (nk i hi),if_pos e2]at e;exact absurd e (lq i hi)
  ·have e2:i=k:=by simpa using hi
   rw[if_neg (nk j hj),if_pos e2]at e;exact absurd e.symm (lq j hj)
  ·have e1:i=k:=by simpa using hi
   have e2:j=k:=by simpa using hj
   rw[e1,e2]
 ·exact aI q0 (aI m.d0 (m.same.trans (ae hq)))
end
end TG
namespace TK
open PySem L2
def alN:List Str:=["tree","marks","filled","alike","number","couples","numbers","count","one"]
theorem ly:FnScope alN ["tree"] (ai aT):=fsc
def alS(i:Nat):Stmt:=(bb aT).getD i (.Pass ⟨0,0,0,0⟩)
abbrev AlX(P:Program)(w:World)(K:PySem.W.Frag)(mg:Str→Option Value)(base:Heap)(f:Addr)(cdv:Value)(A:Around)(outer:List Env)(s:Shared)(H:Hp)(E:XK):Cx:=(fZ CX0 P w K mg base alN "alike_folders" (ai aT) f cdv A outer s H E).nox
def aq(zs:ZN):List Int:=(ak zs).filter λk=>!(bg zs k).isEmpty
theorem yu{b:Bool}{p q:Prop}(h:b=true)(x:p):if b=true then p else q:=by rw[if_pos h];exact x
theorem yx{b:Bool}{p q:Prop}(h:b=false)(x:q):if b=true then p else q:=by rw[if_neg (by rw[h];decide)];exact x
section
variable{P:Program}{w:World}{K:PySem.W.Frag}{mg:Str→Option Value}{base:Heap}{f:Addr}{cdv:Value}{A:Around}{outer:List Env}{s:Shared}{H0:Hp}{E:XK}
theorem al1(hr:Room 4 (A.deeper (PyProof.Rows.envOfC "alike_folders" (ai aT) s.heap.objs.size f cdv)))(CM:Has P w K mg base 1 "members_by_folder" ["tree"] mZ):
  ∃rd,PS (AlX P w K mg base f cdv A outer s H0 E) (alS 1) rd∧∀(D:Ends)(H:Hp)(t:Addr)(x1 x2:Option V)(zs:ZN),Tre H t zs →
   (∀l H',Same H H'→H l=none→H' l=some (.lst ((aq zs).map V.int))→D.nx [some (.ref t),x1,some (.ref l),none,none,none,none,none,none] H')→rd D [some (.ref t),x1,x2,none,none,none,none,none,none] H:=by
 have hr1:Room 1 _:=hr.mono (by decide);refine⟨_,eU (ii:=2) (N:=["number","inner"]) (cl:=[]) (k:=2) (js:=[]) (g:=xJ K 2 (qY (bn 0) (qY (bn 1) xI))) (tc:=λσ H Q=>fO 1 σ H λx H'=>∃k,wc K x H' k∧Q k H') ly.nd rfl (Or.inl rfl) rfl (gT rfl (by decide +kernel) (by decide +kernel) (by decide +kernel)) rfl (λi j x h=>by simp at h) (sO (uQ CM hr1 (aa (pv 0) ag)))
   (λs H fp=>iN (n:=2) rfl (bQ (aA (i:=0) (show(["number","inner"]:List Str).Nodup by decide +kernel) rfl (Or.inl rfl) (Or.inr rfl)) (bQ (aA (i:=1) (show(["number","inner"]:List Str).Nodup by decide +kernel) rfl (Or.inl rfl) (Or.inr rfl)) fQ)))
   (λs H fp=>lL (X:=bR _ _ _ _ _ _ _) (pv 1) (λ_=>rfl)) (λs H fp=>pv 0),?_⟩
 intro D H t x1 x2 zs tr q;have hl:=tr.len;refine⟨_,rfl,t,zs,rfl,tr,λmb L H1 m1=>⟨mb,dR L (ak zs),rfl,m1.dict,λo p hp=>?_⟩⟩;have s2:Same H (upd H1 mb (.frz o (.dK (dR L (ak zs))))):=λb u e=>by rw[af (ao e m1.d0)];exact m1.same _ _ e
 have hd2:upd H1 mb (.frz o (.dK (dR L (ak zs)))) mb=some (.frz o (.dK (dR L (ak zs)))):=ac;have hL2:∀k∈ak zs,upd H1 mb (.frz o (.dK (dR L (ak zs)))) (L k)=some (.lst (aR (bg zs k))):=λk hk=>by
  have h:=(m1.at' k hk).1;rw[af (λz=>by rw[z,m1.dict]at h;cases h)];exact h
 have fl:(ak zs).length≤zs.length:=by
  unfold ak;rw[length_map];exact length_filter_le _ _
 generalize upd H1 mb (.frz o (.dK (dR L (ak zs))))=H2 at hp s2 hd2 hL2⊢;refine sQ (fr:=[]) (dR L (ak zs)) (by rw[mR];omega) hp hd2 ⟨[none,none],rfl,rfl⟩ (λkv=>match kv.1 with | .inl k=>!(bg zs k).isEmpty | .inr _=>false) (λkv y _=>y=kV kv.1) (λ_ _ _ _ h _=>h) (λkv a σ0 H' kk kn hσ0 mz s3 hpl ha hk hn=>?_) (λys H' s3 hp' hys=>?_)
 ·unfold dR at mz;obtain⟨k,hk',rfl⟩:=mem_map.mp mz;obtain⟨o1,o2,rfl⟩:∃o1 o2,σ0=[o1,o2]:=by
   match σ0,hσ0 with
   |[o1,o2],_=>exact⟨o1,o2,rfl⟩
  refine⟨a,_,rfl,SqT.of ha,rfl,_,_,rfl,_,_,rfl,rfl,?_⟩;refine⟨_,rfl,!(bg zs k).isEmpty,.inl ⟨_,SqL.of (s3 _ _ (hL2 k hk')),by rw[←ce];simp⟩,?_⟩
  by_cases hb:(bg zs k).isEmpty=true
  ·refine yx (by rw[hb];rfl) (hn _ _ ⟨[some (.int k),some (.ref (L k))],rfl,rfl⟩ (Same.refl _) (by simp[hb]))
  ·exact yu (by simpa using hb) ⟨_,rfl,hk _ _ _ ⟨[some (.int k),some (.ref (L k))],rfl,rfl⟩ (Same.refl _) (by simpa using hb) rfl⟩
 ·have ey:=bY (f:=λkv:Key×V=>kV kv.1) hys (λz y _ h=>h);refine q p H' (s2.trans s3) (s2.free hp) ?_;rw[hp',ey];unfold dR aq;rw[filter_map,map_map];rfl
end
def mkX(m:Int→Int)(ks:List Int):List (Int×V):=ks.map λk=>(m k,V.int k)
theorem sS(m:Int→Int)(ks:List Int)(k:Int):mkX m (ks++[k])=mkX m ks++[(m k,.int k)]:=by unfold mkX;rw[map_append];rfl
section
variable{P:Program}{w:World}{K:PySem.W.Frag}{mg:Str→Option Value}{base:Heap}{f:Addr}{cdv:Value}{A:Around}{outer:List Env}{s:Shared}{H0:Hp}{E:XK}
theorem al3(hr:Room 4 (A.deeper (PyProof.Rows.envOfC "alike_folders" (ai aT) s.heap.objs.size f cdv))):
  ∃rd,PS (AlX P w K mg base f cdv A outer s H0 E) (alS 3) rd∧∀(D:Ends)(H H1:Hp)(t md l e:Addr)(ks:List Int)(m:Int→Int)(kvs:List (Key×V)),H1=upd H e (.dK [])→H e=none→H l=some (.lst (ks.map V.int))→H md=some (.dK kvs)→(∀k∈ks,aN kvs (Sum.inl k:Key)=some (.int (m k)))→ks.length≤60 →
   (∀L ns x4 H',TG.Grp H H' e L ns (mkX m ks)→D.nx [some (.ref t),some (.ref md),some (.ref l),some (.ref e),x4,none,none,none,none] H')→rd D [some (.ref t),some (.ref md),some (.ref l),some (.ref e),none,none,none,none,none] H1:=by
 refine⟨_,cg PassesOwn.never rfl (bG (pv 2)) (aA (i:=4) ly.nd rfl (Or.inl rfl)) (al (ba (dm plainAttrs_list PySem.F.slot_list_append PySem.F.type_list_append bv
  (dm plainAttrs_dict slot_dict_setdefault type_dict_setdefault fu (pv 3) (aa (aZ (aS hr) (pv 1) (pv 4) (λ_ _=>rfl)) (aa (bq ag) ag))) (aa (pv 4) ag)))),?_⟩
 rintro D H H1 t md l e ks m kvs rfl he hl hmd hv hkl q;have g0:=TG.Grp.start he;refine⟨_,rfl,l,rfl,⟨_,SqL.of (g0.same _ _ hl)⟩,eK (xs:=ks.map V.int) (λi σ H'=>∃L ns x4,σ=[some (.ref t),some (.ref md),some (.ref l),some (.ref e),x4,none,none,none,none]∧TG.Grp H H' e L ns (mkX m (ks.take i))) ⟨_,_,_,rfl,by rw[take_zero];exact g0⟩ (λi σ H' _ h=>?_) (λi v σ H' hx h=>?_) (λσ H' h=>?_)⟩
 ·obtain⟨L,ns,x4,rfl,g⟩:=h;exact SqL.of (g.same _ _ hl)
 ·obtain⟨L,ns,x4,rfl,g⟩:=h;rw[getElem?_map]at hx;cases gx:ks[i]? with
  |none=>rw[gx]at hx;cases hx
  |some k =>
   rw[gx]at hx;cases hx;have mk':=mem_of_getElem? gx;have hmd':=g.same _ _ hmd;have xl:(mkX m (ks.take i)).length≤60:=by unfold mkX;rw[length_map,length_take];omega
   have hnl:(ns.map λk=>((Sum.inl k:Key),V.ref (L k))).length<sizeLine:=by rw[length_map,PySem.sizeLine_eq];have:=g.len;omega
   rw[aP gx,sS];refine⟨_,rfl,.inr (.inr (.inl ⟨rfl,.inl ⟨_,g.dict⟩⟩)),_,rfl,_,rfl,md,_,rfl,by have:=ci.k (k:=Sum.inl k) hmd';rw[hv k mk']at this;exact this,zero_le _,λqa hq=>?_⟩;have g':=g.grow (ae (o:=.lst []) hq);refine⟨e,_,.inl (m k),.ref qa,rfl,rfl,g'.dict,hnl,λv hv'=>?_,λhn=>?_⟩
   ·rw[TG.lx]at hv'
    by_cases h:m k∈ns
    ·rw[if_pos h]at hv';cases hv';obtain⟨a1,a0⟩:=g'.at' (m k) h;exact⟨.inl ⟨rfl,_,SqL.of a1⟩,_,rfl,_,_,_,rfl,rfl,a1,ay (le_trans (TG.xn _ _) (by omega)),L,ns,_,rfl,g'.hit h⟩
    ·rw[if_neg h]at hv';cases hv'
   ·rw[TG.lx]at hn
    by_cases h:m k∈ns
    ·rw[if_pos h]at hn;cases hn
    ·have hqd:qa≠e:=λz=>by rw[z,g.dict]at hq;cases hq
     have hqa:upd (upd H' qa (.lst [])) e (.dK (br (ns.map λk=>((Sum.inl k:Key),V.ref (L k))) (Sum.inl (m k):Key) (.ref qa))) qa=some (.lst []):=by rw[af hqd,ac]
     exact⟨.inl ⟨rfl,_,SqL.of hqa⟩,_,rfl,_,_,_,rfl,rfl,hqa,ay (by decide),_,_,_,rfl,g.fresh h hq⟩
 ·obtain⟨L,ns,x4,rfl,g⟩:=h;rw[length_map,take_length]at g;exact q L ns x4 H' g
end
def cW(H:Hp)(cs:List dU):Prop:=∀c∈cs,H c.1=some (.tup [.int c.2.1,.int c.2.2])
def crf(cs:List dU):List V:=cs.map λc=>V.ref c.1
theorem cW.same{H H':Hp}{cs:List dU}(h:cW H cs)(s:Same H H'):cW H' cs:=λc hc=>s _ _ (h c hc)
theorem cW.ext{H H':Hp}{l:Addr}{xs:List V}{cs:List dU}(h:cW H cs)(hl:H l=some (.lst xs))(e:Ext l H H'):cW H' cs:=λc hc=>e _ _ (λy=>by have:=h c hc;rw[y,hl]at this;cases this) (h c hc)
def alT:Stmt:=(uY ((uY (alS 5)).getD 0 (.Pass ⟨0,0,0,0⟩))).getD 0 (.Pass ⟨0,0,0,0⟩)
def eG(xs:List Int):Nat→List (Int×Int)
 |0=>[]
 |i+1=>eG xs i++(xs.drop (i+1)).map λb=>(xs.getD i 0,b)
section
variable{P:Program}{w:World}{K:PySem.W.Frag}{mg:Str→Option Value}{base:Heap}{f:Addr}{cdv:Value}{A:Around}{outer:List Env}{s:Shared}{H0:Hp}{E:XK}
theorem zl:∃rd,PS (AlX P w K mg base f cdv A outer s H0 E) alT rd∧∀(D:Ends) (H:Hp) o0 o1 o2 o3 o4 (c l:Addr) (xs:List Int) (i:Nat) (a:Int) (cs:List dU),H c=some (.lst (crf cs))→cW H cs→cs.length+xs.length≤1000→H l=some (.lst (xs.map V.int))→i<xs.length →
   (∀cs' H',Ext c H H'→H' c=some (.lst (crf cs'))→cW H' cs'→cs'.map (·.2)=cs.map (·.2)++(xs.drop (i+1)).map (λb=>(a,b))→D.nx [o0,o1,o2,o3,o4,some (.ref c),some (.ref l),some (.int (1+i)),some (.int a)] H')→rd D [o0,o1,o2,o3,o4,some (.ref c),some (.ref l),some (.int (1+i)),some (.int a)] H:=by
 refine⟨_,ba (dm plainAttrs_list PySem.F.slot_list_extend PySem.F.type_list_extend qh (pv 5) (aa (sv (fs:=["one"]) (cl:=[("one",s.heap.objs.size+1)]) (js:=[8]) lcF (bG (eM tY (pv 6) (eT (pv 7)) iF)) (λs H fp=>bo (aa (pv 1) (aa (pv 0) ag)))) ag)),?_⟩;intro D H o0 o1 o2 o3 o4 c l xs i a cs hc hC cl hl hi q;refine⟨_,rfl,.inl ⟨rfl,_,SqL.of hc⟩,_,rfl,_,rfl,_,rfl,l,_,rfl,SqL.of hl,λp1 hp1=>?_⟩;have ec:fj (xs.map V.int) (some (1+i)) none=(xs.drop (i+1)).map V.int:=by
  have:=cut_from (xs:=xs.map V.int) (k:=i+1) (by rw[length_map];exact hi);rw[List.map_drop,←this,show(1:Int)+(i:Int)=((i+1:Nat):Int)by omega]
 rw[ec];have s1:=ae (o:=.lst ((xs.drop (i+1)).map V.int)) hp1;have h1:upd H p1 (.lst ((xs.drop (i+1)).map V.int)) p1=some (.lst ((xs.drop (i+1)).map V.int)):=ac;generalize upd H p1 (.lst ((xs.drop (i+1)).map V.int))=H1 at s1 h1⊢;refine⟨p1,rfl,⟨_,SqL.of h1⟩,λp2 hp2=>?_⟩;have fl:(xs.drop (i+1)).length≤xs.length:=by rw[length_drop];omega
 refine gy (fr:=[some (.int a)]) (xs.drop (i+1)) V.int (by omega) hp2 (dO (SqL.of h1)) rfl (λb y H=>∃z,y=.ref z∧z≠p2∧H z=some (.tup [.int a,.int b])) (λb y Ha Hb ⟨c,e,n,h⟩ ex=>⟨c,e,n,ex c _ n h⟩) (λb H' kk ma s2 hpl hk=>?_) (λys H2 s2 hp2' hys=>?_)
 ·obtain⟨yy,hyy⟩:=hpl;exact⟨_,rfl,_,rfl,le2,λc hc=>hk _ _ (ae hc) ⟨c,rfl,(λz=>by rw[z,hyy]at hc;cases hc),ac⟩⟩
 ·obtain⟨bs,eb1,eb2,hbs⟩:=eW (val:=V.ref) (S:=λ(b:Int) z=>H2 z=some (.tup [.int a,.int b])) hys λb y _ ⟨c,e,_,h⟩=>⟨c,e,h⟩;have hc2:=s2 _ _ (s1 _ _ hc);refine⟨c,p2,_,_,rfl,rfl,hc2,hp2',?_,?_⟩
  ·have:=hys.length;unfold crf;rw[length_map];exact le_of_lt (ay (by omega))
  have ex:Ext c H (upd H2 c (.lst (crf cs++ys))):=(Ext.of (s1.trans s2)).trans Ext.upd;refine q (cs++bs.map λx=>(x.2,a,x.1)) _ ex (by rw[ac,eb2];unfold crf;rw[map_append,map_map];rfl) (λd hd=>?_) ?_
  ·rcases mem_append.mp hd with hd|hd
   ·exact(hC.ext hc ex) d hd
   ·obtain⟨x,hx,rfl⟩:=mem_map.mp hd;have:=hbs x hx;show upd H2 c _ x.2=_;rw[af λz=>by rw[z,hc2]at this;cases this];exact this
  ·rw[map_append,map_map]
   congr 1
   rw[←eb1,map_map];rfl
end
theorem kb(xs:List Int):∀i,(eG xs i).length≤i*xs.length
 |0=>zero_le _
 |i+1=>by
  have:=kb xs i;unfold eG;rw[length_append,length_map,length_drop,succ_mul];omega
def dc(m:Int→Int)(ks:List Int)(k:Int):List Int:=ks.filter λj=>decide (m j=k)
theorem sT(m:Int→Int)(ks:List Int)(k:Int):TG.gv (mkX m ks) k=(dc m ks k).map V.int:=by
 unfold TG.gv mkX dc;rw[filter_map,map_map];rfl
theorem sU(m:Int→Int)(ks:List Int)(k:Int):(dc m ks k).length≤ks.length:=length_filter_le _ _
def jr(xs:List Int):List (Int×Int):=eG xs xs.length
def alU:Stmt:=(uY (alS 5)).getD 0 (.Pass ⟨0,0,0,0⟩)
section
variable{P:Program}{w:World}{K:PySem.W.Frag}{mg:Str→Option Value}{base:Heap}{f:Addr}{cdv:Value}{A:Around}{outer:List Env}{s:Shared}{H0:Hp}{E:XK}
theorem zm(T:Txt mg):∃rd,PS (AlX P w K mg base f cdv A outer s H0 E) alU rd∧∀(D:Ends) (H:Hp) o0 o1 o2 o3 o4 (c l:Addr) o7 o8 (xs:List Int) (cs:List dU),H c=some (.lst (crf cs))→cW H cs→cs.length+xs.length*xs.length≤1000→H l=some (.lst (xs.map V.int))→l≠c →
   (∀cs' H' x7 x8,Ext c H H'→H' c=some (.lst (crf cs'))→cW H' cs'→cs'.map (·.2)=cs.map (·.2)++jr xs→D.nx [o0,o1,o2,o3,o4,some (.ref c),some (.ref l),x7,x8] H')→rd D [o0,o1,o2,o3,o4,some (.ref c),some (.ref l),o7,o8] H:=by
 obtain⟨rx,px,hx⟩:=zl (P:=P) (w:=w) (K:=K) (mg:=mg) (base:=base) (f:=f) (cdv:=cdv) (A:=A) (outer:=outer) (s:=s) (H0:=H0) (E:=E);refine⟨_,cg PassesOwn.never rfl (sR rfl T.enumerate (pv 6) aj) (iN (n:=2) rfl (bQ (aA (i:=7) ly.nd rfl (Or.inl rfl)) (bQ (aA (i:=8) ly.nd rfl (Or.inr rfl)) fQ))) (al px),?_⟩;intro D H o0 o1 o2 o3 o4 c l o7 o8 xs cs hc hC hn hl hlc q;refine⟨_,rfl,l,_,rfl,hl,1,rfl,by decide,by decide,hl,nv (xs:=xs.map V.int) (λi σ H'=>∃x7 x8 cs',σ=[o0,o1,o2,o3,o4,some (.ref c),some (.ref l),x7,x8]∧Ext c H H'∧H' c=some (.lst (crf cs'))∧cW H' cs'∧cs'.map (·.2)=cs.map (·.2)++eG xs i)
   ⟨_,_,cs,rfl,λb o _ e=>e,hc,hC,by unfold eG;rw[append_nil]⟩ (λi σ H' _ h=>?_) (λi x σ H' p hx' h hp=>?_) (λσ H' h=>?_)⟩
 ·obtain⟨x7,x8,cs',rfl,ex,_⟩:=h;exact SqL.of (ex _ _ hlc hl)
 ·obtain⟨x7,x8,cs',rfl,ex,hc',hC',ec⟩:=h;rw[getElem?_map]at hx';cases gx:xs[i]? with
  |none=>rw[gx]at hx';cases hx'
  |some a =>
   rw[gx]at hx';cases hx';have hi:i<xs.length:=(List.getElem?_eq_some_iff.mp gx).1;have s3:=ae (o:=.tup [.int (1+i),.int a]) hp;have hpp:upd H' p (.tup [.int (1+i),.int a]) p=some (.tup [.int (1+i),.int a]):=ac;have hl3:=s3 _ _ (ex _ _ hlc hl);have hc3:=s3 _ _ hc';have hC3:=hC'.same s3;generalize upd H' p (.tup [.int (1+i),.int a])=H4 at s3 hpp hl3 hc3 hC3⊢;have hb:cs'.length+xs.length≤1000:=by
    have h1:=congrArg length ec;rw[length_append,length_map,length_map]at h1;have h2:=kb xs i;have h3:=Nat.mul_le_mul_right xs.length (show i+1≤xs.length from hi);rw[succ_mul]at h3;omega
   refine⟨p,_,rfl,SqT.of hpp,rfl,_,_,rfl,_,_,rfl,rfl,?_⟩;refine hx _ H4 o0 o1 o2 o3 o4 c l xs i a cs' hc3 hC3 hb hl3 hi λcs2 H5 ex5 hc5 hC5 ec5=>?_;refine⟨_,_,cs2,rfl,(ex.trans (Ext.of s3)).trans ex5,hc5,hC5,?_⟩;rw[ec5,ec,append_assoc];rw[show eG xs (i+1)=eG xs i++(xs.drop (i+1)).map λb=>(xs.getD i 0,b)from rfl,getD_eq_getElem?_getD,gx];rfl
 ·obtain⟨x7,x8,cs',rfl,ex,hc',hC',ec⟩:=h;rw[length_map]at ec;exact q cs' H' x7 x8 ex hc' hC' ec
end
def prs:List Int→List (Int×Int)
 |[]=>[]
 |a::r=>r.map (λb=>(a,b))++prs r
theorem jt(a:Int)(r:List Int):∀i,eG (a::r) (i+1)=r.map (λb=>(a,b))++eG r i
 |0=>by
  show[]++_=_++[];rw[append_nil];rfl
 |i+1=>by
  rw[show eG (a::r) (i+1+1)=eG (a::r) (i+1)++((a::r).drop (i+1+1)).map λb=>((a::r).getD (i+1) 0,b)from rfl,jt a r i,append_assoc];rfl
theorem ju:∀xs:List Int,jr xs=prs xs
 |[]=>rfl
 |a::r=>by
  unfold jr;rw[length_cons,jt];have:=ju r;unfold jr at this;rw[this];rfl
theorem pK:∀xs:List Int,2*(prs xs).length+xs.length=xs.length*xs.length
 |[]=>rfl
 |a::r=>by
  have:=pK r;unfold prs;rw[length_append,length_map,length_cons];simp only[Nat.add_mul,Nat.mul_add,Nat.one_mul,Nat.mul_one];omega
theorem dW{a b:Int}:∀{xs:List Int},(a,b)∈prs xs→a∈xs∧b∈xs
 |[],h=>by cases h
 |c::r,h=>by
  unfold prs at h;rcases mem_append.mp h with h|h
  ·obtain⟨b',hb,e⟩:=mem_map.mp h;cases e;exact⟨mem_cons_self,mem_cons_of_mem _ hb⟩
  ·obtain⟨h1,h2⟩:=dW h;exact⟨mem_cons_of_mem _ h1,mem_cons_of_mem _ h2⟩
theorem cX(p:Int→Bool):∀xs:List Int,prs (xs.filter p)=(prs xs).filter λx=>p x.1&&p x.2
 |[]=>rfl
 |a::r=>by
  have ih:=cX p r;show prs (filter p (a::r))=filter _ (r.map (λb=>(a,b))++prs r);rw[filter_append,filter_map,←ih]
  by_cases h:p a=true
  ·rw[filter_cons_of_pos h];show(r.filter p).map _++_=_
   congr 3
   funext b
   simp[h]
  ·rw[filter_cons_of_neg h];have:r.filter ((λx:Int×Int=>p x.1&&p x.2)∘λb=>(a,b))=[]:=List.filter_eq_nil_iff.mpr λb _=>by simp[h]
   rw[this];rfl
theorem sV:∀{xs:List Int},xs.Nodup→(prs xs).Nodup
 |[],_=>nodup_nil
 |a::r,h=>by
  obtain⟨h1,h2⟩:=nodup_cons.mp h;unfold prs;refine nodup_append.mpr ⟨?_,sV h2,λx hx y hy e=>?_⟩
  ·unfold Nodup;rw[pairwise_map];exact h2.imp λn e=>n (by cases e;rfl)
  ·obtain⟨b,hb,rfl⟩:=mem_map.mp hx;subst e;exact h1 (dW hy).1
theorem nw{m:Int→Int}{ks ns:List Int}(hn:∀k,k∈ns↔dc m ks k≠[])(a b:Int):(a,b)∈ns.flatMap (λk=>prs (dc m ks k))↔(a,b)∈prs ks∧m a=m b:=by
 rw[mem_flatMap];constructor
 ·rintro⟨k,_,h⟩;unfold dc at h;rw[cX,mem_filter]at h;obtain⟨h1,h2⟩:=h;simp only[and_eq_true,decide_eq_true_eq]at h2;exact⟨h1,by omega⟩
 ·rintro⟨h1,h2⟩;refine⟨m a,(hn _).mpr (List.ne_nil_of_mem (a:=a) ?_),?_⟩
  ·exact mem_filter.mpr ⟨(dW h1).1,by simp⟩
  ·unfold dc;rw[cX,mem_filter];exact⟨h1,by simp[h2]⟩
theorem dX{m:Int→Int}{ks:List Int}(hk:ks.Nodup):∀{ns:List Int},ns.Nodup→(ns.flatMap (λk=>prs (dc m ks k))).Nodup
 |[],_=>nodup_nil
 |k::r,h=>by
  obtain⟨h1,h2⟩:=nodup_cons.mp h;rw[List.flatMap_cons];refine nodup_append.mpr ⟨sV (hk.filter _),dX hk h2,λx hx y hy e=>?_⟩;subst e;obtain⟨k',hk',hy⟩:=mem_flatMap.mp hy;have e1:=(mem_filter.mp (dW (a:=x.1) (b:=x.2) hx).1).2;have e2:=(mem_filter.mp (dW (a:=x.1) (b:=x.2) hy).1).2;simp only[decide_eq_true_eq]at e1 e2;exact h1 (by rw[←e1,e2];exact hk')
theorem oB{m:Int→Int}{ks ns:List Int}(hk:ks.Nodup)(nn:ns.Nodup)(hl:ks.length≤18):(ns.flatMap (λk=>prs (dc m ks k))).length≤153:=by
 have h1:=gE (dX (m:=m) hk nn) (m:=prs ks) λx hx=>by
  obtain⟨k,_,h⟩:=mem_flatMap.mp hx;unfold dc at h;rw[cX,mem_filter]at h;exact h.1
 have h2:=pK ks;have h3:ks.length*(ks.length-1)≤18*17:=Nat.mul_le_mul hl (by omega);have h4:ks.length*(ks.length-1)+ks.length=ks.length*ks.length:=by
  cases ks with
  |nil=>rfl
  |cons a r =>
   rw[length_cons,Nat.add_sub_cancel];exact(Nat.mul_succ _ _).symm
 omega
theorem ny{m:Int→Int}{M:Int→Option Int}{ks ns:List Int}(hk:ks.Nodup)(nn:ns.Nodup)(hm:∀k∈ks,M k=some (m k)):(ns.flatMap (λk=>prs (dc m ks k))).length≤((prs ks).filter λx=>decide (M x.1=M x.2)).length :=
 gE (dX (m:=m) hk nn) λx hx=>by
  obtain⟨k,_,h⟩:=mem_flatMap.mp hx;unfold dc at h;rw[cX,mem_filter]at h;obtain⟨h1,h2⟩:=h;simp only[and_eq_true,decide_eq_true_eq]at h2;obtain⟨m1,m2⟩:=dW (a:=x.1) (b:=x.2) h1;exact mem_filter.mpr ⟨h1,by rw[hm _ m1,hm _ m2,h2.1,h2.2];simp⟩
theorem Tre.offp{H H':Hp}{t Pt:Addr}{zs:ZN}{qual:Str}(tr:Tre H t zs)(o:db Pt H H')(TQ:bz H Pt qual):Tre H' t zs:=by
 have hne:∀b u,H b=some u→(∀ps,u≠.tbl ps)→H' b=some u:=λb u e n=>o b u (λz=>by
  obtain⟨ps,h1,_⟩:=TQ;rw[z,h1]at e;exact n ps (Option.some.inj e).symm) e
 exact {tr with tup:=hne _ _ tr.tup (λps e=>by cases e),nod:=λz hz=>hne _ _ (tr.nod z hz) (λps e=>by cases e)}
theorem dY{zs:ZN}(T:TW.Tree1 (nds zs)):(aq zs).Pairwise (· < ·):=by
 unfold aq ak;refine Pairwise.filter _ ?_;have h:=T.rise;unfold TW.eQ nds at h;rw[pairwise_map]at h⊢;exact Pairwise.sublist filter_sublist h
theorem dZ{zs:ZN}(T:TW.Tree1 (nds zs)):(aq zs).Nodup:=(dY T).imp λh=>by omega
theorem lz{a b:Int}:∀{xs:List Int},xs.Pairwise (· < ·)→((a,b)∈prs xs↔a∈xs∧b∈xs∧a<b)
 |[],_=>⟨λh=>(by cases h),λh=>(by cases h.1)⟩
 |c::r,h=>by
  obtain⟨h1,h2⟩:=pairwise_cons.mp h;have ih:=lz (a:=a) (b:=b) h2;unfold prs;rw[mem_append,ih,mem_map];constructor
  ·rintro(⟨b',hb,e⟩|⟨x,y,z⟩)
   ·cases e;exact⟨mem_cons_self,mem_cons_of_mem _ hb,h1 _ hb⟩
   ·exact⟨mem_cons_of_mem _ x,mem_cons_of_mem _ y,z⟩
  ·rintro⟨x,y,z⟩;rcases mem_cons.mp x with rfl|x'
   ·rcases mem_cons.mp y with rfl|y
    ·omega
    ·exact .inl ⟨b,y,rfl⟩
   ·rcases mem_cons.mp y with rfl|y
    ·have:=h1 _ x';omega
    ·exact .inr ⟨x',y,z⟩
theorem cY{zs:ZN}{k:Int}(h:k∈aq zs):k∈ak zs:=(mem_filter.mp h).1
section
variable{P:Program}{w:World}{K:PySem.W.Frag}{mg:Str→Option Value}{base:Heap}{f Pt:Addr}{cdv:Value}{A:Around}{outer:List Env}{s:Shared}{H0:Hp}{E:XK}
def iq(Pt:Addr):Sp:=λvs H Q _=>∃t zs,vs=[.ref t]∧Tre H t zs∧bz H Pt fm∧(aq zs).length≤18∧(∀M,Marks zs M→((prs (aq zs)).filter λx=>decide (M x.1=M x.2)).length<64)∧∀l (ws:List dU) M H',db Pt H H'→bz H' Pt fm→Marks zs M→H' l=some (.lst (crf ws))→cW H' ws→ws.Pairwise (λa b=>cI a.2 b.2=true) →
 (∀a b,(a,b)∈ws.map (·.2)↔(a,b)∈prs (aq zs)∧M a=M b)→Q (.ref l) H'
theorem al5(T:Txt mg):∃rd,PS (AlX P w K mg base f cdv A outer s H0 E) (alS 5) rd∧∀(D:Ends) (Hz H:Hp) o0 o1 o2 (e:Addr) o4 (c:Addr) (L:Int→Addr) (ns:List Int) (m:Int→Int) (ks:List Int),TG.Grp Hz H e L ns (mkX m ks)→H c=some (.lst [])→Hz c=none→ks.length≤18→ks.Nodup →
   (∀cs H' x6 x7 x8,Same Hz H'→H' c=some (.lst (crf cs))→cW H' cs→cs.map (·.2)=ns.flatMap (λk=>jr (dc m ks k))→D.nx [o0,o1,o2,some (.ref e),o4,some (.ref c),x6,x7,x8] H')→rd D [o0,o1,o2,some (.ref e),o4,some (.ref c),none,none,none] H:=by
 obtain⟨rx,px,hx⟩:=zm (P:=P) (w:=w) (K:=K) (mg:=mg) (base:=base) (f:=f) (cdv:=cdv) (A:=A) (outer:=outer) (s:=s) (H0:=H0) (E:=E) T;refine⟨_,cg PassesOwn.never rfl (va (pv 3)) (aA (i:=6) ly.nd rfl (Or.inl rfl)) (al px),?_⟩;intro D Hz H o0 o1 o2 e o4 c L ns m ks g hc hzc kl knd q;have nec:c≠e:=λz=>by rw[z,g.dict]at hc;cases hc
 refine⟨_,rfl,e,_,rfl,g.dict,λo=>?_⟩;have nlc:∀k∈ns,L k≠c:=λk hk z=>by
  have h1:=(g.at' k hk).1;rw[z,hc]at h1;exact(g.mem k).mp hk (by injection h1 with h1;injection h1 with h1;exact h1.symm)
 have nle:∀k∈ns,L k≠e:=λk hk z=>by
  have h1:=(g.at' k hk).1;rw[z,g.dict]at h1;cases h1
 have hd2:upd H e (.frz o (.dK (ns.map λk=>((Sum.inl k:Key),V.ref (L k))))) e=some (.frz o (.dK (ns.map λk=>((Sum.inl k:Key),V.ref (L k))))):=ac;have hc2:upd H e (.frz o (.dK (ns.map λk=>((Sum.inl k:Key),V.ref (L k))))) c=some (.lst []):=by rw[af nec];exact hc
 have hL2:∀k∈ns,upd H e (.frz o (.dK (ns.map λk=>((Sum.inl k:Key),V.ref (L k))))) (L k)=some (.lst ((dc m ks k).map V.int)):=λk hk=>by rw[af (nle k hk),(g.at' k hk).1,sT]
 have s2:Same Hz (upd H e (.frz o (.dK (ns.map λk=>((Sum.inl k:Key),V.ref (L k)))))):=λb u h=>by rw[af (ao h g.d0)];exact g.same _ _ h
 generalize upd H e (.frz o (.dK (ns.map λk=>((Sum.inl k:Key),V.ref (L k)))))=H2 at hd2 hc2 hL2 s2⊢;refine sP (λi σ H'=>∃x6 x7 x8 cs,σ=[o0,o1,o2,some (.ref e),o4,some (.ref c),x6,x7,x8]∧Ext c H2 H'∧H' c=some (.lst (crf cs))∧cW H' cs∧cs.map (·.2)=(ns.take i).flatMap (λk=>jr (dc m ks k)))
  ⟨_,_,_,[],rfl,λb o _ e=>e,hc2,λc hc=>(by cases hc),rfl⟩ (λi σ H' _ h=>?_) (λi kv σ H' hkv h=>?_) (λσ H' h=>?_)
 ·obtain⟨x6,x7,x8,cs,rfl,ex,_⟩:=h;exact ex _ _ (symm nec) hd2
 ·obtain⟨x6,x7,x8,cs,rfl,ex,hc',hC',ec⟩:=h;rw[getElem?_map]at hkv;cases gx:ns[i]? with
  |none=>rw[gx]at hkv;cases hkv
  |some k =>
   rw[gx]at hkv;cases hkv;have hi:i<ns.length:=(List.getElem?_eq_some_iff.mp gx).1;have mk':=mem_of_getElem? gx;have ul:=sU m ks k;have sq:(dc m ks k).length*(dc m ks k).length≤18*18:=Nat.mul_le_mul (show _≤18 by omega) (show _≤18 by omega);have ln:cs.length≤153:=by
    have h1:=congrArg length ec;rw[length_map,show(λk=>jr (dc m ks k))=λk=>prs (dc m ks k)from funext λk=>ju _]at h1;rw[h1];exact oB knd (g.nd.sublist (take_sublist _ _)) kl
   refine hx _ H' o0 o1 o2 _ o4 c (L k) _ _ (dc m ks k) cs hc' hC' (by omega) (ex _ _ (nlc k mk') (hL2 k mk')) (nlc k mk') λcs2 H5 y7 y8 ex5 hc5 hC5 ec5=>?_;refine⟨_,_,_,cs2,rfl,ex.trans ex5,hc5,hC5,?_⟩;rw[ec5,ec,aP gx,List.flatMap_append,List.flatMap_singleton]
 ·obtain⟨x6,x7,x8,cs,rfl,ex,hc',hC',ec⟩:=h;rw[length_map,take_length]at ec;exact q cs H' x6 x7 x8 (λb u h=>ex _ _ (ao h hzc) (s2 _ _ h)) hc' hC' ec
theorem xo{fd:FuncData}(F:Fun K "alike_folders" "alike_folders" aT f fd)(T:Txt mg)(CM:Has P w K mg base 1 "members_by_folder" ["tree"] mZ)(CS:Has P w K mg base 4 "shape_marks" ["tree"] (sN Pt)):FnOk P w K mg base CX0 5 f fd ["tree"] (iq Pt):=by
 refine F.ok ly (λvs H Q E h=>?_) (λcdv A outer s H vs Q E hr h=>?_)
 ·obtain⟨t,zs,rfl,_⟩:=h;rfl
 obtain⟨t,zs,rfl,tr,TQ,f9,f64,q⟩:=h;have hr2:Room 2 _:=hr.mono (by decide);obtain⟨r1,p1,h1⟩:=al1 (P:=P) (w:=w) (K:=K) (mg:=mg) (base:=base) (f:=f) (cdv:=cdv) (A:=A) (outer:=outer) (s:=s) (H0:=H) (E:=E) hr CM;obtain⟨r3,p3,h3⟩:=al3 (P:=P) (w:=w) (K:=K) (mg:=mg) (base:=base) (f:=f) (cdv:=cdv) (A:=A) (outer:=outer) (s:=s) (H0:=H) (E:=E) hr;obtain⟨r5,p5,h5⟩:=al5 (P:=P) (w:=w) (K:=K) (mg:=mg) (base:=base) (f:=f) (cdv:=cdv) (A:=A) (outer:=outer) (s:=s) (H0:=H) (E:=E) T;refine⟨_,ah (aw (i:=1) ly.nd rfl (Or.inl rfl) (uQ CS hr (aa (pv 0) ag)))
  (ah p1 (ah (aw (i:=3) ly.nd rfl (Or.inl rfl) dq) (ah p3
  (ah (aw (i:=5) ly.nd rfl (Or.inl rfl) (bq ag)) (ah p5
  (al (aM (aL iA rfl T.sorted boot_sorted (aa (pv 5) ag))))))))),?_⟩
 refine⟨_,rfl,t,zs,rfl,tr,TQ,λmd M kvs H1 off tq hmd hmd0 hv mk=>?_⟩;have tr1:=tr.offp off TQ;refine h1 _ H1 t _ _ zs tr1 λl H2 s2 hl0 hl=>?_;intro e he;have fo:∀k∈aq zs,∃j,M k=some j:=λk hk=>isSome_iff_exists.mp ((mk.dom k).mpr (cY hk));refine h3 _ H2 _ t md l e (aq zs) (λk=>(M k).getD 0) kvs rfl he hl (s2 _ _ hmd) (λk hk=>?_) (by omega) λL ns x4 H3 g=>?_
 ·obtain⟨j,e⟩:=fo k hk;rw[hv,e];rfl
 refine⟨zero_le _,λc hc=>?_⟩;have g':=g.grow (ae (o:=.lst []) hc);have hcc:upd H3 c (.lst []) c=some (.lst []):=ac;have hc2:H2 c=none:=g.same.free hc;show r5 _ _ _;refine h5 _ H2 _ _ _ _ e _ c L ns _ (aq zs) g' hcc hc2 f9 (dZ tr.tr) λcs H4 x6 x7 x8 s4 hc4 hC4 ec=>?_;have fnd:=dZ tr.tr;have nn:∀k,k∈ns↔dc (λk=>(M k).getD 0) (aq zs) k≠[]:=λk=>by rw[g.mem,sT];simp
 have ec':cs.map (·.2)=ns.flatMap λk=>prs (dc (λk=>(M k).getD 0) (aq zs) k):=by rw[ec];congr 1;funext k;exact ju _
 refine⟨_,rfl,c,cs,rfl,.inl (SqL.of (by rw[hc4];unfold crf;rw[map_map];rfl)),hC4,by rw[ec'];exact dX fnd g.nd,?_,λws wp ww p hp=>?_⟩
 ·have h1:=ny (m:=λk=>(M k).getD 0) (M:=M) fnd g.nd λk hk=>by
   obtain⟨j,e⟩:=fo k hk;rw[e];rfl
  rw[←ec',length_map]at h1;exact lt_of_le_of_lt h1 (f64 M mk)
 have s5:=ae (o:=.lst ((ws.map (·.1)).map V.ref)) hp;have sm:=(s2.trans s4).trans s5;refine q p ws M _ (λb u n h=>sm _ _ (off b u n h)) (bd tq sm) mk (by rw[ac];unfold crf;rw[map_map];rfl) (λx hx=>s5 _ _ (hC4 x (wp.mem_iff.mp hx))) ww λa b=>?_;rw[(wp.map (·.2)).mem_iff,ec',nw nn];constructor
 ·rintro⟨h1,h2⟩;obtain⟨m1,m2⟩:=dW h1;obtain⟨j1,e1⟩:=fo a m1;obtain⟨j2,e2⟩:=fo b m2;rw[e1,e2]at h2⊢;exact⟨h1,congrArg some h2⟩
 ·rintro⟨h1,h2⟩;exact⟨h1,by rw[h2]⟩
end
theorem pL{α β:Type}{g:α→β}:∀{l:List α},(l.map g).Nodup→∀{a b:α},a∈l→b∈l→g a=g b→a=b
 |c::r,h,a,b,ha,hb,e=>by
  rw[map_cons]at h;obtain⟨h1,h2⟩:=nodup_cons.mp h;rcases mem_cons.mp ha with ha|ha
  ·rcases mem_cons.mp hb with hb|hb
   ·rw[ha,hb]
   ·exact absurd (mem_map.mpr ⟨b,hb,by rw[←e,ha]⟩) h1
  ·rcases mem_cons.mp hb with hb|hb
   ·exact absurd (mem_map.mpr ⟨a,ha,by rw[e,hb]⟩) h1
   ·exact pL h2 ha hb e
inductive Bel(zs:ZN):Int→List Str→Option Int→Prop where
 |one {z:Addr×Nd}:z∈zs→Bel zs z.2.par [z.2.nm] z.2.st
 |step {z:Addr×Nd} {r:List Str} {st:Option Int}:z∈zs→z.2.st=none→Bel zs z.2.num r st→Bel zs z.2.par (z.2.nm::r) st
theorem bX{zs:ZN}{k:Int}{z:Addr×Nd}:z∈bg zs k↔z∈zs∧z.2.par=k:=by
 unfold bg;rw[mem_filter,decide_eq_true_eq]
theorem eu{zs:ZN}{z:Addr×Nd}(hz:z∈zs)(h:z.2.st=none):z.2.num∈ak zs:=by
 unfold ak iy;exact mem_map.mpr ⟨z,mem_filter.mpr ⟨hz,by rw[h];rfl⟩,rfl⟩
theorem vN{zs:ZN}(T:TW.Tree1 (nds zs)){z:Addr×Nd}(hz:z∈zs)(h:z.2.num∈ak zs):z.2.st=none:=by
 unfold ak iy at h;obtain⟨y,hy,e⟩:=mem_map.mp h;obtain⟨h1,h2⟩:=mem_filter.mp hy;have:=T.inj (av h1) (av hz) e;rw[←this];exact isNone_iff_eq_none.mp h2
theorem Bel.ne{zs:ZN}{k:Int}{r:List Str}{st:Option Int}(h:Bel zs k r st):r≠[]:=by cases h<;>simp
theorem Bel.path{zs:ZN}{k:Int}{r:List Str}{st:Option Int}(h:Bel zs k r st):∀{p},TW.PathTo (nds zs) k p→∃z∈zs,z.2.st=st∧TW.PathTo (nds zs) z.2.num (p++r):=by
 induction h with
 |@one z hz=>intro p hp;exact⟨z,hz,rfl,.node (av hz) hp⟩
 |@step z r st hz hs _ ih =>
  intro p hp;obtain⟨y,h1,h2,h3⟩:=ih (.node (av hz) hp);exact⟨y,h1,h2,by rw[append_assoc]at h3;exact h3⟩
theorem Marks.to{zs:ZN}{M:Int→Option Int}(h:Marks zs M)(T:TW.Tree1 (nds zs)){k:Int}{r:List Str}{st:Option Int}(b:Bel zs k r st):∀{k'},k∈ak zs→k'∈ak zs→M k=M k'→Bel zs k' r st:=by
 have key:∀{z:Addr×Nd}{k'},z∈zs→z.2.par∈ak zs→k'∈ak zs→M z.2.par=M k'→∃y∈zs,y.2.par=k'∧y.2.nm=z.2.nm∧y.2.st=z.2.st∧M y.2.num=M z.2.num:=λ{z k'} hz hk hk' e=>by
  have hm:ent M z∈(bg zs k').map (ent M):=((h.eq _ hk _ hk').mp e).mem_iff.mp (mem_map.mpr ⟨z,bX.mpr ⟨hz,rfl⟩,rfl⟩);obtain⟨y,hy,ey⟩:=mem_map.mp hm;obtain⟨y1,y2⟩:=bX.mp hy;unfold ent at ey;injection ey with e1 e2
  injection e2 with e2 e3
  injection e3 with e3 _
  have i1:∀a b:Option Int,a.map (Sum.inl:Int→Key)=b.map Sum.inl→a=b:=λa b h=>by
   cases a<;>cases b<;>simp_all
  refine⟨y,y1,y2,?_,i1 _ _ e2,i1 _ _ e3⟩;injection e1 with e1
  injection e1 with e1
 induction b with
 |@one z hz =>
  intro k' hk hk' e;obtain⟨y,y1,y2,y3,y4,_⟩:=key hz hk hk' e;have:=Bel.one y1;rw[y2,y3,y4]at this;exact this
 |@step z r st hz hs _ ih =>
  intro k' hk hk' e;obtain⟨y,y1,y2,y3,y4,y5⟩:=key hz hk hk' e;have:=Bel.step (r:=r) (st:=st) y1 (y4.trans hs) (ih (eu hz hs) (eu y1 (y4.trans hs)) y5.symm);rw[y2,y3]at this;exact this
theorem Bel.inv{zs:ZN}{k:Int}{r:List Str}{st:Option Int}(h:Bel zs k r st):∃z∈zs,z.2.par=k∧((r=[z.2.nm]∧st=z.2.st)∨∃r',r=z.2.nm::r'∧z.2.st=none∧Bel zs z.2.num r' st):=by
 cases h with
 |@one z hz=>exact⟨z,hz,rfl,.inl ⟨rfl,rfl⟩⟩
 |@step z r st hz hs b=>exact⟨z,hz,rfl,.inr ⟨_,rfl,hs,b⟩⟩
theorem Marks.back{zs:ZN}{M:Int→Option Int}(h:Marks zs M)(T:TW.Tree1 (nds zs)):∀(n:Nat){k k':Int},k∈ak zs→k'∈ak zs→(∀r st,Bel zs k r st→r.length≤n)→(∀r st,Bel zs k r st↔Bel zs k' r st)→M k=M k':=by
 have one:∀{y z:Addr×Nd},y∈zs→z∈zs→y.2.par=z.2.par→y.2.nm=z.2.nm→y=z:=λ{y z} hy hz e1 e2=>by
  have:=T.own;unfold TW.cn nds at this;rw[map_map]at this;exact pL this hy hz (Prod.ext e1 e2)
 have sub:∀n,(∀m,m<n→∀{k k':Int},k∈ak zs→k'∈ak zs→(∀r st,Bel zs k r st→r.length≤m)→(∀r st,Bel zs k r st↔Bel zs k' r st)→M k=M k')→∀{k k':Int},(∀r st,Bel zs k r st→r.length≤n)→(∀r st,Bel zs k r st↔Bel zs k' r st)→∀e∈(bg zs k).map (ent M),e∈(bg zs k').map (ent M):=by
  intro n ih k k' hn hb e he;obtain⟨z,hz,rfl⟩:=mem_map.mp he;obtain⟨z1,rfl⟩:=bX.mp hz;obtain⟨y,y1,y2,q⟩:=((hb _ _).mp (Bel.one z1)).inv;have hy:y.2.nm=z.2.nm∧y.2.st=z.2.st:=by
   rcases q with⟨e1,e2⟩|⟨r',e1,e2,b⟩
   ·injection e1 with e1
    exact⟨e1.symm,e2.symm⟩
   ·injection e1 with e1 e3
    exact absurd e3.symm b.ne
  refine mem_map.mpr ⟨y,bX.mpr ⟨y1,y2⟩,?_⟩;have hM:M y.2.num=M z.2.num:=by
   cases hs:z.2.st with
   |some i =>
    have no:∀{x:Addr×Nd},x∈zs→x.2.st=some i→M x.2.num=none:=λ{x} hx e=>by
     cases g:M x.2.num with
     |none=>rfl
     |some j =>
      have:=vN T hx ((h.dom _).mp (by rw[g];rfl));rw[this]at e;cases e
    rw[no z1 hs,no y1 (hy.2.trans hs)]
   |none =>
    have h1:=hn _ _ (Bel.one z1);refine(ih (n-1) (by have:([z.2.nm]:List Str).length=1:=rfl;omega) (eu z1 hs) (eu y1 (hy.2.trans hs)) (λr st b=>?_) λr st=>⟨λb=>?_,λb=>?_⟩).symm
    ·have:=hn _ _ (Bel.step z1 hs b);rw[length_cons]at this;omega
    ·obtain⟨x,x1,x2,q⟩:=((hb _ _).mp (Bel.step z1 hs b)).inv;rcases q with⟨e1,_⟩|⟨r',e1,_,b'⟩
     ·injection e1 with _ e1
      exact absurd e1 b.ne
     ·injection e1 with e1 e2
      have:=one x1 y1 (x2.trans y2.symm) (e1.symm.trans hy.1.symm);rw[←this,e2];exact b'
    ·have b2:=Bel.step y1 (hy.2.trans hs) b;rw[y2]at b2;obtain⟨x,x1,x2,q⟩:=((hb _ _).mpr b2).inv;rcases q with⟨e1,_⟩|⟨r',e1,_,b'⟩
     ·injection e1 with _ e1
      exact absurd e1 b.ne
     ·injection e1 with e1 e2
      have:=one x1 z1 x2 (e1.symm.trans hy.1);rw[←this,e2];exact b'
  unfold ent;rw[hy.1,hy.2,hM]
 have nd:∀k,((bg zs k).map (ent M)).Nodup:=λk=>by
  unfold Nodup;rw[pairwise_map];have hz:zs.Pairwise λa b=>a.2.num<b.2.num:=by
   have:=T.rise;unfold TW.eQ nds at this;rw[pairwise_map]at this;exact this
  refine(Pairwise.sublist filter_sublist hz).imp_of_mem λ{a b} ha hb lt e=>?_;obtain⟨a1,a2⟩:=bX.mp ha;obtain⟨b1,b2⟩:=bX.mp hb;unfold ent at e;injection e with e1 _
  injection e1 with e1
  injection e1 with e1
  have:=one a1 b1 (a2.trans b2.symm) e1;rw[this]at lt;omega
 intro n
 induction n using Nat.strongRecOn with
 |ind n ih =>
  intro k k' hk hk' hn hb;refine(h.eq k hk k' hk').mpr ((List.perm_ext_iff_of_nodup (nd k) (nd k')).mpr λe=>⟨sub n ih hn hb e,sub n ih (λr st b=>hn r st ((hb r st).mpr b)) (λr st=>(hb r st).symm) e⟩)
theorem lA{zs:ZN}(T:TW.Tree1 (nds zs)){k:Int}(hk:k∈ak zs):∃p,TW.PathTo (nds zs) k p:=by
 unfold ak at hk;obtain⟨z,hz,rfl⟩:=mem_map.mp hk;exact TW.PathTo.ex T (av (mem_filter.mp hz).1)
theorem Marks.iff{zs:ZN}{M:Int→Option Int}(h:Marks zs M)(T:TW.Tree1 (nds zs)){k k':Int}(hk:k∈ak zs)(hk':k'∈ak zs):M k=M k'↔∀r st,Bel zs k r st↔Bel zs k' r st:=by
 refine⟨λe r st=>⟨λb=>h.to T b hk hk' e,λb=>h.to T b hk' hk e.symm⟩,λhb=>h.back T zs.length hk hk' (λr st b=>?_) hb⟩;obtain⟨p,hp⟩:=lA T hk;obtain⟨z,_,_,hq⟩:=b.path hp;have:=hq.len T;rw[length_append]at this;unfold nds at this;rw[length_map]at this;omega
inductive BelE(zs:ZN):Int→List Str→Nd→Prop where
 |one {z:Addr×Nd}:z∈zs→BelE zs z.2.par [z.2.nm] z.2
 |step {z:Addr×Nd} {r:List Str} {n:Nd}:z∈zs→z.2.st=none→BelE zs z.2.num r n→BelE zs z.2.par (z.2.nm::r) n
theorem BelE.bel{zs:ZN}{k:Int}{r:List Str}{n:Nd}(h:BelE zs k r n):Bel zs k r n.st:=by
 induction h with
 |one hz=>exact .one hz
 |step hz hs _ ih=>exact .step hz hs ih
theorem Bel.e{zs:ZN}{k:Int}{r:List Str}{st:Option Int}(h:Bel zs k r st):∃n,BelE zs k r n∧n.st=st:=by
 induction h with
 |one hz=>exact⟨_,.one hz,rfl⟩
 |step hz hs _ ih=>obtain⟨n,h1,h2⟩:=ih;exact⟨n,.step hz hs h1,h2⟩
theorem BelE.snoc{zs:ZN}{k:Int}{r:List Str}{n:Nd}(h:BelE zs k r n):∀{y:Addr×Nd},n.st=none→y∈zs→y.2.par=n.num→BelE zs k (r++[y.2.nm]) y.2:=by
 induction h with
 |@one z hz =>
  intro y hs hy e;have:=BelE.one hy;rw[e]at this;exact .step hz hs this
 |@step z r n hz hs _ ih=>intro y h1 h2 h3;exact .step hz hs (ih h1 h2 h3)
theorem sW{ns:List Nd}{m n:Nd}(hm:m∈ns)(hs:m.st=none)(h:TW.Reach ns m.num n):TW.Reach ns m.par n:=by
 induction h with
 |base hn e=>exact .step (.base hm rfl) hs hn e
 |step _ h1 h2 h3 ih=>exact .step ih h1 h2 h3
theorem BelE.reach{zs:ZN}{k:Int}{r:List Str}{n:Nd}(h:BelE zs k r n):TW.Reach (nds zs) k n∧∀{p},TW.PathTo (nds zs) k p→TW.PathTo (nds zs) n.num (p++r):=by
 induction h with
 |@one z hz=>exact⟨.base (av hz) rfl,λhp=>.node (av hz) hp⟩
 |@step z r n hz hs _ ih =>
  refine⟨sW (av hz) hs ih.1,λ{p} hp=>?_⟩;have:=ih.2 (TW.PathTo.node (av hz) hp);rw[append_assoc]at this;exact this
theorem pM{zs:ZN}{k:Int}{n:Nd}(h:TW.Reach (nds zs) k n):∃r,BelE zs k r n:=by
 have at':∀{n:Nd},n∈nds zs→∃z∈zs,z.2=n:=λ{n} hn=>mem_map.mp hn
 induction h with
 |base hn e =>
  obtain⟨z,hz,rfl⟩:=at' hn;exact⟨_,by rw[←e];exact .one hz⟩
 |step _ hs hn e ih =>
  obtain⟨r,hr⟩:=ih;obtain⟨z,hz,rfl⟩:=at' hn;exact⟨_,hr.snoc hs hz e⟩
theorem kc{zs:ZN}(T:TW.Tree1 (nds zs)){k:Int}{pk p:List Str}{st:Option Int}(hpk:TW.PathTo (nds zs) k pk):Bel zs k p st↔∃z∈zs,TW.Reach (nds zs) k z.2∧z.2.st=st∧TW.PathTo (nds zs) z.2.num (pk++p):=by
 constructor
 ·intro h;obtain⟨n,h1,h2⟩:=h.e;obtain⟨h3,h4⟩:=h1.reach;obtain⟨z,hz,rfl⟩:=mem_map.mp h3.mem;exact⟨z,hz,h3,h2,h4 hpk⟩
 ·rintro⟨z,hz,h1,rfl,h2⟩;obtain⟨r,hr⟩:=pM h1;have:=hr.reach.2 hpk;have e:=TW.PathTo.uniq T this h2;rw[←List.append_cancel_left e];exact hr.bel
theorem cZ{zs:ZN}{k:Int}:bg zs k≠[]↔∃r st,Bel zs k r st:=by
 constructor
 ·intro h;obtain⟨z,hz⟩:=exists_mem_of_ne_nil _ h;obtain⟨h1,rfl⟩:=bX.mp hz;exact⟨_,_,.one h1⟩
 ·rintro⟨r,st,h⟩;obtain⟨z,hz,e,_⟩:=h.inv;exact List.ne_nil_of_mem (bX.mpr ⟨hz,e⟩)
def pN(m:Nat):Nat→Nat
 |0=>0
 |n+1=>min m n+pN m n
theorem pO{M:Int→Option Int}{m:Nat}:∀{xs:List Int},(∀a∈xs,(xs.filter λb=>decide (M a=M b)).length≤m+1)→((prs xs).filter λx=>decide (M x.1=M x.2)).length≤pN m xs.length
 |[],_=>zero_le _
 |a::r,h=>by
  have h1:=h a mem_cons_self;rw[filter_cons_of_pos (by simp),length_cons]at h1;have h2:(r.filter λb=>decide (M a=M b)).length≤r.length:=length_filter_le _ _;have ih:=pO (M:=M) (m:=m) (xs:=r) λb hb=>by
   have:=h b (mem_cons_of_mem _ hb);refine le_trans (Sublist.length_le ?_) this;exact Sublist.filter _ (List.sublist_cons_self _ _)
  unfold prs;rw[filter_append,length_append,filter_map,length_map,length_cons];show(r.filter λb=>decide (M a=M b)).length+_≤min m r.length+pN m r.length;omega
theorem sX:∀f:Fin 19,∀m:Fin 19,f.val+(m.val+1)≤18→pN m.val f.val<64:=by decide +kernel
theorem pP{zs:ZN}{k:Int}:∀b:Nat,(∀r st,Bel zs k r st→r.length≤b)→(∃r st,Bel zs k r st)→∃r st,Bel zs k r st∧∀r' st',Bel zs k r' st'→r'.length≤r.length
 |0,h,⟨r,st,x⟩=>⟨r,st,x,λr' st' y=>by have:=h _ _ y;omega⟩
 |b+1,h,e=>by
  by_cases hx:∃r st,Bel zs k r st∧r.length=b+1
  ·obtain⟨r,st,x,el⟩:=hx;exact⟨r,st,x,λr' st' y=>by rw[el];exact h _ _ y⟩
  ·refine pP b (λr st y=>?_) e;have h1:=h _ _ y;have h2:r.length≠b+1:=λz=>hx ⟨r,st,y,z⟩;omega
theorem ke{zs:ZN}{M:Int→Option Int}(h:Marks zs M)(T:TW.Tree1 (nds zs)){k:Int}(hk:k∈aq zs):(aq zs).length+((aq zs).filter λb=>decide (M k=M b)).length≤zs.length:=by
 have bound:∀{j},j∈ak zs→∀r st,Bel zs j r st→r.length≤zs.length:=λ{j} hj r st b=>by
  obtain⟨p,hp⟩:=lA T hj;obtain⟨z,_,_,hq⟩:=b.path hp;have:=hq.len T;rw[length_append]at this;unfold nds at this;rw[length_map]at this;omega
 have hfo:=cY hk;have hne:bg zs k≠[]:=λe=>by
  have:=(mem_filter.mp hk).2;rw[e]at this;cases this
 obtain⟨r,st,hb,hmax⟩:=pP zs.length (bound hfo) (cZ.mp hne);have key:∀j∈(aq zs).filter (λb=>decide (M k=M b)),∃n,n∈nds zs∧n.num∉aq zs∧∃p,TW.PathTo (nds zs) j p∧TW.PathTo (nds zs) n.num (p++r):=λj hj=>by
  obtain⟨h1,h2⟩:=mem_filter.mp hj;rw[decide_eq_true_eq]at h2;have hjf:=cY h1;have same:=(h.iff T hfo hjf).mp h2;obtain⟨n,hn,_⟩:=((same r st).mp hb).e;obtain⟨p,hp⟩:=lA T hjf;obtain⟨r1,r2⟩:=hn.reach;refine⟨n,r1.mem,λhf=>?_,p,hp,r2 hp⟩;obtain⟨z,hz,rfl⟩:=mem_map.mp r1.mem;have hs:=vN T hz (cY hf);have hne':bg zs z.2.num≠[]:=λe=>by
   have:=(mem_filter.mp hf).2;rw[e]at this;cases this
  obtain⟨y,hy⟩:=exists_mem_of_ne_nil _ hne';obtain⟨y1,y2⟩:=bX.mp hy;have:=hmax _ _ ((same _ _).mpr (hn.snoc hs y1 y2).bel);rw[length_append,length_cons]at this;omega
 obtain⟨φ,hφ⟩:∃φ:Int→Int,∀j∈(aq zs).filter (λb=>decide (M k=M b)),φ j∈(nds zs).map (·.num)∧φ j∉aq zs∧∃p,TW.PathTo (nds zs) j p∧TW.PathTo (nds zs) (φ j) (p++r):=by
  refine⟨λj=>(Classical.epsilon λx=>x∈(nds zs).map (·.num)∧x∉aq zs∧∃p,TW.PathTo (nds zs) j p∧TW.PathTo (nds zs) x (p++r)),λj hj=>?_⟩;obtain⟨n,n1,n2,n3⟩:=key j hj;exact Classical.epsilon_spec (p:=λx=>x∈(nds zs).map (·.num)∧x∉aq zs∧∃p,TW.PathTo (nds zs) j p∧TW.PathTo (nds zs) x (p++r)) ⟨n.num,mem_map.mpr ⟨n,n1,rfl⟩,n2,n3⟩
 generalize hG:(aq zs).filter (λb=>decide (M k=M b))=G at hφ⊢;have gn:G.Nodup:=by rw[←hG];exact Pairwise.filter _ (dZ T)
 have nd:(aq zs++G.map φ).Nodup:=by
  refine nodup_append.mpr ⟨dZ T,?_,λx hx y hy e=>?_⟩
  ·unfold Nodup;rw[pairwise_map];refine Pairwise.imp_of_mem (λ{a b} ha hb n e=>?_) gn;obtain⟨_,_,p,p1,p2⟩:=hφ a ha;obtain⟨_,_,q,q1,q2⟩:=hφ b hb;rw[e]at p2;have:=List.append_cancel_right (TW.PathTo.uniq T p2 q2);rw[this]at p1;exact n (TW.PathTo.key T p1 q1)
  ·obtain⟨j,hj,rfl⟩:=mem_map.mp hy;exact(hφ j hj).2.1 (by rw[←e];exact hx)
 have:=gE nd (m:=(nds zs).map (·.num)) λx hx=>by
  rcases mem_append.mp hx with hx|hx
  ·have:=cY hx;unfold ak at this;obtain⟨z,hz,rfl⟩:=mem_map.mp this;exact mem_map.mpr ⟨z.2,av (mem_filter.mp hz).1,rfl⟩
  ·obtain⟨j,hj,rfl⟩:=mem_map.mp hx;exact(hφ j hj).1
 rw[length_append,length_map,length_map]at this;unfold nds at this;rw[length_map]at this;exact this
theorem few{zs:ZN}{M:Int→Option Int}(h:Marks zs M)(T:TW.Tree1 (nds zs))(hl:zs.length≤18):((prs (aq zs)).filter λx=>decide (M x.1=M x.2)).length<64:=by
 by_cases e:(aq zs).length=0
 ·rw[length_eq_zero_iff.mp e];exact(by decide:0<64)
 have hf:(aq zs).length+1≤18:=by
  obtain⟨k,hk⟩:=exists_mem_of_ne_nil (aq zs) (λz=>e (by rw[z];rfl));have h1:=ke h T hk;have h2:0<((aq zs).filter λb=>decide (M k=M b)).length:=List.length_pos_of_mem (mem_filter.mpr ⟨hk,by simp⟩);omega
 refine lt_of_le_of_lt (pO (m:=17-(aq zs).length) λa ha=>?_) (sX ⟨(aq zs).length,by omega⟩ ⟨17-(aq zs).length,by omega⟩ (by show(aq zs).length+(17-(aq zs).length+1)≤18;omega));have:=ke h T ha;omega
section
variable{P:Program}{w:World}{K:PySem.W.Frag}{mg:Str→Option Value}{base:Heap}
def lB:Sp:=λvs H Q _=>∃t zs,vs=[.ref t]∧Tre H t zs∧∀d as H',Same H H'→H d=none→Book H' d as zs→H' d=some (.dK (cT as))→Q (.ref d) H'
theorem xp:FnScope ["_law_tree_here"] ["_law_tree_here"] (ai su):=fsM
theorem vb{f:Addr}{fd:FuncData}(F:Fun K "_law_book" "_law_book" su f fd)(T:Txt mg):FnOk P w K mg base CX0 1 f fd ["_law_tree_here"] lB:=by
 refine F.ok xp (λvs H Q E h=>?_) (λcdv A outer s H vs Q E hr h=>?_)
 ·obtain⟨t,zs,rfl,_⟩:=h;rfl
 ·obtain⟨t,zs,rfl,tr,k⟩:=h;have hnd:=bc tr.tr;have hl:=tr.len;have ht:=tr.tup;have hA:=tr.nod;refine⟨_,al (aM (bh (ig rfl) rfl T.dict boot_dict (aa (ic (N:=["_law_node"]) (k:=1) (js:=[]) (g:=bn 0) rfl (gT rfl (by decide +kernel) (by decide +kernel) (by decide +kernel)) rfl (λi j x h=>by simp at h)
   (dI (pv 0)) (λs H fp=>aA (i:=0) (show(["_law_node"]:List Str).Nodup by decide +kernel) rfl (Or.inl rfl) (Or.inr rfl))
   (λs H fp=>bo (aa (aD (r:=gf K) ax (pv 0) aj (λ_ _=>rfl)) (aa (eM (r:=rg K) kG (pv 0) (eT aj) iF) ag)))) ag))),?_⟩
  refine⟨_,rfl,t,rfl,⟨_,SqT.of ht⟩,λp hp=>?_⟩;refine ol (fr:=[]) zs.length (by omega) hp rfl (λi y H'=>∃q t' z,zs[i]?=some z∧y=.ref q∧q≠p∧t'≠p∧H' q=some (.tup [.int z.2.num,.ref t'])∧H' t'=some (.tup (eF z.2))) (λi y H1 H2 h ex=>?_) (λi H' hi s1=>?_) (λH' s1=>?_) ?_ (λi H' x H2 hi s1 hpl hy=>?_) (λys H' s1 hp' hlen hys=>?_)
  ·obtain⟨q,t',z,e1,e2,e3,e4,e5,e6⟩:=h;exact⟨q,t',z,e1,e2,e3,e4,ex q _ e3 e5,ex t' _ e4 e6⟩
  ·exact⟨_,_,SqT.of (s1 _ _ ht),jj (getElem?_eq_getElem hi)⟩
  ·exact⟨_,SqT.of (s1 _ _ ht),by rw[bt];exact le_refl _⟩
  ·rintro _ _ _ _ m ⟨v1,b1,p1,xs,i1,v2,c1,c2,c3,c4,v3,b3,i3,d0,a3,xs3,d1,d2,d3,q⟩;refine⟨v1,b1,p1,xs,i1,v2,c1,c2,c3,c4,v3,b3,i3,d0,a3,xs3,d1,d2,d3,λl hl=>?_⟩;obtain⟨hz',q'⟩:=q l hl;exact⟨hz',λl' hl'=>m _ _ (q' l' hl')⟩
  ·obtain⟨rfl,hx⟩:=hy;obtain⟨z,gz,rfl⟩:=cy (hx _ (SqT.of (s1 _ _ ht)));have mz:=mem_of_getElem? gz;have hz1:=s1 _ _ (hA z mz);have ecut:fj (vals z.2) (some 1) none=eF z.2:=rfl;refine⟨rfl,_,rfl,z.1,_,_,_,rfl,rfl,SqT.of hz1,at0 z.2,_,rfl,_,rfl,z.1,_,rfl,SqT.of hz1,(by intro h;exact absurd h.1 (show ¬HT.sIx 4 0 (some 1)=0 by decide)),λt' ht'=>?_⟩;rw[ecut];have s2:=ae (o:=.tup (eF z.2)) ht';have hpl2:∃ys,upd H2 t' (.tup (eF z.2)) p=some (.lst ys):=let⟨ys,e⟩:=hpl;⟨ys,s2 _ _ e⟩;refine⟨le2,λq hq=>⟨s2.trans (ae hq),q,t',z,gz,rfl,gU hpl2 hq,gU hpl ht',ac,cQ hq ac⟩⟩
  ·obtain⟨as,e1,e2,e3⟩:∃as:List ((Addr×Addr)×(Addr×Nd)),as.map (·.2)=zs∧ys=(as.map (·.1.1)).map V.ref∧∀a∈as,H' a.1.1=some (.tup [.int a.2.2.num,.ref a.1.2])∧H' a.1.2=some (.tup (eF a.2.2)):=by
    clear hp';have main:∀(ys:List V)(xs:ZN),ys.length=xs.length→(∀(i:Nat) y,ys[i]?=some y→∃q t' z,xs[i]?=some z∧y=.ref q∧q≠p∧t'≠p∧H' q=some (.tup [.int z.2.num,.ref t'])∧H' t'=some (.tup (eF z.2))) →
      ∃as:List ((Addr×Addr)×(Addr×Nd)),as.map (·.2)=xs∧ys=(as.map (·.1.1)).map V.ref∧∀a∈as,H' a.1.1=some (.tup [.int a.2.2.num,.ref a.1.2])∧H' a.1.2=some (.tup (eF a.2.2)):=by
     intro ys
     induction ys with
     |nil =>
      intro xs hl _;have:xs=[]:=length_eq_zero_iff.mp hl.symm;subst this;exact⟨[],rfl,rfl,by simp⟩
     |cons y ys ih =>
      intro xs hl h;cases xs with
      |nil=>simp at hl
      |cons x xs =>
       obtain⟨as,e1,e2,e3⟩:=ih xs (by simpa using hl) λi y hy=>by simpa using h (i+1) y (by simpa using hy)
       obtain⟨q,t',z,f1,f2,f3,f4,f5,f6⟩:=h 0 y rfl;have:x=z:=by simpa using f1
       subst this;refine⟨((q,t'),x)::as,by simp[e1],by simp[e2,f2],λa ha=>?_⟩;rcases mem_cons.mp ha with rfl|ha
       ·exact⟨f5,f6⟩
       ·exact e3 a ha
    exact main ys zs hlen hys
   have hal:as.length=zs.length:=by rw[←e1,length_map]
   refine⟨p,as.map λa=>(a.1.1,(Sum.inl a.2.2.num:Key),V.ref a.1.2),rfl,?_,?_,?_,?_,λd hd=>?_⟩
   ·rw[hp',e2,map_map,map_map,map_map];rfl
   ·intro z hz;obtain⟨a,ha,rfl⟩:=mem_map.mp hz;exact(e3 a ha).1
   ·rw[length_map];omega
   ·rw[map_map];have:(as.map ((λx:Addr×Key×V=>x.2.1)∘λa=>(a.1.1,(Sum.inl a.2.2.num:Key),V.ref a.1.2)))=((nds zs).map (·.num)).map (Sum.inl:Int→Key):=by
     rw[←e1];unfold nds;simp only[map_map];rfl
    rw[this];unfold Nodup at hnd⊢;rw[pairwise_map];exact hnd.imp λh e=>h (by injection e)
   ·have sd:=ae (o:=.dK ((as.map λa=>(a.1.1,(Sum.inl a.2.2.num:Key),V.ref a.1.2)).map (·.2))) hd;have ed:upd H' d (.dK ((as.map λa=>(a.1.1,(Sum.inl a.2.2.num:Key),V.ref a.1.2)).map (·.2))) d=some (.dK (cT (as.map λa=>(a.1.2,a.2)))):=by
     rw[ac];refine congrArg (λx=>some (HO.dK x)) ?_;unfold cT;simp only[map_map];rfl
    refine k d (as.map λa=>(a.1.2,a.2)) _ (s1.trans sd) (s1.free hd) ⟨.inl ed,by rw[map_map];exact e1,λa ha=>?_⟩ ed;obtain⟨b,hb,rfl⟩:=mem_map.mp ha;exact sd _ _ (e3 b hb).2
theorem vO:FnScope ["_law_book_here","_law_number","_law_goal"] ["_law_book_here","_law_number","_law_goal"] (ai ou):=fsM
end
end TK
namespace L2
open PySem PySem.Spec PyProof.Rows
section
variable{P:Program}{w:World}{H:Hp}{s s1:Shared}{K:PySem.W.Frag}{mg:Str→Option Value}{base:Heap}{A:Around}{outer:List Env}{k:Nat}{f:Addr}{fd:FuncData}{y:Str}{spK:Sp}{key:V→Int}
end
section
variable{X:Cx}{pins:List (Addr×Obj)}{σ:St}{H:Hp}{s:Shared}
theorem pQ{us:List Value}{j:Nat}{u:Value}(h1:j<us.toArray.size)(hu:us[j]?=some u):us.toArray[j]=u:=by
 have:us[j]?=some us.toArray[j]:=by rw[getElem?_eq_getElem (by simpa using h1)];simp
 rw[hu]at this;exact(Option.some.inj this).symm
end
end L2
namespace TK
open PySem L2
section
variable{P:Program}{w:World}{K:PySem.W.Frag}{mg:Str→Option Value}{base:Heap}
def qO:Sp:=λvs H Q _=>∃d k as zs p,vs=[.ref d,.int k]∧Book H d as zs∧TW.Tree1 (nds zs)∧zs.length≤30∧TW.PathTo (nds zs) k p∧∀t H',Same H H'→H' t=some (.tup (p.map V.str))→Q (.ref t) H'
theorem vc:FnScope ["_law_book_here","_law_number","_law_names"] ["_law_book_here","_law_number"] (ai oq):=fsM
theorem yz{f:Addr}{fd:FuncData}(F:Fun K "_law_path" "_law_path" oq f fd)(T:Txt mg):FnOk P w K mg base CX0 1 f fd ["_law_book_here","_law_number"] qO:=by
 refine F.ok vc (λvs H Q E h=>?_) (λcdv A outer s H vs Q E hr h=>?_)
 ·obtain⟨d,k,as,zs,p,rfl,_⟩:=h;rfl
 ·obtain⟨d,k,as,zs,p,rfl,bk,hTr,hl,hp,q⟩:=h;have hnd:=bc hTr;refine⟨_,ah (aw (i:=2) vc.nd rfl (Or.inl rfl) (bq ag))
   (ah (fR PassesOwn.never (au fY (pv 1) aj (aC _))
    (ah (aw (i:=2) vc.nd rfl (Or.inl rfl) (aQ ro (bq (aa (aD ax (aZ (aS hr) (pv 0) (pv 1) (λ_ _=>rfl)) aj (λ_ _=>rfl)) ag)) (pv 2)))
    (al (aw (i:=1) vc.nd rfl (Or.inl rfl) (aD ax (aZ (aS hr) (pv 0) (pv 1) (λ_ _=>rfl)) aj (λ_ _=>rfl))))))
   (al (aM (bh bu rfl T.tuple rfl (aa (pv 2) ag))))),?_⟩
  refine⟨zero_le _,λpn hpn=>?_⟩;dsimp only[bn,qV];refine fX (λσ H'=>∃at' q' r pn,σ=[some (.ref d),some (.int at'),some (.ref pn)]∧TW.PathTo (nds zs) at' q'∧p=q'++r∧H' pn=some (.lst (r.map V.str))∧Same H H')
   (λσ H'=>match σ with | [_,some (.int k),_]=>fk (nds zs) k | _=>0) ⟨k,p,[],pn,rfl,hp,by simp,ac,ae hpn⟩ (λσ H' h=>?_) ?_
  ·obtain⟨at',q',r,pn,rfl,hq',ep,en,s1⟩:=h;refine⟨_,rfl,rfl,_,rfl,?_⟩
   by_cases h0:at'=0
   ·subst h0;have e0:q'=[]:=hq'.zero hTr rfl;subst e0;refine aX ⟨_,rfl,pn,_,rfl,.inl ⟨SqL.of en,λt ht=>q t _ (s1.trans (ae ht)) ?_⟩⟩;rw[ac,ep,nil_append]
   ·have hne:decide (V.int at'=V.int 0)=false:=by simp[h0]
    rw[hne];refine bx ?_;obtain⟨z,hz,e1,q'',e2,hq''⟩:=ll hTr hq' h0;subst e1;obtain⟨b,hb1,hb2⟩:=(bk.same s1).get hnd hz;have hrl:r.length≤100:=by
     have h1:=hp.len hTr;have h2:=congrArg length ep;rw[aG]at h1;rw[length_append]at h2;omega
    refine⟨_,rfl,_,rfl,d,_,rfl,hb1,b,_,_,_,rfl,rfl,SqT.of hb2,ye z.2,aK (show 1≤1000 by decide),λl1 hl1=>?_⟩;have s2:=ae (o:=.lst [.str z.2.nm]) hl1;refine⟨_,rfl,l1,pn,_,_,rfl,rfl,ac,s2 _ _ en,aK (by simp;omega),λl2 hl2=>?_⟩;have s3:=s2.trans (ae (o:=.lst ([.str z.2.nm]++r.map V.str)) hl2);obtain⟨b',hb1',hb2'⟩:=(bk.same (s1.trans s3)).get hnd hz;refine⟨_,rfl,_,rfl,d,_,rfl,hb1',b',_,_,_,rfl,rfl,SqT.of hb2',wM z.2,?_⟩;refine⟨⟨z.2.par,q'',z.2.nm::r,l2,rfl,hq'',by rw[ep,e2];simp,ac,s1.trans s3⟩,?_⟩;show fk (nds zs) z.2.par<fk (nds zs) z.2.num;rw[cM hTr hq'',cM hTr hq',e2];simp
  ·rintro σ H1 Q1 Q2 m ⟨v,e,h2,b,e3,q⟩;exact⟨v,e,h2,b,e3,m _ _ q⟩
end
theorem qP{α β:Type}{g:α→β}{l:List α}(h:(l.map g).Nodup){a b:α}(ha:a∈l)(hb:b∈l)(e:g a=g b):a=b:=by
 induction l with
 |nil=>cases ha
 |cons x r ih =>
  rw[map_cons,nodup_cons]at h;rcases mem_cons.mp ha with ea|ha'<;>rcases mem_cons.mp hb with eb|hb'
  ·rw[ea,eb]
  ·exact absurd (mem_map.mpr ⟨b,hb',by rw[←e,ea]⟩) h.1
  ·exact absurd (mem_map.mpr ⟨a,ha',by rw[e,eb]⟩) h.1
  ·exact ih h.2 ha' hb'
def vP(zs:ZN):List V:=zs.map λz=>V.int z.2.num
theorem eA{α:Type}{R:α→α→Prop}(irr:∀a,¬R a a)(asy:∀a b,R a b→¬R b a):∀{l m:List α},l.Pairwise R→m.Pairwise R→(∀x,x∈l↔x∈m)→l=m
 |[],[],_,_,_=>rfl
 |[],b::m,_,_,h=>absurd ((h b).mpr mem_cons_self) (by simp)
 |a::l,[],_,_,h=>absurd ((h a).mp mem_cons_self) (by simp)
 |a::l,b::m,hl,hm,h=>by
  obtain⟨l1,l2⟩:=pairwise_cons.mp hl;obtain⟨m1,m2⟩:=pairwise_cons.mp hm;have e:a=b:=by
   rcases mem_cons.mp ((h a).mp mem_cons_self)with e|h1
   ·exact e
   ·rcases mem_cons.mp ((h b).mpr mem_cons_self)with e|h2
    ·exact e.symm
    ·exact absurd (m1 a h1) (asy _ _ (l1 b h2))
  subst e;rw[eA irr asy l2 m2 λx=>⟨λhx=>?_,λhx=>?_⟩]
  ·rcases mem_cons.mp ((h x).mp (mem_cons_of_mem _ hx))with e|h1
   ·subst e;exact absurd (l1 x hx) (irr _)
   ·exact h1
  ·rcases mem_cons.mp ((h x).mpr (mem_cons_of_mem _ hx))with e|h1
   ·subst e;exact absurd (m1 x hx) (irr _)
   ·exact h1
section
variable{P:Program}{w:World}{K:PySem.W.Frag}{mg:Str→Option Value}{base:Heap}{f:Addr}
def sY:Sp:=λvs H Q _=>∃d k zs,vs=[.ref d,.int k]∧ix H d zs∧At H zs∧((nds zs).map (·.num)).Nodup∧0≤k∧k≤99∧(k=0∨∃z∈zs,z.2.num=k∧z.2.st=none)∧Q .non H
theorem yA:FnScope ["nodes","number"] ["nodes","number"] (ai sf):=fsM
theorem xq{CN0:Addr}{fd:FuncData}(F:Fun K "check_folder" "check_folder" sf f fd)(T:Txt mg)(CN:cB P w K mg base 1 "node_of" ["nodes","number"] (im CN0)):FnOk P w K mg base CX0 2 f fd ["nodes","number"] sY:=by
 obtain⟨fN,fdN,GN,mN,kN,bN⟩:=CN;obtain⟨tt,hT⟩:=T.top;refine F.ok yA (λvs H Q E h=>?_) (λcdv A outer s H vs Q E hr h=>?_)
 ·obtain⟨d,k,zs,rfl,_⟩:=h;rfl
 ·obtain⟨d,k,zs,rfl,hd,hA,hnd,k0,k1,hk,q⟩:=h;refine⟨_,al (bj (PW.pt (pw_and (au fY (pv 1) (iB (v:=.int 0) rfl hT ⟨_,rfl⟩) (aC _)) (pw_and1 (au kx (aD ax (am GN hr rfl mN kN bN .nil pc (aa (pv 0) (aa (pv 1) ag))) aj (λ_ _=>rfl)) dj (aC _))))) gM aH),?_⟩
  by_cases h0:k=0
  ·subst h0;exact⟨_,rfl,rfl,_,rfl,aX (aX q)⟩
  ·obtain⟨z,hz,e,hs⟩:=hk.resolve_left h0;refine⟨_,rfl,rfl,_,rfl,?_⟩;rw[show(!decide (V.int k=V.int 0))=true by simp[h0]];refine bx ⟨_,rfl,_,rfl,d,k,zs,rfl,hd,hnd,k0,k1,λy hy ey=>?_,λhno=>absurd e (hno z hz)⟩;have:y=z:=qP (g:=λz:Addr×Nd=>z.2.num) (by unfold nds at hnd;rw[map_map]at hnd;exact hnd) hy hz (ey.trans e.symm);subst this;refine⟨y.1,_,_,_,rfl,rfl,SqT.of (hA y hy),at3 y.2,rfl,_,rfl,?_⟩;rw[hs];exact aX q
def kg:Sp:=λvs H Q _=>∃d k g as zs p,vs=[.ref d,.int k,.int g]∧Book H d as zs∧TW.Tree1 (nds zs)∧TW.PathTo (nds zs) k p∧∀b,(b=true↔TW.Und (nds zs) g k)→Q (.bl b) H
theorem xr{f:Addr}{fd:FuncData}(F:Fun K "_law_under" "_law_under" ou f fd):FnOk P w K mg base CX0 1 f fd ["_law_book_here","_law_number","_law_goal"] kg:=by
 refine F.ok vO (λvs H Q E h=>?_) (λcdv A outer s H vs Q E hr h=>?_)
 ·obtain⟨d,k,g,as,zs,p,rfl,_⟩:=h;rfl
 ·obtain⟨d,k,g,as,zs,p,rfl,bk,hTr,hp,q⟩:=h;have hnd:=bc hTr;refine⟨_,ah (fR PassesOwn.never (PW.pt (pw_and (au fY (pv 1) aj (aC _)) (pw_and1 (au fY (pv 1) (pv 2) (aC _)))))
    (al (aw (i:=1) vO.nd rfl (Or.inl rfl) (aD ax (aZ (aS hr) (pv 0) (pv 1) (λ_ _=>rfl)) aj (λ_ _=>rfl)))))
   (al (aM (iD eD (pv 1) (pv 2) (aC _)))),?_⟩
  refine fX (λσ H'=>∃at' q',σ=[some (.ref d),some (.int at'),some (.int g)]∧TW.PathTo (nds zs) at' q'∧(TW.Und (nds zs) g k↔TW.Und (nds zs) g at')∧H'=H)
   (λσ H'=>match σ with | [_,some (.int k),_]=>fk (nds zs) k | _=>0) ⟨k,p,rfl,hp,Iff.rfl,rfl⟩ (λσ H' h=>?_) ?_
  ·obtain⟨at',q',rfl,hq',hu,rfl⟩:=h;have last:∀b:Bool,(b=true↔TW.Und (nds zs) g at')→Q (.bl b) H':=λb hb=>q b (hb.trans hu.symm);refine⟨_,rfl,rfl,_,rfl,?_⟩
   by_cases h0:at'=0
   ·have hne:decide (V.int at'=V.int 0)=true:=by simp[h0]
    rw[hne];refine aX (aX ⟨_,rfl,_,rfl,rfl,last _ ?_⟩);rw[decide_eq_true_eq];constructor
    ·intro e;injection e with e;rw[←e];exact .here
    ·intro hx;have:=hx.zero hTr h0;rw[h0,this]
   ·have hne:decide (V.int at'=V.int 0)=false:=by simp[h0]
    rw[hne];refine bx ⟨_,rfl,_,rfl,rfl,_,rfl,?_⟩
    by_cases hg':at'=g
    ·have hne:decide (V.int at'=V.int g)=true:=by simp[hg']
     rw[hne];refine aX ⟨_,rfl,_,rfl,rfl,last _ ?_⟩;rw[hne];constructor
     ·intro _;rw[hg'];exact .here
     ·intro _;rfl
    ·have hne:decide (V.int at'=V.int g)=false:=by simp[hg']
     rw[hne];refine bx ?_;obtain⟨z,hz,e1,q'',e2,hq''⟩:=ll hTr hq' h0;subst e1;obtain⟨b,hb1,hb2⟩:=bk.get hnd hz;refine⟨_,rfl,_,rfl,d,_,rfl,hb1,b,_,_,_,rfl,rfl,SqT.of hb2,wM z.2,?_⟩;have mz:z.2∈nds zs:=mem_map.mpr ⟨z,hz,rfl⟩;refine⟨⟨z.2.par,q'',rfl,hq'',hu.trans ⟨λh=>h.inv hTr mz rfl hg',λh=>.up mz h⟩,rfl⟩,?_⟩;show fk (nds zs) z.2.par<fk (nds zs) z.2.num;rw[cM hTr hq'',cM hTr hq',e2];simp
  ·rintro σ H1 Q1 Q2 m ⟨v,e,h2,b,e3,q⟩;refine⟨v,e,h2,b,e3,?_⟩;cases b with
   |false=>exact m _ _ q
   |true =>
    obtain⟨v1,f1,v2,f2,h3,b',e4,q'⟩:=q;exact⟨v1,f1,v2,f2,h3,b',e4,m _ _ q'⟩
end
end TK
namespace TW
theorem oC{S:Type}{ns:List (Nd S)}{n:Nd S}(h:Reach ns 0 n):Und ns 0 n.num:=by
 induction h with
 |base hn e=>exact .up hn (by rw[e];exact .here)
 |step _ _ hn e ih=>exact .up hn (by rw[e];exact ih)
theorem qQ{S:Type}{ns:List (Nd S)}(T:Tree1 ns){k:Int}(hk:k=0∨1≤k){n:Nd S}(hn:n∈ns):Reach ns k n↔n.num≠k∧Und ns k n.num:=by
 rcases hk with e|h
 ·subst e;have h1:=T.down n hn;have h2:=T.pos n hn;exact⟨λ_=>⟨by omega,oC h1⟩,λ_=>h1⟩
 ·exact cO T h hn
end TW
namespace TK
open PySem L2
def nums(zs:ZN):List Int:=zs.map λz=>z.2.num
theorem oD(zs:ZN):vP zs=(nums zs).map V.int:=by unfold vP nums;rw[map_map];rfl
theorem sZ{l m:List Int}(hl:l.Pairwise λa b:Int=>a<b)(hm:m.Pairwise λa b:Int=>a<b)(h:∀x,x∈l↔x∈m):l=m:=eA (R:=λa b:Int=>a<b) (λa=>Int.lt_irrefl a) (λa b h1 h2=>by omega) hl hm h
def isB(zs:ZN)(k:Int)(z:Addr×Nd):Bool:=@decide (TW.Reach (nds zs) k z.2) (Classical.propDecidable _)
theorem gK{zs:ZN}{k:Int}{z:Addr×Nd}:isB zs k z=true↔TW.Reach (nds zs) k z.2:=@decide_eq_true_iff _ (Classical.propDecidable _)
theorem tf{zs:ZN}(T:TW.Tree1 (nds zs))(g:Addr×Nd→Bool):(nums (zs.filter g)).Pairwise λa b:Int=>a<b:=by
 have:=T.rise;unfold TW.eQ nds at this;unfold nums;rw[pairwise_map]at this⊢;exact this.sublist filter_sublist
def bel(zs:ZN)(k:Int):ZN:=zs.filter (isB zs k)
theorem vd{zs:ZN}{k:Int}{z:Addr×Nd}(h:z∈bel zs k):z∈zs:=(mem_filter.mp h).1
theorem ve(zs:ZN)(k:Int):(bel zs k).length≤zs.length:=length_filter_le _ _
theorem vf{zs:ZN}(T:TW.Tree1 (nds zs)){k:Int}{ms:List Int}(hu:ms.Pairwise λa b:Int=>a<b)(hm:∀x,x∈ms↔∃n∈nds zs,n.num=x∧TW.Reach (nds zs) k n):ms=nums (bel zs k) :=
 sZ hu (tf T _) λx=>by
  rw[hm];unfold nums bel;rw[mem_map];constructor
  ·rintro⟨n,hn,e,hr⟩;obtain⟨z,hz,rfl⟩:=cU hn;exact⟨z,mem_filter.mpr ⟨hz,gK.mpr hr⟩,e⟩
  ·rintro⟨z,hz,e⟩;have:=mem_filter.mp hz;exact⟨z.2,av this.1,e,gK.mp this.2⟩
def Fold(zs:ZN)(k:Int):Prop:=k=0∨∃z∈zs,z.2.num=k∧z.2.st=none
abbrev yB(K:PySem.W.Frag):V→Option Int→Option Int→Hp→VK→Prop:=λx lo hi H Q=>rg K x lo hi H Q∨∃a xs,x=.ref a∧SqT K H a xs∧HT.sIx xs.length 0 lo=0∧HT.sIx xs.length xs.length hi=xs.length∧Q (.ref a) H
theorem cut_from{xs:List V}{k:Nat}(h:k≤xs.length):fj xs (some (k:Int)) none=xs.drop k:=by
 unfold fj;rw[HT.iE,HT.iR,Nat.min_eq_left h,←length_drop,take_length]
theorem vg{K:PySem.W.Frag}{H:Hp}{t:Addr}{pk r:List Str}{Q:VK}(ht:H t=some (.tup ((pk++r).map V.str)))(q:∀t' H',Same H H'→H' t'=some (.tup (r.map V.str))→Q (.ref t') H'):yB K (.ref t) (some (pk.length:Int)) none H Q:=by
 have hle:pk.length≤((pk++r).map V.str).length:=by rw[length_map,length_append];omega
 by_cases h:pk=[]
 ·subst h;exact .inr ⟨t,_,rfl,SqT.of ht,by rw[HT.iE];simp,by rw[HT.iR],q t H (Same.refl _) (by simpa using ht)⟩
 ·refine .inl ⟨t,_,rfl,SqT.of ht,λz=>?_,λt' ht'=>q t' _ (ae ht') ?_⟩
  ·have:=z.1;rw[HT.iE,Nat.min_eq_left hle]at this;exact h (length_eq_zero_iff.mp this)
  ·rw[ac,cut_from hle,←List.map_drop,List.drop_left]
theorem tm{zs:ZN}(T:TW.Tree1 (nds zs)){k:Int}(hk:k=0∨1≤k){pk:List Str}(hpk:TW.PathTo (nds zs) k pk){z:Addr×Nd}(hz:z∈bel zs k){p:List Str}(hp:TW.PathTo (nds zs) z.2.num p):∃r,p=pk++r:=by
 have h:=mem_filter.mp hz;have hu:=((TW.qQ T hk (av h.1)).mp (gK.mp h.2)).2;obtain⟨q,r,h1,h2⟩:=TW.sC T hu hp;exact⟨r,by rw[h2,h1.uniq T hpk]⟩
structure ShAt(H:Hp)(zs:ZN)(k:Int)(pk:List Str)(cs:List Cv):Prop where
 at':∀c∈cs,ls H c
 up:cs.Pairwise λa b=>HT.cu a.p b.p=true
 mem:∀p v,(∃c∈cs,c.p=p∧c.v=v)↔∃z∈bel zs k,v=stV z.2.st∧TW.PathTo (nds zs) z.2.num (pk++p)
theorem vh{zs:ZN}(T:TW.Tree1 (nds zs)){k:Int}(h:Fold zs k):k=0∨1≤k:=by
 rcases h with h|⟨z,hz,e,_⟩
 ·exact .inl h
 ·have:=T.pos z.2 (av hz);exact .inr (by omega)
theorem xt(n:Nd):cF (stV n.st)=true∧eqV (stV n.st) (stV n.st)=true:=by
 cases n.st with
 |none=>exact⟨rfl,rfl⟩
 |some i=>exact⟨rfl,by simp[stV,eqV]⟩
section
variable{P:Program}{w:World}{K:PySem.W.Frag}{mg:Str→Option Value}{base:Heap}{f:Addr}
def jv:Sp:=λvs H Q _=>∃t k zs pk,vs=[.ref t,.int k]∧Tre H t zs∧0≤k∧k≤99∧Fold zs k∧TW.PathTo (nds zs) k pk∧∀l cs H',Same H H'→H' l=some (.lst (cs.map λc=>V.ref c.a))→ShAt H' zs k pk cs→Q (.ref l) H'
theorem tu:FnScope ["tree","number","nodes","start"] ["tree","number"] (ai gD):=fsM
theorem xu{CN0:Addr}{fd:FuncData}(F:Fun K "shape" "shape" gD f fd)(T:Txt mg)(CB:Has P w K mg base 1 "by_number" ["tree"] gH)(CF:Has P w K mg base 2 "check_folder" ["nodes","number"] sY)(CU:Has P w K mg base 1 "path_up" ["nodes","number"] pC)(CL:cB P w K mg base 2 "below" ["tree","number"] (ng CN0)):FnOk P w K mg base CX0 3 f fd ["tree","number"] jv:=by
 obtain⟨fB,fdB,GB,mB,kB,bB⟩:=CB;obtain⟨fF,fdF,GF,mF,kF,bF⟩:=CF;obtain⟨fU,fdU,GU,mU,kU,bU⟩:=CU;obtain⟨fL,fdL,GL,mL,kL,bL⟩:=CL;refine F.ok tu (λvs H Q E h=>?_) (λcdv A outer s H vs Q E hr h=>?_)
 ·obtain⟨t,k,zs,pk,rfl,_⟩:=h;rfl
 ·obtain⟨t,k,zs,pk,rfl,tr,k0,k1,hk,hpk,q⟩:=h;have hr1:Room 1 _:=hr.mono (by decide);refine⟨_,ah (aw (i:=2) tu.nd rfl (Or.inr rfl) (am GB hr1 rfl mB kB bB .nil aU (aa (pv 0) ag)))
   (ah (ba (am GF hr rfl mF kF bF .nil aU (aa (pv 2) (aa (pv 1) ag))))
   (ah (aw (i:=3) tu.nd rfl (Or.inr rfl) (aL aV rfl T.len boot_len (aa (am GU hr1 rfl mU kU bU .nil aU (aa (pv 2) (aa (pv 1) ag))) ag)))
   (al (aM (aL (iz (ox hr)) rfl T.sorted boot_sorted (aa (ic (N:=["inner","nodes","start"]) (cl:=[("start",s.heap.objs.size+2),("nodes",s.heap.objs.size+1)]) (k:=1) (js:=[2,3]) (g:=bn 0) rfl
    (LcOk.mk' ["start","nodes"] rfl rfl (by decide +kernel) (by decide +kernel) ?hcl rfl (by decide +kernel)) rfl ?hj (bG (am GL hr rfl mL kL bL .nil pc (aa (pv 0) (aa (pv 1) ag)))) (λs H fp=>aA (i:=0) (show(["inner","nodes","start"]:List Str).Nodup by decide +kernel) rfl (Or.inl rfl) (Or.inr rfl))
    (λs H fp=>bo (aa (eM (r:=yB K) (kG.or nY) (am (X:=bR _ _ _ _ _ _ _) GU hr1 rfl mU kU bU .nil aU (aa (pv 1) (aa (pv 0) ag))) (eT (pv 2)) iF)
     (aa (aD (r:=gf K) ax (aZ (aS hr) (pv 1) (pv 0) (λ_ _=>rfl)) aj (λ_ _=>rfl)) ag)))) ag)))))),?_⟩
  case hcl =>
   intro y hy;rcases mem_cons.mp hy with e|hy
   ·rw[e];rfl
   ·rcases mem_cons.mp hy with e|hy
    ·rw[e];rfl
    ·cases hy
  case hj =>
   intro i j x h1 h2
   match i,h1,h2 with
   |0,h1,h2 =>
    cases h1;cases h2;exact⟨rfl,Or.inr (Or.inl rfl),(show((ai gD).names.lookup ("nodes":Str)≠some NameKind.local)by decide +kernel),by first|exact Or.inl rfl|exact Or.inr rfl⟩
   |1,h1,h2 =>
    cases h1;cases h2;exact⟨rfl,Or.inr (Or.inl rfl),(show((ai gD).names.lookup ("start":Str)≠some NameKind.local)by decide +kernel),by first|exact Or.inl rfl|exact Or.inr rfl⟩
   |i+2,h1,h2=>simp at h1
  have hl:=tr.len;have hnd:=bc tr.tr;have hge:=vh tr.tr hk;refine⟨_,rfl,t,zs,rfl,tr.tup,tr.nod,by omega,hnd,λd H1 s1 nd1=>?_⟩;refine⟨_,rfl,_,rfl,d,k,zs,rfl,nd1,tr.nod.same s1,hnd,k0,k1,hk,?_⟩;have tr1:=tr.same s1;refine⟨_,rfl,_,rfl,d,k,zs,pk,rfl,nd1,tr1.nod,tr.tr,by omega,hpk,λt1 H2 s2 ht1=>?_⟩;refine⟨t1,_,rfl,.inr (SqT.of ht1),?_⟩;rw[length_map];have tr2:=tr1.same s2;refine⟨_,rfl,_,rfl,t,k,zs,rfl,tr2,k0,k1,λ_ ms lb H3 s3 hup hml hmm hlb=>?_,λh0 hno=>?_⟩
  case refine_2 =>
   obtain⟨z',hz',e,_⟩:=hk.resolve_left h0;exact absurd e (hno z' hz')
  have em:=vf tr.tr hup hmm;subst em;have hbl:=ve zs k;have nd3:=(nd1.same s2).same s3;have tr3:=tr2.same s3;refine⟨lb,rfl,⟨_,SqL.of hlb⟩,λp hp=>?_⟩;refine gy (fr:=[some (.ref d),some (.int (pk.length:Int))]) (bel zs k) (λz=>V.int z.2.num) (by omega) hp (dO (by rw[show((bel zs k).map λz=>V.int z.2.num)=(nums (bel zs k)).map V.int from oD _];exact SqL.of hlb)) rfl (λz y H'=>∃c:Cv,y=.ref c.a∧c.a≠p∧c.t≠p∧ls H' c∧c.v=stV z.2.st∧TW.PathTo (nds zs) z.2.num (pk++c.p)) (λz y H H' h ex=>?_) (λz H' kk mz s4 hpl hk=>?_) (λys H4 s4 hp4 hys=>?_)
  ·obtain⟨c,e,n1,n2,⟨h1,h2⟩,h3,h4⟩:=h;exact⟨c,e,n1,n2,⟨ex _ _ n1 h1,ex _ _ n2 h2⟩,h3,h4⟩
  ·have hz:=vd mz;obtain⟨pz,hpz⟩:=TW.PathTo.ex tr.tr (av hz);obtain⟨r,er⟩:=tm tr.tr hge hpk mz hpz;subst er;refine⟨_,rfl,_,rfl,d,z.2.num,zs,pk++r,rfl,nd3.same s4,(tr3.same s4).nod,tr.tr,by omega,hpz,λt2 H5 s5 ht2=>?_⟩;refine⟨_,rfl,_,rfl,vg ht2 λt3 H6 s6 ht3=>?_⟩;have s46:=(s4.trans s5).trans s6;refine⟨_,rfl,_,rfl,d,_,rfl,(nd3.same s46).get hnd hz,z.1,_,_,_,rfl,rfl,SqT.of ((tr3.same s46).nod z hz),at3 z.2,le2,λq1 hq1=>?_⟩;have s7:=ae (o:=.tup [.ref t3,stV z.2.st]) hq1;have hpl6:∃ys,H6 p=some (.lst ys):=let⟨ys,e⟩:=hpl;⟨ys,s6 _ _ (s5 _ _ e)⟩;have ntp:t3≠p:=λe=>by obtain⟨ys,e'⟩:=hpl6;rw[←e,ht3]at e';cases e'
   exact hk _ _ ((s5.trans s6).trans s7) ⟨⟨q1,t3,r,stV z.2.st⟩,rfl,gU hpl6 hq1,ntp,⟨ac,s7 _ _ ht3⟩,rfl,hpz⟩
  ·obtain⟨bs,e1,e2,e3⟩:=eW (val:=λc:Cv=>V.ref c.a) (S:=λ(z:Addr×Nd) (c:Cv)=>ls H4 c∧c.v=stV z.2.st∧TW.PathTo (nds zs) z.2.num (pk++c.p)) hys (λz y _ ⟨c,e,_,_,h1,h2,h3⟩=>⟨c,e,h1,h2,h3⟩);have hbm:∀b∈bs,b.1∈bel zs k:=λb hb=>by rw[←e1];exact mem_map.mpr ⟨b,hb,rfl⟩
   have hbn:(bs.map λb=>b.1.2.num).Pairwise λa b:Int=>a<b:=by
    have:=tf tr.tr (isB zs k);rw[show zs.filter (isB zs k)=bs.map (·.1)from e1.symm]at this;unfold nums at this;rw[map_map]at this;exact this
   have hpn:((bs.map (·.2)).map (·.p)).Nodup:=by
    rw[map_map];unfold Nodup;rw[pairwise_map]at hbn⊢;refine hbn.imp_of_mem λ{a b} ha hb hab e=>?_;have h1:=(e3 a ha).2.2;have h2:=(e3 b hb).2.2;rw[show a.2.p=b.2.p from e]at h1;have:=h1.key tr.tr h2;omega
   have hbl2:(bs.map (·.2)).length≤30:=by rw[length_map];have:=congrArg length e1;rw[length_map]at this;omega
   have e2':ys=(bs.map (·.2)).map λc=>V.ref c.a:=by rw[e2,map_map];rfl
   rw[e2']at hp4;refine⟨p,bs.map (·.2),rfl,hp4,λc hc=>by obtain⟨b,hb,rfl⟩:=mem_map.mp hc;exact(e3 b hb).1,λc hc=>by obtain⟨b,hb,rfl⟩:=mem_map.mp hc;rw[(e3 b hb).2.1];exact xt _,hpn,by omega,λcs' hpm hup2 p2 hp2=>?_⟩;have s5:=ae (o:=.lst (cs'.map λc=>V.ref c.a)) hp2;refine q p2 cs' _ ((((s1.trans s2).trans s3).trans s4).trans s5) ac ⟨λc hc=>?_,hup2,λpp v=>?_⟩
   ·obtain⟨b,hb,rfl⟩:=mem_map.mp (hpm.mem_iff.mp hc);exact⟨s5 _ _ (e3 b hb).1.1,s5 _ _ (e3 b hb).1.2⟩
   ·constructor
    ·rintro⟨c,hc,rfl,rfl⟩;obtain⟨b,hb,rfl⟩:=mem_map.mp (hpm.mem_iff.mp hc);exact⟨b.1,hbm b hb,(e3 b hb).2.1,(e3 b hb).2.2⟩
    ·rintro⟨z,hz,rfl,hpz⟩;have:z∈bs.map (·.1):=by rw[e1];exact hz
     obtain⟨b,hb,rfl⟩:=mem_map.mp this;refine⟨b.2,hpm.mem_iff.mpr (mem_map.mpr ⟨b,hb,rfl⟩),?_,(e3 b hb).2.1⟩;have:=(e3 b hb).2.2.uniq tr.tr hpz;exact List.append_cancel_left this
end
theorem pR{a b:Option Int}(h:stV a=stV b):a=b:=by
 cases a<;>cases b<;>simp[stV]at h⊢;exact h
theorem hU{H:Hp}{zs:ZN}(T:TW.Tree1 (nds zs)){k:Int}{pk:List Str}(hpk:TW.PathTo (nds zs) k pk){cs:List Cv}(S:ShAt H zs k pk cs)(p:List Str)(v:V):(∃c∈cs,c.p=p∧c.v=v)↔∃st,v=stV st∧Bel zs k p st:=by
 rw[S.mem];constructor
 ·rintro⟨z,hz,rfl,hp⟩;have h:=mem_filter.mp hz;exact⟨_,rfl,(kc T hpk).mpr ⟨z,h.1,gK.mp h.2,rfl,hp⟩⟩
 ·rintro⟨st,rfl,hb⟩;obtain⟨z,hz,h1,rfl,h2⟩:=(kc T hpk).mp hb;exact⟨z,mem_filter.mpr ⟨hz,gK.mpr h1⟩,rfl,h2⟩
theorem tw{H:Hp}{zs:ZN}(T:TW.Tree1 (nds zs)){k:Int}{pk:List Str}(hpk:TW.PathTo (nds zs) k pk){cs:List Cv}(S:ShAt H zs k pk cs):cs≠[]↔bg zs k≠[]:=by
 rw[cZ];constructor
 ·intro h;obtain⟨c,hc⟩:=exists_mem_of_ne_nil _ h;obtain⟨st,_,hb⟩:=(hU T hpk S c.p c.v).mp ⟨c,hc,rfl,rfl⟩;exact⟨_,_,hb⟩
 ·rintro⟨r,st,hb⟩;obtain⟨c,hc,_⟩:=(hU T hpk S r (stV st)).mpr ⟨st,rfl,hb⟩;exact List.ne_nil_of_mem hc
section
variable{P:Program}{w:World}{K:PySem.W.Frag}{mg:Str→Option Value}{base:Heap}
def oE(K:PySem.W.Frag):Sp:=λvs H Q _=>∃a k,vs=[.ref a,.int k]∧0≤k∧gC K H a∧∀r H',Same H H'→Q (.int r) H'
theorem xv:FnScope ["_law_script","_law_k"] ["_law_script","_law_k"] (ai sr):=fsM
theorem vi{f:Addr}{fd:FuncData}(F:Fun K "_law_cell" "_law_cell" sr f fd)(T:Txt mg):FnOk P w K mg base CX0 1 f fd ["_law_script","_law_k"] (oE K):=by
 refine F.ok xv (λvs H Q E h=>?_) (λcdv A outer s H vs Q E hr h=>?_)
 ·obtain⟨a,k,rfl,_⟩:=h;rfl
 ·obtain⟨a,k,rfl,hk,⟨ns,ea⟩,q⟩:=h;refine⟨_,ah (bj (au vC (pv 1) (aL aV rfl T.len boot_len (aa (pv 0) ag)) (aC _)) (al (aM (aD dL (pv 0) (pv 1) (λ_ _=>rfl)))) aH)
   (ah (bj (au (nZ hr.units0) (pv 0) (bq ag) (aC _)) (al (aM aj)) aH)
   (al (aM (aQ bw (aQ dJ (aD dL (pv 0) (aQ ku (pv 1) (aL aV rfl T.len boot_len (aa (pv 0) ag))) (λ_ _=>rfl)) aj) (pv 1))))),?_⟩
  refine⟨_,rfl,_,rfl,a,_,rfl,.inl (ea),_,_,rfl,rfl,_,rfl,?_⟩;rw[length_map]
  by_cases h:k<(ns.length:Int)
  ·rw[decide_eq_true h];obtain⟨j,ej⟩:=mn hk h;exact bx ⟨_,rfl,_,rfl,a,_,_,_,rfl,rfl,ea,ej,q _ _ (Same.refl _)⟩
  ·rw[decide_eq_false h];refine aX ⟨_,rfl,zero_le _,λp hp=>⟨a,p,_,rfl,rfl,((ae hp).seq ea),SqL.of ac,_,rfl,?_⟩⟩
   by_cases h0:ns=[]
   ·subst h0;exact bx (q _ _ (ae hp))
   ·have hne:¬ns.map V.int=[]:=by simpa using h0
    rw[decide_eq_false hne];have hpos:0<ns.length:=List.length_pos_iff.mpr h0;have hm1:0≤k % (ns.length:Int):=Int.emod_nonneg _ (by omega);have hm2:k % (ns.length:Int)<ns.length:=Int.emod_lt_of_pos _ (by omega);obtain⟨j,ej⟩:=mn hm1 hm2;have ej':atI (ns.map V.int) (k % ((ns.map V.int).length:Int))=some (.int j):=by rw[length_map];exact ej
    exact aX ⟨_,rfl,_,rfl,_,rfl,a,_,rfl,.inl (((ae hp).seq ea)),_,_,rfl,rfl,by rw[length_map];omega,a,_,_,_,rfl,rfl,((ae hp).seq ea),ej',_,_,rfl,rfl,.inr ⟨by decide,by decide⟩,_,rfl,_,_,rfl,rfl,q _ _ (ae hp)⟩
def fH(K:PySem.W.Frag):Sp:=λvs H Q _=>∃a k m,vs=[.ref a,.int k,.int m]∧0≤k∧0<m∧gC K H a∧∀r H',0≤r→r<m→Same H H'→Q (.int r) H'
theorem tz:FnScope ["_law_script","_law_k","_law_many","_law_drawn"] ["_law_script","_law_k","_law_many"] (ai ss):=fsM
theorem vj{f:Addr}{fd:FuncData}(F:Fun K "_law_pick" "_law_pick" ss f fd)(T:Txt mg)(C:Has P w K mg base 1 "_law_cell" ["_law_script","_law_k"] (oE K)):FnOk P w K mg base CX0 2 f fd ["_law_script","_law_k","_law_many"] (fH K):=by
 obtain⟨fC,fdC,GC,mC,kC,bC⟩:=C;refine F.ok tz (λvs H Q E h=>?_) (λcdv A outer s H vs Q E hr h=>?_)
 ·obtain⟨a,k,m,rfl,_⟩:=h;rfl
 ·obtain⟨a,k,m,rfl,hk,hm,hS,q⟩:=h;refine⟨_,(ah (aw (i:=3) tz.nd rfl (Or.inl rfl) (aQ ku (aQ dJ (aQ bw (am GC hr rfl mC kC bC .nil aU (aa (pv 0) (aa (pv 1) ag))) (aQ dJ aj (aQ bw (pv 1) aj))) aj) aj))
   (al (aM (aQ ku (aQ ku (aQ bw (aQ dJ (pv 3) (pv 3)) (aQ tV (pv 3) aj)) aj) (pv 2))))),?_⟩
  refine⟨_,rfl,_,rfl,a,k,rfl,hk,hS,λr H1 s1=>?_⟩;refine⟨_,rfl,_,_,rfl,rfl,_,_,rfl,rfl,.inl ⟨by decide,by decide⟩,_,_,rfl,rfl,_,_,rfl,rfl,.inr ⟨by decide,by decide⟩,_,_,rfl,rfl,(by decide:(0:Int)<2147483399),?_⟩;generalize hd:(r+6151*(k+1))*40692 % 2147483399=dr;have d0:0≤dr:=by rw[←hd];exact Int.emod_nonneg _ (by decide)
  have d1:dr<2147483399:=by rw[←hd];exact Int.emod_lt_of_pos _ (by decide)
  refine⟨_,rfl,_,rfl,_,_,rfl,rfl,.inl ⟨by omega,by omega⟩,_,rfl,_,_,rfl,rfl,⟨by decide,by decide⟩,_,_,rfl,rfl,_,_,rfl,rfl,(by decide:(0:Int)<2147483629),_,rfl,_,_,rfl,rfl,hm,?_⟩;exact q _ _ (Int.emod_nonneg _ (by omega)) (Int.emod_lt_of_pos _ hm) s1
def iK(K:PySem.W.Frag):Sp:=λvs H Q _=>∃a at' m,vs=[.ref a,.int at',.int m]∧0≤at'∧0≤m∧m≤9∧gC K H a∧∀t zs H',H' t=some (.tup (aR zs))→At H' zs→(zs.length:Int)≤m→TW.Tree (nds zs)→(∀z∈zs,uF z.2)→Same H H'→Q (.ref t) H'
theorem scB:FnScope ["_law_script","_law_at","_law_most","_law_left","_law_folders","_law_nodes","_law_k","_law_number","_law_parent","_law_name","_law_stamp"] ["_law_script","_law_at","_law_most"] (ai gZ):=fsM
def buS(i:Nat):Stmt:=match (bb gZ).getD 3 (.Pass ⟨0,0,0,0⟩)with
 |.For _ _ b _ _=>b.getD i (.Pass ⟨0,0,0,0⟩)
 |x=>x
abbrev BX(P:Program)(w:World)(K:PySem.W.Frag)(mg:Str→Option Value)(base:Heap)(f:Addr)(cdv:Value)(A:Around)(outer:List Env)(s:Shared)(H:Hp)(E:XK):Cx:=(fZ CX0 P w K mg base ["_law_script","_law_at","_law_most","_law_left","_law_folders","_law_nodes","_law_k","_law_number","_law_parent","_law_name","_law_stamp"] "_law_tree" (ai gZ) f cdv A outer s H E).nox
theorem yC{f:Addr}{cdv:Value}{A:Around}{outer:List Env}{s:Shared}{H0:Hp}{E:XK}(hr:Room 2 (A.deeper (PyProof.Rows.envOfC "_law_tree" (ai gZ) s.heap.objs.size f cdv))):
  ∃t,PS (BX P w K mg base f cdv A outer s H0 E) (buS 5) t∧∀(D:Ends)(H H6:Hp)(pl pf pn:Addr)(x0 x1 x2 x6:Option V)(lf:List Int)(zs:ZN)(num par:Int)(nm:Str)(st:Option Int),Sta H pl pf pn H6 lf (0::TW.aF (nds zs)) zs→zs.length≤20 →
   (∀H',Sta H pl pf pn H' lf (0::TW.aF (nds zs)) zs→D.nx [x0,x1,x2,some (.ref pl),some (.ref pf),some (.ref pn),x6,some (.int num),some (.int par),some (.str nm),some (stV st)] H') →
   (∀q H',(∀z∈zs,¬(z.2.par=par∧z.2.nm=nm))→Sta H pl pf pn H' lf (0::TW.aF (nds (zs++[(q,⟨num,par,nm,st⟩)]))) (zs++[(q,⟨num,par,nm,st⟩)])→D.nx [x0,x1,x2,some (.ref pl),some (.ref pf),some (.ref pn),x6,some (.int num),some (.int par),some (.str nm),some (stV st)] H') →
   t D [x0,x1,x2,some (.ref pl),some (.ref pf),some (.ref pn),x6,some (.int num),some (.int par),some (.str nm),some (stV st)] H6:=by
 refine⟨_,bj (au (jB (aS hr)) (bo (aa (pv 8) (aa (pv 9) ag))) (ic (N:=["_law_node"]) (k:=1) (js:=[]) (g:=bn 0) rfl (gT rfl (by decide +kernel) (by decide +kernel) (by decide +kernel)) rfl (λi j x h=>by simp at h)
     (bG (pv 5)) (λs H fp=>aA (i:=0) (show(["_law_node"]:List Str).Nodup by decide +kernel) rfl (Or.inl rfl) (Or.inr rfl))
     (λs H fp=>eM (r:=rg K) kG (pv 0) (eT aj) (eT aj))) rfl) (ah (ba (dm plainAttrs_list PySem.F.slot_list_append PySem.F.type_list_append bv (pv 5) (aa (bo (aa (pv 7) (aa (pv 8) (aa (pv 9) (aa (pv 10) ag))))) ag))) (al (bj (au gO (pv 10) dj (aC _)) (al (ba (dm plainAttrs_list PySem.F.slot_list_append PySem.F.type_list_append bv (pv 4) (aa (pv 7) ag)))) aH))) aH,?_⟩
 intro D H H6 pl pf pn x0 x1 x2 x6 lf zs num par nm st A6 hzl qs qa;refine⟨_,rfl,_,rfl,le2,λq0 hq0=>?_⟩;have A7:=A6.grow (ae (o:=.tup [.int par,.str nm]) hq0);have eq0:(upd H6 q0 (.tup [.int par,.str nm])) q0=some (.tup ([Sum.inl par,Sum.inr nm].map kV)):=ac;refine⟨_,rfl,pn,rfl,⟨_,SqL.of A7.n⟩,λp hp=>?_⟩;generalize upd H6 q0 (.tup [.int par,.str nm])=H7 at A7 eq0 hp⊢;refine vH (k:=1) (js:=[]) (J:=Itl K pn) (p:=p) zs.length (by omega) (λi ys σ' H'=>∃kss:List (Addr×List Key),ys=(kss.map (·.1)).map V.ref∧kss.map (·.2)=((nds zs).take i).map plK∧kss.length=i∧(∀z∈kss,H' z.1=some (.tup (z.2.map kV)))∧σ'.length=1∧Same H7 H'∧H' p=some (.lst ys))
  ⟨[],rfl,rfl,rfl,by simp,rfl,ae hp,ac⟩ (λi ys σ' H' h=>?_) (λi ys σ' H' hi h=>?_) (λys σ' H' h=>?_) (λi ys σ' H' hi h v H2 hy=>?_) ?_ ?_
 ·obtain⟨kss,rfl,_,e,_⟩:=h;rw[length_map,length_map];omega
 ·obtain⟨_,_,_,_,_,_,s2,_⟩:=h;exact⟨_,_,SqL.of (s2 _ _ A7.n),jj (getElem?_eq_getElem hi)⟩
 ·obtain⟨kss,e1,e2,e3,e4,_,s2,e5⟩:=h;refine⟨⟨_,SqL.of (s2 _ _ A7.n),by rw[bt];exact le_refl _⟩,?_⟩;subst e1;refine⟨q0,p,_,kss,rfl,s2 _ _ eq0,rfl,SqL.of e5,e4,_,rfl,?_⟩;rw[List.take_of_length_le (by rw[aG];exact le_refl _)]at e2;have A8:=A7.grow s2;cases ea:(kss.any λz=>decide (z.2=[Sum.inl par,Sum.inr nm]))with
  |true=>exact aX (qs _ A8)
  |false =>
   have ho:∀z∈zs,¬(z.2.par=par∧z.2.nm=nm):=λz hz ⟨h1,h2⟩=>by
    have m1:plK z.2∈kss.map (·.2):=by rw[e2];exact mem_map.mpr ⟨z.2,mem_map.mpr ⟨z,hz,rfl⟩,rfl⟩
    obtain⟨y,hy,ey⟩:=mem_map.mp m1;have:(kss.any λz=>decide (z.2=[Sum.inl par,Sum.inr nm]))=true:=any_eq_true.mpr ⟨y,hy,by rw[decide_eq_true_eq,ey];unfold plK;rw[h1,h2]⟩;rw[ea]at this;cases this
   refine bx ⟨_,rfl,.inl ⟨rfl,_,SqL.of A8.n⟩,_,rfl,_,rfl,_,rfl,_,rfl,(show 4≤sizeLine from aK (by decide)),λq hq=>⟨pn,_,_,rfl,rfl,cQ hq A8.n,ay (by rw[bt];omega),?_⟩⟩;have A9:=(A8.grow (ae (o:=.tup (vals ⟨num,par,nm,st⟩)) hq)).node (n:=⟨num,par,nm,st⟩) ac;refine⟨_,rfl,rfl,_,rfl,?_⟩;cases st with
   |some i5 =>
    have ef:(0::TW.aF (nds zs))=(0:Int)::TW.aF (nds (zs++[(q,⟨num,par,nm,some i5⟩)])):=by simp[TW.aF,nds]
    rw[ef]at A9;exact aX (qa q _ ho A9)
   |none =>
    refine bx ⟨_,rfl,.inl ⟨rfl,_,SqL.of A9.f⟩,_,rfl,pf,_,_,rfl,rfl,A9.f,ay ?_,?_⟩
    ·have:=TW.dg (nds zs);rw[aG]at this;rw[length_map,length_cons];omega
    ·have A10:=A9.fold num;have ef:(0::TW.aF (nds zs))++[num]=(0:Int)::TW.aF (nds (zs++[(q,⟨num,par,nm,none⟩)])):=by simp[TW.aF,nds]
     rw[ef]at A10;exact qa q _ ho A10
 ·obtain⟨kss,e1,e2,e3,e4,e0,s2,e5⟩:=h;obtain⟨o1,rfl⟩:=wJ e0;obtain⟨rfl,hx⟩:=hy;have gx:=hx _ (SqL.of (s2 _ _ A7.n));obtain⟨z1,g1,rfl⟩:=cy gx;have m1:=mem_of_getElem? g1;have ecut:fj (vals z1.2) (some 1) (some 3)=[.int z1.2.par,.str z1.2.nm]:=rfl;refine⟨_,rfl,_,rfl,_,rfl,z1.1,_,rfl,SqT.of (s2 _ _ (A7.nd z1 m1)),(λh=>by have h1:(1:Nat)=0:=h.1;cases h1),λq hq=>?_⟩;rw[ecut];refine⟨cQ hq e5,kss++[(q,plK z1.2)],by rw[e1];simp,?_,by simp[e3],?_,rfl,aI hp (s2.trans (ae hq)),ac⟩
  ·rw[map_append,e2,take_succ,show(nds zs)[i]?=some z1.2 by unfold nds;rw[getElem?_map,g1];rfl,map_append];rfl
  ·intro z hz;have hqp:q≠p:=λz=>by rw[z,e5]at hq;cases hq
   rcases mem_append.mp hz with hz|hz
   ·have:=cQ (o:=.tup [.int z1.2.par,.str z1.2.nm]) hq (e4 z hz);rw[af]
    ·exact this
    ·intro e;rw[e,af (symm hqp),e5]at this;cases this
   ·have e:z=(q,plK z1.2):=by simpa using hz
    subst e;rw[af hqp];exact ac
 ·rintro _ _ _ _ _ m h;exact m _ _ h
 ·rintro _ _ _ _ m ⟨v1,b0,i1,b1,i2,b2,a2,x2,c1,c2,c3,q⟩;exact⟨v1,b0,i1,b1,i2,b2,a2,x2,c1,c2,c3,λp hp=>m _ _ (q p hp)⟩
theorem tD{f:Addr}{fd:FuncData}(F:Fun K "_law_tree" "_law_tree" gZ f fd)(T:Txt mg)(C:Has P w K mg base 2 "_law_pick" ["_law_script","_law_k","_law_many"] (fH K)):FnOk P w K mg base CX0 3 f fd ["_law_script","_law_at","_law_most"] (iK K):=by
 obtain⟨fP,fdP,GP,mP,kP,bP⟩:=C;refine F.ok scB (λvs H Q E h=>?_) (λcdv A outer s H vs Q E hr h=>?_)
 ·obtain⟨a,at',m,rfl,_⟩:=h;rfl
 ·obtain⟨a,at',m,rfl,ha0,hm0,hm9,hS,k⟩:=h;obtain⟨t5,p5,h5⟩:=yC (P:=P) (w:=w) (mg:=mg) (base:=base) (f:=f) (cdv:=cdv) (A:=A) (outer:=outer) (s:=s) (H0:=H) (E:=E) hr;refine⟨_,(ah (aw (i:=3) scB.nd rfl (Or.inl rfl) (bh (jC rfl) rfl T.list rfl (aa (bh qt rfl T.range rfl (aa aj (aa (aQ bw (pv 2) aj) ag))) ag)))
    (ah (aw (i:=4) scB.nd rfl (Or.inl rfl) (bq (aa aj ag)))
    (ah (aw (i:=5) scB.nd rfl (Or.inl rfl) (bq ag))
    (ah (cg PassesOwn.never rfl (qc rfl T.range (aa (am GP hr rfl mP kP bP .nil aU (aa (pv 0) (aa (pv 1) (aa (aQ bw (pv 2) aj) ag)))) ag)) (aA (i:=6) scB.nd rfl (Or.inl rfl))
    (ah (aw (i:=7) scB.nd rfl (Or.inl rfl) (dm plainAttrs_list slot_list_pop type_list_pop rn (pv 3) (aa (am GP hr rfl mP kP bP .nil aU (aa (pv 0) (aa (aQ bw (aQ bw (pv 1) aj) (aQ dJ aj (pv 6))) (aa (aL aV rfl T.len boot_len (aa (pv 3) ag)) ag)))) ag)))
    (ah (aw (i:=8) scB.nd rfl (Or.inl rfl) (aD dL (pv 4) (am GP hr rfl mP kP bP .nil aU (aa (pv 0) (aa (aQ bw (aQ bw (pv 1) aj) (aQ dJ aj (pv 6))) (aa (aL aV rfl T.len boot_len (aa (pv 4) ag)) ag)))) (λ_ _=>rfl)))
    (ah (aw (i:=9) scB.nd rfl (Or.inl rfl) (aD dL (bq (aa cP (aa cP (aa cP (aa cP ag))))) (am GP hr rfl mP kP bP .nil aU (aa (pv 0) (aa (aQ bw (aQ bw (pv 1) aj) (aQ dJ aj (pv 6))) (aa aj ag)))) (λ_ _=>rfl)))
    (ah (aw (i:=10) scB.nd rfl (Or.inl rfl) dj)
    (ah (bj (au vD (am GP hr rfl mP kP bP .nil aU (aa (pv 0) (aa (aQ bw (aQ bw (pv 1) aj) (aQ dJ aj (pv 6))) (aa aj ag)))) aj (aC _)) (al (aw (i:=10) scB.nd rfl (Or.inl rfl) (aD dL (bq (aa aj (aa aj (aa aj (aa aj ag))))) (am GP hr rfl mP kP bP .nil aU (aa (pv 0) (aa (aQ bw (aQ bw (pv 1) aj) (aQ dJ aj (pv 6))) (aa aj ag)))) (λ_ _=>rfl)))) aH)
    (al p5)))))))
    (al (aM (bh bu rfl T.tuple rfl (aa (aL gS rfl T.sorted boot_sorted (aa (pv 5) ag)) ag)))))))),?_⟩
  refine⟨_,rfl,_,_,rfl,rfl,_,_,rfl,λp1 hp1=>⟨p1,_,_,rfl,ac,⟨by decide,by decide,by omega,by omega⟩,by omega,λpl hpl=>?_⟩⟩;refine⟨aK (by decide),λpf hpf=>⟨zero_le _,λpn hpn=>?_⟩⟩;have s0:Same H (upd (upd (upd (upd H p1 (.rng 1 (m+4))) pl (.lst ((List.range (m+4-1:Int).toNat).map λk=>V.int (1+(k:Nat))))) pf (.lst [.int 0])) pn (.lst [])):=(((ae hp1).trans (ae hpl)).trans (ae hpf)).trans (ae hpn);have hfl:pl≠pf:=λe=>by rw[←e,ac]at hpf;cases hpf
  have hln:pl≠pn:=λe=>by rw[←e,af hfl,ac]at hpn;cases hpn
  have hfn:pf≠pn:=λe=>by rw[←e,ac]at hpn;cases hpn
  have A0:Sta H pl pf pn (upd (upd (upd (upd H p1 (.rng 1 (m+4))) pl (.lst ((List.range (m+4-1:Int).toNat).map λk=>V.int (1+(k:Nat))))) pf (.lst [.int 0])) pn (.lst [])) (lf0 m) [0] [] :=
   ⟨s0,by rw[af hln,af hfl,ac,lf0,map_map];rfl,by rw[af hfn,ac];rfl,ac,λz hz=>by simp at hz,(ae hp1).free hpl,((ae hp1).trans (ae hpl)).free hpf,(((ae hp1).trans (ae hpl)).trans (ae hpf)).free hpn,hfl,hln,hfn⟩
  have B0:Bd [] (lf0 m):=Bd.zero hm9;refine⟨_,rfl,_,rfl,_,rfl,_,_,rfl,rfl,a,_,_,rfl,ha0,by omega,hS.same s0,λr H1 r0 r1 s1=>⟨r,rfl,by omega,by omega,?_⟩⟩;refine qe (n:=r.toNat) (λi σ H'=>∃lf zs o6 o7 o8 o9 o10,σ=[some (.ref a),some (.int at'),some (.int m),some (.ref pl),some (.ref pf),some (.ref pn),o6,o7,o8,o9,o10]∧Sta H pl pf pn H' lf (0::TW.aF (nds zs)) zs∧Bd zs lf∧(lf.length:Int)+i=m+3∧zs.length≤i)
   ⟨_,[],_,_,_,_,_,rfl,A0.grow s1,B0,by rw[uJ hm0];omega,le_refl _⟩ (λi σ H' hi h=>?_) (λσ H' h=>?_)
  ·obtain⟨lf,zs,o6,o7,o8,o9,o10,rfl,A1,B,hlf,hzl⟩:=h;have hi8:i<10:=by omega
   have z0:(0:Int)≤at'+1+6*(0+(i:Int)):=by omega
   refine⟨_,rfl,.inl ⟨rfl,_,SqL.of A1.l⟩,_,rfl,_,rfl,_,_,rfl,rfl,_,rfl,_,_,rfl,rfl,.inl ⟨by decide,by decide⟩,_,_,rfl,rfl,_,rfl,pl,_,rfl,.inl (SqL.of A1.l),a,_,_,rfl,by omega,by rw[length_map];omega,hS.same A1.same,λj H2 j0 j1 s2=>?_⟩;rw[length_map]at j1;have A2:=A1.grow s2;obtain⟨num,gnum⟩:∃num,lf[j.toNat]?=some num:=⟨_,getElem?_eq_getElem (by omega)⟩;refine⟨pl,_,j,j.toNat,.int num,rfl,rfl,A2.l,by omega,by omega,by rw[length_map];exact wK j0 j1,by rw[getElem?_map,gnum];rfl,?_⟩;rw[jX];have A3:=A2.pop (lf.eraseIdx j.toNat);have elen:(lf.eraseIdx j.toNat).length=lf.length-1:=List.length_eraseIdx_of_lt (by omega);generalize upd H2 pl (.lst ((lf.eraseIdx j.toNat).map V.int))=H3 at A3⊢;refine⟨_,rfl,_,rfl,_,rfl,_,_,rfl,rfl,_,rfl,_,_,rfl,rfl,.inl ⟨by decide,by decide⟩,_,_,rfl,rfl,_,rfl,pf,_,rfl,.inl (SqL.of A3.f),a,_,_,rfl,by omega,by rw[length_map,length_cons];omega,hS.same A3.same,λj2 H4 j20 j21 s4=>?_⟩;rw[length_map]at j21;obtain⟨par,mpar,gpar⟩:=uG j20 j21;have A4:=A3.grow s4;refine⟨pf,_,_,_,rfl,rfl,SqL.of A4.f,gpar,?_⟩;refine⟨aK (by decide),λp3 hp3=>?_⟩;have A5:=A4.grow (ae (o:=.lst [.str "a",.str "b",.str "c",.str "abcde"]) hp3);refine⟨_,rfl,_,rfl,_,_,rfl,rfl,_,rfl,_,_,rfl,rfl,.inl ⟨by decide,by decide⟩,_,_,rfl,rfl,a,_,_,rfl,by omega,by decide,hS.same A5.same,λj3 H5 j30 j31 s5=>?_⟩;obtain⟨nm,hnm,gnm⟩:=uH j30 j31;refine⟨p3,_,_,_,rfl,rfl,SqL.of (s5 _ _ ac),gnm,?_⟩;have A6:=A5.grow s5;refine⟨_,rfl,_,rfl,_,_,rfl,rfl,_,rfl,_,_,rfl,rfl,.inl ⟨by decide,by decide⟩,_,_,rfl,rfl,a,_,_,rfl,by omega,by decide,hS.same A6.same,λj4 H6 j40 j41 s6=>⟨_,_,rfl,rfl,_,rfl,?_⟩⟩;have A6':=A6.grow s6;refine zc (λhgt=>?_) (λhgt=>?_)
   ·refine⟨aK (by decide),λp5 hp5=>?_⟩;have A65:=A6'.grow (ae (o:=.lst [.int 0,.int 1,.int 2,.int 999]) hp5);refine⟨_,rfl,_,rfl,_,_,rfl,rfl,_,rfl,_,_,rfl,rfl,.inl ⟨by decide,by decide⟩,_,_,rfl,rfl,a,_,_,rfl,by omega,by decide,hS.same A65.same,λj5 H65 j50 j51 s65=>?_⟩;obtain⟨i5,hst5,gst⟩:=uI j50 j51;refine⟨p5,_,_,_,rfl,rfl,SqL.of (s65 _ _ ac),gst,?_⟩;have A66:=A65.grow s65;exact h5 _ H H65 pl pf pn _ _ _ _ (lf.eraseIdx j.toNat) zs num par nm (some i5) A66 (by omega) (λH' A8=>⟨_,zs,_,_,_,_,_,rfl,A8,B.skip _,by rw[elen];omega,by omega⟩)
     (λq H' ho A9=>⟨_,_,_,_,_,_,_,rfl,A9,B.add (q:=q) (n:=⟨num,par,nm,(some i5)⟩) gnum mpar ho hnm hst5,by rw[elen];omega,by rw[length_append,length_singleton];omega⟩)
   ·exact h5 _ H H6 pl pf pn _ _ _ _ (lf.eraseIdx j.toNat) zs num par nm none A6' (by omega) (λH' A8=>⟨_,zs,_,_,_,_,_,rfl,A8,B.skip _,by rw[elen];omega,by omega⟩)
     (λq H' ho A9=>⟨_,_,_,_,_,_,_,rfl,A9,B.add (q:=q) (n:=⟨num,par,nm,none⟩) gnum mpar ho hnm (.inl rfl),by rw[elen];omega,by rw[length_append,length_singleton];omega⟩)
  ·obtain⟨lf,zs,o6,o7,o8,o9,o10,rfl,A1,B,hlf,hzl⟩:=h;have hzl8:(zs.length:Int)≤m:=by omega
   have hnum:(zs.map tp).map (·.2.1)=(nds zs).map (·.num):=by
    unfold nds;simp only[map_map];rfl
   have hnd:((nds zs).map (·.num)).Nodup:=(nodup_append.mp B.nd).1;refine⟨_,rfl,pn,zs.map tp,rfl,SqL.of (by rw[A1.n,iJ]),λz hz=>?_,by rw[hnum];exact hnd,by rw[length_map];omega,λts pm up p hp=>?_⟩
   ·obtain⟨y,hy,rfl⟩:=mem_map.mp hz;exact A1.nd y hy
   ·obtain⟨pm2,eb⟩:=back pm;have er:(ts.map (·.1)).map V.ref=aR (ts.map un):=by rw[←iJ,eb]
    rw[er];refine⟨p,_,rfl,.inl ⟨SqL.of ac,λl hl=>?_⟩⟩;have mem:∀z,z∈ts.map un→z∈zs:=λz hz=>pm2.mem_iff.mp hz;refine k l (ts.map un) _ ac ?_ (by rw[pm2.length_eq];exact hzl8) ?_ (λz hz=>B.ok z (mem z hz)) ((A1.same.trans (ae hp)).trans (ae hl))
    ·intro z hz;exact((ae hp).trans (ae hl)) _ _ (A1.nd z (mem z hz))
    ·refine TW.uC B.built (pm2.map _) ?_ hnd B.own;unfold nds;rw[pairwise_map];have up2:((ts.map un).map tp).Pairwise (λa b=>a.2.1<b.2.1):=by rw[eb];exact up
     rw[pairwise_map]at up2;exact up2.imp λh=>Int.le_of_lt h
def pS(CN CF:Addr):Sp:=λvs H Q E=>∃d p zs,vs=[.ref d,.int p]∧ix H d zs∧At H zs∧((nds zs).map (·.num)).Nodup∧0≤p∧p≤99 ∧
 (TW.Fold (nds zs) p→Q .non H)∧(p≠0→(∀z∈zs,z.2.num≠p)→E (.ref CN) none H)∧(∀z∈zs,z.2.num=p→p≠0→z.2.st≠none→E (.ref CF) none H)
theorem yD:FnScope ["nodes","number"] ["nodes","number"] (ai sf):=fsM
theorem xw{f CN CF:Addr}{fd:FuncData}(F:Fun K "check_folder" "check_folder" sf f fd)(T:Txt mg)(O:se "NotFolder" mg base CF)(CNo:cB P w K mg base 1 "node_of" ["nodes","number"] (im CN)):
  FnOk P w K mg base (CX1 P w) 2 f fd ["nodes","number"] (pS CN CF):=by
 obtain⟨fN,fdN,GN,mN,kN,bN⟩:=CNo;obtain⟨tt,hT⟩:=T.top;refine F.okX yD (λvs H Q E h=>?_) (λcdv A outer s H vs Q E hr h=>?_)
 ·obtain⟨d,p,zs,rfl,_⟩:=h;rfl
 ·obtain⟨d,p,zs,rfl,hd,hA,hnd,h0,h1,q1,q2,q3⟩:=h;refine⟨_,al (bj (PW.pt (pw_and (au fY (pv 1) (iB (v:=.int 0) rfl hT ⟨_,rfl⟩) (aC _)) (pw_and1 (au kx (aD ax (am (E:=E) GN hr rfl mN kN bN .nil (cR bH) (aa (pv 0) (aa (pv 1) ag))) aj (λ_ _=>rfl)) dj (aC _)))))
   (al (dy bH O hr.hd rfl (eV (cS (c:=100) (by decide +kernel) (dS (pv 1) (cS (c:=100) (by decide +kernel) gW))) (by decide)))) aH),?_⟩
  refine⟨_,rfl,rfl,_,rfl,?_⟩
  by_cases hp0:p=0
  ·have:decide (V.int p=V.int 0)=true:=by simp[hp0]
   rw[this];exact aX (aX (q1 (.inl hp0)))
  ·have:decide (V.int p=V.int 0)=false:=by simp[hp0]
   rw[this];refine bx ⟨_,rfl,_,rfl,d,p,zs,rfl,hd,hnd,h0,h1,λz hz e=>?_,λhk=>q2 hp0 hk⟩;refine⟨z.1,_,_,_,rfl,rfl,SqT.of (hA z hz),at3 z.2,rfl,_,rfl,?_⟩;rw[uN];cases hs:z.2.st with
   |none=>exact aX (q1 (.inr ⟨z.2,av hz,hs,e⟩))
   |some i=>exact bx ⟨_,rfl,p,rfl,h0,h1,λy=>⟨aK (show 1≤1000 by decide),q3 z hz e hp0 (by rw[hs];simp)⟩⟩
def nA(CT:Addr):Sp:=λvs H Q E=>∃t k p nm zs,vs=[.ref t,.int k,.int p,.str nm]∧H t=some (.tup (aR zs))∧At H zs∧0≤p∧p≤99∧nm.length≤100 ∧
 ((∀z∈zs,z.2.num≠k→¬(z.2.par=p∧z.2.nm=nm))→Q .non H)∧(∀z∈zs,z.2.num≠k→z.2.par=p→z.2.nm=nm→E (.ref CT) none H)
theorem vQ:FnScope ["tree","number","parent","name","node"] ["tree","number","parent","name"] (ai wT):=fsM
theorem xx{f CT:Addr}{fd:FuncData}(F:Fun K "check_place" "check_place" wT f fd)(O:se "Taken" mg base CT):FnOk P w K mg base (CX1 P w) 1 f fd ["tree","number","parent","name"] (nA CT):=by
 refine F.okX vQ (λvs H Q E h=>?_) (λcdv A outer s H vs Q E hr h=>?_)
 ·obtain⟨t,k,p,nm,zs,rfl,_⟩:=h;rfl
 ·obtain⟨t,k,p,nm,zs,rfl,ht,hA,h0,h1,hn,q1,q2⟩:=h;refine⟨_,al (cg (zd bH) rfl (dI (pv 0)) (aA (i:=4) vQ.nd rfl (Or.inl rfl))
   (al (bj (PW.pt (pw_and (au fY (aD ax (pv 4) aj (λ_ _=>rfl)) (pv 1) (aC _)) (pw_and (au eD (aD ax (pv 4) aj (λ_ _=>rfl)) (pv 2) (aC _)) (pw_and1 (au eD (aD ax (pv 4) aj (λ_ _=>rfl)) (pv 3) (aC _))))))
    (al (dy bH O hr.hd rfl (eV (cS (c:=100) (by decide +kernel) (dS (pv 2) (cS (c:=100) (by decide +kernel) (wH (pv 3) gW)))) (by decide)))) aH))),?_⟩
  refine⟨_,rfl,t,rfl,⟨_,SqT.of ht⟩,iC (xs:=aR zs) (λi σ H'=>(∃on,σ=[some (.ref t),some (.int k),some (.int p),some (.str nm),on])∧H'=H∧∀z∈zs.take i,z.2.num≠k→¬(z.2.par=p∧z.2.nm=nm)) ⟨⟨none,rfl⟩,rfl,by simp⟩ (λi σ H' _ h=>by rw[h.2.1];exact SqT.of ht) (λi x σ H' hx h=>?_) (λσ H' h=>?_)⟩
  ·obtain⟨⟨on,rfl⟩,rfl,hi⟩:=h;obtain⟨z,gz,rfl⟩:=cy hx;have mz:=mem_of_getElem? gz;have az:SqT K H' z.1 (vals z.2):=SqT.of (hA z mz);have et:zs.take (i+1)=zs.take i++[z]:=aP gz;have nxt:(z.2.num≠k→¬(z.2.par=p∧z.2.nm=nm))→∀y∈zs.take (i+1),y.2.num≠k→¬(y.2.par=p∧y.2.nm=nm):=λhz y hy=>by
    rw[et]at hy;rcases mem_append.mp hy with hy|hy
    ·exact hi y hy
    ·have e:y=z:=by simpa using hy
     subst e;exact hz
   refine⟨_,rfl,z.1,_,_,_,rfl,rfl,az,at0 z.2,_,rfl,rfl,_,rfl,?_⟩
   by_cases hk:z.2.num=k
   ·have e1:(!decide (V.int z.2.num=V.int k))=false:=by simp[hk]
    rw[e1];exact aX (aX ⟨⟨_,rfl⟩,rfl,nxt λh=>absurd hk h⟩)
   ·have e1:(!decide (V.int z.2.num=V.int k))=true:=by simp[hk]
    rw[e1];refine bx ⟨_,rfl,z.1,_,_,_,rfl,rfl,az,at1 z.2,_,rfl,rfl,_,rfl,?_⟩
    by_cases hp:z.2.par=p
    ·have e2:decide (V.int z.2.par=V.int p)=true:=by simp[hp]
     rw[e2];refine bx ⟨_,rfl,z.1,_,_,_,rfl,rfl,az,at2 z.2,_,rfl,rfl,_,rfl,?_⟩
     by_cases hm:z.2.nm=nm
     ·have e3:decide (V.str z.2.nm=V.str nm)=true:=by simp[hm]
      rw[e3];exact bx ⟨_,rfl,p,rfl,h0,h1,_,rfl,nm,rfl,hn,λy=>⟨aK (show 1≤1000 by decide),q2 z mz hk hp hm⟩⟩
     ·have e3:decide (V.str z.2.nm=V.str nm)=false:=by simp[hm]
      rw[e3];exact aX ⟨⟨_,rfl⟩,rfl,nxt λ_ h=>hm h.2⟩
    ·have e2:decide (V.int z.2.par=V.int p)=false:=by simp[hp]
     rw[e2];exact aX (aX ⟨⟨_,rfl⟩,rfl,nxt λ_ h=>hp h.1⟩)
  ·obtain⟨_,rfl,hi⟩:=h;rw[bt,take_length]at hi;exact q1 hi
def jw:Sp:=λvs H Q _=>∃t c n zs,vs=[.ref t,.ref c]∧H t=some (.tup (aR zs))∧At H zs∧H c=some (.tup (vals n))∧zs.length≤100∧∀us t' H',Same H H'→H' t'=some (.tup (aR us))→At H' us→nds us=(nds zs).map (TW.put n)→Q (.ref t') H'
theorem xy:FnScope ["tree","changed"] ["tree","changed"] (ai po):=fsM
theorem vk{f:Addr}{fd:FuncData}(F:Fun K "with_node" "with_node" po f fd)(T:Txt mg):FnOk P w K mg base CX0 1 f fd ["tree","changed"] jw:=by
 refine F.ok xy (λvs H Q E h=>?_) (λcdv A outer s H vs Q E hr h=>?_)
 ·obtain⟨t,c,n,zs,rfl,_⟩:=h;rfl
 ·obtain⟨t,c,n,zs,rfl,ht,hA,hc,hl,q⟩:=h;refine⟨_,al (aM (bh bu rfl T.tuple rfl (aa (ic (N:=["node","changed"]) (cl:=[("changed",s.heap.objs.size+1)]) (k:=1) (js:=[1]) (g:=bn 0) rfl
    (LcOk.mk' ["changed"] rfl rfl (by decide +kernel) (by decide +kernel) ?hcl rfl (by decide +kernel)) rfl ?hj (dI (pv 0)) (λs H fp=>aA (i:=0) (show(["node","changed"]:List Str).Nodup by decide +kernel) rfl (Or.inl rfl) (Or.inr rfl))
    (λs H fp=>iM (au eD (aD (r:=gf K) ax (pv 0) aj (λ_ _=>rfl)) (aD (r:=gf K) ax (pv 1) aj (λ_ _=>rfl)) (aC _)) (pv 1) (pv 0))) ag))),?_⟩
  case hcl =>
   intro y hy;rcases mem_cons.mp hy with e|hy
   ·rw[e];rfl
   ·cases hy
  case hj =>
   intro i j x h1 h2
   match i,h1,h2 with
   |0,h1,h2 =>
    cases h1;cases h2;exact⟨rfl,Or.inr (Or.inl rfl),(show((ai po).names.lookup ("changed":Str)≠some NameKind.local)by decide +kernel),by first|exact Or.inl rfl|exact Or.inr rfl⟩
   |i+1,h1,h2=>simp at h1
  refine⟨_,rfl,t,rfl,⟨_,SqT.of ht⟩,λp hp=>?_⟩;refine gy (fr:=[some (.ref c)]) zs (λz=>V.ref z.1) (by omega) hp (li (by rw[ce];exact SqT.of ht)) rfl (λz y H'=>y=.ref (if z.2.num=n.num then c else z.1)) (λz y H H' h _=>h) (λz H' k mz s1 _ hk=>?_) (λys H' s1 hp' hys=>?_)
  ·refine⟨_,rfl,z.1,_,_,_,rfl,rfl,SqT.of (s1 _ _ (hA z mz)),at0 z.2,_,rfl,c,_,_,_,rfl,rfl,SqT.of (s1 _ _ hc),at0 n,rfl,_,rfl,?_⟩
   by_cases e:z.2.num=n.num
   ·have e1:decide (V.int z.2.num=V.int n.num)=true:=by simp[e]
    rw[e1];exact bx ⟨_,rfl,hk _ H' (Same.refl _) (by rw[if_pos e])⟩
   ·have e1:decide (V.int z.2.num=V.int n.num)=false:=by simp[e]
    rw[e1];exact aX ⟨_,rfl,hk _ H' (Same.refl _) (by rw[if_neg e])⟩
  ·have ey:=bY (f:=λz:Addr×Nd=>V.ref (if z.2.num=n.num then c else z.1)) hys (λz y _ h=>h);refine⟨p,_,rfl,.inl ⟨SqL.of hp',λl hl'=>?_⟩⟩;have er:aR (zs.map λz=>if z.2.num=n.num then (c,n)else z)=ys:=by
    rw[ey,←ce,map_map];apply map_congr_left;intro z _;show V.ref (if z.2.num=n.num then (c,n)else z).1=_
    by_cases e:z.2.num=n.num
    ·rw[if_pos e,if_pos e]
    ·rw[if_neg e,if_neg e]
   refine q (zs.map λz=>if z.2.num=n.num then (c,n)else z) l _ (s1.trans (ae hl')) (by rw[er];exact ac) (λy hy=>?_) ?_
   ·obtain⟨z,mz,rfl⟩:=mem_map.mp hy
    by_cases e:z.2.num=n.num
    ·rw[if_pos e];exact(s1.trans (ae hl')) _ _ hc
    ·rw[if_neg e];exact(s1.trans (ae hl')) _ _ (hA z mz)
   ·unfold nds;rw[map_map,map_map];apply map_congr_left;intro z _;show(if z.2.num=n.num then (c,n)else z).2=TW.put n z.2
    unfold TW.put
    by_cases e:z.2.num=n.num
    ·rw[if_pos e,if_pos e]
    ·rw[if_neg e,if_neg e]
def oF(cls:TW.Wd→Addr):Sp:=λvs H Q E=>∃t n p nm st zs,vs=[.ref t,.int n,.int p,.str nm,stV st]∧Tre H t zs∧zs.length≤29∧eZ (.make n p nm st)∧Outs H (nds zs) (.make n p nm st) cls Q E
theorem tE:FnScope ["tree","number","parent","name","stamp","nodes"] ["tree","number","parent","name","stamp"] (ai sg):=fsM
theorem vm{f:Addr}{fd:FuncData}{cls:TW.Wd→Addr}(F:Fun K "make" "make" sg f fd)(T:Txt mg)(O:uO mg base cls)(CB:Has P w K mg base 1 "by_number" ["tree"] gH)(CF:cB P w K mg base 2 "check_folder" ["nodes","number"] (pS (cls .noNode) (cls .notFolder)))(CL:cB P w K mg base 1 "check_place" ["tree","number","parent","name"] (nA (cls .taken))):FnOk P w K mg base (CX1 P w) 3 f fd ["tree","number","parent","name","stamp"] (oF cls):=by
 obtain⟨fB,fdB,GB,mB,kB,bB⟩:=CB;obtain⟨fF,fdF,GF,mF,kF,bF⟩:=CF;obtain⟨fL,fdL,GL,mL,kL,bL⟩:=CL;refine F.okX tE (λvs H Q E h=>?_) (λcdv A outer s H vs Q E hr h=>?_)
 ·obtain⟨t,n,p,nm,st,zs,rfl,_⟩:=h;rfl
 ·obtain⟨t,n,p,nm,st,zs,rfl,tr,hl,⟨hn1,hn2,hp1,hp2,hnm⟩,o⟩:=h;have hr1:Room 1 _:=hr.mono (by decide);have hnd:=bc tr.tr;refine⟨_,ah (aw (i:=5) tE.nd rfl (Or.inl rfl) (am GB hr1 rfl mB kB bB .nil aU (aa (pv 0) ag)))
   (ah (bj (iL (nT (aS hr) (pv 1) (pv 5))) (al (dy bH (O .known) hr.hd rfl (eV (cS (c:=100) (by decide +kernel) (dS (pv 1) gW)) (by decide)))) aH)
   (ah (ba (am (E:=E) GF hr rfl mF kF bF .nil (cR bH) (aa (pv 5) (aa (pv 2) ag))))
   (ah (ba (am (E:=E) GL hr1 rfl mL kL bL .nil (cR bH) (aa (pv 0) (aa (pv 1) (aa (pv 2) (aa (pv 3) ag))))))
   (al (aM (bh bu rfl T.tuple rfl (aa (aL de rfl T.sorted boot_sorted (aa (aQ (rH.or oR) (pv 0) (bo (aa (bo (aa (pv 1) (aa (pv 2) (aa (pv 3) (aa (pv 4) ag))))) ag))) ag)) ag))))))),?_⟩
  refine⟨_,rfl,t,zs,rfl,tr.tup,tr.nod,by omega,hnd,λd H1 s1 nd1=>?_⟩
  by_cases hk:∃z∈zs,z.2.num=n
  ·obtain⟨z,hz,e⟩:=hk;subst e;exact⟨_,rfl,_,rfl,d,_,rfl,nd1.get hnd hz,_,rfl,bx ⟨_,rfl,_,rfl,by omega,hn2,λy=>⟨aK (show 1≤1000 by decide),o.no .known H1 s1 (.mKnown (mv hz rfl))⟩⟩⟩
  ·have hno:=eY hk;refine⟨_,rfl,_,rfl,d,_,rfl,nd1.not (λz hz e=>hk ⟨z,hz,e⟩),_,rfl,aX ?_⟩;refine⟨_,rfl,_,rfl,d,p,zs,rfl,nd1,tr.nod.same s1,hnd,hp1,hp2,λhF=>?_,λh0 hz=>o.no .noNode H1 s1 (.mNo hno h0 (eY λ⟨z,hz',e⟩=>hz z hz' e)),λz hz e h0 hs=>o.no .notFolder H1 s1 (.mFile hno h0 (av hz) e hs)⟩;refine⟨_,rfl,_,rfl,_,rfl,_,rfl,t,n,p,nm,zs,rfl,s1 _ _ tr.tup,tr.nod.same s1,hp1,hp2,hnm,λhfree=>?_,λz hz _ e1 e2=>o.no .taken H1 s1 (.mTaken hno hF (av hz) e1 e2)⟩;refine⟨_,rfl,_,rfl,_,rfl,_,rfl,_,rfl,(show 4≤sizeLine from aK (by decide)),λq hq=>⟨(show 1≤sizeLine from aK (by decide)),λc hc=>?_⟩⟩;have s2:Same H1 (upd (upd H1 q (.tup [.int n,.int p,.str nm,stV st])) c (.tup [.ref q])):=(ae hq).trans (ae hc);have gq:upd (upd H1 q (.tup [.int n,.int p,.str nm,stV st])) c (.tup [.ref q]) q=some (.tup (vals ⟨n,p,nm,st⟩)):=cQ hc ac;have gc:upd (upd H1 q (.tup [.int n,.int p,.str nm,stV st])) c (.tup [.ref q]) c=some (.tup [.ref q]):=ac;generalize upd (upd H1 q (.tup [.int n,.int p,.str nm,stV st])) c (.tup [.ref q])=H2 at s2 gq gc⊢;have fin:∀(l:Addr)(H3:Hp),Same H2 H3→SqT K H3 l (aR (zs++[(q,⟨n,p,nm,st⟩)]))→tCB (λxs H Q=>∃l,∃zs:List gr,xs=[.ref l]∧(SqL K H l ((zs.map (·.1)).map V.ref)∨SqT K H l ((zs.map (·.1)).map V.ref))∧(∀z∈zs,H z.1=some (.tup (.int z.2.1::z.2.2)))∧(zs.map (·.2.1)).Nodup∧zs.length<64 ∧
     ∀zs':List gr,zs'.Perm zs→zs'.Pairwise (λa b=>a.2.1<b.2.1)→∀p,H p=none→Q (.ref p) (upd H p (.lst ((zs'.map (·.1)).map V.ref)))) (ca (tC (.ref l)) iP) [] H3 (λx H1=>(λxs H Q=>∃p ys,xs=[V.ref p]∧((SqL K H p ys∧∀l,H l=none→Q (V.ref l) (upd H l (.tup ys)))∨(SqT K H p ys∧Q (.ref p) H))) [x] H1 Q):=by
    intro l H3 s3 hl3;have s123:=(s1.trans s2).trans s3;refine mr (.inr hl3) (λz hz=>?_) ?_ (by rw[length_append];simp;omega) (λus t' H' s' ht' hA' hp hrise=>?_)
    ·rcases mem_append.mp hz with h|h
     ·exact s123 _ _ (tr.nod z h)
     ·have e:z=(q,⟨n,p,nm,st⟩):=by simpa using h
      subst e;exact s3 _ _ gq
    ·have e:(nds (zs++[(q,(⟨n,p,nm,st⟩:Nd))])).map (·.num)=(nds zs).map (·.num)++[n]:=by simp[nds]
     rw[e,nodup_append];refine⟨hnd,by simp,λa ha b hb e=>?_⟩;have eb:b=n:=by simpa using hb
     obtain⟨m,hm,em⟩:=mem_map.mp ha;exact hno ⟨m,hm,by rw[em,e,eb]⟩
    ·refine o.ok us t' H' (s123.trans s') ht' hA' (.made hno hF (λm hm=>?_) ?_ hrise)
     ·obtain⟨z,hz,rfl⟩:=cU hm;exact hfree z hz λe=>hno ⟨z.2,hm,e⟩
     ·have:(nds us).Perm (nds (zs++[(q,⟨n,p,nm,st⟩)])):=hp.map _;refine this.trans ?_;unfold nds;rw[map_append];exact List.perm_append_comm
   by_cases hz:zs=[]
   ·subst hz;exact .inl ⟨t,c,_,rfl,rfl,SqT.of ((s1.trans s2) _ _ tr.tup),SqT.of gc,fin c H2 (Same.refl _) (SqT.of gc)⟩
   ·refine .inr ⟨t,c,_,_,rfl,rfl,SqT.of ((s1.trans s2) _ _ tr.tup),SqT.of gc,?_,?_,λh=>absurd h (List.cons_ne_nil _ _),λ_ l hl3=>fin l _ (ae hl3) (by rw[gY];exact SqT.of ac)⟩
    ·intro e;exact hz (rY e)
    ·rw[bt];exact aK (by show zs.length+1≤1000;omega)
def lC(cls:TW.Wd→Addr):Sp:=λvs H Q E=>∃t n st zs,vs=[.ref t,.int n,.int st]∧Tre H t zs∧eZ (.write n st)∧Outs H (nds zs) (.write n st) cls Q E
theorem pT:FnScope ["tree","number","stamp","node"] ["tree","number","stamp"] (ai oo):=fsM
theorem tF{f:Addr}{fd:FuncData}{cls:TW.Wd→Addr}(F:Fun K "write" "write" oo f fd)(O:uO mg base cls)(CB:Has P w K mg base 1 "by_number" ["tree"] gH)(CN:cB P w K mg base 1 "node_of" ["nodes","number"] (im (cls .noNode)))(CW:Has P w K mg base 1 "with_node" ["tree","changed"] jw):FnOk P w K mg base (CX1 P w) 2 f fd ["tree","number","stamp"] (lC cls):=by
 obtain⟨fB,fdB,GB,mB,kB,bB⟩:=CB;obtain⟨fN,fdN,GN,mN,kN,bN⟩:=CN;obtain⟨fW,fdW,GW,mW,kW,bW⟩:=CW;refine F.okX pT (λvs H Q E h=>?_) (λcdv A outer s H vs Q E hr h=>?_)
 ·obtain⟨t,n,st,zs,rfl,_⟩:=h;rfl
 ·obtain⟨t,n,st,zs,rfl,tr,⟨hn1,hn2⟩,o⟩:=h;have hnd:=bc tr.tr;have hl:=tr.len;refine⟨_,ah (aw (i:=3) pT.nd rfl (Or.inl rfl) (am (E:=E) GN hr rfl mN kN bN .nil (cR bH) (aa (am GB hr rfl mB kB bB .nil aU (aa (pv 0) ag)) (aa (pv 1) ag))))
   (ah (bj (au gO (aD ax (pv 3) aj (λ_ _=>rfl)) dj (aC _)) (al (dy bH (O .notFile) hr.hd rfl (eV (cS (c:=100) (by decide +kernel) (dS (pv 1) (cS (c:=100) (by decide +kernel) gW))) (by decide)))) aH)
   (al (aM (am GW hr rfl mW kW bW .nil aU (aa (pv 0) (aa (bo (aa (pv 1) (aa (aD ax (pv 3) aj (λ_ _=>rfl)) (aa (aD ax (pv 3) aj (λ_ _=>rfl)) (aa (pv 2) ag))))) ag)))))),?_⟩
  refine⟨_,rfl,t,zs,rfl,tr.tup,tr.nod,by omega,hnd,λd H1 s1 nd1=>?_⟩;refine⟨_,rfl,d,n,zs,rfl,nd1,hnd,by omega,hn2,λz hz e=>?_,λhk=>o.no .noNode H1 s1 (.wNo (eY λ⟨z,hz,e⟩=>hk z hz e))⟩;subst e;have az:SqT K H1 z.1 (vals z.2):=SqT.of (s1 _ _ (tr.nod z hz));refine⟨_,rfl,z.1,_,_,_,rfl,rfl,az,at3 z.2,rfl,_,rfl,?_⟩;cases hs:z.2.st with
  |none=>exact bx ⟨_,rfl,_,rfl,by omega,hn2,λy=>⟨aK (show 1≤1000 by decide),o.no .notFile H1 s1 (.wFold (av hz) rfl hs)⟩⟩
  |some i =>
   refine aX ⟨_,rfl,_,rfl,_,rfl,z.1,_,_,_,rfl,rfl,az,at1 z.2,_,rfl,z.1,_,_,_,rfl,rfl,az,at2 z.2,_,rfl,(show 4≤sizeLine from aK (by decide)),λc hc=>?_⟩;have s2:=s1.trans (ae (o:=.tup [.int z.2.num,.int z.2.par,.str z.2.nm,.int st]) hc);refine⟨t,c,⟨z.2.num,z.2.par,z.2.nm,some st⟩,zs,rfl,s2 _ _ tr.tup,tr.nod.same s2,ac,by omega,λus t' H' s' ht' hA' e=>o.ok us t' H' (s2.trans s') ht' hA' ?_⟩;rw[e];exact .wrote (av hz) rfl (by rw[hs];simp)
def oG(cls:TW.Wd→Addr):Sp:=λvs H Q E=>∃t n p nm zs,vs=[.ref t,.int n,.int p,.str nm]∧Tre H t zs∧eZ (.move n p nm)∧Outs H (nds zs) (.move n p nm) cls Q E
theorem oH:FnScope ["tree","number","parent","name","nodes","node"] ["tree","number","parent","name"] (ai sk):=fsM
theorem vn{f:Addr}{fd:FuncData}{cls:TW.Wd→Addr}(F:Fun K "move" "move" sk f fd)(O:uO mg base cls)(CB:Has P w K mg base 1 "by_number" ["tree"] gH)(CN:cB P w K mg base 1 "node_of" ["nodes","number"] (im (cls .noNode)))(CF:cB P w K mg base 2 "check_folder" ["nodes","number"] (pS (cls .noNode) (cls .notFolder)))(CE:cB P w K mg base 2 "below" ["tree","number"] (ng (cls .noNode)))(CL:cB P w K mg base 1 "check_place" ["tree","number","parent","name"] (nA (cls .taken)))(CW:Has P w K mg base 1 "with_node" ["tree","changed"] jw):FnOk P w K mg base (CX1 P w) 3 f fd ["tree","number","parent","name"] (oG cls):=by
 obtain⟨fB,fdB,GB,mB,kB,bB⟩:=CB;obtain⟨fN,fdN,GN,mN,kN,bN⟩:=CN;obtain⟨fF,fdF,GF,mF,kF,bF⟩:=CF;obtain⟨fE,fdE,GE,mE,kE,bE⟩:=CE;obtain⟨fL,fdL,GL,mL,kL,bL⟩:=CL;obtain⟨fW,fdW,GW,mW,kW,bW⟩:=CW;refine F.okX oH (λvs H Q E h=>?_) (λcdv A outer s H vs Q E hr h=>?_)
 ·obtain⟨t,n,p,nm,zs,rfl,_⟩:=h;rfl
 ·obtain⟨t,n,p,nm,zs,rfl,tr,⟨hn1,hn2,hp1,hp2,hnm⟩,o⟩:=h;have hnd:=bc tr.tr;have hl:=tr.len;have hT:=tr.tr;have hr1:Room 1 _:=hr.mono (by decide);refine⟨_,ah (aw (i:=4) oH.nd rfl (Or.inl rfl) (am GB hr1 rfl mB kB bB .nil aU (aa (pv 0) ag)))
   (ah (aw (i:=5) oH.nd rfl (Or.inl rfl) (am (E:=E) GN hr1 rfl mN kN bN .nil (cR bH) (aa (pv 4) (aa (pv 1) ag))))
   (ah (ba (am (E:=E) GF hr rfl mF kF bF .nil (cR bH) (aa (pv 4) (aa (pv 2) ag))))
   (ah (bj (PW.pt (pw_or (au eD (pv 2) (pv 1) (aC _)) (pw_or1 (au qg (pv 2) (am (E:=E) GE hr rfl mE kE bE .nil (cR bH) (aa (pv 0) (aa (pv 1) ag))) rfl))))
    (al (dy bH (O .inside) hr.hd rfl (eV (cS (c:=100) (by decide +kernel) (dS (pv 2) (cS (c:=100) (by decide +kernel) (dS (pv 1) (cS (c:=100) (by decide +kernel) gW))))) (by decide)))) aH)
   (ah (ba (am (E:=E) GL hr1 rfl mL kL bL .nil (cR bH) (aa (pv 0) (aa (pv 1) (aa (pv 2) (aa (pv 3) ag))))))
   (al (aM (am GW hr1 rfl mW kW bW .nil aU (aa (pv 0) (aa (bo (aa (pv 1) (aa (pv 2) (aa (pv 3) (aa (aD ax (pv 5) aj (λ_ _=>rfl)) ag))))) ag))))))))),?_⟩
  refine⟨_,rfl,t,zs,rfl,tr.tup,tr.nod,by omega,hnd,λd H1 s1 nd1=>?_⟩;refine⟨_,rfl,_,rfl,d,n,zs,rfl,nd1,hnd,by omega,hn2,λz hz e=>?_,λhk=>o.no .noNode H1 s1 (.vNo (eY λ⟨z,hz,e⟩=>hk z hz e))⟩;subst e;have hh:TW.dP (nds zs) z.2.num:=mv hz rfl;refine⟨_,rfl,_,rfl,d,p,zs,rfl,nd1,tr.nod.same s1,hnd,hp1,hp2,λhF=>?_,λh0 hk=>o.no .noNode H1 s1 (.vNoP hh h0 (eY λ⟨y,hy,e⟩=>hk y hy e)),λy hy e h0 hs=>o.no .notFolder H1 s1 (.vFile hh h0 (av hy) e hs)⟩;have insd:∀H2,Same H1 H2→p≠0→TW.Und (nds zs) z.2.num p→∀y:Str,E (.ref (cls .inside)) none H2:=λH2 s2 h0 hu _=>o.no .inside H2 (s1.trans s2) (.vIn hh hF h0 hu);have rest:∀H2,Same H1 H2→(p≠0→¬TW.Und (nds zs) z.2.num p)→qV (vB (lM (nA (cls .taken)) [] E (ca (fO 0) (ca (fO 1) (ca (fO 2) (ca (fO 3) iP)))))) (vY (lM jw [] E0 (ca (fO 0) (ca (xR (ca (fO 1) (ca (fO 2) (ca (fO 3) (ca (tOp (gf K) (fO 5) (tC (.int 3))) iP))))) iP))))
    {nx:=λ_ H'=>Q .non H',rt:=Q} [some (.ref t),some (.int z.2.num),some (.int p),some (.str nm),some (.ref d),some (.ref z.1)] H2:=by
   intro H2 s2 hu;have s12:=s1.trans s2;refine⟨_,rfl,_,rfl,_,rfl,_,rfl,t,z.2.num,p,nm,zs,rfl,s12 _ _ tr.tup,tr.nod.same s12,hp1,hp2,hnm,λhfree=>?_,λy hy hne e1 e2=>o.no .taken H2 s12 (.vTaken hh hF hu (av hy) hne e1 e2)⟩;refine⟨_,rfl,_,rfl,_,rfl,_,rfl,_,rfl,z.1,_,_,_,rfl,rfl,SqT.of (s12 _ _ (tr.nod z hz)),at3 z.2,(show 4≤sizeLine from aK (by decide)),λc hc=>?_⟩;have s3:=s12.trans (ae (o:=.tup [.int z.2.num,.int p,.str nm,stV z.2.st]) hc);refine⟨t,c,⟨z.2.num,p,nm,z.2.st⟩,zs,rfl,s3 _ _ tr.tup,tr.nod.same s3,ac,by omega,λus t' H' s' ht' hA' e=>o.ok us t' H' (s3.trans s') ht' hA' ?_⟩;rw[e];refine .moved (av hz) rfl hF hu λm hm hne h=>?_;obtain⟨y,hy,rfl⟩:=cU hm;exact hfree y hy hne h
  refine⟨_,rfl,_,rfl,rfl,_,rfl,?_⟩
  by_cases hpn:p=z.2.num
  ·have e1:decide (V.int p=V.int z.2.num)=true:=by simp[hpn]
   rw[e1];exact bx (bx ⟨_,rfl,p,rfl,hp1,hp2,_,rfl,_,rfl,by omega,hn2,λy=>⟨aK (show 1≤1000 by decide),insd H1 (Same.refl _) (by omega) (by rw[hpn];exact .here) y⟩⟩)
  ·have e1:decide (V.int p=V.int z.2.num)=false:=by simp[hpn]
   rw[e1];refine aX ⟨_,rfl,_,rfl,_,rfl,t,z.2.num,zs,rfl,tr.same s1,by omega,hn2,λ_ ms l H2 s2 hms _ hm hl2=>?_,λh0 hk=>absurd rfl (hk z hz)⟩;refine⟨l,_,rfl,.inl (SqL.of hl2),rfl,qD ms,_,rfl,?_⟩;show if (inV (.int p) (ms.map V.int))=true then _ else _
   rw[uB]
   by_cases hin:p∈ms
   ·rw[decide_eq_true hin];obtain⟨m,hm1,hm2,hm3⟩:=(hm p).mp hin;have hu:TW.Und (nds zs) z.2.num p:=by rw[←hm2];exact((TW.cO hT hn1 hm1).mp hm3).2
    have h0:p≠0:=by have:=hT.pos m hm1;omega
    exact bx ⟨_,rfl,p,rfl,hp1,hp2,_,rfl,_,rfl,by omega,hn2,λy=>⟨aK (show 1≤1000 by decide),insd H2 s2 h0 hu y⟩⟩
   ·rw[decide_eq_false hin];refine aX (rest H2 s2 λh0 hu=>?_);rcases hF with e|⟨m,hm1,hm2,hm3⟩
    ·exact h0 e
    ·refine hin ((hm p).mpr ⟨m,hm1,hm3,(TW.cO hT hn1 hm1).mpr ⟨by rw[hm3];exact hpn,by rw[hm3];exact hu⟩⟩)
def oJ(cls:TW.Wd→Addr):Sp:=λvs H Q E=>∃t n zs,vs=[.ref t,.int n]∧Tre H t zs∧eZ (.drop n)∧Outs H (nds zs) (.drop n) cls Q E
theorem tG:FnScope ["tree","number","gone"] ["tree","number"] (ai pq):=fsM
def nB(n:Int)(ms:List Int)(m:Nd):Bool:=!decide (m.num=n∨m.num∈ms)
theorem vo{f:Addr}{fd:FuncData}{cls:TW.Wd→Addr}(F:Fun K "drop" "drop" pq f fd)(T:Txt mg)(CB:Has P w K mg base 1 "by_number" ["tree"] gH)(CN:cB P w K mg base 1 "node_of" ["nodes","number"] (im (cls .noNode)))(CE:cB P w K mg base 2 "below" ["tree","number"] (ng (cls .noNode))):FnOk P w K mg base (CX1 P w) 3 f fd ["tree","number"] (oJ cls):=by
 obtain⟨fB,fdB,GB,mB,kB,bB⟩:=CB;obtain⟨fN,fdN,GN,mN,kN,bN⟩:=CN;obtain⟨fE,fdE,GE,mE,kE,bE⟩:=CE;refine F.okX tG (λvs H Q E h=>?_) (λcdv A outer s H vs Q E hr h=>?_)
 ·obtain⟨t,n,zs,rfl,_⟩:=h;rfl
 ·obtain⟨t,n,zs,rfl,tr,⟨hn1,hn2⟩,o⟩:=h;have hnd:=bc tr.tr;have hl:=tr.len;have hT:=tr.tr;have hr1:Room 1 _:=hr.mono (by decide);refine⟨_,ah (ba (am (E:=E) GN hr1 rfl mN kN bN .nil (cR bH) (aa (am GB hr1 rfl mB kB bB .nil aU (aa (pv 0) ag)) (aa (pv 1) ag))))
   (ah (aw (i:=2) tG.nd rfl (Or.inr rfl) (bh (ig rfl) rfl T.dict boot_dict (aa (ic (N:=["inner"]) (k:=1) (js:=[]) (g:=bn 0) rfl (gT rfl (by decide +kernel) (by decide +kernel) (by decide +kernel)) rfl (λi j x h=>by simp at h)
    (bG (am (E:=E) GE hr rfl mE kE bE .nil (cR bH) (aa (pv 0) (aa (pv 1) ag)))) (λs H fp=>aA (i:=0) (show(["inner"]:List Str).Nodup by decide +kernel) rfl (Or.inl rfl) (Or.inr rfl))
    (λs H fp=>bo (aa (pv 0) (aa vA ag)))) ag)))
   (ah (iG (aS hr) (pv 2) (pv 1) vA rfl)
   (al (aM (bh bu rfl T.tuple rfl (aa (rF (N:=["node","gone"]) (cl:=[("gone",s.heap.objs.size+1)]) (k:=1) (js:=[2]) (g:=bn 0) rfl
    (LcOk.mk' ["gone"] rfl rfl (by decide +kernel) (by decide +kernel) ?hcl rfl (by decide +kernel)) rfl ?hj (dI (pv 0)) (λs H fp=>aA (i:=0) (show(["node","gone"]:List Str).Nodup by decide +kernel) rfl (Or.inl rfl) (Or.inr rfl))
    (λs H fp=>iL (jR (aS hr) (aD (r:=gf K) ax (pv 0) aj (λ_ _=>rfl)) (pv 1))) (λs H fp=>pv 0)) ag)))))),?_⟩
  case hcl =>
   intro y hy;rcases mem_cons.mp hy with e|hy
   ·rw[e];rfl
   ·cases hy
  case hj =>
   intro i j x h1 h2
   match i,h1,h2 with
   |0,h1,h2 =>
    cases h1;cases h2;exact⟨rfl,Or.inr (Or.inl rfl),(show((ai pq).names.lookup ("gone":Str)≠some NameKind.local)by decide +kernel),by first|exact Or.inl rfl|exact Or.inr rfl⟩
   |i+1,h1,h2=>simp at h1
  refine⟨_,rfl,t,zs,rfl,tr.tup,tr.nod,by omega,hnd,λd H1 s1 nd1=>?_⟩;refine⟨_,rfl,d,n,zs,rfl,nd1,hnd,by omega,hn2,λz hz e=>?_,λhk=>o.no .noNode H1 s1 (.dNo (eY λ⟨z,hz,e⟩=>hk z hz e))⟩;refine⟨_,rfl,_,rfl,t,n,zs,rfl,tr.same s1,by omega,hn2,λ_ ms l H2 s2 hms hml0 hm hl2=>?_,λh0 hk=>absurd e (hk z hz)⟩;have hml:ms.length≤1000:=by omega
  refine⟨l,rfl,⟨_,SqL.of hl2⟩,λp hp=>?_⟩;refine gy (fr:=[]) ms V.int hml hp (dO (SqL.of hl2)) rfl (λm y H'=>∃q,y=.ref q∧q≠p∧H' q=some (.tup [.int m,.bl true])) (λm y H H' ⟨q,e,ne,h⟩ ex=>⟨q,e,ne,ex q _ ne h⟩) (λm H' k _ s3 hpl hk=>?_) (λys H3 s3 hp3 hys=>?_)
  ·exact⟨_,rfl,le2,λq hq=>hk _ _ (ae hq) ⟨q,rfl,gU hpl hq,ac⟩⟩
  ·obtain⟨bs,e1,e2,e3⟩:=eW (val:=V.ref) (S:=λ(m:Int) (q:Addr)=>H3 q=some (.tup [.int m,.bl true])) hys (λm y _ ⟨q,e,_,h⟩=>⟨q,e,h⟩);have s123:=(s1.trans s2).trans s3;have hbl:bs.length=ms.length:=by rw[←e1,length_map]
   refine⟨p,bs.map λx=>(x.2,(Sum.inl x.1:Key),V.bl true),rfl,by rw[hp3,e2,map_map,map_map];rfl,λy hy=>?_,by rw[length_map];omega,?_,λg hg=>?_⟩
   ·obtain⟨x,hx,rfl⟩:=mem_map.mp hy;exact e3 x hx
   ·rw[map_map];have:(bs.map ((λx:Addr×Key×V=>x.2.1)∘λx=>(x.2,(Sum.inl x.1:Key),V.bl true)))=ms.map (Sum.inl:Int→Key):=by rw[←e1,map_map];rfl
    rw[this];unfold Nodup;rw[pairwise_map];exact hms.imp λh e=>by injection e with e;omega
   ·have ekv:(bs.map λx=>(x.2,(Sum.inl x.1:Key),V.bl true)).map (·.2)=ms.map λm=>((Sum.inl m:Key),V.bl true):=by rw[←e1,map_map,map_map];rfl
    rw[ekv];have s4:=s123.trans (ae (o:=.dK (ms.map λm=>((Sum.inl m:Key),V.bl true))) hg);have s5:Same H (upd (upd H3 g (.dK (ms.map λm=>((Sum.inl m:Key),V.bl true)))) g (.dK (br (ms.map λm=>((Sum.inl m:Key),V.bl true)) (Sum.inl n:Key) (.bl true)))):=aI (s123.free hg) s4;refine⟨_,rfl,_,rfl,g,_,rfl,lQ.k (k:=Sum.inl n) ac (ay (by rw[length_map];exact hml)),?_⟩;have hgo:(upd (upd H3 g (.dK (ms.map λm=>((Sum.inl m:Key),V.bl true)))) g (.dK (br (ms.map λm=>((Sum.inl m:Key),V.bl true)) (Sum.inl n:Key) (.bl true)))) g=some (.dK (br (ms.map λm=>((Sum.inl m:Key),V.bl true)) (Sum.inl n:Key) (.bl true))):=ac;generalize upd (upd H3 g (.dK (ms.map λm=>((Sum.inl m:Key),V.bl true)))) g (.dK (br (ms.map λm=>((Sum.inl m:Key),V.bl true)) (Sum.inl n:Key) (.bl true)))=H5 at s5 hgo⊢;have hval:∀k:Int,(!(aN (br (ms.map λm=>((Sum.inl m:Key),V.bl true)) (Sum.inl n:Key) (.bl true)) (Sum.inl k:Key)).isSome) = !decide (k=n∨k∈ms):=λk=>by
     rw[gg]
     by_cases e:k=n
     ·subst e;simp
     ·have e':¬(Sum.inl k:Key)=Sum.inl n:=λh=>e (by injection h);rw[if_neg e']
      by_cases hk:k∈ms
      ·have:aN (ms.map λm=>((Sum.inl m:Key),V.bl true)) (Sum.inl k:Key)=some (.bl true):=by
        refine mq ?_ (mem_map.mpr ⟨k,hk,rfl⟩);rw[map_map];unfold Nodup;rw[pairwise_map];exact hms.imp λh e=>by injection e with e;omega
       rw[this];simp[hk]
      ·have:aN (ms.map λm=>((Sum.inl m:Key),V.bl true)) (Sum.inl k:Key)=none:=by
        refine uM λhx=>hk ?_;rw[map_map]at hx;obtain⟨m,hm',e⟩:=mem_map.mp hx;injection e with e
        rw[←e];exact hm'
       rw[this];simp[e,hk]
    refine⟨_,rfl,t,rfl,⟨_,SqT.of (s5 _ _ tr.tup)⟩,λp2 hp2=>?_⟩;refine jh (fr:=[some (.ref g)]) zs (λz=>V.ref z.1) (by omega) hp2 (li (by rw[ce];exact SqT.of (s5 _ _ tr.tup))) rfl (λz=>nB n ms z.2) (λz y _=>y=.ref z.1) (λz y H H' h _=>h) (λz H' k mz s6 _ hk=>?_) (λz H' k mz _ s6 _ hk=>?_) (λys H6 s6 hp6 hys=>?_)
    ·refine⟨_,rfl,z.1,_,_,_,rfl,rfl,SqT.of (s6 _ _ (s5 _ _ (tr.nod z mz))),at0 z.2,_,rfl,g,_,rfl,ci.k (k:=Sum.inl z.2.num) (s6 _ _ hgo),_,rfl,?_⟩;rw[hval];exact hk H' (Same.refl _)
    ·exact⟨_,rfl,hk _ H' (Same.refl _) rfl⟩
    ·have ey:=bY (f:=λz:Addr×Nd=>V.ref z.1) hys (λz y _ h=>h);refine⟨p2,_,rfl,.inl ⟨SqL.of hp6,λl6 hl6=>?_⟩⟩;have s56:=(s5.trans s6).trans (ae (o:=.tup ys) hl6);refine o.ok (zs.filter λz=>nB n ms z.2) l6 _ s56 (by rw[ac,ey,ce]) (λy hy=>s56 _ _ (tr.nod y (mem_filter.mp hy).1)) ?_;have en:nds (zs.filter λz=>nB n ms z.2)=(nds zs).filter (nB n ms):=by
      unfold nds;rw[filter_map];rfl
     rw[en];refine .dropped ⟨z.2,av hz,e⟩ λm hm'=>?_;unfold nB;rw[Bool.not_eq_true',decide_eq_false_iff_not];constructor
     ·intro h hu
      by_cases em:m.num=n
      ·exact h (.inl em)
      ·exact h (.inr ((hm m.num).mpr ⟨m,hm',rfl,(TW.cO hT hn1 hm').mpr ⟨em,hu⟩⟩))
     ·intro h hx;rcases hx with em|hx
      ·exact h (by rw[em];exact .here)
      ·obtain⟨m',h1,h2,h3⟩:=(hm m.num).mp hx;have:m'=m:=hT.inj h1 hm' h2;subst this;exact h ((TW.cO hT hn1 h1).mp h3).2
def eS(cls:TW.Wd→Addr):Sp:=λvs H Q E=>∃t d dd zs,vs=[.ref t,.ref d]∧Tre H t zs∧zs.length≤29∧H d=some (.tup (vJ dd))∧eZ dd∧Outs H (nds zs) dd cls Q E
theorem tH:FnScope ["tree","deed","word"] ["tree","deed"] (ai so):=fsM
theorem vp{f:Addr}{fd:FuncData}{cls:TW.Wd→Addr}(F:Fun K "done" "done" so f fd)(CM:cB P w K mg base 3 "make" ["tree","number","parent","name","stamp"] (oF cls))(CW:cB P w K mg base 2 "write" ["tree","number","stamp"] (lC cls))(CV:cB P w K mg base 3 "move" ["tree","number","parent","name"] (oG cls))(CD:cB P w K mg base 3 "drop" ["tree","number"] (oJ cls)):FnOk P w K mg base (CX1 P w) 4 f fd ["tree","deed"] (eS cls):=by
 obtain⟨fM,fdM,GM,mM,kM,bM⟩:=CM;obtain⟨fW,fdW,GW,mW,kW,bW⟩:=CW;obtain⟨fV,fdV,GV,mV,kV',bV⟩:=CV;obtain⟨fD,fdD,GD,mD,kD,bD⟩:=CD;refine F.okX tH (λvs H Q E h=>?_) (λcdv A outer s H vs Q E hr h=>?_)
 ·obtain⟨t,d,dd,zs,rfl,_⟩:=h;rfl
 ·obtain⟨t,d,dd,zs,rfl,tr,hl,hd,hok,o⟩:=h;have hr2:Room 2 _:=hr.mono (by decide);refine⟨_,ah (aw (i:=2) tH.nd rfl (Or.inl rfl) (aD ax (pv 1) aj (λ_ _=>rfl)))
   (ah (bj (au eD (pv 2) cP (aC _)) (al (aM (am (E:=E) GM hr rfl mM kM bM .nil (cR bH) (aa (pv 0) (aa (aD ax (pv 1) aj (λ_ _=>rfl)) (aa (aD ax (pv 1) aj (λ_ _=>rfl)) (aa (aD ax (pv 1) aj (λ_ _=>rfl)) (aa (aD ax (pv 1) aj (λ_ _=>rfl)) ag)))))))) aH)
   (ah (bj (au eD (pv 2) cP (aC _)) (al (aM (am (E:=E) GW hr2 rfl mW kW bW .nil (cR bH) (aa (pv 0) (aa (aD ax (pv 1) aj (λ_ _=>rfl)) (aa (aD ax (pv 1) aj (λ_ _=>rfl)) ag)))))) aH)
   (ah (bj (au eD (pv 2) cP (aC _)) (al (aM (am (E:=E) GV hr rfl mV kV' bV .nil (cR bH) (aa (pv 0) (aa (aD ax (pv 1) aj (λ_ _=>rfl)) (aa (aD ax (pv 1) aj (λ_ _=>rfl)) (aa (aD ax (pv 1) aj (λ_ _=>rfl)) ag))))))) aH)
   (ah (bj (au eD (pv 2) cP (aC _)) (al (aM (am (E:=E) GD hr rfl mD kD bD .nil (cR bH) (aa (pv 0) (aa (aD ax (pv 1) aj (λ_ _=>rfl)) ag))))) aH)
   (al qX))))),?_⟩
  have sd:SqT K H d (vJ dd):=SqT.of hd;cases dd with
  |make n p nm st =>
   refine⟨_,rfl,d,_,_,_,rfl,rfl,sd,rfl,?_⟩;refine⟨_,rfl,rfl,_,rfl,bx ⟨_,rfl,_,rfl,d,_,_,_,rfl,rfl,sd,rfl,_,rfl,d,_,_,_,rfl,rfl,sd,rfl,_,rfl,d,_,_,_,rfl,rfl,sd,rfl,_,rfl,d,_,_,_,rfl,rfl,sd,rfl,t,n,p,nm,st,zs,rfl,tr,hl,hok,o⟩⟩
  |write n st =>
   refine⟨_,rfl,d,_,_,_,rfl,rfl,sd,rfl,?_⟩;refine⟨_,rfl,rfl,_,rfl,aX ⟨_,rfl,rfl,_,rfl,bx ⟨_,rfl,_,rfl,d,_,_,_,rfl,rfl,sd,rfl,_,rfl,d,_,_,_,rfl,rfl,sd,rfl,t,n,st,zs,rfl,tr,hok,o⟩⟩⟩
  |move n p nm =>
   refine⟨_,rfl,d,_,_,_,rfl,rfl,sd,rfl,?_⟩;refine⟨_,rfl,rfl,_,rfl,aX ⟨_,rfl,rfl,_,rfl,aX ⟨_,rfl,rfl,_,rfl,bx ⟨_,rfl,_,rfl,d,_,_,_,rfl,rfl,sd,rfl,_,rfl,d,_,_,_,rfl,rfl,sd,rfl,_,rfl,d,_,_,_,rfl,rfl,sd,rfl,t,n,p,nm,zs,rfl,tr,hok,o⟩⟩⟩⟩
  |drop n =>
   refine⟨_,rfl,d,_,_,_,rfl,rfl,sd,rfl,?_⟩;refine⟨_,rfl,rfl,_,rfl,aX ⟨_,rfl,rfl,_,rfl,aX ⟨_,rfl,rfl,_,rfl,aX ⟨_,rfl,rfl,_,rfl,bx ⟨_,rfl,_,rfl,d,_,_,_,rfl,rfl,sd,rfl,t,n,zs,rfl,tr,hok,o⟩⟩⟩⟩⟩
end
end TK
namespace L2
open PySem PySem.Spec PyProof.Rows
section
variable{X:Cx}
end
def tI(P:Addr)(qual:Str)(js:List Nat)(σ:St)(spK:Addr→Addr→List V→Sp)(Q:VK):List V→Hp→Prop
 |[v],H1=>∃d kvs,∃ns:List Int,∃key:Int→Int,v=.ref d∧Rd H1 d (.dK kvs)∧kvs.map (·.1)=ns.map (Sum.inl:Int→Key)∧ns.length<64∧bz H1 P qual∧∃fv,ym js σ fv∧∀f c H',db P H1 H'→bz H' P qual→H' c=some (.ext (cdφ c qual)) →
  (∀n∈ns,∀H2,Same H' H2→spK f c fv [.int n] H2 (λv H3=>v=.int (key n)∧Same H2 H3) E0)∧∀D (ms:List Int) H2,ms.Perm ns→ms.Pairwise (λa b=>key a≤key b)→Same H' H2→H2 D=none→Q (.ref D) (upd H2 D (.lst (ms.map V.int)))
 |_,_=>False
def xz(P:Addr)(qual:Str)(js:List Nat)(spK:Addr→Addr→List V→Sp)(te:TE):TE:=λσ H Q=>te σ H λv H1=>tI P qual js σ spK Q [v] H1
def kyI(key:Int→Int):V→Int
 |.int n=>key n
 |_=>0
section
variable{X:Cx}
theorem tJ{P c0:Addr}{k:Nat}{y:Str}{p lpos kpos pos:Pos}{params:Arguments}{body:Expr}{scope:Scope}{cl:List (Str×Addr)}{fs:List Str}{js:List Nat}{qual:Str}{spK:Addr→Addr→List V→Sp}{e:Expr}{te:TE}(hcm:X.calm=true)(C0:CodeHd X.base c0 P)(hc:X.env.code=.ref c0)(Bm:BmB X.base X.mg)(hq:X.env.qual++"<lambda>"=qual)(hdef:defaultsOf params X.env=([],[]))(hcl:closureFor scope X.env=pure cl)(O:CapOk X scope cl fs js)(hK:∀(base':Heap) (f c:Addr) (pm ctv:Value) (fv:List V),(∀b o,X.base.get? b=some o→base'.get? b=some o)→base'.get? f=some (kla_obj "<lambda>" qual params body scope cl pm c ctv)→Capt base' scope cl fs fv→FnOk X.prog X.w X.K X.mg base' CX0 k f (kla_fn "<lambda>" qual params body scope cl pm (.ref c) ctv) [y] (spK f c fv))(hbn:∀(pm ctv:Value) (c:Addr),cb X.K (kla_fn "<lambda>" qual params body scope cl pm (.ref c) ctv) [y] [])(hr:Room (k+2) X.A)(hg:Gl X "sorted")(hm:X.mg "sorted"=none)(he:PE X e te)(hse:starEach [e] X.env=(false,eval e X.env)::starEach [] X.env:=by rfl)(hpl:(backTo pos (starEach [e] X.env)).any (·.1)=false:=by rfl):
  PE X (.Call (.Name "sorted" p) [e] [⟨some "key",.Lambda params body scope lpos,kpos⟩] pos) (xz P qual js spK te):=by
 intro pins s σ H Q I h;subst hq;refine wpAny_Call_Name_kw (dH I hg hm boot_sorted ?_ (by decide) (by decide));refine callWith_kw ?_ (by rw[hse];rfl) hpl rfl rfl;refine thn (aa he ag hse pos pins s σ H (tI P (X.env.qual++"<lambda>") js σ spK Q) I h) λus s1 hpt=>?_;obtain⟨vs,H1,I1,r,q0⟩:=hpt;obtain⟨v,rfl⟩:∃v,vs=[v]:=by
  match vs,q0 with
  |[v],_=>exact⟨v,rfl⟩
 obtain⟨d,kvs,ns,key,rfl,hd,hks,h64,T,fv,hv,q⟩:=q0;obtain⟨u,rfl,ru⟩:=cE r;cases ru;show wpAny _ _ (evalAll [(do let v ← eval (.Lambda params body scope lpos) X.env;standAt pos;pure v)]) _ _ s1
 refine wpAny_evalAll_cons (wpAny_bind (pF I1 C0 hc Bm T hdef hcl λf c pm ctv H' s2 off tq hc' J ho hsz hf hcell=>wpAny_bind (wpAny_standAt (wpAny_pure (wpAny_evalAll_nil ?_)))));obtain⟨hsp,qq⟩:=q f c H' off tq hc';have hd2:Rd H' d (.dK kvs):=by
  obtain⟨ps,hP,_⟩:=T;rcases hd with hd|⟨o,hd⟩
  ·exact .inl (off d _ (λz=>by rw[z,hP]at hd;cases hd) hd)
  ·exact .inr ⟨o,off d _ (λz=>by rw[z,hP]at hd;cases hd) hd⟩
 have nf:f∉frs X.stack:=λhm=>by
  rcases mem_cons.mp (I1.stkSub f hm)with z|z
  ·have:=I1.lt;rw[←z]at this;exact absurd this (not_lt.mpr hsz)
  ·exact I1.nofs hsz z
 obtain⟨hz,hsm,vs0,rel,dd⟩:=J.dK hd2;obtain⟨ep,da⟩:=dd.dictAt;have hzv:vs0.length≤sizeLine:=by rw[←rel.length];exact hz
 show wpAny _ _ (call (.builtin "sorted") [.ref d] [("key",.ref f)]) _ _ s2;refine call_function_entry_kw kind_sorted plain_sorted entry_sorted (ksk_s1 _ _) ?_;unfold Builtin.«sorted»;refine wpAny_bind (m:=checkCount "sorted" 1 1 _) (wpAny_pure (wpAny_bind (SRT.mG (PySem.W.kdl_dict hsm) (J.ok.hd hcm) da hzv λh1 tk acc hk1 hlt1 hit=>?_)));have rv:ar (ns.map V.int) acc.toList:=by
  have:=uy rel hit;have e:(kvs.map λp=>kV p.1)=ns.map V.int:=by
   have:=congrArg (List.map kV) hks;rw[map_map,map_map]at this;exact this
  rw[e]at this;exact this
 refine jp (key:=kyI key) (b:=false) (Rl:=Same) (tk:=tk) Same.refl (λ_ _ _ a b=>a.trans b) J hk1 (le_of_lt hlt1) rv (by rw[length_map];exact h64) (hK _ f c pm ctv fv J.bsub (lp ho hf nf) (J.capt O hv)) (hbn pm ctv c) hr (λ_=>rfl) (λ_=>ksk_l1 _ _) (λx hx H2 s2'=>?_) λD ys H2 yp yw s2' fD=>?_
 ·obtain⟨n,hn,rfl⟩:=mem_map.mp hx;exact hsp n hn H2 s2'
 ·obtain⟨ms,mp,rfl⟩:=fb yp rfl;refine qq D ms H2 mp ?_ s2' fD;rw[pairwise_map]at yw;simpa [kyI]using yw
end
def cvW(c:Cv):List V:=c.v::c.p.map V.str
section
variable{X:Cx}{pins:List (Addr×Obj)}{σ:St}{H:Hp}{s:Shared}
theorem qR(I:Inv X pins σ H s){A:Around}{a b:Addr}{xs ys:List V}(ha:H a=some (.tup xs))(hb:H b=some (.tup ys))(hu:A.units<cLine)(fx:∀v∈xs,dh v=true)(fy:∀v∈ys,dh v=true):EqAt A s (.ref a) (.ref b) (decide (xs=ys)):=by
 by_cases e:a=b
 ·subst e;rw[ha]at hb;cases hb;rw[decide_eq_true rfl];exact EqAt.same _
 ·obtain⟨_,us,r1,t1⟩:=I.hok _ _ ha;obtain⟨_,ws,r2,t2⟩:=I.hok _ _ hb;exact EqAt.of_refs e (uV r1 r2 t1 t2 hu fx fy)
theorem kh(p:List Str):∀v∈p.map V.str,dh v=true:=λv hv=>by
 obtain⟨x,_,rfl⟩:=mem_map.mp hv;rfl
theorem vq(I:Inv X pins σ H s){A:Around}{c d:Cv}(hc:ls H c)(hd:ls H d)(fc:dh c.v=true)(fd:dh d.v=true)(hu:A.units+1<cLine):EqAt A s (.ref c.a) (.ref d.a) (decide (cvW c=cvW d)):=by
 by_cases e:c.a=d.a
 ·have h1:=hc.1;rw[e,hd.1]at h1;injection h1 with h1
  injection h1 with h1
  injection h1 with h1 h2
  injection h1 with h1
  injection h2 with h2
  have h3:=hc.2;rw[←h1,hd.2]at h3;injection h3 with h3
  injection h3 with h3
  rw[show cvW c=cvW d by unfold cvW;rw[h2,h3],e,decide_eq_true rfl];exact EqAt.same _
 ·obtain⟨_,us,r1,t1⟩:=I.hok _ _ hc.1;obtain⟨_,ws,r2,t2⟩:=I.hok _ _ hd.1;cases r1 with
  |@cons _ u1 _ _ a1 r1=>cases r1 with
   |@cons _ u2 _ _ a2 r1=>cases r1 with
    |nil=>cases r2 with
     |@cons _ w1 _ _ b1 r2=>cases r2 with
      |@cons _ w2 _ _ b2 r2=>cases r2 with
       |nil =>
        have:=EqAt.of_refs e (RcAt.tuples (A:=A) (s:=s) (e:=λj=>if j=0 then decide (c.p.map V.str=d.p.map V.str)else decide (c.v=d.v)) t1 t2 (by omega) λj h1 h2=>?_)
        ·have eq:((List.range (min #[u1,u2].size #[w1,w2].size)).all (λj=>if j=0 then decide (c.p.map V.str=d.p.map V.str)else decide (c.v=d.v)) && #[u1,u2].size == #[w1,w2].size)=decide (cvW c=cvW d):=by
          unfold cvW
          by_cases g1:c.v=d.v<;>by_cases g2:c.p.map V.str=d.p.map V.str<;>simp[List.range_succ,g1,g2]
         rw[←eq];exact this
        ·match j,h1,h2 with
         |0,h1,h2 =>
          cases (show u1=Value.ref c.t from a1);cases (show w1=Value.ref d.t from b1);exact qR I hc.2 hd.2 (by simpa [Around.in1_units]using hu) (kh _) (kh _)
         |1,h1,h2 =>
          show EqAt _ _ u2 w2 (decide (c.v=d.v));rw[←mH fc fd];exact gP a2 b2 (dQ fc) (dQ fd)
         |j+2,h1,h2=>exact absurd (show j+2<2 from h1) (by omega)
theorem vt(hu:X.A.units+4<cLine):OpR X (compareOp .Eq) (λx y H Q=>∃a b,∃cs ds:List Cv,x=.ref a∧y=.ref b∧H a=some (.lst (cs.map λc=>V.ref c.a))∧H b=some (.lst (ds.map λc=>V.ref c.a))∧(∀c∈cs,ls H c∧dh c.v=true)∧(∀c∈ds,ls H c∧dh c.v=true)∧Q (.bl (decide (cs.map cvW=ds.map cvW))) H):=by
 intro pins s σ H x y v u Q I rx ry h;obtain⟨a,b,cs,ds,rfl,rfl,ha,hb,fx,fy,q⟩:=h;cases rx;cases ry;obtain⟨_,us,n1,r1,o1⟩:=I.hok a _ ha;obtain⟨_,ws,n2,r2,o2⟩:=I.hok b _ hb;have l1:=r1.length;have l2:=r2.length;rw[length_map]at l1 l2
 by_cases hl:cs.length=ds.length
 ·refine eq_listAt (e:=λi=>decide ((cs.map cvW).getD i []=(ds.map cvW).getD i [])) ⟨_,o1,rfl,n1,rfl⟩ ⟨_,o2,rfl,n2,rfl⟩ (by simp only[size_toArray];omega) (by omega) (λj h1 h2=>?_) ⟨.bl _,H,I,rfl,?_⟩
  ·have h1':j<cs.length:=by rw[l1];simpa using h1
   have h2':j<ds.length:=by rw[l2];simpa using h2
   obtain⟨u',hu1,hu2⟩:=r1.get (i:=j) (x:=V.ref cs[j].a) (by rw[getElem?_map,getElem?_eq_getElem h1'];rfl);obtain⟨v',hv1,hv2⟩:=r2.get (i:=j) (x:=V.ref ds[j].a) (by rw[getElem?_map,getElem?_eq_getElem h2'];rfl);rw[pQ h1 hu1,pQ h2 hv1,getD_eq_getElem?_getD,getD_eq_getElem?_getD,getElem?_map,getElem?_map,getElem?_eq_getElem h1',getElem?_eq_getElem h2'];cases (show u'=Value.ref cs[j].a from hu2);cases (show v'=Value.ref ds[j].a from hv2);obtain⟨c1,c2⟩:=fx _ (getElem_mem h1');obtain⟨d1,d2⟩:=fy _ (getElem_mem h2');exact vq I c1 d1 c2 d2 (by simp[Around.in1_units];omega)
  ·have:=uW (ps:=cs.map cvW) (qs:=ds.map cvW) (by rw[length_map,length_map,hl]);rw[length_map]at this;simp only[size_toArray,←l1];rw[this];exact q
 ·refine RcAt.lists_lengths ⟨_,o1,rfl,n1,rfl⟩ ⟨_,o2,rfl,n2,rfl⟩ (by simp only[size_toArray,←l1,←l2];simpa using hl) (by omega) _ _ _ _ ⟨.bl _,H,I,rfl,?_⟩;rw[decide_eq_false λe=>hl (by have:=congrArg length e;rwa [length_map,length_map]at this)]at q;exact q
end
end L2
namespace TK
open PySem L2
theorem Bel.sim{zs us:ZN}{R:Int→Int→Prop}(h:∀z∈zs,∀k',R z.2.par k'→∃y∈us,y.2.par=k'∧y.2.nm=z.2.nm∧y.2.st=z.2.st∧(z.2.st=none→R z.2.num y.2.num)){k:Int}{r:List Str}{st:Option Int}(b:Bel zs k r st):∀k',R k k'→Bel us k' r st:=by
 induction b with
 |@one z hz =>
  intro k' hR;obtain⟨y,y1,y2,y3,y4,_⟩:=h z hz k' hR;have:=Bel.one y1;rw[y2,y3,y4]at this;exact this
 |@step z r st hz hs _ ih =>
  intro k' hR;obtain⟨y,y1,y2,y3,y4,y5⟩:=h z hz k' hR;have:=Bel.step y1 (y4.trans hs) (ih _ (y5 hs));rw[y2,y3]at this;exact this
structure CopyOf(zs us:ZN)(wh:Int)(ren:Int→Int):Prop where
 mem:∀n,n∈nds us↔n∈nds zs∨∃m∈nds zs,TW.Und (nds zs) wh m.num∧n.num=ren m.num∧n.st=m.st∧(m.num≠wh→n.par=ren m.par∧n.nm=m.nm)∧(m.num=wh→n.par=0∧n.nm="copy")
 low:∀n∈nds zs,n.num<60∧n.par<60
 big:∀x,TW.Und (nds zs) wh x→60≤ren x
 inj:∀x y,TW.Und (nds zs) wh x→TW.Und (nds zs) wh y→ren x=ren y→x=y
theorem fe{ns:List Nd}(T:TW.Tree1 ns){g:Int}{m:Nd}(hm:m∈ns)(h:TW.Und ns g m.num)(hn:m.num≠g):TW.Und ns g m.par:=by
 generalize e:m.num=x at h;cases h with
 |here=>exact absurd e hn
 |up hn' hu =>
  have:=T.inj hm hn' e;rw[this];exact hu
theorem km{ns:List Nd}(T:TW.Tree1 ns){g k:Int}(h:TW.Und ns g k):∀{p:List Str},TW.PathTo ns k p→∃q,TW.PathTo ns g q∧q.length≤p.length:=by
 induction h with
 |here=>intro p hp;exact⟨p,hp,le_refl _⟩
 |up hn _ ih =>
  intro p hp;obtain⟨q,e,hq⟩:=hp.inv T hn rfl;obtain⟨q',h1,h2⟩:=ih hq;refine⟨q',h1,?_⟩;rw[e,length_append];omega
theorem fJ{ns:List Nd}(T:TW.Tree1 ns){n:Nd}(hn:n∈ns)(h:TW.Und ns n.num n.par):False:=by
 obtain⟨p,hp⟩:=TW.PathTo.ex T hn;obtain⟨q,e,hq⟩:=hp.inv T hn rfl;obtain⟨q',h1,h2⟩:=km T h hq;rw[TW.PathTo.uniq T h1 hp,e,length_append,length_cons]at h2;omega
theorem hV{zs:ZN}{n:Nd}(h:n∈nds zs):∃z∈zs,z.2=n:=mem_map.mp h
theorem CopyOf.old{zs us:ZN}{wh:Int}{ren:Int→Int}(C:CopyOf zs us wh ren)(T:TW.Tree1 (nds zs)){k:Int}(k0:k≠0)(k6:k<60)(r:List Str)(st:Option Int):Bel us k r st↔Bel zs k r st:=by
 constructor
 ·intro b;refine b.sim (R:=λa b=>a=b∧a≠0∧a<60) (λz hz k' hR=>?_) k ⟨rfl,k0,k6⟩;obtain⟨rfl,h0,h6⟩:=hR;rcases (C.mem z.2).mp (av hz)with h|⟨m,hm,hu,_,_,h1,h2⟩
  ·obtain⟨y,hy,e⟩:=hV h;exact⟨y,hy,by rw[e],by rw[e],by rw[e],λ_=>⟨by rw[e],by have:=T.pos _ h;omega,(C.low _ h).1⟩⟩
  ·by_cases e:m.num=wh
   ·exact absurd (h2 e).1 h0
   ·have:=C.big _ (fe T hm hu e);rw[(h1 e).1]at h6;omega
 ·intro b;refine b.sim (R:=λa b=>a=b) (λz hz k' hR=>?_) k rfl;subst hR;obtain⟨y,hy,e⟩:=hV ((C.mem z.2).mpr (.inl (av hz)));exact⟨y,hy,by rw[e],by rw[e],by rw[e],λ_=>by rw[e]⟩
theorem CopyOf.new{zs us:ZN}{wh:Int}{ren:Int→Int}(C:CopyOf zs us wh ren)(T:TW.Tree1 (nds zs))(w1:1≤wh){k:Int}(hk:TW.Und (nds zs) wh k)(r:List Str)(st:Option Int):Bel us (ren k) r st↔Bel zs k r st:=by
 constructor
 ·intro b;refine b.sim (R:=λa b=>TW.Und (nds zs) wh b∧a=ren b) (λz hz k' hR=>?_) k ⟨hk,rfl⟩;obtain⟨hu',e'⟩:=hR;have b6:=C.big _ hu';rcases (C.mem z.2).mp (av hz)with h|⟨m,hm,hu,n1,n2,h1,h2⟩
  ·have:=(C.low _ h).2;omega
  ·by_cases e:m.num=wh
   ·have:=(h2 e).1;omega
   ·obtain⟨p1,p2⟩:=h1 e;have hp:=fe T hm hu e;have ek:=C.inj _ _ hp hu' (by rw[←p1,e']);obtain⟨y,hy,rfl⟩:=hV hm;exact⟨y,hy,ek,p2.symm,n2.symm,λ_=>⟨hu,n1⟩⟩
 ·intro b;refine b.sim (R:=λa b=>TW.Und (nds zs) wh a∧b=ren a) (λz hz k' hR=>?_) _ ⟨hk,rfl⟩;obtain⟨hu',rfl⟩:=hR;have hu:TW.Und (nds zs) wh z.2.num:=.up (av hz) hu';have e:z.2.num≠wh:=λe=>fJ T (av hz) (by rw[e];exact hu');obtain⟨y,hy,ey⟩:=hV ((C.mem ⟨ren z.2.num,ren z.2.par,z.2.nm,z.2.st⟩).mpr (.inr ⟨z.2,av hz,hu,rfl,rfl,λ_=>⟨rfl,rfl⟩,λz=>absurd z e⟩));exact⟨y,hy,by rw[ey],by rw[ey],by rw[ey],λ_=>⟨hu,by rw[ey]⟩⟩
structure WriteOf(us vs:ZN)(x:Int):Prop where
 mem:∀n,n∈nds vs↔(n∈nds us∧n.num≠x)∨∃m∈nds us,m.num=x∧n={m with st:=some 777}
section
variable{zs us vs:ZN}{wh fl:Int}{ren:Int→Int}
theorem WriteOf.old(W:WriteOf us vs (ren fl))(C:CopyOf zs us wh ren)(T:TW.Tree1 (nds zs))(hf:TW.Und (nds zs) wh fl){k:Int}(k0:k≠0)(k6:k<60){r:List Str}{st:Option Int}(b:Bel vs k r st):Bel zs k r st:=by
 refine b.sim (R:=λa b=>a=b∧a≠0∧a<60) (λz hz k' hR=>?_) k ⟨rfl,k0,k6⟩;obtain⟨rfl,h0,h6⟩:=hR;have par:∀n:Nd,n∈nds us→n.par=z.2.par→n∈nds zs:=λn hn e=>by
  rcases (C.mem n).mp hn with h|⟨m,hm,hu,_,_,h1,h2⟩
  ·exact h
  ·by_cases e':m.num=wh
   ·exact absurd ((h2 e').1 ▸ e.symm) h0
   ·have:=C.big _ (fe T hm hu e');have:=(h1 e').1;omega
 rcases (W.mem z.2).mp (av hz)with⟨h,_⟩|⟨m,hm,hx,e⟩
 ·have h:=par _ h rfl;obtain⟨y,hy,e⟩:=hV h;exact⟨y,hy,by rw[e],by rw[e],by rw[e],λ_=>⟨by rw[e],by have:=T.pos _ h;omega,(C.low _ h).1⟩⟩
 ·have h:=par m hm (by rw[e]);have h1:=(C.low _ h).1;have h2:=C.big _ hf;omega
theorem WriteOf.new(W:WriteOf us vs (ren fl))(C:CopyOf zs us wh ren)(T:TW.Tree1 (nds zs)){f:Nd}(hfm:f∈nds zs)(hfn:f.num=fl)(hfs:f.st≠none)(hr:TW.Reach (nds zs) wh f):∃r,Bel vs (ren wh) r (some 777):=by
 have hu:∀n,TW.Reach (nds zs) wh n→TW.Und (nds zs) wh n.num:=λn h=>(TW.gX T h).1;have key:∀n,TW.Reach (nds zs) wh n→∃n'∈nds vs,n'.num=ren n.num∧TW.Reach (nds vs) (ren wh) n'∧(n.num=fl→n'.st=some 777)∧(n.num≠fl→n'.st=n.st):=by
  have put:∀n,n∈nds zs→TW.Und (nds zs) wh n.par→TW.Und (nds zs) wh n.num→∃n'∈nds vs,n'.num=ren n.num∧n'.par=ren n.par∧(n.num=fl→n'.st=some 777)∧(n.num≠fl→n'.st=n.st):=λn hn hp hu'=>by
   have e:n.num≠wh:=λe=>fJ T hn (by rw[e];exact hp);have hc:(⟨ren n.num,ren n.par,n.nm,n.st⟩:Nd)∈nds us:=(C.mem _).mpr (.inr ⟨n,hn,hu',rfl,rfl,λ_=>⟨rfl,rfl⟩,λz=>absurd z e⟩)
   by_cases ef:n.num=fl
   ·exact⟨⟨ren n.num,ren n.par,n.nm,some 777⟩,(W.mem _).mpr (.inr ⟨_,hc,by show ren n.num=_;rw[ef],rfl⟩),rfl,rfl,λ_=>rfl,λz=>absurd ef z⟩
   ·refine⟨_,(W.mem _).mpr (.inl ⟨hc,λz=>ef ?_⟩),rfl,rfl,λz=>absurd z ef,λ_=>rfl⟩;exact C.inj _ _ hu' (by rw[←hfn];exact hu f hr) z
  intro n h
  induction h with
  |@base n hn e =>
   obtain⟨n',h1,h2,h3,h4,h5⟩:=put n hn (by rw[e];exact .here) (hu n (.base hn e));exact⟨n',h1,h2,.base h1 (by rw[h3,e]),h4,h5⟩
  |@step m n hm hs hn e ih =>
   obtain⟨m',h1,h2,h3,_,h5⟩:=ih;have um:=hu m hm;obtain⟨n',g1,g2,g3,g4,g5⟩:=put n hn (by rw[e];exact um) (hu n (.step hm hs hn e));have mf:m.num≠fl:=λz=>hfs (by rw[T.inj hfm hm.mem (hfn.trans z.symm)];exact hs);exact⟨n',g1,g2,.step h3 ((h5 mf).trans hs) g1 (by rw[g3,h2,e]),g4,g5⟩
 obtain⟨n',_,_,h3,h4,_⟩:=key f hr;obtain⟨r,hr'⟩:=pM h3;have:=hr'.bel;rw[h4 hfn]at this;exact⟨r,this⟩
end
structure Mds(ns:List Nd)(wh:Int)(ms:List Int):Prop where
 nd:ms.Nodup
 mem:∀x,x∈ms↔(∃m∈ns,m.num=x)∧TW.Und ns wh x
 up:ms.Pairwise λa b=>fk ns a≤fk ns b
 len:ms.length≤ns.length
def ren(ms:List Int)(x:Int):Int:=60+(ms.idxOf x:Int)
def cpN(ms:List Int)(wh:Int)(m:Nd):Nd:=if m.num=wh then ⟨ren ms m.num,0,"copy",m.st⟩else ⟨ren ms m.num,ren ms m.par,m.nm,m.st⟩
structure CpI(ns:List Nd)(wh:Int)(ms:List Int)(i:Nat)(us:List Nd):Prop where
 tr:TW.Tree1 us
 mem:∀n,n∈us↔n∈ns∨∃m∈ns,m.num∈ms.take i∧n=cpN ms wh m
 len:us.length≤ns.length+i
structure Low(ns:List Nd):Prop where
 low:∀n∈ns,n.num<60∧n.par<60
 nm:∀n∈ns,n.nm≠"copy"
 st:∀n∈ns,n.st≠some 777
theorem ff{ms:List Int}{wh:Int}{m:Nd}:(cpN ms wh m).num=ren ms m.num:=by unfold cpN;split<;>rfl
theorem lD{ms:List Int}{wh:Int}{m:Nd}:(cpN ms wh m).st=m.st:=by unfold cpN;split<;>rfl
theorem hX{ms:List Int}(nd:ms.Nodup){i:Nat}{x:Int}(h:ms[i]?=some x):ren ms x=60+(i:Int):=by
 obtain⟨hi,rfl⟩:=List.getElem?_eq_some_iff.mp h;unfold ren;rw[nd.idxOf_getElem i hi]
theorem lE{ms:List Int}{x y:Int}(hx:x∈ms)(hy:y∈ms)(h:ren ms x=ren ms y):x=y:=by
 unfold ren at h;have e:ms.idxOf x=ms.idxOf y:=by omega
 have h1:=List.getElem_idxOf (List.idxOf_lt_length_iff.mpr hx);have h2:=List.getElem_idxOf (List.idxOf_lt_length_iff.mpr hy);rw[←h1,←h2]
 congr 1
theorem eB(ms:List Int)(x:Int):60≤ren ms x:=by unfold ren;omega
theorem dG{ms:List Int}(nd:ms.Nodup){x:Int}{i:Nat}(h:x∈ms.take i):x∈ms∧ren ms x<60+(i:Int):=by
 obtain⟨j,hj,e⟩:=List.mem_take_iff_getElem.mp h;have hj':j<ms.length:=by omega
 have:=hX nd (i:=j) (x:=x) (by rw[getElem?_eq_getElem hj',e]);exact⟨List.mem_of_mem_take h,by omega⟩
theorem nD{ms:List Int}(nd:ms.Nodup){i:Nat}{x:Int}(h:ms[i]?=some x):x∉ms.take i:=λz=>by
 have h1:=(dG nd z).2;have h2:=hX nd h;omega
theorem oK{ns:List Nd}(h:TW.cn ns){a b:Nd}(ha:a∈ns)(hb:b∈ns)(e1:a.par=b.par)(e2:a.nm=b.nm):a=b:=by
 unfold TW.cn at h;obtain⟨i,hi,rfl⟩:=mem_iff_getElem.mp ha;obtain⟨j,hj,rfl⟩:=mem_iff_getElem.mp hb;have:=(getElem_inj (i:=i) (j:=j) (h₀:=by rw[length_map];exact hi) (h₁:=by rw[length_map];exact hj) h).mp (by rw[getElem_map,getElem_map,e1,e2]);subst this;rfl
section
variable{ns us:List Nd}{wh:Int}{ms:List Int}{i:Nat}
theorem jx(T:TW.Tree1 ns){m:Nd}(hm:m∈ns)(h0:m.par≠0):∃q∈ns,q.num=m.par∧q.st=none:=by
 cases T.down m hm with
 |base _ e=>exact absurd e h0
 |step h hs _ e=>exact⟨_,h.mem,e.symm,hs⟩
theorem nE(T:TW.Tree1 ns){m:Nd}(hm:m∈ns):fk ns m.num=fk ns m.par+1:=by
 obtain⟨p,hp⟩:=TW.PathTo.ex T hm;obtain⟨q,e,hq⟩:=hp.inv T hm rfl;rw[cM T hp,cM T hq,e,length_append];rfl
theorem pU(T:TW.Tree1 ns)(w1:1≤wh){x:Int}(h:TW.Und ns wh x):x≠0:=λe=>by
 have:=h.zero T e;omega
theorem Mds.before(M:Mds ns wh ms)(T:TW.Tree1 ns)(w1:1≤wh){m:Nd}(hm:m∈ns)(hi:ms[i]?=some m.num)(ne:m.num≠wh):m.par∈ms.take i∧∃q∈ns,q.num=m.par∧q.st=none:=by
 have hu:=fe T hm ((M.mem _).mp (mem_of_getElem? hi)).2 ne;obtain⟨q,hq,eq,qs⟩:=jx T hm (pU T w1 hu);refine⟨?_,q,hq,eq,qs⟩;have hin:m.par∈ms:=(M.mem _).mpr ⟨⟨q,hq,eq⟩,hu⟩;obtain⟨j,hj,ej⟩:=mem_iff_getElem.mp hin;obtain⟨hi',ei⟩:=List.getElem?_eq_some_iff.mp hi;have pl:=nE T hm;refine List.mem_take_iff_getElem.mpr ⟨j,?_,ej⟩;have:j<i:=by
  rcases Nat.lt_trichotomy j i with z|z|z
  ·exact z
  ·subst z;rw[ei]at ej;rw[ej]at pl;omega
  ·have:=pairwise_iff_getElem.mp M.up i j hi' hj z;rw[ei,ej]at this;omega
 omega
theorem Mds.first(M:Mds ns wh ms)(T:TW.Tree1 ns){w:Nd}(hw:w∈ns)(ew:w.num=wh):ms[0]?=some wh:=by
 have hin:wh∈ms:=(M.mem _).mpr ⟨⟨w,hw,ew⟩,.here⟩;obtain⟨j,hj,ej⟩:=mem_iff_getElem.mp hin;have h0:0<ms.length:=by omega
 rw[getElem?_eq_getElem h0]
 by_cases z:j=0
 ·subst z;rw[ej]
 ·exfalso
  have h1:=pairwise_iff_getElem.mp M.up 0 j h0 hj (by omega);have hx:=(M.mem _).mp (getElem_mem h0);have ne:ms[0]≠wh:=λe=>z ((getElem_inj M.nd).mp (ej.trans e.symm));obtain⟨⟨m,hm,em⟩,hu⟩:=hx;rw[ej,←em]at h1;rw[←em]at hu ne;have h2:=nE T hm;have h3:=fe T hm hu ne;obtain⟨p,hp⟩:=TW.PathTo.ex T hm;obtain⟨q,e,hq⟩:=hp.inv T hm rfl;obtain⟨q',g1,g2⟩:=km T h3 hq;rw[cM T g1,cM T hp,e,length_append,length_singleton]at h1;omega
theorem Mds.many(M:Mds ns wh ms)(T:TW.Tree1 ns){w:Nd}(hw:w∈ns)(ew:w.num=wh):1<ms.length↔∃n∈ns,n.par=wh:=by
 have f:=M.first T hw ew;constructor
 ·intro h;have hx:=(M.mem _).mp (getElem_mem h);have ne:ms[1]≠wh:=λe=>by
   obtain⟨h0,e0⟩:=List.getElem?_eq_some_iff.mp f;have:=(getElem_inj (i:=1) (j:=0) (h₀:=h) (h₁:=h0) M.nd).mp (e.trans e0.symm);omega
  have key:∀x,TW.Und ns wh x→x≠wh→∃n∈ns,n.par=wh:=λx hu=>by
   induction hu with
   |here=>intro z;exact absurd rfl z
   |@up n hn hu ih =>
    intro _
    by_cases e:n.par=wh
    ·exact⟨n,hn,e⟩
    ·exact ih e
  exact key _ hx.2 ne
 ·rintro⟨n,hn,e⟩;have h1:n.num∈ms:=(M.mem _).mpr ⟨⟨n,hn,rfl⟩,.up hn (by rw[e];exact .here)⟩;obtain⟨j,hj,ej⟩:=mem_iff_getElem.mp h1;have:j≠0:=λz=>by
   subst z;rw[getElem?_eq_getElem hj,ej]at f;have f:=Option.some.inj f;exact fJ T hn (by rw[e,f];exact .here)
  omega
theorem CpI.start(T:TW.Tree1 ns):CpI ns wh ms 0 ns:=⟨T,λn=>⟨.inl,λh=>by
 rcases h with h|⟨m,_,h,_⟩
 ·exact h
 ·rw[take_zero]at h;cases h⟩,le_refl _⟩
theorem CpI.step(I:CpI ns wh ms i us)(M:Mds ns wh ms)(T:TW.Tree1 ns)(L:Low ns)(w1:1≤wh){m:Nd}(hm:m∈ns)(hi:ms[i]?=some m.num){r:Sum TW.Wd (List Nd)}(h:TW.Told us (.make (cpN ms wh m).num (cpN ms wh m).par (cpN ms wh m).nm (cpN ms wh m).st) r):∃u,r=.inr u∧CpI ns wh ms (i+1) u:=by
 have en:(cpN ms wh m).num=60+(i:Int):=by rw[ff,hX M.nd hi]
 have hno:¬TW.dP us (cpN ms wh m).num:=by
  rintro⟨k,hk,e⟩;rw[en]at e;rcases (I.mem k).mp hk with h1|⟨m',hm',ht,rfl⟩
  ·have:=(L.low k h1).1;omega
  ·have:=(dG M.nd ht).2;rw[ff]at e;omega
 have hu:=((M.mem _).mp (mem_of_getElem? hi)).2;have hF:(cpN ms wh m).par=0∨∃q∈us,q.num=(cpN ms wh m).par∧q.st=none:=by
  by_cases e:m.num=wh
  ·left;unfold cpN;rw[if_pos e]
  ·obtain⟨ht,q,hq,eq,qs⟩:=M.before T w1 hm hi e;refine .inr ⟨cpN ms wh q,(I.mem _).mpr (.inr ⟨q,hq,by rw[eq];exact ht,rfl⟩),?_,lD.trans qs⟩;rw[ff,eq];unfold cpN;rw[if_neg e]
 have hfree:∀k∈us,¬(k.par=(cpN ms wh m).par∧k.nm=(cpN ms wh m).nm):=by
  rintro k hk ⟨e1,e2⟩;rcases (I.mem k).mp hk with h1|⟨m',hm',ht,rfl⟩
  ·by_cases e:m.num=wh
   ·unfold cpN at e2;rw[if_pos e]at e2;exact L.nm k h1 e2
   ·unfold cpN at e1;rw[if_neg e]at e1;have:=(L.low k h1).2;have:=eB ms m.par;have e1:k.par=ren ms m.par:=e1;omega
  ·have nt:=nD M.nd hi;obtain⟨ht',_⟩:=dG M.nd ht;have hu':=((M.mem _).mp ht').2
   by_cases e:m.num=wh
   ·by_cases e':m'.num=wh
    ·exact nt (by rw[e,←e'];exact ht)
    ·unfold cpN at e1;rw[if_pos e,if_neg e']at e1;have:=eB ms m'.par;have e1:ren ms m'.par=0:=e1;omega
   ·by_cases e':m'.num=wh
    ·unfold cpN at e1;rw[if_neg e,if_pos e']at e1;have:=eB ms m.par;have e1:0=ren ms m.par:=e1;omega
    ·unfold cpN at e1 e2;rw[if_neg e,if_neg e']at e1 e2;have e1:ren ms m'.par=ren ms m.par:=e1;have e2:m'.nm=m.nm:=e2;have mem:∀{n:Nd},n∈ns→n.num∈ms→n.num≠wh→n.par∈ms:=λ{n} hn h1 h2=>by
      have hu:=fe T hn ((M.mem _).mp h1).2 h2;obtain⟨q,hq,eq,_⟩:=jx T hn (pU T w1 hu);exact(M.mem _).mpr ⟨⟨q,hq,eq⟩,hu⟩
     have e3:=lE (mem hm' ht' e') (mem hm (mem_of_getElem? hi) e) e1;have:m'=m:=oK T.own hm' hm e3 e2;exact nt (by rw[←this];exact ht)
 have pos:1≤(cpN ms wh m).num:=by rw[en];omega
 cases h with
 |mKnown h=>exact absurd h hno
 |mNo _ h0 hn =>
  rcases hF with z|⟨q,hq,eq,_⟩
  ·exact absurd z h0
  ·exact absurd ⟨q,hq,eq⟩ hn
 |mFile _ h0 hk e hs =>
  rcases hF with z|⟨q,hq,eq,qs⟩
  ·exact absurd z h0
  ·rw[I.tr.inj hk hq (e.trans eq.symm)]at hs;exact absurd qs hs
 |mTaken _ _ hk e1 e2=>exact absurd ⟨e1,e2⟩ (hfree _ hk)
 |made hn hf ho hp hr =>
  refine⟨_,rfl,TW.made (n:=cpN ms wh m) I.tr hp hr pos hf ho,λn=>?_,?_⟩
  ·rw[hp.mem_iff,mem_cons,I.mem n,aP hi];constructor
   ·rintro(e|h1|⟨m',h1,h2,h3⟩)
    ·exact .inr ⟨m,hm,mem_append_right _ mem_cons_self,e⟩
    ·exact .inl h1
    ·exact .inr ⟨m',h1,mem_append_left _ h2,h3⟩
   ·rintro(h1|⟨m',h1,h2,h3⟩)
    ·exact .inr (.inl h1)
    ·rcases mem_append.mp h2 with h2|h2
     ·exact .inr (.inr ⟨m',h1,h2,h3⟩)
     ·have:=T.inj h1 hm (mem_singleton.mp h2);subst this;exact .inl h3
  ·rw[hp.length_eq,length_cons];have:=I.len;omega
end
section
variable{zs us:ZN}{wh:Int}{ms:List Int}
theorem CpI.copy(I:CpI (nds zs) wh ms ms.length (nds us))(M:Mds (nds zs) wh ms)(L:Low (nds zs)){w:Nd}(hw:w∈nds zs)(ew:w.num=wh):CopyOf zs us wh (ren ms):=by
 refine⟨λn=>?_,L.low,λx _=>eB ms x,?_⟩
 ·rw[I.mem,take_length];constructor
  ·rintro(h|⟨m,hm,h,rfl⟩)
   ·exact .inl h
   ·refine .inr ⟨m,hm,((M.mem _).mp h).2,ff,lD,λe=>?_,λe=>?_⟩
    ·unfold cpN;rw[if_neg e];exact⟨rfl,rfl⟩
    ·unfold cpN;rw[if_pos e];exact⟨rfl,rfl⟩
  ·rintro(h|⟨m,hm,hu,h1,h2,h3,h4⟩)
   ·exact .inl h
   ·refine .inr ⟨m,hm,(M.mem _).mpr ⟨⟨m,hm,rfl⟩,hu⟩,?_⟩;obtain⟨a,b,c,d⟩:=n;unfold cpN
    split
    ·rename_i e
     obtain⟨g1,g2⟩:=h4 e;have h1:a=_:=h1;have h2:d=_:=h2;have g1:b=_:=g1;have g2:c=_:=g2;rw[h1,h2,g1,g2]
    ·rename_i e
     obtain⟨g1,g2⟩:=h3 e;have h1:a=_:=h1;have h2:d=_:=h2;have g1:b=_:=g1;have g2:c=_:=g2;rw[h1,h2,g1,g2]
 ·have at':∀x,TW.Und (nds zs) wh x→x∈ms:=λx hu=>(M.mem x).mpr ⟨by
   cases hu with
   |here=>exact⟨w,hw,ew⟩
   | up hn _=>exact⟨_,hn,rfl⟩,hu⟩
  exact λx y hx hy e=>lE (at' x hx) (at' y hy) e
theorem cD{k:Int}:k∈ak us↔∃n∈nds us,n.num=k∧n.st=none:=by
 unfold ak nds;rw[mem_map];constructor
 ·rintro⟨z,hz,e⟩;obtain⟨h1,h2⟩:=mem_filter.mp hz;exact⟨z.2,mem_map.mpr ⟨z,h1,rfl⟩,e,isNone_iff_eq_none.mp h2⟩
 ·rintro⟨n,hn,e,hs⟩;obtain⟨z,hz,rfl⟩:=mem_map.mp hn;exact⟨z,mem_filter.mpr ⟨hz,isNone_iff_eq_none.mpr hs⟩,e⟩
theorem oM(C:CopyOf zs us wh (ren ms))(T:TW.Tree1 (nds zs))(Tu:TW.Tree1 (nds us))(w1:1≤wh){w:Nd}(hw:w∈nds zs)(ew:w.num=wh)(ws:w.st=none):wh∈ak us∧ren ms wh∈ak us∧wh<ren ms wh∧(∀r st,Bel us wh r st↔Bel zs wh r st)∧(∀r st,Bel us (ren ms wh) r st↔Bel zs wh r st):=by
 have h6:=(C.low w hw).1;have h7:=eB ms wh;refine⟨cD.mpr ⟨w,(C.mem w).mpr (.inl hw),ew,ws⟩,cD.mpr ⟨⟨ren ms wh,0,"copy",none⟩,(C.mem _).mpr (.inr ⟨w,hw,by rw[ew];exact .here,by rw[ew],ws.symm,λz=>absurd ew z,λ_=>⟨rfl,rfl⟩⟩),rfl,rfl⟩,by omega,λr st=>C.old T (by omega) (by omega) r st,λr st=>C.new T w1 .here r st⟩
end
theorem nF{us:List Nd}(T:TW.Tree1 us){x:Int}{y:Nd}(hy:y∈us)(ey:y.num=x)(ys:y.st≠none){r:Sum TW.Wd (List Nd)}(h:TW.Told us (.write x 777) r):
  ∃u,r=.inr u∧TW.Tree1 u∧u.length=us.length∧∀n,n∈u↔(n∈us∧n.num≠x)∨∃m∈us,m.num=x∧n={m with st:=some 777}:=by
 cases h with
 |wNo h=>exact absurd ⟨y,hy,ey⟩ h
 |wFold h1 h2 h3 =>
  rw[T.inj h1 hy (h2.trans ey.symm)]at h3;exact absurd h3 ys
 |@wrote _ _ z hz ez zs =>
  have e:=T.inj hz hy (ez.trans ey.symm);subst e;refine⟨_,rfl,TW.wrote T hz ez.symm rfl rfl zs,length_map _,λn=>?_⟩;rw[mem_map];constructor
  ·rintro⟨m,hm,rfl⟩
   by_cases e:m.num=x
   ·have:=T.inj hm hz (e.trans ez.symm);subst this;exact .inr ⟨m,hm,e,by rw[TW.ji (by exact e)];rw[←e]⟩
   ·rw[TW.eX (by exact e)];exact .inl ⟨hm,e⟩
  ·rintro(⟨hn,e⟩|⟨m,hm,e,rfl⟩)
   ·exact⟨n,hn,TW.eX (by exact e)⟩
   ·have:=T.inj hm hz (e.trans ez.symm);subst this;exact⟨m,hm,by rw[TW.ji (by exact e)];rw[←e]⟩
section
variable{zs us vs:ZN}{wh fl:Int}{ms:List Int}
theorem xA{k:Int}{r:List Str}{st:Option Int}(b:Bel zs k r st):∃n∈nds zs,n.st=st:=by
 induction b with
 |one hz=>exact⟨_,av hz,rfl⟩
 |step _ _ _ ih=>exact ih
theorem qS(W:WriteOf us vs (ren ms fl))(C:CopyOf zs us wh (ren ms))(T:TW.Tree1 (nds zs))(Tv:TW.Tree1 (nds vs))(L:Low (nds zs))(w1:1≤wh)(wl:wh<60){f:Nd}(hf:f∈nds zs)(ef:f.num=fl)(fs:f.st≠none)(hu:TW.Und (nds zs) wh fl)(ne:fl≠wh){M:Int→Option Int}(mk:Marks vs M)(h1:wh∈ak vs)(h2:ren ms wh∈ak vs):M wh≠M (ren ms wh):=λe=>by
 obtain⟨r,b⟩:=W.new C T hf ef fs ((TW.cO T w1 hf).mpr ⟨by rw[ef];exact ne,by rw[ef];exact hu⟩);have b:=((mk.iff Tv h1 h2).mp e r (some 777)).mpr b;have b:=W.old C T hu (by omega) wl b;obtain⟨n,hn,e⟩:=xA b;exact L.st n hn e
def cz(zs:ZN)(x:Int):Bool:=decide (x∈ak zs)
theorem vw(C:CopyOf zs us wh (ren ms))(M:Mds (nds zs) wh ms)(k:Int):k∈ak us↔k∈ak zs++(ms.filter (cz zs)).map (ren ms):=by
 rw[cD,mem_append,cD,mem_map];constructor
 ·rintro⟨n,hn,rfl,hs⟩;rcases (C.mem n).mp hn with h|⟨m,hm,hu,h1,h2,_⟩
  ·exact .inl ⟨n,h,rfl,hs⟩
  ·exact .inr ⟨m.num,mem_filter.mpr ⟨(M.mem _).mpr ⟨⟨m,hm,rfl⟩,hu⟩,decide_eq_true (cD.mpr ⟨m,hm,rfl,h2.symm.trans hs⟩)⟩,h1.symm⟩
 ·rintro(⟨n,hn,rfl,hs⟩|⟨x,hx,rfl⟩)
  ·exact⟨n,(C.mem n).mpr (.inl hn),rfl,hs⟩
  ·obtain⟨h1,h2⟩:=mem_filter.mp hx;obtain⟨m,hm,rfl,hs⟩:=cD.mp (of_decide_eq_true h2);have hu:=((M.mem _).mp h1).2
   by_cases e:m.num=wh
   ·exact⟨⟨ren ms m.num,0,"copy",none⟩,(C.mem _).mpr (.inr ⟨m,hm,hu,rfl,hs.symm,λz=>absurd e z,λ_=>⟨rfl,rfl⟩⟩),rfl,rfl⟩
   ·exact⟨⟨ren ms m.num,ren ms m.par,m.nm,none⟩,(C.mem _).mpr (.inr ⟨m,hm,hu,rfl,hs.symm,λ_=>⟨rfl,rfl⟩,λz=>absurd z e⟩),rfl,rfl⟩
theorem hZ(T:TW.Tree1 (nds zs)):(ak zs).Nodup:=by
 unfold ak;have h:=T.rise;unfold TW.eQ nds at h;unfold Nodup;rw[pairwise_map]at h⊢;exact(Pairwise.sublist filter_sublist h).imp λh=>by omega
theorem yE(T:TW.Tree1 (nds zs))(L:Low (nds zs))(M:Mds (nds zs) wh ms):(ak zs++(ms.filter (cz zs)).map (ren ms)).Nodup:=by
 rw[nodup_append];refine⟨hZ T,?_,λa ha b hb e=>?_⟩
 ·unfold Nodup;rw[pairwise_map];exact(M.nd.sublist filter_sublist).imp_of_mem λ{a b} ha hb h e=>h (lE (mem_filter.mp ha).1 (mem_filter.mp hb).1 e)
 ·obtain⟨n,hn,rfl,_⟩:=cD.mp ha;obtain⟨x,_,rfl⟩:=mem_map.mp hb;have:=(L.low n hn).1;have:=eB ms x;omega
end
def KN:List Str:=["_law_script","_law_tree_here","_law_book_here","_law_folders","_law_which","_law_turn","_law_made","_law_k","_law_one","_law_parent","_law_name","_law_files","_law_new","_law_due","_law_other"]
theorem scK:FnScope KN ["_law_script"] (ai jm):=fsM
abbrev KX(P:Program)(w:World)(K:PySem.W.Frag)(mg:Str→Option Value)(base:Heap)(f cL:Addr)(A:Around)(outer:List Env)(s:Shared)(H:Hp)(E:XK):Cx:=(fZ CX0 P w K mg base KN "law" (ai jm) f (.ref cL) A outer s H E).nox
abbrev RK(A:Around)(s:Shared)(f cL:Addr):Prop:=Room 6 (A.deeper (PyProof.Rows.envOfC "law" (ai jm) s.heap.objs.size f (.ref cL)))
abbrev kσ(a t d:Addr)(x3 x4 x5 x6 x7 x8 x9 x10 x11 x12 x13 x14:Option V):St:=[some (.ref a),some (.ref t),some (.ref d),x3,x4,x5,x6,x7,x8,x9,x10,x11,x12,x13,x14]
def kS(i:Nat):Stmt:=(bb jm).getD i (.Pass ⟨0,0,0,0⟩)
def jy:Stmt→List Stmt
 |.If _ b _ _=>b
 |.For _ _ b _ _=>b
 |_=>[]
def kbS(i:Nat):Stmt:=(jy (kS 3)).getD i (.Pass ⟨0,0,0,0⟩)
def kcS(i:Nat):Stmt:=(jy (kbS 2)).getD i (.Pass ⟨0,0,0,0⟩)
def qT:Str:=("law"++".<locals>.")++"<lambda>"
structure KF(H:Hp)(PL PC d:Addr)(zs:ZN)(as:List (Addr×(Addr×Nd))):Prop where
 bk:Book H d as zs
 dz:∃o,H d=some (.frz o (.dK (cT as)))
 tL:bz H PL qT
 tC:bz H PC fm
 tr:TW.Tree1 (nds zs)
 ln:zs.length≤9
 gd:∀z∈zs,uF z.2
section
variable{H H':Hp}{PL PC d:Addr}{zs:ZN}{as:List (Addr×(Addr×Nd))}
theorem KF.same(h:KF H PL PC d zs as)(s:Same H H'):KF H' PL PC d zs as:=⟨h.bk.same s,let⟨o,e⟩:=h.dz;⟨o,s _ _ e⟩,bd h.tL s,bd h.tC s,h.tr,h.ln,h.gd⟩
theorem KF.nd(h:KF H PL PC d zs as):((nds zs).map (·.num)).Nodup:=bc h.tr
theorem KF.low(h:KF H PL PC d zs as):Low (nds zs):=by
 have g:∀n∈nds zs,uF n:=λn hn=>by obtain⟨z,hz,rfl⟩:=cU hn;exact h.gd z hz
 refine⟨λn hn=>?_,λn hn e=>?_,λn hn e=>?_⟩
 ·have h1:=(g n hn).2.1;refine⟨by omega,?_⟩
  by_cases e:n.par=0
  ·omega
  ·obtain⟨q,hq,eq,_⟩:=jx h.tr hn e;have:=(g q hq).2.1;omega
 ·have h1:=(g n hn).2.2.1;rw[e]at h1;exact absurd h1 (by decide)
 ·have h1:=(g n hn).2.2.2;rw[e]at h1;exact absurd h1 (by decide)
end
section
variable{P:Program}{w:World}{K:PySem.W.Frag}{mg:Str→Option Value}{base:Heap}{f cL PL PC:Addr}{A:Around}{outer:List Env}{s:Shared}{H0:Hp}{E:XK}
theorem k2:∃rd,PS (KX P w K mg base f cL A outer s H0 E) (kS 2) rd∧∀(D:Ends)(H:Hp)(a t d:Addr)(zs:ZN)(x3 x4 x5 x6 x7 x8 x9 x10 x11 x12 x13 x14:Option V),Tre H t zs →
   (∀l H',Same H H'→H' l=some (.lst ((ak zs).map V.int))→D.nx (kσ a t d (some (.ref l)) x4 x5 x6 x7 x8 x9 x10 x11 x12 x13 x14) H')→rd D (kσ a t d x3 x4 x5 x6 x7 x8 x9 x10 x11 x12 x13 x14) H:=by
 refine⟨_,eU (ii:=3) (N:=["_law_node"]) (cl:=[]) (k:=1) (js:=[]) (g:=bn 0) scK.nd rfl (Or.inl rfl) rfl (gT rfl (by decide +kernel) (by decide +kernel) (by decide +kernel)) rfl (λi j x h=>by simp at h) (dI (pv 1)) (λs H fp=>aA (i:=0) (show(["_law_node"]:List Str).Nodup by decide +kernel) rfl (Or.inl rfl) (Or.inr rfl))
    (λs H fp=>au gO (aD (r:=gf K) ax (pv 0) aj (λ_ _=>rfl)) dj (aC _)) (λs H fp=>aD (r:=gf K) ax (pv 0) aj (λ_ _=>rfl)),?_⟩
 intro D H a t d zs x3 x4 x5 x6 x7 x8 x9 x10 x11 x12 x13 x14 tr q;have hl:=tr.len;refine⟨_,rfl,t,rfl,⟨_,SqT.of tr.tup⟩,λp hp=>?_⟩;refine jh (fr:=[]) zs (λz=>V.ref z.1) (by omega) hp (li (by rw[ce];exact SqT.of tr.tup)) rfl iy (λz y _=>y=.int z.2.num) (λ_ _ _ _ h _=>h) (λz H' k mz s2 _ hk=>?_) (λz H' k mz _ s2 _ hk=>?_) (λys H2 s2 hp2 hys=>?_)
 ·refine⟨_,rfl,z.1,_,_,_,rfl,rfl,SqT.of (s2 _ _ (tr.nod z mz)),at3 z.2,rfl,_,rfl,?_⟩;have e:decide (stV z.2.st=V.non)=iy z:=by
   unfold iy;cases z.2.st<;>simp[stV]
  rw[e];exact hk H' (Same.refl _)
 ·exact⟨_,rfl,z.1,_,_,_,rfl,rfl,SqT.of (s2 _ _ (tr.nod z mz)),at0 z.2,hk _ H' (Same.refl _) rfl⟩
 have ey:=bY (f:=λz:Addr×Nd=>V.int z.2.num) hys (λz y _ h=>h);refine q p H2 s2 ?_;rw[hp2,ey];unfold ak;rw[map_map];rfl
theorem kb0(T:Txt mg)(hr:RK A s f cL)(CP:Has P w K mg base 2 "_law_pick" ["_law_script","_law_k","_law_many"] (fH K)):
  ∃rd,PS (KX P w K mg base f cL A outer s H0 E) (kbS 0) rd∧∀(D:Ends)(H:Hp)(a t d l:Addr)(fs:List Int)(x4 x5 x6 x7 x8 x9 x10 x11 x12 x13 x14:Option V),gC K H a→H l=some (.lst (fs.map V.int))→fs≠[] →
   (∀wh tn H',wh∈fs→Same H H'→H tn=none→H' tn=some (.dK [])→D.nx (kσ a t d (some (.ref l)) (some (.int wh)) (some (.ref tn)) x6 x7 x8 x9 x10 x11 x12 x13 x14) H')→rd D (kσ a t d (some (.ref l)) x4 x5 x6 x7 x8 x9 x10 x11 x12 x13 x14) H:=by
 obtain⟨fP,fdP,GP,mP,kP,bP⟩:=CP;have hr2:Room 2 _:=hr.mono (by decide);refine⟨_,vZ (bo (aa (aD dL (pv 3) (am GP hr2 rfl mP kP bP .nil aU (aa (pv 0) (aa aj (aa (aL aV rfl T.len boot_len (aa (pv 3) ag)) ag)))) (λ_ _=>rfl)) (aa dq ag))) (iN (n:=2) rfl (bQ (aA (i:=4) scK.nd rfl (Or.inr rfl)) (bQ (aA (i:=5) scK.nd rfl (Or.inr rfl)) fQ))),?_⟩;intro D H a t d l fs x4 x5 x6 x7 x8 x9 x10 x11 x12 x13 x14 hS hl hne q;have hp:0<fs.length:=List.length_pos_iff.mpr hne;refine⟨_,rfl,_,rfl,_,rfl,l,_,rfl,.inl (SqL.of hl),a,200,(fs.length:Int),?_,by decide,by omega,hS,λr H1 r0 r1 s1=>?_⟩
 ·rw[length_map];rfl
 obtain⟨j,rfl⟩:=Int.eq_ofNat_of_zero_le r0;have hj:j<fs.length:=by omega
 refine⟨l,_,_,_,rfl,rfl,SqL.of (s1 _ _ hl),gb (j:=j) (v:=.int fs[j]) (by rw[getElem?_map,getElem?_eq_getElem hj];rfl),λtn htn=>?_⟩;refine⟨le2,λq1 hq1=>?_⟩;refine⟨q1,_,rfl,SqT.of ac,rfl,_,_,rfl,_,_,rfl,rfl,?_⟩;have s2:=ae (o:=.tup [.int fs[j],.ref tn]) hq1;exact q fs[j] tn _ (getElem_mem hj) ((s1.trans (ae htn)).trans s2) (s1.free htn) (s2 _ _ ac)
end
theorem cJ{Pt:Addr}{q:Str}{H H':Hp}(T:bz H Pt q)(o:db Pt H H'){b:Addr}{u:HO}(e:H b=some u)(n:∀ps,u≠.tbl ps):H' b=some u:=o b u (λz=>by
 obtain⟨ps,h1,_⟩:=T;rw[z,h1]at e;exact n ps (Option.some.inj e).symm) e
theorem tK{P Pt:Addr}{q q':Str}{H H':Hp}(n:P≠Pt)(o:db Pt H H')(T:bz H Pt q)(T':bz H P q'):bz H' P q':=by
 obtain⟨ps,h1,h2,h3⟩:=T';refine⟨ps,o P _ n h1,h2,λpos cv h=>?_⟩;obtain⟨c,e1,e2⟩:=h3 pos cv h;exact⟨c,e1,cJ T o e2 λps z=>by cases z⟩
section
variable{H H':Hp}{PL PC d:Addr}{zs:ZN}{as:List (Addr×(Addr×Nd))}
theorem Book.offp{P:Addr}{q:Str}(b:Book H d as zs)(T:bz H P q)(o:db P H H'):Book H' d as zs:=⟨by
 rcases b.dict with h|⟨u,h⟩
 ·exact .inl (cJ T o h λps z=>by cases z)
 ·exact .inr ⟨u,cJ T o h λps z=>by cases z⟩,b.of,λx hx=>cJ T o (b.at' x hx) λps z=>by cases z⟩
theorem KF.offL(h:KF H PL PC d zs as)(n:PC≠PL)(o:db PL H H')(tq:bz H' PL qT):KF H' PL PC d zs as :=
 ⟨h.bk.offp h.tL o,let⟨u,e⟩:=h.dz;⟨u,cJ h.tL o e λps z=>by cases z⟩,tq,tK n o h.tL h.tC,h.tr,h.ln,h.gd⟩
theorem KF.offC(h:KF H PL PC d zs as)(n:PC≠PL)(o:db PC H H')(tq:bz H' PC fm):KF H' PL PC d zs as :=
 ⟨h.bk.offp h.tC o,let⟨u,e⟩:=h.dz;⟨u,cJ h.tC o e λps z=>by cases z⟩,tK (symm n) o h.tC h.tL,tq,h.tr,h.ln,h.gd⟩
end
def xB(c:Addr)(fv:List V):Sp:=λvs H Q _=>∃d n as zs p,fv=[.ref d]∧vs=[.int n]∧H c=some (.ext (cdφ c qT))∧Book H d as zs∧TW.Tree1 (nds zs)∧zs.length≤30∧TW.PathTo (nds zs) n p∧∀H',Same H H'→Q (.int (p.length:Int)) H'
def vx(zs:ZN)(wh x:Int):Bool:=@decide (TW.Und (nds zs) wh x) (Classical.propDecidable _)
theorem nG{zs:ZN}{wh x:Int}:vx zs wh x=true↔TW.Und (nds zs) wh x:=@decide_eq_true_iff _ (Classical.propDecidable _)
theorem nH{zs:ZN}(T:TW.Tree1 (nds zs)){x:Int}(h:x∈(nds zs).map (·.num)):∃p,TW.PathTo (nds zs) x p:=by
 obtain⟨n,hn,rfl⟩:=mem_map.mp h;exact TW.PathTo.ex T hn
section
variable{P:Program}{w:World}{K:PySem.W.Frag}{mg:Str→Option Value}{base:Heap}{f cL PL PC:Addr}{A:Around}{outer:List Env}{s:Shared}{H0:Hp}{E:XK}
theorem kb1(T:Txt mg)(hr:RK A s f cL)(KB:K.In base)(C0:CodeHd base cL PL)(Bm:BmB base mg)(CU:Has P w K mg base 1 "_law_under" ["_law_book_here","_law_number","_law_goal"] kg)(CA:∀base',K.In base'→BmB base' mg→Has P w K mg base' 1 "_law_path" ["_law_book_here","_law_number"] qO):
  ∃rd,PS (KX P w K mg base f cL A outer s H0 E) (kbS 1) rd∧∀(D:Ends)(H:Hp)(a t d:Addr)(zs:ZN)(as:List (Addr×(Addr×Nd)))(wh:Int)(x3 x5 x6 x7 x8 x9 x10 x11 x12 x13 x14:Option V),KF H PL PC d zs as →
   (∀md ms H',db PL H H'→bz H' PL qT→H' md=some (.lst (ms.map V.int))→Mds (nds zs) wh ms→D.nx (kσ a t d x3 (some (.int wh)) x5 (some (.ref md)) x7 x8 x9 x10 x11 x12 x13 x14) H')→rd D (kσ a t d x3 (some (.int wh)) x5 x6 x7 x8 x9 x10 x11 x12 x13 x14) H:=by
 obtain⟨fU,fdU,GU,mU,kU,bU⟩:=CU;have hr1:Room 1 _:=hr.mono (by decide);refine⟨_,eU (ii:=6) (N:=["_law_one","_law_book_here","_law_which"]) (cl:=[("_law_which",s.heap.objs.size+1),("_law_book_here",s.heap.objs.size+3)]) (k:=1) (js:=[2,4]) (g:=bn 0) scK.nd rfl (Or.inl rfl) rfl (LcOk.mk' ["_law_which","_law_book_here"] rfl rfl (by decide +kernel) (by decide +kernel) ?hcl rfl (by decide +kernel)) rfl ?hj
   (bG (tJ (k:=2) (y:="_law_one") (cl:=[("_law_book_here",s.heap.objs.size+3)]) (fs:=["_law_book_here"]) (js:=[2]) (qual:=qT) (spK:=λf c fv=>xB c fv) rfl C0 rfl Bm rfl rfl rfl ?O ?hK ?hbn (hr.mono (by decide)) rfl T.sorted (pv 2)))
   (λs H fp=>aA (i:=0) (show(["_law_one","_law_book_here","_law_which"]:List Str).Nodup by decide +kernel) rfl (Or.inl rfl) (Or.inr rfl))
   (λs H fp=>vX (am (X:=bR _ _ _ _ _ _ _) GU hr1 rfl mU kU bU .nil aU (aa (pv 1) (aa (pv 0) (aa (pv 2) ag)))) (λ_=>rfl)) (λs H fp=>pv 0),?_⟩
 case hcl =>
  intro y hy;rcases mem_cons.mp hy with e|hy
  ·rw[e];rfl
  ·rcases mem_cons.mp hy with e|hy
   ·rw[e];rfl
   ·cases hy
 case hj =>
  intro i j x h1 h2
  match i,h1,h2 with
  |0,h1,h2 =>
   cases h1;cases h2;exact⟨rfl,Or.inr (Or.inl rfl),(show((ai jm).names.lookup ("_law_book_here":Str)≠some NameKind.local)by decide +kernel),by first|exact Or.inl rfl|exact Or.inr rfl⟩
  |1,h1,h2 =>
   cases h1;cases h2;exact⟨rfl,Or.inr (Or.inl rfl),(show((ai jm).names.lookup ("_law_which":Str)≠some NameKind.local)by decide +kernel),by first|exact Or.inl rfl|exact Or.inr rfl⟩
  |i+2,h1,h2=>simp at h1
 case O =>
  refine⟨rfl,λx c h=>?_,λi j x h1 h2=>?_,λ_=>rfl⟩
  ·rw[lookup_cons]at h
   split at h
   ·rename_i e
    rw[eq_of_beq e];cases h;rfl
   ·cases h
  ·match i,h1,h2 with
   |0,h1,h2=>cases h1;cases h2;exact⟨rfl,rfl,rfl,_,rfl⟩
   |i+1,h1,h2=>simp at h1
 case hbn=>exact λpm ctv c=>.all λus hl=>match us,hl with | [_],_=>rfl
 case hK =>
  intro base' f' c pm ctv fv sub ho C';obtain⟨v0,rfl⟩:∃v,fv=[v]:=by
   have:=C'.len
   match fv,this with
   |[v],_=>exact⟨v,rfl⟩
  obtain⟨fL,fdL,GL,mL,kL,bL⟩:=CA base' (KB.keeps sub) (Bm.sub sub);refine pG (k:=1) (ps:=["_law_one"]) (fs:=["_law_book_here"]) (fv:=[v0]) ho (λvs H Q E h=>?_) ⟨rfl,rfl,rfl,by decide +kernel,λx hx=>?_,by decide +kernel,λx h=>?_,λx y c h1 h2=>?_⟩ C' (λvs H Q E h=>?_) (λA outer s H vs Q E hr h=>?_)
  ·obtain⟨d,n,as,zs,p,_,_,h,_⟩:=h;exact h
  ·have:x="_law_one":=by simpa using hx
   subst this;rfl
  ·have:=(by decide +kernel:∀y∈_,y.2=NameKind.free→y.1=("_law_book_here":Str)) _ (PySem.mem_of_lookup h) rfl;have e:x=("_law_book_here":Str):=this;rw[e];exact⟨_,rfl⟩
  ·have one:∀(u:Addr) z,List.lookup z [(("_law_book_here":Str),u)]=some c→z=("_law_book_here":Str):=λu z h=>by
    rw[lookup_cons]at h
    split at h
    ·rename_i e;exact eq_of_beq e
    ·cases h
   rw[one _ x h1,one _ y h2]
  ·obtain⟨d,n,as,zs,p,_,rfl,_⟩:=h;rfl
  ·obtain⟨d,n,as,zs,p,efv,rfl,hc,bk,tr,hl,hp,q⟩:=h;have e0:v0=.ref d:=by injection efv
   subst e0;refine⟨_,aL aV rfl T.len boot_len (aa (am GL hr rfl mL kL bL .nil aU (aa (pv 1) (aa (pv 0) ag))) ag),?_⟩;refine⟨_,rfl,_,rfl,d,n,as,zs,p,rfl,bk,tr,hl,hp,λt1 H1 s1 ht1=>⟨t1,_,rfl,.inr (SqT.of ht1),?_⟩⟩;rw[length_map];exact q H1 s1
 intro D H a t d zs as wh x3 x5 x6 x7 x8 x9 x10 x11 x12 x13 x14 L q;obtain⟨o,ho⟩:=L.dz;have hln:=L.ln;have hnd:=L.nd;refine⟨_,rfl,d,cT as,(nds zs).map (·.num),λx=>(fk (nds zs) x:Int),rfl,.inr ⟨o,ho⟩,jl L.bk.of,by rw[length_map,aG];omega,L.tL,[.ref d],rfl,λf' c H1 off tq hc=>⟨λn hn H2 s2=>?_,λl ms0 H2 hpm hup s2 hl=>?_⟩⟩
 ·obtain⟨p,hp⟩:=nH L.tr hn;refine⟨d,n,as,zs,p,rfl,rfl,s2 _ _ hc,(L.bk.offp L.tL off).same s2,L.tr,by omega,hp,λH3 s3=>⟨?_,s3⟩⟩;show _=V.int (fk (nds zs) n:Int);rw[cM L.tr hp]
 have s3:=s2.trans (ae (o:=.lst (ms0.map V.int)) hl);have gl:upd H2 l (.lst (ms0.map V.int)) l=some (.lst (ms0.map V.int)):=ac;generalize upd H2 l (.lst (ms0.map V.int))=H3 at s3 gl⊢;have bk3:=(L.bk.offp L.tL off).same s3;have hml:ms0.length≤9:=by rw[hpm.length_eq,length_map,aG];exact hln
 refine⟨l,rfl,⟨_,SqL.of gl⟩,λp hp=>?_⟩;refine jh (fr:=[some (.ref d),some (.int wh)]) ms0 V.int (by omega) hp (dO (SqL.of gl)) rfl (vx zs wh) (λx y _=>y=.int x) (λ_ _ _ _ h _=>h) (λx H' k mx s4 _ hk=>?_) (λx H' k mx _ s4 _ hk=>?_) (λys H4 s4 hp4 hys=>?_)
 ·obtain⟨px,hpx⟩:=nH L.tr (hpm.mem_iff.mp mx);refine⟨_,rfl,_,rfl,_,rfl,d,x,wh,as,zs,px,rfl,bk3.same s4,L.tr,hpx,λb hb=>⟨b,rfl,?_⟩⟩;have eb:b=vx zs wh x:=by rw[Bool.eq_iff_iff,hb,nG]
  rw[eb];exact hk H' (Same.refl _)
 ·exact⟨_,rfl,hk _ H' (Same.refl _) rfl⟩
 ·have ey:=bY (f:=V.int) hys (λx y _ h=>h);refine q p (ms0.filter (vx zs wh)) H4 (λb u n e=>s4 _ _ (s3 _ _ (off b u n e))) (bd (bd tq s3) s4) (by rw[hp4,ey]) ⟨?_,λx=>?_,?_,?_⟩
  ·exact(hpm.nodup_iff.mpr hnd).sublist filter_sublist
  ·rw[mem_filter,hpm.mem_iff,nG,mem_map]
  ·exact(Pairwise.sublist filter_sublist hup).imp λh=>Int.ofNat_le.mp h
  ·rw[←length_map (f:=λn:Nd=>n.num),←hpm.length_eq];exact length_filter_le _ _
end
end TK
namespace L2
open PySem PySem.Spec PyProof.Rows
section
variable{X:Cx}
theorem tM{es:List Expr}{k:Nat}{p0:Pos}{p pos:Pos}{e:Expr}{ta:TA}(hg:Gl X "enumerate")(hm:X.mg "enumerate"=none)(ha:PA X [e] ta)(hse:starEach [e] X.env=(false,eval e X.env)::starEach [] X.env:=by rfl):
  PI X (.Tuple es k p0) (.Call (.Name "enumerate" p) [e] [] pos) (λσ H R=>ta σ H λvs H1=>∃t xs,vs=[.ref t]∧SqL X.K H1 t xs∧R (Ite X.K t 0) H1):=by
 intro pins s σ H R I h;refine Call_ (dH I hg hm boot_enumerate (PyProof.Rows.callWith_type1 (thn (ha pos pins s σ H _ I h) λus s1 ⟨vs,H1,I1,r1,q1⟩=>?_) hse rfl));obtain⟨t,xs,e,ht,q⟩:=q1;subst e;obtain⟨u,rfl,ru⟩:=cE r1;cases ru;obtain⟨its,rv,k1,_⟩:=I1.list ht;refine call_enumerate_list k1.isList λh' hE hI hsz kp=>?_;refine wpAny_pyIter_enum hE ?_;refine⟨s1.heap.objs.size+1,[s1.heap.objs.size+1,s1.heap.objs.size],_,Ite X.K t 0,H1,rfl,I1.kept (t':=s1.toks) kp,jZ _ _ t 0 (Nat.succ_ne_self _),⟨⟨_,by rw[show(0:Int)+((0:Nat):Int)=0 by omega];exact hE⟩,hI⟩,λb hb=>?_,q⟩;have hle:s1.heap.objs.size≤b:=by
  simp only[mem_cons,not_mem_nil,or_false]at hb;rcases hb with rfl|rfl
  ·exact Nat.le_add_right _ _
  ·exact le_refl _
 exact I1.fpOk hle (I1.hok.fresh hle)
end
end L2
namespace TK
open PySem L2
structure Trn(H:Hp)(tn:Addr)(ms:List Int)(i:Nat)(kvs:List (Key×V)):Prop where
 ob:H tn=some (.dK kvs)
 ln:kvs.length≤i
 val:∀x:Int,aN kvs (Sum.inl x:Key)=if x∈ms.take i then some (.int (ren ms x))else none
theorem yF{H:Hp}{PL PC d:Addr}{zs:ZN}{as:List (Addr×(Addr×Nd))}(L:KF H PL PC d zs as){ms:List Int}{wh:Int}{z:Addr×Nd}(hz:z∈zs):(cpN ms wh z.2).nm.length≤100:=by
 have h1:=(L.gd z hz).2.2.1;unfold cpN
 split
 ·show("copy":Str).length≤100
  decide
 ·show z.2.nm.length≤100;rcases h1 with h|h|h|h<;>rw[h]<;>decide
section
variable{P:Program}{w:World}{K:PySem.W.Frag}{mg:Str→Option Value}{base:Heap}{f cL PL PC:Addr}{A:Around}{outer:List Env}{s:Shared}{H0:Hp}{E:XK}{cls:TW.Wd→Addr}
theorem kc3(hr:RK A s f cL)(CD:cB P w K mg base 4 "done" ["tree","deed"] (eS cls)):
  ∃rd,PS (KX P w K mg base f cL A outer s H0 E) (kcS 3) rd∧∀(D:Ends)(H:Hp)(a t d:Addr)(zs us:ZN)(as:List (Addr×(Addr×Nd)))(z:Addr×Nd)(k par:Int)(nm:Str)(x3 x4 x5 x6 x11 x12 x13 x14:Option V),Book H d as zs→((nds zs).map (·.num)).Nodup→z∈zs→Tre H t us→us.length≤29→eZ (.make (60+k) par nm z.2.st)→(∀w,¬TW.Told (nds us) (.make (60+k) par nm z.2.st) (.inl w)) →
   (∀t' us' H',Same H H'→H' t'=some (.tup (aR us'))→At H' us'→TW.Told (nds us) (.make (60+k) par nm z.2.st) (.inr (nds us'))→D.nx (kσ a t' d x3 x4 x5 x6 (some (.int k)) (some (.int z.2.num)) (some (.int par)) (some (.str nm)) x11 x12 x13 x14) H')→rd D (kσ a t d x3 x4 x5 x6 (some (.int k)) (some (.int z.2.num)) (some (.int par)) (some (.str nm)) x11 x12 x13 x14) H:=by
 obtain⟨fD,fdD,GD,mD,kD,bD⟩:=CD;have hr4:Room 4 _:=hr.mono (by decide);refine⟨_,aw (i:=1) scK.nd rfl (Or.inl rfl) (am GD hr4 rfl mD kD bD .nil pc (aa (pv 1) (aa (bo (aa cP (aa (aQ bw aj (pv 7)) (aa (pv 9) (aa (pv 10) (aa (aD ax (aZ (aS hr) (pv 2) (pv 8) (λ_ _=>rfl)) aj (λ_ _=>rfl)) ag)))))) ag))),?_⟩;intro D H a t d zs us as z k par nm x3 x4 x5 x6 x11 x12 x13 x14 bk hnd hz tr ln ok no q;obtain⟨b,hb1,hb2⟩:=bk.get hnd hz;refine⟨_,rfl,_,rfl,_,_,rfl,rfl,_,rfl,_,rfl,_,rfl,_,rfl,d,_,rfl,hb1,b,_,_,_,rfl,rfl,SqT.of hb2,wN z.2,(show 5≤sizeLine from aK (by decide)),λq1 hq1=>?_⟩;have s1:=ae (o:=.tup [.str "make",.int (60+k),.int par,.str nm,stV z.2.st]) hq1;refine⟨t,q1,.make (60+k) par nm z.2.st,us,rfl,tr.same s1,ln,ac,ok,λus' t' H' s' ht hA told=>q t' us' H' (s1.trans s') ht hA told,λw H' _ told=>absurd told (no w)⟩
theorem kb2(T:Txt mg)(hr:RK A s f cL)(CD:cB P w K mg base 4 "done" ["tree","deed"] (eS cls)):
  ∃rd,PS (KX P w K mg base f cL A outer s H0 E) (kbS 2) rd∧∀(D:Ends)(H:Hp)(a t d tn md:Addr)(zs:ZN)(as:List (Addr×(Addr×Nd)))(wh:Int)(ms:List Int)(x3 x7 x8 x9 x10 x11 x12 x13 x14:Option V),KF H PL PC d zs as→Tre H t zs→1≤wh→H tn=some (.dK [])→H md=some (.lst (ms.map V.int))→Mds (nds zs) wh ms →
   (∀t' us kvs x7 x8 x9 x10 H',Ext tn H H'→Tre H' t' us→CpI (nds zs) wh ms ms.length (nds us)→Trn H' tn ms ms.length kvs→D.nx (kσ a t' d x3 (some (.int wh)) (some (.ref tn)) (some (.ref md)) x7 x8 x9 x10 x11 x12 x13 x14) H')→rd D (kσ a t d x3 (some (.int wh)) (some (.ref tn)) (some (.ref md)) x7 x8 x9 x10 x11 x12 x13 x14) H:=by
 obtain⟨r3,p3,h3⟩:=kc3 (outer:=outer) (H0:=H0) (E:=E) hr CD;refine⟨_,cg PassesOwn.never rfl (tM rfl T.enumerate (aa (pv 6) ag)) (iN (n:=2) rfl (bQ (aA (i:=7) scK.nd rfl (Or.inl rfl)) (bQ (aA (i:=8) scK.nd rfl (Or.inl rfl)) fQ)))
  (ah (iG (aS hr) (pv 5) (pv 8) (aQ bw aj (pv 7)) rfl)
  (ah (aw (i:=9) scK.nd rfl (Or.inl rfl) (iM (au eD (pv 8) (pv 4) (aC _)) aj (aZ (aS hr) (pv 5) (aD ax (aZ (aS hr) (pv 2) (pv 8) (λ_ _=>rfl)) aj (λ_ _=>rfl)) (λ_ _=>rfl))))
  (ah (aw (i:=10) scK.nd rfl (Or.inl rfl) (iM (au eD (pv 8) (pv 4) (aC _)) cP (aD ax (aZ (aS hr) (pv 2) (pv 8) (λ_ _=>rfl)) aj (λ_ _=>rfl))))
  (al p3)))),?_⟩
 intro D H a t d tn md zs as wh ms x3 x7 x8 x9 x10 x11 x12 x13 x14 L tr w1 htn hmd M q;have Lw:=L.low;have hnd:=L.nd;have hln:=L.ln;have hml:=M.len;rw[aG]at hml;have nmt:md≠tn:=λe=>by rw[e,htn]at hmd;cases hmd
 have ext:∀{H':Hp},Ext tn H H'→Book H' d as zs:=λ{H'} ex=>⟨by
  obtain⟨o,ho⟩:=L.dz;exact .inr ⟨o,ex _ _ (λe=>by rw[e,htn]at ho;cases ho) ho⟩,L.bk.of,λx hx=>ex _ _ (λe=>by have:=L.bk.at' x hx;rw[e,htn]at this;cases this) (L.bk.at' x hx)⟩
 refine⟨_,rfl,md,_,rfl,SqL.of hmd,nv (xs:=ms.map V.int) (λi σ H'=>∃t' us kvs x7 x8 x9 x10,σ=kσ a t' d x3 (some (.int wh)) (some (.ref tn)) (some (.ref md)) x7 x8 x9 x10 x11 x12 x13 x14∧Ext tn H H'∧Tre H' t' us∧CpI (nds zs) wh ms i (nds us)∧Trn H' tn ms i kvs)
  ⟨t,zs,[],_,_,_,_,rfl,λb o _ e=>e,tr,CpI.start L.tr,htn,le_refl _,λx=>by rw[take_zero,if_neg (by simp)];rfl⟩ (λi σ H' _ h=>?_) (λi v σ H' p hx h hp=>?_) (λσ H' h=>?_)⟩
 ·obtain⟨t',us,kvs,x7,x8,x9,x10,rfl,ex,_⟩:=h;exact SqL.of (ex _ _ nmt hmd)
 ·obtain⟨t',us,kvs,x7,x8,x9,x10,rfl,ex,tr',I,tb⟩:=h;rw[getElem?_map]at hx;cases gx:ms[i]? with
  |none=>rw[gx]at hx;cases hx
  |some x =>
   rw[gx]at hx;cases hx;have hi:i<ms.length:=(List.getElem?_eq_some_iff.mp gx).1;obtain⟨⟨m,hm,em⟩,hu⟩:=(M.mem x).mp (mem_of_getElem? gx);obtain⟨z,hz,rfl⟩:=cU hm;subst em;have sp:=ae (o:=.tup [.int ((0:Int)+i),.int z.2.num]) hp;refine⟨p,_,rfl,SqT.of ac,rfl,_,_,rfl,_,_,rfl,rfl,?_⟩;generalize upd H' p (.tup [.int ((0:Int)+i),.int z.2.num])=H1 at sp⊢;have tb1:=sp _ _ tb.ob;have en:ren ms z.2.num=60+(0+(i:Int)):=by rw[hX M.nd gx];omega
   have hno:aN kvs (Sum.inl z.2.num:Key)=none:=by rw[tb.val,if_neg (nD M.nd gx)]
   have tbl:=tb.ln;refine⟨_,rfl,_,_,rfl,rfl,_,rfl,_,rfl,tn,_,rfl,lQ.k (k:=Sum.inl z.2.num) tb1 (ay (by omega)),?_⟩;have o2:upd H1 tn (.dK (br kvs (Sum.inl z.2.num:Key) (.int (60+(0+(i:Int)))))) tn=some (.dK (br kvs (Sum.inl z.2.num:Key) (.int (60+(0+(i:Int)))))):=ac;have ex2:Ext tn H' (upd H1 tn (.dK (br kvs (Sum.inl z.2.num:Key) (.int (60+(0+(i:Int))))))):=λb o n e=>by rw[af n];exact sp _ _ e
   generalize upd H1 tn (.dK (br kvs (Sum.inl z.2.num:Key) (.int (60+(0+(i:Int))))))=H2 at o2 ex2⊢;have tb2:Trn H2 tn ms (i+1) (br kvs (Sum.inl z.2.num:Key) (.int (60+(0+(i:Int))))):=by
    refine⟨o2,by rw[iU _ hno,length_append];exact Nat.succ_le_succ tbl,λy=>?_⟩;rw[gg,tb.val,aP gx,←en]
    by_cases ey:y=z.2.num
    ·subst ey;rw[if_pos rfl,if_pos (mem_append_right _ mem_cons_self)]
    ·rw[if_neg λe=>ey (by injection e)];have:y∈ms.take i++[z.2.num]↔y∈ms.take i:=by simp[ey]
     simp only[this]
   have ex3:=ex.trans ex2;have bk2:=ext ex3;have tr2:Tre H2 t' us:=⟨ex2 _ _ (λe=>by have:=tr'.tup;rw[e,tb.ob]at this;cases this) tr'.tup,λy hy=>ex2 _ _ (λe=>by have:=tr'.nod y hy;rw[e,tb.ob]at this;cases this) (tr'.nod y hy),tr'.tr,tr'.len⟩;have il:=I.len;rw[aG,aG]at il;have hren:=hX M.nd gx;have key:∀par nm,par=(cpN ms wh z.2).par→nm=(cpN ms wh z.2).nm→r3 {nx:=λσ H'=>∃t' us kvs x7 x8 x9 x10,σ=kσ a t' d x3 (some (.int wh)) (some (.ref tn)) (some (.ref md)) x7 x8 x9 x10 x11 x12 x13 x14∧Ext tn H H'∧Tre H' t' us∧CpI (nds zs) wh ms (i+1) (nds us)∧Trn H' tn ms (i+1) kvs,rt:=D.rt,bk:=D.nx,ct:=λσ H'=>∃t' us kvs x7 x8 x9 x10,σ=kσ a t' d x3 (some (.int wh)) (some (.ref tn)) (some (.ref md)) x7 x8 x9 x10 x11 x12 x13 x14∧Ext tn H H'∧Tre H' t' us∧CpI (nds zs) wh ms (i+1) (nds us)∧Trn H' tn ms (i+1) kvs} (kσ a t' d x3 (some (.int wh)) (some (.ref tn)) (some (.ref md)) (some (.int (0+(i:Int)))) (some (.int z.2.num)) (some (.int par)) (some (.str nm)) x11 x12 x13 x14) H2:=λpar nm ep em=>by
    have td:∀r,TW.Told (nds us) (.make (60+(0+(i:Int))) par nm z.2.st) r→∃u,r=.inr u∧CpI (nds zs) wh ms (i+1) u:=λr h=>by
     refine I.step M L.tr Lw w1 hm gx (r:=r) ?_;rw[ff,lD,en,←ep,←em];exact h
    refine h3 _ H2 a t' d zs us as z (0+(i:Int)) par nm _ _ _ _ _ _ _ _ bk2 hnd hz tr2 (by omega) ⟨by omega,by omega,?_,?_,by rw[em];exact yF L hz⟩ (λw h=>?_) λt2 us2 H3 s3 ht hA told=>?_
    ·rw[ep];unfold cpN
     split
     ·exact Int.le_refl 0
     ·have:=eB ms z.2.par;show 0≤ren ms z.2.par;omega
    ·rw[ep]
     by_cases e:z.2.num=wh
     ·unfold cpN;rw[if_pos e];show(0:Int)≤99
      decide
     ·have h1:=(dG M.nd (M.before L.tr w1 hm gx e).1).2;unfold cpN;rw[if_neg e];show ren ms z.2.par≤99;omega
    ·obtain⟨u,e,_⟩:=td _ h;cases e
    ·obtain⟨u,e,I2⟩:=td _ told;cases e;have l2:=I2.len;rw[aG,aG]at l2;exact⟨t2,us2,_,_,_,_,_,rfl,ex3.trans (Ext.of s3),⟨ht,hA,I2.tr,by omega⟩,I2,s3 _ _ tb2.ob,tb2.ln,tb2.val⟩
   by_cases e:z.2.num=wh
   ·refine⟨_,rfl,_,rfl,rfl,_,rfl,?_⟩;rw[decide_eq_true (show V.int z.2.num=V.int wh by rw[e])];refine bx ⟨_,rfl,_,rfl,rfl,_,rfl,?_⟩;rw[decide_eq_true (show V.int z.2.num=V.int wh by rw[e])];exact bx (key 0 "copy" (by unfold cpN;rw[if_pos e]) (by unfold cpN;rw[if_pos e]))
   ·have hb:=(M.before L.tr w1 hm gx e).1;have ne:¬V.int z.2.num=V.int wh:=λh=>e (by injection h);obtain⟨b,hb1,hb2⟩:=bk2.get hnd hz;have hv:ci H2 tn (kV (Sum.inl z.2.par:Key)) (some (.int (ren ms z.2.par))):=by
     have:=ci.k (k:=(Sum.inl z.2.par:Key)) tb2.ob;rw[tb2.val,if_pos (by rw[aP gx];exact mem_append_left _ hb)]at this;exact this
    refine⟨_,rfl,_,rfl,rfl,_,rfl,?_⟩;rw[decide_eq_false ne];refine aX ⟨_,rfl,_,rfl,_,rfl,d,_,rfl,hb1,b,_,_,_,rfl,rfl,SqT.of hb2,wM z.2,tn,_,rfl,hv,?_⟩;refine⟨_,rfl,_,rfl,rfl,_,rfl,?_⟩;rw[decide_eq_false ne];refine aX ⟨_,rfl,_,rfl,d,_,rfl,hb1,b,_,_,_,rfl,rfl,SqT.of hb2,ye z.2,?_⟩;exact key (ren ms z.2.par) z.2.nm (by unfold cpN;rw[if_neg e]) (by unfold cpN;rw[if_neg e])
 ·obtain⟨t',us,kvs,x7,x8,x9,x10,rfl,ex,tr',I,tb⟩:=h;rw[length_map]at I tb;exact q t' us kvs _ _ _ _ H' ex tr' I tb
end
theorem fg{us:ZN}{k:Int}:k∈aq us↔k∈ak us∧bg us k≠[]:=by
 unfold aq;rw[mem_filter];cases bg us k<;>simp
theorem lF(us:ZN):(aq us).length≤us.length:=by
 unfold aq ak;refine le_trans (length_filter_le _ _) ?_;rw[length_map];exact length_filter_le _ _
section
variable{zs us vs:ZN}{wh fl:Int}{ms:List Int}{Mk:Int→Option Int}
theorem yG(C:CopyOf zs us wh (ren ms))(T:TW.Tree1 (nds zs))(Tu:TW.Tree1 (nds us))(w1:1≤wh){w:Nd}(hw:w∈nds zs)(ew:w.num=wh)(ws:w.st=none)(M:Mds (nds zs) wh ms)(mk:Marks us Mk):((wh,ren ms wh)∈prs (aq us)∧Mk wh=Mk (ren ms wh))↔1<ms.length:=by
 obtain⟨f1,f2,lt,b1,b2⟩:=oM C T Tu w1 hw ew ws;rw[M.many T hw ew,lz (dY Tu),fg,fg,cZ,cZ];constructor
 ·rintro⟨⟨⟨_,r,st,b⟩,_⟩,_⟩;have:=cZ.mpr ⟨r,st,(b1 r st).mp b⟩;obtain⟨z,hz⟩:=exists_mem_of_ne_nil _ this;obtain⟨h1,h2⟩:=bX.mp hz;exact⟨z.2,av h1,h2⟩
 ·rintro⟨n,hn,e⟩;obtain⟨z,hz,rfl⟩:=hV hn;have b:Bel zs wh [z.2.nm] z.2.st:=by rw[←e];exact .one hz
  exact⟨⟨⟨f1,_,_,(b1 _ _).mpr b⟩,⟨f2,_,_,(b2 _ _).mpr b⟩,lt⟩,(mk.iff Tu f1 f2).mpr λr st=>(b1 r st).trans (b2 r st).symm⟩
theorem xC(W:WriteOf us vs (ren ms fl))(C:CopyOf zs us wh (ren ms))(T:TW.Tree1 (nds zs))(Tv:TW.Tree1 (nds vs))(L:Low (nds zs))(w1:1≤wh)(wl:wh<60){f:Nd}(hf:f∈nds zs)(ef:f.num=fl)(fs:f.st≠none)(hu:TW.Und (nds zs) wh fl)(ne:fl≠wh)(mk:Marks vs Mk):¬((wh,ren ms wh)∈prs (aq vs)∧Mk wh=Mk (ren ms wh)):=by
 rintro⟨h,e⟩;obtain⟨h1,h2,_⟩:=(lz (dY Tv)).mp h;exact qS W C T Tv L w1 wl hf ef fs hu ne mk (fg.mp h1).1 (fg.mp h2).1 e
end
def kyC(c:dU):Addr×List Key:=(c.1,[Sum.inl c.2.1,Sum.inl c.2.2])
theorem tN{ws:List dU}{a b:Int}:(ws.map kyC).any (λz=>decide (z.2=[(Sum.inl a:Key),Sum.inl b]))=decide ((a,b)∈ws.map (·.2)):=by
 rw[Bool.eq_iff_iff,any_eq_true,decide_eq_true_eq];constructor
 ·rintro⟨z,hz,e⟩;obtain⟨c,hc,rfl⟩:=mem_map.mp hz;have e:=of_decide_eq_true e;unfold kyC at e;have e:[(Sum.inl c.2.1:Key),Sum.inl c.2.2]=[Sum.inl a,Sum.inl b]:=e;injection e with e1 e2
  injection e2 with e2
  injection e1 with e1
  injection e2 with e2
  exact mem_map.mpr ⟨c,hc,by rw[←e1,←e2]⟩
 ·intro h;obtain⟨c,hc,e⟩:=mem_map.mp h;refine⟨kyC c,mem_map.mpr ⟨c,hc,rfl⟩,?_⟩;unfold kyC;rw[e];exact decide_eq_true rfl
section
variable{P:Program}{w:World}{K:PySem.W.Frag}{mg:Str→Option Value}{base:Heap}{f cL PL PC:Addr}{A:Around}{outer:List Env}{s:Shared}{H0:Hp}{E:XK}
theorem tO{H1:Hp}{l:Addr}{ws:List dU}(hl1:H1 l=some (.lst (crf ws))):SqL K H1 l (((ws.map kyC).map (·.1)).map V.ref):=SqL.of (by
 rw[hl1];unfold crf;rw[map_map,map_map];rfl)
theorem tP{H1:Hp}{ws:List dU}(hC:cW H1 ws):∀z∈ws.map kyC,H1 z.1=some (.tup (z.2.map kV)):=λz hz=>by
 obtain⟨c,hc,rfl⟩:=mem_map.mp hz;exact hC c hc
theorem kb3(T:Txt mg)(hr:RK A s f cL)(CA:Has P w K mg base 5 "alike_folders" ["tree"] (iq PC)):
  ∃rd,PS (KX P w K mg base f cL A outer s H0 E) (kbS 3) rd∧∀(D:Ends)(H:Hp)(a t d md:Addr)(us:ZN)(wh:Int)(ms:List Int)(x3 x5 x7 x8 x9 x10 x11 x12 x13 x14:Option V),Tre H t us→us.length≤18→bz H PC fm→H md=some (.lst (ms.map V.int))→(∀Mk,Marks us Mk→(((wh,60)∈prs (aq us)∧Mk wh=Mk 60)↔1<ms.length)) →
   (∀H',db PC H H'→bz H' PC fm→D.nx (kσ a t d x3 (some (.int wh)) x5 (some (.ref md)) x7 x8 x9 x10 x11 x12 x13 x14) H')→rd D (kσ a t d x3 (some (.int wh)) x5 (some (.ref md)) x7 x8 x9 x10 x11 x12 x13 x14) H:=by
 obtain⟨fA,fdA,GA,mA,kA,bA⟩:=CA;have hr5:Room 5 _:=hr.mono (by decide);refine⟨_,bj (au fY (iD (jg (aS hr)) (bo (aa (pv 4) (aa aj ag))) (am GA hr5 rfl mA kA bA .nil aU (aa (pv 1) ag)) rfl) (iD vD (aL aV rfl T.len boot_len (aa (pv 6) ag)) aj (aC _)) (aC _)) gM aH,?_⟩;intro D H a t d md us wh ms x3 x5 x7 x8 x9 x10 x11 x12 x13 x14 tr hl tC hmd hw q;refine⟨_,rfl,le2,λq1 hq1=>⟨_,rfl,?_⟩⟩;have s1:=ae (o:=.tup [.int wh,.int 60]) hq1;refine⟨t,us,rfl,tr.same s1,bd tC s1,le_trans (lF us) hl,λM mk=>few mk tr.tr hl,λl ws Mk H1 off tq mk hl1 hC _ hw'=>?_⟩;have off':db PC H H1:=λb u n e=>off b u n (s1 _ _ e);refine⟨q1,l,[Sum.inl wh,Sum.inl 60],ws.map kyC,rfl,cJ (bd tC s1) off ac λps z=>(by cases z),rfl,tO hl1,tP hC,?_⟩;refine⟨_,rfl,md,_,rfl,.inl (SqL.of (cJ tC off' hmd λps z=>(by cases z))),_,_,rfl,rfl,rfl,_,rfl,?_⟩;have e:decide ((wh,(60:Int))∈ws.map (·.2))=decide ((1:Int)<((ms.map V.int).length:Int)):=by
  rw[Bool.eq_iff_iff,decide_eq_true_iff,decide_eq_true_iff,hw' wh 60,hw Mk mk,length_map];omega
 rw[tN,e,show(!decide (V.bl (decide ((1:Int)<((ms.map V.int).length:Int)))=V.bl (decide ((1:Int)<((ms.map V.int).length:Int)))))=false by simp];exact aX (q H1 off' tq)
end
theorem vR{zs:ZN}(T:TW.Tree1 (nds zs)){z:Addr×Nd}(hz:z∈zs):decide (stV z.2.st=V.non)=cz zs z.2.num:=by
 unfold cz;rw[Bool.eq_iff_iff,decide_eq_true_iff,decide_eq_true_iff,cD];constructor
 ·intro e;refine⟨z.2,av hz,rfl,?_⟩;cases h:z.2.st with
  |none=>rfl
  |some i=>rw[h]at e;cases e
 ·rintro⟨n,hn,e,hs⟩;rw[←T.inj hn (av hz) e,hs];rfl
section
variable{P:Program}{w:World}{K:PySem.W.Frag}{mg:Str→Option Value}{base:Heap}{f cL PL PC:Addr}{A:Around}{outer:List Env}{s:Shared}{H0:Hp}{E:XK}{cls:TW.Wd→Addr}
theorem kb4(hr:RK A s f cL):∃rd,PS (KX P w K mg base f cL A outer s H0 E) (kbS 4) rd∧∀(D:Ends)(H:Hp)(a t d md:Addr)(zs:ZN)(as:List (Addr×(Addr×Nd)))(wh:Int)(ms:List Int)(x3 x4 x5 x7 x8 x9 x10 x11 x12 x13 x14:Option V),Book H d as zs→TW.Tree1 (nds zs)→zs.length≤9→H md=some (.lst (ms.map V.int))→Mds (nds zs) wh ms →
   (∀fl H',Same H H'→H' fl=some (.lst ((ms.filter λx=>!cz zs x).map V.int))→D.nx (kσ a t d x3 x4 x5 (some (.ref md)) x7 x8 x9 x10 (some (.ref fl)) x12 x13 x14) H')→rd D (kσ a t d x3 x4 x5 (some (.ref md)) x7 x8 x9 x10 x11 x12 x13 x14) H:=by
 refine⟨_,eU (ii:=11) (N:=["_law_one","_law_book_here"]) (cl:=[("_law_book_here",s.heap.objs.size+3)]) (k:=1) (js:=[2]) (g:=bn 0) scK.nd rfl (Or.inl rfl) rfl (LcOk.mk' ["_law_book_here"] rfl rfl (by decide +kernel) (by decide +kernel) ?hcl rfl (by decide +kernel)) rfl ?hj (bG (pv 6)) (λs H fp=>aA (i:=0) (show(["_law_one","_law_book_here"]:List Str).Nodup by decide +kernel) rfl (Or.inl rfl) (Or.inr rfl))
    (λs H fp=>au kx (aD (r:=gf K) ax (aZ (aS hr) (pv 1) (pv 0) (λ_ _=>rfl)) aj (λ_ _=>rfl)) dj (aC _)) (λs H fp=>pv 0),?_⟩
 case hcl =>
  intro y hy;rcases mem_cons.mp hy with e|hy
  ·rw[e];rfl
  ·cases hy
 case hj =>
  intro i j x h1 h2
  match i,h1,h2 with
  |0,h1,h2 =>
   cases h1;cases h2;exact⟨rfl,Or.inr (Or.inl rfl),(show((ai jm).names.lookup ("_law_book_here":Str)≠some NameKind.local)by decide +kernel),by first|exact Or.inl rfl|exact Or.inr rfl⟩
  |i+1,h1,h2=>simp at h1
 intro D H a t d md zs as wh ms x3 x4 x5 x7 x8 x9 x10 x11 x12 x13 x14 bk T hl hmd M q;have hml:=M.len;rw[aG]at hml;refine⟨_,rfl,md,rfl,⟨_,SqL.of hmd⟩,λp hp=>?_⟩;refine jh (fr:=[some (.ref d)]) ms V.int (by omega) hp (dO (SqL.of hmd)) rfl (λx=>!cz zs x) (λx y _=>y=.int x) (λ_ _ _ _ h _=>h) (λx H' kk mx s1 _ hk=>?_) (λx H' kk mx hf s1 _ hk=>?_) (λys H1 s1 hp1 hys=>?_)
 ·obtain⟨⟨m,hm,em⟩,_⟩:=(M.mem x).mp mx;obtain⟨z,hz,rfl⟩:=cU hm;subst em;obtain⟨b,hb1,hb2⟩:=(bk.same s1).get (bc T) hz;refine⟨_,rfl,_,rfl,d,_,rfl,hb1,b,_,_,_,rfl,rfl,SqT.of hb2,wN z.2,rfl,_,rfl,?_⟩;rw[vR T hz];exact hk H' (Same.refl _)
 ·exact⟨_,rfl,hk _ H' (Same.refl _) rfl⟩
 ·have ey:=bY (f:=V.int) hys (λx y _ h=>h);exact q p H1 s1 (by rw[hp1,ey])
theorem kb6(hr:RK A s f cL):∃rd,PS (KX P w K mg base f cL A outer s H0 E) (kbS 6) rd∧∀(D:Ends)(H:Hp)(a t d l tn md:Addr)(zs:ZN)(as:List (Addr×(Addr×Nd)))(wh:Int)(ms:List Int)(kvs:List (Key×V))(x4 x7 x8 x9 x10 x11 x12 x13 x14:Option V),Book H d as zs→TW.Tree1 (nds zs)→zs.length≤9→H l=some (.lst ((ak zs).map V.int))→Trn H tn ms ms.length kvs→H md=some (.lst (ms.map V.int))→Mds (nds zs) wh ms →
   (∀l' H',Same H H'→H' l'=some (.lst ((ak zs++(ms.filter (cz zs)).map (ren ms)).map V.int))→D.nx (kσ a t d (some (.ref l')) x4 (some (.ref tn)) (some (.ref md)) x7 x8 x9 x10 x11 x12 x13 x14) H')→rd D (kσ a t d (some (.ref l)) x4 (some (.ref tn)) (some (.ref md)) x7 x8 x9 x10 x11 x12 x13 x14) H:=by
 refine⟨_,aw (i:=3) scK.nd rfl (Or.inl rfl) (aQ ro (pv 3) (rF (N:=["_law_one","_law_book_here","_law_turn"]) (cl:=[("_law_turn",s.heap.objs.size+2),("_law_book_here",s.heap.objs.size+3)]) (k:=1) (js:=[2,5]) (g:=bn 0) rfl (LcOk.mk' ["_law_turn","_law_book_here"] rfl rfl (by decide +kernel) (by decide +kernel) ?hcl rfl (by decide +kernel)) rfl ?hj (bG (pv 6)) (λs H fp=>aA (i:=0) (show(["_law_one","_law_book_here","_law_turn"]:List Str).Nodup by decide +kernel) rfl (Or.inl rfl) (Or.inr rfl))
    (λs H fp=>au gO (aD (r:=gf K) ax (aZ (aS hr) (pv 1) (pv 0) (λ_ _=>rfl)) aj (λ_ _=>rfl)) dj (aC _)) (λs H fp=>aZ (aS hr) (pv 2) (pv 0) (λ_ _=>rfl)))),?_⟩
 case hcl =>
  intro y hy;rcases mem_cons.mp hy with e|hy
  ·rw[e];rfl
  ·rcases mem_cons.mp hy with e|hy
   ·rw[e];rfl
   ·cases hy
 case hj =>
  intro i j x h1 h2
  match i,h1,h2 with
  |0,h1,h2 =>
   cases h1;cases h2;exact⟨rfl,Or.inr (Or.inl rfl),(show((ai jm).names.lookup ("_law_book_here":Str)≠some NameKind.local)by decide +kernel),by first|exact Or.inl rfl|exact Or.inr rfl⟩
  |1,h1,h2 =>
   cases h1;cases h2;exact⟨rfl,Or.inr (Or.inl rfl),(show((ai jm).names.lookup ("_law_turn":Str)≠some NameKind.local)by decide +kernel),by first|exact Or.inl rfl|exact Or.inr rfl⟩
  |i+2,h1,h2=>simp at h1
 intro D H a t d l tn md zs as wh ms kvs x4 x7 x8 x9 x10 x11 x12 x13 x14 bk T hln hl tb hmd M q;have hml:=M.len;rw[aG]at hml;refine⟨_,rfl,_,rfl,md,rfl,⟨_,SqL.of hmd⟩,λp hp=>?_⟩;refine jh (fr:=[some (.ref d),some (.ref tn)]) ms V.int (by omega) hp (dO (SqL.of hmd)) rfl (cz zs) (λx y _=>y=.int (ren ms x)) (λ_ _ _ _ h _=>h) (λx H' kk mx s1 _ hk=>?_) (λx H' kk mx hf s1 _ hk=>?_) (λys H1 s1 hp1 hys=>?_)
 ·obtain⟨⟨m,hm,em⟩,_⟩:=(M.mem x).mp mx;obtain⟨z,hz,rfl⟩:=cU hm;subst em;obtain⟨b,hb1,hb2⟩:=(bk.same s1).get (bc T) hz;refine⟨_,rfl,_,rfl,d,_,rfl,hb1,b,_,_,_,rfl,rfl,SqT.of hb2,wN z.2,rfl,_,rfl,?_⟩;rw[vR T hz];exact hk H' (Same.refl _)
 ·have hv:ci H' tn (kV (Sum.inl x:Key)) (some (.int (ren ms x))):=by
   have:=ci.k (k:=(Sum.inl x:Key)) (s1 _ _ tb.ob);rw[tb.val,take_length,if_pos mx]at this;exact this
  exact⟨_,rfl,_,rfl,tn,_,rfl,hv,hk _ H' (Same.refl _) rfl⟩
 ·have ey:=bY (f:=λx=>V.int (ren ms x)) hys (λx y _ h=>h);have l1:=length_filter_le (cz zs) ms;have l2:(ak zs).length≤zs.length:=by
   unfold ak;rw[length_map];exact length_filter_le _ _
  refine⟨l,p,_,_,rfl,rfl,s1 _ _ hl,by rw[hp1,ey],aK (by rw[length_map,length_map];omega),λl' hl'=>q l' _ (s1.trans (ae hl')) ?_⟩;rw[ac,map_append,map_map];rfl
end
def kdS(i:Nat):Stmt:=(jy (kbS 5)).getD i (.Pass ⟨0,0,0,0⟩)
section
variable{P:Program}{w:World}{K:PySem.W.Frag}{mg:Str→Option Value}{base:Heap}{f cL PL PC:Addr}{A:Around}{outer:List Env}{s:Shared}{H0:Hp}{E:XK}{cls:TW.Wd→Addr}
theorem kd0(hr:RK A s f cL)(CD:cB P w K mg base 4 "done" ["tree","deed"] (eS cls)):
  ∃rd,PS (KX P w K mg base f cL A outer s H0 E) (kdS 0) rd∧∀(D:Ends)(H:Hp)(a t d tn fl:Addr)(us:ZN)(ms gs:List Int)(g:Int)(y:Nd)(kvs:List (Key×V))(x3 x4 x6 x7 x8 x9 x10 x12 x13 x14:Option V),Tre H t us→us.length≤29→Trn H tn ms ms.length kvs→H fl=some (.lst (gs.map V.int))→gs[0]?=some g→g∈ms→ren ms g≤99→y∈nds us→y.num=ren ms g→y.st≠none →
   (∀t' vs H',Same H H'→Tre H' t' vs→vs.length=us.length→WriteOf us vs (ren ms g)→D.nx (kσ a t d x3 x4 (some (.ref tn)) x6 x7 x8 x9 x10 (some (.ref fl)) (some (.ref t')) x13 x14) H')→rd D (kσ a t d x3 x4 (some (.ref tn)) x6 x7 x8 x9 x10 (some (.ref fl)) x12 x13 x14) H:=by
 obtain⟨fD,fdD,GD,mD,kD,bD⟩:=CD;have hr4:Room 4 _:=hr.mono (by decide);refine⟨_,aw (i:=12) scK.nd rfl (Or.inl rfl) (am GD hr4 rfl mD kD bD .nil pc (aa (pv 1) (aa (bo (aa cP (aa (aZ (aS hr) (pv 5) (aD dL (pv 11) aj (λ_ _=>rfl)) (λ_ _=>rfl)) (aa aj ag)))) ag))),?_⟩;intro D H a t d tn fl us ms gs g y kvs x3 x4 x6 x7 x8 x9 x10 x12 x13 x14 tr ln tb hfl hg hgm h99 hy ey ys q;have hv:ci H tn (kV (Sum.inl g:Key)) (some (.int (ren ms g))):=by
  have:=ci.k (k:=(Sum.inl g:Key)) tb.ob;rw[tb.val,take_length,if_pos hgm]at this;exact this
 refine⟨_,rfl,_,rfl,_,rfl,fl,_,_,_,rfl,rfl,SqL.of hfl,gb (j:=0) (v:=.int g) (by rw[getElem?_map,hg];rfl),tn,_,rfl,hv,(show 3≤sizeLine from aK (by decide)),λq1 hq1=>?_⟩;have s1:=ae (o:=.tup [.str "write",.int (ren ms g),.int 777]) hq1;have h6:=eB ms g;refine⟨t,q1,.write (ren ms g) 777,us,rfl,tr.same s1,ln,ac,⟨by omega,h99⟩,λvs t' H' s' ht hA told=>?_,λw H' _ told=>?_⟩
 ·obtain⟨u,e,Tv,hl,W⟩:=nF tr.tr hy ey ys told;cases e;rw[aG,aG]at hl;exact q t' vs H' (s1.trans s') ⟨ht,hA,Tv,by omega⟩ hl ⟨W⟩
 ·obtain⟨u,e,_⟩:=nF tr.tr hy ey ys told;cases e
theorem kd1(hr:RK A s f cL)(CA:Has P w K mg base 5 "alike_folders" ["tree"] (iq PC)):
  ∃rd,PS (KX P w K mg base f cL A outer s H0 E) (kdS 1) rd∧∀(D:Ends)(H:Hp)(a t d t':Addr)(vs:ZN)(wh:Int)(x3 x5 x6 x7 x8 x9 x10 x11 x13 x14:Option V),Tre H t' vs→vs.length≤18→bz H PC fm→(∀Mk,Marks vs Mk→¬((wh,60)∈prs (aq vs)∧Mk wh=Mk 60)) →
   (∀H',db PC H H'→bz H' PC fm→D.nx (kσ a t d x3 (some (.int wh)) x5 x6 x7 x8 x9 x10 x11 (some (.ref t')) x13 x14) H')→rd D (kσ a t d x3 (some (.int wh)) x5 x6 x7 x8 x9 x10 x11 (some (.ref t')) x13 x14) H:=by
 obtain⟨fA,fdA,GA,mA,kA,bA⟩:=CA;have hr5:Room 5 _:=hr.mono (by decide);refine⟨_,bj (au (jg (aS hr)) (bo (aa (pv 4) (aa aj ag))) (am GA hr5 rfl mA kA bA .nil aU (aa (pv 12) ag)) rfl) gM aH,?_⟩;intro D H a t d t' vs wh x3 x5 x6 x7 x8 x9 x10 x11 x13 x14 tr hl tC hw q;refine⟨_,rfl,le2,λq1 hq1=>⟨_,rfl,?_⟩⟩;have s1:=ae (o:=.tup [.int wh,.int 60]) hq1;refine⟨t',vs,rfl,tr.same s1,bd tC s1,le_trans (lF vs) hl,λM mk=>few mk tr.tr hl,λl ws Mk H1 off tq mk hl1 hC _ hw'=>?_⟩;have off':db PC H H1:=λb u n e=>off b u n (s1 _ _ e);refine⟨q1,l,[Sum.inl wh,Sum.inl 60],ws.map kyC,rfl,cJ (bd tC s1) off ac λps z=>(by cases z),rfl,tO hl1,tP hC,_,rfl,?_⟩;rw[tN,decide_eq_false λh=>hw Mk mk ((hw' wh 60).mp h)];exact aX (q H1 off' tq)
structure KE(H:Hp)(PC t l:Addr)(us:ZN)(fs:List Int):Prop where
 tr:Tre H t us
 len:us.length≤18
 tC:bz H PC fm
 ob:H l=some (.lst (fs.map V.int))
 nd:fs.Nodup
 mem:∀k,k∈fs↔k∈ak us
 num:∀k∈fs,1≤k∧k≤99
structure KM(H:Hp)(PL PC t d l tn md:Addr)(zs us:ZN)(as:List (Addr×(Addr×Nd)))(ms:List Int)(kvs:List (Key×V)):Prop where
 L:KF H PL PC d zs as
 tr:Tre H t us
 tb:Trn H tn ms ms.length kvs
 md':H md=some (.lst (ms.map V.int))
 ob:H l=some (.lst ((ak zs).map V.int))
theorem KM.same{H H':Hp}{t d l tn md:Addr}{zs us:ZN}{as:List (Addr×(Addr×Nd))}{ms:List Int}{kvs:List (Key×V)}(m:KM H PL PC t d l tn md zs us as ms kvs)(e:Same H H'):KM H' PL PC t d l tn md zs us as ms kvs:=⟨m.L.same e,m.tr.same e,⟨e _ _ m.tb.ob,m.tb.ln,m.tb.val⟩,e _ _ m.md',e _ _ m.ob⟩
theorem KM.offC{H H':Hp}{t d l tn md:Addr}{zs us:ZN}{as:List (Addr×(Addr×Nd))}{ms:List Int}{kvs:List (Key×V)}(m:KM H PL PC t d l tn md zs us as ms kvs)(n:PC≠PL)(o:db PC H H')(tq:bz H' PC fm):KM H' PL PC t d l tn md zs us as ms kvs :=
 ⟨m.L.offC n o tq,m.tr.offp o m.L.tC,⟨cJ m.L.tC o m.tb.ob λps z=>(by cases z),m.tb.ln,m.tb.val⟩,cJ m.L.tC o m.md' λps z=>(by cases z),cJ m.L.tC o m.ob λps z=>(by cases z)⟩
theorem tQ{H H':Hp}{tn P:Addr}{q:Str}{kvs:List (Key×V)}(T:bz H P q)(ex:Ext tn H H')(ht:H tn=some (.dK kvs)):bz H' P q:=by
 obtain⟨ps,h1,h2,h3⟩:=T;refine⟨ps,ex _ _ (λz=>by rw[z,ht]at h1;cases h1) h1,h2,λpos cv h=>?_⟩;obtain⟨c,e1,e2⟩:=h3 pos cv h;exact⟨c,e1,ex _ _ (λz=>by rw[z,ht]at e2;cases e2) e2⟩
theorem KF.ext{H H':Hp}{d tn:Addr}{zs:ZN}{as:List (Addr×(Addr×Nd))}{kvs:List (Key×V)}(L:KF H PL PC d zs as)(ex:Ext tn H H')(ht:H tn=some (.dK kvs)):KF H' PL PC d zs as:=by
 obtain⟨o,ho⟩:=L.dz;have ho':=ex _ _ (λe=>by rw[e,ht]at ho;cases ho) ho;exact⟨⟨.inr ⟨o,ho'⟩,L.bk.of,λx hx=>ex _ _ (λe=>by have:=L.bk.at' x hx;rw[e,ht]at this;cases this) (L.bk.at' x hx)⟩,⟨o,ho'⟩,tQ L.tL ex ht,tQ L.tC ex ht,L.tr,L.ln,L.gd⟩
theorem tR{H:Hp}{d:Addr}{zs:ZN}{as:List (Addr×(Addr×Nd))}(L:KF H PL PC d zs as){k:Int}(h:k∈ak zs):1≤k∧k≤99∧k<60:=by
 obtain⟨n,hn,rfl,_⟩:=cD.mp h;obtain⟨z,hz,rfl⟩:=cU hn;have:=(L.gd z hz).1;have:=(L.gd z hz).2.1;omega
theorem k3(T:Txt mg)(hr:RK A s f cL)(KB:K.In base)(C0:CodeHd base cL PL)(Bm:BmB base mg)(nPC:PC≠PL)(CP:Has P w K mg base 2 "_law_pick" ["_law_script","_law_k","_law_many"] (fH K))(CU:Has P w K mg base 1 "_law_under" ["_law_book_here","_law_number","_law_goal"] kg)(CL:∀base',K.In base'→BmB base' mg→Has P w K mg base' 1 "_law_path" ["_law_book_here","_law_number"] qO)(CD:cB P w K mg base 4 "done" ["tree","deed"] (eS cls))(CA:Has P w K mg base 5 "alike_folders" ["tree"] (iq PC)):
  ∃rd,PS (KX P w K mg base f cL A outer s H0 E) (kS 3) rd∧∀(D:Ends)(H:Hp)(a t d l:Addr)(zs:ZN)(as:List (Addr×(Addr×Nd))),gC K H a→KF H PL PC d zs as→Tre H t zs→H l=some (.lst ((ak zs).map V.int)) →
   (∀t' l' us fs x4 x5 x6 x7 x8 x9 x10 x11 x12 H',KE H' PC t' l' us fs→D.nx (kσ a t' d (some (.ref l')) x4 x5 x6 x7 x8 x9 x10 x11 x12 none none) H')→rd D (kσ a t d (some (.ref l)) none none none none none none none none none none none) H:=by
 obtain⟨r0,p0,h0⟩:=kb0 (outer:=outer) (H0:=H0) (E:=E) T hr CP;obtain⟨r1,p1,h1⟩:=kb1 (PC:=PC) (outer:=outer) (H0:=H0) (E:=E) T hr KB C0 Bm CU CL;obtain⟨r2,p2,h2⟩:=kb2 (PL:=PL) (PC:=PC) (outer:=outer) (H0:=H0) (E:=E) T hr CD;obtain⟨r3,p3,h3⟩:=kb3 (outer:=outer) (H0:=H0) (E:=E) T hr CA;obtain⟨r4,p4,h4⟩:=kb4 (P:=P) (w:=w) (K:=K) (mg:=mg) (base:=base) (outer:=outer) (H0:=H0) (E:=E) hr;obtain⟨r6,p6,h6⟩:=kb6 (P:=P) (w:=w) (K:=K) (mg:=mg) (base:=base) (outer:=outer) (H0:=H0) (E:=E) hr;obtain⟨q0,e0,g0⟩:=kd0 (outer:=outer) (H0:=H0) (E:=E) hr CD;obtain⟨q1,e1,g1⟩:=kd1 (outer:=outer) (H0:=H0) (E:=E) hr CA;refine⟨_,bj (au (fG (Nat.lt_of_succ_lt (aS hr))) (pv 3) (bq ag) (aC _)) (ah p0 (ah p1 (ah p2 (ah p3 (ah p4 (ah (bj (au (fG (Nat.lt_of_succ_lt (aS hr))) (pv 11) (bq ag) (aC _)) (ah e0 (al e1)) aH) (al p6))))))) aH,?_⟩;intro D H a t d l zs as hS L tr hl q;refine⟨_,rfl,zero_le _,λe he=>⟨l,e,_,rfl,rfl,SqL.of (ae he _ _ hl),SqL.of ac,_,rfl,?_⟩⟩;have s1:=ae (o:=.lst []) he;generalize upd H e (.lst [])=H1 at s1⊢;have hln:=L.ln
 by_cases hne:ak zs=[]
 ·rw[show(!decide ((ak zs).map V.int=[]))=false by rw[hne];rfl];refine aX (q t l zs (ak zs) _ _ _ _ _ _ _ _ _ H1 ⟨tr.same s1,by omega,bd L.tC s1,s1 _ _ hl,hZ L.tr,λk=>Iff.rfl,λk hk=>?_⟩);rw[hne]at hk;cases hk
 rw[show(!decide ((ak zs).map V.int=[]))=true by simp[hne]];refine bx ?_;refine h0 _ H1 a t d l (ak zs) _ _ _ _ _ _ _ _ _ _ _ (hS.same s1) (s1 _ _ hl) hne λwh tn H2 hwh s2 _ htn=>?_;obtain⟨n,hn,en,ns⟩:=cD.mp hwh;obtain⟨w1,w9,w6⟩:=tR L hwh;have s12:=s1.trans s2;have L2:=L.same s12;refine h1 _ H2 a t d zs as wh _ _ _ _ _ _ _ _ _ _ _ L2 λmd ms H3 off tq hmd M=>?_;have L3:=L2.offL nPC off tq;have htn3:=cJ L2.tL off htn λps z=>(by cases z);refine h2 _ H3 a t d tn md zs as wh ms _ _ _ _ _ _ _ _ _ L3 ((tr.same s12).offp off L2.tL) w1 htn3 hmd M λt' us kvs x7 x8 x9 x10 H4 ex tr4 I tb=>?_;have hml:=M.len;have hil:=I.len;rw[aG]at hml;rw[aG,aG]at hil;have h18:us.length≤18:=by omega
 have m4:KM H4 PL PC t' d l tn md zs us as ms kvs:=⟨L3.ext ex htn3,tr4,tb,ex _ _ (λe=>by rw[e,htn3]at hmd;cases hmd) hmd,by
  have:=cJ L2.tL off (s12 _ _ hl) λps z=>(by cases z);exact ex _ _ (λe=>by rw[e,htn3]at this;cases this) this⟩
 have Lw:=L.low;have C:=I.copy M Lw hn en;have e60:ren ms wh=60:=by rw[hX M.nd (M.first L.tr hn en)];rfl
 refine h3 _ H4 a t' d md us wh ms _ _ _ _ _ _ _ _ _ _ tr4 h18 m4.L.tC m4.md' (λMk mk=>by have:=yG C L.tr tr4.tr w1 hn en ns M mk;rw[e60]at this;exact this) λH5 off5 tq5=>?_;have m5:=m4.offC nPC off5 tq5;refine h4 _ H5 a t' d md zs as wh ms _ _ _ _ _ _ _ _ _ _ _ m5.L.bk L.tr hln m5.md' M λfl H6 s6 hfl=>?_;have m6:=m5.same s6;have fin:∀x12 H7,KM H7 PL PC t' d l tn md zs us as ms kvs→r6 D (kσ a t' d (some (.ref l)) (some (.int wh)) (some (.ref tn)) (some (.ref md)) x7 x8 x9 x10 (some (.ref fl)) x12 none none) H7:=λx12 H7 m7=>by
  refine h6 _ H7 a t' d l tn md zs as wh ms kvs _ _ _ _ _ _ _ _ _ m7.L.bk L.tr hln m7.ob m7.tb m7.md' M λl' H8 s8 hl'=>?_;refine q t' l' us _ _ _ _ _ _ _ _ _ _ H8 ⟨m7.tr.same s8,h18,bd m7.L.tC s8,hl',yE L.tr Lw M,λk=>(vw C M k).symm,λk hk=>?_⟩;rcases mem_append.mp hk with hk|hk
  ·have:=tR L hk;omega
  ·obtain⟨x,hx,rfl⟩:=mem_map.mp hk;have h1:=eB ms x;have h2:=(dG M.nd (i:=ms.length) (x:=x) (by rw[take_length];exact(mem_filter.mp hx).1)).2;omega
 refine⟨_,rfl,zero_le _,λe he=>⟨fl,e,_,rfl,rfl,SqL.of (ae he _ _ hfl),SqL.of ac,_,rfl,?_⟩⟩;have s7:=ae (o:=.lst []) he;generalize upd H6 e (.lst [])=H7 at s7⊢;have m7:=m6.same s7
 by_cases hf:(ms.filter λx=>!cz zs x)=[]
 ·rw[show(!decide ((ms.filter λx=>!cz zs x).map V.int=[]))=false by rw[hf];rfl];exact aX (fin _ _ m7)
 rw[show(!decide ((ms.filter λx=>!cz zs x).map V.int=[]))=true by simpa using hf]
 refine bx ?_;have hlen:0<(ms.filter λx=>!cz zs x).length:=List.length_pos_iff.mpr hf;have hg0:(ms.filter λx=>!cz zs x)[0]?=some (ms.filter λx=>!cz zs x)[0]:=getElem?_eq_getElem hlen;have hgm:=mem_filter.mp (getElem_mem hlen);generalize (ms.filter λx=>!cz zs x)[0]=g at hg0 hgm;obtain⟨⟨y,hy,rfl⟩,hu⟩:=(M.mem g).mp hgm.1;have ys:y.st≠none:=λe=>by
  have:=hgm.2;unfold cz at this;rw[decide_eq_true (cD.mpr ⟨y,hy,rfl,e⟩)]at this;cases this
 have ne:y.num≠wh:=λe=>ys (by rw[L.tr.inj hy hn (e.trans en.symm)];exact ns);have hy':cpN ms wh y∈nds us:=(I.mem _).mpr (.inr ⟨y,hy,by rw[take_length];exact hgm.1,rfl⟩);have h2:=(dG M.nd (i:=ms.length) (x:=y.num) (by rw[take_length];exact hgm.1)).2;refine g0 _ H7 a t' d tn fl us ms _ y.num (cpN ms wh y) kvs _ _ _ _ _ _ _ _ _ _ m7.tr (by omega) m7.tb (s7 _ _ hfl) hg0 hgm.1 (by omega) hy' ff (by rw[lD];exact ys) λt2 vs H8 s8 tr8 lv W=>?_;have m8:=m7.same s8;refine g1 _ H8 a t' d t2 vs wh _ _ _ _ _ _ _ _ _ _ tr8 (by omega) m8.L.tC (λMk mk=>?_) λH9 off9 tq9=>?_
 ·have:=xC W C L.tr tr8.tr Lw w1 w6 hy rfl ys hu ne mk;rw[e60]at this;exact this
 ·exact fin _ _ (m8.offC nPC off9 tq9)
end
def keI:Stmt:=(jy (kS 5)).getD 0 (.Pass ⟨0,0,0,0⟩)
def keT:Stmt:=(jy keI).getD 0 (.Pass ⟨0,0,0,0⟩)
def Sm(us:ZN)(a b:Int):Prop:=a<b∧bg us a≠[]∧∀r st,Bel us a r st↔Bel us b r st
def nI(us:ZN)(a b:Int):Bool:=@decide (Sm us a b) (Classical.propDecidable _)
theorem gL{us:ZN}{a b:Int}:nI us a b=true↔Sm us a b:=@decide_eq_true_iff _ (Classical.propDecidable _)
def nJ(us:ZN)(gs:List Int)(as:List Int):List (Int×Int):=as.flatMap λa=>(gs.filter (nI us a)).map λb=>(a,b)
theorem nK{us:ZN}{gs as:List Int}{x:Int×Int}:x∈nJ us gs as↔x.1∈as∧x.2∈gs∧Sm us x.1 x.2:=by
 unfold nJ;rw[mem_flatMap];constructor
 ·rintro⟨a,ha,h⟩;obtain⟨b,hb,rfl⟩:=mem_map.mp h;obtain⟨h1,h2⟩:=mem_filter.mp hb;exact⟨ha,h1,gL.mp h2⟩
 ·rintro⟨h1,h2,h3⟩;exact⟨x.1,h1,mem_map.mpr ⟨x.2,mem_filter.mpr ⟨h2,gL.mpr h3⟩,rfl⟩⟩
theorem pV{us:ZN}{gs:List Int}(hg:gs.Pairwise λa b:Int=>a<b):∀{as:List Int},as.Pairwise (λa b:Int=>a<b)→(nJ us gs as).Pairwise λa b=>cI a b=true
 |[],_=>.nil
 |a::as,h=>by
  obtain⟨h1,h2⟩:=pairwise_cons.mp h;unfold nJ;rw[List.flatMap_cons,List.pairwise_append];refine⟨?_,pV hg h2,λx hx y hy=>?_⟩
  ·rw[pairwise_map];exact(Pairwise.sublist filter_sublist hg).imp (λ{x y} (h:x<y)=>(bZ (a:=(a,x)) (b:=(a,y))).mpr (.inr ⟨rfl,h⟩))
  ·obtain⟨b,_,rfl⟩:=mem_map.mp hx;exact bZ.mpr (.inl (h1 _ (nK.mp hy).1))
theorem vz{l m:List (Int×Int)}(hl:l.Pairwise λa b=>cI a b=true)(hm:m.Pairwise λa b=>cI a b=true)(h:∀x,x∈l↔x∈m):l=m :=
 eA (R:=λa b:Int×Int=>cI a b=true) (λa e=>by have:=bZ.mp e;omega) (λa b h1 h2=>by have:=bZ.mp h1;have:=bZ.mp h2;omega) hl hm h
theorem tS{p q:List Str}(h:p.map V.str=q.map V.str):p=q:=by
 induction p generalizing q with
 |nil=>cases q with
  |nil=>rfl
  |cons b q=>cases h
 |cons a p ih=>cases q with
  |nil=>cases h
  |cons b q =>
   injection h with h1 h2
   injection h1 with h1
   rw[h1,ih h2]
theorem yH{H H':Hp}{us:ZN}{a b:Int}{pa pb:List Str}{cs ds:List Cv}(S:ShAt H us a pa cs)(S':ShAt H' us b pb ds):cs.map cvW=ds.map cvW↔∀p v,(∃c∈cs,c.p=p∧c.v=v)↔∃c∈ds,c.p=p∧c.v=v:=by
 have one:∀{cs ds:List Cv},cs.map cvW=ds.map cvW→∀p v,(∃c∈cs,c.p=p∧c.v=v)→∃c∈ds,c.p=p∧c.v=v:=λ{cs ds} e p v=>by
  rintro⟨c,hc,rfl,rfl⟩;have:cvW c∈ds.map cvW:=by rw[←e];exact mem_map.mpr ⟨c,hc,rfl⟩
  obtain⟨c',hc',e'⟩:=mem_map.mp this;unfold cvW at e';injection e' with e1 e2
  exact⟨c',hc',tS e2,e1⟩
 constructor
 ·intro e p v;exact⟨one e p v,one e.symm p v⟩
 ·intro h;have e:cs.map (λc=>(c.p,c.v))=ds.map (λc=>(c.p,c.v)):=eA (R:=λx y:List Str×V=>HT.cu x.1 y.1=true) (λx=>by rw[HT.cw];simp) (λx y h1 h2=>by
   have:=HT.iI h1 h2;rw[HT.cw]at this;cases this) (pairwise_map.mpr S.up) (pairwise_map.mpr S'.up) λx=>by
    have m:∀es:List Cv,x∈es.map (λc=>(c.p,c.v))↔∃c∈es,c.p=x.1∧c.v=x.2:=λes=>by
     rw[mem_map];constructor
     ·rintro⟨c,hc,rfl⟩;exact⟨c,hc,rfl,rfl⟩
     ·rintro⟨c,hc,e1,e2⟩;exact⟨c,hc,by rw[e1,e2]⟩
    rw[m,m];exact h x.1 x.2
  have g:∀es:List Cv,es.map cvW=(es.map (λc=>(c.p,c.v))).map λx=>x.2::x.1.map V.str:=λes=>by rw[map_map];rfl
  rw[g,g,e]
theorem pW{H H':Hp}{us:ZN}(T:TW.Tree1 (nds us)){a b:Int}{pa pb:List Str}(ha:TW.PathTo (nds us) a pa)(hb:TW.PathTo (nds us) b pb){cs ds:List Cv}(S:ShAt H us a pa cs)(S':ShAt H' us b pb ds):cs.map cvW=ds.map cvW↔∀r st,Bel us a r st↔Bel us b r st:=by
 rw[yH S S'];constructor
 ·intro h r st;have:=h r (stV st);rw[hU T ha S,hU T hb S']at this;constructor
  ·intro x;obtain⟨st',e,y⟩:=this.mp ⟨st,rfl,x⟩;rw[pR e];exact y
  ·intro x;obtain⟨st',e,y⟩:=this.mpr ⟨st,rfl,x⟩;rw[pR e];exact y
 ·intro h p v;rw[hU T ha S,hU T hb S'];exact⟨λ⟨st,e,x⟩=>⟨st,e,(h p st).mp x⟩,λ⟨st,e,x⟩=>⟨st,e,(h p st).mpr x⟩⟩
theorem pX{H:Hp}{us:ZN}{a:Int}{pa:List Str}{cs:List Cv}(S:ShAt H us a pa cs){H':Hp}(e:Same H H'):∀c∈cs,ls H' c∧dh c.v=true:=λc hc=>by
 obtain⟨h1,h2⟩:=S.at' c hc;refine⟨⟨e _ _ h1,e _ _ h2⟩,?_⟩;obtain⟨z,_,ev,_⟩:=(S.mem c.p c.v).mp ⟨c,hc,rfl,rfl⟩;rw[ev];cases z.2.st<;>rfl
section
variable{H H':Hp}{PC t l c:Addr}{us:ZN}{fs:List Int}
theorem KE.same(k:KE H PC t l us fs)(e:Same H H'):KE H' PC t l us fs:=⟨k.tr.same e,k.len,bd k.tC e,e _ _ k.ob,k.nd,k.mem,k.num⟩
theorem KE.ext{xs:List V}(k:KE H PC t l us fs)(ex:Ext c H H')(hc:H c=some (.lst xs))(nl:l≠c):KE H' PC t l us fs:=by
 have ne:∀b u,H b=some u→(∀ys,u≠.lst ys)→H' b=some u:=λb u e n=>ex _ _ (λz=>by rw[z,hc]at e;exact n xs (Option.some.inj e).symm) e;obtain⟨ps,h1,h2,h3⟩:=k.tC;exact⟨⟨ne _ _ k.tr.tup λys z=>(by cases z),λz hz=>ne _ _ (k.tr.nod z hz) λys z=>(by cases z),k.tr.tr,k.tr.len⟩,k.len,⟨ps,ne _ _ h1 λys z=>(by cases z),h2,λpos cv h=>by
  obtain⟨x,e1,e2⟩:=h3 pos cv h;exact⟨x,e1,ne _ _ e2 λys z=>(by cases z)⟩⟩,ex _ _ nl k.ob,k.nd,k.mem,k.num⟩
theorem KE.fold(k:KE H PC t l us fs){x:Int}(hx:x∈fs):0≤x∧x≤99∧Fold us x∧∃p,TW.PathTo (nds us) x p:=by
 obtain⟨n,hn,e,hs⟩:=cD.mp ((k.mem x).mp hx);obtain⟨z,hz,rfl⟩:=cU hn;obtain⟨n1,n2⟩:=k.num x hx;obtain⟨p,hp⟩:=TW.PathTo.ex k.tr.tr hn;rw[e]at hp;exact⟨by omega,n2,.inr ⟨z,hz,e,hs⟩,p,hp⟩
theorem KE.flen(k:KE H PC t l us fs):fs.length≤18:=by
 have h:fs.length=(ak us).length:=((List.perm_ext_iff_of_nodup k.nd (hZ k.tr.tr)).mpr k.mem).length_eq;rw[h];refine le_trans ?_ k.len;unfold ak;rw[length_map];exact length_filter_le _ _
end
section
variable{P:Program}{w:World}{K:PySem.W.Frag}{mg:Str→Option Value}{base:Heap}{f cL PL PC:Addr}{A:Around}{outer:List Env}{s:Shared}{H0:Hp}{E:XK}
theorem k5t(hr:RK A s f cL)(CS:Has P w K mg base 3 "shape" ["tree","number"] jv):
  ∃rd,PS (KX P w K mg base f cL A outer s H0 E) keT rd∧∀(D:Ends)(H:Hp)(a t d l c:Addr)(us:ZN)(fs:List Int)(cs:List dU)(one other:Int)(x3 x4 x5 x6 x7 x9 x10 x11 x12:Option V),KE H PC t l us fs→H c=some (.lst (crf cs))→cW H cs→cs.length≤500→one∈fs→other∈fs →
   (∀cs' H',Ext c H H'→H' c=some (.lst (crf cs'))→cW H' cs'→cs'.map (·.2)=cs.map (·.2)++(if nI us one other then [(one,other)]else [])→D.nx (kσ a t d x3 x4 x5 x6 x7 (some (.int one)) x9 x10 x11 x12 (some (.ref c)) (some (.int other))) H')→rd D (kσ a t d x3 x4 x5 x6 x7 (some (.int one)) x9 x10 x11 x12 (some (.ref c)) (some (.int other))) H:=by
 obtain⟨fS,fdS,GS,mS,kS',bS⟩:=CS;have hr3:Room 3 _:=hr.mono (by decide);have hu4:=rX hr;refine⟨_,bj (PW.pt (pw_and (au vC (pv 8) (pv 14) (aC _)) (pw_and (au (fG (Nat.lt_of_succ_lt (aS hr))) (am GS hr3 rfl mS kS' bS .nil aU (aa (pv 1) (aa (pv 8) ag))) (bq ag) (aC _)) (pw_and1 (au (vt hu4) (am GS hr3 rfl mS kS' bS .nil aU (aa (pv 1) (aa (pv 8) ag))) (am GS hr3 rfl mS kS' bS .nil aU (aa (pv 1) (aa (pv 14) ag))) (aC _))))))
  (al (ba (dm plainAttrs_list PySem.F.slot_list_append PySem.F.type_list_append bv (pv 13) (aa (bo (aa (pv 8) (aa (pv 14) ag))) ag)))) aH,?_⟩
 intro D H a t d l c us fs cs one other x3 x4 x5 x6 x7 x9 x10 x11 x12 k hc hC hcl h1 h2 q;have no:∀H',Same H H'→¬Sm us one other→D.nx (kσ a t d x3 x4 x5 x6 x7 (some (.int one)) x9 x10 x11 x12 (some (.ref c)) (some (.int other))) H':=λH' e n=>by
  refine q cs H' (Ext.of e) (e _ _ hc) (hC.same e) ?_;rw[if_neg λz=>n (gL.mp z),append_nil]
 have yes:∀H',Same H H'→Sm us one other→∀q1,H' q1=none→D.nx (kσ a t d x3 x4 x5 x6 x7 (some (.int one)) x9 x10 x11 x12 (some (.ref c)) (some (.int other))) (upd (upd H' q1 (.tup [.int one,.int other])) c (.lst (crf cs++[.ref q1]))):=λH' e n q1 hq1=>by
  have e1:=e.trans (ae (o:=.tup [.int one,.int other]) hq1);have nqc:q1≠c:=λz=>by rw[z,e _ _ hc]at hq1;cases hq1
  refine q (cs++[(q1,one,other)]) _ (λb o n e'=>by rw[af n];exact e1 _ _ e') ?_ (λy hy=>?_) ?_
  ·rw[ac];unfold crf;rw[map_append];rfl
  ·rcases mem_append.mp hy with hy|hy
   ·have:=hC y hy;rw[af λz=>by rw[z,hc]at this;cases this];exact e1 _ _ this
   ·rw[mem_singleton.mp hy,af nqc];exact ac
  ·rw[map_append,if_pos (gL.mpr n)];rfl
 obtain⟨a1,a2,a3,pa,hpa⟩:=k.fold h1;obtain⟨b1,b2,b3,pb,hpb⟩:=k.fold h2;refine⟨_,rfl,_,rfl,_,_,rfl,rfl,_,rfl,?_⟩
 by_cases lt':¬one<other
 ·rw[decide_eq_false lt'];exact aX (no H (Same.refl _) λz=>lt' z.1)
 have lt:one<other:=Int.not_le.mp λz=>lt' (Int.not_lt.mpr z);rw[decide_eq_true lt];refine bx ⟨_,rfl,_,rfl,t,one,us,pa,rfl,k.tr,a1,a2,a3,hpa,λl1 c1 H1 s1 hl1 S1=>?_⟩;refine⟨zero_le _,λe he=>⟨l1,e,_,rfl,rfl,SqL.of (ae he _ _ hl1),SqL.of ac,_,rfl,?_⟩⟩;have s2:=s1.trans (ae (o:=.lst []) he);generalize upd H1 e (.lst [])=H2 at s2⊢
 by_cases ne:c1=[]
 ·rw[show(!decide ((c1.map λc=>V.ref c.a)=[]))=false by rw[ne];rfl];exact aX (no H2 s2 λz=>(tw k.tr.tr hpa S1).mpr z.2.1 ne)
 rw[show(!decide ((c1.map λc=>V.ref c.a)=[]))=true by simpa using ne]
 have k2:=k.same s2;refine bx ⟨_,rfl,_,rfl,t,one,us,pa,rfl,k2.tr,a1,a2,a3,hpa,λl3 c3 H3 s3 hl3 S3=>?_⟩;have k3':=k2.same s3;refine⟨_,rfl,_,rfl,t,other,us,pb,rfl,k3'.tr,b1,b2,b3,hpb,λl4 c4 H4 s4 hl4 S4=>?_⟩;have s24:=(s2.trans s3).trans s4;refine⟨l3,l4,c3,c4,rfl,rfl,s4 _ _ hl3,hl4,pX S3 s4,pX S4 (Same.refl _),_,rfl,?_⟩
 by_cases sm:c3.map cvW=c4.map cvW
 ·rw[decide_eq_true sm];have n:Sm us one other:=⟨lt,(tw k.tr.tr hpa S1).mp ne,(pW k.tr.tr hpa hpb S3 S4).mp sm⟩;refine bx ⟨_,rfl,.inl ⟨rfl,_,SqL.of (s24 _ _ hc)⟩,_,rfl,_,rfl,le2,λq1 hq1=>?_⟩;refine⟨c,_,_,rfl,rfl,ae hq1 _ _ (s24 _ _ hc),ay (by unfold crf;rw[length_map];omega),?_⟩;exact yes H4 s24 n q1 hq1
 ·rw[decide_eq_false sm];exact aX (no H4 s24 λz=>sm ((pW k.tr.tr hpa hpb S3 S4).mpr z.2.2))
theorem k5i(T:Txt mg)(hr:RK A s f cL)(CS:Has P w K mg base 3 "shape" ["tree","number"] jv):
  ∃rd,PS (KX P w K mg base f cL A outer s H0 E) keI rd∧∀(D:Ends)(H:Hp)(a t d l c:Addr)(us:ZN)(fs gs:List Int)(cs:List dU)(one:Int)(x4 x5 x6 x7 x9 x10 x11 x12 x14:Option V),KE H PC t l us fs→gs.Perm fs→gs.Pairwise (λa b=>a<b)→H c=some (.lst (crf cs))→l≠c→cW H cs→cs.length≤400→one∈fs →
   (∀cs' x14 H',Ext c H H'→H' c=some (.lst (crf cs'))→cW H' cs'→cs'.map (·.2)=cs.map (·.2)++(gs.filter (nI us one)).map (λb=>(one,b))→D.nx (kσ a t d (some (.ref l)) x4 x5 x6 x7 (some (.int one)) x9 x10 x11 x12 (some (.ref c)) x14) H')→rd D (kσ a t d (some (.ref l)) x4 x5 x6 x7 (some (.int one)) x9 x10 x11 x12 (some (.ref c)) x14) H:=by
 obtain⟨rt,pt,ht⟩:=k5t (PC:=PC) (outer:=outer) (H0:=H0) (E:=E) hr CS;refine⟨_,cg PassesOwn.never rfl (bG (aL cm rfl T.sorted boot_sorted (aa (pv 3) ag))) (aA (i:=14) scK.nd rfl (Or.inl rfl)) (al pt),?_⟩;intro D H a t d l c us fs gs cs one x4 x5 x6 x7 x9 x10 x11 x12 x14 k hgp hgu hc nlc hC hcl h1 q;have fl:=k.flen;refine⟨_,rfl,l,fs,rfl,k.ob,k.nd,by omega,λms hmp hmu p hp=>?_⟩;have em:ms=gs:=sZ hmu hgu λx=>by rw[hmp.mem_iff,hgp.mem_iff]
 subst em;have s1:=ae (o:=.lst (ms.map V.int)) hp;have gp:upd H p (.lst (ms.map V.int)) p=some (.lst (ms.map V.int)):=ac;have npc:p≠c:=λz=>by rw[z,hc]at hp;cases hp
 generalize upd H p (.lst (ms.map V.int))=H1 at s1 gp⊢;have k1:=k.same s1;have gl:ms.length≤18:=by rw[hgp.length_eq];exact fl
 refine⟨p,rfl,⟨_,SqL.of gp⟩,eK (xs:=ms.map V.int) (λi σ H'=>∃cs' x14,σ=kσ a t d (some (.ref l)) x4 x5 x6 x7 (some (.int one)) x9 x10 x11 x12 (some (.ref c)) x14∧Ext c H1 H'∧H' c=some (.lst (crf cs'))∧cW H' cs'∧cs'.map (·.2)=cs.map (·.2)++((ms.take i).filter (nI us one)).map (λb=>(one,b)))
  ⟨cs,x14,rfl,λb o _ e=>e,s1 _ _ hc,hC.same s1,by rw[take_zero];simp⟩ (λi σ H' _ h=>?_) (λi v σ H' hx h=>?_) (λσ H' h=>?_)⟩
 ·obtain⟨cs',x14,rfl,ex,_⟩:=h;exact SqL.of (ex _ _ npc gp)
 ·obtain⟨cs',x14,rfl,ex,hc',hC',ec⟩:=h;rw[getElem?_map]at hx;cases gx:ms[i]? with
  |none=>rw[gx]at hx;cases hx
  |some x =>
   rw[gx]at hx;cases hx;have lc:=congrArg length ec;rw[length_append,length_map,length_map,length_map]at lc;have l2:((ms.take i).filter (nI us one)).length≤18:=le_trans (length_filter_le _ _) (by rw[length_take];omega);refine ht _ H' a t d l c us fs cs' one x _ _ _ _ _ _ _ _ _ (k1.ext ex (s1 _ _ hc) nlc) hc' hC' (by omega) h1 (hgp.mem_iff.mp (mem_of_getElem? gx)) λcs2 H2 ex2 hc2 hC2 ec2=>?_;refine⟨cs2,_,rfl,ex.trans ex2,hc2,hC2,?_⟩;rw[ec2,ec,aP gx,filter_append,map_append,append_assoc]
   congr 2
   by_cases z:nI us one x=true
   ·rw[if_pos z,filter_cons_of_pos z];rfl
   ·rw[if_neg z,filter_cons_of_neg z];rfl
 ·obtain⟨cs',x14,rfl,ex,hc',hC',ec⟩:=h;rw[length_map,take_length]at ec;exact q cs' x14 H' (λb o n e=>ex b o n (s1 _ _ e)) hc' hC' ec
theorem k5(T:Txt mg)(hr:RK A s f cL)(CS:Has P w K mg base 3 "shape" ["tree","number"] jv):
  ∃rd,PS (KX P w K mg base f cL A outer s H0 E) (kS 5) rd∧∀(D:Ends)(H:Hp)(a t d l c:Addr)(us:ZN)(fs:List Int)(x4 x5 x6 x7 x8 x9 x10 x11 x12 x14:Option V),KE H PC t l us fs→H c=some (.lst [])→l≠c →
   (∀gs cs' x8 x14 H',gs.Perm fs→gs.Pairwise (λa b=>a<b)→KE H' PC t l us fs→H' c=some (.lst (crf cs'))→cW H' cs'→cs'.map (·.2)=nJ us gs gs→D.nx (kσ a t d (some (.ref l)) x4 x5 x6 x7 x8 x9 x10 x11 x12 (some (.ref c)) x14) H')→rd D (kσ a t d (some (.ref l)) x4 x5 x6 x7 x8 x9 x10 x11 x12 (some (.ref c)) x14) H:=by
 obtain⟨rt,pt,ht⟩:=k5i (PC:=PC) (outer:=outer) (H0:=H0) (E:=E) T hr CS;refine⟨_,cg PassesOwn.never rfl (bG (aL cm rfl T.sorted boot_sorted (aa (pv 3) ag))) (aA (i:=8) scK.nd rfl (Or.inl rfl)) (al pt),?_⟩;intro D H a t d l c us fs x4 x5 x6 x7 x8 x9 x10 x11 x12 x14 k hc nlc q;have fl:=k.flen;refine⟨_,rfl,l,fs,rfl,k.ob,k.nd,by omega,λms hmp hmu p hp=>?_⟩;have s1:=ae (o:=.lst (ms.map V.int)) hp;have gp:upd H p (.lst (ms.map V.int)) p=some (.lst (ms.map V.int)):=ac;have npc:p≠c:=λz=>by rw[z,hc]at hp;cases hp
 generalize upd H p (.lst (ms.map V.int))=H1 at s1 gp⊢;have k1:=k.same s1;have hc1:=s1 _ _ hc;have gl:ms.length≤18:=by rw[hmp.length_eq];exact fl
 refine⟨p,rfl,⟨_,SqL.of gp⟩,eK (xs:=ms.map V.int) (λi σ H'=>∃cs' x8 x14,σ=kσ a t d (some (.ref l)) x4 x5 x6 x7 x8 x9 x10 x11 x12 (some (.ref c)) x14∧Ext c H1 H'∧H' c=some (.lst (crf cs'))∧cW H' cs'∧cs'.map (·.2)=nJ us ms (ms.take i)∧cs'.length≤i*18)
  ⟨[],x8,x14,rfl,λb o _ e=>e,hc1,λy hy=>(by cases hy),by rw[take_zero];rfl,zero_le _⟩ (λi σ H' _ h=>?_) (λi v σ H' hx h=>?_) (λσ H' h=>?_)⟩
 ·obtain⟨cs',x8,x14,rfl,ex,_⟩:=h;exact SqL.of (ex _ _ npc gp)
 ·obtain⟨cs',x8,x14,rfl,ex,hc',hC',ec,lc⟩:=h;rw[getElem?_map]at hx;cases gx:ms[i]? with
  |none=>rw[gx]at hx;cases hx
  |some x =>
   rw[gx]at hx;cases hx;have hi:i<ms.length:=(List.getElem?_eq_some_iff.mp gx).1;refine ht _ H' a t d l c us fs ms cs' x _ _ _ _ _ _ _ _ _ (k1.ext ex hc1 nlc) hmp hmu hc' nlc hC' (by omega) (hmp.mem_iff.mp (mem_of_getElem? gx)) λcs2 y14 H2 ex2 hc2 hC2 ec2=>?_;refine⟨cs2,_,_,rfl,ex.trans ex2,hc2,hC2,?_,?_⟩
   ·rw[ec2,ec,aP gx];unfold nJ;rw[List.flatMap_append,List.flatMap_singleton]
   ·have h:=congrArg length ec2;rw[length_append,length_map,length_map,length_map]at h;have l2:=length_filter_le (nI us x) ms;rw[succ_mul];omega
 ·obtain⟨cs',x8,x14,rfl,ex,hc',hC',ec,_⟩:=h;rw[length_map,take_length]at ec;exact q ms cs' x8 x14 H' hmp hmu (k1.ext ex hc1 nlc) hc' hC' ec
theorem k6(hr:RK A s f cL)(CA:Has P w K mg base 5 "alike_folders" ["tree"] (iq PC)):
  ∃rd,PS (KX P w K mg base f cL A outer s H0 E) (kS 6) rd∧∀(D:Ends)(H:Hp)(a t d l c:Addr)(us:ZN)(fs gs:List Int)(cs:List dU)(x3 x4 x5 x6 x7 x8 x9 x10 x11 x12 x14:Option V),KE H PC t l us fs→gs.Perm fs→gs.Pairwise (λa b=>a<b)→H c=some (.lst (crf cs))→cW H cs→cs.map (·.2)=nJ us gs gs →
   (∀H',D.rt (.bl true) H')→rd D (kσ a t d x3 x4 x5 x6 x7 x8 x9 x10 x11 x12 (some (.ref c)) x14) H:=by
 obtain⟨fA,fdA,GA,mA,kA,bA⟩:=CA;have hr5:Room 5 _:=hr.mono (by decide);refine⟨_,aM (iD (wI (rX hr)) (am GA hr5 rfl mA kA bA .nil aU (aa (pv 1) ag)) (pv 13) (aC _)),?_⟩;intro D H a t d l c us fs gs cs x3 x4 x5 x6 x7 x8 x9 x10 x11 x12 x14 k hgp hgu hc hC ec q;have T:=k.tr.tr;refine⟨_,rfl,t,us,rfl,k.tr,k.tC,le_trans (lF us) k.len,λM mk=>few mk T k.len,λl1 ws Mk H1 off tq mk hl1 hC1 hup hw=>?_⟩;have hc1:=cJ k.tC off hc λps z=>(by cases z);have e:ws.map (·.2)=cs.map (·.2):=by
  rw[ec];refine vz (pairwise_map.mpr hup) (pV hgu hgu) λx=>?_;rw[show x∈ws.map (·.2)↔(x.1,x.2)∈ws.map (·.2)from Iff.rfl,hw x.1 x.2,nK,lz (dY T),fg,fg,hgp.mem_iff,hgp.mem_iff,k.mem,k.mem];constructor
  ·rintro⟨⟨⟨h1,h2⟩,⟨h3,_⟩,h5⟩,h6⟩;exact⟨h1,h3,h5,h2,(mk.iff T h1 h3).mp h6⟩
  ·rintro⟨h1,h3,h5,h2,h6⟩;refine⟨⟨⟨h1,h2⟩,⟨h3,?_⟩,h5⟩,(mk.iff T h1 h3).mpr h6⟩;obtain⟨r,st,b⟩:=cZ.mp h2;exact cZ.mpr ⟨r,st,(h6 r st).mp b⟩
 have hlen:ws.length=cs.length:=by
  have:=congrArg length e
  rwa [length_map,length_map]at this
 refine⟨_,rfl,.inr ⟨l1,c,crf ws,crf cs,rfl,rfl,⟨by unfold crf;rw[length_map,length_map,hlen],λi x y hx hy=>?_⟩,.inl ⟨hl1,hc1⟩,q _⟩⟩;unfold crf at hx hy;rw[getElem?_map]at hx hy;cases gw:ws[i]? with
 |none=>rw[gw]at hx;cases hx
 |some u =>
  cases gc:cs[i]? with
  |none=>rw[gc]at hy;cases hy
  |some v =>
   rw[gw]at hx;rw[gc]at hy;cases hx;cases hy;have e2:u.2=v.2:=by
    have h1:(ws.map (·.2))[i]?=some u.2:=by rw[getElem?_map,gw];rfl
    have h2:(cs.map (·.2))[i]?=some v.2:=by rw[getElem?_map,gc];rfl
    rw[e,h2]at h1;exact(Option.some.inj h1).symm
   have h1:=hC1 u (mem_of_getElem? gw);have h2:=cJ k.tC off (hC v (mem_of_getElem? gc)) λps z=>(by cases z);rw[←e2]at h2;refine .inr ⟨u.1,v.1,_,_,rfl,rfl,h1,h2,rfl,λj x y hx hy=>?_⟩;rw[hx]at hy;cases hy
   match j,hx with
   |0,hx=>cases hx;exact jf ⟨rfl,rfl⟩
   |1,hx=>cases hx;exact jf ⟨rfl,rfl⟩
   |j+2,hx=>simp at hx
end
def pY(PL PC:Addr)(K:PySem.W.Frag):Sp:=λvs H Q _=>∃(a:Addr) (ns:List Int),vs=[.ref a]∧SqL K H a (ns.map V.int)∧ns.length≤63∧H PL=some (.tbl #[])∧H PC=some (.tbl #[])∧∀H',Q (.bl true) H'
section
variable{P:Program}{w:World}{K:PySem.W.Frag}{mg:Str→Option Value}{base:Heap}{f cL PL PC:Addr}{fd:FuncData}{cls:TW.Wd→Addr}
theorem xD(F:Fun K "law" "law" jm f fd)(hc:fd.code=.ref cL)(T:Txt mg)(KB:K.In base)(C0:CodeHd base cL PL)(Bm:BmB base mg)(nPC:PC≠PL)(CT:Has P w K mg base 3 "_law_tree" ["_law_script","_law_at","_law_most"] (iK K))(CBk:Has P w K mg base 1 "_law_book" ["_law_tree_here"] lB)(CP:Has P w K mg base 2 "_law_pick" ["_law_script","_law_k","_law_many"] (fH K))(CU:Has P w K mg base 1 "_law_under" ["_law_book_here","_law_number","_law_goal"] kg)(CL:∀base',K.In base'→BmB base' mg→Has P w K mg base' 1 "_law_path" ["_law_book_here","_law_number"] qO)(CD:cB P w K mg base 4 "done" ["tree","deed"] (eS cls))(CA:Has P w K mg base 5 "alike_folders" ["tree"] (iq PC))(CS:Has P w K mg base 3 "shape" ["tree","number"] jv):
  FnOk P w K mg base CX0 7 f fd ["_law_script"] (pY PL PC K):=by
 obtain⟨fT,fdT,GT,mT,kT,bT⟩:=CT;obtain⟨fK,fdK,GK,mK,kK,bK⟩:=CBk;refine F.okT hc scK (λvs H Q E h=>?_) (λA outer s H vs Q E hr h=>?_)
 ·obtain⟨a,ns,rfl,_⟩:=h;rfl
 ·obtain⟨a,ns,rfl,hS,hn,hPL,hPC,q⟩:=h;have hr3:Room 3 _:=hr.mono (by decide);have hr1:Room 1 _:=hr.mono (by decide);obtain⟨r2,p2,h2⟩:=k2 (P:=P) (w:=w) (K:=K) (mg:=mg) (base:=base) (f:=f) (cL:=cL) (A:=A) (s:=s) (outer:=outer) (H0:=H) (E:=E);obtain⟨r3,p3,h3⟩:=k3 (outer:=outer) (H0:=H) (E:=E) T hr KB C0 Bm nPC CP CU CL CD CA;obtain⟨r5,p5,h5⟩:=k5 (PC:=PC) (outer:=outer) (H0:=H) (E:=E) T hr CS;obtain⟨r6,p6,h6⟩:=k6 (outer:=outer) (H0:=H) (E:=E) hr CA;refine⟨_,ah (aw (i:=1) scK.nd rfl (Or.inl rfl) (am GT hr3 rfl mT kT bT .nil aU (aa (pv 0) (aa aj (aa aj ag)))))
   (ah (aw (i:=2) scK.nd rfl (Or.inr rfl) (am GK hr1 rfl mK kK bK .nil aU (aa (pv 1) ag)))
   (ah (qJ p2) (ah p3 (ah (aw (i:=13) scK.nd rfl (Or.inl rfl) (bq ag)) (ah p5 (al p6)))))),?_⟩
  have TL0:bz H PL qT:=.start hPL;have TC0:bz H PC fm:=.start hPC;have hS0:gC K H a:=⟨ns,hS⟩;refine⟨_,rfl,a,0,9,rfl,by decide,by decide,by decide,hS0,λt zs H1 ht1 hA1 hl1 hT1 hG1 s1=>?_⟩;have tr1:TW.Tree1 (nds zs):=⟨hT1,λn hn=>by obtain⟨z,hz,rfl⟩:=cU hn;exact(hG1 z hz).1⟩;have Tr1:Tre H1 t zs:=⟨ht1,hA1,tr1,by omega⟩;refine⟨_,rfl,t,zs,rfl,Tr1,λd as H2 s2 hd0 bk hd=>?_⟩;refine⟨d,_,hd,λo=>?_⟩;have s02:=s1.trans s2;have hd00:H d=none:=s1.free hd0;have s03:Same H (upd H2 d (.frz o (.dK (cT as)))):=λb u e=>by
   rw[af λz=>by rw[z,hd00]at e;cases e];exact s02 _ _ e
  have s13:Same H1 (upd H2 d (.frz o (.dK (cT as)))):=λb u e=>by
   rw[af λz=>by rw[z,hd0]at e;cases e];exact s2 _ _ e
  have bk3:Book (upd H2 d (.frz o (.dK (cT as)))) d as zs:=⟨.inr ⟨o,ac⟩,bk.of,λx hx=>by
   have:=bk.at' x hx;rw[af λz=>by rw[z,hd]at this;cases this];exact this⟩
  have L:KF (upd H2 d (.frz o (.dK (cT as)))) PL PC d zs as:=⟨bk3,⟨o,ac⟩,bd TL0 s03,bd TC0 s03,tr1,by omega,hG1⟩;generalize upd H2 d (.frz o (.dK (cT as)))=H3 at L s03 s13⊢;have Tr3:=Tr1.same s13;refine h2 _ H3 a t d zs none none none none none none none none none none none none Tr3 λl H4 s4 hl=>?_;refine h3 _ H4 a t d l zs as (hS0.same (s03.trans s4)) (L.same s4) (Tr3.same s4) hl λt' l' us fs x4 x5 x6 x7 x8 x9 x10 x11 x12 H5 k5'=>?_;refine⟨zero_le _,λc hc=>?_⟩;have k6':=k5'.same (ae (o:=.lst []) hc);have nlc:l'≠c:=λz=>by have:=k5'.ob;rw[z,hc]at this;cases this
  refine h5 _ (upd H5 c (.lst [])) a t' d l' c us fs x4 x5 x6 x7 x8 x9 x10 x11 x12 none k6' ac nlc λgs cs x8 x14 H6 hgp hgu k7 hc' hC ec=>?_;exact h6 _ H6 a t' d l' c us fs gs cs _ _ _ _ _ _ _ _ _ _ _ k7 hgp hgu hc' hC ec q
end
end TK
namespace TK
open PySem PySem.W PyProof.Rows L2
theorem ia{K:PySem.W.Frag}{h:Heap}{mg:Str→Option Value}{x:Str}{C:Addr}{bB:List Value}{nid:String}(X:K.In h)(hb:mg x=some (.ref C))(q:excIn K C bB nid=true):OwnCls x C bB nid mg h:=by
 have hobj:∃bm N nm q' bs hdct sn sub ab col dd k0 k1 k2 k3 k5 mN,h.get? C=some (excClassObj nm q' C N bs bm hdct sn sub ab col dd k0 k1 k2 k3 k5 nid)∧h.Ns N mN∧mN "__init__"=none∧OwnTail h bB bm:=by
  unfold excIn at q
  split at q
  case h_2=>exact absurd q (by simp)
  case h_1 d0 c0 s0 hK =>
   split at q
   case h_2=>exact absurd q (by simp)
   case h_1 C1 b1 u0 u1 u2 u3 u4 u5 e1 e2 =>
    rw[and_eq_true,and_eq_true,and_eq_true,and_eq_true,and_eq_true]at q;obtain⟨⟨⟨⟨⟨y1,y2⟩,y3⟩,g4⟩,g5⟩,y6⟩:=q;have g1:C1=C:=beq_iff_eq.mp y1;have g2:u4=nid:=beq_iff_eq.mp y2;have g3:c0.hasDel=false:=by simpa using y3
    have g6:nsIn K c0.ns "__init__"=some none:=beq_iff_eq.mp y6;clear y1 y2 y3 y6;cases c0;cases s0;dsimp only at e1 e2 g3 g5 g6;subst g1 g2 g3 e1 e2;exact⟨_,_,_,_,_,_,_,_,_,_,_,_,_,_,_,_,_,X _ _ hK,Heap.Ns.of_isNs (PySem.W.isNs_of_in X g5),PySem.W.nsMap_none_of_in X g5 g6,PySem.W.tail_of_in X g4⟩
 exact⟨hb,hobj⟩
theorem zn{α:Type}{P:List α→Prop}{us:List α}(hl:us.length=0)(h:P []):P us:=by cases us with|nil=>exact h|cons a r=>cases hl
theorem yI{α:Type}{P:List α→Prop}{us:List α}(hl:us.length=1)(h:∀a0,P [a0]):P us:=by cases us with|nil=>cases hl|cons a r=>exact zn (P:=λr=>P (a::r)) (Nat.succ.inj hl) (h a)
theorem yJ{α:Type}{P:List α→Prop}{us:List α}(hl:us.length=2)(h:∀a0 a1,P [a0,a1]):P us:=by cases us with|nil=>cases hl|cons a r=>exact yI (P:=λr=>P (a::r)) (Nat.succ.inj hl) (h a)
theorem yK{α:Type}{P:List α→Prop}{us:List α}(hl:us.length=3)(h:∀a0 a1 a2,P [a0,a1,a2]):P us:=by cases us with|nil=>cases hl|cons a r=>exact yJ (P:=λr=>P (a::r)) (Nat.succ.inj hl) (h a)
theorem yL{α:Type}{P:List α→Prop}{us:List α}(hl:us.length=4)(h:∀a0 a1 a2 a3,P [a0,a1,a2,a3]):P us:=by cases us with|nil=>cases hl|cons a r=>exact yK (P:=λr=>P (a::r)) (Nat.succ.inj hl) (h a)
theorem zo{α:Type}{P:List α→Prop}{us:List α}(hl:us.length=5)(h:∀a0 a1 a2 a3 a4,P [a0,a1,a2,a3,a4]):P us:=by cases us with|nil=>cases hl|cons a r=>exact yL (P:=λr=>P (a::r)) (Nat.succ.inj hl) (h a)
abbrev gA(K:PySem.W.Frag)(x:Str)(f:Addr):Prop:=nsIn K mainGlobals x=some (some (.ref f))
abbrev gN(K:PySem.W.Frag)(x:Str):Prop:=nsIn K mainGlobals x=some none
theorem fh{P:Program}{w:World}{K:PySem.W.Frag}{mg:Str→Option Value}{base h:Heap}{k:Nat}{x q:Str}{st:Stmt}{f:Addr}{fd:FuncData}{ps:List Str}{sp:Sp}(X:K.In h)(G:h.Ns mainGlobals mg)(F:Fun K x q st f fd)(a:gA K x f)(b:cb K fd ps [])(O:FnOk P w K mg base CX0 k f fd ps sp):Has P w K mg base k x ps sp:=⟨f,fd,O,mg_of X G a,F.kp,b⟩
theorem fhX{P:Program}{w:World}{K:PySem.W.Frag}{mg:Str→Option Value}{base h:Heap}{k:Nat}{x q:Str}{st:Stmt}{f:Addr}{fd:FuncData}{ps:List Str}{sp:Sp}(X:K.In h)(G:h.Ns mainGlobals mg)(F:Fun K x q st f fd)(a:gA K x f)(b:cb K fd ps [])(O:FnOk P w K mg base (CX1 P w) k f fd ps sp):cB P w K mg base k x ps sp:=⟨f,fd,O,mg_of X G a,F.kp,b⟩
theorem fb1{K:PySem.W.Frag}{x q a0:Str}{st:Stmt}{f:Addr}{fd:FuncData}(F:Fun K x q st f fd)(h:∀(kV doc pm:Value) (an:Option Addr) (cdv ct v0:Value),bindArgs (fnOf x q (cK st) (bb st) (ai st) .none kV doc pm an cdv ct) ⟨[v0],[]⟩=pure (List.zip [a0] [v0]):=by intros;rfl):cb K fd [a0] []:=F.binds λkV doc pm an cdv ct us hl=>yI (P:=λus=>bindArgs _ ⟨us,[]⟩=pure (List.zip _ us)) hl (h kV doc pm an cdv ct)
theorem fb2{K:PySem.W.Frag}{x q a0 a1:Str}{st:Stmt}{f:Addr}{fd:FuncData}(F:Fun K x q st f fd)(h:∀(kV doc pm:Value) (an:Option Addr) (cdv ct v0 v1:Value),bindArgs (fnOf x q (cK st) (bb st) (ai st) .none kV doc pm an cdv ct) ⟨[v0,v1],[]⟩=pure (List.zip [a0,a1] [v0,v1]):=by intros;rfl):cb K fd [a0,a1] []:=F.binds λkV doc pm an cdv ct us hl=>yJ (P:=λus=>bindArgs _ ⟨us,[]⟩=pure (List.zip _ us)) hl (h kV doc pm an cdv ct)
theorem fb3{K:PySem.W.Frag}{x q a0 a1 a2:Str}{st:Stmt}{f:Addr}{fd:FuncData}(F:Fun K x q st f fd)(h:∀(kV doc pm:Value) (an:Option Addr) (cdv ct v0 v1 v2:Value),bindArgs (fnOf x q (cK st) (bb st) (ai st) .none kV doc pm an cdv ct) ⟨[v0,v1,v2],[]⟩=pure (List.zip [a0,a1,a2] [v0,v1,v2]):=by intros;rfl):cb K fd [a0,a1,a2] []:=F.binds λkV doc pm an cdv ct us hl=>yK (P:=λus=>bindArgs _ ⟨us,[]⟩=pure (List.zip _ us)) hl (h kV doc pm an cdv ct)
theorem fb4{K:PySem.W.Frag}{x q a0 a1 a2 a3:Str}{st:Stmt}{f:Addr}{fd:FuncData}(F:Fun K x q st f fd)(h:∀(kV doc pm:Value) (an:Option Addr) (cdv ct v0 v1 v2 v3:Value),bindArgs (fnOf x q (cK st) (bb st) (ai st) .none kV doc pm an cdv ct) ⟨[v0,v1,v2,v3],[]⟩=pure (List.zip [a0,a1,a2,a3] [v0,v1,v2,v3]):=by intros;rfl):cb K fd [a0,a1,a2,a3] []:=F.binds λkV doc pm an cdv ct us hl=>yL (P:=λus=>bindArgs _ ⟨us,[]⟩=pure (List.zip _ us)) hl (h kV doc pm an cdv ct)
theorem fb5{K:PySem.W.Frag}{x q a0 a1 a2 a3 a4:Str}{st:Stmt}{f:Addr}{fd:FuncData}(F:Fun K x q st f fd)(h:∀(kV doc pm:Value) (an:Option Addr) (cdv ct v0 v1 v2 v3 v4:Value),bindArgs (fnOf x q (cK st) (bb st) (ai st) .none kV doc pm an cdv ct) ⟨[v0,v1,v2,v3,v4],[]⟩=pure (List.zip [a0,a1,a2,a3,a4] [v0,v1,v2,v3,v4]):=by intros;rfl):cb K fd [a0,a1,a2,a3,a4] []:=F.binds λkV doc pm an cdv ct us hl=>zo (P:=λus=>bindArgs _ ⟨us,[]⟩=pure (List.zip _ us)) hl (h kV doc pm an cdv ct)
theorem xE{l:PySem.W.OpenLaw}{w:World}{K:PySem.W.Frag}{h:Heap}{mg:Str→Option Value}{fa f1 f2 f3 f4 f5 f6 f7 f8 f9 f10 f11 f12 f13 f14 f15 f16 f17 f18 f19 f20 f21 f22 f23 f24 f25:Addr}(X:K.In h)(G:h.Ns mainGlobals mg)(hfa:mg "law"=some (.ref fa)){d1 d2 d3 d4 d5 d6 d7 d8 d9 d10 d11 d12 d13 d14 d15 d16 d17 d18 d19 d20 d21 d22 d23 d24 d25:FuncData}{t1:Tok}(a1:gA K "numbers_inside" f1)(F1:Fun K "numbers_inside" "numbers_inside" wO f1 d1)(a2:gA K "by_number" f2)(F2:Fun K "by_number" "by_number" wP f2 d2)(a3:gA K "node_of" f3)(F3:Fun K "node_of" "node_of" wQ f3 d3)(a4:gA K "check_folder" f4)(F4:Fun K "check_folder" "check_folder" sf f4 d4)(a5:gA K "path_up" f5)(F5:Fun K "path_up" "path_up" wR f5 d5)(a6:gA K "below" f6)(F6:Fun K "below" "below" wS f6 d6)(a7:gA K "walked" f7)(F7:Fun K "walked" "walked" uP f7 d7)(a8:gA K "shape" f8)(F8:Fun K "shape" "shape" gD f8 d8)(a9:gA K "members_by_folder" f9)(F9:Fun K "members_by_folder" "members_by_folder" bJ f9 d9)(a10:gA K "shape_marks" f10)(F10:Fun K "shape_marks" "shape_marks" be f10 d10)(a11:gA K "alike_folders" f11)(F11:Fun K "alike_folders" "alike_folders" aT f11 d11)(a12:gA K "check_place" f12)(F12:Fun K "check_place" "check_place" wT f12 d12)(a13:gA K "with_node" f13)(F13:Fun K "with_node" "with_node" po f13 d13)(a14:gA K "make" f14)(F14:Fun K "make" "make" sg f14 d14)(a15:gA K "write" f15)(F15:Fun K "write" "write" oo f15 d15)(a16:gA K "move" f16)(F16:Fun K "move" "move" sk f16 d16)(a17:gA K "drop" f17)(F17:Fun K "drop" "drop" pq f17 d17)(a18:gA K "done" f18)(F18:Fun K "done" "done" so f18 d18)(a19:gA K "_law_cell" f19)(F19:Fun K "_law_cell" "_law_cell" sr f19 d19)(a20:gA K "_law_pick" f20)(F20:Fun K "_law_pick" "_law_pick" ss f20 d20)(a21:gA K "_law_tree" f21)(F21:Fun K "_law_tree" "_law_tree" gZ f21 d21)(a22:gA K "_law_book" f22)(F22:Fun K "_law_book" "_law_book" su f22 d22)(a23:gA K "_law_path" f23)(F23:Fun K "_law_path" "_law_path" oq f23 d23)(a24:gA K "_law_under" f24)(F24:Fun K "_law_under" "_law_under" ou f24 d24)(a25:gA K "law" f25)(F25:Fun K "law" "law" jm f25 d25)(z1:gN K "isinstance")(z2:gN K "dict")(z3:gN K "len")(z4:gN K "tuple")(z5:gN K "list")(z6:gN K "range")(z7:gN K "sorted")(z8:gN K "reversed")(z9:gN K "ValueError")(z10:gN K "str")(z11:gN K "set")(z12:gN K "max")(z13:gN K "min")(z14:gN K "sum")(z15:gN K "zip")(z16:gN K "enumerate")(z17:gN K "all")(z18:gN K "int")(z19:gN K "bool")(v1t:nsIn K mainGlobals "TOP"=some (some (.int 0 t1))){cL PL:Addr}(kL:d25.code=.ref cL)(eL:codeHdIn K cL PL=true){cC PC:Addr}(kC:d10.code=.ref cC)(eC:codeHdIn K cC PC=true)(nPC:PC≠PL){B0 B1 B2 B3 B4 B5:Addr}(x0:nsIn K mainGlobals "Inside"=some (some (.ref B0)))(q0:excIn K B0 bmV "ValueError.__new__"=true)(x1:nsIn K mainGlobals "Known"=some (some (.ref B1)))(q1:excIn K B1 bmV "ValueError.__new__"=true)(x2:nsIn K mainGlobals "NoNode"=some (some (.ref B2)))(q2:excIn K B2 bmV "ValueError.__new__"=true)(x3:nsIn K mainGlobals "NotFile"=some (some (.ref B3)))(q3:excIn K B3 bmV "ValueError.__new__"=true)(x4:nsIn K mainGlobals "NotFolder"=some (some (.ref B4)))(q4:excIn K B4 bmV "ValueError.__new__"=true)(x5:nsIn K mainGlobals "Taken"=some (some (.ref B5)))(q5:excIn K B5 bmV "ValueError.__new__"=true):
  ∃fd:FuncData,(∀(s:Shared)(v:Value),BindsTo s fd ⟨[v],[]⟩ [("_law_script",v)])∧∀base:Heap,K.In base→base.Ns mainGlobals mg→BmB base mg→FnOk l.prog w K mg base CX0 7 fa fd ["_law_script"] (pY PL PC K):=by
 have e:=hfa.symm.trans (mg_of X G a25);cases e;have T:Txt mg:=⟨mg_none_of X G z1,mg_none_of X G z2,mg_none_of X G z3,mg_none_of X G z4,mg_none_of X G z5,mg_none_of X G z6,mg_none_of X G z7,mg_none_of X G z8,mg_none_of X G z9,mg_none_of X G z10,mg_none_of X G z11,mg_none_of X G z12,mg_none_of X G z13,mg_none_of X G z14,mg_none_of X G z15,mg_none_of X G z16,mg_none_of X G z17,mg_none_of X G z18,mg_none_of X G z19,⟨_,mg_of X G v1t⟩⟩
 let cls:TW.Wd→Addr:=λwd=>match wd with | .inside=>B0 | .known=>B1 | .noNode=>B2 | .notFile=>B3 | .notFolder=>B4 | .taken=>B5
 have hb:∀(s:Shared)(v:Value),BindsTo s d25 ⟨[v],[]⟩ [("_law_script",v)]:=by
  obtain⟨_,_,_,_,_,_,_,_,_,e,_,_⟩:=F25.ex;subst e;exact λs v=>.of_eq rfl
 have all:∀base:Heap,K.In base→BmB base mg→(Has l.prog w K mg base 3 "_law_tree" ["_law_script","_law_at","_law_most"] (iK K))∧(Has l.prog w K mg base 1 "_law_book" ["_law_tree_here"] lB)∧(Has l.prog w K mg base 2 "_law_pick" ["_law_script","_law_k","_law_many"] (fH K))∧(Has l.prog w K mg base 1 "_law_under" ["_law_book_here","_law_number","_law_goal"] kg)∧(Has l.prog w K mg base 1 "_law_path" ["_law_book_here","_law_number"] qO)∧(cB l.prog w K mg base 4 "done" ["tree","deed"] (eS cls))∧(Has l.prog w K mg base 5 "alike_folders" ["tree"] (iq PC))∧(Has l.prog w K mg base 3 "shape" ["tree","number"] jv):=λbase KB Bm=>by
  let H:=Has l.prog w K mg base
  let HX:=cB l.prog w K mg base
  have W6:uO mg base cls:=λwd=>match wd with | .inside=>ia KB (mg_of X G x0) q0 | .known=>ia KB (mg_of X G x1) q1 | .noNode=>ia KB (mg_of X G x2) q2 | .notFile=>ia KB (mg_of X G x3) q3 | .notFolder=>ia KB (mg_of X G x4) q4 | .taken=>ia KB (mg_of X G x5) q5
  have C_numbers_inside:H 1 "numbers_inside" ["nodes","folder"] pB:=fh X G F1 a1 (fb2 F1) (wY F1 T);have C_by_number:H 1 "by_number" ["tree"] gH:=fh X G F2 a2 (fb1 F2) (xa F2 T);have C_node_of:HX 1 "node_of" ["nodes","number"] (im (cls .noNode)):=fhX X G F3 a3 (fb2 F3) (xb F3 (W6 .noNode));have C_check_folder:HX 2 "check_folder" ["nodes","number"] (pS (cls .noNode) (cls .notFolder)):=fhX X G F4 a4 (fb2 F4) (xw F4 T (W6 .notFolder) C_node_of);have C_check_folder_O:H 2 "check_folder" ["nodes","number"] sY:=fh X G F4 a4 (fb2 F4) (xq F4 T C_node_of);have C_path_up:H 1 "path_up" ["nodes","number"] pC:=fh X G F5 a5 (fb2 F5) (xf F5 T);have C_below:HX 2 "below" ["tree","number"] (ng (cls .noNode)):=fhX X G F6 a6 (fb2 F6) (xc F6 T C_by_number C_node_of C_numbers_inside);have C_walked:H 2 "walked" ["tree"] sD:=fh X G F7 a7 (fb1 F7) (xh F7 T C_by_number C_path_up);have C_shape:H 3 "shape" ["tree","number"] jv:=fh X G F8 a8 (fb2 F8) (xu F8 T C_by_number C_check_folder_O C_path_up C_below);have C_members_by_folder:H 1 "members_by_folder" ["tree"] mZ:=fh X G F9 a9 (fb1 F9) (wZ F9);have C_shape_marks:H 4 "shape_marks" ["tree"] (sN PC):=fh X G F10 a10 (fb1 F10) (xk F10 kC T (codeHd_of_K KB eC) Bm C_members_by_folder C_walked);have C_alike_folders:H 5 "alike_folders" ["tree"] (iq PC):=fh X G F11 a11 (fb1 F11) (xo F11 T C_members_by_folder C_shape_marks);have C_check_place:HX 1 "check_place" ["tree","number","parent","name"] (nA (cls .taken)):=fhX X G F12 a12 (fb4 F12) (xx F12 (W6 .taken));have C_with_node:H 1 "with_node" ["tree","changed"] jw:=fh X G F13 a13 (fb2 F13) (vk F13 T);have C_make:HX 3 "make" ["tree","number","parent","name","stamp"] (oF cls):=fhX X G F14 a14 (fb5 F14) (vm F14 T W6 C_by_number C_check_folder C_check_place);have C_write:HX 2 "write" ["tree","number","stamp"] (lC cls):=fhX X G F15 a15 (fb3 F15) (tF F15 W6 C_by_number C_node_of C_with_node);have C_move:HX 3 "move" ["tree","number","parent","name"] (oG cls):=fhX X G F16 a16 (fb4 F16) (vn F16 W6 C_by_number C_node_of C_check_folder C_below C_check_place C_with_node);have C_drop:HX 3 "drop" ["tree","number"] (oJ cls):=fhX X G F17 a17 (fb2 F17) (vo F17 T C_by_number C_node_of C_below);have C_done:HX 4 "done" ["tree","deed"] (eS cls):=fhX X G F18 a18 (fb2 F18) (vp F18 C_make C_write C_move C_drop);have C__law_cell:H 1 "_law_cell" ["_law_script","_law_k"] (oE K):=fh X G F19 a19 (fb2 F19) (vi F19 T);have C__law_pick:H 2 "_law_pick" ["_law_script","_law_k","_law_many"] (fH K):=fh X G F20 a20 (fb3 F20) (vj F20 T C__law_cell);have C__law_tree:H 3 "_law_tree" ["_law_script","_law_at","_law_most"] (iK K):=fh X G F21 a21 (fb3 F21) (tD F21 T C__law_pick);have C__law_book:H 1 "_law_book" ["_law_tree_here"] lB:=fh X G F22 a22 (fb1 F22) (vb F22 T);have C__law_path:H 1 "_law_path" ["_law_book_here","_law_number"] qO:=fh X G F23 a23 (fb2 F23) (yz F23 T);have C__law_under:H 1 "_law_under" ["_law_book_here","_law_number","_law_goal"] kg:=fh X G F24 a24 (fb3 F24) (xr F24);exact⟨C__law_tree,C__law_book,C__law_pick,C__law_under,C__law_path,C_done,C_alike_folders,C_shape⟩
 refine⟨d25,hb,λbase KB _ Bm=>?_⟩;obtain⟨C__law_tree,C__law_book,C__law_pick,C__law_under,C__law_path,C_done,C_alike_folders,C_shape⟩:=all base KB Bm;exact xD F25 kL T KB (codeHd_of_K KB eL) Bm nPC C__law_tree C__law_book C__law_pick C__law_under (λb k m=>(all b k m).2.2.2.2.1) C_done C_alike_folders C_shape
theorem walk{l:PySem.W.OpenLaw}{q:Program}{loose:List Str}{XP:(Str→Option Value)→Heap→Prop}{YP:World→Heap→Prop}{d:DefRec}{K:Params→PySem.W.Frag}(PL PC:Addr)(hn:l.most=some 63)(hdf:d.params.defaults=[])(hY:∀(w:World) (h:Heap),YP w h→(K w.params).In h){ts:List Addr}(hT:∀(w:World) (h:Heap),YP w h→∀t∈ts,h.get? t=some (tabObj #[]))(mL:PL∈ts)(cL:Addr)(eL:∀w:World,codeHdIn (K w.params) cL PL=true)(nL:∀w:World,(K w.params).lookup PL=none)(mC:PC∈ts)(cC:Addr)(eC:∀w:World,codeHdIn (K w.params) cC PC=true)(nC:∀w:World,(K w.params).lookup PC=none)(F:∀(w:World) (mg:Str→Option Value) (fa:Addr) (h:Heap),(K w.params).In h→h.Ns mainGlobals mg→mg d.name=some (.ref fa) →
   ∃fd:FuncData,(∀(s:Shared) (u:Value),BindsTo s fd ⟨[u],[]⟩ [("_law_script",u)])∧∀base:Heap,(K w.params).In base→base.Ns mainGlobals mg→BmB base mg→FnOk l.prog w (K w.params) mg base CX0 7 fa fd ["_law_script"] (pY PL PC (K w.params))):
  PySem.W.WalkO q loose XP YP l.row.toRowW d [] (λf vs=>PySem.call f vs) :=
 L2.sH (tabs:=[PL,PC]) (n:=63) (k:=7) (x:="_law_script") (sp:=λw=>pY PL PC (K w.params)) hn (by decide) hdf ⟨rfl,by decide,by decide,rfl⟩ hY
  (λw h Y=>forall_mem_cons.mpr ⟨hT w h Y _ mL,forall_mem_cons.mpr ⟨hT w h Y _ mC,λ_ h=>nomatch h⟩⟩)
  (λw=>forall_mem_cons.mpr ⟨⟨⟨cL,eL w⟩,nL w⟩,forall_mem_cons.mpr ⟨⟨⟨cC,eC w⟩,nC w⟩,λ_ h=>nomatch h⟩⟩)
  F (λw H a ns hl hS hT=>⟨a,ns,rfl,hS,hl,hT PL (by simp),hT PC (by simp),λ_=>rfl⟩)
end TK
end
open PySem PySem.W PyProof.Rows
def PySem.W.Fast.tw14258347060680388901:Unit:=()
def PySem.W.Fast.tw3960487531054743800:Unit:=()
def PySem.W.Fast.tw2589768628593793720:Unit:=()
def PySem.W.Fast.tw11381650170024882204:Unit:=()
def PySem.W.Fast.tw12308612992636918536:Unit:=()
def PySem.W.Fast.tw14801510640031229876:Unit:=()
def PySem.W.Fast.tw9372432496694430656:Unit:=()
def PySem.W.Fast.tw8826706176296466934:Unit:=()
def PySem.W.Fast.tw18391598185817277853:Unit:=()
def PySem.W.Fast.tw3367963710578876215:Unit:=()
def PySem.W.Fast.tw6768669249227181064:Unit:=()
def PySem.W.Fast.tw16382734355431622948:Unit:=()
def PySem.W.Fast.tw757900259362015377:Unit:=()
def PySem.W.Fast.tw16004184573395130463:Unit:=()
def PySem.W.Fast.tw571249482729406946:Unit:=()
def PySem.W.Fast.tw16717638504116120494:Unit:=()
def PySem.W.Fast.tw16853157533745540372:Unit:=()
def PySem.W.Fast.tw18358743225565476816:Unit:=()
def PySem.W.Fast.tw12350690598729345257:Unit:=()
def PySem.W.Fast.tw14463061368572608275:Unit:=()
def PySem.W.Fast.tw4988431294831257750:Unit:=()
def PySem.W.Fast.tw1183173470848670925:Unit:=()
def PySem.W.Fast.tw6120517121138785631:Unit:=()
def PySem.W.Fast.tw638447516827987693:Unit:=()
def PySem.W.Fast.tw16891968570966925721:Unit:=()
def PySem.W.Fast.tw16417025696017301462:Unit:=()
def PySem.W.Fast.tw11445446041065541036:Unit:=()
def PySem.W.Fast.tw48759485991008584:Unit:=()
def PySem.W.Fast.tw942080926717279924:Unit:=()
def PySem.W.Fast.tw1019425353712646989:Unit:=()
def PySem.W.Fast.tw10877404071812921091:Unit:=()
def PySem.W.Fast.tw17433102877219872118:Unit:=()
def PySem.W.Fast.tw9466399218088930806:Unit:=()
def PySem.W.Fast.tw3608283457279473469:Unit:=()
def PySem.W.Fast.tw9226568658821982454:Unit:=()
def PySem.W.Fast.tw17313878589281471727:Unit:=()
def PySem.W.Fast.tw16495058870528683899:Unit:=()
def PySem.W.Fast.tw6225643605079996670:Unit:=()
def PySem.W.Fast.tw16091592887355294012:Unit:=()
def PySem.W.Fast.tw9244390809035613729:Unit:=()
def PySem.W.Fast.tw8463359228672769492:Unit:=()
def PySem.W.Fast.tw3719898267208550626:Unit:=()
def PySem.W.Fast.tw3234517725025891650:Unit:=()
def PySem.W.Fast.tw11264174349517693954:Unit:=()
def PySem.W.Fast.tw16572188073288663502:Unit:=()
def PySem.W.Fast.tw4543816998080818466:Unit:=()
def PySem.W.Fast.tw13181174438508392604:Unit:=()
def PySem.W.Fast.tw1740220090907961384:Unit:=()
def PySem.W.Fast.tw1418807117277708392:Unit:=()
def PySem.W.Fast.tw103530152841819264:Unit:=()
def PySem.W.Fast.tw6560184436674127451:Unit:=()
def PySem.W.Fast.tw2829593115118644522:Unit:=()
def PySem.W.Fast.tw807210626717541608:Unit:=()
def PySem.W.Fast.tw17237959271482222987:Unit:=()
def PySem.W.Fast.tw10871541095437701190:Unit:=()
def PySem.W.Fast.tw15918350844325415479:Unit:=()
set_option maxRecDepth 100000 in
set_option maxHeartbeats 0 in
theorem PySem.Challenge.cw_treewatch_k82_whole_alike_folders_holds : PySem.Challenge.rw_treewatch_k82_whole_alike_folders.Holds := by
 w_on; o_law; k_head; (case hw=>w_witness2)
 k_fill
 refine TK.walk (l:=PySem.Challenge.rw_treewatch_k82_whole_alike_folders) 251 158 rfl rfl (λw h Y=>PySem.W.km_in_of Y) (λw h Y=>PySem.W.km_tabs_of Y) (by decide) 253 (λw=>by kernel_rfl) (λw=>by kernel_rfl) (by decide) 160 (λw=>by kernel_rfl) (λw=>by kernel_rfl) ?F
 case F =>
  intro w mg fa h KX G hmg
  refine' TK.xE KX G hmg ?a1 ?F1 ?a2 ?F2 ?a3 ?F3 ?a4 ?F4 ?a5 ?F5 ?a6 ?F6 ?a7 ?F7 ?a8 ?F8 ?a9 ?F9 ?a10 ?F10 ?a11 ?F11 ?a12 ?F12 ?a13 ?F13 ?a14 ?F14 ?a15 ?F15 ?a16 ?F16 ?a17 ?F17 ?a18 ?F18 ?a19 ?F19 ?a20 ?F20 ?a21 ?F21 ?a22 ?F22 ?a23 ?F23 ?a24 ?F24 ?a25 ?F25 ?z1 ?z2 ?z3 ?z4 ?z5 ?z6 ?z7 ?z8 ?z9 ?z10 ?z11 ?z12 ?z13 ?z14 ?z15 ?z16 ?z17 ?z18 ?z19 ?v1t ?kL ?eL ?kC ?eC ?nPC ?x0 ?q0 ?x1 ?q1 ?x2 ?q2 ?x3 ?q3 ?x4 ?q4 ?x5 ?q5
  (case a1|a2|a3|a4|a5|a6|a7|a8|a9|a10|a11|a12|a13|a14|a15|a16|a17|a18|a19|a20|a21|a22|a23|a24|a25=>unfold TK.gA; k_is)
  (case F1|F2|F3|F4|F5|F6|F7|F8|F9|F10|F11|F12|F13|F14|F15|F16|F17|F18|F19|F20|F21|F22|F23|F24|F25=>apply L2.wC <;> k_is)
  (case z1|z2|z3|z4|z5|z6|z7|z8|z9|z10|z11|z12|z13|z14|z15|z16|z17|z18|z19=>unfold TK.gN; k_is)
  (case v1t=>k_is)
  (case kL=>exact rfl)
  (case eL=>kernel_rfl)
  (case kC=>exact rfl)
  (case eC=>kernel_rfl)
  (case nPC=>decide)
  (case x0|x1|x2|x3|x4|x5=>k_is)
  (case q0|q1|q2|q3|q4|q5=>k_exc)
