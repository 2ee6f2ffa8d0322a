import PyProof.Rows.All
import Wide.All
import OpenK.AllK
import Wide.FinOn
import Lean
import PyProof.EqAt
import PyProof.EqKinds
import PyProof.TupleCall
import PyProof.CompFree
import PySem.SetTable
import PyProof.SetScanFacts
import PyProof.TupleKey
import PyProof.SetKind
import PyProof.IsRules
import PyProof.SetRoads
import PyProof.InstSpecial
import PyProof.Rows.SetFrom
import KE.KSortTup
import PyProof.StrWalks
import PyProof.EnumMake
import PyProof.ConsumeWalk
import PyProof.ListRange
import PyProof.NeKinds
import PyProof.ZipIter
import KE.KTryDeep
import OpenK.KOwn
import PyProof.RulesAs
import PyProof.NsDelKeeps
import PyProof.ExcArgsOwn
import PyProof.ExcAttrAll.ValueError
import KE.KIsAll
import OpenK.KNot
import PyProof.IsiH_list
import PyProof.Rows.FStr
import KE.KDictOf
import PyProof.AttrMissHeap
import PyProof.DictIter
import PyProof.DictWalks
import PyProof.Rows.DictUnroll
import KE.KRevIter
import KE.KDictList
import PyProof.CollectIter
import PyProof.TupleOfGen
import KE.KSortKey
import PyProof.FactsAll.NoneType_1
import PyProof.CompUse
import PyProof.Rows.FStrParts
import KE.KLam
import KE.KNestM
import PySem.Challenge.RW_treewatch_k03_whole_found
set_option Elab.async false
set_option linter.all false
set_option maxRecDepth 100000
set_option maxHeartbeats 8000000
open PySem.W (methodObj hideAll hideAll_size hideAll_get of_hideAll hideAll_none keepIn fnOf codeIn kat_cons kat_yes KatTups kat_kind kat_lt kat_no kat_lt_int Looks KdlSrc envX CodeHd kla_obj tabObj kla_fn kas_kind kas_lt_str codeHdIn codeHd_of_K excIn nsIn mg_of mg_none_of)
open PyProof.Rows (boot_tuple lt_str boot_dict boot_sorted)
open PySem.F (slot_dict_pop slot_dict_get entry_dict_get args_dict_get_2 plainAttrs_dict slot_dict_keyiterator_next plain_list_iadd called_tuple slot_NoneType_hash plainAttrs_list slot_list_pop type_list_pop)
open List (mem_filter mem_range filterMap_cons mem_cons_self mem_cons_of_mem mem_cons mem_append mem_append_left getElem_inj mem_filterMap mem_append_right size_toArray append_nil nodup_cons of_mem_zip length length_take getElem?_append_right getElem?_append_left getElem?_map take_sublist mem_of_getElem? length_append length_map length_replicate length_drop map_nil map_cons any_cons length_singleton find?_cons length_cons length_nil filter_cons length_filter_le Pairwise all_eq_true pairwise_iff_getElem pairwise_cons mem_iff_getElem filterMap_cons_none filterMap_cons_some length_range nodup_range append_assoc filter_cons_of_neg filter_cons_of_pos filter_sublist mem_map map_map toArray any_map any_eq_true length_eq_zero_iff getD_eq_getElem?_getD getElem?_eq_getElem getElem_mem ext_getElem? getElem?_range getElem?_eq_none map_congr_left not_mem_nil take_succ getElem_map nodup_nil map_append take_length Nodup pairwise_map filter_append filter_nil filter_congr append_inj' filter_map Sublist nodup_append nil_append lookup_cons)
open Nat (not_lt lt_of_lt_of_le lt_irrefl ne_of_lt le_trans le_of_lt ne_of_gt le_refl zero_le le_succ lt_trans lt_of_le_of_lt lt_succ_of_lt zero_add mod_lt le_of_eq)
open Array (length_toList toList getElem?_toList getD_eq_getD_getElem? toList_inj replicate size_map toList_push)
open Option (isSome_iff_exists isSome_some map_some)
open Bool (and_eq_true or_eq_true false_eq_true)
open Int (emod_nonneg toNat_natCast toNat)
open PySem.Heap (lt_size SameBut get?_push_of_some get?_push_size size_push get?_update_self size_update get?_push_ne get?_update_ne FlyingW ExtBut)
open PySem.Calls (spliced_nil spliced_cons callWith_builtin evalArgs_plain)
open PySem.SeqAt (EqAt eq_listAt RcAt RcNeAt)
open PySem (boot_len)
open PySem.Str (ofString empty)
open Ne (symm)
noncomputable section
namespace L2
open PySem PySem.Spec PyProof.Rows
abbrev Key:=Sum Int Str
def dg:Key→Value→Bool
 |.inl k,v=>Value.isInt k v
 |.inr x,v=>Value.isStrOf x v
def ux(w:World):Key→Int
 |.inl k=>hashInt k
 |.inr x=>hashStr w x
theorem ax:∀{k:Key}{v:Value},dg k v=true→(∃i t,k=Sum.inl i∧v=Value.int i t)∨(∃x t,k=Sum.inr x∧v=Value.str x t)
 |.inl i,v,h=>by
  obtain⟨t,e⟩:=Value.isInt_shape (k:=i) (v:=v) h;exact .inl ⟨i,t,rfl,e⟩
 |.inr x,v,h=>by
  obtain⟨t,e⟩:=Value.isStrOf_shape (x:=x) (v:=v) h;exact .inr ⟨x,t,rfl,e⟩
theorem nv(i:Int)(t:Tok):dg (.inl i) (.int i t)=true:=by simp[dg,Value.isInt]
theorem iw(x:Str)(t:Tok):dg (.inr x) (.str x t)=true:=by simp[dg,Value.isStrOf]
theorem sk(a b:Int):decide ((Sum.inl a:Key)=Sum.inl b)=(a==b):=by
 by_cases e:a=b
 ·subst e;simp
 ·have h:¬(Sum.inl a:Key)=Sum.inl b:=λq=>e (Sum.inl.inj q);rw[decide_eq_false h];exact(beq_eq_false_iff_ne.mpr e).symm
theorem sm(a b:Str):decide ((Sum.inr a:Key)=Sum.inr b)=decide (a=b):=by
 by_cases e:a=b
 ·subst e;simp
 ·have h:¬(Sum.inr a:Key)=Sum.inr b:=λq=>e (Sum.inr.inj q);rw[decide_eq_false h,decide_eq_false e]
theorem so(a:Int)(b:Str):decide ((Sum.inl a:Key)=Sum.inr b)=false:=decide_eq_false (λq=>nomatch q)
theorem sq(a:Str)(b:Int):decide ((Sum.inr a:Key)=Sum.inl b)=false:=decide_eq_false (λq=>nomatch q)
def ao(prog:Program)(w:World):PySem.KeyKind prog w Key where
 is:=dg
 hash:=ux w
 inj:=λv a b ha hb=>by
  rcases ax ha with⟨i,t,rfl,rfl⟩|⟨x,t,rfl,rfl⟩
  ·rcases ax hb with⟨j,u,rfl,e⟩|⟨y,u,rfl,e⟩
   ·injection e with e1 _;rw[e1]
   ·exact nomatch e
  ·rcases ax hb with⟨j,u,rfl,e⟩|⟨y,u,rfl,e⟩
   ·exact nomatch e
   ·injection e with e1 _;rw[e1]
 byValue:=λk v h=>by
  rcases ax h with⟨i,t,rfl,rfl⟩|⟨x,t,rfl,rfl⟩<;>rfl
 pyHash:=λhv h=>by
  rcases ax hv with⟨i,t,rfl,rfl⟩|⟨x,t,rfl,rfl⟩
  ·exact wpAny_pyHash_int h
  ·exact wpAny_pyHash_str h
 eqBool:=λhu hv h=>by
  rcases ax hu with⟨i,t,rfl,rfl⟩|⟨x,t,rfl,rfl⟩
  ·rcases ax hv with⟨j,u,rfl,rfl⟩|⟨y,u,rfl,rfl⟩
   ·rw[sk]at h;exact wpAny_eqBool_int h
   ·rw[so]at h;exact EqAt.int_str i t y u _ _ _ _ h
  ·rcases ax hv with⟨j,u,rfl,rfl⟩|⟨y,u,rfl,rfl⟩
   ·rw[sq]at h;exact EqAt.str_int x t j u _ _ _ _ h
   ·rw[sm]at h;exact wpAny_eqBool_str h
 «strs»:=λk x t v h=>by
  rcases ax h with⟨i,u,rfl,e⟩|⟨y,u,rfl,e⟩
  ·exact nomatch e
  ·injection e with e1 _
   subst e1;cases v<;>rfl
theorem jI(prog:Program)(w:World)(i:Int)(t:Tok):(ao prog w).is (.inl i) (.int i t)=true:=nv i t
theorem jJ(prog:Program)(w:World)(x:Str)(t:Tok):(ao prog w).is (.inr x) (.str x t)=true:=iw x t
inductive V where
 |non|bl (b:Bool)|int (i:Int)|str (x:Str)|byt (b:Array UInt8)|flt (b:UInt64)|ref (a:Addr)|ty (n:String)
 deriving DecidableEq
def aw:V→Value→Prop
 |.non,u=>u=Value.none
 |.bl b,u=>u=Value.bool b
 |.int i,u=>∃t,u=Value.int i t
 |.str x,u=>∃t,u=Value.str x t
 |.byt b,u=>∃t,u=Value.bytes b t
 |.flt b,u=>∃t,u=Value.float b t
 |.ref a,u=>u=Value.ref a
 |.ty n,u=>u=Value.type n
abbrev ap:List V→List Value→Prop:=Paired aw
theorem ap.length{xs:List V}{us:List Value}(r:ap xs us):xs.length=us.length:=Paired.length r
theorem ap.get:∀{xs:List V}{us:List Value}{i:Nat}{x:V},ap xs us→xs[i]?=some x→∃u,us[i]?=some u∧aw x u
 |_,_,_,_,.nil,e=>by simp at e
 |_,_,0,_,.cons r _,e=>by simp at e;subst e;exact⟨_,rfl,r⟩
 |_,_,i+1,x,.cons _ t,e=>by
  obtain⟨u,h1,h2⟩:=ap.get (i:=i) (x:=x) t (by simpa using e);exact⟨u,by simpa using h1,h2⟩
theorem ap.append:∀{xs ys:List V}{us ws:List Value},ap xs us→ap ys ws→ap (xs++ys) (us++ws)
 |_,_,_,_,.nil,s=>s
 |_,_,_,_,.cons r t,s=>.cons r (ap.append t s)
theorem ap.take:∀{xs:List V}{us:List Value}(n:Nat),ap xs us→ap (xs.take n) (us.take n)
 |_,_,0,_=>.nil
 |_,_,_+1,.nil=>.nil
 |_,_,n+1,.cons r t=>.cons r (ap.take n t)
theorem ap.drop:∀{xs:List V}{us:List Value}(n:Nat),ap xs us→ap (xs.drop n) (us.drop n)
 |_,_,0,r=>r
 |_,_,_+1,.nil=>.nil
 |_,_,n+1,.cons _ t=>ap.drop n t
def dC:Option V→Option Value→Prop
 |some v,some u=>aw v u
 |none,none=>True
 |_,_=>False
def KV{κ:Type}:List (κ×V)→List (κ×Value)→Prop:=Paired λ(p:κ×V) (q:κ×Value)=>p.1=q.1∧aw p.2 q.2
def kV:Key→V
 |.inl i=>.int i
 |.inr x=>.str x
inductive HO where
 |lst (xs:List V)
 |tup (xs:List V)
 |dK (kvs:List (Key×V))|dT (kvs:List (List Key×V))
 |set (S:Int→Bool) (n:Nat)
 |ins (C dx:Addr) (fs:List (Str×V))
 |own (x:Addr)
 |xd (fs:List (Str×V))
 |met (f x:Addr)
 |rng (lo hi:Int)
 |frz (o:Obj) (u:HO)
 |tbl (ps:Array Value)
 |ext (φ:Heap→Prop)
abbrev Hp:=Addr→Option HO
def upd(H:Hp)(a:Addr)(o:HO):Hp:=λb=>if b=a then some o else H b
theorem ac{H:Hp}{a:Addr}{o:HO}:upd H a o a=some o:=by unfold upd;rw[if_pos rfl]
theorem ah{H:Hp}{a b:Addr}{o:HO}(h:b≠a):upd H a o b=H b:=by unfold upd;rw[if_neg h]
theorem ar{H:Hp}{a b:Addr}{o:HO}(h:H a=some o)(h':H b=none):a≠b:=by
 intro e;subst e;rw[h]at h';cases h'
section
variable(P:Program)(w:World)
def bb(H:Hp)(h:Heap)(a:Addr):HO→Prop
 |.lst xs=>xs.length≤sizeLine∧∃(its:List Value) (n:Nat),ap xs its∧h.get? a=some {cls:=.type "list",data:=.seq its.toArray n}
 |.tup xs=>xs.length≤sizeLine∧∃its:List Value,ap xs its∧IsTup h a its.toArray
 |.dK kvs=>kvs.length≤sizeLine∧(a==sysModules)=false∧∃vs,KV kvs vs∧h.DictOf (ao P w) a vs
 |.dT kvs=>kvs.length≤sizeLine∧(a==sysModules)=false∧∃xs:List (List Key×Addr×Value),
   Paired (λ(p:List Key×V) (q:List Key×Addr×Value)=>p.1=q.1∧H q.2.1=some (.tup (p.1.map kV))∧aw p.2 q.2.2) kvs xs ∧
   ∃o es ep,h.get? a=some o∧o.ExactDict∧o.data=.dict es ep∧es.toList=xs.map (entryOfKey (tupleKind (ao P w)))∧(xs.map (·.1)).Nodup
 |.set S n=>h.SetOf (intKind P w) a S n
 |.ins C dx fs=>H dx=some (.own a)∧fs.length≤1000∧dx≠a∧h.get? a=some (PySem.W.instObj C dx) ∧
   ∃mA,h.Ns1 dx mA∧(∀f,dC (fs.lookup f) (mA f))∧PySem.Within mA (fs.map (·.1))
 |.own _=>∃o,h.get? a=some o
 |.xd fs=>∃mA,h.Ns1 a mA∧∀f,dC (fs.lookup f) (mA f)
 |.rng lo hi=>∃t u v,h.get? a=some {cls:=.type "range",data:=.fields #[.int lo t,.int hi u,.int 1 v]}
 |.frz o u=>h.get? a=some o∧bb H h a u
 |.tbl ps=>h.get? a=some {cls:=.none,data:=.fields ps}
 |.met f x=>h.get? a=some (methodObj (.ref f) (.ref x))
 |.ext φ=>φ h∧(∃o,h.get? a=some o)∧∀h1 h2:Heap,φ h1→(∀o,h1.get? a=some o→h2.get? a=some o)→φ h2
def HOk(H:Hp)(h:Heap):Prop:=∀a o,H a=some o→bb P w H h a o
end
section
variable{P:Program}{w:World}{H H':Hp}{h h':Heap}{a:Addr}{o:HO}
theorem bb.lt(x:bb P w H h a o):a<h.objs.size:=by
 cases o with
 |lst xs=>obtain⟨_,_,_,_,e⟩:=x;exact lt_size e
 |tup xs=>obtain⟨_,_,_,p⟩:=x;exact p.lt
 |dK kvs=>obtain⟨_,_,_,_,o,_,_,e,_⟩:=x;exact lt_size e
 |dT kvs=>obtain⟨_,_,_,_,o,_,_,e,_⟩:=x;exact lt_size e
 |set S n=>obtain⟨o,_,_,_,e,_⟩:=x;exact lt_size e
 |ins C dx fs=>obtain⟨_,_,_,e,_⟩:=x;exact lt_size e
 |own y=>obtain⟨_,e⟩:=x;exact lt_size e
 |xd fs=>obtain⟨_,⟨_,_,_,e,_⟩,_⟩:=x;exact lt_size e
 |rng lo hi=>obtain⟨_,_,_,e⟩:=x;exact lt_size e
 |frz ob u=>obtain⟨e,_⟩:=x;exact lt_size e
 |tbl ps=>exact lt_size (show h.get? a=some _ from x)
 |met f y=>exact lt_size (show h.get? a=some _ from x)
 |ext φ=>obtain⟨_,⟨_,e⟩,_⟩:=x;exact lt_size e
theorem Paired.mapP{α β:Type}{F G:α→β→Prop}:∀{l₁:List α}{l₂:List β},Paired F l₁ l₂→(∀a b,F a b→G a b)→Paired G l₁ l₂
 |_,_,.nil,_=>.nil
 |_,_,.cons r t,f=>.cons (f _ _ r) (Paired.mapP t f)
theorem bb.stay(x:bb P w H h a o)(k:∀b u,(b=a∨H b=some (.own a))→h.get? b=some u→h'.get? b=some u)(ho:∀b,H b=some (.own a)→H' b=some (.own a))(ht:∀b xs,H b=some (.tup xs)→H' b=some (.tup xs)):bb P w H' h' a o:=by
 induction o with
 |lst xs=>obtain⟨z,its,n,r,e⟩:=x;exact⟨z,its,n,r,k _ _ (.inl rfl) e⟩
 |tup xs=>obtain⟨z,its,r,ob,e,c⟩:=x;exact⟨z,its,r,ob,k _ _ (.inl rfl) e,c⟩
 |dK kvs=>obtain⟨z,y,vs,r,ob,es,ep,e,c⟩:=x;exact⟨z,y,vs,r,ob,es,ep,k _ _ (.inl rfl) e,c⟩
 |dT kvs =>
  obtain⟨z,y,xs,r,ob,es,ep,e,c⟩:=x;exact⟨z,y,xs,Paired.mapP r λp q z=>⟨z.1,ht _ _ z.2.1,z.2.2⟩,ob,es,ep,k _ _ (.inl rfl) e,c⟩
 |set S n=>obtain⟨ob,es,ep,t,e,c⟩:=x;exact⟨ob,es,ep,t,k _ _ (.inl rfl) e,c⟩
 |ins C dx fs =>
  obtain⟨d,z,ne,e,mA,⟨od,es,ep,e2,c⟩,r⟩:=x;exact⟨ho _ d,z,ne,k _ _ (.inl rfl) e,mA,⟨od,es,ep,k _ _ (.inr d) e2,c⟩,r⟩
 |own y=>obtain⟨ob,e⟩:=x;exact⟨ob,k _ _ (.inl rfl) e⟩
 |xd fs=>obtain⟨mA,⟨od,es,ep,e,c⟩,r⟩:=x;exact⟨mA,⟨od,es,ep,k _ _ (.inl rfl) e,c⟩,r⟩
 |rng lo hi=>obtain⟨t,u,v,e⟩:=x;exact⟨t,u,v,k _ _ (.inl rfl) e⟩
 |frz ob u ih=>obtain⟨e,q⟩:=x;exact⟨k _ _ (.inl rfl) e,ih q⟩
 |tbl ps =>
  have e:h.get? a=some {cls:=.none,data:=.fields ps}:=x;show h'.get? a=some {cls:=.none,data:=.fields ps};exact k a _ (.inl rfl) e
 |met f y =>
  have e:h.get? a=some (methodObj (.ref f) (.ref y)):=x;show h'.get? a=some (methodObj (.ref f) (.ref y));exact k a _ (.inl rfl) e
 |ext φ=>obtain⟨p,⟨o,e⟩,st⟩:=x;exact⟨st _ _ p λo q=>k _ _ (.inl rfl) q,⟨o,k _ _ (.inl rfl) e⟩,st⟩
theorem HOk.lt(x:HOk P w H h)(e:H a=some o):a<h.objs.size:=(x a o e).lt
theorem HOk.fresh(x:HOk P w H h)(e:h.objs.size≤a):H a=none:=by
 cases q:H a with
 |none=>rfl
 |some u=>exact absurd (lt_of_lt_of_le (x.lt q) e) (lt_irrefl _)
theorem HOk.kept(x:HOk P w H h)(k:∀b u,h.get? b=some u→h'.get? b=some u):HOk P w H h':=λa o e =>
 (x a o e).stay (λb u _ q=>k b u q) (λ_ q=>q) λ_ _ q=>q
theorem HOk.laid(x:HOk P w H h)(k:∀b u,h.get? b=some u→h'.get? b=some u)(hp:h.objs.size≤a)(new:bb P w (upd H a o) h' a o):HOk P w (upd H a o) h':=λb u e=>by
 have hn:=x.fresh hp
 by_cases hb:b=a
 ·subst hb;rw[ac]at e;cases e;exact new
 ·rw[ah hb]at e;exact(x b u e).stay (λc v _ q=>k c v q) (λc q=>by rw[ah (ar q hn)];exact q) λc xs q=>by rw[ah (ar q hn)];exact q
end
def Rd(H:Hp)(a:Addr)(u:HO):Prop:=H a=some u∨∃o,H a=some (.frz o u)
theorem Rd.of{H:Hp}{a:Addr}{u:HO}(h:H a=some u):Rd H a u:=.inl h
theorem Rd.ok{P:Program}{w:World}{H:Hp}{h:Heap}{a:Addr}{u:HO}(r:Rd H a u)(x:HOk P w H h):bb P w H h a u:=by
 rcases r with r|⟨o,r⟩
 ·exact x a u r
 ·obtain⟨_,q⟩:=x a _ r;exact q
def Mut:Option HO→Prop
 |some (.lst _)=>True
 |some (.dK _)=>True
 |some (.dT _)=>True
 |some (.set _ _)=>True
 |some (.ins _ _ _)=>True
 |some (.ext _)=>True
 |_=>False
section
variable{P:Program}{w:World}{H:Hp}{h h':Heap}{x e:Addr}{o':HO}
theorem HOk.write(ok:HOk P w H h)(mu:Mut (H x))(he:e=x∨H e=some (.own x))(k:∀b u,b≠e→h.get? b=some u→h'.get? b=some u)(heo:∃u,h'.get? e=some u)(new:bb P w (upd H x o') h' x o'):HOk P w (upd H x o') h':=λb u q=>by
 have nown:∀c y,H c=some (.own y)→c≠x:=λc y r z=>by subst z;rw[r]at mu;exact mu
 have ntup:∀c xs,H c=some (.tup xs)→c≠x:=λc xs r z=>by subst z;rw[r]at mu;exact mu
 by_cases hb:b=x
 ·subst hb;rw[ac]at q;cases q;exact new
 ·rw[ah hb]at q
  by_cases hbe:b=e
  ·have q':H b=some (.own x):=by
    rcases he with z|z
    ·exact absurd (hbe.trans z) hb
    ·rw[hbe];exact z
   rw[q]at q';cases q';obtain⟨v,hv⟩:=heo;exact⟨v,by rw[hbe];exact hv⟩
  ·refine(ok b u q).stay (λc v hc r=>k c v ?_ r) (λc r=>by rw[ah (nown c b r)];exact r) λc xs r=>by rw[ah (ntup c xs r)];exact r
   rcases hc with rfl|hc
   ·exact hbe
   ·rintro rfl;rcases he with z|z
    ·exact nown c b hc z
    ·rw[hc]at z;cases z;exact hb rfl
end
structure Un(fs ex:List Addr)(H H':Hp)(h h':Heap):Prop where
 keep:∀b o,h.get? b=some o→H b=none→b∉fs→b∉ex→h'.get? b=some o
 slot:∀b o,h.get? b=some o→H b=none→b∈fs→b∉ex→∃sl,h'.get? b=some {o with slots:=sl}
 free:∀b o,h.get? b=some o→H b=none→b∉ex→H' b=none
 there:∀b o,h.get? b=some o→b∉ex→∃o',h'.get? b=some o'
 tups:∀b xs,H b=some (.tup xs)→H' b=some (.tup xs)
 frzs:∀b o u,H b=some (.frz o u)→H' b=some (.frz o u)
 tbls:∀b ps,H b=some (.tbl ps)→∃more,H' b=some (.tbl (ps++more))
section
variable{fs fs' ex ex':List Addr}{H H1 H2:Hp}{h h1 h2 h':Heap}{a x e:Addr}{o:HO}
theorem Un.any(u:Un fs ex H H1 h h1){b:Addr}{ob:Obj}(q:h.get? b=some ob)(n:H b=none)(hx:b∉ex):∃sl,h1.get? b=some {ob with slots:=sl}:=by
 by_cases hb:b∈fs
 ·exact u.slot b ob q n hb hx
 ·exact⟨ob.slots,u.keep b ob q n hb hx⟩
theorem Un.trans(a:Un fs ex H H1 h h1)(b:Un fs ex H1 H2 h1 h2):Un fs ex H H2 h h2 where
 keep:=λc ob q n hc hx=>b.keep c ob (a.keep c ob q n hc hx) (a.free c ob q n hx) hc hx
 slot:=λc ob q n hc hx=>by
  obtain⟨sl,e1⟩:=a.slot c ob q n hc hx;obtain⟨sl',e2⟩:=b.slot c _ e1 (a.free c ob q n hx) hc hx;exact⟨sl',e2⟩
 free:=λc ob q n hx=>by
  obtain⟨o',e1⟩:=a.there c ob q hx;exact b.free c o' e1 (a.free c ob q n hx) hx
 there:=λc ob q hx=>by
  obtain⟨o',e1⟩:=a.there c ob q hx;exact b.there c o' e1 hx
 tups:=λc xs q=>b.tups c xs (a.tups c xs q)
 frzs:=λc ob xs q=>b.frzs c ob xs (a.frzs c ob xs q)
 tbls:=λc ps q=>by
  obtain⟨m1,e1⟩:=a.tbls c ps q;obtain⟨m2,e2⟩:=b.tbls c _ e1;exact⟨m1++m2,by rw[e2,Array.append_assoc]⟩
theorem Un.kept(k:∀b u,h.get? b=some u→h'.get? b=some u):Un fs ex H H h h' :=
 ⟨λb ob q _ _ _=>k b ob q,λb ob q _ _ _=>⟨ob.slots,k b ob q⟩,λ_ _ _ n _=>n,λb ob q _=>⟨ob,k b ob q⟩,λ_ _ q=>q,λ_ _ _ q=>q,λ_ ps q=>⟨#[],by rw[q];simp⟩⟩
theorem Un.refl:Un fs ex H H h h:=Un.kept λ_ _ q=>q
theorem Un.laid(k:∀b u,h.get? b=some u→h'.get? b=some u)(hp:h.objs.size≤a)(hn:H a=none):Un fs ex H (upd H a o) h h' where
 keep:=λb u q _ _ _=>k b u q
 slot:=λb u q _ _ _=>⟨u.slots,k b u q⟩
 free:=λb u q n _=>by rw[ah (ne_of_lt (lt_of_lt_of_le (lt_size q) hp))];exact n
 there:=λb u q _=>⟨u,k b u q⟩
 tups:=λb xs q=>by rw[ah (ar q hn)];exact q
 frzs:=λb u xs q=>by rw[ah (ar q hn)];exact q
 tbls:=λb ps q=>⟨#[],by rw[ah (ar q hn),q];simp⟩
theorem Un.write(mu:Mut (H x))(he:e=x∨H e=some (.own x))(k:∀b u,b≠e→h.get? b=some u→h'.get? b=some u)(heo:∃u,h'.get? e=some u):Un fs ex H (upd H x o) h h':=by
 have hx:∀b,H b=none→b≠x:=λb n z=>by subst z;rw[n]at mu;exact mu
 have hb:∀b,H b=none→b≠e:=λb n z=>by
  subst z;rcases he with r|r
  ·exact hx b n r
  ·rw[n]at r;cases r
 have hm:∀b u,H b=some u→¬Mut (some u)→b≠x:=λb u q nm z=>by subst z;rw[q]at mu;exact nm mu
 refine⟨λb u q n _ _=>k b u (hb b n) q,λb u q n _ _=>⟨u.slots,k b u (hb b n) q⟩,λb u q n _=>by rw[ah (hx b n)];exact n,λb u q _=>?_,
  λb xs q=>by rw[ah (hm b _ q λz=>z)];exact q,λb u xs q=>by rw[ah (hm b _ q λz=>z)];exact q,λb ps q=>⟨#[],by rw[ah (hm b _ q λz=>z),q];simp⟩⟩
 by_cases hbe:b=e
 ·subst hbe;exact heo
 ·exact⟨u,k b u hbe q⟩
end
def trk(h:Heap)(H:Hp):List Addr:=(List.range h.objs.size).filter λa=>(H a).isSome
def ic(h:Heap)(H:Hp):Heap:=hideAll h (trk h H)
theorem nw(h:Heap)(H:Hp):(ic h H).objs.size=h.objs.size:=hideAll_size _ _
theorem oz{h:Heap}{H:Hp}{b:Addr}{o:Obj}(e:h.get? b=some o)(n:H b=none):(ic h H).get? b=some o :=
 hideAll_get _ e λhm=>by
  have q:(H b).isSome=true:=(mem_filter.mp hm).2;rw[n]at q;simp at q
theorem qw{h:Heap}{H:Hp}{b:Addr}{o:Obj}(e:(ic h H).get? b=some o):h.get? b=some o∧H b=none:=by
 have e':h.get? b=some o:=of_hideAll (trk h H) e;refine⟨e',?_⟩;cases q:H b with
 |none=>rfl
 |some x =>
  have hm:b∈trk h H:=mem_filter.mpr ⟨mem_range.mpr (lt_size e'),by simp[q]⟩;have z:(ic h H).get? b=none:=hideAll_none (trk h H) hm;rw[z]at e;cases e
structure Mod(K:PySem.W.Frag)(mg:Str→Option Value)(base:Heap):Prop where
 kin:K.In base
 glob:base.Ns mainGlobals mg
 blt:∃mb,base.Ns builtinsNs mb∧∀x:Str,x≠"__name__"→mb x=bootBuiltins x
 nolimit:base.NoLimit
structure Cx where
 prog:Program
 w:World
 K:PySem.W.Frag
 mg:Str→Option Value
 base:Heap
 A:Around
 N:List Str
 s₀:Shared
 H₀:Hp
 env:Env
 outer:List Env
 stack:List Env
 ex:List Addr
 fn:Str→Bool
 calm:Bool
 pn:List (Addr×Obj)
 xe:Value→Shared→Prop
def frs(l:List Env):List Addr:=l.filterMap (·.frame)
abbrev Cx.fs(X:Cx):List Addr:=frs X.outer
def Vis(sc:Scope)(x:Str):Prop:=sc.names.lookup x=some .local∨sc.names.lookup x=some .cell∨sc.names.lookup x=some .free
def Loc(sc:Scope)(x:Str):Prop:=sc.names.lookup x=some .local∨sc.names.lookup x=some .cell
def vk(env:Env)(h:Heap)(m:Str→Option Value)(x:Str)(u:Value):Prop :=
 (env.kindOf x=some .local∧m x=some u)∨((env.kindOf x=some .cell∨env.kindOf x=some .free)∧∃c,env.cells.lookup x=some c∧h.IsCell c (some u))
structure Cx.Ok(X:Cx):Prop where
 mod:Mod X.K X.mg X.base
 kind:X.env.scope.kind=.function
 glob:X.env.globals=mainGlobals
 blt:X.env.builtins=builtinsNs
 above:X.s₀.heap.objs.size≤X.env.locals
 inj:∀x y c,X.env.cells.lookup x=some c→X.env.cells.lookup y=some c→x=y
 has:∀x,(X.env.kindOf x=some .cell∨X.env.kindOf x=some .free)→∃c,X.env.cells.lookup x=some c
 cab:∀x c,X.fn x=true→X.env.cells.lookup x=some c→X.s₀.heap.objs.size≤c
 hd:X.calm=true→X.A.handled=none
 frames:X.A.frames=some X.stack
 stk:X.stack=X.outer∨(X.stack=X.env::X.outer∧X.env.frame=some X.env.locals)
 exf:∀b∈X.ex,b≠X.env.locals∧∀x c,X.env.cells.lookup x=some c→c≠b
 bs:∀b o,X.base.get? b=some o→X.s₀.heap.get? b=some o∧X.H₀ b=none
 bsz:X.base.objs.size≤X.s₀.heap.objs.size
 noex:∀b o,X.base.get? b=some o→b∉X.ex
 exfs:∀b∈X.ex,b∉X.fs
 funs:X.s₀.heap.FunFrames X.base X.outer
 frf:∀b∈X.fs,X.H₀ b=none
structure Inv(X:Cx)(pins:List (Addr×Obj))(σ:List (Option V))(H:Hp)(s:Shared):Prop where
 ok:X.Ok
 os:s.os=X.s₀.os
 bare:AllBare s.gens
 base:Un X.fs X.ex X.H₀ H X.s₀.heap s.heap
 loc:∃m,s.heap.Ns X.env.locals m∧∀(i:Nat)(x:Str)(v:V),X.N[i]?=some x→σ[i]?=some (some v)→Vis X.env.scope x→∃u,aw v u∧vk X.env s.heap m x u
 cell:∀x c,X.env.cells.lookup x=some c→∃v,s.heap.IsCell c v
 free:H X.env.locals=none
 freeC:∀x c,X.env.cells.lookup x=some c→H c=none
 pin:∀p∈X.pn++pins,s.heap.get? p.1=some p.2∧H p.1=none∧p.1≠X.env.locals∧p.1∉X.fs∧∀v,p.2.data≠.cell v
 hok:HOk X.prog X.w H s.heap
 len:σ.length=X.N.length
section
variable{X:Cx}{pins:List (Addr×Obj)}{σ:List (Option V)}{H H':Hp}{s:Shared}{h':Heap}
theorem Cx.Ok.nofr(ok:X.Ok){b:Addr}{o:Obj}(e:X.base.get? b=some o):b∉X.fs:=λhb=>by
 have:=(ok.funs.mem hb).1;rw[e]at this;cases this
theorem Inv.bs(I:Inv X pins σ H s):∀b o,X.base.get? b=some o→s.heap.get? b=some o∧H b=none:=λb o e =>
 ⟨I.base.keep b o (I.ok.bs b o e).1 (I.ok.bs b o e).2 (I.ok.nofr e) (I.ok.noex b o e),I.base.free b o (I.ok.bs b o e).1 (I.ok.bs b o e).2 (I.ok.noex b o e)⟩
theorem Inv.bk(I:Inv X pins σ H s):∀b o,X.base.get? b=some o→s.heap.get? b=some o:=λb o e=>(I.bs b o e).1
theorem Inv.mod(I:Inv X pins σ H s):Mod X.K X.mg X.base:=I.ok.mod
theorem Inv.kIn(I:Inv X pins σ H s):X.K.In s.heap:=I.ok.mod.kin.keeps I.bk
theorem Inv.lt(I:Inv X pins σ H s):X.env.locals<s.heap.objs.size:=let⟨_,hn,_⟩:=I.loc;hn.lt
theorem Inv.sz(I:Inv X pins σ H s):X.s₀.heap.objs.size≤s.heap.objs.size:=le_trans I.ok.above (le_of_lt I.lt)
theorem Inv.nofs(I:Inv X pins σ H s){a:Addr}(h:s.heap.objs.size≤a):a∉X.fs:=λhb=>by
 obtain⟨_,o,ho,_⟩:=I.ok.funs.mem hb;exact absurd (lt_of_lt_of_le (lt_size ho) (le_trans I.sz h)) (lt_irrefl _)
theorem Inv.cne(I:Inv X pins σ H s):∀x c,X.env.cells.lookup x=some c→c≠X.env.locals:=λx c e z=>by
 obtain⟨v,o,ho,hd⟩:=I.cell x c e;obtain⟨m,⟨o',es,ep,ho',hd',_⟩,_⟩:=I.loc;rw[z,ho']at ho;cases ho;rw[hd']at hd;cases hd
theorem Inv.funs(I:Inv X pins σ H s):s.heap.FunFrames X.base X.outer:=by
 have all:∀(l:List Env),(∀b∈frs l,b∈X.fs)→X.s₀.heap.FunFrames X.base l→s.heap.FunFrames X.base l:=by
  intro l
  induction l with
  |nil=>intro _ _;trivial
  |cons env r ih =>
   intro hs hl;obtain⟨hk,⟨L,o,hf,hn,ho,hd⟩,hr⟩:=hl;have hL:L∈X.fs:=hs L (by unfold frs;rw[filterMap_cons,hf];exact mem_cons_self);obtain⟨sl,e⟩:=I.base.slot L o ho (I.ok.frf L hL) hL λz=>I.ok.exfs L z hL;exact⟨hk,⟨L,_,hf,hn,e,hd⟩,ih (λb hb=>hs b (by unfold frs;rw[filterMap_cons,hf];exact mem_cons_of_mem _ hb)) hr⟩
 exact all X.outer (λ_ hb=>hb) I.ok.funs
theorem Inv.stack(I:Inv X pins σ H s):s.heap.FunFrames X.base X.stack:=by
 rcases I.ok.stk with e|⟨e,hf⟩
 ·rw[e];exact I.funs
 ·rw[e];obtain⟨m,hn,_⟩:=I.loc;refine .cons (by rw[I.ok.kind];decide) hf hn ?_ I.funs;exact Heap.get?_none_of_le (le_trans I.ok.bsz I.ok.above)
theorem Inv.stkSub(I:Inv X pins σ H s):∀b∈frs X.stack,b∈X.env.locals::X.fs:=λb hb=>by
 rcases I.ok.stk with e|⟨e,hf⟩
 ·rw[e]at hb;exact mem_cons_of_mem _ hb
 ·rw[e]at hb;unfold frs at hb;rw[filterMap_cons,hf]at hb;exact hb
theorem Inv.stkFree(I:Inv X pins σ H s):∀b∈frs X.stack,H b=none:=λb hb=>by
 rcases mem_cons.mp (I.stkSub b hb)with e|hb
 ·rw[e];exact I.free
 ·obtain⟨_,o,ho,_⟩:=I.ok.funs.mem hb;exact I.base.free b o ho (I.ok.frf b hb) λz=>I.ok.exfs b z hb
theorem Inv.step{g':Array GenState}{t':Nat}{d':Drawn}{ch:List Addr}(I:Inv X pins σ H s)(hch:∀b∈ch,(b∈X.ex∨X.s₀.heap.objs.size≤b)∧b≠X.env.locals∧(∀x c,X.env.cells.lookup x=some c→c≠b)∧∀p∈X.pn++pins,p.1≠b)(keep:∀b o,b≠X.env.locals→b∉X.fs→b∉ch→s.heap.get? b=some o→H b=none→h'.get? b=some o)(slot:∀b o,b≠X.env.locals→b∈X.fs→b∉ch→s.heap.get? b=some o→H b=none→∃sl,h'.get? b=some {o with slots:=sl})(free:∀b o,b∉ch→s.heap.get? b=some o→H b=none→H' b=none)(there:∀b o,b∉ch→s.heap.get? b=some o→∃o',h'.get? b=some o')(tups:∀b xs,H b=some (.tup xs)→H' b=some (.tup xs))(frzs:∀b o u,H b=some (.frz o u)→H' b=some (.frz o u))(tbls:∀b ps,H b=some (.tbl ps)→∃more,H' b=some (.tbl (ps++more)))(ns:∀m,s.heap.Ns X.env.locals m→h'.Ns X.env.locals m)(hok:HOk X.prog X.w H' h')(hg:AllBare g'):
  Inv X pins σ H' {s with heap:=h',gens:=g',drawn:=d',toks:=t'}:=by
 have neL:∀b o,X.s₀.heap.get? b=some o→b≠X.env.locals:=λb o e=>ne_of_lt (lt_of_lt_of_le (lt_size e) I.ok.above);have neC:∀b o,X.s₀.heap.get? b=some o→b∉X.ex→b∉ch:=λb o e hx hb=>by
  rcases (hch b hb).1 with z|z
  ·exact hx z
  ·exact absurd (lt_of_lt_of_le (lt_size e) z) (lt_irrefl _)
 have cellK:∀x c,X.env.cells.lookup x=some c→∀v,s.heap.IsCell c v→h'.IsCell c v:=λx c e v ⟨o,ho,hd⟩=>by
  have nch:c∉ch:=λz=>(hch c z).2.2.1 x c e rfl
  by_cases hc:c∈X.fs
  ·obtain⟨sl,q⟩:=slot c o (I.cne x c e) hc nch ho (I.freeC x c e);exact⟨_,q,hd⟩
  ·exact⟨o,keep c o (I.cne x c e) hc nch ho (I.freeC x c e),hd⟩
 refine⟨I.ok,I.os,hg,⟨λb o e n hb hx=>?_,λb o e n hb hx=>?_,λb o e n hx=>?_,λb o e hx=>?_,λb xs e=>tups b xs (I.base.tups b xs e),λb o xs e=>frzs b o xs (I.base.frzs b o xs e),λb ps e=>?_⟩,?_,λx c e=>?_,?_,λx c e=>?_,λp hp=>?_,hok,I.len⟩
 ·exact keep b o (neL b o e) hb (neC b o e hx) (I.base.keep b o e n hb hx) (I.base.free b o e n hx)
 ·obtain⟨sl,e1⟩:=I.base.slot b o e n hb hx;obtain⟨sl',e2⟩:=slot b _ (neL b o e) hb (neC b o e hx) e1 (I.base.free b o e n hx);exact⟨sl',e2⟩
 ·obtain⟨o',e1⟩:=I.base.there b o e hx;exact free b o' (neC b o e hx) e1 (I.base.free b o e n hx)
 ·obtain⟨o',e1⟩:=I.base.there b o e hx;exact there b o' (neC b o e hx) e1
 ·obtain⟨m1,e1⟩:=I.base.tbls b ps e;obtain⟨m2,e2⟩:=tbls b _ e1;exact⟨m1++m2,by rw[e2,Array.append_assoc]⟩
 ·obtain⟨m,hn,hl⟩:=I.loc;refine⟨m,ns m hn,λi x v e1 e2 e3=>?_⟩;obtain⟨u,r,l⟩:=hl i x v e1 e2 e3;refine⟨u,r,?_⟩;rcases l with l|⟨k,c,e,z⟩
  ·exact .inl l
  ·exact .inr ⟨k,c,e,cellK x c e _ z⟩
 ·obtain⟨v,z⟩:=I.cell x c e;exact⟨v,cellK x c e v z⟩
 ·obtain⟨m,⟨o,_,_,ho,_⟩,_⟩:=I.loc;exact free _ o (λz=>(hch _ z).2.1 rfl) ho I.free
 ·obtain⟨v,o,ho,hd⟩:=I.cell x c e;exact free c o (λz=>(hch c z).2.2.1 x c e rfl) ho (I.freeC x c e)
 ·obtain⟨e,n,ne,nf,d⟩:=I.pin p hp;have nch:p.1∉ch:=λz=>(hch p.1 z).2.2.2 p hp rfl;exact⟨keep p.1 p.2 ne nf nch e n,free p.1 p.2 nch e n,ne,nf,d⟩
theorem Inv.un{t':Nat}(I:Inv X pins σ H s)(u:Un X.fs [] H H' s.heap h')(hok:HOk X.prog X.w H' h'):Inv X pins σ H' {s with heap:=h',toks:=t'}:=by
 obtain⟨m,⟨o,es,ep,ho,r⟩,_⟩:=id I.loc;obtain⟨sl,hL⟩:=u.any ho I.free (by simp);exact I.step (g':=s.gens) (d':=s.drawn) (ch:=[]) (λ_ z=>nomatch z) (λb o _ hb _ e n=>u.keep b o e n hb (by simp)) (λb o _ hb _ e n=>u.slot b o e n hb (by simp)) (λb o _ e n=>u.free b o e n (by simp)) (λb o _ e=>u.there b o e (by simp)) u.tups u.frzs u.tbls (λm' hm=>by
  obtain⟨o',es',ep',ho',r'⟩:=hm;rw[ho]at ho';cases ho';exact⟨_,es',ep',hL,r'⟩) hok I.bare
theorem Inv.call{g':Array GenState}{t':Nat}{d':Drawn}{ch:List Addr}(I:Inv X pins σ H s)(u:Un (frs X.stack) ch H H' s.heap h')(hok:HOk X.prog X.w H' h')(hg:AllBare g')(hch:∀b∈ch,(b∈X.ex∨X.s₀.heap.objs.size≤b)∧b≠X.env.locals∧(∀x c,X.env.cells.lookup x=some c→c≠b)∧∀p∈X.pn++pins,p.1≠b):
  Inv X pins σ H' {s with heap:=h',gens:=g',drawn:=d',toks:=t'}:=by
 obtain⟨m,⟨o,es,ep,ho,r⟩,_⟩:=id I.loc;obtain⟨sl,hL⟩:=u.any ho I.free λz=>(hch _ z).2.1 rfl;exact I.step (ch:=ch) hch (λb o hL hb hc e n=>u.keep b o e n (λz=>(mem_cons.mp (I.stkSub b z)).elim hL hb) hc) (λb o _ _ hc e n=>u.any e n hc) (λb o hc e n=>u.free b o e n hc) (λb o hc e=>u.there b o e hc) u.tups u.frzs u.tbls (λm' hm=>by
  obtain⟨o',es',ep',ho',r'⟩:=hm;rw[ho]at ho';cases ho';exact⟨_,es',ep',hL,r'⟩) hok hg
theorem Inv.turned{t':Nat}{it:Addr}(I:Inv X pins σ H s)(k:∀b o,b≠it→s.heap.get? b=some o→h'.get? b=some o)(hn:H it=none)(hL:it≠X.env.locals)(h1:it∈X.ex∨X.s₀.heap.objs.size≤it)(h2:∀x c,X.env.cells.lookup x=some c→c≠it)(h3:∀p∈X.pn++pins,p.1≠it):Inv X pins σ H {s with heap:=h',toks:=t'}:=by
 have nit:∀b u,H b=some u→b≠it:=λb u e z=>by rw[z,hn]at e;cases e
 refine I.step (g':=s.gens) (d':=s.drawn) (ch:=[it]) (λb hb=>?_) (λb o _ _ hc e _=>k b o (λz=>hc (by simp[z])) e) (λb o _ _ hc e _=>⟨o.slots,k b o (λz=>hc (by simp[z])) e⟩) (λ_ _ _ _ n=>n)
  (λb o hc e=>⟨o,k b o (λz=>hc (by simp[z])) e⟩) (λ_ _ e=>e) (λ_ _ _ e=>e) (λb ps e=>⟨#[],by rw[e];simp⟩) (λm hm=>?_) (λb u e=>?_) I.bare
 ·have e:b=it:=by simpa using hb
  subst e;exact⟨h1,hL,h2,h3⟩
 ·obtain⟨o,es,ep,ho,r⟩:=hm;exact⟨o,es,ep,k _ o (symm hL) ho,r⟩
 ·refine(I.hok b u e).stay (λc v hc q=>k c v ?_ q) (λ_ q=>q) λ_ _ q=>q;rcases hc with z|z
  ·rw[z];exact nit b u e
  ·exact nit c _ z
theorem Inv.tok(I:Inv X pins σ H s)(t:Nat):Inv X pins σ H {s with toks:=t}:=I.un (h':=s.heap) (t':=t) Un.refl I.hok
theorem Inv.kept{t':Nat}(I:Inv X pins σ H s)(k:∀b u,s.heap.get? b=some u→h'.get? b=some u):Inv X pins σ H {s with heap:=h',toks:=t'}:=I.un (Un.kept k) (I.hok.kept k)
theorem Inv.laid{a:Addr}{o:HO}{t':Nat}(I:Inv X pins σ H s)(k:∀b u,s.heap.get? b=some u→h'.get? b=some u)(hp:s.heap.objs.size≤a)(new:bb X.prog X.w (upd H a o) h' a o):
  Inv X pins σ (upd H a o) {s with heap:=h',toks:=t'}:=I.un (Un.laid k hp (I.hok.fresh hp)) (I.hok.laid k hp new)
theorem Inv.write{x e:Addr}{o:HO}{t':Nat}(I:Inv X pins σ H s)(mu:Mut (H x))(he:e=x∨H e=some (.own x))(k:∀b u,b≠e→s.heap.get? b=some u→h'.get? b=some u)(heo:∃u,h'.get? e=some u)(new:bb X.prog X.w (upd H x o) h' x o):Inv X pins σ (upd H x o) {s with heap:=h',toks:=t'}:=I.un (Un.write mu he k heo) (I.hok.write mu he k heo new)
theorem Inv.pins_of{pins':List (Addr×Obj)}(I:Inv X pins σ H s)(h:∀p∈pins',s.heap.get? p.1=some p.2∧H p.1=none∧p.1≠X.env.locals∧p.1∉X.fs∧∀v,p.2.data≠.cell v):Inv X pins' σ H s :=
 ⟨I.ok,I.os,I.bare,I.base,I.loc,I.cell,I.free,I.freeC,λp hp=>(mem_append.mp hp).elim (λz=>I.pin p (mem_append_left _ z)) (h p),I.hok,I.len⟩
theorem jK{N:List Str}(hN:N.Nodup){i j:Nat}{x:Str}(a:N[i]?=some x)(b:N[j]?=some x):i=j:=by
 obtain⟨h1,e1⟩:=List.getElem?_eq_some_iff.mp a;obtain⟨h2,e2⟩:=List.getElem?_eq_some_iff.mp b;exact(getElem_inj hN).mp (e1.trans e2.symm)
theorem ff{M:Model}{A:Around}{E:Value→Shared→Prop}{i:Nat}{x:Str}{v:V}{u:Value}{Q:Unit→Shared→Prop}(I:Inv X pins σ H s)(hN:X.N.Nodup)(hi:X.N[i]?=some x)(hx:Loc X.env.scope x)(r:aw v u)(h:∀s',Inv X pins (σ.set i (some v)) H s'→(∃a,SameBut a s.heap s'.heap∧(a=X.env.locals∨X.env.cells.lookup x=some a))→Q () s')(hf:X.fn x=true∨X.env.scope.names.lookup x=some .local:=by first|exact .inl rfl|exact .inr rfl|assumption):wpAny M A (storeName X.env x u) Q E s:=by
 obtain⟨m,hn,hl⟩:=id I.loc;have hcls:(X.env.scope.kind==.class||(X.env.scope.kind==.module&&X.env.locals != X.env.globals))=false:=by rw[I.ok.kind];rfl
 have hiσ:i<σ.length:=by rw[I.len];exact(List.getElem?_eq_some_iff.mp hi).1
 have cne:=I.cne;have tracked:∀{a:Addr}{h':Heap},(∃o,s.heap.get? a=some o∧H a=none)→SameBut a s.heap h'→HOk X.prog X.w H h':=λ{a h'} ha hs b ob e=>by
  obtain⟨_,_,hfree⟩:=ha;refine(I.hok b ob e).stay (λc w' hc q=>(hs.2 c ?_).trans q) (λ_ q=>q) λ_ _ q=>q;rintro rfl;rcases hc with rfl|hc
  ·rw[hfree]at e;cases e
  ·rw[hfree]at hc;cases hc
 rcases hx with hk|hk
 ·refine wpAny_storeName_local hk hn (λh' hn' hs=>?_) hcls;obtain⟨oL,_,_,hoL,_⟩:=id hn;refine h _ ⟨I.ok,I.os,I.bare,⟨λb o e n hb hx=>?_,λb o e n hb hx=>?_,I.base.free,λb o e hx=>?_,I.base.tups,I.base.frzs,I.base.tbls⟩,⟨_,hn',λj y v' e1 e2 e3=>?_⟩,λy c e=>?_,I.free,I.freeC,λp hp=>?_,tracked ⟨oL,hoL,I.free⟩ hs,by simpa using I.len⟩ ⟨_,hs,.inl rfl⟩
  ·exact(hs.2 b (ne_of_lt (lt_of_lt_of_le (lt_size e) I.ok.above))).trans (I.base.keep b o e n hb hx)
  ·obtain⟨sl,e1⟩:=I.base.slot b o e n hb hx;exact⟨sl,(hs.2 b (ne_of_lt (lt_of_lt_of_le (lt_size e) I.ok.above))).trans e1⟩
  ·obtain⟨o',e1⟩:=I.base.there b o e hx;exact⟨o',(hs.2 b (ne_of_lt (lt_of_lt_of_le (lt_size e) I.ok.above))).trans e1⟩
  ·by_cases hj:j=i
   ·subst hj;rw[hi]at e1;cases e1;rw[List.getElem?_set_self hiσ]at e2;cases e2;exact⟨u,r,.inl ⟨hk,by simp⟩⟩
   ·rw[List.getElem?_set_ne (symm hj)]at e2;obtain⟨u',r',q⟩:=hl j y v' e1 e2 e3;refine⟨u',r',?_⟩;rcases q with⟨k,e⟩|⟨k,c,e,z⟩
    ·refine .inl ⟨k,?_⟩;have:y≠x:=λe=>hj (jK hN e1 (e ▸ hi));simp[this,e]
    ·exact .inr ⟨k,c,e,z.sameBut hs (cne y c e)⟩
  ·obtain⟨w',z⟩:=I.cell y c e;exact⟨w',z.sameBut hs (cne y c e)⟩
  ·obtain⟨e,n,ne,nf,d⟩:=I.pin p hp;exact⟨(hs.2 p.1 ne).trans e,n,ne,nf,d⟩
 ·have hfn:X.fn x=true:=by
   rcases hf with z|z
   ·exact z
   ·rw[z]at hk;cases hk
  obtain⟨c,hc⟩:=I.ok.has x (.inl hk);obtain⟨w',z⟩:=I.cell x c hc;refine wpAny_storeName_cell I.ok.kind hk hc z (λh' hc' hs=>?_);obtain⟨oc,hoc,hocd⟩:=id z;refine h {s with heap:=h'} ⟨I.ok,I.os,I.bare,⟨λb o e n hb hx=>?_,λb o e n hb hx=>?_,I.base.free,λb o e hx=>?_,I.base.tups,I.base.frzs,I.base.tbls⟩,⟨m,hn.sameBut hs (symm (cne x c hc)),λj y v' e1 e2 e3=>?_⟩,λy c' e=>?_,I.free,I.freeC,λp hp=>?_,tracked ⟨oc,hoc,I.freeC x c hc⟩ hs,by simpa using I.len⟩ ⟨c,hs,.inr hc⟩
  ·exact(hs.2 b (ne_of_lt (lt_of_lt_of_le (lt_size e) (I.ok.cab x c hfn hc)))).trans (I.base.keep b o e n hb hx)
  ·obtain⟨sl,e1⟩:=I.base.slot b o e n hb hx;exact⟨sl,(hs.2 b (ne_of_lt (lt_of_lt_of_le (lt_size e) (I.ok.cab x c hfn hc)))).trans e1⟩
  ·obtain⟨o',e1⟩:=I.base.there b o e hx;exact⟨o',(hs.2 b (ne_of_lt (lt_of_lt_of_le (lt_size e) (I.ok.cab x c hfn hc)))).trans e1⟩
  ·by_cases hj:j=i
   ·subst hj;rw[hi]at e1;cases e1;rw[List.getElem?_set_self hiσ]at e2;cases e2;exact⟨u,r,.inr ⟨.inl hk,c,hc,hc'⟩⟩
   ·rw[List.getElem?_set_ne (symm hj)]at e2;obtain⟨u',r',q⟩:=hl j y v' e1 e2 e3;refine⟨u',r',?_⟩;rcases q with q|⟨k,c',e,z'⟩
    ·exact .inl q
    ·refine .inr ⟨k,c',e,z'.sameBut hs ?_⟩;rintro rfl;exact hj (jK hN e1 (I.ok.inj _ _ _ e hc ▸ hi))
  ·by_cases hcc:c'=c
   ·subst hcc;exact⟨_,hc'⟩
   ·obtain⟨w2,z2⟩:=I.cell y c' e;exact⟨w2,z2.sameBut hs hcc⟩
  ·obtain⟨e,n,ne,nf,d⟩:=I.pin p hp;refine⟨(hs.2 p.1 ?_).trans e,n,ne,nf,d⟩;intro q;rw[q,hoc]at e;have q':oc=p.2:=Option.some.inj e;exact d w' (by rw[←q'];exact hocd)
theorem jL{M:Model}{A:Around}{E:Value→Shared→Prop}{i:Nat}{x:Str}{v:V}{u:Value}{Q:Unit→Shared→Prop}(I:Inv X pins σ H s)(hN:X.N.Nodup)(hi:X.N[i]?=some x)(hx:Loc X.env.scope x)(r:aw v u)(h:∀s',Inv X pins (σ.set i (some v)) H s'→Q () s')(hf:X.fn x=true∨X.env.scope.names.lookup x=some .local:=by first|exact .inl rfl|exact .inr rfl|assumption):wpAny M A (storeName X.env x u) Q E s :=
 ff I hN hi hx r (λs' I' _=>h s' I') hf
theorem Inv.call'{s':Shared}{ch:List Addr}(I:Inv X pins σ H s)(ho:s'.os=s.os)(u:Un (frs X.stack) ch H H' s.heap s'.heap)(hok:HOk X.prog X.w H' s'.heap)(hg:AllBare s'.gens)(hch:∀b∈ch,(b∈X.ex∨X.s₀.heap.objs.size≤b)∧b≠X.env.locals∧(∀x c,X.env.cells.lookup x=some c→c≠b)∧∀p∈X.pn++pins,p.1≠b):Inv X pins σ H' s':=by
 obtain⟨h',g',d',t',o'⟩:=s';have e:o'=s.os:=ho;subst e;exact I.call (g':=g') (t':=t') (d':=d') u hok hg hch
end
abbrev XK:=Value→Option Addr→Hp→Prop
abbrev St:=List (Option V)
abbrev VK:=V→Hp→Prop
abbrev TE:=St→Hp→VK→Prop
abbrev TT:=St→Hp→(Bool→Hp→Prop)→Prop
abbrev TA:=St→Hp→(List V→Hp→Prop)→Prop
structure Ends where
 nx:St→Hp→Prop
 rt:VK
 bk:St→Hp→Prop:=λ_ _=>False
 ct:St→Hp→Prop:=λ_ _=>False
abbrev TS:=Ends→St→Hp→Prop
def EP(X:Cx)(pins:List (Addr×Obj))(σ:St)(Q:VK)(u:Value)(s':Shared):Prop:=∃v H',Inv X pins σ H' s'∧aw v u∧Q v H'
def TP(X:Cx)(pins:List (Addr×Obj))(σ:St)(Q:Bool→Hp→Prop)(b:Bool)(s':Shared):Prop:=∃H',Inv X pins σ H' s'∧Q b H'
def AP(X:Cx)(pins:List (Addr×Obj))(σ:St)(Q:List V→Hp→Prop)(us:List Value)(s':Shared):Prop:=∃vs H',Inv X pins σ H' s'∧ap vs us∧Q vs H'
def SP(X:Cx)(pins:List (Addr×Obj))(D:Ends)(f:Flow)(s':Shared):Prop :=
 match f with
 |.next=>∃σ' H',Inv X pins σ' H' s'∧D.nx σ' H'
 |.brk=>∃σ' H',Inv X pins σ' H' s'∧D.bk σ' H'
 |.cont=>∃σ' H',Inv X pins σ' H' s'∧D.ct σ' H'
 |.ret u=>∃v σ' H',Inv X pins σ' H' s'∧aw v u∧D.rt v H'
def PE(X:Cx)(e:Expr)(t:TE):Prop :=
 ∀(pins:List (Addr×Obj))(s:Shared)(σ:St)(H:Hp)(Q:VK),Inv X pins σ H s→t σ H Q→wpAny (model X.prog X.w) X.A (eval e X.env) (EP X pins σ Q) X.xe s
def PT(X:Cx)(e:Expr)(t:TT):Prop :=
 ∀(pins:List (Addr×Obj))(s:Shared)(σ:St)(H:Hp)(Q:Bool→Hp→Prop),Inv X pins σ H s→t σ H Q→wpAny (model X.prog X.w) X.A (isTrue e X.env (eval e X.env)) (TP X pins σ Q) X.xe s
def PW(X:Cx)(e:Expr)(t:TT):Prop :=
 ∀(whole:Sem Value)(pins:List (Addr×Obj))(s:Shared)(σ:St)(H:Hp)(Q:Bool→Hp→Prop),Inv X pins σ H s→t σ H Q→wpAny (model X.prog X.w) X.A (isTrue e X.env whole) (TP X pins σ Q) X.xe s
theorem PW.pt{X:Cx}{e:Expr}{t:TT}(h:PW X e t):PT X e t:=h _
def PA(X:Cx)(es:List Expr)(t:TA):Prop :=
 ∀(pos:Pos)(pins:List (Addr×Obj))(s:Shared)(σ:St)(H:Hp)(Q:List V→Hp→Prop),Inv X pins σ H s→t σ H Q→wpAny (model X.prog X.w) X.A (spliced (backTo pos (starEach es X.env))) (AP X pins σ Q) X.xe s
def PS(X:Cx)(st:Stmt)(t:TS):Prop :=
 ∀(pins:List (Addr×Obj))(s:Shared)(σ:St)(H:Hp)(D:Ends),Inv X pins σ H s→t D σ H→wpAny (model X.prog X.w) X.A (exec st X.env) (SP X pins D) X.xe s
def PSs(X:Cx)(st:List Stmt)(t:TS):Prop :=
 ∀(pins:List (Addr×Obj))(s:Shared)(σ:St)(H:Hp)(D:Ends),Inv X pins σ H s→t D σ H→wpAny (model X.prog X.w) X.A (execs st X.env) (SP X pins D) X.xe s
theorem thn{α:Type}{t:Sem α}{Q Q':α→Shared→Prop}{M:Model}{A:Around}{E:Value→Shared→Prop}{s:Shared}(h:wpAny M A t Q E s)(hQ:∀a s,Q a s→Q' a s):wpAny M A t Q' E s:=wpAny_mono h hQ λ_ _ x=>x
section
variable{X:Cx}
def ie(i:Nat):TE:=λσ H Q=>∃v,σ[i]?=some (some v)∧Q v H
def tC(v:V):TE:=λ_ H Q=>Q v H
theorem sr{i:Nat}{x:Str}{pos:Pos}(hN:X.N[i]?=some x)(hv:Vis X.env.scope x)(hd:(x==("__debug__":Str))=false:=by decide)(hcd:(x==("__classdict__":Str))=false:=by decide):PE X (.Name x pos) (ie i):=by
 intro pins s σ H Q I h;obtain⟨v,e,h⟩:=h;obtain⟨m,hn,hl⟩:=I.loc;obtain⟨u,r,l⟩:=hl i x v hN e hv;have fin:EP X pins σ Q u s:=⟨v,H,I,r,h⟩;rcases l with⟨hk,hm⟩|⟨hk,c,hc,hcell⟩
 ·exact wpAny_Name (wpAny_loadName_local I.ok.kind hk hn hm fin) hd
 ·rcases hk with hk|hk
  ·exact wpAny_Name (wpAny_loadName_cell I.ok.kind hk hc hcell fin) hd
  ·exact wpAny_Name (wpAny_loadName_free I.ok.kind hk hc hcell fin hcd) hd
theorem ai{i j pos}:PE X (.Constant (.int i) j pos) (tC (.int i)):=λ_ _ _ H _ I h=>wpAny_Constant_int ⟨.int i,H,I.tok _,⟨_,rfl⟩,h⟩
theorem cg{j pos}:PE X (.Constant .none j pos) (tC .non):=λ_ _ _ H _ I h=>Constant_none ⟨.non,H,I,rfl,h⟩
theorem cQ{x j pos}:PE X (.Constant (.str x) j pos) (tC (.str x)):=λ_ _ _ H _ I h=>Calls.Constant_str ⟨.str x,H,I.tok _,⟨_,rfl⟩,h⟩
def Gl(X:Cx)(x:Str):Prop:=X.env.kindOf x=some .globalImplicit
theorem ja{E:Value→Shared→Prop}{pins:List (Addr×Obj)}{s:Shared}{σ:St}{H:Hp}{x:Str}{u:Value}{pos:Pos}{Q:Value→Shared→Prop}(I:Inv X pins σ H s)(hg:Gl X x)(hm:X.mg x=some u)(h:Q u s)(hd:(x==("__debug__":Str))=false:=by decide):wpAny (model X.prog X.w) X.A (eval (.Name x pos) X.env) Q E s :=
 Calls.Name_function_global I.ok.kind hg (Calls.loadGlobal_global (by rw[I.ok.glob];exact I.mod.glob.keeps I.bk) hm h) hd
theorem fg{E:Value→Shared→Prop}{pins:List (Addr×Obj)}{s:Shared}{σ:St}{H:Hp}{x:Str}{u:Value}{pos:Pos}{Q:Value→Shared→Prop}(I:Inv X pins σ H s)(hg:Gl X x)(hm:X.mg x=none)(hv:bootBuiltins x=some u)(h:Q u s)(hn:x≠"__name__":=by decide)(hd:(x==("__debug__":Str))=false:=by decide):wpAny (model X.prog X.w) X.A (eval (.Name x pos) X.env) Q E s:=by
 obtain⟨mb,h1,h2⟩:=I.mod.blt;exact Calls.Name_function_global I.ok.kind hg (Calls.loadGlobal_builtin (by rw[I.ok.glob];exact I.mod.glob.keeps I.bk) hm (by rw[I.ok.blt];exact h1.keeps I.bk) ((h2 x hn).trans hv) h) hd
theorem gf{x:Str}{v:V}{u:Value}{pos:Pos}(hg:Gl X x)(hm:X.mg x=some u)(r:aw v u)(hd:(x==("__debug__":Str))=false:=by decide):PE X (.Name x pos) (tC v) :=
 λ_ _ _ H _ I h=>ja I hg hm ⟨v,H,I,r,h⟩ hd
variable{a b:Expr}{ta tb:TE}{pos:Pos}
def PC(X:Cx)(op:CmpOp)(a b:Expr)(t:TE):Prop :=
 ∀(pins:List (Addr×Obj))(s:Shared)(σ:St)(H:Hp)(Q:VK),Inv X pins σ H s→t σ H Q →
  wpAny (model X.prog X.w) X.A (eval a X.env) (λv s₁=>wpAny (model X.prog X.w) X.A (eval b X.env) (λu s₂=>wpAny (model X.prog X.w) X.A (compareOp op v u) (EP X pins σ Q) X.xe s₂) X.xe s₁) X.xe s
def tB(t:TE):TT:=λσ H Q=>t σ H λx H1=>∃c,x=.bl c∧Q c H1
theorem ss{op:CmpOp}{t:TE}(h:PC X op a b t)(h1:behindInMarks op b=false:=by first|exact nobehind _ (by decide) (by decide)|rfl):PT X (.Compare a [op] [b] pos) (tB t):=by
 intro pins s σ H Q I hw;refine wpAny_isTrue_Compare1 (thn (h pins s σ H _ I hw) λv s1 h1=>thn h1 λu s2 h2=>thn h2 λc s3 ⟨x,H1,I1,r1,q1⟩=>?_) h1;obtain⟨d,rfl,q⟩:=q1;cases r1;exact wpAny_truthy_bool ⟨H1,I1,q⟩
variable{tA tB':TT}{rest:List Expr}
def vm(t u:TT):TT:=λσ H Q=>t σ H λc H1=>if c=true then u σ H1 Q else Q false H1
def tOr(t u:TT):TT:=λσ H Q=>t σ H λc H1=>if c=true then Q true H1 else u σ H1 Q
theorem pw_and1(ha:PT X a tA):PW X (.BoolOp .And [a] pos) tA:=by
 intro wh pins s σ H Q I h;refine isTrue_and (thn (ha pins s σ H Q I h) λc s1 e=>?_);cases c with
 |true=>exact isTrue_and_nil e
 |false=>exact e
theorem pw_or1(ha:PT X a tA):PW X (.BoolOp .Or [a] pos) tA:=by
 intro wh pins s σ H Q I h;refine isTrue_or (thn (ha pins s σ H Q I h) λc s1 e=>?_);cases c with
 |false=>exact isTrue_or_nil e
 |true=>exact e
theorem pw_and(ha:PT X a tA)(hb:PW X (.BoolOp .And (b::rest) pos) tB'):PW X (.BoolOp .And (a::b::rest) pos) (vm tA tB'):=by
 intro wh pins s σ H Q I h;refine isTrue_and (thn (ha pins s σ H _ I h) λc s1 hpt=>?_);obtain⟨H1,I1,q1⟩:=hpt;cases c with
 |true=>exact hb wh pins s1 σ H1 Q I1 q1
 |false=>exact⟨H1,I1,q1⟩
theorem pw_or(ha:PT X a tA)(hb:PW X (.BoolOp .Or (b::rest) pos) tB'):PW X (.BoolOp .Or (a::b::rest) pos) (tOr tA tB'):=by
 intro wh pins s σ H Q I h;refine isTrue_or (thn (ha pins s σ H _ I h) λc s1 hpt=>?_);obtain⟨H1,I1,q1⟩:=hpt;cases c with
 |true=>exact⟨H1,I1,q1⟩
 |false=>exact hb wh pins s1 σ H1 Q I1 q1
def tIf(t:TT)(ta tb:TE):TE:=λσ H Q=>t σ H λc H1=>if c=true then ta σ H1 Q else tb σ H1 Q
theorem oA{c:Expr}(hc:PT X c tA)(ha:PE X a ta)(hb:PE X b tb):PE X (.IfExp c a b pos) (tIf tA ta tb):=by
 intro pins s σ H Q I h;refine wpAny_IfExp (thn (hc pins s σ H _ I h) λd s1 hpt=>?_);obtain⟨H1,I1,q1⟩:=hpt;cases d with
 |true=>exact ha pins s1 σ H1 Q I1 q1
 |false=>exact hb pins s1 σ H1 Q I1 q1
end
def SqL(K:PySem.W.Frag)(H:Hp)(a:Addr)(xs:List V):Prop :=
 Rd H a (.lst xs) ∨
  ∃(o:Obj) (its:Array Value) (n:Nat),K.lookup a=some o∧o.cls=.type "list"∧o.dict=none∧o.data=.seq its n∧its.size≤sizeLine∧ap xs its.toList
def SqT(K:PySem.W.Frag)(H:Hp)(a:Addr)(xs:List V):Prop :=
 Rd H a (.tup xs) ∨
  ∃(o:Obj) (its:Array Value) (n:Nat),K.lookup a=some o∧o.cls=.type "tuple"∧o.data=.seq its n∧its.size≤sizeLine∧ap xs its.toList
def vn:Value→Option V
 |.none=>some .non
 |.bool b=>some (.bl b)
 |.int i _=>some (.int i)
 |.str x _=>some (.str x)
 |.bytes b _=>some (.byt b)
 |.float b _=>some (.flt b)
 |.ref a=>some (.ref a)
 |.type n=>some (.ty n)
 |_=>none
theorem aw.abs{x:V}{u:Value}(r:aw x u):vn u=some x:=by
 cases x with
 |non=>cases r;rfl
 |bl _=>cases r;rfl
 |int _=>obtain⟨t,rfl⟩:=r;rfl
 |str _=>obtain⟨t,rfl⟩:=r;rfl
 |byt _=>obtain⟨t,rfl⟩:=r;rfl
 |flt _=>obtain⟨t,rfl⟩:=r;rfl
 |ref _=>cases r;rfl
 |ty _=>cases r;rfl
theorem aw.inj{x y:V}{u:Value}(r:aw x u)(q:aw y u):x=y:=Option.some.inj (r.abs.symm.trans q.abs)
theorem ap.inj:∀{xs ys:List V}{us:List Value},ap xs us→ap ys us→xs=ys
 |_,_,_,.nil,.nil=>rfl
 |_,_,_,.cons r t,.cons r' t'=>by rw[r.inj r',ap.inj t t']
section
variable{X:Cx}{pins:List (Addr×Obj)}{σ:St}{H:Hp}{s:Shared}{a:Addr}{xs ys:List V}
theorem SqL.of{K:PySem.W.Frag}(h:H a=some (.lst xs)):SqL K H a xs:=.inl (.inl h)
theorem SqT.of{K:PySem.W.Frag}(h:H a=some (.tup xs)):SqT K H a xs:=.inl (.inl h)
theorem Inv.list(I:Inv X pins σ H s)(h:SqL X.K H a xs):∃its:List Value,ap xs its∧PlainL s.heap a its.toArray∧xs.length≤sizeLine:=by
 rcases h with h|⟨o,its,n,hk,hc,hd,hs,hz,r⟩
 ·obtain⟨z,its,n,r,e⟩:=h.ok I.hok;exact⟨its,r,⟨_,n,e,rfl,rfl,rfl⟩,z⟩
 ·refine⟨its.toList,r,⟨o,n,I.kIn a o hk,hc,hd,by simpa using hs⟩,?_⟩
  have e:=r.length;simp only[length_toList]at e;omega
theorem Inv.tuple(I:Inv X pins σ H s)(h:SqT X.K H a xs):∃its:List Value,ap xs its∧IsTup s.heap a its.toArray∧xs.length≤sizeLine:=by
 rcases h with h|⟨o,its,n,hk,hc,hs,hz,r⟩
 ·obtain⟨z,its,r,p⟩:=h.ok I.hok;exact⟨its,r,p,z⟩
 ·refine⟨its.toList,r,⟨o,I.kIn a o hk,hc,n,by simpa using hs⟩,?_⟩
  have e:=r.length;simp only[length_toList]at e;omega
theorem Inv.list_inj(I:Inv X pins σ H s)(h:SqL X.K H a xs)(h':SqL X.K H a ys):xs=ys:=by
 obtain⟨its,r,⟨o,n,e,_,_,d⟩,_⟩:=I.list h;obtain⟨its',r',⟨o',n',e',_,_,d'⟩,_⟩:=I.list h';rw[e]at e';cases e';rw[d]at d';injection d' with d1 _
 have:its=its':=by simpa using congrArg toList d1
 subst this;exact r.inj r'
theorem Inv.tuple_inj(I:Inv X pins σ H s)(h:SqT X.K H a xs)(h':SqT X.K H a ys):xs=ys:=by
 obtain⟨its,r,⟨o,e,_,n,d⟩,_⟩:=I.tuple h;obtain⟨its',r',⟨o',e',_,n',d'⟩,_⟩:=I.tuple h';rw[e]at e';cases e';rw[d]at d';injection d' with d1 _
 have:its=its':=by simpa using congrArg toList d1
 subst this;exact r.inj r'
end
abbrev Cx.wish(X:Cx)(E:Value→Shared→Prop):Cx:={X with xe:=E}
abbrev Cx.nox(X:Cx):Cx:=X.wish λ_ _=>False
theorem Cx.Ok.wish{X:Cx}(ok:X.Ok)(E:Value→Shared→Prop):(X.wish E).Ok :=
 ⟨ok.mod,ok.kind,ok.glob,ok.blt,ok.above,ok.inj,ok.has,ok.cab,ok.hd,ok.frames,ok.stk,ok.exf,ok.bs,ok.bsz,ok.noex,ok.exfs,ok.funs,ok.frf⟩
theorem Cx.Ok.unwish{X:Cx}{E:Value→Shared→Prop}(ok:(X.wish E).Ok):X.Ok :=
 ⟨ok.mod,ok.kind,ok.glob,ok.blt,ok.above,ok.inj,ok.has,ok.cab,ok.hd,ok.frames,ok.stk,ok.exf,ok.bs,ok.bsz,ok.noex,ok.exfs,ok.funs,ok.frf⟩
section
variable{X:Cx}{pins:List (Addr×Obj)}{σ:St}{H:Hp}{s:Shared}{E:Value→Shared→Prop}
theorem Inv.wish(I:Inv X pins σ H s)(E:Value→Shared→Prop):Inv (X.wish E) pins σ H s:=⟨I.ok.wish E,I.os,I.bare,I.base,I.loc,I.cell,I.free,I.freeC,I.pin,I.hok,I.len⟩
theorem Inv.unwish(I:Inv (X.wish E) pins σ H s):Inv X pins σ H s:=⟨I.ok.unwish,I.os,I.bare,I.base,I.loc,I.cell,I.free,I.freeC,I.pin,I.hok,I.len⟩
theorem SP.unwish{D:Ends}{f:Flow}{s':Shared}(h:SP (X.wish E) pins D f s'):SP X pins D f s':=by
 cases f with
 |next=>obtain⟨σ',H',I,q⟩:=h;exact⟨σ',H',I.unwish,q⟩
 |brk=>obtain⟨σ',H',I,q⟩:=h;exact⟨σ',H',I.unwish,q⟩
 |cont=>obtain⟨σ',H',I,q⟩:=h;exact⟨σ',H',I.unwish,q⟩
 |ret u=>obtain⟨v,σ',H',I,r,q⟩:=h;exact⟨v,σ',H',I.unwish,r,q⟩
theorem PSs.nox{st:List Stmt}{t:TS}(h:PSs X.nox st t):PSs X st t:=λpins s σ H D I hw =>
 wpAny_mono (h pins s σ H D (I.wish _) hw) (λ_ _ q=>q.unwish) λ_ _ z=>False.elim z
end
section
variable{X:Cx}{st:Stmt}{rest:List Stmt}{t u:TS}{e:Expr}{te:TE}{pos:Pos}
def uy:TS:=λD σ H=>D.nx σ H
def qx(t u:TS):TS:=λD σ H=>t {D with nx:=u D} σ H
theorem aX:PSs X [] uy:=λ_ _ σ H _ I h=>wpAny_execs_nil ⟨σ,H,I,h⟩
theorem aj(h1:PS X st t)(h2:PSs X rest u):PSs X (st::rest) (qx t u):=by
 intro pins s σ H D I h;refine wpAny_execs_cons (thn (h1 pins s σ H {D with nx:=u D} I h) λf s1 q=>?_);cases f with
 |next =>
  obtain⟨σ',H',I',q⟩:=q;exact h2 pins s1 σ' H' D I' q
 |ret v=>exact q
 |brk=>exact q
 |cont=>exact q
theorem ak(h1:PS X st t):PSs X [st] t:=by
 intro pins s σ H D I h;refine wpAny_execs_cons (thn (h1 pins s σ H D I h) λf s1 q=>?_);cases f with
 |next=>exact wpAny_execs_nil q
 |ret v=>exact q
 |brk=>exact q
 |cont=>exact q
theorem Inv.quiet{pins:List (Addr×Obj)}{σ:St}{H:Hp}{s:Shared}(I:Inv X pins σ H s):interactive X.env=false:=by simp[interactive,I.ok.kind]
def uz(te:TE):TS:=λD σ H=>te σ H λ_ H1=>D.nx σ H1
theorem bV(he:PE X e te)(hs:swapsWith e none pos.line X.env=pure false:=by rfl):PS X (.Expr e pos) (uz te):=by
 intro pins s σ H D I h;exact wpAny_Expr_any (thn (he pins s σ H _ I h) λv s1 ⟨x,H1,I1,r1,q1⟩=>⟨σ,H1,I1,q1⟩) I.quiet hs
def uA(te:TE):TS:=λD σ H=>te σ H D.rt
theorem aK(he:PE X e te):PS X (.Return (some e) pos) (uA te):=by
 intro pins s σ H D I h;exact wpAny_Return_some (thn (he pins s σ H _ I h) λv s1 ⟨x,H1,I1,r1,q1⟩=>⟨x,σ,H1,I1,r1,q1⟩)
def vo(c:TT)(t u:TS):TS:=λD σ H=>c σ H λb H1=>if b=true then t D σ H1 else u D σ H1
theorem ck{c:Expr}{a b:List Stmt}{tc:TT}(hc:PT X c tc)(ha:PSs X a t)(hb:PSs X b u):PS X (.If c a b pos) (vo tc t u):=by
 intro pins s σ H D I h;refine wpAny_If (thn (hc pins s σ H _ I h) λd s1 hpt=>?_);obtain⟨H1,I1,q1⟩:=hpt;cases d with
 |true=>exact ha pins s1 σ H1 D I1 q1
 |false=>exact hb pins s1 σ H1 D I1 q1
def su:TS:=λ_ _ _=>False
theorem br{sts:List Stmt}:PSs X sts su:=λ_ _ _ _ _ _ h=>h.elim
end
abbrev TG:=V→St→Hp→(St→Hp→Prop)→Prop
abbrev TGs:=List V→St→Hp→(St→Hp→Prop)→Prop
def PG(X:Cx)(target:Expr)(t:TG):Prop :=
 ∀(pins:List (Addr×Obj))(s:Shared)(σ:St)(H:Hp)(v:V)(u:Value)(Q:St→Hp→Prop),Inv X pins σ H s→aw v u→t v σ H Q →
  wpAny (model X.prog X.w) X.A (assign target X.env u) (λ_ s'=>∃σ' H',Inv X pins σ' H' s'∧Q σ' H') X.xe s
def PGs(X:Cx)(ts:List Expr)(t:TGs):Prop :=
 ∀(pins:List (Addr×Obj))(s:Shared)(σ:St)(H:Hp)(vs:List V)(us:List Value)(Q:St→Hp→Prop),Inv X pins σ H s→ap vs us→t vs σ H Q →
  wpAny (model X.prog X.w) X.A (assignInOrder ((assignEach ts X.env).map (·.2)) us) (λ_ s'=>∃σ' H',Inv X pins σ' H' s'∧Q σ' H') X.xe s
section
variable{X:Cx}{pos:Pos}
def aB(i:Nat):TG:=λv σ H Q=>Q (σ.set i (some v)) H
theorem al{i:Nat}{x:Str}(hN:X.N.Nodup)(hi:X.N[i]?=some x)(hx:Loc X.env.scope x)(hf:X.fn x=true∨X.env.scope.names.lookup x=some .local:=by first|exact .inl rfl|exact .inr rfl|assumption):PG X (.Name x pos) (aB i):=by
 intro pins s σ H v u Q I r h;exact wpAny_assign_Name (jL I hN hi hx r (λs' I'=>⟨_,H,I',h⟩) hf)
def oB:TGs:=λvs σ H Q=>vs=[]∧Q σ H
def dW(t:TG)(u:TGs):TGs:=λvs σ H Q=>∃v r,vs=v::r∧t v σ H λσ' H'=>u r σ' H' Q
theorem dX:PGs X [] oB:=by
 intro pins s σ H vs us Q I r h;obtain⟨e,h⟩:=h;subst e;cases r;exact assignInOrder_nil ⟨σ,H,I,h⟩
theorem bn{e:Expr}{es:List Expr}{t:TG}{u:TGs}(h1:PG X e t)(h2:PGs X es u)(hs:(assignEach (e::es) X.env).map (·.2)=assign e X.env::(assignEach es X.env).map (·.2):=by rfl):PGs X (e::es) (dW t u):=by
 intro pins s σ H vs us Q I r h;obtain⟨v,vr,e1,h⟩:=h;subst e1;cases r with
 |cons r rr =>
  rw[hs];refine assignInOrder_cons (thn (h1 pins s σ H _ _ _ I r h) λ_ s1 hpt=>?_);obtain⟨σ1,H1,I1,q1⟩:=hpt;exact h2 pins s1 σ1 H1 _ _ Q I1 rr q1
def oC(K:PySem.W.Frag)(n:Nat)(t:TGs):TG:=λv σ H Q=>∃a xs,v=.ref a∧SqT K H a xs∧xs.length=n∧t xs σ H Q
theorem gw{es:List Expr}{k:Nat}{t:TGs}{n:Nat}(hc:X.calm=true)(h:PGs X es t)(hn:(assignEach es X.env).length=n:=by rfl)(hst:(assignEach es X.env).findIdx? (·.1)=none:=by rfl):PG X (.Tuple es k pos) (oC X.K n t):=by
 intro pins s σ H v u Q I r hw;obtain⟨a,xs,e1,hq,hl,hw⟩:=hw;subst e1;cases r;obtain⟨its,rv,ht,hz⟩:=I.tuple hq;refine assign_Tuple_tuple (I.ok.hd hc) ht (by simp[hn,←hl,rv.length]) hst λh' hx=>?_;have I1:Inv X pins σ H {s with heap:=h'}:=I.kept (t':=s.toks) λb o e=>hx b o (ne_of_lt (lt_size e)) e
 exact h pins _ σ H xs _ Q I1 (by simpa using rv) hw
def sv(te:TE)(g:TG):TS:=λD σ H=>te σ H λx H1=>g x σ H1 D.nx
theorem aE{i:Nat}{x:Str}{e:Expr}{te:TE}{pos':Pos}(hN:X.N.Nodup)(hi:X.N[i]?=some x)(hx:Loc X.env.scope x)(he:PE X e te)(hs:swapsWith e (some (.Name x pos')) pos.line X.env=pure false:=by rfl)(hf:X.fn x=true∨X.env.scope.names.lookup x=some .local:=by first|exact .inl rfl|exact .inr rfl|assumption):
  PS X (.Assign [.Name x pos'] e pos) (sv te (aB i)):=by
 intro pins s σ H D I h;refine wpAny_Assign_Name (thn (he pins s σ H _ I h) λv s1 ⟨y,H1,I1,r1,q1⟩=>?_) hs;exact jL I1 hN hi hx r1 (λs2 I2=>⟨_,H1,I2,q1⟩) hf
def oD(c:TT)(tb:TS):TS:=λD σ H=>∃W:Nat→St→Hp→Prop,(∃m,W m σ H)∧∀m σ H,W m σ H →
 c σ H λb H1=>if b=true then ∃N:St→Hp→Prop,(∀σ' H',N σ' H'→∃m',m'<m∧W m' σ' H')∧tb {D with nx:=N,ct:=N,bk:=D.nx} σ H1 else D.nx σ H1
theorem gy{c:Expr}{body:List Stmt}{tc:TT}{tb:TS}(hp:PassesOwn (model X.prog X.w) X.A X.env X.xe)(hc:PT X c tc)(hb:PSs X body tb):PS X (.While c body [] pos) (oD tc tb):=by
 intro pins s σ H D I h;obtain⟨W,⟨m0,w0⟩,turn⟩:=h;refine wpAny_While (codeAny_whileLoop (λn s'=>∃σ' H',Inv X pins σ' H' s'∧W n σ' H') ?_ m0 ⟨σ,H,I,w0⟩);rintro n s1 ⟨σ1,H1,I1,w1⟩;refine wpAny_passesOwn hp (thn (hc pins s1 σ1 H1 _ I1 (turn n σ1 H1 w1)) λb s2 hpt=>?_);obtain⟨H2,I2,q2⟩:=hpt;cases b with
 |true =>
  obtain⟨N,hN,q2⟩:=q2;rw[if_pos rfl];refine wpAny_passesOwn hp (thn (hb pins s2 σ1 H2 _ I2 q2) λf s3 q3=>?_);cases f with
  |next =>
   obtain⟨σ3,H3,I3,n3⟩:=q3;obtain⟨m',hm,w3⟩:=hN σ3 H3 n3;exact⟨m',hm,σ3,H3,I3,w3⟩
  |cont =>
   obtain⟨σ3,H3,I3,n3⟩:=q3;obtain⟨m',hm,w3⟩:=hN σ3 H3 n3;exact⟨m',hm,σ3,H3,I3,w3⟩
  |brk=>exact q3
  |ret v=>exact q3
 |false =>
  rw[if_neg Bool.false_ne_true];exact wpAny_execs_nil ⟨σ1,H2,I2,q2⟩
end
structure It where
 go:Nat→Hp→Prop
 yld:Nat→Hp→V→Hp→Prop
 stop:Nat→Hp→Prop
def cy(X:Cx)(pins:List (Addr×Obj))(H:Hp)(b:Addr):Prop :=
 H b=none∧b≠X.env.locals∧b∉X.fs∧(b∈X.ex∨X.s₀.heap.objs.size≤b)∧(∀x c,X.env.cells.lookup x=some c→c≠b)∧∀p∈X.pn++pins,p.1≠b
theorem Inv.fpOk{X:Cx}{pins:List (Addr×Obj)}{σ:St}{H H':Hp}{s:Shared}{b:Addr}(I:Inv X pins σ H s)(hb:s.heap.objs.size≤b)(hn:H' b=none):cy X pins H' b:=by
 refine⟨hn,ne_of_gt (lt_of_lt_of_le I.lt hb),I.nofs hb,.inr (le_trans I.sz hb),λx c e z=>?_,λp hp z=>?_⟩
 ·obtain⟨v,q⟩:=I.cell x c e;exact absurd (lt_of_lt_of_le q.lt (by rw[z];exact hb)) (lt_irrefl _)
 ·exact absurd (lt_of_lt_of_le (lt_size (I.pin p hp).1) (by rw[z];exact hb)) (lt_irrefl _)
structure Turn(P:Program)(w:World)(K:PySem.W.Frag)(tg:Expr)(J:It)(fp:List Addr)(it:Addr)(tn:Nat→Heap→Prop):Prop where
 mem:it∈fp
 obj:∀i h,tn i h→∀b∈fp,∃o,h.get? b=some o∧∀v,o.data≠.cell v
 keep:∀i h h',tn i h→(∀b∈fp,∀o,h.get? b=some o→h'.get? b=some o)→tn i h'
 item:∀(X:Cx),X.prog=P→X.w=w→X.K=K→X.calm=true→∀(i:Nat)(pins:List (Addr×Obj))(s:Shared)(σ:St)(H:Hp)(E:Value→Shared→Prop),Inv X pins σ H s→(∀b∈fp,cy X pins H b)→tn i s.heap→J.go i H →
  wpAny (model P w) X.A (pyNext (.ref it)) (λr s1=>∃u,r=some u ∧
   wpAny (model P w) X.A (letOwnedTupleGo tg (.ref it) u) (λ_ s2=>∃x H',Inv X pins σ H' s2∧aw x u∧J.yld i H x H'∧tn (i+1) s2.heap∧∀b∈fp,H' b=none) E s1) E s
 done:∀(X:Cx),X.prog=P→X.w=w→X.K=K→X.calm=true→∀(i:Nat)(pins:List (Addr×Obj))(s:Shared)(σ:St)(H:Hp)(E:Value→Shared→Prop),Inv X pins σ H s→(∀b∈fp,cy X pins H b)→tn i s.heap→J.stop i H →
  wpAny (model P w) X.A (pyNext (.ref it)) (λr s1=>r=none∧Inv X pins σ H s1) E s
 self:∀(A:Around)(i:Nat)(s:Shared)(Q:Value→Shared→Prop)(E:Value→Shared→Prop),tn i s.heap→Q (.ref it) s→wpAny (model P w) A (pyIter (.ref it)) Q E s
abbrev TI:=St→Hp→(It→Hp→Prop)→Prop
def PIE(X:Cx)(pins:List (Addr×Obj))(σ:St)(tg:Expr)(R:It→Hp→Prop)(itv:Value)(s2:Shared):Prop :=
 ∃(it:Addr) (fp:List Addr) (tn:Nat→Heap→Prop) (J:It) (H':Hp),itv=.ref it∧Inv X pins σ H' s2∧Turn X.prog X.w X.K tg J fp it tn∧tn 0 s2.heap∧(∀b∈fp,cy X pins H' b)∧R J H'
def PI(X:Cx)(tg iter:Expr)(wi:TI):Prop :=
 ∀(pins:List (Addr×Obj))(s:Shared)(σ:St)(H:Hp)(R:It→Hp→Prop),Inv X pins σ H s→wi σ H R →
  wpAny (model X.prog X.w) X.A (eval iter X.env) (λv s1=>wpAny (model X.prog X.w) X.A (pyIter v) (PIE X pins σ tg R) X.xe s1) X.xe s
theorem lT{M:Model}{A:Around}{E:Value→Shared→Prop}{s:Shared}{tg:Expr}{it:Addr}{u:Value}{o:Obj}{n:String}{vs:Array Value}{Q:Unit→Shared→Prop}(ho:s.heap.get? it=some o)(hc:o.cls=.type n)(hd:o.data=.fields vs)(hn:["enumerate","zip","dict_itemiterator","dict_reverseitemiterator","odict_iterator","itertools.zip_longest","itertools.pairwise"].contains n=false)(hQ:Q () s):wpAny M A (letOwnedTupleGo tg (.ref it) u) Q E s:=by
 unfold letOwnedTupleGo;cases tg<;>first
  |exact wpAny_pure hQ
  | (cases u<;>first
    |exact wpAny_pure hQ
    | (refine wpAny_bind (wpAny_load ho ?_)
       rw[hc,hd];show wpAny M A (if (["enumerate","zip","dict_itemiterator","dict_reverseitemiterator","odict_iterator","itertools.zip_longest","itertools.pairwise"].contains n&&vs[0]?==some (rawInt _))=true then _ else _) Q E s
       rw[if_neg (by intro h;rw[hn,Bool.false_and]at h;cases h)];exact wpAny_pure hQ))
def Itl(K:PySem.W.Frag)(a:Addr):It :=
 ⟨λi H=>∃xs x,SqL K H a xs∧xs[i]?=some x,λi H x H'=>H'=H∧∀xs,SqL K H a xs→xs[i]?=some x,λi H=>∃xs,SqL K H a xs∧xs.length≤i⟩
def Itt(K:PySem.W.Frag)(a:Addr):It :=
 ⟨λi H=>∃xs x,SqT K H a xs∧xs[i]?=some x,λi H x H'=>H'=H∧∀xs,SqT K H a xs→xs[i]?=some x,λi H=>∃xs,SqT K H a xs∧xs.length≤i⟩
def Itr(lo:Int)(n:Nat):It:=⟨λi _=>i<n,λi H x H'=>H'=H∧x=.int (lo+i),λi _=>n≤i⟩
theorem ny{P:Program}{w:World}{K:PySem.W.Frag}{tg:Expr}(a it:Addr):Turn P w K tg (Itl K a) [it] it (λi h=>h.IsListIter it a i) where
 mem:=by simp
 obj:=λi h st b hb=>by
  have e:b=it:=by simpa using hb
  subst e;obtain⟨o,e,c,d⟩:=st;exact⟨o,e,λv z=>by rw[d]at z;cases z⟩
 keep:=λi h h' st k=>st.at λo e=>k it (by simp) o e
 item:=by
  intro X hP hw hK hc i pins s σ H E I hf st hg;subst hP hw hK;obtain⟨xs,x,hq,hx⟩:=hg;obtain⟨its,rv,p,hz⟩:=I.list hq;obtain⟨u,hu,ru⟩:=rv.get hx;obtain⟨f0,f1,f2,f3,f4,f5⟩:=hf it (by simp);refine wpAny_pyNext_list_item st p.isList (x:=u) (by simpa using hu) λh' st' sb=>?_;have I1:Inv X pins σ H {s with heap:=h'}:=I.turned (t':=s.toks) (λb o hb e=>(sb.2 b hb).trans e) f0 f1 f3 f4 f5
  obtain⟨o,e,c,d⟩:=id st';exact⟨u,rfl,lT (s:={s with heap:=h'}) e c d (by decide) ⟨x,H,I1,ru,⟨rfl,λys hy=>by rw[I.list_inj hy hq];exact hx⟩,st',λb hb=>(hf b hb).1⟩⟩
 done:=by
  intro X hP hw hK hc i pins s σ H E I hf st hg;subst hP hw hK;obtain⟨xs,hq,hx⟩:=hg;obtain⟨its,rv,p,hz⟩:=I.list hq;obtain⟨f0,f1,f2,f3,f4,f5⟩:=hf it (by simp);have hl:=rv.length;exact wpAny_pyNext_list_end (I.ok.hd hc) st p.isList (by simp;omega) λh' eb=>⟨rfl,I.turned (t':=s.toks) (λb o hb e=>eb b o hb e) f0 f1 f3 f4 f5⟩
 self:=λ_ _ _ _ _ st h=>wpAny_pyIter_listiter st h
theorem lm{P:Program}{w:World}{K:PySem.W.Frag}{tg:Expr}(a it:Addr):Turn P w K tg (Itt K a) [it] it (λi h=>h.IsTupleIter it a i) where
 mem:=by simp
 obj:=λi h st b hb=>by
  have e:b=it:=by simpa using hb
  subst e;obtain⟨o,e,c,d⟩:=st;exact⟨o,e,λv z=>by rw[d]at z;cases z⟩
 keep:=λi h h' st k=>st.at λo e=>k it (by simp) o e
 item:=by
  intro X hP hw hK hc i pins s σ H E I hf st hg;subst hP hw hK;obtain⟨xs,x,hq,hx⟩:=hg;obtain⟨its,rv,p,hz⟩:=I.tuple hq;obtain⟨u,hu,ru⟩:=rv.get hx;obtain⟨f0,f1,f2,f3,f4,f5⟩:=hf it (by simp);refine wpAny_pyNext_tuple_item st (show s.heap.IsTuple a its.toArray from p) (x:=u) (by simpa using hu) λh' st' sb=>?_;have I1:Inv X pins σ H {s with heap:=h'}:=I.turned (t':=s.toks) (λb o hb e=>(sb.2 b hb).trans e) f0 f1 f3 f4 f5
  obtain⟨o,e,c,d⟩:=id st';exact⟨u,rfl,lT (s:={s with heap:=h'}) e c d (by decide) ⟨x,H,I1,ru,⟨rfl,λys hy=>by rw[I.tuple_inj hy hq];exact hx⟩,st',λb hb=>(hf b hb).1⟩⟩
 done:=by
  intro X hP hw hK hc i pins s σ H E I hf st hg;subst hP hw hK;obtain⟨xs,hq,hx⟩:=hg;obtain⟨its,rv,p,hz⟩:=I.tuple hq;obtain⟨f0,f1,f2,f3,f4,f5⟩:=hf it (by simp);have hl:=rv.length;exact wpAny_pyNext_tuple_end (I.ok.hd hc) st (show s.heap.IsTuple a its.toArray from p) (by simp;omega) λh' eb=>⟨rfl,I.turned (t':=s.toks) (λb o hb e=>eb b o hb e) f0 f1 f3 f4 f5⟩
 self:=λ_ _ _ _ _ st h=>wpAny_pyIter_tupleiter st h
theorem ln{P:Program}{w:World}{K:PySem.W.Frag}{tg:Expr}(it:Addr)(lo:Int)(n:Nat):Turn P w K tg (Itr lo n) [it] it (λi h=>IsRangeIter h it (lo+(i:Nat)*1) ((n:Int)-(i:Nat)) 1) where
 mem:=by simp
 obj:=λi h st b hb=>by
  have e:b=it:=by simpa using hb
  subst e;exact⟨_,st,λv z=>by
   have z':Data.fields _=Data.cell v:=z;cases z'⟩
 keep:=λi h h' st k=>k it (by simp) _ st
 item:=by
  intro X hP hw hK hc i pins s σ H E I hf st hg;subst hP hw hK;obtain⟨f0,f1,f2,f3,f4,f5⟩:=hf it (by simp);have W:=Walks.range (prog:=X.prog) (w:=X.w) (I.ok.hd hc) it lo 1 n;refine W.item i s _ _ hg st λv h' tk hv st' kk=>?_;obtain⟨t,rfl⟩:=hv;have I1:Inv X pins σ H {s with heap:=h',toks:=tk}:=I.turned (λb o hb e=>kk b o (by simpa using hb) e) f0 f1 f3 f4 f5
  refine⟨_,rfl,lT (s:={s with heap:=h',toks:=tk}) (n:="range_iterator") st' rfl rfl (by decide) ⟨.int (lo+i),H,I1,⟨t,?_⟩,⟨rfl,rfl⟩,st',λb hb=>(hf b hb).1⟩⟩;rw[Int.mul_one]
 done:=by
  intro X hP hw hK hc i pins s σ H E I hf st hg;subst hP hw hK;obtain⟨f0,f1,f2,f3,f4,f5⟩:=hf it (by simp);exact wpAny_pyNext_range_end (I.ok.hd hc) st (by have:n≤i:=hg;omega) λh' eb=>⟨rfl,I.turned (t':=s.toks) (λb o hb e=>eb b o hb e) f0 f1 f3 f4 f5⟩
 self:=λ_ _ _ _ _ st h=>wpAny_pyIter_rangeiter st h
section
variable{X:Cx}{tg:Expr}
def rR(K:PySem.W.Frag)(tl:TE):TI:=λσ H R=>tl σ H λx H1=>∃a,x=.ref a∧(∃xs,SqL K H1 a xs)∧R (Itl K a) H1
def vp(K:PySem.W.Frag)(tl:TE):TI:=λσ H R=>tl σ H λx H1=>∃a,x=.ref a∧(∃xs,SqT K H1 a xs)∧R (Itt K a) H1
theorem aM{l:Expr}{tl:TE}(hl:PE X l tl):PI X tg l (rR X.K tl):=by
 intro pins s σ H R I h;refine thn (hl pins s σ H _ I h) λv s1 hpt=>?_;obtain⟨x,H1,I1,r1,q1⟩:=hpt;obtain⟨a,e,⟨xs,hq⟩,q⟩:=q1;subst e;cases r1;obtain⟨its,rv,p,hz⟩:=I1.list hq;refine wpAny_pyIter_list p.isList ?_;refine⟨s1.heap.objs.size,[s1.heap.objs.size],_,_,H1,rfl,I1.kept (t':=s1.toks) λb o e=>get?_push_of_some _ e,ny a _,⟨_,get?_push_size _ rfl,rfl,rfl⟩,λb hb=>?_,q⟩;have e:b=s1.heap.objs.size:=by simpa using hb
 subst e;exact I1.fpOk (le_refl _) (I1.hok.fresh (le_refl _))
theorem cE{l:Expr}{tl:TE}(hl:PE X l tl):PI X tg l (vp X.K tl):=by
 intro pins s σ H R I h;refine thn (hl pins s σ H _ I h) λv s1 hpt=>?_;obtain⟨x,H1,I1,r1,q1⟩:=hpt;obtain⟨a,e,⟨xs,hq⟩,q⟩:=q1;subst e;cases r1;obtain⟨its,rv,p,hz⟩:=I1.tuple hq;refine wpAny_pyIter_tuple (show s1.heap.IsTuple a its.toArray from p) ?_;refine⟨s1.heap.objs.size,[s1.heap.objs.size],_,_,H1,rfl,I1.kept (t':=s1.toks) λb o e=>get?_push_of_some _ e,lm a _,⟨_,get?_push_size _ rfl,rfl,rfl⟩,λb hb=>?_,q⟩;have e:b=s1.heap.objs.size:=by simpa using hb
 subst e;exact I1.fpOk (le_refl _) (I1.hok.fresh (le_refl _))
theorem oE{pins:List (Addr×Obj)}{σ:St}{H:Hp}{s:Shared}{R:It→Hp→Prop}{E:Value→Shared→Prop}{lo hi:Int}{t u v:Tok}{tk:Nat}(I:Inv X pins σ H s)(h1:-(2 ^ 62)≤lo)(h2:lo<2 ^ 62)(h3:-(2 ^ 62)≤hi)(h4:hi<2 ^ 62)(q:R (Itr lo (hi-lo).toNat) H):wpAny (model X.prog X.w) X.A (pyIter (.ref s.heap.objs.size)) (PIE X pins σ tg R) E {s with heap:=s.heap.push {cls:=.type "range",data:=.fields #[.int lo t,.int hi u,.int 1 v]},toks:=tk}:=by
 refine wpAny_pyIter_range (IsRange.new ..) (small_one h1 h2 h3 h4) ?_;have I1:Inv X pins σ H {s with heap:=s.heap.push {cls:=.type "range",data:=.fields #[.int lo t,.int hi u,.int 1 v]},toks:=tk}:=I.kept λb o e=>get?_push_of_some _ e
 refine⟨(s.heap.push {cls:=.type "range",data:=.fields #[.int lo t,.int hi u,.int 1 v]}).objs.size,[(s.heap.push {cls:=.type "range",data:=.fields #[.int lo t,.int hi u,.int 1 v]}).objs.size],_,_,H,rfl,
  I1.kept (t':=tk) λb o e=>get?_push_of_some _ e,ln _ lo (hi-lo).toNat,?_,λb hb=>?_,q⟩
 ·have e1:lo+((0:Nat):Int)*1=lo:=by simp
  have e2:(((hi-lo).toNat:Nat):Int)-((0:Nat):Int)=Builtin.Range.rangeSize lo hi 1:=by rw[rangeSize_one];split<;>omega
  show IsRangeIter _ _ (lo+((0:Nat):Int)*1) ((((hi-lo).toNat:Nat):Int)-((0:Nat):Int)) 1;rw[e1,e2];exact get?_push_size _ rfl
 ·have e:b=(s.heap.push {cls:=.type "range",data:=.fields #[.int lo t,.int hi u,.int 1 v]}).objs.size:=by simpa using hb
  subst e;exact I1.fpOk (le_refl _) (I1.hok.fresh (le_refl _))
def uB(ta:TA):TI:=λσ H R=>ta σ H λvs H1=>∃j:Int,vs=[.int j]∧-(2 ^ 62)≤j∧j<2 ^ 62∧R (Itr 0 j.toNat) H1
theorem nz{a:Expr}{ta:TA}{p pos:Pos}(hg:Gl X "range")(hm:X.mg "range"=none)(ha:PA X [a] ta)(hs:starEach [a] X.env=[(false,eval a X.env)]:=by rfl):PI X tg (.Call (.Name "range" p) [a] [] pos) (uB ta):=by
 intro pins s σ H R I h;refine Call_ (fg I hg hm boot_range (PyProof.Rows.callWith_type1 (thn (ha pos pins s σ H _ I h) λus s1 ⟨vs,H1,I1,r1,q1⟩=>?_) hs rfl));obtain⟨j,e,q1,q2,q⟩:=q1;subst e;cases r1 with
 |cons r rr =>
  cases rr;obtain⟨t,rfl⟩:=r;exact call_range_1 (oE I1 (by omega) (by omega) q1 q2 (by simpa using q))
def vq(wi:TI)(g:TG)(tb:TS):TS:=λD σ H=>wi σ H λJ H1=>∃W:Nat→Nat→St→Hp→Prop,(∃m,W 0 m σ H1)∧∀i m σ H,W i m σ H →
 (J.stop i H∧D.nx σ H)∨(J.go i H∧∃N:St→Hp→Prop,(∀σ' H',N σ' H'→∃m',m'<m∧W (i+1) m' σ' H')∧∀x H',J.yld i H x H'→g x σ H' λσ2 H2=>tb {D with nx:=N,ct:=N,bk:=D.nx} σ2 H2)
def jb(fp:List Addr)(h:Heap):List (Addr×Obj):=fp.filterMap λb=>(h.get? b).map λo=>(b,o)
theorem aC{fp:List Addr}{h:Heap}{b:Addr}{o:Obj}(hb:b∈fp)(e:h.get? b=some o):(b,o)∈jb fp h:=mem_filterMap.mpr ⟨b,hb,by rw[e];rfl⟩
theorem nA{fp:List Addr}{h:Heap}{p:Addr×Obj}(hp:p∈jb fp h):p.1∈fp∧h.get? p.1=some p.2:=by
 obtain⟨b,hb,e⟩:=mem_filterMap.mp hp;cases q:h.get? b with
 |none=>rw[q]at e;cases e
 |some o =>
  rw[q]at e;have e':(b,o)=p:=Option.some.inj e;subst e';exact⟨hb,q⟩
theorem Inv.pinned{pins:List (Addr×Obj)}{σ:St}{H:Hp}{s:Shared}{fp:List Addr}(I:Inv X pins σ H s)(hf:∀b∈fp,cy X pins H b)(ho:∀b∈fp,∃o,s.heap.get? b=some o∧∀v,o.data≠.cell v):Inv X (pins++jb fp s.heap) σ H s :=
 I.pins_of λp hp=>(mem_append.mp hp).elim (λz=>I.pin p (mem_append_right _ z)) λz=>by
  obtain⟨hb,e⟩:=nA z;obtain⟨f0,f1,f2,_⟩:=hf p.1 hb;obtain⟨o,e',d⟩:=ho p.1 hb;rw[e]at e';cases e';exact⟨e,f0,f1,f2,d⟩
theorem Inv.unpinned{pins pl:List (Addr×Obj)}{σ:St}{H:Hp}{s:Shared}(I:Inv X (pins++pl) σ H s):Inv X pins σ H s:=I.pins_of λp hp=>I.pin p (mem_append_right _ (mem_append_left _ hp))
theorem cR{iter:Expr}{body:List Stmt}{wi:TI}{g:TG}{tb:TS}{pos:Pos}(hp:PassesOwn (model X.prog X.w) X.A X.env X.xe)(hc:X.calm=true)(hi:PI X tg iter wi)(hg:PG X tg g)(hb:PSs X body tb)(hs:∀x,foldedSetIterable iter X.env x=pure x:=by intro _;rfl):PS X (.For tg iter body [] pos) (vq wi g tb):=by
 intro pins s σ H D I h;refine wpAny_For (thn (hi pins s σ H _ I h) λv s1 h1=>thn h1 λitv s2 h2=>?_) hs;obtain⟨it,fp,tn,J,H2,e,I2,T,st2,f2,W,⟨m0,w0⟩,turn⟩:=h2;subst e;have stat:∀{H':Hp},(∀b∈fp,H' b=none)→∀b∈fp,cy X pins H' b:=λhn b hb=>⟨hn b hb,(f2 b hb).2⟩;refine codeAny_forLoop_any (λn s'=>∃i σ' H',Inv X pins σ' H' s'∧tn i s'.heap∧(∀b∈fp,H' b=none)∧W i n σ' H') ?_ m0 ⟨0,σ,H2,I2,st2,λb hb=>(f2 b hb).1,w0⟩;rintro n s3 ⟨i,σ3,H3,I3,st3,fr3,w3⟩;rcases turn i n σ3 H3 w3 with⟨stop,qn⟩|⟨go,N,hN,step⟩
 ·refine wpAny_passesOwn hp (thn (T.done X rfl rfl rfl hc i pins s3 σ3 H3 X.xe I3 (stat fr3) st3 stop) λr s4 hpt=>?_);obtain⟨hr,I4⟩:=hpt;subst hr;exact wpAny_execs_nil ⟨σ3,H3,I4,qn⟩
 ·refine wpAny_passesOwn hp (thn (T.item X rfl rfl rfl hc i pins s3 σ3 H3 X.xe I3 (stat fr3) st3 go) λr s4 hpt=>?_);obtain⟨u,hr,h4⟩:=hpt;subst hr;refine wpAny_passesOwn hp (thn h4 λ_ s5 hpt=>?_);obtain⟨x,H5,I5,r5,y5,st5,fr5⟩:=hpt;have I5':=I5.pinned (stat fr5) (T.obj _ _ st5);refine wpAny_passesOwn hp (thn (hg _ s5 σ3 H5 x u _ I5' r5 (step x H5 y5)) λ_ s6 hpt=>?_);obtain⟨σ6,H6,I6,q6⟩:=hpt;refine wpAny_passesOwn hp (thn (hb _ s6 σ6 H6 _ I6 q6) λf s7 q7=>?_);have again:∀{σ7:St}{H7:Hp},Inv X (pins++jb fp s5.heap) σ7 H7 s7→N σ7 H7→∃m,m<n∧∃i σ' H',Inv X pins σ' H' s7∧tn i s7.heap∧(∀b∈fp,H' b=none)∧W i m σ' H':=λ{σ7 H7} I7 n7=>by
   obtain⟨m',hm,w7⟩:=hN σ7 H7 n7;refine⟨m',hm,i+1,σ7,H7,I7.unpinned,T.keep _ _ _ st5 λb hb o e=>(I7.pin (b,o) (mem_append_right _ (mem_append_right _ (aC hb e)))).1,λb hb=>?_,w7⟩;obtain⟨o,e,d⟩:=T.obj _ _ st5 b hb;exact(I7.pin (b,o) (mem_append_right _ (mem_append_right _ (aC hb e)))).2.1
  cases f with
  |next=>obtain⟨σ7,H7,I7,n7⟩:=q7;exact again I7 n7
  |cont=>obtain⟨σ7,H7,I7,n7⟩:=q7;exact again I7 n7
  |brk=>obtain⟨σ7,H7,I7,q7⟩:=q7;exact⟨σ7,H7,I7.unpinned,q7⟩
  |ret v=>obtain⟨x7,σ7,H7,I7,r7,q7⟩:=q7;exact⟨x7,σ7,H7,I7.unpinned,r7,q7⟩
end
theorem gB{K:PySem.W.Frag}{a:Addr}{xs:List V}{g:TG}{tb:TS}{D:Ends}{σ:St}{H:Hp}(Pv:Nat→St→Hp→Prop)(h0:Pv 0 σ H)(hl:∀i σ H,i≤xs.length→Pv i σ H→SqL K H a xs)(hs:∀i x σ H,xs[i]?=some x→Pv i σ H→g x σ H λσ2 H2=>tb {D with nx:=Pv (i+1),ct:=Pv (i+1),bk:=D.nx} σ2 H2)(hd:∀σ H,Pv xs.length σ H→D.nx σ H):
  ∃W:Nat→Nat→St→Hp→Prop,(∃m,W 0 m σ H)∧∀i m σ H,W i m σ H →
   ((Itl K a).stop i H∧D.nx σ H)∨((Itl K a).go i H∧∃N:St→Hp→Prop,(∀σ' H',N σ' H'→∃m',m'<m∧W (i+1) m' σ' H')∧∀x H',(Itl K a).yld i H x H'→g x σ H' λσ2 H2=>tb {D with nx:=N,ct:=N,bk:=D.nx} σ2 H2):=by
 refine⟨λi m σ H=>m=xs.length-i∧i≤xs.length∧Pv i σ H,⟨xs.length,by simp,zero_le _,h0⟩,?_⟩;rintro i m σ H ⟨rfl,hi,p⟩;have q:=hl i σ H hi p
 by_cases hlt:i<xs.length
 ·refine .inr ⟨⟨xs,xs[i],q,by simp[hlt]⟩,Pv (i+1),λσ' H' p'=>⟨xs.length-(i+1),by omega,rfl,hlt,p'⟩,λx H' y=>?_⟩;obtain⟨e,y⟩:=y;subst e;exact hs i x σ _ (y xs q) p
 ·have e:i=xs.length:=by omega
  subst e;exact .inl ⟨⟨xs,q,le_refl _⟩,hd σ H p⟩
theorem gg{K:PySem.W.Frag}{a:Addr}{xs:List V}{g:TG}{tb:TS}{D:Ends}{σ:St}{H:Hp}(Pv:Nat→St→Hp→Prop)(h0:Pv 0 σ H)(hl:∀i σ H,i≤xs.length→Pv i σ H→SqT K H a xs)(hs:∀i x σ H,xs[i]?=some x→Pv i σ H→g x σ H λσ2 H2=>tb {D with nx:=Pv (i+1),ct:=Pv (i+1),bk:=D.nx} σ2 H2)(hd:∀σ H,Pv xs.length σ H→D.nx σ H):
  ∃W:Nat→Nat→St→Hp→Prop,(∃m,W 0 m σ H)∧∀i m σ H,W i m σ H →
   ((Itt K a).stop i H∧D.nx σ H)∨((Itt K a).go i H∧∃N:St→Hp→Prop,(∀σ' H',N σ' H'→∃m',m'<m∧W (i+1) m' σ' H')∧∀x H',(Itt K a).yld i H x H'→g x σ H' λσ2 H2=>tb {D with nx:=N,ct:=N,bk:=D.nx} σ2 H2):=by
 refine⟨λi m σ H=>m=xs.length-i∧i≤xs.length∧Pv i σ H,⟨xs.length,by simp,zero_le _,h0⟩,?_⟩;rintro i m σ H ⟨rfl,hi,p⟩;have q:=hl i σ H hi p
 by_cases hlt:i<xs.length
 ·refine .inr ⟨⟨xs,xs[i],q,by simp[hlt]⟩,Pv (i+1),λσ' H' p'=>⟨xs.length-(i+1),by omega,rfl,hlt,p'⟩,λx H' y=>?_⟩;obtain⟨e,y⟩:=y;subst e;exact hs i x σ _ (y xs q) p
 ·have e:i=xs.length:=by omega
  subst e;exact .inl ⟨⟨xs,q,le_refl _⟩,hd σ H p⟩
theorem nB{lo:Int}{n:Nat}{g:TG}{tb:TS}{D:Ends}{σ:St}{H:Hp}(Pv:Nat→St→Hp→Prop)(h0:Pv 0 σ H)(hs:∀i σ H,i<n→Pv i σ H→g (.int (lo+i)) σ H λσ2 H2=>tb {D with nx:=Pv (i+1),ct:=Pv (i+1),bk:=D.nx} σ2 H2)(hd:∀σ H,Pv n σ H→D.nx σ H):
  ∃W:Nat→Nat→St→Hp→Prop,(∃m,W 0 m σ H)∧∀i m σ H,W i m σ H →
   ((Itr lo n).stop i H∧D.nx σ H)∨((Itr lo n).go i H∧∃N:St→Hp→Prop,(∀σ' H',N σ' H'→∃m',m'<m∧W (i+1) m' σ' H')∧∀x H',(Itr lo n).yld i H x H'→g x σ H' λσ2 H2=>tb {D with nx:=N,ct:=N,bk:=D.nx} σ2 H2):=by
 refine⟨λi m σ H=>m=n-i∧i≤n∧Pv i σ H,⟨n,by simp,zero_le _,h0⟩,?_⟩;rintro i m σ H ⟨rfl,hi,p⟩
 by_cases hlt:i<n
 ·refine .inr ⟨hlt,Pv (i+1),λσ' H' p'=>⟨n-(i+1),by omega,rfl,hlt,p'⟩,λx H' y=>?_⟩;obtain⟨e,y⟩:=y;subst e y;exact hs i σ _ hlt p
 ·have e:i=n:=by omega
  subst e;exact .inl ⟨le_refl _,hd σ H p⟩
theorem gC{c:TT}{tb:TS}{D:Ends}{σ:St}{H:Hp}(Pv:St→Hp→Prop)(μ:St→Hp→Nat)(h0:Pv σ H)(hs:∀σ H,Pv σ H→c σ H λb H1=>if b=true then tb {D with nx:=λσ' H'=>Pv σ' H'∧μ σ' H'<μ σ H,ct:=λσ' H'=>Pv σ' H'∧μ σ' H'<μ σ H,bk:=D.nx} σ H1 else D.nx σ H1)(mono:∀σ H Q Q',(∀b H1,Q b H1→Q' b H1)→c σ H Q→c σ H Q'):oD c tb D σ H:=by
 refine⟨λm σ H=>m=μ σ H∧Pv σ H,⟨_,rfl,h0⟩,?_⟩;rintro m σ H ⟨rfl,p⟩;refine mono σ H _ _ (λb H1 q=>?_) (hs σ H p);cases b with
 |true=>exact⟨_,λσ' H' ⟨p',l⟩=>⟨_,l,rfl,p'⟩,q⟩
 |false=>exact q
abbrev R2:=V→V→Hp→VK→Prop
def OpR(X:Cx)(f:Value→Value→Sem Value)(r:R2):Prop :=
 ∀(pins:List (Addr×Obj))(s:Shared)(σ:St)(H:Hp)(x y:V)(v u:Value)(Q:VK),Inv X pins σ H s→aw x v→aw y u→r x y H Q →
  wpAny (model X.prog X.w) X.A (f v u) (EP X pins σ Q) X.xe s
def bG(X:Cx)(f:Value)(r:List V→Hp→VK→Prop):Prop :=
 ∀(pins:List (Addr×Obj))(s:Shared)(σ:St)(H:Hp)(xs:List V)(us:List Value)(Q:VK),Inv X pins σ H s→ap xs us→r xs H Q →
  wpAny (model X.prog X.w) X.A (call f us) (EP X pins σ Q) X.xe s
def vt(X:Cx)(r:V→Hp→(Bool→Hp→Prop)→Prop):Prop :=
 ∀(pins:List (Addr×Obj))(s:Shared)(σ:St)(H:Hp)(x:V)(v:Value)(Q:Bool→Hp→Prop),Inv X pins σ H s→aw x v→r x H Q →
  wpAny (model X.prog X.w) X.A (truthy v) (TP X pins σ Q) X.xe s
def tOp(r:R2)(ta tb:TE):TE:=λσ H Q=>ta σ H λx H1=>tb σ H1 λy H2=>r x y H2 Q
def rI(C:Int→Int→Prop)(g:Int→Int→V):R2:=λx y H Q=>∃i j,x=.int i∧y=.int j∧C i j∧Q (g i j) H
def rI0(g:Int→Int→V):R2:=λx y H Q=>∃i j,x=.int i∧y=.int j∧Q (g i j) H
section
variable{X:Cx}{a b c:Expr}{ta tb tc:TE}{pos:Pos}
theorem sw(ha:PE X a ta)(hb:PE X b tb){pins:List (Addr×Obj)}{s:Shared}{σ:St}{H:Hp}{R:V→V→Hp→Prop}(I:Inv X pins σ H s)(h:ta σ H λx H1=>tb σ H1 λy H2=>R x y H2){Q:Value→Shared→Prop}{f:Value→Value→Sem Value}(hf:∀v u s2 x y H2,Inv X pins σ H2 s2→aw x v→aw y u→R x y H2→wpAny (model X.prog X.w) X.A (f v u) Q X.xe s2):
  wpAny (model X.prog X.w) X.A (eval a X.env) (λv s₁=>wpAny (model X.prog X.w) X.A (eval b X.env) (λu s₂=>wpAny (model X.prog X.w) X.A (f v u) Q X.xe s₂) X.xe s₁) X.xe s:=by
 refine thn (ha pins s σ H _ I h) λv s1 hpt=>?_;obtain⟨x,H1,I1,r1,q1⟩:=hpt;refine thn (hb pins s1 σ H1 _ I1 q1) λu s2 hpt=>?_;obtain⟨y,H2,I2,r2,q2⟩:=hpt;exact hf v u s2 x y H2 I2 r1 r2 q2
theorem aN{op:Operator}{r:R2}(ho:OpR X (binaryOp op) r)(ha:PE X a ta)(hb:PE X b tb):PE X (.BinOp a op b pos) (tOp r ta tb):=by
 intro pins s σ H Q I h;exact wpAny_BinOp (sw ha hb I h λv u s2 x y H2 I2 rx ry q=>ho pins s2 σ H2 x y v u Q I2 rx ry q)
theorem opI{f:Value→Value→Sem Value}{C:Int→Int→Prop}{g:Int→Int→Int}(rule:∀(i j:Int) (t u:Tok) (s:Shared) (Q:Value→Shared→Prop) (E:Value→Shared→Prop),C i j→Q (.int (g i j) s.toks) {s with toks:=s.toks+1}→wpAny (model X.prog X.w) X.A (f (.int i t) (.int j u)) Q E s):
  OpR X f (rI C λi j=>.int (g i j)):=by
 intro pins s σ H x y v u Q I rx ry h;obtain⟨i,j,rfl,rfl,hc,q⟩:=h;obtain⟨t,rfl⟩:=rx;obtain⟨t',rfl⟩:=ry;exact rule i j t t' s _ _ hc ⟨.int (g i j),H,I.tok _,⟨_,rfl⟩,q⟩
theorem vw{f:Value→Value→Sem Value}{g:Int→Int→Int}(rule:∀(i j:Int) (t u:Tok) (s:Shared) (Q:Value→Shared→Prop) (E:Value→Shared→Prop),Q (.int (g i j) s.toks) {s with toks:=s.toks+1}→wpAny (model X.prog X.w) X.A (f (.int i t) (.int j u)) Q E s):
  OpR X f (rI0 λi j=>.int (g i j)):=by
 intro pins s σ H x y v u Q I rx ry h;obtain⟨i,j,rfl,rfl,q⟩:=h;obtain⟨t,rfl⟩:=rx;obtain⟨t',rfl⟩:=ry;exact rule i j t t' s _ _ ⟨.int (g i j),H,I.tok _,⟨_,rfl⟩,q⟩
theorem sx{f:Value→Value→Sem Value}{g:Int→Int→Bool}(rule:∀(i j:Int) (t u:Tok) (s:Shared) (Q:Value→Shared→Prop) (E:Value→Shared→Prop),Q (.bool (g i j)) s→wpAny (model X.prog X.w) X.A (f (.int i t) (.int j u)) Q E s):
  OpR X f (rI0 λi j=>.bl (g i j)):=by
 intro pins s σ H x y v u Q I rx ry h;obtain⟨i,j,rfl,rfl,q⟩:=h;obtain⟨t,rfl⟩:=rx;obtain⟨t',rfl⟩:=ry;exact rule i j t t' s _ _ ⟨.bl (g i j),H,I,rfl,q⟩
def vx(i j:Int):Prop:=0<j∧j<1073741824
def sy(i j:Int):Prop:=(-(2 ^ 64)<i∧i<2 ^ 64)∨(-(2 ^ 64)<j∧j<2 ^ 64)
theorem sy.ok{i j:Int}(h:sy i j):IntMulOk i j:=by
 rcases h with⟨h1,h2⟩|⟨h1,h2⟩
 ·exact .of_left (intBits_le_64 h1 h2)
 ·exact .of_right (intBits_le_64 h1 h2)
theorem bj:OpR X (binaryOp .Add) (rI0 λi j=>.int (i+j)):=vw λ_ _ _ _ _ _ _ q=>add_int q
theorem cS:OpR X (binaryOp .Mult) (rI sy λi j=>.int (i*j)):=opI λ_ _ _ _ _ _ _ hc q=>mul_int q hc.ok
theorem qy:OpR X (binaryOp .FloorDiv) (rI vx λi j=>.int (i / j)):=opI λi j _ _ _ _ _ hc q=>by
 have h1:(0:Int)<j:=hc.1;have h2:j<1073741824:=hc.2;exact floordiv_int (by omega) (by rw[Int.fdiv_eq_ediv_of_nonneg i (by omega)];exact q) (.inl (PyProof.noPylong_small (by omega)))
theorem jc:OpR X (binaryOp .Mod) (rI (λ_ j=>0<j) λi j=>.int (i % j)):=opI λi j _ _ _ _ _ hc q=>by
 have h1:(0:Int)<j:=hc;exact mod_int' (by omega) (by rw[Int.fmod_eq_emod_of_nonneg i (by omega)];exact q)
end
def uC:V→V→Bool
 |.non,.non=>true | .non,.int _=>true | .int _,.non=>true | .non,.bl _=>true | .bl _,.non=>true | .non,.str _=>true | .str _,.non=>true
 |.int _,.int _=>true | .bl _,.bl _=>true | .str _,.str _=>true | .byt _,.byt _=>true
 |.int _,.str _=>true | .str _,.int _=>true | .bl _,.str _=>true | .str _,.bl _=>true
 |_,_=>false
def rEq:R2:=λx y H Q=>uC x y=true∧Q (.bl (decide (x=y))) H
def rNe:R2:=λx y H Q=>uC x y=true∧Q (.bl (!decide (x=y))) H
theorem lU{i j:Int}:decide (V.int i=V.int j)=(i==j):=by
 rw[Bool.eq_iff_iff];simp
theorem oF{i j:Bool}:decide (V.bl i=V.bl j)=(i==j):=by
 rw[Bool.eq_iff_iff];simp
theorem lV{i j:Str}:decide (V.str i=V.str j)=(i==j):=by
 rw[Bool.eq_iff_iff];simp
theorem lW{i j:Array UInt8}:decide (V.byt i=V.byt j)=(i.toList==j.toList):=by
 rw[Bool.eq_iff_iff];cases i;cases j;simp
section
variable{X:Cx}{a b c:Expr}{ta tb tc:TE}{pos:Pos}
theorem aF{pins:List (Addr×Obj)}{σ:St}{H:Hp}{s:Shared}{Q:VK}{k k':Bool}(I:Inv X pins σ H s)(q:Q (.bl k) H)(e:k=k'):EP X pins σ Q (.bool k') s:=by
 subst e;exact⟨.bl k,H,I,rfl,q⟩
theorem gD:OpR X (compareOp .Eq) rEq:=by
 intro pins s σ H x y v u Q I rx ry h;obtain⟨hs,q⟩:=h;cases x with
 |non =>
  cases rx;cases y with
  |non=>cases ry;exact PySem.EqNone.eq_none_none (aF I q (by simp))
  |bl j=>cases ry;exact PySem.EqNone.eq_none_bool (aF I q (by simp))
  |int j=>obtain⟨t',rfl⟩:=ry;exact PySem.EqNone.eq_none_int (aF I q (by simp))
  |str j=>obtain⟨t',rfl⟩:=ry;exact PySem.EqNone.eq_none_str (aF I q (by simp))
  |_=>exact absurd (show false=true from hs) Bool.false_ne_true
 |bl i =>
  cases rx;cases y with
  |non=>cases ry;exact PySem.EqNone.eq_bool_none (aF I q (by simp))
  |bl j=>cases ry;exact eq_bool (aF I q oF)
  |str j=>obtain⟨t',rfl⟩:=ry;exact PySem.EqMixed.eq_bool_str (aF I q (by simp))
  |_=>exact absurd (show false=true from hs) Bool.false_ne_true
 |int i =>
  obtain⟨t,rfl⟩:=rx;cases y with
  |non=>cases ry;exact PySem.EqNone.eq_int_none (aF I q (by simp))
  |int j=>obtain⟨t',rfl⟩:=ry;exact eq_int (aF I q lU)
  |str j=>obtain⟨t',rfl⟩:=ry;exact PySem.EqMixed.eq_int_str (aF I q (by simp))
  |_=>exact absurd (show false=true from hs) Bool.false_ne_true
 |str i =>
  obtain⟨t,rfl⟩:=rx;cases y with
  |non=>cases ry;exact PySem.EqNone.eq_str_none (aF I q (by simp))
  |bl j=>cases ry;exact PySem.EqMixed.eq_str_bool (aF I q (by simp))
  |int j=>obtain⟨t',rfl⟩:=ry;exact PySem.EqMixed.eq_str_int (aF I q (by simp))
  |str j=>obtain⟨t',rfl⟩:=ry;exact eq_str (aF I q lV)
  |_=>exact absurd (show false=true from hs) Bool.false_ne_true
 |byt i =>
  obtain⟨t,rfl⟩:=rx;cases y with
  |byt j=>obtain⟨t',rfl⟩:=ry;exact PySem.W.eq_bytes (aF I q lW)
  |_=>exact absurd (show false=true from hs) Bool.false_ne_true
 |_=>cases y<;>exact absurd (show false=true from hs) Bool.false_ne_true
theorem gE:OpR X (compareOp .NotEq) rNe:=by
 intro pins s σ H x y v u Q I rx ry h;obtain⟨hs,q⟩:=h;cases x with
 |non =>
  cases rx;cases y with
  |non=>cases ry;exact PySem.EqNone.ne_none_none (aF I q (by simp))
  |bl j=>cases ry;exact PySem.EqNone.ne_none_bool (aF I q (by simp))
  |int j=>obtain⟨t',rfl⟩:=ry;exact PySem.EqNone.ne_none_int (aF I q (by simp))
  |str j=>obtain⟨t',rfl⟩:=ry;exact PySem.EqNone.ne_none_str (aF I q (by simp))
  |_=>exact absurd (show false=true from hs) Bool.false_ne_true
 |bl i =>
  cases rx;cases y with
  |non=>cases ry;exact PySem.EqNone.ne_bool_none (aF I q (by simp))
  |bl j=>cases ry;exact ne_bool (aF I q (congrArg not oF))
  |str j=>obtain⟨t',rfl⟩:=ry;exact PySem.EqMixed.ne_bool_str (aF I q (by simp))
  |_=>exact absurd (show false=true from hs) Bool.false_ne_true
 |int i =>
  obtain⟨t,rfl⟩:=rx;cases y with
  |non=>cases ry;exact PySem.EqNone.ne_int_none (aF I q (by simp))
  |int j=>obtain⟨t',rfl⟩:=ry;exact ne_int (aF I q (congrArg not lU))
  |str j=>obtain⟨t',rfl⟩:=ry;exact PySem.EqMixed.ne_int_str (aF I q (by simp))
  |_=>exact absurd (show false=true from hs) Bool.false_ne_true
 |str i =>
  obtain⟨t,rfl⟩:=rx;cases y with
  |non=>cases ry;exact PySem.EqNone.ne_str_none (aF I q (by simp))
  |bl j=>cases ry;exact PySem.EqMixed.ne_str_bool (aF I q (by simp))
  |int j=>obtain⟨t',rfl⟩:=ry;exact PySem.EqMixed.ne_str_int (aF I q (by simp))
  |str j=>obtain⟨t',rfl⟩:=ry;exact ne_str (aF I q (congrArg not lV))
  |_=>exact absurd (show false=true from hs) Bool.false_ne_true
 |byt i =>
  obtain⟨t,rfl⟩:=rx;cases y with
  |byt j=>obtain⟨t',rfl⟩:=ry;exact PySem.W.ne_bytes (aF I q (congrArg not lW))
  |_=>exact absurd (show false=true from hs) Bool.false_ne_true
 |_=>cases y<;>exact absurd (show false=true from hs) Bool.false_ne_true
theorem uD:OpR X (compareOp .Lt) (rI0 λi j=>.bl (decide (i<j))):=sx λ_ _ _ _ _ _ _ q=>lt_int q
theorem lX:OpR X (compareOp .LtE) (rI0 λi j=>.bl (decide (i≤j))):=sx λ_ _ _ _ _ _ _ q=>le_int q
theorem uE:OpR X (compareOp .Gt) (rI0 λi j=>.bl (decide (j<i))):=sx λ_ _ _ _ _ _ _ q=>gt_int q
theorem jd:OpR X (compareOp .Is) (λx y H Q=>y=.non∧Q (.bl (decide (x=.non))) H):=by
 intro pins s σ H x y v u Q I rx ry h;obtain⟨rfl,q⟩:=h;cases ry;refine is_none_gen (aF I q ?_);cases x<;>first
  |(cases rx;rfl)
  |(obtain⟨t,rfl⟩:=rx;rfl)
theorem gh:OpR X (compareOp .IsNot) (λx y H Q=>y=.non∧Q (.bl (!decide (x=.non))) H):=by
 intro pins s σ H x y v u Q I rx ry h;obtain⟨rfl,q⟩:=h;cases ry;refine isnot_none_gen (aF I q ?_);cases x<;>first
  |(cases rx;rfl)
  |(obtain⟨t,rfl⟩:=rx;rfl)
theorem aG(b:Expr){op:CmpOp}(h:op≠.In:=by decide)(h2:op≠.NotIn:=by decide):behindInMarks op b=false:=by
 have e1:(op==CmpOp.In)=false:=by cases op<;>first|rfl|exact absurd rfl h
 have e2:(op==CmpOp.NotIn)=false:=by cases op<;>first|rfl|exact absurd rfl h2
 cases b<;>simp[behindInMarks,e1,e2]
theorem qz{op:CmpOp}{r:R2}(ho:OpR X (compareOp op) r)(ha:PE X a ta)(hb:PE X b tb)(hm:behindInMarks op b=false):PE X (.Compare a [op] [b] pos) (tOp r ta tb):=by
 intro pins s σ H Q I h;exact wpAny_Compare1 (sw ha hb I h λv u s2 x y H2 I2 rx ry q=>ho pins s2 σ H2 x y v u Q I2 rx ry q) hm
def oG(t:TE):TT:=λσ H Q=>t σ H λx H'=>∃k,x=.bl k∧Q k H'
theorem aq{op:CmpOp}{r:R2}(ho:OpR X (compareOp op) r)(ha:PE X a ta)(hb:PE X b tb)(hm:behindInMarks op b=false):PT X (.Compare a [op] [b] pos) (oG (tOp r ta tb)):=by
 intro pins s σ H Q I h;refine wpAny_isTrue_Compare1 (thn (ha pins s σ H _ I h) λv s1 ⟨x,H1,I1,r1,q1⟩=>thn (hb pins s1 σ H1 _ I1 q1) λu s2 ⟨y,H2,I2,r2,q2⟩ =>
  thn (ho pins s2 σ H2 x y v u _ I2 r1 r2 q2) λc s3 ⟨z,H3,I3,r3,k,e,q3⟩=>?_) hm
 subst e;cases r3;exact wpAny_truthy_bool ⟨H3,I3,q3⟩
def sA(r r':R2)(ta tb tc:TE):TE:=λσ H Q=>ta σ H λx H1=>tb σ H1 λy H2=>r x y H2 λz H3=>∃k,z=.bl k ∧
 (if k=true then tc σ H3 λw' H4=>r' y w' H4 Q else Q (.bl false) H3)
theorem oH{op op':CmpOp}{r r':R2}(ho:OpR X (compareOp op) r)(ho':OpR X (compareOp op') r')(ha:PE X a ta)(hb:PE X b tb)(hc:PE X c tc)(hm:lastMarks [op,op'] [b,c]=false:=by with_unfolding_all rfl):PT X (.Compare a [op,op'] [b,c] pos) (oG (sA r r' ta tb tc)):=by
 intro pins s σ H Q I h;refine isTrue_chain (thn (ha pins s σ H _ I h) λv s1 ⟨x,H1,I1,r1,q1⟩=>test_link (thn (hb pins s1 σ H1 _ I1 q1) λu s2 ⟨y,H2,I2,r2,q2⟩ =>
  thn (ho pins s2 σ H2 x y v u _ I2 r1 r2 q2) λd s3 ⟨z,H3,I3,r3,k,e,q3⟩=>?_)) hm
 subst e;cases r3;refine wpAny_truthy_bool ?_;cases k with
 |false =>
  obtain⟨k',e',q'⟩:=q3;cases e';exact ite_ff ⟨H3,I3,q'⟩
 |true =>
  refine ite_tt (test_last (thn (hc pins s3 σ H3 _ I3 q3) λw' s4 ⟨z',H4,I4,r4,q4⟩=>thn (ho' pins s4 σ H4 y z' u w' _ I4 r2 r4 q4) λd' s5 hpt=>?_));obtain⟨z2,H5,I5,r5,k2,e2,q5⟩:=hpt;subst e2;cases r5;exact wpAny_truthy_bool ⟨H5,I5,q5⟩
def uF(K:PySem.W.Frag)(x:V)(H:Hp)(k:Bool):Prop :=
 match x with
 |.non=>k=false
 |.bl b=>k=b
 |.int i=>k=(i != 0)
 |.str y=>y.length≤sizeLine∧k=((y.length:Int) != 0)
 |.byt y=>y.size≤sizeLine∧k=((y.size:Int) != 0)
 |.ref p=>(∃xs,SqL K H p xs∧k = !xs.isEmpty)∨(∃xs,SqT K H p xs∧k = !xs.isEmpty)∨∃kvs,H p=some (.dK kvs)∧k = !kvs.isEmpty
 |_=>False
theorem lp{κ:Type}{kvs:List (κ×V)}{vs:List (κ×Value)}(r:KV kvs vs):(!vs.isEmpty) = !kvs.isEmpty:=by
 cases r<;>rfl
theorem gF{xs:List V}{its:List Value}(r:ap xs its):(!its.toArray.isEmpty) = !xs.isEmpty:=by
 cases r<;>simp
theorem je:(sizeLine:Nat)<2 ^ 63:=by rw[sizeLine_eq];decide
theorem sB:vt X (λx H Q=>∃k,uF X.K x H k∧Q k H):=by
 intro pins s σ H x v Q I rx h;obtain⟨k,e,q⟩:=h;have hl:=je;have hs:sizeLine=16777216:=sizeLine_eq;cases x with
 |non =>
  cases rx;have e':k=false:=e;subst e';exact truthy_none ⟨H,I,q⟩
 |bl b =>
  cases rx;have e':k=b:=e;subst e';exact wpAny_truthy_bool ⟨H,I,q⟩
 |int i =>
  obtain⟨t,rfl⟩:=rx;have e':k=(i != 0):=e;subst e';exact PySem.P.truthy_int ⟨H,I,q⟩
 |str y =>
  obtain⟨t,rfl⟩:=rx;obtain⟨hy,e'⟩:y.length≤sizeLine∧k=((y.length:Int) != 0):=e;subst e';exact PySem.P.truthy_str (by omega) ⟨H,I.tok _,q⟩
 |byt y =>
  obtain⟨t,rfl⟩:=rx;obtain⟨hy,e'⟩:y.size≤sizeLine∧k=((y.size:Int) != 0):=e;subst e';exact PySem.W.truthy_bytes (by omega) ⟨H,I.tok _,q⟩
 |ref p =>
  cases rx;have e':(∃xs,SqL X.K H p xs∧k = !xs.isEmpty)∨(∃xs,SqT X.K H p xs∧k = !xs.isEmpty)∨∃kvs,H p=some (.dK kvs)∧k = !kvs.isEmpty:=e;rcases e' with⟨xs,hx,e'⟩|⟨xs,hx,e'⟩|⟨kvs,hx,e'⟩
  ·subst e';obtain⟨its,r,pl,hz⟩:=I.list hx;have hlen:=r.length;exact wpAny_truthy_list pl.isList (by simp only[size_toArray];omega) ⟨H,I.tok _,by rw[gF r];exact q⟩
  ·subst e';obtain⟨its,r,pl,hz⟩:=I.tuple hx;have hlen:=r.length;exact truthy_tuple pl (by simp only[size_toArray];omega) ⟨H,I.tok _,by rw[gF r];exact q⟩
  ·subst e';obtain⟨hz,hS,vs,r,m⟩:kvs.length≤sizeLine∧(p==sysModules)=false∧∃vs,KV kvs vs∧s.heap.DictOf (ao X.prog X.w) p vs:=I.hok p _ hx;have hlen:kvs.length=vs.length:=Paired.length r;exact wpAny_truthy_dict hS m (by omega) ⟨H,I.tok _,by rw[lp r];exact q⟩
 |_=>exact(show False from e).elim
theorem jM(ha:PE X a ta)(he:∀whole,isTrue a X.env whole=(do let v ← whole;standAt a.pos;holding [v] (truthy v))):
  PT X a (λσ H Q=>ta σ H λx H'=>∃k,uF X.K x H' k∧Q k H'):=by
 intro pins s σ H Q I h;exact isTrue_plain (thn (ha pins s σ H _ I h) λv s1 ⟨x,H1,I1,r1,q1⟩=>sB pins s1 σ H1 x v Q I1 r1 q1) (he _)
theorem cz{x:V}{us:List Value}(r:ap [x] us):∃u,us=[u]∧aw x u:=by
 cases r with
 |cons r1 r2=>cases r2;exact⟨_,rfl,r1⟩
theorem uG{x y:V}{us:List Value}(r:ap [x,y] us):∃u w',us=[u,w']∧aw x u∧aw y w':=by
 cases r with
 |cons r1 r2 =>
  cases r2 with
  |cons r3 r4=>cases r4;exact⟨_,_,rfl,r1,r3⟩
end
section
variable{prog:Program}{w:World}{A:Around}{E:Value→Shared→Prop}{s:Shared}{K:PySem.W.Frag}{x dx C f:Addr}{mA:Str→Option Value}{name:Str}{v:Value}
end
theorem dC.some_of{v:V}{o:Option Value}(r:dC (some v) o):∃u,o=some u∧aw v u:=by
 cases o with
 |none=>exact(show False from r).elim
 |some u=>exact⟨u,rfl,r⟩
theorem dC.none_of{o:Option Value}(r:dC none o):o=none:=by
 cases o with
 |none=>rfl
 |some u=>exact(show False from r).elim
section
variable{P:Program}{w:World}{H H':Hp}{h h':Heap}{a C dx:Addr}{fs fs':List (Str×V)}
end
section
variable{X:Cx}{pins:List (Addr×Obj)}{σ:St}{H:Hp}{s:Shared}{a C dx:Addr}{fs:List (Str×V)}{f:Str}{v:V}{A:Around}{E:Value→Shared→Prop}
end
section
variable{X:Cx}{o e value:Expr}{f:Str}{pos pos' tpos:Pos}{ta tv:TE}
end
section
variable{X:Cx}{pins:List (Addr×Obj)}{σ:St}{H:Hp}{s:Shared}{A:Around}{E:Value→Shared→Prop}{Q:Value→Shared→Prop}{c:Value}{b:Bool}
end
structure Room(k:Nat)(A:Around):Prop where
 hd:A.handled=none
 dp:A.depth+3*k+5<recursionLimit
 un:A.units+16*k+200<cLine
theorem Room.mono{j k:Nat}{A:Around}(r:Room k A)(h:j≤k):Room j A:=⟨r.hd,by have:=r.dp;omega,by have:=r.un;omega⟩
theorem Room.deeper{k:Nat}{A:Around}(r:Room (k+1) A)(env:Env):Room k (A.deeper env) :=
 ⟨r.hd,by have:=r.dp;show A.depth+1+3*k+5<_;omega,by have:=r.un;show A.units+3+16*k+200<_;omega⟩
theorem Room.in1{k:Nat}{A:Around}(r:Room (k+1) A):Room k A.in1 :=
 ⟨r.hd,by have:=r.dp;show A.depth+3*k+5<_;omega,by have:=r.un;show A.units+1+16*k+200<_;omega⟩
theorem Room.depth{k:Nat}{A:Around}(r:Room k A):A.depth<recursionLimit:=by have:=r.dp;omega
theorem Room.units{k:Nat}{A:Around}(r:Room k A):A.units+64<cLine:=by have:=r.un;omega
theorem Room.units0{k:Nat}{A:Around}(r:Room k A):A.units<cLine:=by have:=r.un;omega
def jN:TA:=λ_ H Q=>Q [] H
def dE(ta:TE)(tr:TA):TA:=λσ H Q=>ta σ H λx H1=>tr σ H1 λxs H2=>Q (x::xs) H2
section
variable{X:Cx}{e:Expr}{es:List Expr}{te:TE}{t:TA}{pos:Pos}
theorem ag:PA X [] jN:=λ_ _ _ _ H Q I h=>spliced_nil ⟨[],H,I,.nil,h⟩
theorem aa(ha:PE X e te)(hr:PA X es t)(hs:starEach (e::es) X.env=(false,eval e X.env)::starEach es X.env:=by rfl):PA X (e::es) (dE te t):=by
 intro pos pins s σ H Q I h;rw[hs];show wpAny _ _ (spliced ((false,eval e X.env)::backTo pos (starEach es X.env))) _ _ s;refine spliced_cons (thn (ha pins s σ H _ I h) λu s1 hpt=>?_);obtain⟨x,H1,I1,r1,q1⟩:=hpt;exact thn (hr pos pins s1 σ H1 _ I1 q1) λus s2 ⟨xs,H2,I2,r2,q2⟩=>⟨x::xs,H2,I2,.cons r1 r2,q2⟩
def uH(t:TA):TE:=λσ H Q=>t σ H λxs H1=>xs.length≤sizeLine∧∀p,H1 p=none→Q (.ref p) (upd H1 p (.tup xs))
def vz(t:TA):TE:=λσ H Q=>t σ H λxs H1=>xs.length≤sizeLine∧∀p,H1 p=none→Q (.ref p) (upd H1 p (.lst xs))
theorem aZ{x1}(h:PA X es t):PE X (.Tuple es x1 pos) (uH t):=by
 intro pins s σ H Q I hq;refine wpAny_Tuple_spliced (thn (h pos pins s σ H _ I hq) λus s1 ⟨xs,H1,I1,r,z,q⟩=>⟨by rw[←r.length];exact z,?_⟩);have hf:H1 s1.heap.objs.size=none:=I1.hok.fresh (le_refl _);refine⟨.ref s1.heap.objs.size,upd H1 s1.heap.objs.size (.tup xs),I1.laid (t':=s1.toks) (λb u e=>get?_push_of_some _ e) (le_refl _) ?_,rfl,q _ hf⟩;exact⟨z,us,r,⟨_,get?_push_size _ rfl,rfl,_,rfl⟩⟩
theorem be(h:PA X es t):PE X (.List es pos) (vz t):=by
 intro pins s σ H Q I hq;refine wpAny_List_spliced (thn (h pos pins s σ H _ I hq) λus s1 ⟨xs,H1,I1,r,z,q⟩=>⟨by rw[←r.length];exact z,?_⟩);have hf:H1 s1.heap.objs.size=none:=I1.hok.fresh (le_refl _);refine⟨.ref s1.heap.objs.size,upd H1 s1.heap.objs.size (.lst xs),I1.laid (t':=s1.toks) (λb u e=>get?_push_of_some _ e) (le_refl _) ?_,rfl,q _ hf⟩;exact⟨z,us,0,r,get?_push_size _ rfl⟩
end
abbrev Sp:=List V→Hp→VK→XK→Prop
abbrev CXT:=List Env→Hp→Shared→XK→Value→Shared→Prop
structure Env0(P:Program)(w:World)(K:PySem.W.Frag)(mg:Str→Option Value)(base:Heap)(A:Around)(outer:List Env)(s:Shared)(H:Hp):Prop where
 frames:A.frames=some outer
 mod:Mod K mg base
 bs:∀b o,base.get? b=some o→s.heap.get? b=some o∧H b=none
 bsz:base.objs.size≤s.heap.objs.size
 funs:s.heap.FunFrames base outer
 frf:∀b∈frs outer,H b=none
 hok:HOk P w H s.heap
 bare:AllBare s.gens
def CE(outer:List Env)(P:Program)(w:World)(H:Hp)(s:Shared)(Q:VK)(u:Value)(s':Shared):Prop :=
 ∃v H',s'.os=s.os∧AllBare s'.gens∧Un (frs outer) [] H H' s.heap s'.heap∧HOk P w H' s'.heap∧aw v u∧Q v H'
def CR(CX:CXT)(outer:List Env)(P:Program)(w:World)(H:Hp)(s:Shared)(Q:VK)(E:XK)(r:Result)(s':Shared):Prop :=
 match r with
 |.ok (.ret u)=>CE outer P w H s Q u s'
 |.ok _=>False
 |.error e=>CX outer H s E e s'
structure FnOk(P:Program)(w:World)(K:PySem.W.Frag)(mg:Str→Option Value)(base:Heap)(CX:CXT)(k:Nat)(f:Addr)(fd:FuncData)(ps:List Str)(sp:Sp):Prop where
 len:∀vs H Q E,sp vs H Q E→vs.length=ps.length
 run:∀(A:Around)(outer:List Env)(s:Shared)(H:Hp)(args:Args)(us:List Value)(vs:List V)(Q:VK)(E:XK),Room k A→Env0 P w K mg base A outer s H→BindsTo s fd args (ps.zip us)→ap vs us→sp vs H Q E →
  codeAny (model P w) A (.call (.ref f) args) (CR CX outer P w H s Q E) s
theorem Env0.in1{P:Program}{w:World}{K:PySem.W.Frag}{mg:Str→Option Value}{base:Heap}{A:Around}{outer:List Env}{s:Shared}{H:Hp}(e:Env0 P w K mg base A outer s H):
  Env0 P w K mg base A.in1 outer s H:=⟨e.frames,e.mod,e.bs,e.bsz,e.funs,e.frf,e.hok,e.bare⟩
section
variable{X:Cx}{pins:List (Addr×Obj)}{σ:St}{H:Hp}{s s':Shared}
theorem Inv.env0(I:Inv X pins σ H s):Env0 X.prog X.w X.K X.mg X.base X.A X.stack s H :=
 ⟨I.ok.frames,I.ok.mod,I.bs,le_trans I.ok.bsz I.sz,I.stack,I.stkFree,I.hok,I.bare⟩
theorem Inv.after{Q:VK}{u:Value}(I:Inv X pins σ H s)(h:CE X.stack X.prog X.w H s Q u s'):EP X pins σ Q u s':=by
 obtain⟨v,H',os,bare,un,hok,r,q⟩:=h;obtain⟨hh,g,d,t,os'⟩:=s';obtain rfl:os'=s.os:=os;exact⟨v,H',I.call (h':=hh) (g':=g) (d':=d) (t':=t) (ch:=[]) un hok bare (λb z=>absurd z (by simp)),r,q⟩
end
def rS(sp:Sp)(dvs:List V)(E:XK)(t:TA):TE:=λσ H Q=>t σ H λvs H1=>sp (vs++dvs) H1 Q E
def cp(K:PySem.W.Frag)(fd:FuncData)(ps:List Str)(ds:List Value):Prop :=
 ∀(s:Shared)(us:List Value),K.In s.heap→(us++ds).length=ps.length→BindsTo s fd ⟨us,[]⟩ (ps.zip (us++ds))
theorem cp.all{K:PySem.W.Frag}{fd:FuncData}{ps:List Str}(h:∀us:List Value,us.length=ps.length→bindArgs fd ⟨us,[]⟩=pure (ps.zip us)):cp K fd ps []:=λs us _ hl=>by
 rw[append_nil]at hl⊢;exact .of_eq (h us hl)
def gG(CX:CXT)(X:Cx)(E:XK):Prop:=∀(pins:List (Addr×Obj))(σ:St)(H:Hp)(s:Shared)(e:Value)(s':Shared),Inv X pins σ H s→CX X.stack H s E e s'→X.xe e s'
section
variable{X:Cx}{CX:CXT}{k:Nat}{f C:Addr}{fd:FuncData}{ps:List Str}{sp:Sp}{dvs:List V}{ds:List Value}{E:XK}{x m:Str}{p pos apos:Pos}{e o:Expr}{es:List Expr}{ta:TE}{t:TA}
theorem sC{pins:List (Addr×Obj)}{σ:St}{H:Hp}{s:Shared}{Q:VK}{us:List Value}{vs:List V}(F:FnOk X.prog X.w X.K X.mg X.base CX k f fd ps sp)(hr:Room k X.A)(hb:cp X.K fd ps ds)(hd:ap dvs ds)(hx:gG CX X E)(I:Inv X pins σ H s)(r:ap vs us)(h:sp (vs++dvs) H Q E):wpAny (model X.prog X.w) X.A (call (.ref f) us) (EP X pins σ Q) X.xe s:=by
 have r2:ap (vs++dvs) (us++ds):=r.append hd;have hl:(us++ds).length=ps.length:=by rw[←r2.length];exact F.len _ _ _ _ h
 refine wpAny_call (codeAny_mono (F.run X.A X.stack s H ⟨us,[]⟩ (us++ds) (vs++dvs) Q E hr I.env0 (hb s us I.kIn hl) r2 h) λr s' hq=>?_);cases r with
 |error e=>exact hx pins σ H s e s' I hq
 |ok fl =>
  cases fl with
  |ret u=>exact I.after hq
  |next=>exact False.elim hq
  |brk=>exact False.elim hq
  |cont=>exact False.elim hq
theorem am(F:FnOk X.prog X.w X.K X.mg X.base CX k f fd ps sp)(hr:Room k X.A)(hg:Gl X x)(hm:X.mg x=some (.ref f))(hk:keepIn X.K (.ref f)=true)(hb:cp X.K fd ps ds)(hd:ap dvs ds)(hx:gG CX X E)(ha:PA X (e::es) t)(hdb:(x==("__debug__":Str))=false:=by decide)(he:starEach (e::es) X.env=(false,eval e X.env)::starEach es X.env:=by rfl)(hpl:(backTo pos (starEach es X.env)).any (·.1)=false:=by rfl):
  PE X (.Call (.Name x p) (e::es) [] pos) (rS sp dvs E t):=by
 intro pins s σ H Q I h;refine wpAny_Call_Name_kw (ja I hg hm ?_ hdb);refine PySem.W.callWith_K (h₀:=X.base) I.ok.mod.kin hk (thn (ha pos pins s σ H _ I h) λus s1 ⟨vs,H1,I1,r,q⟩=>⟨I1.kIn,?_⟩) he hpl;exact sC F hr hb hd hx I1 r q
end
section
variable{X:Cx}{CX:CXT}{k:Nat}{f C:Addr}{fd:FuncData}{ps ks:List Str}{sp:Sp}{E:XK}{x m:Str}{p pos apos kpos:Pos}{e o:Expr}{es:List Expr}{kws:List Keyword}{te ta:TE}{t tk:TA}{nm:Option Str}
variable{g:List Value→List Value→List Value}{gV:List V→List V→List V}
end
structure FnScope(N P:List Str)(sc:Scope):Prop where
 kind:sc.kind=.function
 co:sc.isCoroutine=false
 gen:sc.isGenerator=false
 nd:N.Nodup
 pre:N.take P.length=P
 par:∀x∈P,sc.names.lookup x=some .local∨sc.names.lookup x=some .cell
 nofree:∀y∈sc.names,y.2≠.free
theorem fsc{N P:List Str}{c:Scope}(a:c.kind=.function:=by rfl)(b:c.isCoroutine=false:=by rfl)(d:c.isGenerator=false:=by rfl)(e:N.Nodup:=by decide +kernel)(f:N.take P.length=P:=by rfl)(g:∀x∈P,c.names.lookup x=some .local∨c.names.lookup x=some .cell:=by decide +kernel)(h:∀y∈c.names,y.2≠.free:=by decide +kernel):FnScope N P c:=⟨a,b,d,e,f,g,h⟩
theorem ix{kindOf:Str→Option NameKind}{x:Str}:∀{binds:List (Str×Value)}{m:Str→Option Value},(∀v,(x,v)∉binds)→bindL kindOf binds m x=m x
 |[],_,_=>rfl
 |(n,v)::r,m,h=>by
  unfold bindL;rw[ix λw hw=>h w (mem_cons_of_mem _ hw)]
  split
  ·have:x≠n:=by rintro rfl;exact h v mem_cons_self
   simp[this]
  ·rfl
theorem iy{kindOf:Str→Option NameKind}{x:Str}:∀{binds:List (Str×Value)}{m:Str→Option Value},(∀v,(x,v)∉binds)→bindC kindOf binds m x=m x
 |[],_,_=>rfl
 |(n,v)::r,m,h=>by
  unfold bindC;rw[iy λw hw=>h w (mem_cons_of_mem _ hw)]
  split
  ·rfl
  ·have:x≠n:=by rintro rfl;exact h v mem_cons_self
   simp[this]
theorem iz{kindOf:Str→Option NameKind}{x:Str}{v:Value}:∀{P:List Str}{vs:List Value}{i:Nat}{m:Str→Option Value},P.Nodup→P[i]?=some x→vs[i]?=some v→kindOf x=some .local →
  bindL kindOf (P.zip vs) m x=some v
 |[],_,_,_,_,h,_,_=>by simp at h
 |_::_,[],_,_,_,_,h,_=>by simp at h
 |p::P,w::vs,0,m,nd,h1,h2,hk=>by
  simp at h1 h2;subst h1;subst h2;show bindL kindOf ((p,w)::P.zip vs) m p=_;unfold bindL;rw[ix λv hv=>(nodup_cons.mp nd).1 (of_mem_zip hv).1,if_pos hk];simp
 |p::P,w::vs,i+1,m,nd,h1,h2,hk=>by
  show bindL kindOf ((p,w)::P.zip vs) m x=_;unfold bindL;exact iz (i:=i) (nodup_cons.mp nd).2 (by simpa using h1) (by simpa using h2) hk
theorem iA{kindOf:Str→Option NameKind}{x:Str}{v:Value}:∀{P:List Str}{vs:List Value}{i:Nat}{m:Str→Option Value},P.Nodup→P[i]?=some x→vs[i]?=some v→kindOf x≠some .local →
  bindC kindOf (P.zip vs) m x=some v
 |[],_,_,_,_,h,_,_=>by simp at h
 |_::_,[],_,_,_,_,h,_=>by simp at h
 |p::P,w::vs,0,m,nd,h1,h2,hk=>by
  simp at h1 h2;subst h1;subst h2;show bindC kindOf ((p,w)::P.zip vs) m p=_;unfold bindC;rw[iy λv hv=>(nodup_cons.mp nd).1 (of_mem_zip hv).1,if_neg hk];simp
 |p::P,w::vs,i+1,m,nd,h1,h2,hk=>by
  show bindC kindOf ((p,w)::P.zip vs) m x=_;unfold bindC;exact iA (i:=i) (nodup_cons.mp nd).2 (by simpa using h1) (by simpa using h2) hk
def start(N:List Str)(vs:List V):St:=vs.map some++List.replicate (N.length-vs.length) none
def gb(CX:CXT)(P:Program)(w:World)(K:PySem.W.Frag)(mg:Str→Option Value)(base:Heap)(N:List Str)(qual:Str)(scope:Scope)(f:Addr)(cd:Value)(A:Around)(outer:List Env)(s:Shared)(H:Hp)(E:XK):Cx where
 prog:=P
 w:=w
 K:=K
 mg:=mg
 base:=base
 A:=A.deeper (envOfC qual scope s.heap.objs.size f cd)
 N:=N
 s₀:=s
 H₀:=H
 env:=envOfC qual scope s.heap.objs.size f cd
 outer:=outer
 stack:=envOfC qual scope s.heap.objs.size f cd::outer
 ex:=[]
 calm:=true
 fn:=λ_=>true
 pn:=[]
 xe:=λe s'=>wpAny (model P w) (A.deeper (envOfC qual scope s.heap.objs.size f cd)) (leaving (envOfC qual scope s.heap.objs.size f cd) e) (λ_ s''=>CX outer H s E e s'') (λe' s''=>CX outer H s E e' s'') s'
theorem jO{sc:Scope}{n:Nat}{x:Str}(h:sc.names.lookup x=some .cell):∃c,(cellsFrom n sc.names []).lookup x=some c:=by
 have q:=PySem.W.cellsFrom_some sc.names n [] (.inl h);exact isSome_iff_exists.mp q
theorem nD{CX:CXT}{P:Program}{w:World}{K:PySem.W.Frag}{mg:Str→Option Value}{base:Heap}{N ps:List Str}{qual:Str}{scope:Scope}{f:Addr}{cd:Value}{A:Around}{outer:List Env}{s s1:Shared}{H:Hp}{E:XK}{us:List Value}{vs:List V}(S:FnScope N ps scope)(hd:A.handled=none)(e0:Env0 P w K mg base A outer s H)(hl:vs.length=ps.length)(r:ap vs us)(x:InCallC s s.heap.objs.size (bindL (envOfC qual scope s.heap.objs.size f cd).kindOf (ps.zip us) λ_=>none) (cellsFrom (s.heap.objs.size+1) scope.names []) (bindC (envOfC qual scope s.heap.objs.size f cd).kindOf (ps.zip us) λ_=>none) s1):
  Inv (gb CX P w K mg base N qual scope f cd A outer s H E) [] (start N vs) H s1:=by
 have hpl:ps.length≤N.length:=by have:=congrArg length S.pre;rw[length_take]at this;omega
 obtain⟨h1,tk,rfl,hk⟩:=x.done;have noA:∀b:Addr,b∉(gb CX P w K mg base N qual scope f cd A outer s H E).ex:=λb z=>absurd (show b∈([]:List Addr)from z) (by simp);refine⟨⟨e0.mod,S.kind,rfl,rfl,le_refl _,λy z c h1 h2=>?_,λy hy=>?_,λy c _ h=>?_,λ_=>hd,Around.frames_deeper e0.frames,.inr ⟨rfl,rfl⟩,λb z=>absurd z (noA b),e0.bs,e0.bsz,λb _ _=>noA b,λb z=>absurd z (noA b),e0.funs,e0.frf⟩,
  rfl,e0.bare,Un.kept hk,⟨_,x.toInCall.ns,λi y v h1 h2 h3=>?_⟩,λy c h=>⟨_,x.cell y c h⟩,e0.hok.fresh (le_refl _),λy c h=>?_,λp hp=>absurd (show p∈([]:List (Addr×Obj))from hp) (by simp),e0.hok.kept hk,?_⟩
 ·exact name_of_addr x.apart (PySem.mem_of_lookup h1) (PySem.mem_of_lookup h2)
 ·have hy:scope.names.lookup y=some .cell∨scope.names.lookup y=some .free:=hy;rcases hy with hy|hy
  ·exact jO hy
  ·exact absurd rfl (S.nofree _ (PySem.mem_of_lookup hy))
 ·exact le_of_lt (x.above y c (PySem.mem_of_lookup h))
 ·have hi:i<vs.length:=by
   unfold start at h2
   by_cases hi:i<vs.length
   ·exact hi
   ·rw[getElem?_append_right (by simpa using hi)]at h2;rw[List.getElem?_replicate]at h2
    split at h2<;>cases h2
  have ha:vs[i]?=some v:=by
   unfold start at h2;rw[getElem?_append_left (by simpa using hi),getElem?_map]at h2;cases e:vs[i]? with
   |none=>rw[e]at h2;cases h2
   |some a=>rw[e]at h2;cases h2;rfl
  obtain⟨u,hu,rv⟩:=r.get ha;have hp:ps[i]?=some y:=by
   rw[←S.pre,List.getElem?_take_of_lt (by omega)];exact h1
  have ndP:ps.Nodup:=by rw[←S.pre];exact S.nd.sublist (take_sublist _ _)
  refine⟨u,rv,?_⟩;rcases S.par y (mem_of_getElem? hp)with k|k
  ·exact .inl ⟨k,iz ndP hp hu k⟩
  ·obtain⟨c,e⟩:=jO (n:=s.heap.objs.size+1) k;refine .inr ⟨.inl k,c,e,?_⟩;have q:=x.cell y c e;rw[iA ndP hp hu (by show scope.names.lookup y≠_;rw[k];decide)]at q;exact q
 ·exact e0.hok.fresh (le_of_lt (x.above y c (PySem.mem_of_lookup h)))
 ·unfold start;show _=N.length;rw[length_append,length_map,length_replicate];omega
theorem oJ{CX:CXT}{P:Program}{w:World}{K:PySem.W.Frag}{mg:Str→Option Value}{base:Heap}{k:Nat}{f:Addr}{name qual:Str}{params:Arguments}{body:List Stmt}{scope:Scope}{dV kV doc pm cdv ct oc:Value}{an od:Option Addr}{osl:Array (Option Value)}{N ps:List Str}{sp:Sp}(lk:K.lookup f=some ⟨oc,od,.func (fnOf name qual params body scope dV kV doc pm an cdv ct),osl⟩)(hcd:codeIn K cdv qual=true)(S:FnScope N ps scope)(len:∀vs H Q E,sp vs H Q E→vs.length=ps.length)(hbody:∀(A:Around) (outer:List Env) (s:Shared) (H:Hp) (vs:List V) (Q:VK) (E:XK),Room k (A.deeper (envOfC qual scope s.heap.objs.size f cdv))→sp vs H Q E →
   ∃t,PSs (gb CX P w K mg base N qual scope f cdv A outer s H E) body t∧t {nx:=λ_ H'=>Q .non H',rt:=Q} (start N vs) H):
  FnOk P w K mg base CX (k+1) f (fnOf name qual params body scope dV kV doc pm an cdv ct) ps sp:=by
 refine⟨len,λA outer s H args us vs Q E hr e0 hb r hsp=>?_⟩;have hl:=len _ _ _ _ hsp;have KX:K.In s.heap:=e0.mod.kin.keeps λb o e=>(e0.bs b o e).1;have lim:s.heap.NoLimit:=e0.mod.nolimit.keeps λb o e=>(e0.bs b o e).1;have hkind:∀y∈ps.zip us,scope.names.lookup y.1=some .local∨(scope.names.lookup y.1=some .cell∧((cellsFrom (s.heap.objs.size+1) scope.names []).lookup y.1).isSome=true):=λ⟨n,v⟩ hy=>by
  rcases S.par n (of_mem_zip hy).1 with q|q
  ·exact .inl q
  ·exact .inr ⟨q,PySem.W.cellsFrom_some _ _ _ (.inl q)⟩
 refine codeAny_call_function hr.depth (KX _ _ lk) rfl S.co S.gen rfl (PySem.W.codeRec_of KX hcd) (hb _ _ _ _ ?_);refine wpAny_newFunctionEnv_cells S.kind hkind λenv he s1 x=>?_;subst he;refine⟨lim.keeps x.toInCall.keep,codeAny_func ?_⟩;obtain⟨t,ht,hq⟩:=hbody A outer s H vs Q E (hr.deeper _) hsp;have I:Inv (gb CX P w K mg base N qual scope f cdv A outer s H E) [] (start N vs) H s1:=nD S hr.hd e0 hl r x;refine wpAny_mono (ht [] s1 (start N vs) H _ I hq) (λfl s' hs=>?_) λe s' hs=>hs;have fin:∀{σ':St}{H':Hp}{v:V}{u:Value},Inv (gb CX P w K mg base N qual scope f cdv A outer s H E) [] σ' H' s'→aw v u→Q v H'→CE outer P w H s Q u s' :=
  λ{σ' H' v u} J rv q=>⟨v,H',J.os,J.bare,J.base,J.hok,rv,q⟩
 cases fl with
 |ret u =>
  obtain⟨v,σ',H',J,rv,q⟩:=hs;exact fin J rv q
 |next =>
  obtain⟨σ',H',J,q⟩:=hs;exact fin (v:=V.non) (u:=Value.none) J rfl q
 |brk =>
  obtain⟨_,_,_,q⟩:=hs;exact False.elim q
 |cont =>
  obtain⟨_,_,_,q⟩:=hs;exact False.elim q
section
variable{X:Cx}{x:Str}{p pos:Pos}{e:Expr}{es:List Expr}{t:TA}{id T:String}{r:List V→Hp→VK→Prop}
def tCB(r:List V→Hp→VK→Prop)(t:TA):TE:=λσ H Q=>t σ H λvs H1=>r vs H1 Q
theorem aL(hc:bG X (.builtin id) r)(hg:Gl X x)(hm:X.mg x=none)(hv:bootBuiltins x=some (.builtin id))(ha:PA X (e::es) t)(hn:x≠"__name__":=by decide)(hdb:(x==("__debug__":Str))=false:=by decide)(he:starEach (e::es) X.env=(false,eval e X.env)::starEach es X.env:=by rfl)(hpl:(backTo pos (starEach es X.env)).any (·.1)=false:=by rfl):PE X (.Call (.Name x p) (e::es) [] pos) (tCB r t):=by
 intro pins s σ H Q I h;refine wpAny_Call_Name_kw (fg I hg hm hv ?_ hn hdb);exact PyProof.Rows.callWith_builtin1 (thn (ha pos pins s σ H _ I h) λus s1 ⟨vs,H1,I1,r1,q1⟩=>hc pins s1 σ H1 vs us Q I1 r1 q1) he hpl
theorem bu(hc:bG X (.type T) r)(hg:Gl X x)(hm:X.mg x=none)(hv:bootBuiltins x=some (.type T))(ha:PA X (e::es) t)(hn:x≠"__name__":=by decide)(hdb:(x==("__debug__":Str))=false:=by decide)(he:starEach (e::es) X.env=(false,eval e X.env)::starEach es X.env:=by rfl)(hpl:(backTo pos (starEach es X.env)).any (·.1)=false:=by rfl):PE X (.Call (.Name x p) (e::es) [] pos) (tCB r t):=by
 intro pins s σ H Q I h;refine wpAny_Call_Name_kw (fg I hg hm hv ?_ hn hdb);exact PyProof.Rows.callWith_type1 (thn (ha pos pins s σ H _ I h) λus s1 ⟨vs,H1,I1,r1,q1⟩=>hc pins s1 σ H1 vs us Q I1 r1 q1) he hpl
end
end L2
namespace HT
open PySem PyProof.Rows
section
open PySem.SeqAt
open PySem.AutoSeq1 (wpAny_loadPart')
open PySem.MeetsSeq PySem.MeetsSeq2 PySem.MeetsSeq3
end
section
variable{prog:Program}{w:World}{A:Around}{E:Value→Shared→Prop}{s:Shared}
def sIx(n d:Nat):Option Int→Nat
 |none=>d
 |some v=>if v<0 then (v+(n:Int)).toNat else min v.toNat n
theorem sE(n d:Nat)(hd:d≤n)(o:Option Int):sIx n d o≤n:=by
 cases o with
 |none=>exact hd
 |some v =>
  show(if v<0 then (v+(n:Int)).toNat else min v.toNat n)≤n
  by_cases hv:v<0
  ·rw[if_pos hv];omega
  ·rw[if_neg hv];exact Nat.min_le_right _ _
theorem lY(v:Int)(n d:Nat):(if v<0 then max (v+(n:Int)) 0 else min v (n:Int))=((sIx n d (some v):Nat):Int):=by
 show(if v<0 then max (v+(n:Int)) 0 else min v (n:Int))=(((if v<0 then (v+(n:Int)).toNat else min v.toNat n):Nat):Int)
 by_cases hv:v<0
 ·simp only[if_pos hv];omega
 ·simp only[if_neg hv];omega
theorem lr(lo hi:Option Int)(n:Nat):Builtin.Slice.sliceAdjust lo hi 1 (n:Int)=(((sIx n 0 lo:Nat):Int),((sIx n n hi:Nat):Int)):=by
 have h1:¬((1:Int)<0):=by omega
 unfold Builtin.Slice.sliceAdjust;simp only[h1,if_false];refine Prod.ext ?_ ?_
 ·cases lo with
  |none=>rfl
  |some v=>exact lY v n 0
 ·cases hi with
  |none=>rfl
  |some v=>exact lY v n n
theorem ls(i j:Nat):Builtin.Slice.slicePlaces (i:Int) (j:Int) 1=j-i:=by
 unfold Builtin.Slice.slicePlaces;have h1:(1:Int)>0:=by omega
 simp only[h1,if_true,Int.ediv_one]
 split<;>omega
theorem gH{v:Value}{o:Option Int}{Q:Option Int→Shared→Prop}(p:IsPart v o)(h:Q o s):wpAny (model prog w) A (Builtin.Slice.slicePartIndex v) Q E s:=by
 cases p with
 |none=>exact slicePart_none h
 |int i t=>exact slicePart_int h
theorem fi{sl:Addr}{vl vu:Value}{lo hi:Option Int}{n:Nat}{Q:Int×Int×Nat→Shared→Prop}(hs:s.heap.IsSliceOf sl vl vu .none)(pl:IsPart vl lo)(pu:IsPart vu hi)(h:Q (((sIx n 0 lo:Nat):Int),1,sIx n n hi-sIx n 0 lo) s):wpAny (model prog w) A (Builtin.Slice.sliceApplied (.ref sl) (pure (n:Int))) Q E s:=by
 obtain⟨os,hos,hcs,hds⟩:=id hs;unfold Builtin.Slice.sliceApplied Builtin.Slice.sliceFields;refine wpAny_bind (wpAny_bind (wpAny_field hos hds (x:=vl) rfl (wpAny_bind (wpAny_field hos hds (x:=vu) rfl (wpAny_bind (wpAny_field hos hds (x:=.none) rfl (wpAny_pure ?_)))))));refine wpAny_bind (slicePart_none ?_);show wpAny _ _ (if ((1:Int)==0)=true then _ else _) _ _ s
 rw[if_neg (by decide)];refine wpAny_bind (gH pl (wpAny_bind (gH pu (wpAny_bind (wpAny_pure ?_)))));show wpAny _ _ (match Builtin.Slice.sliceAdjust lo hi 1 (n:Int)with|(lo,hi)=>pure (lo,(1:Int),Builtin.Slice.slicePlaces lo hi 1)) _ _ s
 rw[lr lo hi n];show wpAny _ _ (pure (((sIx n 0 lo:Nat):Int),(1:Int),Builtin.Slice.slicePlaces ((sIx n 0 lo:Nat):Int) ((sIx n n hi:Nat):Int) 1)) _ _ s;rw[ls];exact wpAny_pure h
theorem oK(xs:Array Value)(i k:Nat):((List.range k).filterMap λ(m:Nat)=>xs[((i:Int)+(m:Int)*1).toNat]?).toArray=((xs.toList.drop i).take k).toArray:=by
 have e:(λ(m:Nat)=>xs[((i:Int)+(m:Int)*1).toNat]?)=λm=>xs[i+m]?:=by
  funext m
  have:((i:Int)+(m:Int)*1).toNat=i+m:=by omega
  rw[this]
 rw[e];have:=pick_run xs i k;rw[List.filterMap_map]at this;have e2:((λx=>xs[x]?)∘λx=>i+x)=λm=>xs[i+m]?:=rfl;rw[e2]at this;rw[this]
theorem dY{t sl:Addr}{items:Array Value}{vl vu:Value}{lo hi:Option Int}{Q:Value→Shared→Prop}(ht:IsTup s.heap t items)(hs:s.heap.IsSliceOf sl vl vu .none)(pl:IsPart vl lo)(pu:IsPart vu hi)(hw:¬(sIx items.size 0 lo=0∧sIx items.size items.size hi=items.size))(h:Q (.ref s.heap.objs.size) {s with heap:=s.heap.push {cls:=.type "tuple",data:=.seq ((items.toList.drop (sIx items.size 0 lo)).take (sIx items.size items.size hi-sIx items.size 0 lo)).toArray}})(hsz:items.size≤sizeLine):wpAny (model prog w) A (getItem (.ref t) (.ref sl)) Q E s:=by
 have htake:sizeOk (.seq ((items.toList.drop (sIx items.size 0 lo)).take (sIx items.size items.size hi-sIx items.size 0 lo)).toArray):=by
  show((items.toList.drop (sIx items.size 0 lo)).take (sIx items.size items.size hi-sIx items.size 0 lo)).toArray.size≤sizeLine;rw[size_toArray,length_take,length_drop,length_toList];omega
 have hj:sIx items.size items.size hi≤items.size:=sE _ _ (le_refl _) hi;obtain⟨os,hos,hcs,hds⟩:=id hs;have hTs:s.TypeIs (.ref sl) "slice":=⟨os,hos,hcs⟩;unfold getItem
 try with_reducible refine wpAny_holding ?_
 first|refine wpAny_bind (wpAny_pure ?_)|skip
 refine wpAny_bind (wpAny_sequenceKey ht.typeIs (by decide) ?_);refine wpAny_bind (wpAny_callSpecial?_slot (name:=ofString "__getitem__") ht.typeIs PyProof.Rows.slot_tuple_getitem
  (wpAny_call_entry PyProof.Rows.slot_tuple_getitem ht.typeIs entry_tuple_getitem ?_ (args_tuple_getitem _ _)))
 show wpAny _ _ (Builtin.Tuple.tupleItemsOf (.ref t) >>= _) _ _ s;refine wpAny_bind (tupleItemsOf_ ht ?_);refine wpAny_bind (wpAny_typeOf hTs ?_);rw[if_pos (by decide)];refine wpAny_bind (fi hs pl pu ?_);have hno:¬((((sIx items.size 0 lo:Nat):Int)==0&&(1:Int)==1&&(sIx items.size items.size hi-sIx items.size 0 lo)==items.size)=true):=by
  intro q;rw[and_eq_true,and_eq_true]at q;have q1:((sIx items.size 0 lo:Nat):Int)=0:=eq_of_beq q.1.1;have q2:sIx items.size items.size hi-sIx items.size 0 lo=items.size:=eq_of_beq q.2;exact hw ⟨by omega,by omega⟩
 show wpAny _ _ (if (((sIx items.size 0 lo:Nat):Int)==0&&(1:Int)==1&&(sIx items.size items.size hi-sIx items.size 0 lo)==items.size)=true then _ else _) _ _ s
 rw[if_neg hno,oK]
 first
  |exact wpAny_bind (m:=Builtin.Tuple.tupleExact _) (wpAny_newObj_type (wpAny_pure ⟨_,rfl,wpAny_pure h⟩) htake)
  |exact wpAny_bind (m:=Builtin.Tuple.tupleExact _) (wpAny_newObj_type (wpAny_bind (wpAny_pure (wpAny_pure ⟨_,rfl,wpAny_pure h⟩))) htake)
  |exact wpAny_bind (wpAny_bind (m:=Builtin.Tuple.tupleExact _) (wpAny_newObj_type (wpAny_pure (wpAny_pure ⟨_,rfl,wpAny_pure h⟩)) htake))
  |exact wpAny_bind (wpAny_bind (m:=Builtin.Tuple.tupleExact _) (wpAny_newObj_type (wpAny_pure ⟨_,rfl,wpAny_pure h⟩) htake))
end
end HT
namespace L2
open PySem PySem.Spec PyProof.Rows
abbrev TO:=St→Hp→(Option Int→Hp→Prop)→Prop
def PO(X:Cx)(e:Option Expr)(t:TO):Prop :=
 ∀(pins:List (Addr×Obj))(s:Shared)(σ:St)(H:Hp)(Q:Option Int→Hp→Prop),Inv X pins σ H s→t σ H Q →
  wpAny (model X.prog X.w) X.A (evalPart e X.env) (λu s'=>∃o H',Inv X pins σ H' s'∧IsPart u o∧Q o H') X.xe s
def qA:TO:=λ_ H Q=>Q none H
def uI(t:TE):TO:=λσ H Q=>t σ H λx H1=>∃i,x=.int i∧Q (some i) H1
theorem lu{ns:List Int}:∀{us:List Value},ap (ns.map V.int) us→IntsAre us ns:=by
 induction ns with
 |nil=>intro us r;rw[map_nil]at r;cases r;exact .nil
 |cons n ns ih =>
  intro us r;rw[map_cons]at r;cases r with
  |cons r1 r2 =>
   obtain⟨t,e⟩:=r1;subst e;exact .cons n t (ih r2)
section
variable{X:Cx}{e:Expr}{te:TE}{lo hi:Option Expr}{tl th:TO}{pos p2:Pos}
theorem qB:PO X none qA:=by
 intro pins s σ H Q I h;rw[evalPart_none];exact wpAny_pure ⟨none,H,I,.none,h⟩
theorem jf(h:PE X e te):PO X (some e) (uI te):=by
 intro pins s σ H Q I hw;rw[evalPart_some];refine thn (h pins s σ H _ I hw) λu s1 hpt=>?_;obtain⟨x,H1,I1,r1,q1⟩:=hpt;obtain⟨i,rfl,q⟩:=q1;obtain⟨t,rfl⟩:=r1;exact⟨some i,H1,I1,.int i t,q⟩
def SlR(X:Cx)(r:V→Option Int→Option Int→Hp→VK→Prop):Prop :=
 ∀(pins:List (Addr×Obj))(s:Shared)(σ:St)(H:Hp)(x:V)(v vl vu:Value)(lo hi:Option Int)(sl:Addr)(Q:VK),Inv X pins σ H s→aw x v→s.heap.IsSliceOf sl vl vu .none→IsPart vl lo→IsPart vu hi→r x lo hi H Q →
  ∃T id,typeLookup (.type T) "__getitem__"=pure (some (.builtin id))∧s.TypeIs v T∧wpAny (model X.prog X.w) X.A (getItem v (.ref sl)) (EP X pins σ Q) X.xe s
def tSl(r:V→Option Int→Option Int→Hp→VK→Prop)(te:TE)(tl th:TO):TE:=λσ H Q=>te σ H λx H1=>tl σ H1 λl H2=>th σ H2 λu H3=>r x l u H3 Q
theorem jP{r:V→Option Int→Option Int→Hp→VK→Prop}(hr:SlR X r)(he:PE X e te)(hl:PO X lo tl)(hu:PO X hi th):PE X (.Subscript e (.Slice lo hi none p2) pos) (tSl r te tl th):=by
 intro pins s σ H Q I h;refine Subscript_ (thn (he pins s σ H _ I h) λv s1 hpt=>?_);obtain⟨x,H1,I1,r1,q1⟩:=hpt;refine wpAny_Slice (thn (hl pins s1 σ H1 _ I1 q1) λvl s2 ⟨l,H2,I2,pl,q2⟩=>thn (hu pins s2 σ H2 _ I2 q2) λvu s3 hpt=>?_);obtain⟨u,H3,I3,pu,q3⟩:=hpt;rw[evalPart_none];refine wpAny_pure ?_;have I4:Inv X pins σ H3 {s3 with heap:=s3.heap.push {cls:=.type "slice",data:=.fields #[vl,vu,.none]}}:=I3.kept (t':=s3.toks) λb ob q=>get?_push_of_some _ q
 obtain⟨T,id,hT,ht,hg⟩:=hr pins {s3 with heap:=s3.heap.push {cls:=.type "slice",data:=.fields #[vl,vu,.none]}} σ H3 x v vl vu l u s3.heap.objs.size Q I4 r1 (Heap.IsSliceOf.new ..) pl pu q3
 show wpAny (model X.prog X.w) X.A (subscriptTail e (.Slice lo hi none p2) v (.ref s3.heap.objs.size)) (EP X pins σ Q) X.xe {s3 with heap:=s3.heap.push {cls:=.type "slice",data:=.fields #[vl,vu,.none]}}
 exact tail_any (ops:=[.ref s3.heap.objs.size,v]) ht hT hg (by with_unfolding_all rfl)
def nE(xs:List V)(lo hi:Option Int):List V:=(xs.drop (HT.sIx xs.length 0 lo)).take (HT.sIx xs.length xs.length hi-HT.sIx xs.length 0 lo)
theorem jQ(xs:List V)(lo hi:Option Int):(nE xs lo hi).length≤xs.length:=by
 unfold nE;rw[length_take,length_drop];omega
def sF(K:PySem.W.Frag):V→Option Int→Option Int→Hp→VK→Prop:=λx lo hi H Q=>∃a xs,x=.ref a∧SqT K H a xs ∧
 ¬(HT.sIx xs.length 0 lo=0∧HT.sIx xs.length xs.length hi=xs.length)∧∀p,H p=none→Q (.ref p) (upd H p (.tup (nE xs lo hi)))
theorem oM:SlR X (sF X.K):=by
 intro pins s σ H x v vl vu lo hi sl Q I rx hs pl pu h;obtain⟨a,xs,rfl,hx,hw,q⟩:=h;cases rx;obtain⟨its,r,ht,hz⟩:=I.tuple hx;have hlen:its.toArray.size=xs.length:=by rw[size_toArray];exact r.length.symm
 refine⟨"tuple",_,PyProof.Rows.slot_tuple_getitem.lookup,ht.typeIs,?_⟩;refine HT.dY ht hs pl pu (by rw[hlen];exact hw) ?_ (by rw[hlen];exact hz);rw[hlen];refine⟨.ref s.heap.objs.size,_,I.laid (t':=s.toks) (o:=.tup (nE xs lo hi)) (λb ob q=>get?_push_of_some _ q) (le_refl _) ?_,rfl,q _ (I.hok.fresh (le_refl _))⟩;exact⟨le_trans (jQ xs lo hi) hz,_,(r.drop (HT.sIx xs.length 0 lo)).take (HT.sIx xs.length xs.length hi-HT.sIx xs.length 0 lo),IsTup.new _ _⟩
theorem ap.nil_iff{xs:List V}{us:List Value}(r:ap xs us):us=[]↔xs=[]:=by
 cases r with
 |nil=>simp
 |cons _ _=>simp
end
def ixN(n:Nat)(i:Int):Option Nat:=if 0≤i then (if i<n then some i.toNat else none)else if -(n:Int)≤i then some (i+n).toNat else none
def atI{α:Type}(xs:List α)(i:Int):Option α:=(ixN xs.length i).bind λj=>xs[j]?
theorem lZ{n:Nat}{i:Int}{j:Nat}(h:ixN n i=some j):seqIndex? i n=some j∧j<n∧-(n:Int)≤i∧i<n:=by
 unfold ixN at h
 by_cases h0:0≤i
 ·rw[if_pos h0]at h
  by_cases h1:i<n
  ·rw[if_pos h1]at h;have e:i.toNat=j:=Option.some.inj h;exact⟨by rw[seqIndex_of h0 h1,e],by omega,by omega,h1⟩
  ·rw[if_neg h1]at h;cases h
 ·rw[if_neg h0]at h
  by_cases h1:-(n:Int)≤i
  ·rw[if_pos h1]at h;have e:(i+n).toNat=j:=Option.some.inj h;exact⟨by rw[seqIndex_neg (by omega) h1,e],by omega,h1,by omega⟩
  ·rw[if_neg h1]at h;cases h
theorem ma{α:Type}{xs:List α}{i:Int}{v:α}(h:atI xs i=some v):∃j,seqIndex? i xs.length=some j∧xs[j]?=some v∧j<xs.length∧-(xs.length:Int)≤i∧i<xs.length:=by
 unfold atI at h;cases e:ixN xs.length i with
 |none=>rw[e]at h;cases h
 |some j =>
  rw[e]at h;obtain⟨h1,h2,h3,h4⟩:=lZ e;exact⟨j,h1,h,h2,h3,h4⟩
theorem gk{α:Type}{xs:List α}{j:Nat}{v:α}(h:xs[j]?=some v):atI xs (j:Int)=some v:=by
 have hj:j<xs.length:=(List.getElem?_eq_some_iff.mp h).1;have e:ixN xs.length (j:Int)=some j:=by
  unfold ixN;rw[if_pos (by omega),if_pos (by omega)];simp
 unfold atI;rw[e];exact h
def qC(b:Expr):Prop:=∀o i,subscripted b false o i=operate [o,i] (getItem o i)
def IxR(X:Cx)(r:R2):Prop :=
 ∀(value slice:Expr)(pins:List (Addr×Obj))(s:Shared)(σ:St)(H:Hp)(x y:V)(v u:Value)(Q:VK),Inv X pins σ H s→aw x v→aw y u→r x y H Q →
  subscripted slice false v u=operate [v,u] (getItem v u)→wpAny (model X.prog X.w) X.A (subscriptTail value slice v u) (EP X pins σ Q) X.xe s
def MtR(X:Cx)(id:String)(r:V→List V→Hp→VK→Prop):Prop :=
 ∀(pins:List (Addr×Obj))(s:Shared)(σ:St)(H:Hp)(x:V)(xs:List V)(v:Value)(us:List Value)(Q:VK),Inv X pins σ H s→aw x v→ap xs us→r x xs H Q →
  wpAny (model X.prog X.w) X.A (call (.builtin id) (v::us)) (EP X pins σ Q) X.xe s
section
variable{X:Cx}{a b:Expr}{ta tb:TE}{pos:Pos}
theorem ay{r:R2}(hr:IxR X r)(ha:PE X a ta)(hb:PE X b tb)(hs:qC b):PE X (.Subscript a b pos) (tOp r ta tb):=by
 intro pins s σ H Q I h;exact Subscript_ (sw ha hb I h λv u s2 x y H2 I2 rx ry q=>hr a b pins s2 σ H2 x y v u Q I2 rx ry q (hs _ _))
def vA(K:PySem.W.Frag):R2:=λx y H Q=>∃p xs i v,x=.ref p∧y=.int i∧SqL K H p xs∧atI xs i=some v∧Q v H
def bw(K:PySem.W.Frag):R2:=λx y H Q=>∃p xs i v,x=.ref p∧y=.int i∧SqT K H p xs∧atI xs i=some v∧Q v H
theorem cA:IxR X (vA X.K):=by
 intro value slice pins s σ H x y v u Q I rx ry h hs;obtain⟨p,xs,i,z,rfl,rfl,hq,he,q⟩:=h;cases rx;obtain⟨t,rfl⟩:=ry;obtain⟨its,r,pl,hz⟩:=I.list hq;obtain⟨j,h1,h2,h3,h4,h5⟩:=ma he;obtain⟨w,ew,rw'⟩:=r.get h2;have hl:=r.length;have hn:=je;have fin:EP X pins σ Q w s:=⟨z,H,I,rw',q⟩
 by_cases h0:0≤i
 ·have hj:i.toNat=j:=by
   rw[seqIndex_of h0 h5]at h1;exact Option.some.inj h1
  exact item_listR pl.isList h0 (by omega) (by rw[hj];simpa using ew) fin hs
 ·have hj:(i+(its.toArray.size:Int)).toNat=j:=by
   rw[seqIndex_neg (by omega) h4]at h1;rw[size_toArray,←hl];exact Option.some.inj h1
  exact subscriptTail_builtinR (x:=w) pl.isList.typeIs slot_list_getitem.lookup
   (wpAny_getItem_list_neg (Q:=λr s'=>r=w∧EP X pins σ Q r s') pl.isList (by omega) (by rw[size_toArray]<;>omega) (by omega) (by rw[hj];simpa using ew) ⟨rfl,fin⟩) hs
theorem av:IxR X (bw X.K):=by
 intro value slice pins s σ H x y v u Q I rx ry h hs;obtain⟨p,xs,i,z,rfl,rfl,hq,he,q⟩:=h;cases rx;obtain⟨t,rfl⟩:=ry;obtain⟨its,r,pl,hz⟩:=I.tuple hq;obtain⟨j,h1,h2,h3,h4,h5⟩:=ma he;obtain⟨w,ew,rw'⟩:=r.get h2;have hl:=r.length;have hn:=je;have fin:EP X pins σ Q w s:=⟨z,H,I,rw',q⟩;exact subscriptTail_builtinR (x:=w) pl.typeIs slot_tuple_getitem.lookup
  (getItem_tuple (j:=j) (Q:=λr s'=>r=w∧EP X pins σ Q r s') pl (by omega) (by omega) (by rw[size_toArray,←hl];exact h1) (by simpa using ew) ⟨rfl,fin⟩) hs
def bH:V→Bool
 |.non=>true
 |.bl _=>true
 |.int _=>true
 |.str _=>true
 |_=>false
def eqV:V→V→Bool
 |.non,.non=>true
 |.bl a,.bl b=>a==b
 |.bl a,.int b=>(if a then 1 else 0)==b
 |.int a,.bl b=>a==(if b then 1 else 0)
 |.int a,.int b=>a==b
 |.str a,.str b=>a==b
 |_,_=>false
theorem gI{A:Around}{s:Shared}{y x:V}{u v:Value}(ry:aw y u)(rx:aw x v)(fy:bH y=true)(fx:bH x=true):EqAt A s u v (eqV y x):=by
 cases y with
 |non =>
  cases ry;cases x with
  |non=>cases rx;exact EqAt.same _
  |bl b=>cases rx;exact EqAt.none_bool b
  |int b=>obtain⟨t,rfl⟩:=rx;exact EqAt.none_int b t
  |str b=>obtain⟨t,rfl⟩:=rx;exact EqAt.none_str b t
  |_=>exact absurd (show false=true from fx) Bool.false_ne_true
 |bl a =>
  cases ry;cases x with
  |non=>cases rx;exact EqAt.bool_none a
  |bl b=>cases rx;exact EqAt.bool_bool a b
  |int b=>obtain⟨t,rfl⟩:=rx;exact EqAt.bool_int a b t
  |str b=>obtain⟨t,rfl⟩:=rx;exact EqAt.bool_str a b t
  |_=>exact absurd (show false=true from fx) Bool.false_ne_true
 |int a =>
  obtain⟨t',rfl⟩:=ry;cases x with
  |non=>cases rx;exact EqAt.int_none a t'
  |bl b=>cases rx;exact EqAt.int_bool a t' b
  |int b=>obtain⟨t,rfl⟩:=rx;exact EqAt.int_int a t' b t
  |str b=>obtain⟨t,rfl⟩:=rx;exact EqAt.int_str a t' b t
  |_=>exact absurd (show false=true from fx) Bool.false_ne_true
 |str a =>
  obtain⟨t',rfl⟩:=ry;cases x with
  |non=>cases rx;exact EqAt.str_none a t'
  |bl b=>cases rx;exact EqAt.str_bool a t' b
  |int b=>obtain⟨t,rfl⟩:=rx;exact EqAt.str_int a t' b t
  |str b=>obtain⟨t,rfl⟩:=rx;exact EqAt.str_str a t' b t
  |_=>exact absurd (show false=true from fx) Bool.false_ne_true
 |_=>exact absurd (show false=true from fy) Bool.false_ne_true
def eqU(x:V)(u:Value):Bool:=match u with
 |.none=>eqV .non x
 |.bool b=>eqV (.bl b) x
 |.int i _=>eqV (.int i) x
 |.str z _=>eqV (.str z) x
 |_=>false
theorem oN{x y:V}{u:Value}(r:aw y u)(f:bH y=true):eqU x u=eqV y x:=by
 cases y with
 |non=>cases r;rfl
 |bl b=>cases r;rfl
 |int i=>obtain⟨t,rfl⟩:=r;rfl
 |str z=>obtain⟨t,rfl⟩:=r;rfl
 |_=>exact absurd (show false=true from f) Bool.false_ne_true
theorem dZ{x:V}:∀{xs:List V}{us:List Value},ap xs us→xs.all bH=true→us.any (eqU x)=xs.any λy=>eqV y x
 |_,_,.nil,_=>rfl
 |y::xs,u::us,.cons r t,f=>by
  rw[List.all_cons,and_eq_true]at f;rw[any_cons,any_cons,oN r f.1,dZ t f.2]
theorem dh{A:Around}{s:Shared}{x:V}{v:Value}(rx:aw x v)(fx:bH x=true):∀{xs:List V}{us:List Value},ap xs us→xs.all bH=true→∀u∈us,EqAt A s u v (eqU x u)
 |_,_,.nil,_=>λu hu=>by cases hu
 |y::xs,u::us,.cons r t,f=>λu' hu=>by
  rw[List.all_cons,and_eq_true]at f;rcases mem_cons.mp hu with rfl|hu
  ·rw[oN r f.1];exact gI r rx f.1 fx
  ·exact dh rx fx t f.2 u' hu
def inV(x:V)(xs:List V):Bool:=xs.any λy=>eqV y x
def rIn(K:PySem.W.Frag)(neg:Bool):R2:=λx y H Q=>∃p xs,y=.ref p∧(SqL K H p xs∨SqT K H p xs)∧bH x=true∧xs.all bH=true∧Q (.bl (if neg then !inV x xs else inV x xs)) H
theorem nF:OpR X (compareOp .In) (rIn X.K false):=by
 intro pins s σ H x y v u Q I rx ry h;obtain⟨p,xs,rfl,hq,fx,fs,q⟩:=h;cases ry;rcases hq with hq|hq
 ·obtain⟨its,r,pl,hz⟩:=I.list hq;refine SeqAt.in_listAt (eqU x) pl.isList (λw hw=>dh rx fx r fs w (by simpa using hw)) ⟨.bl _,H,I,rfl,?_⟩;rw[show its.toArray.any (eqU x)=its.any (eqU x)by simp,dZ r fs];exact q
 ·obtain⟨its,r,pl,hz⟩:=I.tuple hq;refine SeqAt.in_tupleAt (eqU x) pl (λw hw=>dh rx fx r fs w (by simpa using hw)) ⟨.bl _,H,I,rfl,?_⟩;rw[show its.toArray.any (eqU x)=its.any (eqU x)by simp,dZ r fs];exact q
theorem ee:OpR X (compareOp .NotIn) (rIn X.K true):=by
 intro pins s σ H x y v u Q I rx ry h;obtain⟨p,xs,rfl,hq,fx,fs,q⟩:=h;cases ry;rcases hq with hq|hq
 ·obtain⟨its,r,pl,hz⟩:=I.list hq;refine SeqAt.notIn_listAt (eqU x) pl.isList (λw hw=>dh rx fx r fs w (by simpa using hw)) ⟨.bl _,H,I,rfl,?_⟩;rw[show its.toArray.any (eqU x)=its.any (eqU x)by simp,dZ r fs];exact q
 ·obtain⟨its,r,pl,hz⟩:=I.tuple hq;refine SeqAt.notIn_tupleAt (eqU x) pl (λw hw=>dh rx fx r fs w (by simpa using hw)) ⟨.bl _,H,I,rfl,?_⟩;rw[show its.toArray.any (eqU x)=its.any (eqU x)by simp,dZ r fs];exact q
theorem bf:bG X (.builtin "len") (λxs H Q=>∃p ys,xs=[.ref p]∧(SqL X.K H p ys∨SqT X.K H p ys)∧Q (.int ys.length) H):=by
 intro pins s σ H xs us Q I r h;obtain⟨p,ys,rfl,hq,q⟩:=h;obtain⟨u,rfl,rx⟩:=cz r;cases rx;have hn:=je;rcases hq with hq|hq
 ·obtain⟨its,r',pl,hz⟩:=I.list hq;have hlen:=r'.length;exact Calls.call_len_list pl.isList (by simp only[size_toArray]<;>omega) ⟨.int ys.length,H,I.tok _,⟨s.toks+1,by rw[size_toArray,hlen]⟩,q⟩
 ·obtain⟨its,r',pl,hz⟩:=I.tuple hq;have hlen:=r'.length;exact len_tuple pl (by simp only[size_toArray]<;>omega) ⟨.int ys.length,H,I.tok _,⟨s.toks+1,by rw[size_toArray,hlen]⟩,q⟩
theorem dF:bG X (.type "tuple") (λxs H Q=>∃p ys,xs=[.ref p]∧((SqL X.K H p ys∧∀l,H l=none→Q (.ref l) (upd H l (.tup ys)))∨(SqT X.K H p ys∧Q (.ref p) H))):=by
 intro pins s σ H xs us Q I r h;obtain⟨p,ys,rfl,h⟩:=h;obtain⟨u,rfl,rx⟩:=cz r;cases rx;rcases h with⟨hq,q⟩|⟨hq,q⟩
 ·obtain⟨its,r',pl,hz⟩:=I.list hq;have hlen:=r'.length;refine call_tuple_list pl.isList (λh' kp=>?_) (by simp only[size_toArray]<;>omega);have I1:Inv X pins σ H {s with heap:=h'}:=I.kept (t':=s.toks) kp
  have I2:Inv X pins σ (upd H h'.objs.size (.tup ys)) {s with heap:=h'.push {cls:=.type "tuple",data:=.seq its.toArray}} :=
   I1.laid (t':=s.toks) (λb o e=>get?_push_of_some _ e) (le_refl _) (show bb X.prog X.w _ _ _ (.tup ys)from⟨hz,its,r',IsTup.new _ _⟩)
  exact⟨.ref h'.objs.size,_,I2,rfl,q _ (I1.hok.fresh (le_refl _))⟩
 ·obtain⟨its,r',pl,hz⟩:=I.tuple hq;exact call_tuple_same pl ⟨.ref p,H,I,rfl,q⟩
def tyV(K:PySem.W.Frag)(T:String)(x:V)(H:Hp):Prop:=match x with
 |.str _=>T="str"
 |.int _=>T="int"
 |.ref p=>(T="list"∧∃xs,SqL K H p xs)∨(T="tuple"∧∃o,K.lookup p=some o∧o.cls=.type "tuple"∧o.dict=none) ∨
   (T="dict"∧((∃kvs,H p=some (.dK kvs))∨∃kvs,H p=some (.dT kvs)))∨(T="set"∧∃S n,H p=some (.set S n))
 |_=>False
theorem oO{pins:List (Addr×Obj)}{σ:St}{H:Hp}{s:Shared}{T:String}{x:V}{v:Value}(I:Inv X pins σ H s)(r:aw x v)(ty:tyV X.K T x H):
  s.TypeIs v T∧∀a,v=.ref a→∃ob,s.heap.get? a=some ob∧ob.dict=none:=by
 cases x with
 |str z =>
  obtain⟨t,rfl⟩:=r;cases (show T="str" from ty);exact⟨typeIs_str s z t,λ_ e=>nomatch e⟩
 |int i =>
  obtain⟨t,rfl⟩:=r;cases (show T="int" from ty);exact⟨typeIs_int s i t,λ_ e=>nomatch e⟩
 |ref p =>
  cases r;rcases ty with⟨rfl,xs,hq⟩|⟨rfl,o,hk,hc,hd⟩|⟨rfl,hk⟩|⟨rfl,S,n,hk⟩
  ·obtain⟨its,_,pl,_⟩:=I.list hq;refine⟨pl.isList.typeIs,λa e=>?_⟩;cases e;obtain⟨o,n,e,c,hd,_⟩:=pl;exact⟨o,e,hd⟩
  ·refine⟨⟨o,I.kIn p o hk,hc⟩,λa e=>?_⟩;cases e;exact⟨o,I.kIn _ o hk,hd⟩
  ·have z:∃o,s.heap.get? p=some o∧o.ExactDict:=by
    rcases hk with⟨kvs,hk⟩|⟨kvs,hk⟩
    ·obtain⟨_,_,_,_,o,_,_,e,ex,_⟩:=I.hok p _ hk;exact⟨o,e,ex⟩
    ·obtain⟨_,_,_,_,o,_,_,e,ex,_⟩:=I.hok p _ hk;exact⟨o,e,ex⟩
   obtain⟨o,e,ex⟩:=z;refine⟨⟨o,e,ex.1⟩,λa e2=>?_⟩;cases e2;exact⟨o,e,ex.2.1⟩
  ·obtain⟨o,_,_,_,e,ex,_⟩:=I.hok p _ hk;refine⟨⟨o,e,ex.1⟩,λa e2=>?_⟩;cases e2;exact⟨o,e,ex.2.1⟩
 |_=>exact False.elim ty
def vB(K:PySem.W.Frag)(T:String)(r:V→List V→Hp→VK→Prop)(to:TE):TE:=λσ H Q=>to σ H λx H1=>tyV K T x H1∧r x [] H1 Q
def tBM(K:PySem.W.Frag)(T:String)(r:V→List V→Hp→VK→Prop)(to:TE)(t:TA):TE:=λσ H Q=>to σ H λx H1=>tyV K T x H1∧t σ H1 λxs H2=>r x xs H2 Q
variable{o e:Expr}{es:List Expr}{to:TE}{t:TA}{name:Str}{apos cpos:Pos}{T id:String}{r:V→List V→Hp→VK→Prop}
theorem sG(pa:PlainAttrs T)(slot:Slot T name id)(hty:typeOf (.builtin id)=pure (.type "method_descriptor"))(hm:MtR X id r)(ho:PE X o to)(hbase:attributeBase o name X.env (eval o X.env)=eval o X.env:=by rfl)(hline:(apos.endLine==cpos.line)=true:=by rfl):PE X (.Call (.Attribute o name apos) [] [] cpos) (vB X.K T r to):=by
 intro pins s σ H Q I h;refine wpAny_Call_method0_late hbase hline (thn (ho pins s σ H _ I h) λv s1 hpt=>?_);obtain⟨x,H1,I1,r1,ty,q1⟩:=hpt;obtain⟨h1,h2⟩:=oO I1 r1 ty;exact⟨T,id,pa,slot,hty,h1,h2,callWith_builtin rfl (PySem.evalArgs_none (hm pins s1 σ H1 x [] v [] Q I1 r1 .nil q1))⟩
theorem dG(pa:PlainAttrs T)(slot:Slot T name id)(hty:typeOf (.builtin id)=pure (.type "method_descriptor"))(hm:MtR X id r)(ho:PE X o to)(ha:PA X (e::es) t)(hbase:attributeBase o name X.env (eval o X.env)=eval o X.env:=by rfl)(hfew:((backTo cpos (starEach (e::es) X.env)).all (λx=>!x.1)&&(backToKw cpos (keywordEach [] X.env)).all (λx=>x.1.isSome)
   && decide ((e::es).length+([]:List Keyword).length+(if ([]:List Keyword).isEmpty then 0 else 1)<30))=true:=by rfl)(hline:(apos.endLine==cpos.line)=true:=by rfl)(hs:starEach (e::es) X.env=(false,eval e X.env)::starEach es X.env:=by rfl)(hplain:(backTo cpos (starEach es X.env)).any (·.1)=false:=by rfl):
  PE X (.Call (.Attribute o name apos) (e::es) [] cpos) (tBM X.K T r to t):=by
 intro pins s σ H Q I h;refine wpAny_Call_method_late hbase hfew hline rfl (thn (ho pins s σ H _ I h) λv s1 hpt=>?_);obtain⟨x,H1,I1,r1,ty,q1⟩:=hpt;obtain⟨h1,h2⟩:=oO I1 r1 ty;refine⟨T,id,pa,slot,hty,h1,h2,?_⟩;have hA:=ha cpos pins s1 σ H1 _ I1 q1;rw[hs]at hA⊢;refine callWith_builtin (by show(false||(backTo cpos (starEach es X.env)).any (·.1))=false;rw[hplain]<;>rfl) (evalArgs_plain ?_);exact thn hA λus s2 ⟨vs,H2,I2,r2,q2⟩=>hm pins s2 σ H2 x vs v us Q I2 r1 r2 q2
end
def MtM(X:Cx)(id:String)(r:V→List V→Hp→VK→Prop):Prop :=
 ∀(pins:List (Addr×Obj))(s:Shared)(σ:St)(H:Hp)(x:V)(xs:List V)(v:Value)(us:List Value)(Q:VK),Inv X pins σ H s→aw x v→ap xs us→r x xs H Q →
  wpAny (model X.prog X.w) X.A (call (.builtin id) (v::us)) (EP X pins σ Q) X.xe s
theorem ap.one:∀{x:V}{us:List Value},ap [x] us→∃u,us=[u]∧aw x u
 |_,_,.cons r .nil=>⟨_,rfl,r⟩
theorem ap.two:∀{x y:V}{us:List Value},ap [x,y] us→∃u v,us=[u,v]∧aw x u∧aw y v
 |_,_,_,.cons r (.cons q .nil)=>⟨_,_,rfl,r,q⟩
theorem ap.zero:∀{us:List Value},ap [] us→us=[]
 |_,.nil=>rfl
theorem ap.dropLast{xs:List V}{us:List Value}(h:ap xs us):ap xs.dropLast us.dropLast:=by
 induction h with
 |nil=>exact .nil
 |cons r t ih =>
  cases t with
  |nil=>exact .nil
  |cons q t'=>exact .cons r ih
theorem ap.eraseIdx:∀{xs:List V}{us:List Value}(i:Nat),ap xs us→ap (xs.eraseIdx i) (us.eraseIdx i)
 |_,_,_,.nil=>.nil
 |_,_,0,.cons _ t=>t
 |_,_,i+1,.cons r t=>.cons r (ap.eraseIdx i t)
theorem ap.reverse{xs:List V}{us:List Value}(h:ap xs us):ap xs.reverse us.reverse:=by
 induction h with
 |nil=>exact .nil
 |cons r t ih=>rw[List.reverse_cons,List.reverse_cons];exact ap.append ih (.cons r .nil)
theorem lw{α:Type}(l:List α):l.eraseIdx (l.length-1)=l.dropLast:=by
 induction l with
 |nil=>rfl
 |cons a r ih =>
  cases r with
  |nil=>rfl
  |cons b r =>
   have e:(a::b::r).length-1=((b::r).length-1)+1:=by
    have h1:(a::b::r).length=r.length+2:=rfl;have h2:(b::r).length=r.length+1:=rfl;omega
   rw[e,List.eraseIdx_cons_succ,ih]
   all_goals rfl
theorem iB{α:Type}:∀(l:List α)(i:Nat),(l.eraseIdx i).length≤l.length
 |[],_=>le_refl _
 |_::_,0=>le_succ _
 |_::r,i+1=>Nat.succ_le_succ (iB r i)
section
variable{X:Cx}{pins:List (Addr×Obj)}{σ:St}{H:Hp}{s:Shared}{l b:Addr}{xs ys zs:List V}
theorem Inv.lset{its its':List Value}{n:Nat}{f:Array Value→Array Value}{t':Nat}(I:Inv X pins σ H s)(hH:H l=some (.lst xs))(e:s.heap.get? l=some {cls:=.type "list",data:=.seq its.toArray n})(hf:f its.toArray=its'.toArray)(hv:ap ys its')(hz:ys.length≤sizeLine):
  Inv X pins σ (upd H l (.lst ys)) {s with heap:=s.heap.update l (Obj.mapSeq f),toks:=t'}:=by
 have q:=PySem.IsL.update e f;rw[hf]at q;refine I.write (x:=l) (e:=l) (by rw[hH];exact trivial) (.inl rfl) (λb' u hb hu=>(Heap.get?_update_other s.heap (Obj.mapSeq f) (symm hb)).trans hu) ⟨_,q⟩ ?_;exact⟨hz,its',_,hv,q⟩
theorem Inv.lnew{its:List Value}{t':Nat}(I:Inv X pins σ H s)(hv:ap ys its)(hz:ys.length≤sizeLine):
  Inv X pins σ (upd H s.heap.objs.size (.lst ys)) {s with heap:=s.heap.push {cls:=.type "list",data:=.seq its.toArray},toks:=t'} :=
 I.laid (λ_ _ q=>get?_push_of_some _ q) (le_refl _) ⟨hz,its,0,hv,get?_push_size _ rfl⟩
theorem Inv.fresh(I:Inv X pins σ H s):H s.heap.objs.size=none:=I.hok.fresh (le_refl _)
theorem Inv.lstM(I:Inv X pins σ H s)(hH:H l=some (.lst xs)):xs.length≤sizeLine∧∃(its:List Value) (n:Nat),ap xs its∧xs.length=its.length∧s.heap.get? l=some {cls:=.type "list",data:=.seq its.toArray n}:=by
 obtain⟨z,its,n,r,e⟩:=I.hok l _ hH;exact⟨z,its,n,r,r.length,e⟩
def qD:V→List V→Hp→VK→Prop:=λx vs H Q=>∃l xs y,x=.ref l∧vs=[y]∧H l=some (.lst xs)∧xs.length<sizeLine∧Q .non (upd H l (.lst (xs++[y])))
theorem aU:MtM X "list.append" qD:=by
 intro pins s σ H x vs v us Q I rx rv h;obtain⟨l,xs,y,rfl,rfl,hH,hz,q⟩:=h;cases rx;obtain⟨u,rfl,ru⟩:=rv.one;obtain⟨z,its,n,r,hl,e⟩:=I.lstM hH;refine call_meets F.slot_list_append ⟨_,e,rfl⟩ F.entry_list_append (F.args_list_append_2 _ _) (PySem.list_append l its.toArray n u (by rw[size_toArray];omega)) ⟨e,?_⟩;refine⟨.non,_,I.lset (its':=its++[u]) hH e (by simp) (r.append (.cons ru .nil)) ?_,rfl,q⟩;rw[length_append,length_singleton];omega
def vC:V→List V→Hp→VK→Prop:=λx vs H Q=>∃l xs y,x=.ref l∧vs=[]∧H l=some (.lst xs)∧xs[xs.length-1]?=some y∧Q y (upd H l (.lst xs.dropLast))
theorem sH:MtM X "list.pop" vC:=by
 intro pins s σ H x vs v us Q I rx rv h;obtain⟨l,xs,y,rfl,rfl,hH,hy,q⟩:=h;cases rx;have hus:=rv.zero;subst hus;obtain⟨z,its,n,r,hl,e⟩:=I.lstM hH;obtain⟨u,hu,ru⟩:=r.get hy;have hy':its.toArray[its.toArray.size-1]?=some u:=by
  show its.toArray[its.length-1]?=some u;rw[←getElem?_toList,←hl];exact hu
 refine call_meets F.slot_list_pop ⟨_,e,rfl⟩ F.entry_list_pop (F.args_list_pop_1 _) (MeetsSeq.list_pop_last l its.toArray n u hy' (by rw[size_toArray];omega)) ⟨e,?_⟩;refine⟨y,_,I.lset (its':=its.dropLast) hH e ?_ r.dropLast ?_,ru,q⟩
 ·show its.toArray.eraseIdxIfInBounds (its.toArray.size-1)=its.dropLast.toArray;rw[size_toArray,List.eraseIdxIfInBounds_toArray,lw]
 ·rw[List.length_dropLast];omega
def sI:V→List V→Hp→VK→Prop:=λx vs H Q=>∃l xs i k y,x=.ref l∧vs=[.int i]∧H l=some (.lst xs)∧-(2 ^ 63)≤i∧i<2 ^ 63∧seqIndex? i xs.length=some k∧xs[k]?=some y∧Q y (upd H l (.lst (xs.eraseIdx k)))
theorem oP:MtM X "list.pop" sI:=by
 intro pins s σ H x vs v us Q I rx rv h;obtain⟨l,xs,i,k,y,rfl,rfl,hH,h1,h2,hk,hy,q⟩:=h;cases rx;obtain⟨u,rfl,ru⟩:=rv.one;obtain⟨t,rfl⟩:=ru;obtain⟨z,its,n,r,hl,e⟩:=I.lstM hH;obtain⟨w,hw,rw'⟩:=r.get hy;refine call_meets F.slot_list_pop ⟨_,e,rfl⟩ F.entry_list_pop (F.args_list_pop_2 _ _)
  (MeetsSeq.list_pop_at l its.toArray n i t k w (fitsIndex_both h1 h2) (by rw[size_toArray,←hl];exact hk) (by rw[←getElem?_toList];exact hw) (by rw[size_toArray];omega)) ⟨e,?_⟩
 refine⟨y,_,I.lset (its':=its.eraseIdx k) hH e ?_ (r.eraseIdx k) ?_,rw',q⟩
 ·show its.toArray.eraseIdxIfInBounds k=(its.eraseIdx k).toArray;rw[List.eraseIdxIfInBounds_toArray]
 ·have:=iB xs k;omega
def vD:R2:=λx y H Q=>∃l b xs zs,x=.ref l∧y=.ref b∧H l=some (.lst xs)∧H b=some (.lst zs)∧xs.length+zs.length≤sizeLine∧∀p,H p=none→Q (.ref p) (upd H p (.lst (xs++zs)))
theorem jg:OpR X (binaryOp .Add) vD:=by
 intro pins s σ H x y v u Q I rx ry h;obtain⟨l,b,xs,zs,rfl,rfl,hH,hB,hz,q⟩:=h;cases rx;cases ry;obtain⟨z,its,n,r,hl,e⟩:=I.lstM hH;obtain⟨z2,its2,n2,r2,hl2,e2⟩:=I.lstM hB;refine PySem.P.add_list e e2 ?_ (by rw[size_toArray,size_toArray];omega);have ea:its.toArray++its2.toArray=(its++its2).toArray:=by simp
 rw[ea];exact⟨.ref _,_,I.lnew (t':=s.toks) (r.append r2) (by rw[length_append];omega),rfl,q _ I.fresh⟩
end
section
variable{prog:Program}{w:World}{A:Around}{E:Value→Shared→Prop}{s:Shared}
end
section
variable{X:Cx}
end
section
variable{κ:Type}[DecidableEq κ]
def aT(kvs:List (κ×V))(k:κ):Option V:=(kvs.find? λkv=>decide (kv.1=k)).map (·.2)
def dD(kvs:List (κ×V))(k:κ)(v:V):List (κ×V) :=
 if (kvs.any λkv=>decide (kv.1=k))=true then kvs.map (λkv=>if kv.1=k then (kv.1,v)else kv)else kvs++[(k,v)]
def cm(kvs:List (κ×V))(k:κ):List (κ×V):=kvs.filter λkv=>decide (kv.1≠k)
theorem aQ{p:κ×V}{r:List (κ×V)}{k:κ}(e:p.1=k):aT (p::r) k=some p.2:=by simp[aT,find?_cons,e]
theorem aH{p:κ×V}{r:List (κ×V)}{k:κ}(e:¬p.1=k):aT (p::r) k=aT r k:=by simp[aT,find?_cons,e]
theorem eA(k:κ):∀kvs:List (κ×V),(kvs.any λkv=>decide (kv.1=k))=(aT kvs k).isSome
 |[]=>rfl
 |p::r=>by
  rw[any_cons]
  by_cases e:p.1=k
  ·simp only[aQ e,decide_eq_true e,Bool.true_or,isSome_some]
  ·rw[aH e,decide_eq_false e,Bool.false_or];exact eA k r
theorem jR(k j:κ)(y:V):∀kvs:List (κ×V),aT (kvs.map λkv=>if kv.1=k then (kv.1,y)else kv) j=(aT kvs j).map λx=>if j=k then y else x
 |[]=>rfl
 |p::r=>by
  have ih:=jR k j y r;rw[map_cons]
  by_cases h:p.1=k
  ·rw[if_pos h]
   by_cases e:p.1=j
   ·rw[aQ (p:=(p.1,y)) e,aQ e,map_some,if_pos (e.symm.trans h)]
   ·rw[aH (p:=(p.1,y)) e,aH e,ih]
  ·rw[if_neg h]
   by_cases e:p.1=j
   ·rw[aQ (p:=p) e,aQ e,map_some,if_neg (λz=>h (e.trans z))]
   ·rw[aH (p:=p) e,aH e,ih]
theorem iC(k j:κ)(y:V):∀kvs:List (κ×V),aT kvs k=none→aT (kvs++[(k,y)]) j=if j=k then some y else aT kvs j
 |[],_=>by
  by_cases e:k=j
  ·rw[if_pos e.symm];exact aQ (p:=(k,y)) e
  ·rw[if_neg (λz=>e z.symm)];exact aH (p:=(k,y)) e
 |p::r,hn=>by
  rw[List.cons_append];have hk:¬p.1=k:=λz=>by rw[aQ z]at hn;cases hn
  rw[aH hk]at hn;have ih:=iC k j y r hn
  by_cases e:p.1=j
  ·rw[aQ e,aQ e,if_neg (λz=>hk (e.trans z))]
  ·rw[aH e,aH e,ih]
theorem oQ(kvs:List (κ×V))(k j:κ)(y:V):aT (dD kvs k y) j=if j=k then some y else aT kvs j:=by
 unfold dD
 by_cases a:(kvs.any λkv=>decide (kv.1=k))=true
 ·rw[if_pos a,jR];rw[eA]at a
  by_cases e:j=k
  ·obtain⟨x,hx⟩:=isSome_iff_exists.mp a;rw[if_pos e,e,hx,map_some,if_pos rfl]
  ·rw[if_neg e];cases aT kvs j with
   |none=>rfl
   |some x=>rw[map_some,if_neg e]
 ·rw[if_neg a];refine iC k j y kvs ?_;rw[eA]at a;cases q:aT kvs k with
  |none=>rfl
  |some x=>rw[q]at a;exact(a rfl).elim
theorem fM(kvs:List (κ×V))(k:κ)(v:V):(dD kvs k v).length≤kvs.length+1:=by
 unfold dD
 split
 ·rw[length_map];omega
 ·rw[length_append,length_cons,length_nil];omega
theorem oR{kvs:List (κ×V)}{k:κ}(v:V)(h:aT kvs k=none):dD kvs k v=kvs++[(k,v)]:=by
 unfold dD;rw[eA,h];exact if_neg (by decide)
theorem dC.isSome_eq{o:Option V}{u:Option Value}(r:dC o u):o.isSome=u.isSome:=by
 cases o with
 |none=>cases u with
  |none=>rfl
  |some _=>exact(show False from r).elim
 |some _=>cases u with
  |none=>exact(show False from r).elim
  |some _=>rfl
theorem dC.getD{o:Option V}{u:Option Value}{d:V}{d':Value}(r:dC o u)(rd:aw d d'):aw (o.getD d) (u.getD d'):=by
 cases o with
 |none=>cases u with
  |none=>exact rd
  |some _=>exact(show False from r).elim
 |some _=>cases u with
  |none=>exact(show False from r).elim
  |some _=>exact r
theorem KV.val{kvs:List (κ×V)}{vs:List (κ×Value)}(r:KV kvs vs)(k:κ):dC (aT kvs k) (valueAt vs k):=by
 unfold KV at r
 induction r with
 |nil=>exact True.intro
 |@cons p q ps qs h t ih =>
  obtain⟨h1,h2⟩:=h
  by_cases e:p.1=k
  ·have e':q.1=k:=h1.symm.trans e;have b:valueAt (q::qs) k=some q.2:=by simp[valueAt,find?_cons,e']
   rw[aQ e,b];exact h2
  ·have e':¬q.1=k:=λz=>e (h1.trans z);have b:valueAt (q::qs) k=valueAt qs k:=by simp[valueAt,find?_cons,e']
   rw[aH e,b];exact ih
theorem KV.any{kvs:List (κ×V)}{vs:List (κ×Value)}(r:KV kvs vs)(k:κ):(kvs.any λkv=>decide (kv.1=k))=vs.any λkv=>decide (kv.1=k):=by
 unfold KV at r
 induction r with
 |nil=>rfl
 |cons h t ih=>rw[any_cons,any_cons,ih,h.1]
theorem KV.repl{kvs:List (κ×V)}{vs:List (κ×Value)}(r:KV kvs vs)(k:κ){y:V}{u:Value}(ry:aw y u):
  KV (kvs.map λkv=>if kv.1=k then (kv.1,y)else kv) (vs.map λkv=>if kv.1=k then (kv.1,u)else kv):=by
 unfold KV at r⊢
 induction r with
 |nil=>exact .nil
 |@cons p q ps qs h t ih =>
  rw[map_cons,map_cons];refine .cons ?_ ih;obtain⟨h1,h2⟩:=h
  by_cases e:p.1=k
  ·rw[if_pos e,if_pos (h1.symm.trans e)];exact⟨h1,ry⟩
  ·rw[if_neg e,if_neg (λz=>e (h1.trans z))];exact⟨h1,h2⟩
theorem KV.put{kvs:List (κ×V)}{vs:List (κ×Value)}(r:KV kvs vs)(k:κ){y:V}{u:Value}(ry:aw y u):KV (dD kvs k y) (stored vs k u):=by
 unfold dD stored;rw[r.any k]
 by_cases e:(vs.any λkv=>decide (kv.1=k))=true
 ·rw[if_pos e,if_pos e];exact r.repl k ry
 ·rw[if_neg e,if_neg e];exact Paired.snoc r ⟨rfl,ry⟩
theorem KV.drop{kvs:List (κ×V)}{vs:List (κ×Value)}(r:KV kvs vs)(k:κ):KV (cm kvs k) (without vs k):=by
 unfold KV at r⊢;unfold cm without
 induction r with
 |nil=>exact .nil
 |@cons p q ps qs h t ih =>
  obtain⟨h1,h2⟩:=h;rw[filter_cons,filter_cons]
  by_cases e:p.1=k
  ·have a:¬decide (p.1≠k)=true:=by simp[e]
   have b:¬decide (q.1≠k)=true:=by simp[h1.symm.trans e]
   rw[if_neg a,if_neg b];exact ih
  ·have e':¬q.1=k:=λz=>e (h1.trans z);have a:decide (p.1≠k)=true:=by simp[e]
   have b:decide (q.1≠k)=true:=by simp[e']
   rw[if_pos a,if_pos b];exact .cons ⟨h1,h2⟩ ih
theorem KV.length{kvs:List (κ×V)}{vs:List (κ×Value)}(r:KV kvs vs):kvs.length=vs.length:=Paired.length r
theorem jS(kvs:List (κ×V))(k:κ):(cm kvs k).length≤kvs.length:=length_filter_le _ _
end
theorem fQ{P:Program}{w:World}{k:Key}{u:Value}(r:aw (kV k) u):(ao P w).is k u=true:=by
 cases k with
 |inl i=>obtain⟨t,e⟩:=(show ∃t,u=Value.int i t from r);subst e;exact jI P w i t
 |inr x=>obtain⟨t,e⟩:=(show ∃t,u=Value.str x t from r);subst e;exact jJ P w x t
theorem sJ{a b:Key}(e:kV a=kV b):a=b:=by
 cases a with
 |inl i=>cases b with
  |inl j=>have e':V.int i=V.int j:=e;injection e' with e';rw[e']
  |inr y=>exact nomatch (show V.int i=V.str y from e)
 |inr x=>cases b with
  |inl j=>exact nomatch (show V.str x=V.int j from e)
  |inr y=>have e':V.str x=V.str y:=e;injection e' with e';rw[e']
theorem md:∀{a b:List Key},a.map kV=b.map kV→a=b
 |[],[],_=>rfl
 |[],_::_,e=>by simp at e
 |_::_,[],e=>by simp at e
 |x::xs,y::ys,e=>by
  rw[map_cons,map_cons]at e;injection e with e1 e2
  rw[sJ e1,md e2]
theorem fj{P:Program}{w:World}:∀{ks:List Key}{us:List Value},ap (ks.map kV) us→ItemsAre (ao P w) ks us
 |[],_,r=>by rw[map_nil]at r;cases r;exact .nil
 |k::ks,_,r=>by
  rw[map_cons]at r;cases r with
  |cons h t=>exact .cons (fQ h) (fj t)
abbrev KT(H:Hp):List (List Key×V)→List (List Key×Addr×Value)→Prop:=Paired λp q=>p.1=q.1∧H q.2.1=some (.tup (p.1.map kV))∧aw p.2 q.2.2
theorem KT.val{H:Hp}{kvs:List (List Key×V)}{xs:List (List Key×Addr×Value)}(r:KT H kvs xs)(k:List Key):dC (aT kvs k) ((atKey xs k).map (·.2)):=by
 induction r with
 |nil=>exact True.intro
 |@cons p q ps qs h t ih =>
  obtain⟨h1,_,h2⟩:=h
  by_cases e:p.1=k
  ·have e':q.1=k:=h1.symm.trans e;have b:atKey (q::qs) k=some q.2:=by simp[atKey,find?_cons,e']
   rw[aQ e,b];exact h2
  ·have e':¬q.1=k:=λz=>e (h1.trans z);have b:atKey (q::qs) k=atKey qs k:=by simp[atKey,find?_cons,e']
   rw[aH e,b];exact ih
section
variable{P:Program}{w:World}{H:Hp}{h:Heap}{a:Addr}
theorem rT{u:HO}(ok:HOk P w H h)(e:Rd H a u):bb P w H h a u:=e.ok ok
theorem iD{kvs:List (Key×V)}(ok:HOk P w H h)(e:Rd H a (.dK kvs)):kvs.length≤sizeLine∧(a==sysModules)=false∧∃vs,KV kvs vs∧h.DictOf (ao P w) a vs :=
 show bb P w H h a (.dK kvs)from rT ok e
theorem oS{kvs:List (Key×V)}(ok:HOk P w H h)(e:H a=some (.dK kvs)):kvs.length≤sizeLine∧(a==sysModules)=false∧∃vs,KV kvs vs∧h.DictOf (ao P w) a vs:=iD ok (.inl e)
theorem jh{ks:List Key}(ok:HOk P w H h)(e:H a=some (.tup (ks.map kV))):(tupleKind (ao P w)).is h ks a:=by
 obtain⟨_,its,r,o,h1,h2,n,h3⟩:=(show bb P w H h a (.tup (ks.map kV))from ok a _ e);exact⟨o,its.toArray,n,h1,h2,h3,by simpa using fj r⟩
theorem iE{kvs:List (List Key×V)}(ok:HOk P w H h)(e:Rd H a (.dT kvs)):kvs.length≤sizeLine∧(a==sysModules)=false ∧
  ∃xs,KT H kvs xs∧h.DictOfH (tupleKind (ao P w)) a xs:=by
 obtain⟨z,y,xs,r,o,es,ep,h1,h2,h3,h4,h5⟩:=(show bb P w H h a (.dT kvs)from rT ok e);refine⟨z,y,xs,r,o,es,ep,h1,h2,h3,h4,λx hx=>?_,h5⟩;have all:∀{l:List (List Key×V)}{m:List (List Key×Addr×Value)},KT H l m→∀x∈m,(tupleKind (ao P w)).is h x.1 x.2.1:=by
  intro l m q
  induction q with
  |nil=>intro x hx;exact nomatch hx
  |@cons p q ps qs hq t ih =>
   intro x hx;rcases mem_cons.mp hx with e|hx
   ·subst e;exact jh ok (by rw[←hq.1];exact hq.2.1)
   ·exact ih x hx
 exact all r x hx
end
def ji(H:Hp)(a:Addr)(y:V)(r:Option V):Prop :=
 (∃kvs k,Rd H a (.dK kvs)∧y=kV k∧r=aT kvs k)∨∃kvs k b,Rd H a (.dT kvs)∧y=.ref b∧H b=some (.tup (k.map kV))∧r=aT kvs k
section
variable{X:Cx}{pins:List (Addr×Obj)}{σ:St}{H:Hp}{s:Shared}{a:Addr}{y v:V}{u r:Value}{o:Option V}{A:Around}{E:Value→Shared→Prop}
theorem Inv.big(I:Inv X pins σ H s):sysModules<s.heap.objs.size:=by
 have h:mainGlobals<s.heap.objs.size:=(I.mod.glob.keeps I.bk).lt;exact lt_trans (by decide) h
theorem nG{Q:Value→Shared→Prop}(hu:A.units+1<cLine)(I:Inv X pins σ H s)(g:ji H a y (some v))(ry:aw y u)(h:∀w' s',Inv X pins σ H s'→aw v w'→Q w' s'):
  wpAny (model X.prog X.w) A (getItem (.ref a) u) Q E s:=by
 rcases g with⟨kvs,k,e,ey,l⟩|⟨kvs,k,b,e,ey,eb,l⟩
 ·subst ey;obtain⟨z,hd,vs,rel,dd⟩:=iD I.hok e;obtain⟨w',hw,rw'⟩:=dC.some_of (v:=v) (o:=valueAt vs k) (by rw[l];exact rel.val k);exact wpAny_getItem_of (fQ ry) dd.mapOf hw (h w' _ (I.tok _) rw')
 ·subst ey;cases (show u=Value.ref b from ry);obtain⟨z,hd,xs,rel,dd⟩:=iE I.hok e;obtain⟨w',hw,rw'⟩:=dC.some_of (v:=v) (o:=(atKey xs k).map (·.2)) (by rw[l];exact rel.val k);obtain⟨p,hp,hp2⟩:=Option.map_eq_some_iff.mp hw;refine wpAny_getItem_heap (tupleKind_room_in1 hu) (jh I.hok eb) dd hp ?_;rw[hp2];exact h w' _ (I.tok _) rw'
theorem qE{Q:Value→Shared→Prop}(hu:A.units+1<cLine)(I:Inv X pins σ H s)(g:ji H a y o)(ry:aw y u)(h:∀s',Inv X pins σ H s'→Q (.bool (!o.isSome)) s'):
  wpAny (model X.prog X.w) A (compareOp .NotIn u (.ref a)) Q E s:=by
 rcases g with⟨kvs,k,e,ey,l⟩|⟨kvs,k,b,e,ey,eb,l⟩
 ·subst ey;obtain⟨z,hd,vs,rel,dd⟩:=iD I.hok e;refine wpAny_notIn_of (fQ ry) hd dd.mapOf ?_;rw[←(rel.val k).isSome_eq,←l];exact h _ (I.tok _)
 ·subst ey;cases (show u=Value.ref b from ry);obtain⟨z,hd,xs,rel,dd⟩:=iE I.hok e;refine wpAny_notIn_heap (tupleKind_room_in1 hu) (jh I.hok eb) hd dd ?_;have q:=(rel.val k).isSome_eq;rw[Option.isSome_map]at q;rw[←q,←l];exact h _ (I.tok _)
theorem mf{h':Heap}{t':Nat}{ob:HO}(I:Inv X pins σ H s)(mu:Mut (H a))(hs:SameBut a s.heap h')(he:∃q,h'.get? a=some q)(new:bb X.prog X.w (upd H a ob) h' a ob):
  Inv X pins σ (upd H a ob) {s with heap:=h',toks:=t'} :=
 I.write (x:=a) (e:=a) mu (.inl rfl) (λb q hb z=>(hs.2 b hb).trans z) he new
theorem lx{P:Program}{w:World}{H':Hp}{h':Heap}{kvs:List (Key×V)}{vs:List (Key×Value)}(z:kvs.length≤sizeLine)(hd:(a==sysModules)=false)(rel:KV kvs vs)(dd:h'.DictOf (ao P w) a vs):
  bb P w H' h' a (.dK kvs):=⟨z,hd,vs,rel,dd⟩
end
section
variable{X:Cx}{pins:List (Addr×Obj)}{σ:St}{H:Hp}{s:Shared}{a:Addr}{kvs:List (Key×V)}{k:Key}{u:Value}{A:Around}{E:Value→Shared→Prop}
theorem uJ{v:V}{more:List Value}{Q:Value→Shared→Prop}(I:Inv X pins σ H s)(e:H a=some (.dK kvs))(ry:aw (kV k) u)(l:aT kvs k=some v)(hm:more=[]∨∃x,more=[x])(h:∀w' s',Inv X pins σ (upd H a (.dK (cm kvs k))) s'→aw v w'→Q w' s'):wpAny (model X.prog X.w) A (call (.builtin "dict.pop") (.ref a::u::more)) Q E s:=by
 obtain⟨z,hd,vs,rel,dd⟩:=oS I.hok e;obtain⟨w',hw,rw'⟩:=dC.some_of (v:=v) (o:=valueAt vs k) (by rw[←l];exact rel.val k);have hp:(keyPart u).isSome=true:=by
  cases k with
  |inl i=>obtain⟨t,q⟩:=(show ∃t,u=Value.int i t from ry);subst q;rfl
  |inr x=>obtain⟨t,q⟩:=(show ∃t,u=Value.str x t from ry);subst q;rfl
 have ha:argsOk "dict.pop" ⟨.ref a::u::more,[]⟩:=by
  rcases hm with q|⟨x,q⟩
  ·subst q;exact PySem.F.args_dict_pop_2 _ _
  ·subst q;exact PySem.F.args_dict_pop_3 _ _ _
 refine call_meetsIn slot_dict_pop dd.typeIs PySem.F.entry_dict_pop ha (meets_dict_pop_there (ao X.prog X.w) a (fQ ry) more hm hp)
  ⟨vs,w',dd,by rw[←rel.length];exact z,hw,λh' dd' hs=>h w' _ ?_ rw'⟩
 have he:∃q,h'.get? a=some q:=let⟨q,_,_,hq,_⟩:=dd';⟨q,hq⟩;exact mf I (by rw[e];exact True.intro) hs he (lx (le_trans (jS kvs k) z) hd (rel.drop k) dd')
theorem sK{r:Value}{Q:Value→Shared→Prop}(I:Inv X pins σ H s)(e:H a=some (.dK kvs))(ry:aw (kV k) u)(l:aT kvs k=none)(h:∀s',Inv X pins σ H s'→Q r s'):
  wpAny (model X.prog X.w) A (call (.builtin "dict.pop") [.ref a,u,r]) Q E s:=by
 obtain⟨z,hd,vs,rel,dd⟩:=oS I.hok e;have hn:valueAt vs k=none:=dC.none_of (by rw[←l];exact rel.val k);have hp:(keyPart u).isSome=true:=by
  cases k with
  |inl i=>obtain⟨t,q⟩:=(show ∃t,u=Value.int i t from ry);subst q;rfl
  |inr x=>obtain⟨t,q⟩:=(show ∃t,u=Value.str x t from ry);subst q;rfl
 exact call_meetsIn slot_dict_pop dd.typeIs PySem.F.entry_dict_pop (PySem.F.args_dict_pop_3 _ _ _) (meets_dict_pop_default (ao X.prog X.w) a (fQ ry) hd hp r) ⟨vs,dd,hn,h _ (I.tok _)⟩
end
def uK(i:Expr):Prop:=∀ov iv,subscripted i false ov iv=operate [ov,iv] (getItem ov iv)
theorem qF{prog:Program}{w:World}{A:Around}{E:Value→Shared→Prop}{s:Shared}{env:Env}{value slice:Expr}{pos:Pos}{T id:String}{Q:Value→Shared→Prop}(hl:typeLookup (.type T) "__getitem__"=pure (some (.builtin id)))(hs:uK slice)(h:wpAny (model prog w) A (eval value env) (λo s₁=>wpAny (model prog w) A (eval slice env) (λi s₂=>s₂.TypeIs o T∧wpAny (model prog w) A (getItem o i) Q E s₂) E s₁) E s):
  wpAny (model prog w) A (eval (.Subscript value slice pos) env) Q E s:=by
 refine Subscript_ (wpAny_mono h (λo s₁ h₁=>wpAny_mono h₁ (λi s₂ h₂=>?_) λ_ _ x=>x) λ_ _ x=>x);obtain⟨hT,h₂⟩:=h₂;unfold subscriptTail;refine wpAny_bind ?_;rw[getitemInPython_of_ne hT.not_modules];refine wpAny_bind (wpAny_specialOf hT hl ?_);have fin:wpAny (model prog w) A (subscripted slice false o i) (λr s₃=>wpAny (model prog w) A (letTemporaryGo value o r >>= λ_=>pure r) Q E s₃) E s₂:=by
  rw[hs o i];exact wpAny_operating (wpAny_mono h₂ (λr s₃ h₃=>wpAny_bind (wpAny_letTemporaryGo (wpAny_pure h₃))) λ_ _ x=>x)
 first
  |exact wpAny_pure (wpAny_bind fin)
  |exact wpAny_bind (wpAny_pure (wpAny_bind fin))
  |exact wpAny_bind fin
theorem jT{X:Cx}{pins:List (Addr×Obj)}{σ:St}{H:Hp}{s:Shared}{a:Addr}{y:V}{o:Option V}(I:Inv X pins σ H s)(g:ji H a y o):s.TypeIs (.ref a) "dict":=by
 rcases g with⟨kvs,k,e,_,_⟩|⟨kvs,k,b,e,_,_,_⟩
 ·obtain⟨_,_,vs,_,dd⟩:=iD I.hok e;exact dd.typeIs
 ·obtain⟨_,_,xs,_,dd⟩:=iE I.hok e;exact dd.typeIs
def rU(td ty:TE):TE:=λσ H Q=>td σ H λx H1=>ty σ H1 λy H2=>∃a v,x=.ref a∧ji H2 a y (some v)∧Q v H2
def qG(ty td:TE):TE:=λσ H Q=>ty σ H λy H1=>td σ H1 λx H2=>∃a o,x=.ref a∧ji H2 a y o∧Q (.bl (!o.isSome)) H2
section
variable{X:Cx}{o i e value:Expr}{pos pos' tpos:Pos}{td ty tv:TE}
theorem aS(hu:X.A.units+1<cLine)(ho:PE X o td)(hi:PE X i ty)(hs:uK i):PE X (.Subscript o i pos) (rU td ty):=by
 intro pins s σ H Q I h;refine qF PySem.F.slot_dict_getitem.lookup hs (thn (ho pins s σ H _ I h) λu s1 ⟨x,H1,I1,rx,q1⟩=>thn (hi pins s1 σ H1 _ I1 q1) λiv s2 hpt=>?_);obtain⟨y,H2,I2,ry,a,v,ex,g,q2⟩:=hpt;subst ex;obtain rfl:u=Value.ref a:=rx;exact⟨jT I2 g,nG hu I2 g ry λw' s3 I3 rw'=>⟨v,H2,I3,rw',q2⟩⟩
theorem nH(hu:X.A.units+1<cLine)(hi:PE X i ty)(ho:PE X o td):PC X .NotIn i o (qG ty td):=by
 intro pins s σ H Q I h;refine thn (hi pins s σ H _ I h) λiv s1 ⟨y,H1,I1,ry,q1⟩=>thn (ho pins s1 σ H1 _ I1 q1) λu s2 hpt=>?_;obtain⟨x,H2,I2,rx,a,ov,ex,g,q2⟩:=hpt;subst ex;obtain rfl:u=Value.ref a:=rx;exact qE hu I2 g ry λs3 I3=>⟨.bl (!ov.isSome),H2,I3,rfl,q2⟩
end
theorem oT{P:Program}{w:World}{H:Hp}(h:Heap)(hb:sysModules<h.objs.size):bb P w H (h.push {cls:=.type "dict",data:=.dict #[]}) h.objs.size (.dK []) :=
 ⟨zero_le _,beq_eq_false_iff_ne.mpr (symm (ne_of_lt hb)),[],.nil,Heap.DictOf.new h⟩
def sL:TE:=λ_ H Q=>∀p,H p=none→Q (.ref p) (upd H p (.dK []))
section
variable{X:Cx}{pos:Pos}
theorem jU:PE X (.Dict [] [] pos) sL:=λpins s σ H Q I h =>
 wpAny_Dict_empty ⟨.ref s.heap.objs.size,_,I.laid (a:=s.heap.objs.size) (o:=.dK []) (t':=s.toks) (λ_ _ q=>get?_push_of_some _ q) (le_refl _) (oT s.heap I.big),rfl,h _ (I.hok.fresh (le_refl _))⟩
end
structure M1(X:Cx)(o:Expr)(m:Str)(apos:Pos)(e:Expr)(cpos:Pos):Prop where
 base:attributeBase o m X.env (eval o X.env)=eval o X.env
 few:((backTo cpos (starEach [e] X.env)).all (λx=>!x.1)&&(backToKw cpos (keywordEach [] X.env)).all (λx=>x.1.isSome)
  && decide (([e]:List Expr).length+([]:List Keyword).length+(if ([]:List Keyword).isEmpty then 0 else 1)<30))=true
 line:(apos.endLine==cpos.line)=true
 trees:backTo cpos (starEach [e] X.env)=[(false,eval e X.env)]
structure M2(X:Cx)(o:Expr)(m:Str)(apos:Pos)(e f:Expr)(cpos:Pos):Prop where
 base:attributeBase o m X.env (eval o X.env)=eval o X.env
 few:((backTo cpos (starEach [e,f] X.env)).all (λx=>!x.1)&&(backToKw cpos (keywordEach [] X.env)).all (λx=>x.1.isSome)
  && decide (([e,f]:List Expr).length+([]:List Keyword).length+(if ([]:List Keyword).isEmpty then 0 else 1)<30))=true
 line:(apos.endLine==cpos.line)=true
 trees:backTo cpos (starEach [e,f] X.env)=[(false,eval e X.env),(false,eval f X.env)]
def IsD(H:Hp)(a:Addr):Prop:=(∃kvs,Rd H a (.dK kvs))∨∃kvs,Rd H a (.dT kvs)
theorem sM{X:Cx}{pins:List (Addr×Obj)}{σ:St}{H:Hp}{s:Shared}{a:Addr}(I:Inv X pins σ H s)(d:IsD H a):
  s.TypeIs (.ref a) "dict"∧(∀b,Value.ref a=.ref b→∃ob,s.heap.get? b=some ob∧ob.dict=none)∧(a==sysModules)=false:=by
 rcases d with⟨kvs,e⟩|⟨kvs,e⟩
 ·obtain⟨_,hd,vs,_,dd⟩:=iD I.hok e;refine⟨dd.typeIs,λb q=>?_,hd⟩;cases q;obtain⟨ob,_,_,h1,h2,_⟩:=dd;exact⟨ob,h1,h2.2.1⟩
 ·obtain⟨_,hd,xs,_,dd⟩:=iE I.hok e;refine⟨dd.typeIs,λb q=>?_,hd⟩;cases q;obtain⟨ob,_,_,h1,h2,_⟩:=dd;exact⟨ob,h1,h2.2.1⟩
section
variable{X:Cx}{pins:List (Addr×Obj)}{σ:St}{H:Hp}{s:Shared}{a:Addr}{y d:V}{u r:Value}{o:Option V}{A:Around}{E:Value→Shared→Prop}
theorem sN{Q:Value→Shared→Prop}(hu:A.units+1<cLine)(I:Inv X pins σ H s)(g:ji H a y o)(ry:aw y u)(h:∀w' s',Inv X pins σ H s'→aw (o.getD .non) w'→Q w' s'):
  wpAny (model X.prog X.w) A (call (.builtin "dict.get") [.ref a,u]) Q E s:=by
 rcases g with⟨kvs,k,e,ey,l⟩|⟨kvs,k,b,e,ey,eb,l⟩
 ·subst ey;obtain⟨z,hd,vs,rel,dd⟩:=iD I.hok e;refine call_meetsIn slot_dict_get dd.typeIs entry_dict_get (args_dict_get_2 _ _) (meets_dict_get (ao X.prog X.w) a (fQ ry) hd) ⟨_,dd.mapOf,h _ _ (I.tok _) ?_⟩;rw[l];exact(rel.val k).getD rfl
 ·subst ey;cases (show u=Value.ref b from ry);obtain⟨z,hd,xs,rel,dd⟩:=iE I.hok e;refine call_meetsIn slot_dict_get dd.typeIs entry_dict_get (args_dict_get_2 _ _) (meetsH_dict_get (tupleKind (ao X.prog X.w)) a b hd) ⟨tupleKind_room_in1 hu,k,xs,jh I.hok eb,dd,h _ _ (I.tok _) ?_⟩;rw[l];exact(rel.val k).getD rfl
end
def sO(td ty tx:TE):TE:=λσ H Q=>td σ H λx H1=>∃a,x=.ref a∧IsD H1 a∧ty σ H1 λy H2=>tx σ H2 λz H3=>∃kvs k,H3 a=some (.dK kvs)∧y=kV k ∧
 (∀v,aT kvs k=some v→Q v (upd H3 a (.dK (cm kvs k))))∧(aT kvs k=none→Q z H3)
section
variable{X:Cx}{o e f:Expr}{apos cpos:Pos}{td ty tx:TE}
theorem oU(ho:PE X o td)(he:PE X e ty)(hf:PE X f tx)(m:M2 X o "pop" apos e f cpos):PE X (.Call (.Attribute o "pop" apos) [e,f] [] cpos) (sO td ty tx):=by
 intro pins s σ H Q I h;refine wpAny_Call_method m.base m.few m.line plainAttrs_dict slot_dict_pop PySem.F.type_dict_pop (thn (ho pins s σ H _ I h) λu s1 hpt=>?_);obtain⟨x,H1,I1,rx,a,ex,d,q1⟩:=hpt;subst ex;obtain rfl:u=Value.ref a:=rx;obtain⟨t1,t2,_⟩:=sM I1 d;refine⟨t1,t2,?_⟩;rw[m.trees];refine callWith_builtin rfl (evalArgs_plain (spliced_cons (thn (he pins s1 σ H1 _ I1 q1) λiv s2 ⟨y,H2,I2,ry,q2⟩ =>
  spliced_cons (thn (hf pins s2 σ H2 _ I2 q2) λfv s3 ⟨z,H3,I3,rz,kvs,k,ea,ey,q3,q4⟩=>spliced_nil ?_))))
 subst ey;cases l:aT kvs k with
 |some v=>exact uJ I3 ea ry l (.inr ⟨fv,rfl⟩) λw' s4 I4 rw'=>⟨v,_,I4,rw',q3 v l⟩
 |none=>exact sK I3 ea ry l λs4 I4=>⟨z,H3,I4,rz,q4 l⟩
end
section
variable{X:Cx}{pins:List (Addr×Obj)}{σ:St}{H:Hp}{s:Shared}{a:Addr}{kvs:List (Key×V)}{A:Around}{E:Value→Shared→Prop}
end
section
variable{X:Cx}{pins:List (Addr×Obj)}{σ:St}{H:Hp}{s:Shared}{a:Addr}{y:V}{u:Value}{A:Around}{E:Value→Shared→Prop}
end
end L2
namespace Att
open PySem PySem.W PySem.Calls PyProof.Rows
theorem gc{P:Params}{h:Heap}:∀(ns:List Int)(vs:List Value),WellAll P h vs (ns.map WData.int)→IntsAre vs ns:=by
 intro ns
 induction ns with
 |nil =>
  intro vs w;rw[map_nil]at w;cases w;exact .nil
 |cons n ns ih =>
  intro vs w;rw[map_cons]at w;cases w with
  |cons a b =>
   cases a;exact .cons _ _ (ih _ b)
theorem nI{l:OpenLaw}{n:Nat}(hn:l.most=some n){P:Params}{h:Heap}{args:List WData}{vals:List Value}(hpre:l.row.toRowW.claim.pre args=true)(hwl:WellAll P h vals args):
  ∃a vs ns,vals=[Value.ref a]∧args=[WData.list (ns.map WData.int)]∧h.get? a=some {cls:=.type "list",data:=.seq vs.toArray}∧IntsAre vs ns∧ns.length≤n:=by
 have hsh:WShape.hasAll [] args [.list .int]=true:=(pre_splitW hpre).1;have hc:l.pre.holds [] {args:=args}=true:=(pre_splitW hpre).2;obtain⟨d,r,rfl,h1,h2⟩:=hasAllW_cons hsh;obtain rfl:=hasAllW_nil h2;obtain⟨xs,rfl,h3⟩:=hasW_list h1;obtain⟨ns,rfl⟩:=items_int h3;have hlen:ns.length≤n:=by
  unfold OpenLaw.pre at hc;have h4:(WTm.not (.lt (.lit (.int (n:Int))) (.len (.arg 0)))).holds [] {args:=[.list (ns.map .int)]}=true:=by
   have h4:=(holds_andW hc).1;rw[hn]at h4;exact h4
  have h5:=condW_of h4 (w_not (w_lt w_lit (w_len_list (w_arg rfl))));rw[length_map]at h5;refine Nat.le_of_not_lt λq=>?_;have q':(n:Int)<((ns.length:Nat):Int):=by omega
  first
   |(rw[decide_eq_true q']at h5;exact absurd h5 (by decide))
   |(simp at h5;omega)
 cases hwl with
 |cons w1 w2 =>
  cases w2;cases w1 with
  |list ho hall=>exact⟨_,_,ns,rfl,rfl,ho,gc ns _ hall,hlen⟩
theorem nJ(l:OpenLaw)(args:List WData):l.row.toRowW.claim.post args (.bool true) args=true :=
 postW_of (r:=l.row.toRowW) (X:=(true==true))
  (show WShape.has [] (.bool true) .bool=true by first|rfl|decide|simp[WShape.has,WShape.arms,WShape.armsAll])
  (show(WTm.eq .res (.lit (.bool true))).value [] {args:=args,res:=some (.bool true),after:=args}=some (.bool (true==true))from w_eq_bool (w_res rfl) w_lit) rfl
theorem jV{l:OpenLaw}{n:Nat}{q:Program}{loose:List Str}{XP:(Str→Option Value)→Heap→Prop}{YP:World→Heap→Prop}{d:DefRec}(hn:l.most=some n)(hdf:d.params.defaults=[])(call:∀(w:World) (s₀ s₁:Shared) (mg mb:Str→Option Value) (fa:Addr) (o:Obj) (pm cd doc:Value) (a:Addr) (vs:List Value) (ns:List Int),
   Ground q loose [] XP w s₀ mg mb s₁.heap→YP w s₁.heap →
   s₁.heap.get? fa=some o→o.data=.func (docDef d.name d.params d.body d.scope pm cd doc)→s₁.heap.CodeRec cd d.name→mg d.name=some (.ref fa) →
   s₁.heap.get? a=some {cls:=.type "list",data:=.seq vs.toArray}→IntsAre vs ns→ns.length≤n→s₁.gens=#[] →
   codeAny (model l.prog w) callerA (.call (.ref fa) ⟨[.ref a],[]⟩) (λr s'=>r=.ok (.ret (.bool true))∧OldK s₁.heap s'.heap∧s'.os=s₁.os∧AllBare s'.gens) s₁):
  WalkO q loose XP YP l.row.toRowW d [] (λf vs=>PySem.call f vs):=by
 intro w s₀ s₁ mg mb G Y fa o pm cd doc dV kV ho hd hcd hD hmg hg args vals as hpre hlay hrd hwl hlo;obtain rfl:dV=.none:=Dflts.none hD hdf;obtain rfl:kV=.none:=Dflts.noKw hD;obtain⟨a,vs,ns,rfl,rfl,hobj,hints,hlen⟩:=nI hn hpre hwl;refine enter_call (codeAny_mono (call w s₀ s₁ mg mb fa o pm cd doc a vs ns G Y ho (fd_plain hd) hcd hmg hobj hints hlen hg) λr s' hq=>?_);obtain⟨rfl,h2,h3,h4⟩:=hq;exact⟨.inl ⟨.bool true,.bool true,[],rfl,λ_=>rfl,.bool true,nJ l _,λ_=>⟨Pairwise.nil,λ_ hm=>(nomatch hm)⟩⟩,h2,h3,h4⟩
section
variable{prog:Program}{w:World}{A:Around}{E:Value→Shared→Prop}{s:Shared}{K:Frag}
end
end Att
namespace L2
open PySem PySem.Spec PyProof.Rows
theorem iF:∀{vs:List Value}{ns:List Int},IntsAre vs ns→ap (ns.map V.int) vs
 |_,_,.nil=>.nil
 |_,_,.cons n t h=>.cons ⟨t,rfl⟩ (iF h)
def cT(s:Stmt):Arguments:=match s with
 |.FunctionDef _ a _ _ _ _ _ _ _ _=>a
 |_=>{posonlyargs:=[],args:=[],vararg:=none,kwonlyargs:=[],kw_defaults:=[],kwarg:=none,defaults:=[]}
def bg(s:Stmt):List Stmt:=match s with
 |.FunctionDef _ _ b _ _ _ _ _ _ _=>b
 |_=>[]
def ae(s:Stmt):Scope:=match s with
 |.FunctionDef _ _ _ _ _ _ sc _ _ _=>sc
 |_=>{kind:=.function,names:=[],isGenerator:=false,isCoroutine:=false}
abbrev CX0:CXT:=λ_ _ _ _ _ _=>False
abbrev E0:XK:=λ_ _ _=>False
theorem aJ{X:Cx}:gG CX0 X E0:=λ_ _ _ _ _ _ _ h=>h.elim
structure Fun(K:PySem.W.Frag)(x qual:Str)(st:Stmt)(f:Addr)(fd:FuncData):Prop where
 ex:∃(oc:Value) (od:Option Addr) (kV doc pm:Value) (an:Option Addr) (cdv ct:Value) (osl:Array (Option Value)),
  fd=fnOf x qual (cT st) (bg st) (ae st) .none kV doc pm an cdv ct∧K.lookup f=some ⟨oc,od,.func fd,osl⟩∧codeIn K cdv qual=true
 kp:keepIn K (.ref f)=true
section
variable{P:Program}{w:World}{K:PySem.W.Frag}{mg:Str→Option Value}{base:Heap}
theorem Fun.ok{x qual:Str}{st:Stmt}{f:Addr}{fd:FuncData}{N ps:List Str}{k:Nat}{sp:Sp}(F:Fun K x qual st f fd)(S:FnScope N ps (ae st))(len:∀vs H Q E,sp vs H Q E→vs.length=ps.length)(hbody:∀(cdv:Value) (A:Around) (outer:List Env) (s:Shared) (H:Hp) (vs:List V) (Q:VK) (E:XK),Room k (A.deeper (envOfC qual (ae st) s.heap.objs.size f cdv))→sp vs H Q E →
   ∃t,PSs (gb CX0 P w K mg base N qual (ae st) f cdv A outer s H E).nox (bg st) t∧t {nx:=λ_ H'=>Q .non H',rt:=Q} (start N vs) H):FnOk P w K mg base CX0 (k+1) f fd ps sp:=by
 obtain⟨oc,od,kV,doc,pm,an,cdv,ct,osl,rfl,lk,hcd⟩:=F.ex;refine oJ lk hcd S len λA outer s H vs Q E hr hsp=>?_;obtain⟨t,h,q⟩:=hbody cdv A outer s H vs Q E hr hsp;exact⟨t,h.nox,q⟩
theorem Fun.binds{x qual:Str}{st:Stmt}{f:Addr}{fd:FuncData}{ps:List Str}(F:Fun K x qual st f fd)(h:∀(kV doc pm:Value) (an:Option Addr) (cdv ct:Value) (us:List Value),us.length=ps.length→bindArgs (fnOf x qual (cT st) (bg st) (ae st) .none kV doc pm an cdv ct) ⟨us,[]⟩=pure (ps.zip us)):cp K fd ps []:=by
 obtain⟨oc,od,kV,doc,pm,an,cdv,ct,osl,rfl,lk,hcd⟩:=F.ex;exact .all (h kV doc pm an cdv ct)
theorem sP{x qual:Str}{st:Stmt}{f:Addr}{oc:Value}{od an:Option Addr}{osl:Array (Option Value)}{kV doc pm cdv ct:Value}(l:K.lookup f=some ⟨oc,od,.func (fnOf x qual (cT st) (bg st) (ae st) .none kV doc pm an cdv ct),osl⟩)(c:codeIn K cdv qual=true)(k:keepIn K (.ref f)=true):Fun K x qual st f (fnOf x qual (cT st) (bg st) (ae st) .none kV doc pm an cdv ct):=⟨⟨oc,od,kV,doc,pm,an,cdv,ct,osl,rfl,l,c⟩,k⟩
end
theorem bv{A:Around}{k:Nat}(hr:Room k A):A.units+1<cLine:=lt_of_le_of_lt (Nat.add_le_add_left (by decide:1≤64) _) hr.units
theorem az{n:Nat}(h:n≤1000):n<sizeLine:=lt_of_le_of_lt h (by decide)
section
variable{X:Cx}
theorem pv(i:Nat){x:Str}{pos:Pos}(hN:X.N[i]?=some x:=by rfl)(hv:Vis X.env.scope x:=by first|exact Or.inl rfl|exact Or.inr (Or.inl rfl)|exact Or.inr (Or.inr rfl))(hd:(x==("__debug__":Str))=false:=by decide)(hcd:(x==("__classdict__":Str))=false:=by decide):PE X (.Name x pos) (ie i):=sr hN hv hd hcd
end
theorem bZ{A B:Prop}(h:B):if false=true then A else B:=by
 rw[if_neg Bool.false_ne_true];exact h
theorem dM{A B:Prop}(h:A):if true=true then A else B:=by
 rw[if_pos rfl];exact h
theorem vE{c A B:Prop}[Decidable c](h1:c→A)(h2:¬c→B):if c then A else B:=by
 by_cases h:c
 ·rw[if_pos h];exact h1 h
 ·rw[if_neg h];exact h2 h
def Same(H H':Hp):Prop:=∀b o,H b=some o→H' b=some o
theorem Same.refl(H:Hp):Same H H:=λ_ _ h=>h
theorem Same.trans{H H1 H2:Hp}(a:Same H H1)(b:Same H1 H2):Same H H2:=λc o h=>b c o (a c o h)
theorem Same.free{H H':Hp}(e:Same H H'){l:Addr}(h:H' l=Option.none):H l=Option.none:=by
 cases q:H l with
 |none=>rfl
 |some o =>
  rw[e l o q]at h;cases h
theorem Same.seq{K:PySem.W.Frag}{H H':Hp}{a:Addr}{xs:List V}(e:Same H H')(h:SqL K H a xs):SqL K H' a xs:=by
 rcases h with (h|⟨o,h⟩)|h
 ·exact .inl (.inl (e _ _ h))
 ·exact .inl (.inr ⟨o,e _ _ h⟩)
 ·exact .inr h
section
variable{κ:Type}[DecidableEq κ]
theorem nK{p:κ×V}{r:List (κ×V)}{k:κ}(e:p.1=k):cm (p::r) k=cm r k:=by
 unfold cm;rw[filter_cons,if_neg (by simp[e])]
theorem nL{p:κ×V}{r:List (κ×V)}{k:κ}(e:¬p.1=k):cm (p::r) k=p::cm r k:=by
 unfold cm;rw[filter_cons,if_pos (by simp[e])]
end
structure LcOk(X:Cx)(scope:Scope)(cl:List (Str×Addr)):Prop where
 kind:scope.kind=.function
 clos:closureFor scope X.env=pure cl
 names:∀x∈scope.names,x.2=.local→scope.names.lookup x.1=some .local
 nocell:∀x∈scope.names,x.2≠.cell
 cells:∀x c,cl.lookup x=some c→X.env.cells.lookup x=some c
 has:∀x,((relabel scope X.env).names.lookup x=some .cell∨(relabel scope X.env).names.lookup x=some .free)→∃c,cl.lookup x=some c
abbrev bh(X:Cx)(N:List Str)(scope:Scope)(cl:List (Str×Addr))(s:Shared)(H:Hp)(ex:List Addr):Cx :=
 {X with N:=N,s₀:=s,H₀:=H,env:=compEnvC scope cl s.heap.objs.size X.env,outer:=X.stack,stack:=X.stack,ex:=ex,fn:=λ_=>false,pn:=[],xe:=λ_ _=>False}
section
variable{X:Cx}{pins:List (Addr×Obj)}{σ:St}{H:Hp}{s:Shared}{N:List Str}{scope:Scope}{cl:List (Str×Addr)}{fp:List Addr}
theorem jW(I:Inv X pins σ H s)(L:LcOk X scope cl)(hf:∀b∈fp,cy X pins H b)(ho:∀b∈fp,b<s.heap.objs.size):(bh X N scope cl s H fp).Ok where
 mod:=I.ok.mod
 kind:=L.kind
 glob:=I.ok.glob
 blt:=I.ok.blt
 above:=le_refl _
 inj:=λx y c h1 h2=>I.ok.inj x y c (L.cells x c h1) (L.cells y c h2)
 has:=λx hx=>L.has x hx
 cab:=λx c h _=>absurd h (by simp)
 hd:=I.ok.hd
 frames:=I.ok.frames
 stk:=.inl rfl
 exf:=λb hb=>⟨ne_of_lt (ho b hb),λx c h=>(hf b hb).2.2.2.2.1 x c (L.cells x c h)⟩
 bs:=I.bs
 bsz:=le_trans I.ok.bsz I.sz
 noex:=λb o e hb=>by
  rcases (hf b hb).2.2.2.1 with z|z
  ·exact I.ok.noex b o e z
  ·exact absurd (lt_of_lt_of_le (lt_size e) (le_trans I.ok.bsz z)) (lt_irrefl _)
 exfs:=λb hb hs=>by
  rcases mem_cons.mp (I.stkSub b hs)with z|z
  ·exact(hf b hb).2.1 z
  ·exact(hf b hb).2.2.1 z
 funs:=I.stack
 frf:=I.stkFree
def bc(k:Nat)(js:List Nat)(σ:St):St:=List.replicate k none++js.map λj=>(σ[j]?).getD none
theorem eB{h₁:Heap}{tk:Nat}{k:Nat}{js:List Nat}(I:Inv X pins σ H s)(L:LcOk X scope cl)(hf:∀b∈fp,cy X pins H b)(ho:∀b∈fp,b<s.heap.objs.size)(hns:∃m,h₁.Ns s.heap.objs.size m)(hk:∀b o,s.heap.get? b=some o→h₁.get? b=some o)(hN:N.length=k+js.length)(hj:∀(i j:Nat) x,js[i]?=some j→N[k+i]?=some x→X.N[j]?=some x∧Vis X.env.scope x∧X.env.scope.names.lookup x≠some .local∧((relabel scope X.env).names.lookup x=some .cell∨(relabel scope X.env).names.lookup x=some .free)):
  Inv (bh X N scope cl s H fp) [] (bc k js σ) H {s with heap:=h₁,toks:=tk}:=by
 obtain⟨m,hm⟩:=hns;have cellK:∀c v,s.heap.IsCell c v→h₁.IsCell c v:=λc v ⟨o,e,d⟩=>⟨o,hk c o e,d⟩;refine⟨jW I L hf ho,rfl,I.bare,Un.kept hk,⟨m,hm,λi x v e1 e2 e3=>?_⟩,λx c e=>?_,I.hok.fresh (le_refl _),λx c e=>I.freeC x c (L.cells x c e),λp hp=>absurd (show p∈([]:List (Addr×Obj))from hp) (by simp),I.hok.kept hk,?_⟩
 ·unfold bc at e2
  by_cases hi:i<k
  ·rw[getElem?_append_left (by simpa using hi),List.getElem?_replicate]at e2
   split at e2<;>cases e2
  ·obtain⟨i',rfl⟩:∃i',i=k+i':=⟨i-k,by omega⟩;rw[getElem?_append_right (by simp),length_replicate,Nat.add_sub_cancel_left,getElem?_map]at e2;cases ej:js[i']? with
   |none=>rw[ej]at e2;cases e2
   |some j =>
    rw[ej]at e2;have e2':(σ[j]?).getD none=some v:=Option.some.inj e2;obtain⟨h1,h2,h3,h4⟩:=hj i' j x ej e1;have e4:σ[j]?=some (some v):=by
     cases q:σ[j]? with
     |none=>rw[q]at e2';cases e2'
     |some y=>rw[q]at e2';exact congrArg some e2'
    obtain⟨m0,_,hl⟩:=I.loc;obtain⟨u,r,lk⟩:=hl j x v h1 e4 h2;refine⟨u,r,.inr ⟨h4,?_⟩⟩;rcases lk with⟨q,_⟩|⟨_,c,e5,e6⟩
    ·exact absurd q h3
    ·obtain⟨c',e7⟩:=L.has x h4;have:c'=c:=Option.some.inj ((L.cells x c' e7).symm.trans e5);subst this;exact⟨c',e7,cellK c' _ e6⟩
 ·obtain⟨v,e1⟩:=I.cell x c (L.cells x c e);exact⟨v,cellK c v e1⟩
 ·unfold bc;rw[length_append,length_replicate,length_map];exact hN.symm
theorem jj{H':Hp}{σ':St}{s':Shared}{h':Heap}(I:Inv X pins σ H s)(hf:∀b∈fp,cy X pins H b)(J:Inv (bh X N scope cl s H fp) [] σ' H' s')(hs:SameBut s.heap.objs.size s'.heap h'):Inv X pins σ H' {s' with heap:=h'}:=by
 have ne:∀b o,s.heap.get? b=some o→b≠s.heap.objs.size:=λb o e=>ne_of_lt (lt_size e);have u:=J.base;have u':Un (frs X.stack) fp H H' s.heap h' :=
  ⟨λb o e n hb hx=>(hs.2 b (ne b o e)).trans (u.keep b o e n hb hx),λb o e n hb hx=>by
   obtain⟨sl,q⟩:=u.slot b o e n hb hx;exact⟨sl,(hs.2 b (ne b o e)).trans q⟩,u.free,λb o e hx=>by
   obtain⟨o',q⟩:=u.there b o e hx;exact⟨o',(hs.2 b (ne b o e)).trans q⟩,u.tups,u.frzs,u.tbls⟩
 have nt:∀b o,H' b=some o→b≠s.heap.objs.size:=λb o e z=>by
  have:=J.free;rw[show(bh X N scope cl s H fp).env.locals=s.heap.objs.size from rfl,←z,e]at this;cases this
 refine I.call' (s':={s' with heap:=h'}) J.os u' (λb o e=>?_) J.bare λb hb=>?_
 ·refine(J.hok b o e).stay (λc v hc q=>(hs.2 c ?_).trans q) (λ_ q=>q) λ_ _ q=>q;rcases hc with z|z
  ·rw[z];exact nt b o e
  ·exact nt c _ z
 ·obtain⟨f0,f1,f2,f3,f4,f5⟩:=hf b hb;exact⟨f3,f1,f4,f5⟩
end
section
variable{prog:Program}{w:World}{A:Around}{R:Result→Shared→Prop}{s:Shared}
theorem jk{elt target iter:Expr}{scope:Scope}{pos:Pos}{it acc:Value}{env:Env}(I:Nat→Shared→Prop)(turn:∀n s,I n s→wpAny (model prog w) A (pyNext it) (λr s₁=>match r with
   |none=>R (.ok .next) s₁
   | some v=>wpAny (model prog w) A (letOwnedTupleGo target it v) (λ_ s₂=>wpAny (model prog w) A (assign target env v) (λ_ s₃=>wpAny (model prog w) A (eval elt env) (λx s₄ =>
     wpAny (model prog w) A (call (.builtin "list.append") [acc,x]) (λ_ s₅=>∃m,m<n∧I m s₅) (λ_ _=>False) s₄) (λ_ _=>False) s₃) (λ_ _=>False) s₂) (λ_ _=>False) s₁) (λ_ _=>False) s)(n:Nat)(h:I n s):codeAny (model prog w) A (.compLoop (.ListComp elt [⟨target,iter,[],0⟩] scope pos) 0 it acc env) R s:=by
 refine codeAny_loop rfl I (λn s hI=>?_) n h;show wpAny _ _ ((compTurn (.ListComp elt [⟨target,iter,[],0⟩] scope pos) 0 it acc env).onRaise (λx=>do noteFrame x env;theTreesLotGoes x)) _ _ s;refine wpAny_noted ?_;rw[compTurn_list1];refine wpAny_bind (wpAny_standAt (wpAny_bind (wpAny_mono (turn n s hI) (λr s₁ h₁=>?_) λ_ _ h'=>h'.elim)));cases r with
 |none=>exact wpAny_pure h₁
 |some v =>
  refine wpAny_bind (wpAny_mono h₁ (λ_ s₂ h₂=>?_) λ_ _ h'=>h'.elim);exact wpAny_bind (wpAny_mono h₂ (λ_ s₂ h₂=>wpAny_bind (wpAny_bind (wpAny_mono h₂ (λx s₃ h₃=>wpAny_bind (wpAny_mono h₃
   (λ_ s₄ h₄=>wpAny_pure (wpAny_pure ⟨rfl,h₄⟩)) λ_ _ h'=>h'.elim)) λ_ _ h'=>h'.elim))) λ_ _ h'=>h'.elim)
theorem gJ(elt target iter c:Expr)(scope:Scope)(pos:Pos)(it acc:Value)(env:Env):
  compTurn (.ListComp elt [⟨target,iter,[c],0⟩] scope pos) 0 it acc env=(standAt iter.pos >>= λ_=>pyNext it >>= λr=>match r with
   |none=>pure (.done .next)
   |some v=>letOwnedTupleGo target it v >>= λ_=>assign target env v >>= λ_ =>
    (forIn [c] true λc r=>if r=true then do let ok ← isTrue c env (eval c env);pure (ForInStep.yield ok)else pure (ForInStep.yield r)) >>= λok =>
    if ok=true then (eval elt env >>= λx=>call (.builtin "list.append") [acc,x] >>= λ_=>pure ()) >>= λ_ =>
     again (.compLoop (.ListComp elt [⟨target,iter,[c],0⟩] scope pos) 0 it acc env)
    else again (.compLoop (.ListComp elt [⟨target,iter,[c],0⟩] scope pos) 0 it acc env)):=by rfl
theorem jX{elt target iter c:Expr}{scope:Scope}{pos:Pos}{it acc:Value}{env:Env}(I:Nat→Shared→Prop)(turn:∀n s,I n s→wpAny (model prog w) A (pyNext it) (λr s₁=>match r with
   |none=>R (.ok .next) s₁
   | some v=>wpAny (model prog w) A (letOwnedTupleGo target it v) (λ_ s₂=>wpAny (model prog w) A (assign target env v) (λ_ s₃=>wpAny (model prog w) A (isTrue c env (eval c env)) (λok s₃ =>
     if ok=true then wpAny (model prog w) A (eval elt env) (λx s₄ =>
      wpAny (model prog w) A (call (.builtin "list.append") [acc,x]) (λ_ s₅=>∃m,m<n∧I m s₅) (λ_ _=>False) s₄) (λ_ _=>False) s₃
     else ∃m,m<n∧I m s₃) (λ_ _=>False) s₃) (λ_ _=>False) s₂) (λ_ _=>False) s₁) (λ_ _=>False) s)(n:Nat)(h:I n s):codeAny (model prog w) A (.compLoop (.ListComp elt [⟨target,iter,[c],0⟩] scope pos) 0 it acc env) R s:=by
 refine codeAny_loop rfl I (λn s hI=>?_) n h;show wpAny _ _ ((compTurn (.ListComp elt [⟨target,iter,[c],0⟩] scope pos) 0 it acc env).onRaise (λx=>do noteFrame x env;theTreesLotGoes x)) _ _ s;refine wpAny_noted ?_;rw[gJ];refine wpAny_bind (wpAny_standAt (wpAny_bind (wpAny_mono (turn n s hI) (λr s₁ h₁=>?_) λ_ _ h'=>h'.elim)));cases r with
 |none=>exact wpAny_pure h₁
 |some v =>
  refine wpAny_bind (wpAny_mono h₁ (λ_ s₂ h₂=>?_) λ_ _ h'=>h'.elim);refine wpAny_bind (wpAny_mono h₂ (λ_ s₃ h₃=>?_) λ_ _ h'=>h'.elim);rw[List.forIn_cons];simp only[if_true];refine wpAny_bind (wpAny_bind (wpAny_bind (wpAny_mono h₃ (λok s₄ h₄=>wpAny_pure ?_) λ_ _ h'=>h'.elim)));simp only[List.forIn_nil];refine wpAny_pure ?_;cases ok with
  |true =>
   rw[if_pos rfl]at h₄⊢;exact wpAny_bind (wpAny_bind (wpAny_mono h₄ (λx s₃ h₃=>wpAny_bind (wpAny_mono h₃ (λ_ s₄ h₄=>wpAny_pure (wpAny_pure ⟨rfl,h₄⟩)) λ_ _ h'=>h'.elim)) λ_ _ h'=>h'.elim))
  |false =>
   rw[if_neg (by simp)]at h₄⊢;exact wpAny_pure ⟨rfl,h₄⟩
end
def LcW(k:Nat)(js:List Nat)(g:TG)(te:TE)(σ:St)(Q:VK)(J:It)(H1:Hp)(p:Addr):Prop:=∃W:Nat→Nat→List V→St→Hp→Prop,
 (∃m,W 0 m [] (bc k js σ) (upd H1 p (.lst [])))∧∀i m ys σ' H',W i m ys σ' H'→(J.stop i H'∧Q (.ref p) H') ∨
  (J.go i H'∧ys.length<sizeLine∧∀x H2,J.yld i H' x H2→g x σ' H2 λσ2 H3=>te σ2 H3 λy H4=>H4 p=some (.lst ys)∧∃m',m'<m∧W (i+1) m' (ys++[y]) σ2 (upd H4 p (.lst (ys++[y]))))
def tLc(k:Nat)(js:List Nat)(wi:TI)(g:TG)(te:TE):TE:=λσ H Q=>wi σ H λJ H1=>∀p,H1 p=none→LcW k js g te σ Q J H1 p
def sQ(k:Nat)(js:List Nat)(g:TG)(tc:TT)(te:TE)(σ:St)(Q:VK)(J:It)(H1:Hp)(p:Addr):Prop:=∃W:Nat→Nat→List V→St→Hp→Prop,
 (∃m,W 0 m [] (bc k js σ) (upd H1 p (.lst [])))∧∀i m ys σ' H',W i m ys σ' H'→(J.stop i H'∧Q (.ref p) H') ∨
  (J.go i H'∧ys.length<sizeLine∧∀x H2,J.yld i H' x H2→g x σ' H2 λσ2 H3=>tc σ2 H3 λb H4=>if b=true then te σ2 H4 λy H5=>H5 p=some (.lst ys)∧∃m',m'<m∧W (i+1) m' (ys++[y]) σ2 (upd H5 p (.lst (ys++[y])))
   else ∃m',m'<m∧W (i+1) m' ys σ2 H4)
def sR(k:Nat)(js:List Nat)(wi:TI)(g:TG)(tc:TT)(te:TE):TE:=λσ H Q=>wi σ H λJ H1=>∀p,H1 p=none→sQ k js g tc te σ Q J H1 p
section
variable{X:Cx}{N:List Str}{scope:Scope}{cl:List (Str×Addr)}{k:Nat}{js:List Nat}
theorem di{elt tg iter:Expr}{pos:Pos}{wi:TI}{g:TG}{te:TE}(hc:X.calm=true)(L:LcOk X scope cl)(hN:N.length=k+js.length)(hj:∀(i j:Nat) x,js[i]?=some j→N[k+i]?=some x→X.N[j]?=some x∧Vis X.env.scope x∧X.env.scope.names.lookup x≠some .local∧((relabel scope X.env).names.lookup x=some .cell∨(relabel scope X.env).names.lookup x=some .free))(hi:PI X tg iter wi)(hg:∀s H fp,PG (bh X N scope cl s H fp) tg g)(he:∀s H fp,PE (bh X N scope cl s H fp) elt te)(hs:∀x,foldedSetIterable iter X.env x=pure x:=by intro _;rfl):PE X (.ListComp elt [⟨tg,iter,[],0⟩] scope pos) (tLc k js wi g te):=by
 intro pins s σ H Q I h;rw[eval_ListComp];refine wpAny_comprehension_free (use:=none) rfl hs L.clos L.kind L.names ?_;refine thn (hi pins s σ H _ I h) λv s1 h1=>thn h1 λitv s2 h2=>?_;obtain⟨it,fp,tn,J,H2,e,I2,T,st2,f2,hW⟩:=h2;subst e;have hfp:∀b∈fp,b<s2.heap.objs.size:=λb hb=>by
  obtain⟨o,e,_⟩:=T.obj _ _ st2 b hb;exact lt_size e
 refine wpAny_newObj_type (wpAny_newFunctionEnv L.nocell (by intro y hy;simp at hy) (λh₁ hns hsb=>?_) L.kind);dsimp only at hns hsb⊢;obtain⟨W,⟨m0,w0⟩,turn⟩:=hW s2.heap.objs.size (I2.hok.fresh (le_refl _));have I3:Inv X pins σ (upd H2 s2.heap.objs.size (.lst [])) {s2 with heap:=s2.heap.push {cls:=.type "list",dict:=none,data:=.seq ([]:List Value).toArray}}:=I2.lnew (t':=s2.toks) .nil (zero_le _)
 generalize hA:s2.heap.push {cls:=.type "list",dict:=none,data:=.seq ([]:List Value).toArray}=hpA at hns hsb I3⊢;have hszA:hpA.objs.size=s2.heap.objs.size+1:=by rw[←hA,size_push]
 have keepA:∀b o,s2.heap.get? b=some o→hpA.get? b=some o:=λb o e=>by rw[←hA];exact get?_push_of_some _ e
 have f3:∀b∈fp,cy X pins (upd H2 s2.heap.objs.size (.lst [])) b:=λb hb=>⟨by rw[ah (ne_of_lt (hfp b hb))];exact(f2 b hb).1,(f2 b hb).2⟩;have hfp3:∀b∈fp,b<hpA.objs.size:=λb hb=>by rw[hszA];exact lt_succ_of_lt (hfp b hb)
 have keep1:∀b o,hpA.get? b=some o→h₁.get? b=some o:=λb o e=>hsb.extBut b o (ne_of_lt (lt_size e)) (get?_push_of_some _ e);have J0:=eB (N:=N) (k:=k) (js:=js) (tk:=s2.toks+([]:List (Str×Value)).length) I3 L f3 hfp3 ⟨_,hns⟩ keep1 hN hj;have st1:tn 0 h₁:=T.keep _ _ _ st2 λb hb o e=>keep1 b o (keepA b o e);have stat:∀{H':Hp},(∀b∈fp,H' b=none)→∀b∈fp,cy (bh X N scope cl {s2 with heap:=hpA} (upd H2 s2.heap.objs.size (.lst [])) fp) [] H' b:=λhn b hb =>
  ⟨hn b hb,ne_of_lt (hfp3 b hb),(jW (N:=N) I3 L f3 hfp3).exfs b hb,.inl hb,λx c h=>(f3 b hb).2.2.2.2.1 x c (L.cells x c h),λp hp=>absurd (show p∈([]:List (Addr×Obj))from hp) (by simp)⟩
 have loop:codeAny (model X.prog X.w) X.A (.compLoop (.ListComp elt [⟨tg,iter,[],0⟩] scope pos) 0 (.ref it) (.ref s2.heap.objs.size) (compEnvC scope cl hpA.objs.size X.env))
   (compPost (model X.prog X.w) X.A X.xe none (EP X pins σ Q) (.ref s2.heap.objs.size) hpA.objs.size) {s2 with heap:=h₁,toks:=s2.toks+([]:List (Str×Value)).length}:=by
  refine jk (λn s'=>∃i ys σ' H',Inv (bh X N scope cl {s2 with heap:=hpA} (upd H2 s2.heap.objs.size (.lst [])) fp) [] σ' H' s'∧tn i s'.heap∧(∀b∈fp,H' b=none)∧W i n ys σ' H') ?_ m0 ⟨0,[],_,_,J0,st1,λb hb=>(f3 b hb).1,w0⟩
  rintro n s3 ⟨i,ys,σ3,H3,J3,st3,fr3,w3⟩;rcases turn i n ys σ3 H3 w3 with⟨stop,qn⟩|⟨go,hlen,step⟩
  ·refine thn (T.done (bh X N scope cl {s2 with heap:=hpA} (upd H2 s2.heap.objs.size (.lst [])) fp) rfl rfl rfl hc i [] s3 σ3 H3 (λ_ _=>False) J3 (stat fr3) st3 stop) λr s4 hpt=>?_
   obtain⟨hr,J4⟩:=hpt;subst hr;obtain⟨m,hm,_⟩:=J4.loc;exact⟨m,hm,λh' hs'=>⟨.ref s2.heap.objs.size,H3,jj I3 f3 J4 hs',rfl,qn⟩⟩
  ·refine thn (T.item (bh X N scope cl {s2 with heap:=hpA} (upd H2 s2.heap.objs.size (.lst [])) fp) rfl rfl rfl hc i [] s3 σ3 H3 (λ_ _=>False) J3 (stat fr3) st3 go) λr s4 hpt=>?_
   obtain⟨u,hr,h4⟩:=hpt;subst hr;refine thn h4 λ_ s5 hpt=>?_;obtain⟨x,H5,J5,r5,y5,st5,fr5⟩:=hpt;have J5':=J5.pinned (stat fr5) (T.obj _ _ st5);refine thn (hg _ _ _ _ s5 σ3 H5 x u _ J5' r5 (step x H5 y5)) λ_ s6 hpt=>?_;obtain⟨σ6,H6,J6,q6⟩:=hpt;refine thn (he _ _ _ _ s6 σ6 H6 _ J6 q6) λy s7 hpt=>?_;obtain⟨vy,H7,J7,r7,q7,m',hm',w7⟩:=hpt;refine thn (aU _ s7 σ6 H7 (.ref s2.heap.objs.size) [vy] _ _ (λ_ H8=>H8=upd H7 s2.heap.objs.size (.lst (ys++[vy]))) J7 rfl (.cons r7 .nil) ⟨_,ys,vy,rfl,rfl,q7,hlen,rfl⟩) λ_ s8 hpt=>?_;obtain⟨_,H8,J8,_,e8⟩:=hpt;subst e8;refine⟨m',hm',i+1,ys++[vy],σ6,_,J8.unpinned,T.keep _ _ _ st5 λb hb o e=>(J8.pin (b,o) (mem_append_right _ (mem_append_right _ (aC hb e)))).1,λb hb=>?_,w7⟩;obtain⟨o,e,d⟩:=T.obj _ _ st5 b hb;exact(J8.pin (b,o) (mem_append_right _ (mem_append_right _ (aC hb e)))).2.1
 exact codeAny_compStart_list loop (T.self _ 0 _ _ _ st1 loop)
theorem bM{elt tg iter c:Expr}{pos:Pos}{wi:TI}{g:TG}{tc:TT}{te:TE}(hc:X.calm=true)(L:LcOk X scope cl)(hN:N.length=k+js.length)(hj:∀(i j:Nat) x,js[i]?=some j→N[k+i]?=some x→X.N[j]?=some x∧Vis X.env.scope x∧X.env.scope.names.lookup x≠some .local∧((relabel scope X.env).names.lookup x=some .cell∨(relabel scope X.env).names.lookup x=some .free))(hi:PI X tg iter wi)(hg:∀s H fp,PG (bh X N scope cl s H fp) tg g)(ht:∀s H fp,PT (bh X N scope cl s H fp) c tc)(he:∀s H fp,PE (bh X N scope cl s H fp) elt te)(hs:∀x,foldedSetIterable iter X.env x=pure x:=by intro _;rfl):PE X (.ListComp elt [⟨tg,iter,[c],0⟩] scope pos) (sR k js wi g tc te):=by
 intro pins s σ H Q I h;rw[eval_ListComp];refine wpAny_comprehension_free (use:=none) rfl hs L.clos L.kind L.names ?_;refine thn (hi pins s σ H _ I h) λv s1 h1=>thn h1 λitv s2 h2=>?_;obtain⟨it,fp,tn,J,H2,e,I2,T,st2,f2,hW⟩:=h2;subst e;have hfp:∀b∈fp,b<s2.heap.objs.size:=λb hb=>by
  obtain⟨o,e,_⟩:=T.obj _ _ st2 b hb;exact lt_size e
 refine wpAny_newObj_type (wpAny_newFunctionEnv L.nocell (by intro y hy;simp at hy) (λh₁ hns hsb=>?_) L.kind);dsimp only at hns hsb⊢;obtain⟨W,⟨m0,w0⟩,turn⟩:=hW s2.heap.objs.size (I2.hok.fresh (le_refl _));have I3:Inv X pins σ (upd H2 s2.heap.objs.size (.lst [])) {s2 with heap:=s2.heap.push {cls:=.type "list",dict:=none,data:=.seq ([]:List Value).toArray}}:=I2.lnew (t':=s2.toks) .nil (zero_le _)
 generalize hA:s2.heap.push {cls:=.type "list",dict:=none,data:=.seq ([]:List Value).toArray}=hpA at hns hsb I3⊢;have hszA:hpA.objs.size=s2.heap.objs.size+1:=by rw[←hA,size_push]
 have keepA:∀b o,s2.heap.get? b=some o→hpA.get? b=some o:=λb o e=>by rw[←hA];exact get?_push_of_some _ e
 have f3:∀b∈fp,cy X pins (upd H2 s2.heap.objs.size (.lst [])) b:=λb hb=>⟨by rw[ah (ne_of_lt (hfp b hb))];exact(f2 b hb).1,(f2 b hb).2⟩;have hfp3:∀b∈fp,b<hpA.objs.size:=λb hb=>by rw[hszA];exact lt_succ_of_lt (hfp b hb)
 have keep1:∀b o,hpA.get? b=some o→h₁.get? b=some o:=λb o e=>hsb.extBut b o (ne_of_lt (lt_size e)) (get?_push_of_some _ e);have J0:=eB (N:=N) (k:=k) (js:=js) (tk:=s2.toks+([]:List (Str×Value)).length) I3 L f3 hfp3 ⟨_,hns⟩ keep1 hN hj;have st1:tn 0 h₁:=T.keep _ _ _ st2 λb hb o e=>keep1 b o (keepA b o e);have stat:∀{H':Hp},(∀b∈fp,H' b=none)→∀b∈fp,cy (bh X N scope cl {s2 with heap:=hpA} (upd H2 s2.heap.objs.size (.lst [])) fp) [] H' b:=λhn b hb =>
  ⟨hn b hb,ne_of_lt (hfp3 b hb),(jW (N:=N) I3 L f3 hfp3).exfs b hb,.inl hb,λx c h=>(f3 b hb).2.2.2.2.1 x c (L.cells x c h),λp hp=>absurd (show p∈([]:List (Addr×Obj))from hp) (by simp)⟩
 have loop:codeAny (model X.prog X.w) X.A (.compLoop (.ListComp elt [⟨tg,iter,[c],0⟩] scope pos) 0 (.ref it) (.ref s2.heap.objs.size) (compEnvC scope cl hpA.objs.size X.env))
   (compPost (model X.prog X.w) X.A X.xe none (EP X pins σ Q) (.ref s2.heap.objs.size) hpA.objs.size) {s2 with heap:=h₁,toks:=s2.toks+([]:List (Str×Value)).length}:=by
  refine jX (λn s'=>∃i ys σ' H',Inv (bh X N scope cl {s2 with heap:=hpA} (upd H2 s2.heap.objs.size (.lst [])) fp) [] σ' H' s'∧tn i s'.heap∧(∀b∈fp,H' b=none)∧W i n ys σ' H') ?_ m0 ⟨0,[],_,_,J0,st1,λb hb=>(f3 b hb).1,w0⟩
  rintro n s3 ⟨i,ys,σ3,H3,J3,st3,fr3,w3⟩;rcases turn i n ys σ3 H3 w3 with⟨stop,qn⟩|⟨go,hlen,step⟩
  ·refine thn (T.done (bh X N scope cl {s2 with heap:=hpA} (upd H2 s2.heap.objs.size (.lst [])) fp) rfl rfl rfl hc i [] s3 σ3 H3 (λ_ _=>False) J3 (stat fr3) st3 stop) λr s4 hpt=>?_
   obtain⟨hr,J4⟩:=hpt;subst hr;obtain⟨m,hm,_⟩:=J4.loc;exact⟨m,hm,λh' hs'=>⟨.ref s2.heap.objs.size,H3,jj I3 f3 J4 hs',rfl,qn⟩⟩
  ·refine thn (T.item (bh X N scope cl {s2 with heap:=hpA} (upd H2 s2.heap.objs.size (.lst [])) fp) rfl rfl rfl hc i [] s3 σ3 H3 (λ_ _=>False) J3 (stat fr3) st3 go) λr s4 hpt=>?_
   obtain⟨u,hr,h4⟩:=hpt;subst hr;refine thn h4 λ_ s5 hpt=>?_;obtain⟨x,H5,J5,r5,y5,st5,fr5⟩:=hpt;have J5':=J5.pinned (stat fr5) (T.obj _ _ st5);refine thn (hg _ _ _ _ s5 σ3 H5 x u _ J5' r5 (step x H5 y5)) λ_ s6 hpt=>?_;obtain⟨σ6,H6,J6,q6⟩:=hpt;refine thn (ht _ _ _ _ s6 σ6 H6 _ J6 q6) λb s6 hpt=>?_;obtain⟨H6,J6,q6⟩:=hpt;cases b with
   |true =>
    rw[if_pos rfl]at q6⊢;refine thn (he _ _ _ _ s6 σ6 H6 _ J6 q6) λy s7 hpt=>?_;obtain⟨vy,H7,J7,r7,q7,m',hm',w7⟩:=hpt;refine thn (aU _ s7 σ6 H7 (.ref s2.heap.objs.size) [vy] _ _ (λ_ H8=>H8=upd H7 s2.heap.objs.size (.lst (ys++[vy]))) J7 rfl (.cons r7 .nil) ⟨_,ys,vy,rfl,rfl,q7,hlen,rfl⟩) λ_ s8 hpt=>?_;obtain⟨_,H8,J8,_,e8⟩:=hpt;subst e8;refine⟨m',hm',i+1,ys++[vy],σ6,_,J8.unpinned,T.keep _ _ _ st5 λb hb o e=>(J8.pin (b,o) (mem_append_right _ (mem_append_right _ (aC hb e)))).1,λb hb=>?_,w7⟩;obtain⟨o,e,d⟩:=T.obj _ _ st5 b hb;exact(J8.pin (b,o) (mem_append_right _ (mem_append_right _ (aC hb e)))).2.1
   |false =>
    rw[if_neg (by simp)]at q6⊢;obtain⟨m',hm',w7⟩:=q6;refine⟨m',hm',i+1,ys,σ6,_,J6.unpinned,T.keep _ _ _ st5 λb hb o e=>(J6.pin (b,o) (mem_append_right _ (mem_append_right _ (aC hb e)))).1,λb hb=>?_,w7⟩;obtain⟨o,e,d⟩:=T.obj _ _ st5 b hb;exact(J6.pin (b,o) (mem_append_right _ (mem_append_right _ (aC hb e)))).2.1
 exact codeAny_compStart_list loop (T.self _ 0 _ _ _ st1 loop)
end
end L2
namespace TB
open PySem PySem.SetTable
def adv(mask:Nat)(p:Probe):Probe :=
 if p.more>0 then {p with j:=p.j+1,more:=p.more-1} else
 {p with j:=(leap mask p.i p.perturb).1,more:=runEnd mask (leap mask p.i p.perturb).1-(leap mask p.i p.perturb).1,i:=(leap mask p.i p.perturb).1,perturb:=(leap mask p.i p.perturb).2}
theorem ly(t:SetTable)(p:Probe):advance t p=adv t.mask p:=rfl
def lvP(mask:Nat)(x:Nat×Nat):Probe:={j:=x.1,more:=runEnd mask x.1-x.1,i:=x.1,perturb:=x.2,dummy:=none}
def st(mask:Nat)(h:Int):Probe:=lvP mask (bits h % (mask+1),bits h)
def nth(mask:Nat):Probe→Nat→Probe
 |p,0=>p
 |p,n+1=>nth mask (adv mask p) n
theorem eE(mask:Nat):∀(a b:Nat)(p:Probe),nth mask p (a+b)=nth mask (nth mask p a) b
 |0,b,p=>by rw[zero_add];rfl
 |a+1,b,p=>by
  rw[show a+1+b=(a+b)+1 by omega];show nth mask (adv mask p) (a+b)=nth mask (nth mask (adv mask p) a) b;exact eE mask a b _
theorem oV(mask:Nat)(p:Probe)(n:Nat):nth mask p (n+1)=adv mask (nth mask p n):=by
 rw[eE];rfl
def pos(mask:Nat)(h:Int)(n:Nat):Nat:=(nth mask (st mask h) n).j
theorem iG(mask:Nat):∀(m:Nat)(p:Probe),p.more=m→nth mask p m={p with j:=p.j+m,more:=0}
 |0,p,h=>by
  show p=_;cases p;simp at h;subst h;rfl
 |m+1,p,h=>by
  show nth mask (adv mask p) m=_;have e:adv mask p={p with j:=p.j+1,more:=m}:=by
   unfold adv;rw[if_pos (by omega),h];rfl
  rw[e,iG mask m _ rfl];simp only[Probe.mk.injEq,and_true];omega
theorem jY(mask:Nat):∀(m:Nat)(p:Probe),m≤p.more→nth mask p m={p with j:=p.j+m,more:=p.more-m}
 |0,p,h=>by
  show p=_;cases p;rfl
 |m+1,p,h=>by
  show nth mask (adv mask p) m=_;have e:adv mask p={p with j:=p.j+1,more:=p.more-1}:=by
   unfold adv;rw[if_pos (by omega)]
  rw[e,jY mask m _ (by show m≤p.more-1;omega)];simp only[Probe.mk.injEq,and_true];omega
theorem dN(mask:Nat)(x:Nat×Nat):nth mask (lvP mask x) (runEnd mask x.1-x.1+1)=lvP mask (leap mask x.1 x.2):=by
 have e:=iG mask (runEnd mask x.1-x.1) (lvP mask x) rfl;rw[oV,e];unfold adv;rw[if_neg (by simp)];rfl
theorem sS(mask i:Nat):runEnd mask i-i≤9:=by unfold runEnd;split<;>omega
def lv(mask:Nat):Nat→Nat×Nat→Nat×Nat
 |0,x=>x
 |k+1,x=>lv mask k (leap mask x.1 x.2)
theorem lz(mask:Nat):∀(a b:Nat)(x:Nat×Nat),lv mask (a+b) x=lv mask b (lv mask a x)
 |0,b,x=>by rw[zero_add];rfl
 |a+1,b,x=>by
  rw[show a+1+b=(a+b)+1 by omega];exact lz mask a b _
theorem jZ(mask:Nat):∀(k:Nat)(x:Nat×Nat),∃n,n≤10*k∧nth mask (lvP mask x) n=lvP mask (lv mask k x)
 |0,x=>⟨0,by omega,rfl⟩
 |k+1,x=>by
  obtain⟨n,hn,e⟩:=jZ mask k (leap mask x.1 x.2);refine⟨(runEnd mask x.1-x.1+1)+n,?_,?_⟩
  ·have:=sS mask x.1;omega
  ·rw[eE,dN];exact e
theorem dO(mask:Nat):∀(k:Nat)(x:Nat×Nat),(lv mask k x).2=x.2 / 32 ^ k
 |0,x=>by simp[lv]
 |k+1,x=>by
  show(lv mask k (leap mask x.1 x.2)).2=_;rw[dO mask k];show x.2 / 32 / 32 ^ k=_;rw[Nat.div_div_eq_div_mul,Nat.pow_succ,Nat.mul_comm 32]
theorem mh(mask:Nat):∀(k:Nat)(x:Nat×Nat),x.1≤mask→(lv mask k x).1≤mask
 |0,x,h=>h
 |k+1,x,h=>mh mask k _ (by show(x.1*5+1+x.2 / 32) % (mask+1)≤mask;have:=mod_lt (x.1*5+1+x.2 / 32) (show 0<mask+1 by omega);omega)
theorem ml(h:Int):bits h<2 ^ 64:=by
 unfold bits;have h1:=emod_nonneg h (b:=2 ^ 64) (by decide);have h2:=Int.emod_lt_of_pos h (b:=2 ^ 64) (by decide);omega
def eG(mask:Nat):Nat→Nat→Nat
 |0,i=>i
 |k+1,i=>eG mask k ((i*5+1) % (mask+1))
theorem gK(mask:Nat):∀(k i:Nat),lv mask k (i,0)=(eG mask k i,0)
 |0,i=>rfl
 |k+1,i=>by
  show lv mask k ((i*5+1+0 / 32) % (mask+1),0 / 32)=_;simp only[Nat.zero_div,Nat.add_zero];exact gK mask k _
def Cyc(mask:Nat):Prop:=∀i,i≤mask→∀j,j≤mask→∃k,k≤mask∧eG mask k i=j
theorem dw(mask:Nat):∀(a b i:Nat),eG mask (a+b) i=eG mask b (eG mask a i)
 |0,b,i=>by rw[zero_add];rfl
 |a+1,b,i=>by
  rw[show a+1+b=(a+b)+1 by omega];exact dw mask a b _
def qH(mask:Nat):Nat→Nat→List Nat
 |0,_=>[]
 |n+1,i=>i::qH mask n ((i*5+1) % (mask+1))
theorem ka{mask j:Nat}:∀{n i:Nat},j∈qH mask n i→∃k,k<n∧eG mask k i=j
 |0,_,h=>by simp[qH]at h
 |n+1,i,h=>by
  rcases mem_cons.mp h with e|e
  ·exact⟨0,by omega,e.symm⟩
  ·obtain⟨k,hk,e'⟩:=ka e;exact⟨k+1,by omega,e'⟩
theorem oW{mask:Nat}(h0:eG mask (mask+1) 0=0)(h:(List.range (mask+1)).all (λj=>(qH mask (mask+1) 0).contains j)=true):Cyc mask:=by
 have all:∀j,j≤mask→∃k,k≤mask∧eG mask k 0=j:=λj hj=>by
  rw[all_eq_true]at h;have h1:=h j (mem_range.mpr (by omega));rw[List.contains_iff_mem]at h1;obtain⟨k,hk,e⟩:=ka h1;exact⟨k,by omega,e⟩
 intro i hi j hj;obtain⟨a,ha,ea⟩:=all i hi;obtain⟨b,hb,eb⟩:=all j hj
 by_cases hab:a≤b
 ·refine⟨b-a,by omega,?_⟩;rw[←ea,←dw,show a+(b-a)=b by omega];exact eb
 ·refine⟨mask+1-a+b,by omega,?_⟩;rw[←ea,←dw,show a+(mask+1-a+b)=(mask+1)+b by omega,dw,h0];exact eb
def Mk(m:Nat):Prop:=m=7∨m=15∨m=31∨m=63∨m=127∨m=255
theorem Mk.cyc{m:Nat}(h:Mk m):Cyc m:=by
 rcases h with e|e|e|e|e|e<;>subst e<;>exact oW (by decide +kernel) (by decide +kernel)
theorem Mk.ge{m:Nat}(h:Mk m):7≤m∧m≤255:=by rcases h with e|e|e|e|e|e<;>subst e<;>omega
def mkB(m:Nat):Bool:=m==7||m==15||m==31||m==63||m==127||m==255
theorem sT:(List.range 256).all (λw=>mkB (sizeAbove w-1)&&decide (w≤sizeAbove w-1)&&decide (sizeAbove w≤256))=true:=by decide +kernel
theorem oX{w:Nat}(h:w≤255):Mk (sizeAbove w-1)∧w≤sizeAbove w-1∧sizeAbove w≤256:=by
 have h1:=(all_eq_true.mp sT) w (mem_range.mpr (by omega));rw[and_eq_true,and_eq_true,decide_eq_true_eq,decide_eq_true_eq]at h1;refine⟨?_,h1.1.2,h1.2⟩;have h2:=h1.1.1;unfold mkB at h2;rw[or_eq_true,or_eq_true,or_eq_true,or_eq_true,or_eq_true,beq_iff_eq,beq_iff_eq,beq_iff_eq,beq_iff_eq,beq_iff_eq,beq_iff_eq]at h2;rcases h2 with ((((h|h)|h)|h)|h)|h
 ·exact .inl h
 ·exact .inr (.inl h)
 ·exact .inr (.inr (.inl h))
 ·exact .inr (.inr (.inr (.inl h)))
 ·exact .inr (.inr (.inr (.inr (.inl h))))
 ·exact .inr (.inr (.inr (.inr (.inr h))))
theorem cover{mask:Nat}(c:Cyc mask)(h:Int){j:Nat}(hj:j≤mask):∃n,n<10*turns mask∧pos mask h n=j:=by
 have h0:(lv mask 13 (bits h % (mask+1),bits h)).2=0:=by
  rw[dO];have:=ml h;exact Nat.div_eq_of_lt (by have e:(32:Nat) ^ 13=36893488147419103232:=(by decide);rw[e];show bits h<_;omega)
 have h1:(lv mask 13 (bits h % (mask+1),bits h)).1≤mask:=mh mask _ _ (by have:=mod_lt (bits h) (show 0<mask+1 by omega);show bits h % (mask+1)≤mask;omega);obtain⟨k,hk,e⟩:=c _ h1 j hj;obtain⟨n,hn,en⟩:=jZ mask (13+k) (bits h % (mask+1),bits h);refine⟨n,by unfold turns;omega,?_⟩;unfold pos st;rw[en,lz];have ex:lv mask 13 (bits h % (mask+1),bits h)=((lv mask 13 (bits h % (mask+1),bits h)).1,0):=by rw[←h0]
 rw[ex,gK];exact e
def InT(mask:Nat)(p:Probe):Prop:=p.j+p.more≤mask
theorem fk{mask i:Nat}(h:i≤mask):runEnd mask i≤mask∧i≤runEnd mask i:=by unfold runEnd;split<;>omega
theorem qI{mask:Nat}{p:Probe}(h:InT mask p):InT mask (adv mask p):=by
 unfold adv InT at *
 split
 ·show p.j+1+(p.more-1)≤mask;omega
 ·have hl:(leap mask p.i p.perturb).1≤mask:=by
   show(p.i*5+1+p.perturb / 32) % (mask+1)≤mask;have:=mod_lt (p.i*5+1+p.perturb / 32) (show 0<mask+1 by omega);omega
  have:=fk hl;show(leap mask p.i p.perturb).1+(runEnd mask (leap mask p.i p.perturb).1-(leap mask p.i p.perturb).1)≤mask;omega
theorem mm{mask:Nat}:∀(n:Nat){p:Probe},InT mask p→InT mask (nth mask p n)
 |0,_,h=>h
 |n+1,_,h=>mm n (qI h)
theorem sU{mask:Nat}{x:Nat×Nat}(h:x.1≤mask):InT mask (lvP mask x):=by
 have:=fk h;show x.1+(runEnd mask x.1-x.1)≤mask;omega
theorem gL(mask:Nat)(h:Int)(n:Nat):pos mask h n≤mask:=by
 have:InT mask (nth mask (st mask h) n):=mm n (sU (by have:=mod_lt (bits h) (show 0<mask+1 by omega);show bits h % (mask+1)≤mask;omega));unfold InT at this;unfold pos;omega
theorem oY(E:Nat→Prop):∀N,E N→∃n,n≤N∧E n∧∀m,m<n→¬E m
 |N,h=>by
  induction N using Nat.strongRecOn with
  |_ N ih =>
   by_cases z:∃m,m<N∧E m
   ·obtain⟨m,hm,e⟩:=z;obtain⟨n,hn,e',no⟩:=ih m hm e;exact⟨n,by omega,e',no⟩
   ·exact⟨N,le_refl _,h,λm hm e=>z ⟨m,hm,e⟩⟩
theorem iH(mask:Nat):∀(n:Nat)(p:Probe),(nth mask p n).dummy=p.dummy
 |0,_=>rfl
 |n+1,p=>by
  show(nth mask (adv mask p) n).dummy=_;rw[iH mask n];unfold adv
  split<;>rfl
theorem kc(t:SetTable)(ha:Nat→Int)(h:Int):∀(n:Nat)(p:Probe)(fuel:Nat),n<fuel →
  (∀m,m<n→∃i,t.slot (nth t.mask p m).j=.live i∧(ha i==h)=false)→t.slot (nth t.mask p n).j=.empty →
  probe.go t ha h fuel p=some (.empty (nth t.mask p n).j p.dummy)
 |0,p,fuel+1,_,_,e=>by
  have e':t.slot p.j=.empty:=e;unfold probe.go;rw[e'];rfl
 |n+1,p,fuel+1,hf,hl,e=>by
  obtain⟨i,h1,h2⟩:=hl 0 (by omega);have h1':t.slot p.j=.live i:=h1;unfold probe.go;rw[h1'];simp only[h2,false_eq_true,if_false,ly];rw[kc t ha h n (adv t.mask p) fuel (by omega) (λm hm=>hl (m+1) (by omega)) e]
  congr 2
  exact iH t.mask 1 p
theorem gM(xs:Array Nat)(j:Nat)(hs:∀a b,a<b→b<xs.size→xs.getD a 0<xs.getD b 0):∀(fuel lo hi:Nat),hi-lo≤fuel→lo≤hi→hi≤xs.size →
  (∀k,k<lo→xs.getD k 0<j)→(∀k,hi≤k→k<xs.size→j≤xs.getD k 0) →
  below.go xs j fuel lo hi≤xs.size∧(∀k,k<below.go xs j fuel lo hi→xs.getD k 0<j)∧(∀k,below.go xs j fuel lo hi≤k→k<xs.size→j≤xs.getD k 0)
 |0,lo,hi,hf,hl,hh,h1,h2=>by
  have e:lo=hi:=by omega
  subst e;exact⟨hh,h1,h2⟩
 |fuel+1,lo,hi,hf,hl,hh,h1,h2=>by
  unfold below.go
  by_cases hlt:lo<hi
  ·rw[if_pos hlt];have hm:(lo+hi) / 2<hi:=by omega
   have hm2:lo≤(lo+hi) / 2:=by omega
   have eg:xs.getD ((lo+hi) / 2) j=xs.getD ((lo+hi) / 2) 0:=by
    rw[getD_eq_getD_getElem?,getD_eq_getD_getElem?,Array.getElem?_eq_getElem (by omega)];rfl
   simp only[eg]
   split
   ·rename_i hc
    refine gM xs j hs fuel _ hi (by omega) (by omega) hh (λk hk=>?_) h2
    by_cases e:k=(lo+hi) / 2
    ·rw[e];exact hc
    ·have:=hs k ((lo+hi) / 2) (by omega) (by omega);omega
   ·rename_i hc
    refine gM xs j hs fuel lo _ (by omega) (by omega) (by omega) h1 (λk hk hk2=>?_)
    by_cases e:k=(lo+hi) / 2
    ·rw[e];omega
    ·have:=hs ((lo+hi) / 2) k (by omega) hk2;omega
  ·rw[if_neg hlt];have e:lo=hi:=by omega
   subst e;exact⟨hh,h1,h2⟩
def Up(l:List Nat):Prop:=l.Pairwise (· < ·)
theorem sV{l:List Nat}(h:Up l){a b:Nat}(hab:a<b)(hb:b<l.length):l.toArray.getD a 0<l.toArray.getD b 0:=by
 unfold Up at h;have:=pairwise_iff_getElem.mp h a b (by omega) hb hab;simp[getD_eq_getD_getElem?,show a<l.length by omega,hb];exact this
theorem bQ{l:List Nat}(h:Up l)(j:Nat):below l.toArray j≤l.length∧(∀k (hk:k<l.length),k<below l.toArray j→l[k]<j)∧(∀k (hk:k<l.length),below l.toArray j≤k→j≤l[k]):=by
 have:=gM l.toArray j (λa b hab hb=>sV h hab (by simpa using hb)) l.toArray.size 0 l.toArray.size (by omega) (by omega) (le_refl _) (by intro k hk;omega) (by intro k hk hk2;omega);unfold below;refine⟨by simpa using this.1,λk hk h1=>?_,λk hk h1=>?_⟩
 ·have:=this.2.1 k h1;simpa [getD_eq_getD_getElem?,hk]using this
 ·have:=this.2.2 k h1 (by simpa using hk);simpa [getD_eq_getD_getElem?,hk]using this
structure Tb(t:SetTable)(l:List Nat):Prop where
 pl:t.place=l.toArray
 nd:t.dummies=#[]
 up:Up l
 le:∀j∈l,j≤t.mask
theorem mn(j:Nat):has #[] j=false:=by
 unfold has;simp
theorem qJ{t:SetTable}{l:List Nat}(T:Tb t l){i j:Nat}(h:l[i]?=some j):t.slot j=.live i:=by
 obtain⟨hi,e⟩:=List.getElem?_eq_some_iff.mp h;obtain⟨b1,b2,b3⟩:=bQ T.up j;have eb:below l.toArray j=i:=by
  rcases Nat.lt_trichotomy (below l.toArray j) i with z|z|z
  ·have:=b3 (below l.toArray j) (by omega) (le_refl _);have:=pairwise_iff_getElem.mp T.up (below l.toArray j) i (by omega) hi z;omega
  ·exact z
  ·have:=b2 i hi z;omega
 unfold SetTable.slot;rw[T.pl,eb];simp[h]
theorem oZ{t:SetTable}{l:List Nat}(T:Tb t l){j:Nat}(h:j∉l):t.slot j=.empty:=by
 unfold SetTable.slot;rw[T.pl,T.nd,mn];have:¬(l.toArray[below l.toArray j]?==some j)=true:=by
  intro z;have z':l[below l.toArray j]?=some j:=by simpa using z
  exact h (mem_of_getElem? z')
 simp only[this,false_eq_true,if_false]
theorem nM{l:List Nat}(h:Up l){j:Nat}(hj:j∉l):Up (l.take (below l.toArray j)++j::l.drop (below l.toArray j)):=by
 obtain⟨b1,b2,b3⟩:=bQ h j;unfold Up;rw[List.pairwise_append,pairwise_cons];have hsub1:(l.take (below l.toArray j)).Pairwise (· < ·):=Pairwise.sublist (take_sublist _ _) h;have hsub2:(l.drop (below l.toArray j)).Pairwise (· < ·):=Pairwise.sublist (List.drop_sublist _ _) h;have h1:∀a∈l.take (below l.toArray j),a<j:=by
  intro a ha;obtain⟨k,hk,e⟩:=mem_iff_getElem.mp ha;rw[length_take]at hk;rw[List.getElem_take]at e;rw[←e];exact b2 k (by omega) (by omega)
 have h2:∀a∈l.drop (below l.toArray j),j<a:=by
  intro a ha;have hne:a≠j:=λe=>hj (e ▸ List.mem_of_mem_drop ha);obtain⟨k,hk,e⟩:=mem_iff_getElem.mp ha;rw[length_drop]at hk;rw[List.getElem_drop]at e;have:=b3 (below l.toArray j+k) (by omega) (by omega);omega
 refine⟨hsub1,⟨h2,hsub2⟩,λa ha b hb=>?_⟩;rcases mem_cons.mp hb with rfl|hb
 ·exact h1 a ha
 ·have:=h1 a ha;have:=h2 b hb;omega
theorem sW{t:SetTable}{l:List Nat}(T:Tb t l){j:Nat}(hj:j∉l)(hm:j≤t.mask):Tb (t.put j).1 (l.take (below l.toArray j)++j::l.drop (below l.toArray j))∧(t.put j).2=below l.toArray j∧(t.put j).1.mask=t.mask:=by
 refine⟨⟨?_,?_,nM T.up hj,?_⟩,?_,rfl⟩
 ·show insertAt t.place (below t.place j) j=_;rw[T.pl];apply toList_inj.mp;rw[SetTable.toList_insertAt]
 ·show(if has t.dummies j=true then _ else t.dummies)=#[];rw[T.nd,mn];rfl
 ·intro a ha;rcases mem_append.mp ha with h|h
  ·exact T.le a (List.mem_of_mem_take h)
  ·rcases mem_cons.mp h with rfl|h
   ·exact hm
   ·exact T.le a (List.mem_of_mem_drop h)
 ·show below t.place j=_;rw[T.pl]
def uL(mask:Nat)(zs:List (Nat×Int)):Prop:=∀z∈zs,∃n,pos mask z.2 n=z.1∧∀m,m<n→pos mask z.2 m∈zs.map (·.1)
def emp(owner:Array (Option Nat))(j:Nat):Bool:=(owner.getD j (some 0)).isNone
theorem iI(mask:Nat)(owner:Array (Option Nat)):∀(fuel:Nat)(x:Nat×Nat),x.1≤mask→(∃k,k<fuel∧emp owner (lv mask k x).1=true) →
  ∃j n,layClean.free mask owner fuel x.1 x.2=some j∧(nth mask (lvP mask x) n).j=j∧emp owner j=true∧∀m,m<n→emp owner (nth mask (lvP mask x) m).j=false
 |0,x,_,h=>by obtain⟨k,hk,_⟩:=h;omega
 |fuel+1,x,hx,h=>by
  unfold layClean.free;have hr:=fk hx;have hpart:∀m,m≤runEnd mask x.1-x.1→(nth mask (lvP mask x) m).j=x.1+m:=λm hm=>by
   rw[jY mask m (lvP mask x) hm];rfl
  cases e:(List.range (runEnd mask x.1+1-x.1)).find? (λk=>(owner.getD (x.1+k) (some 0)).isNone)with
  |some k =>
   rw[List.find?_range_eq_some]at e;obtain⟨e1,e2,e3⟩:=e;have hk:k≤runEnd mask x.1-x.1:=by have:=mem_range.mp e2;omega
   refine⟨x.1+k,k,rfl,hpart k hk,e1,λm hm=>?_⟩;rw[hpart m (by omega)];have:=e3 m hm;simpa [emp]using this
  |none =>
   rw[List.find?_range_eq_none]at e;obtain⟨k,hk,h1⟩:=h;have hk0:k≠0:=by
    rintro rfl;have:=e 0 (by omega);have h1':(owner.getD x.1 (some 0)).isNone=true:=h1;rw[Nat.add_zero,h1']at this;simp at this
   obtain⟨k',rfl⟩:∃k',k=k'+1:=⟨k-1,by omega⟩;have hl:(leap mask x.1 x.2).1≤mask:=mh mask 1 x hx;obtain⟨j,n,f1,f2,f3,f4⟩:=iI mask owner fuel (leap mask x.1 x.2) hl ⟨k',by omega,h1⟩;refine⟨j,(runEnd mask x.1-x.1+1)+n,f1,?_,f3,λm hm=>?_⟩
   ·rw[eE,dN];exact f2
   ·by_cases hm2:m≤runEnd mask x.1-x.1
    ·rw[hpart m hm2];have:=e m (by omega);simpa [emp]using this
    ·obtain⟨m',rfl⟩:∃m',m=(runEnd mask x.1-x.1+1)+m':=⟨m-(runEnd mask x.1-x.1+1),by omega⟩;rw[eE,dN];exact f4 m' (by omega)
theorem qK{mask:Nat}(c:Cyc mask)(owner:Array (Option Nat))(h:Int){j₀:Nat}(hj:j₀≤mask)(he:emp owner j₀=true):
  ∃j n,layClean.free mask owner (turns mask) (bits h % (mask+1)) (bits h)=some j∧pos mask h n=j∧emp owner j=true∧∀m,m<n→emp owner (pos mask h m)=false:=by
 have h0:(lv mask 13 (bits h % (mask+1),bits h)).2=0:=by
  rw[dO];have:=ml h;exact Nat.div_eq_of_lt (by have e:(32:Nat) ^ 13=36893488147419103232:=(by decide);rw[e];show bits h<_;omega)
 have hx:bits h % (mask+1)≤mask:=by have:=mod_lt (bits h) (show 0<mask+1 by omega);omega
 have h1:(lv mask 13 (bits h % (mask+1),bits h)).1≤mask:=mh mask _ _ hx;obtain⟨k,hk,e⟩:=c _ h1 j₀ hj;refine iI mask owner (turns mask) (bits h % (mask+1),bits h) hx ⟨13+k,by unfold turns;omega,?_⟩;rw[lz];have ex:lv mask 13 (bits h % (mask+1),bits h)=((lv mask 13 (bits h % (mask+1),bits h)).1,0):=by rw[←h0]
 rw[ex,gK,e];exact he
def live(mask:Nat)(owner:Array (Option Nat)):List (Nat×Nat):=(List.range (mask+1)).filterMap λj=>(owner.getD j none).map (j,·)
theorem dj{α β:Type}{f g:α→Option β}:∀{l:List α},(∀x∈l,g x=f x)→l.filterMap g=l.filterMap f
 |[],_=>rfl
 |x::l,h=>by
  have ih:=dj (l:=l) λy hy=>h y (mem_cons_of_mem _ hy);have hx:=h x mem_cons_self;cases e:f x with
  |none=>rw[filterMap_cons_none e,filterMap_cons_none (hx.trans e),ih]
  |some b=>rw[filterMap_cons_some e,filterMap_cons_some (hx.trans e),ih]
theorem dH{α β:Type}(f g:α→Option β)(a:α)(v:β)(hf:f a=none)(hg:g a=some v)(hne:∀x,x≠a→g x=f x):∀(l:List α),l.Nodup→a∈l →
  (l.filterMap g).Perm (v::l.filterMap f)
 |[],_,h=>by simp at h
 |x::l,hn,h=>by
  obtain⟨h1,h2⟩:=nodup_cons.mp hn
  by_cases e:x=a
  ·subst e;rw[filterMap_cons_some hg,filterMap_cons_none hf];have:l.filterMap g=l.filterMap f:=dj λy hy=>hne y (λe=>h1 (e ▸ hy));rw[this]
  ·have ha:a∈l:=by
    rcases mem_cons.mp h with z|z
    ·exact absurd z.symm e
    ·exact z
   have ih:=dH f g a v hf hg hne l h2 ha;cases ef:f x with
   |none =>
    rw[filterMap_cons_none ef,filterMap_cons_none (by rw[hne x e,ef])];exact ih
   |some b =>
    rw[filterMap_cons_some ef,filterMap_cons_some (by rw[hne x e,ef])];exact(ih.cons b).trans (List.Perm.swap _ _ _)
structure Lay(mask:Nat)(owner:Array (Option Nat))(hs:List Int):Prop where
 size:owner.size=mask+1
 perm:((live mask owner).map (·.2)).Perm (List.range hs.length)
 path:∀j i,owner.getD j none=some i→∃h,hs[i]?=some h∧∃n,pos mask h n=j∧∀m,m<n→emp owner (pos mask h m)=false
theorem eI{mask:Nat}{owner:Array (Option Nat)}(hs:owner.size=mask+1){j:Nat}(hj:j≤mask):emp owner j=(owner.getD j none).isNone:=by
 unfold emp;rw[getD_eq_getD_getElem?,getD_eq_getD_getElem?,Array.getElem?_eq_getElem (by omega)];rfl
theorem qL(mask:Nat):Lay mask (replicate (mask+1) none) []:=by
 have e:∀j,(replicate (mask+1) (none:Option Nat)).getD j none=none:=λj=>by
  rw[getD_eq_getD_getElem?,Array.getElem?_replicate]
  split<;>rfl
 refine⟨by simp,?_,λj i h=>?_⟩
 ·have:live mask (replicate (mask+1) none)=[]:=by
   unfold live;rw[List.filterMap_eq_nil_iff];intro j _;rw[e];rfl
  rw[this];simp
 ·rw[e]at h;cases h
theorem pc{mask:Nat}{owner:Array (Option Nat)}{hs:List Int}(L:Lay mask owner hs)(hl:hs.length≤mask):∃j,j≤mask∧emp owner j=true:=by
 by_cases h:∃j,j≤mask∧emp owner j=true
 ·exact h
 ·exfalso
  have all:∀j,j≤mask→∃i,owner.getD j none=some i:=λj hj=>by
   cases e:owner.getD j none with
   |some i=>exact⟨i,rfl⟩
   |none=>exact(h ⟨j,hj,by rw[eI L.size hj,e];rfl⟩).elim
  have len:(live mask owner).length=mask+1:=by
   have key:∀l:List Nat,(∀j∈l,j≤mask)→(l.filterMap λj=>(owner.getD j none).map (j,·)).length=l.length:=by
    intro l
    induction l with
    |nil=>intro _;rfl
    |cons x l ih =>
     intro hl;obtain⟨i,e⟩:=all x (hl x (by simp));rw[filterMap_cons_some (by rw[e];rfl),length_cons,length_cons,ih λj hj=>hl j (by simp[hj])]
   unfold live;rw[key _ (λj hj=>by have:=mem_range.mp hj;omega),length_range]
  have:=L.perm.length_eq;rw[length_map,length_range,len]at this;omega
theorem eJ{owner:Array (Option Nat)}{j k:Nat}{v:Option Nat}(hj:j<owner.size):(owner.setIfInBounds j v).getD k none=if k=j then v else owner.getD k none:=by
 rw[getD_eq_getD_getElem?,getD_eq_getD_getElem?,Array.getElem?_setIfInBounds]
 by_cases e:j=k
 ·subst e;simp[hj]
 ·rw[if_neg e,if_neg (λz=>e z.symm)]
theorem mq{mask:Nat}{owner:Array (Option Nat)}{j k i:Nat}(hs:owner.size=mask+1)(hj:j≤mask)(hk:k≤mask)(h:emp owner k=false):emp (owner.setIfInBounds j (some i)) k=false:=by
 rw[eI (by simpa using hs) hk,eJ (by omega)];rw[eI hs hk]at h
 split
 ·rfl
 ·exact h
theorem pe{mask:Nat}(c:Cyc mask){owner:Array (Option Nat)}{hs:List Int}(L:Lay mask owner hs)(hl:hs.length≤mask)(h:Int):
  ∃j,layClean.free mask owner (turns mask) (bits h % (mask+1)) (bits h)=some j∧Lay mask (owner.setIfInBounds j (some hs.length)) (hs++[h]):=by
 obtain⟨j₀,hj₀,e₀⟩:=pc L hl;obtain⟨j,n,e1,e2,e3,e4⟩:=qK c owner h hj₀ e₀;have hj:j≤mask:=by rw[←e2];exact gL mask h n
 have hjn:owner.getD j none=none:=by
  rw[eI L.size hj]at e3;exact Option.isNone_iff_eq_none.mp e3
 refine⟨j,e1,by simpa using L.size,?_,λk i hk=>?_⟩
 ·have p:=dH (λk=>(owner.getD k none).map (k,·)) (λk=>((owner.setIfInBounds j (some hs.length)).getD k none).map (k,·)) j (j,hs.length) (by simp[hjn])
   (by show((owner.setIfInBounds j (some hs.length)).getD j none).map (j,·)=_;rw[eJ (by rw[L.size];omega),if_pos rfl];rfl) (λx hx=>by show((owner.setIfInBounds j (some hs.length)).getD x none).map (x,·)=(owner.getD x none).map (x,·);rw[eJ (by rw[L.size];omega),if_neg hx]) (List.range (mask+1)) nodup_range (mem_range.mpr (by omega))
  have p2:((live mask (owner.setIfInBounds j (some hs.length))).map (·.2)).Perm (hs.length::(live mask owner).map (·.2)):=p.map (·.2);rw[length_append,length_singleton,List.range_succ];exact p2.trans ((L.perm.cons _).trans (List.perm_append_singleton _ _).symm)
 ·rw[eJ (by rw[L.size];omega)]at hk
  by_cases e:k=j
  ·subst e;rw[if_pos rfl]at hk;cases hk;exact⟨h,by simp,n,e2,λm hm=>mq L.size hj (gL _ _ _) (e4 m hm)⟩
  ·rw[if_neg e]at hk;obtain⟨h',a1,n',a2,a3⟩:=L.path k i hk;have hi:i<hs.length:=(List.getElem?_eq_some_iff.mp a1).1;exact⟨h',by rw[getElem?_append_left hi];exact a1,n',a2,λm hm=>mq L.size hj (gL _ _ _) (a3 m hm)⟩
theorem kd{mask:Nat}(c:Cyc mask)(hashes:Array Int)(hl:hashes.size≤mask+1):∃owner,layClean mask hashes=some owner∧Lay mask owner hashes.toList:=by
 have key:∀(r hs:List Int)(owner:Array (Option Nat)),Lay mask owner hs→hs.length+r.length≤mask+1 →
   ∃owner',r.foldl (λacc h=>do
    let(owner,k) ← acc
    let j ← layClean.free mask owner (turns mask) (bits h % (mask+1)) (bits h)
    pure (owner.setIfInBounds j (some k),k+1)) (some (owner,hs.length))=some (owner',hs.length+r.length)∧Lay mask owner' (hs++r):=by
  intro r
  induction r with
  |nil=>intro hs owner L _;exact⟨owner,rfl,by simpa using L⟩
  |cons h r ih =>
   intro hs owner L hle;rw[length_cons]at hle;obtain⟨j,e,L'⟩:=pe c L (by omega) h;obtain⟨owner',e',L''⟩:=ih (hs++[h]) _ L' (by rw[length_append,length_singleton];omega);refine⟨owner',?_,by rw[append_assoc]at L'';exact L''⟩;rw[List.foldl_cons];have eb:(do
    let(owner,k) ← some (owner,hs.length)
    let j ← layClean.free mask owner (turns mask) (bits h % (mask+1)) (bits h)
    pure (owner.setIfInBounds j (some k),k+1))=some (owner.setIfInBounds j (some hs.length),hs.length+1):=by
    show(layClean.free mask owner (turns mask) (bits h % (mask+1)) (bits h)).bind _=_;rw[e];rfl
   rw[eb];rw[length_append,length_singleton]at e';rw[e',length_cons]
   congr 2
   omega
 obtain⟨owner',e,L⟩:=key hashes.toList [] _ (qL mask) (by simpa using hl);refine⟨owner',?_,by simpa using L⟩
 unfold layClean;rw[←Array.foldl_toList];have e2:(0:Nat)=([]:List Int).length:=rfl;rw[e2,e];rfl
theorem nN{t:SetTable}{hashes:Array Int}{wanted:Nat}(c:Cyc (sizeAbove wanted-1))(hl:hashes.size≤sizeAbove wanted-1+1):
  ∃(t':SetTable) (zs:List (Nat×Nat)),t.relaid hashes wanted=some (t',(zs.map (·.2)).toArray)∧t'.mask=sizeAbove wanted-1∧t'.led=t.led∧t'.plain=t.plain ∧
   Tb t' (zs.map (·.1))∧(zs.map (·.2)).Perm (List.range hashes.size)∧uL t'.mask (zs.map λz=>(z.1,hashes.getD z.2 0)):=by
 obtain⟨owner,e,L⟩:=kd c hashes hl;refine⟨{mask:=sizeAbove wanted-1,place:=((live (sizeAbove wanted-1) owner).map (·.1)).toArray,dummies:=#[],finger:=t.finger,led:=t.led,moves:=t.movedTo (sizeAbove wanted-1),plain:=t.plain},live (sizeAbove wanted-1) owner,?_,rfl,rfl,rfl,⟨rfl,rfl,?_,?_⟩,?_,?_⟩
 ·unfold relaid laid;rw[e];rfl
 ·unfold Up live;rw[List.map_filterMap];have e1:((List.range (sizeAbove wanted-1+1)).filterMap λj=>((owner.getD j none).map (j,·)).map (·.1))=(List.range (sizeAbove wanted-1+1)).filter λj=>(owner.getD j none).isSome:=by
   generalize List.range (sizeAbove wanted-1+1)=l
   induction l with
   |nil=>rfl
   |cons x l ih =>
    cases ex:owner.getD x none with
    |none=>rw[filterMap_cons_none (by rw[ex];rfl),filter_cons_of_neg (by simp[ex])];exact ih
    |some i=>rw[filterMap_cons_some (b:=x) (by rw[ex];rfl),filter_cons_of_pos (by simp[ex]),ih]
  rw[e1];exact Pairwise.sublist filter_sublist List.pairwise_lt_range
 ·intro j hj;obtain⟨z,hz,rfl⟩:=mem_map.mp hj;unfold live at hz;obtain⟨k,hk,e1⟩:=mem_filterMap.mp hz;cases ex:owner.getD k none with
  |none=>rw[ex]at e1;cases e1
  |some i =>
   rw[ex]at e1;have e2:(k,i)=z:=Option.some.inj e1;subst e2;have:=mem_range.mp hk;show k≤sizeAbove wanted-1;omega
 ·have:=L.perm;rw[length_toList]at this;exact this
 ·intro y hy;obtain⟨z,hz,rfl⟩:=mem_map.mp hy;have key:∀z:Nat×Nat,z∈live (sizeAbove wanted-1) owner↔z.1≤sizeAbove wanted-1∧owner.getD z.1 none=some z.2:=by
   intro z;unfold live;rw[mem_filterMap];constructor
   ·rintro⟨k,hk,e1⟩;cases ex:owner.getD k none with
    |none=>rw[ex]at e1;cases e1
    |some i =>
     rw[ex]at e1;have e2:(k,i)=z:=Option.some.inj e1;subst e2;have:=mem_range.mp hk;exact⟨by omega,ex⟩
   ·rintro⟨h1,h2⟩;exact⟨z.1,mem_range.mpr (by omega),by rw[h2];rfl⟩
  obtain⟨z1,z2⟩:=(key z).mp hz;obtain⟨h,a1,n,a2,a3⟩:=L.path _ _ z2;have eh:hashes.getD z.2 0=h:=by
   have a1':hashes[z.2]?=some h:=by simpa using a1
   rw[getD_eq_getD_getElem?,a1'];rfl
  refine⟨n,by rw[eh];exact a2,λm hm=>?_⟩;have:=a3 m hm;have hle:=gL (sizeAbove wanted-1) h m;rw[eI L.size hle]at this;cases ex:owner.getD (pos (sizeAbove wanted-1) h m) none with
  |none=>rw[ex]at this;cases this
  |some i =>
   rw[map_map];show pos (sizeAbove wanted-1) (hashes.getD z.2 0) m∈_;rw[eh];exact mem_map.mpr ⟨(pos (sizeAbove wanted-1) h m,i),(key _).mpr ⟨hle,ex⟩,rfl⟩
section
variable{prog:Program}{w:World}{K:Type}[DecidableEq K]{knd:KeyKind prog w K}{A:Around}{E:Value→Shared→Prop}{s:Shared}
end
section
variable{prog:Program}{w:World}{K:Type}[DecidableEq K](knd:KeyKind prog w K)
variable{knd}
variable{A:Around}{E:Value→Shared→Prop}{s:Shared}
theorem mr{t:SetTable}{l:List Nat}(T:Tb t l):t.fill=l.length:=by
 unfold SetTable.fill;rw[T.pl,T.nd];simp
theorem jl{t:SetTable}{l:List Nat}(T:Tb t l){n:Nat}(hn:l.length=n)(hf:n≤t.mask):t.fits n=true:=by
 unfold SetTable.fits;rw[mr T,T.pl];simp[hn,hf]
end
theorem mt:∀(n:Nat)(l:List Nat),(∀j,j<n→j∈l)→n≤l.length
 |0,_,_=>zero_le _
 |n+1,l,h=>by
  have hn:=h n (by omega);have ih:=mt n (l.erase n) λj hj=>(List.mem_erase_of_ne (by omega)).mpr (h j (by omega));rw[List.length_erase_of_mem hn]at ih;have:0<l.length:=List.length_pos_of_mem hn;omega
theorem lA(n:Nat)(l:List Nat)(h:l.length≤n):∃j,j≤n∧j∉l:=by
 by_cases z:∃j,j≤n∧j∉l
 ·exact z
 ·exfalso
  have:=mt (n+1) l λj hj=>by
   by_cases e:j∈l
   ·exact e
   ·exact(z ⟨j,by omega,e⟩).elim
  omega
section
variable{prog:Program}{w:World}{K:Type}[DecidableEq K]{knd:KeyKind prog w K}{A:Around}{E:Value→Shared→Prop}{s:Shared}
theorem stored{a:Addr}{o:Obj}{es:Array (Int×Value)}{ep:Nat}{t:SetTable}(ho:s.heap.get? a=some o)(hd:o.data=.set es ep t)(es':Array (Int×Value))(t':SetTable):
  (s.heap.update a (Obj.putSet es' t')).get? a=some {o with data:=.set es' (ep+1) t'}:=by
 have:=get?_update_self (Obj.putSet es' t') ho (by rw[putSet_of es' t' hd];rfl);rw[putSet_of es' t' hd]at this;exact this
theorem pg{n:Nat}(h:n≤64):n≤sizeLine:=by rw[sizeLine_eq];omega
end
section
variable{prog:Program}{w:World}{K:Type}[DecidableEq K]{knd:KeyKind prog w K}{A:Around}{R:Result→Shared→Prop}{I:Addr}{fp wr:List Addr}{G:Array GenState→Array GenState→Prop}{n:Nat}{P:Nat→Value→Prop}{St:Nat→Shared→Prop}
end
section
variable{prog:Program}{w:World}{K:Type}[DecidableEq K]{knd:KeyKind prog w K}{A:Around}{E:Value→Shared→Prop}{s:Shared}
end
end TB
namespace SRT
open PySem PySem.W PyProof.Rows
def run{α:Type}(f:Nat→Nat→Bool):KasT α→α
 |.ret a=>a
 |.ask i j k=>run f (k (f i j))
theorem cH{α β:Type}(f:Nat→Nat→Bool)(g:α→KasT β):∀t:KasT α,run f (t.bind g)=run f (g (run f t))
 |.ret a=>rfl
 |.ask i j k=>cH f g (k (f i j))
def path{α:Type}(f:Nat→Nat→Bool)(n:Nat):KasT α→Prop
 |.ret _=>True
 |.ask i j k=>i<n∧j<n∧path f n (k (f i j))
theorem cn{α β:Type}{f:Nat→Nat→Bool}{n:Nat}{g:α→KasT β}:∀{t:KasT α},path f n t→path f n (g (run f t))→path f n (t.bind g)
 |.ret a,_,h=>h
 |.ask i j k,h,h'=>⟨h.1,h.2.1,cn (t:=k (f i j)) h.2.2 h'⟩
theorem jm{α:Type}{f:Nat→Nat→Bool}{n:Nat}{cmp:Nat→Nat→(Bool→Shared→Prop)→Shared→Prop}{s:Shared}(hc:∀i j C,i<n→j<n→C (f i j) s→cmp i j C s)(Q:α→Shared→Prop):∀t:KasT α,path f n t→Q (run f t) s→t.kasWp cmp Q s
 |.ret a,_,h=>h
 |.ask i j k,p,h=>hc i j _ p.1 p.2.1 (jm hc Q (k (f i j)) p.2.2 h)
structure Ord(f:Nat→Nat→Bool)(n:Nat):Prop where
 irr:∀i,i<n→f i i=false
 tr:∀i j k,i<n→j<n→k<n→f i j=true→f j k=true→f i k=true
 tot:∀i j,i<n→j<n→i≠j→f i j=true∨f j i=true
section
variable{f:Nat→Nat→Bool}{n:Nat}
structure Row(n:Nat)(p:Array Nat):Prop where
 perm:p.toList.Perm (List.range n)
theorem Row.size{p:Array Nat}(r:Row n p):p.size=n:=by have:=r.perm.length_eq;simpa using this
theorem Row.lt{p:Array Nat}(r:Row n p){i:Nat}(hi:i<n):p.getD i 0<n:=by
 have hs:=r.size;have:p.getD i 0∈p.toList:=by
  rw[getD_eq_getD_getElem?,Array.getElem?_eq_getElem (by omega)];exact Array.getElem_mem_toList (by omega)
 exact mem_range.mp (r.perm.mem_iff.mp this)
theorem Row.ne{p:Array Nat}(r:Row n p){i j:Nat}(hi:i<n)(hj:j<n)(hij:i≠j):p.getD i 0≠p.getD j 0:=by
 have hs:=r.size;have nd:p.toList.Nodup:=r.perm.nodup_iff.mpr nodup_range;rw[getD_eq_getD_getElem?,getD_eq_getD_getElem?,Array.getElem?_eq_getElem (by omega),Array.getElem?_eq_getElem (by omega)];intro e;have e':p.toList[i]'(by simpa using (by omega:i<p.size))=p.toList[j]'(by simpa using (by omega:j<p.size)):=by simpa using e
 exact hij ((getElem_inj nd).mp e')
theorem Row.rev{p:Array Nat}(r:Row n p)(i j:Nat):Row n (kas_rev p i j):=⟨(Array.perm_iff_toList_perm.mp (mirror_perm p i j _)).trans r.perm⟩
theorem Row.bub{p:Array Nat}(r:Row n p)(i j:Nat):Row n (bubble p i j):=⟨(Array.perm_iff_toList_perm.mp (bubble_perm p i j)).trans r.perm⟩
def Up(f:Nat→Nat→Bool)(p:Array Nat)(m:Nat):Prop:=∀i j,i<j→j<m→f (p.getD i 0) (p.getD j 0)=true
theorem qM(O:Ord f n){p:Array Nat}(r:Row n p){m:Nat}(hm:m<n)(h1:1≤m)(u:Up f p m)(h:f (p.getD m 0) (p.getD (m-1) 0)=false):Up f p (m+1):=by
 have hl:f (p.getD (m-1) 0) (p.getD m 0)=true:=by
  rcases O.tot _ _ (r.lt (i:=m) hm) (r.lt (i:=m-1) (by omega)) (r.ne hm (by omega) (by omega))with z|z
  ·rw[h]at z;cases z
  ·exact z
 intro i j hij hj
 by_cases e:j=m
 ·subst e
  by_cases e2:i=j-1
  ·rw[e2];exact hl
  ·exact O.tr _ _ _ (r.lt (by omega)) (r.lt (by omega)) (r.lt hm) (u i (j-1) (by omega) (by omega)) hl
 ·exact u i j hij (by omega)
theorem jn(O:Ord f n){p:Array Nat}(r:Row n p):∀(fuel m:Nat),1≤m→m+fuel≤n→Up f p m →
  m≤run f (kas_asc p fuel m)∧run f (kas_asc p fuel m)≤m+fuel∧Up f p (run f (kas_asc p fuel m))∧(run f (kas_asc p fuel m)<m+fuel→f (p.getD (run f (kas_asc p fuel m)) 0) (p.getD (run f (kas_asc p fuel m)-1) 0)=true)
 |0,m,_,_,u=>⟨le_refl _,le_refl _,u,λh=>absurd h (by simp[kas_asc,run])⟩
 |fuel+1,m,h1,hm,u=>by
  cases e:f (p.getD m 0) (p.getD (m-1) 0)with
  |true =>
   have er:run f (kas_asc p (fuel+1) m)=m:=by
    show run f (if f (p.getD m 0) (p.getD (m-1) 0)=true then KasT.ret m else kas_asc p fuel (m+1))=m
    rw[e,if_pos rfl];rfl
   rw[er];exact⟨le_refl _,by omega,u,λ_=>e⟩
  |false =>
   have er:run f (kas_asc p (fuel+1) m)=run f (kas_asc p fuel (m+1)):=by
    show run f (if f (p.getD m 0) (p.getD (m-1) 0)=true then KasT.ret m else kas_asc p fuel (m+1))=_
    rw[e,if_neg (by simp)]
   rw[er];obtain⟨a1,a2,a3,a4⟩:=jn O r fuel (m+1) (by omega) (by omega) (qM O r (by omega) h1 u e);exact⟨by omega,by omega,a3,λh=>a4 (by omega)⟩
def sX(f:Nat→Nat→Bool)(p:Array Nat)(m:Nat):Prop:=∀i j,i<j→j<m→f (p.getD j 0) (p.getD i 0)=true
theorem jo(O:Ord f n){p:Array Nat}(r:Row n p):∀(fuel m:Nat),1≤m→m+fuel≤n→sX f p m →
  ∃m',run f (kas_desc fuel p m 0)=(p,m',0)∧m≤m'∧m'≤m+fuel∧sX f p m'
 |0,m,_,_,u=>⟨m,rfl,le_refl _,le_refl _,u⟩
 |fuel+1,m,h1,hm,u=>by
  cases e:f (p.getD m 0) (p.getD (m-1) 0)with
  |true =>
   have er:run f (kas_desc (fuel+1) p m 0)=run f (kas_desc fuel p (m+1) 0):=by
    show run f (if f (p.getD m 0) (p.getD (m-1) 0)=true then (if 0>0 then _ else kas_desc fuel p (m+1) 0)else _)=_
    rw[e,if_pos rfl,if_neg (by omega)]
   rw[er];obtain⟨m',a1,a2,a3,a4⟩:=jo O r fuel (m+1) (by omega) (by omega) (by
    intro i j hij hj
    by_cases ej:j=m
    ·subst ej
     by_cases e2:i=j-1
     ·rw[e2];exact e
     ·exact O.tr _ _ _ (r.lt (by omega)) (r.lt (i:=j-1) (by omega)) (r.lt (by omega)) e (u i (j-1) (by omega) (by omega))
    ·exact u i j hij (by omega))
   exact⟨m',a1,by omega,by omega,a4⟩
  |false =>
   have e2:f (p.getD (m-1) 0) (p.getD m 0)=true:=by
    rcases O.tot _ _ (r.lt (i:=m) (by omega)) (r.lt (i:=m-1) (by omega)) (r.ne (by omega) (by omega) (by omega))with z|z
    ·rw[e]at z;cases z
    ·exact z
   have er:run f (kas_desc (fuel+1) p m 0)=(p,m,0):=by
    show run f (if f (p.getD m 0) (p.getD (m-1) 0)=true then _ else KasT.ask (p.getD (m-1) 0) (p.getD m 0) λd=>if d=true then .ret (p,m,0)else kas_desc fuel p (m+1) (0+1))=_
    rw[e,if_neg (by simp)];show run f (if f (p.getD (m-1) 0) (p.getD m 0)=true then KasT.ret (p,m,0)else kas_desc fuel p (m+1) (0+1))=_
    rw[e2,if_pos rfl];rfl
   exact⟨m,er,le_refl _,by omega,u⟩
theorem mv{p:Array Nat}{m:Nat}(hm:m≤p.size)(k:Nat)(hk:k<m):(kas_rev p 0 m).getD k 0=p.getD (m-1-k) 0:=by
 unfold kas_rev;rw[getD_eq_getD_getElem?,getElem?_mirror_all hm k,if_pos ⟨by omega,hk⟩,getD_eq_getD_getElem?]
 congr 2
 omega
theorem sY{p:Array Nat}{m:Nat}(hm:m≤p.size)(d:sX f p m):Up f (kas_rev p 0 m) m:=by
 intro i j hij hj;rw[mv hm i (by omega),mv hm j hj];exact d _ _ (by omega) (by omega)
theorem ke(O:Ord f n){p:Array Nat}(r:Row n p)(h2:1≤n):∃m p',run f (kas_count n p)=(m,p')∧1≤m∧m≤n∧Row n p'∧Up f p' m:=by
 obtain⟨a1,a2,a3,a4⟩:=jn O r (n-1) 1 (by omega) (by omega) (by intro i j hij hj;omega);have er:run f (kas_count n p)=run f (if (run f (kas_asc p (n-1) 1)==n)=true then KasT.ret (run f (kas_asc p (n-1) 1),p)else if run f (kas_asc p (n-1) 1)>1 then .ask (p.getD 0 0) (p.getD (run f (kas_asc p (n-1) 1)-1) 0) λc=>if c=true then .ret (run f (kas_asc p (n-1) 1),p)else kas_descPart (run f (kas_asc p (n-1) 1)) n (kas_rev p 0 (run f (kas_asc p (n-1) 1)))
  else kas_descPart (run f (kas_asc p (n-1) 1)) n p):=by
  unfold kas_count;rw[cH]
 rw[er];generalize run f (kas_asc p (n-1) 1)=m at a1 a2 a3 a4⊢
 by_cases e:m=n
 ·rw[if_pos (by simp[e])];exact⟨m,p,rfl,a1,by omega,r,a3⟩
 ·rw[if_neg (by simpa using e)]
  by_cases e1:m>1
  ·rw[if_pos e1];refine⟨m,p,?_,a1,by omega,r,a3⟩;show run f (if f (p.getD 0 0) (p.getD (m-1) 0)=true then KasT.ret (m,p)else _)=_
   rw[a3 0 (m-1) (by omega) (by omega),if_pos rfl];rfl
  ·rw[if_neg e1];have em:m=1:=by omega
   subst em;have hd:=a4 (by omega);unfold kas_descPart;obtain⟨m',b1,b2,b3,b4⟩:=jo O r (n-(1+1)) (1+1) (by omega) (by omega) (by
    intro i j hij hj;have:i=0∧j=1:=by omega
    rw[this.1,this.2];exact hd)
   rw[cH,b1];dsimp only;rw[if_neg (by omega)];unfold kas_tail3;have hs:=r.size;have ur:=sY (f:=f) (by omega:m'≤p.size) b4;obtain⟨c1,c2,c3,c4⟩:=jn O (r.rev 0 m') (n-m') m' (by omega) (by omega) ur;rw[cH];exact⟨_,_,rfl,by omega,by omega,r.rev 0 m',c3⟩
theorem eK(O:Ord f n){p:Array Nat}(r:Row n p){k:Nat}(hk:k<n)(u:Up f p k):∀(fuel l r':Nat),r'-l≤fuel→l≤r'→r'≤k →
  (∀i,i<l→f (p.getD i 0) (p.getD k 0)=true)→(∀i,r'≤i→i<k→f (p.getD k 0) (p.getD i 0)=true) →
  run f (kas_place p k fuel l r')≤k∧(∀i,i<run f (kas_place p k fuel l r')→f (p.getD i 0) (p.getD k 0)=true)∧(∀i,run f (kas_place p k fuel l r')≤i→i<k→f (p.getD k 0) (p.getD i 0)=true)
 |0,l,r',h1,h2,h3,h4,h5=>by
  have:l=r':=by omega
  subst this;exact⟨h3,h4,h5⟩
 |fuel+1,l,r',h1,h2,h3,h4,h5=>by
  unfold kas_place
  by_cases e:l≥r'
  ·rw[if_pos e];have:l=r':=by omega
   subst this;exact⟨h3,h4,h5⟩
  ·rw[if_neg e];have hmid:(l+r') / 2<k:=by omega
   cases c:f (p.getD k 0) (p.getD ((l+r') / 2) 0)with
   |true =>
    have er:run f (KasT.ask (p.getD k 0) (p.getD ((l+r') / 2) 0) λc=>if c=true then kas_place p k fuel l ((l+r') / 2)else kas_place p k fuel ((l+r') / 2+1) r')=run f (kas_place p k fuel l ((l+r') / 2)):=by
     show run f (if f (p.getD k 0) (p.getD ((l+r') / 2) 0)=true then _ else _)=_
     rw[c,if_pos rfl]
    rw[er];refine eK O r hk u fuel l _ (by omega) (by omega) (by omega) h4 (λi hi hik=>?_)
    by_cases ei:i=(l+r') / 2
    ·rw[ei];exact c
    ·exact O.tr _ _ _ (r.lt hk) (r.lt (i:=(l+r') / 2) (by omega)) (r.lt (by omega)) c (u _ _ (by omega) hik)
   |false =>
    have er:run f (KasT.ask (p.getD k 0) (p.getD ((l+r') / 2) 0) λc=>if c=true then kas_place p k fuel l ((l+r') / 2)else kas_place p k fuel ((l+r') / 2+1) r')=run f (kas_place p k fuel ((l+r') / 2+1) r'):=by
     show run f (if f (p.getD k 0) (p.getD ((l+r') / 2) 0)=true then _ else _)=_
     rw[c,if_neg (by simp)]
    rw[er];have c':f (p.getD ((l+r') / 2) 0) (p.getD k 0)=true:=by
     rcases O.tot _ _ (r.lt (i:=k) hk) (r.lt (i:=(l+r') / 2) (by omega)) (r.ne hk (by omega) (by omega))with z|z
     ·rw[c]at z;cases z
     ·exact z
    refine eK O r hk u fuel _ r' (by omega) (by omega) h3 (λi hi=>?_) h5
    by_cases ei:i=(l+r') / 2
    ·rw[ei];exact c'
    ·exact O.tr _ _ _ (r.lt (by omega)) (r.lt (i:=(l+r') / 2) (by omega)) (r.lt hk) (u i _ (by omega) (by omega)) c'
theorem gm{p:Array Nat}{k l:Nat}(hk:k<p.size)(hl:l≤k)(i:Nat):(bubble p k (k-l)).getD i 0=if i=l then p.getD k 0 else if l<i∧i≤k then p.getD (i-1) 0 else p.getD i 0:=by
 simp only[getD_eq_getD_getElem?];rw[getElem?_bubble hk (k-l) (by omega) i];have e:k-(k-l)=l:=by omega
 rw[e]
 by_cases h1:i=l
 ·rw[if_pos h1,if_pos h1]
 ·rw[if_neg h1,if_neg h1]
  by_cases h2:l<i∧i≤k
  ·rw[if_pos h2,if_pos h2]
  ·rw[if_neg h2,if_neg h2]
theorem ph(O:Ord f n):∀(fuel:Nat)(p:Array Nat)(k:Nat),Row n p→k+fuel=n→Up f p k→Row n (run f (kas_bin fuel p k))∧Up f (run f (kas_bin fuel p k)) n
 |0,p,k,r,hk,u=>by
  have:k=n:=by omega
  subst this;exact⟨r,u⟩
 |fuel+1,p,k,r,hk,u=>by
  have hkn:k<n:=by omega
  obtain⟨a1,a2,a3⟩:=eK O r hkn u k 0 k (by omega) (by omega) (le_refl _) (λi hi=>by omega) (λi h1 h2=>by omega);have er:run f (kas_bin (fuel+1) p k)=run f (kas_bin fuel (bubble p k (k-run f (kas_place p k k 0 k))) (k+1)):=by
   show run f ((kas_place p k k 0 k).bind λl=>kas_bin fuel (bubble p k (k-l)) (k+1))=_;rw[cH]
  rw[er];generalize run f (kas_place p k k 0 k)=l at a1 a2 a3⊢;have hs:=r.size;refine ph O fuel _ (k+1) (r.bub _ _) (by omega) ?_;intro i j hij hj;rw[gm (by omega) a1 i,gm (by omega) a1 j]
  by_cases ei:i=l
  ·rw[if_pos ei,if_neg (by omega),if_pos ⟨by omega,by omega⟩];exact a3 (j-1) (by omega) (by omega)
  ·rw[if_neg ei]
   by_cases ej:j=l
   ·rw[if_pos ej,if_neg (by omega)];exact a2 i (by omega)
   ·rw[if_neg ej]
    by_cases hi2:l<i∧i≤k
    ·rw[if_pos hi2,if_pos ⟨by omega,by omega⟩];exact u _ _ (by omega) (by omega)
    ·rw[if_neg hi2]
     by_cases hj2:l<j∧j≤k
     ·rw[if_pos hj2]
      by_cases e3:i=j-1
      ·omega
      ·exact u i (j-1) (by omega) (by omega)
     ·rw[if_neg hj2];exact u i j hij (by omega)
theorem gO{p:Array Nat}(r:Row n p):∀(fuel m:Nat),1≤m→m+fuel≤n→path f n (kas_asc p fuel m)
 |0,m,_,_=>trivial
 |fuel+1,m,h1,hm=>by
  refine⟨r.lt (by omega),r.lt (by omega),?_⟩;show path f n (if f (p.getD m 0) (p.getD (m-1) 0)=true then KasT.ret m else kas_asc p fuel (m+1))
  split
  ·exact trivial
  ·exact gO r fuel (m+1) (by omega) (by omega)
theorem iJ(O:Ord f n){p:Array Nat}(r:Row n p):∀(fuel m:Nat),1≤m→m+fuel≤n→path f n (kas_desc fuel p m 0)
 |0,m,_,_=>trivial
 |fuel+1,m,h1,hm=>by
  refine⟨r.lt (by omega),r.lt (by omega),?_⟩;show path f n (if f (p.getD m 0) (p.getD (m-1) 0)=true then (if 0>0 then _ else kas_desc fuel p (m+1) 0)else KasT.ask (p.getD (m-1) 0) (p.getD m 0) λd=>if d=true then .ret (p,m,0)else kas_desc fuel p (m+1) (0+1))
  cases e:f (p.getD m 0) (p.getD (m-1) 0)with
  |true =>
   rw[if_pos rfl,if_neg (by omega)];exact iJ O r fuel (m+1) (by omega) (by omega)
  |false =>
   rw[if_neg (by simp)];have e2:f (p.getD (m-1) 0) (p.getD m 0)=true:=by
    rcases O.tot _ _ (r.lt (i:=m) (by omega)) (r.lt (i:=m-1) (by omega)) (r.ne (by omega) (by omega) (by omega))with z|z
    ·rw[e]at z;cases z
    ·exact z
   refine⟨r.lt (by omega),r.lt (by omega),?_⟩;dsimp only;rw[e2,if_pos rfl];exact trivial
theorem lB(O:Ord f n){p:Array Nat}(r:Row n p)(h2:1≤n):path f n (kas_count n p):=by
 obtain⟨a1,a2,a3,a4⟩:=jn O r (n-1) 1 (by omega) (by omega) (by intro i j hij hj;omega);unfold kas_count;refine cn (gO r _ _ (by omega) (by omega)) ?_;generalize run f (kas_asc p (n-1) 1)=m at a1 a2 a3 a4⊢
 by_cases e:m=n
 ·rw[if_pos (by simp[e])];exact trivial
 ·rw[if_neg (by simpa using e)]
  by_cases e1:m>1
  ·rw[if_pos e1];refine⟨r.lt (by omega),r.lt (by omega),?_⟩;dsimp only;rw[a3 0 (m-1) (by omega) (by omega),if_pos rfl];exact trivial
  ·rw[if_neg e1];have em:m=1:=by omega
   subst em;have hd:=a4 (by omega);unfold kas_descPart;refine cn (iJ O r _ _ (by omega) (by omega)) ?_;obtain⟨m',b1,b2,b3,b4⟩:=jo O r (n-(1+1)) (1+1) (by omega) (by omega) (by
    intro i j hij hj;have:i=0∧j=1:=by omega
    rw[this.1,this.2];exact hd)
   rw[b1];dsimp only;rw[if_neg (by omega)];unfold kas_tail3;exact cn (gO (r.rev 0 m') _ _ (by omega) (by omega)) trivial
theorem dP{p:Array Nat}(r:Row n p){k:Nat}(hk:k<n):∀(fuel l r':Nat),r'≤k→path f n (kas_place p k fuel l r')
 |0,l,r',_=>trivial
 |fuel+1,l,r',h=>by
  unfold kas_place
  by_cases e:l≥r'
  ·rw[if_pos e];exact trivial
  ·rw[if_neg e];refine⟨r.lt hk,r.lt (by omega),?_⟩;dsimp only
   split
   ·exact dP r hk fuel _ _ (by omega)
   ·exact dP r hk fuel _ _ h
theorem kg(O:Ord f n):∀(fuel:Nat)(p:Array Nat)(k:Nat),Row n p→k+fuel=n→Up f p k→path f n (kas_bin fuel p k)
 |0,p,k,r,hk,u=>trivial
 |fuel+1,p,k,r,hk,u=>by
  have hkn:k<n:=by omega
  show path f n ((kas_place p k k 0 k).bind λl=>kas_bin fuel (bubble p k (k-l)) (k+1));refine cn (dP r hkn _ _ _ (le_refl _)) ?_;obtain⟨a1,a2,a3⟩:=eK O r hkn u k 0 k (by omega) (by omega) (le_refl _) (λi hi=>by omega) (λi h1 h2=>by omega);generalize run f (kas_place p k k 0 k)=l at a1 a2 a3⊢;have hs:=r.size;refine kg O fuel _ (k+1) (r.bub _ _) (by omega) ?_;intro i j hij hj;rw[gm (by omega) a1 i,gm (by omega) a1 j]
  by_cases ei:i=l
  ·rw[if_pos ei,if_neg (by omega),if_pos ⟨by omega,by omega⟩];exact a3 (j-1) (by omega) (by omega)
  ·rw[if_neg ei]
   by_cases ej:j=l
   ·rw[if_pos ej,if_neg (by omega)];exact a2 i (by omega)
   ·rw[if_neg ej]
    by_cases hi2:l<i∧i≤k
    ·rw[if_pos hi2,if_pos ⟨by omega,by omega⟩];exact u _ _ (by omega) (by omega)
    ·rw[if_neg hi2]
     by_cases hj2:l<j∧j≤k
     ·rw[if_pos hj2]
      by_cases e3:i=j-1
      ·omega
      ·exact u i (j-1) (by omega) (by omega)
     ·rw[if_neg hj2];exact u i j hij (by omega)
theorem iK(O:Ord f n)(h:1≤n):path f n (kas_sort n):=by
 have r0:Row n (toArray (List.range n)):=⟨by simp⟩;obtain⟨m,p',e,h1,h2,r,u⟩:=ke O r0 h;unfold kas_sort;refine cn (lB O r0 h) ?_;rw[e];dsimp only
 by_cases hm:m<n
 ·rw[if_pos hm];have:max m 1=m:=by omega
  rw[this];exact kg O (n-m) p' m r (by omega) u
 ·rw[if_neg hm];exact trivial
theorem mw(O:Ord f n)(h:1≤n):Row n (run f (kas_sort n))∧Up f (run f (kas_sort n)) n:=by
 have r0:Row n (toArray (List.range n)):=⟨by simp⟩;obtain⟨m,p',e,h1,h2,r,u⟩:=ke O r0 h;unfold kas_sort;rw[cH,e];dsimp only
 by_cases hm:m<n
 ·rw[if_pos hm];have:max m 1=m:=by omega
  rw[this];exact ph O (n-m) p' m r (by omega) u
 ·rw[if_neg hm];have:m=n:=by omega
  subst this;exact⟨r,u⟩
end
section
variable{prog:Program}{w:World}{A:Around}{E:Value→Shared→Prop}{s:Shared}
theorem qO{vs:List Value}(h:vs.length<2):((vs.toArray.zip vs.toArray).map (·.2)).toList=(toArray ((toArray (List.range vs.length)).toList.map λi=>vs.getD i Value.none)).toList:=by
 cases vs with
 |nil=>simp
 |cons v r =>
  cases r with
  |nil=>simp
  |cons u r=>exact absurd h (by simp)
theorem eL{f:Nat→Nat→Bool}{a:Addr}{vs:List Value}{n:Nat}{κ:SortKind}{P:PySem.Fin→Shared→Prop}(O:Ord f vs.length)(ho:s.heap.get? a=some (seqObj "list" vs.toArray n))(h64:vs.length<64)(hk:∀s':Shared,(∀b o,b≠a→s.heap.get? b=some o→s'.heap.get? b=some o)→∀Q:SortKind→Shared→Prop,2≤vs.length→Q κ s'→wpAny (model prog w) A (keyKind' vs.toArray) Q (λ_ _=>False) s')(hlt:∀s':Shared,(∀b o,b≠a→s.heap.get? b=some o→s'.heap.get? b=some o)→∀(i j:Nat) (C:Bool→Shared→Prop),i<vs.length→j<vs.length→C (f i j) s'→wpAny (model prog w) A (keyLt' κ (vs.getD i Value.none) (vs.getD j Value.none)) C (λ_ _=>False) s')(h:∀p:Array Nat,Row vs.length p→Up f p vs.length→P (.done (.ret .none)) {s with heap:=sortedHeap s.heap a vs (toArray (p.toList.map λi=>vs.getD i Value.none))}):
  wpAny (model prog w) A (Builtin.«list.sort» ⟨[.ref a],[]⟩) P E s:=by
 have ha:a<s.heap.objs.size:=lt_size ho;have s1:=SameBut.update s.heap a (Obj.mapSeq λ_=>(#[]:Array Value));obtain⟨e1,ho1⟩:∃e1,(s.heap.update a (Obj.mapSeq λ_=>(#[]:Array Value))).get? a=some (seqObj "list" #[] e1):=⟨_,get?_update_seq ho λ_=>#[]⟩;rw[list_sort_plain];refine wpAny_bind (listItems_at ho rfl ?_);refine wpAny_bind (listUpdate_at ho rfl ?_ (by rw[size_toArray,sizeLine_eq];omega) (zero_le _));refine wpAny_bind (seqEpoch_at ho1 rfl ?_);refine wpAny_bind (wpAny_newTuple ?_ (by show vs.length≤_;rw[sizeLine_eq];omega));refine wpAny_bind (wpAny_newList ?_ (zero_le _));refine wpAny_holding ?_;have ho6:(((s.heap.update a (Obj.mapSeq λ_=>(#[]:Array Value))).push (seqObj "tuple" vs.toArray 0)).push (seqObj "list" #[] 0)).get? a=some (seqObj "list" #[] e1):=get?_push_of_some _ (get?_push_of_some _ ho1);have keep:∀b o,b≠a→s.heap.get? b=some o→(((s.heap.update a (Obj.mapSeq λ_=>(#[]:Array Value))).push (seqObj "tuple" vs.toArray 0)).push (seqObj "list" #[] 0)).get? b=some o:=λb o hb e =>
  get?_push_of_some _ (get?_push_of_some _ ((s1.2 b hb).trans e))
 show wpAny (model prog w) A _ P E {s with heap:=((s.heap.update a (Obj.mapSeq λ_=>(#[]:Array Value))).push (seqObj "tuple" vs.toArray 0)).push (seqObj "list" #[] 0)}
 dsimp only
 by_cases hn2:vs.toArray.size<2
 ·rw[if_pos hn2,if_pos hn2];refine wpAny_bind (wpAny_pure ?_);rw[StateT.run_pure];refine wpAny_bind (wpAny_pure ?_);dsimp only;have hn2':vs.length<2:=by simpa using hn2
  have hr:Row vs.length (toArray (List.range vs.length)):=⟨by simp⟩;have hu:Up f (toArray (List.range vs.length)) vs.length:=λi j hij hj=>by omega
  have e2:(arrOf (SortSt.mk' general' (vs.toArray.zip vs.toArray) #[] 7 none)).map (·.2)=toArray ((toArray (List.range vs.length)).toList.map λi=>vs.getD i Value.none):=by
   show(vs.toArray.zip vs.toArray).map (·.2)=_;apply toList_inj.mp;exact qO hn2'
  refine wpAny_bind (seqEpoch_at ho6 rfl ?_);rw[e2];refine wpAny_bind (listUpdate_at ho6 rfl ?_ (zero_le _) (by rw[size_toArray,length_map,length_toList,hr.size,sizeLine_eq];omega));show wpAny _ _ (if (e1 != e1)=true then _ else _) _ _ _
  simp only[bne_self_eq_false,false_eq_true,if_false];exact wpAny_pure (h _ hr hu)
 ·have hn2':2≤vs.length:=by rw[size_toArray]at hn2;omega
  rw[if_neg hn2,if_neg hn2];refine wpAny_bind (wpAny_mono (hk {s with heap:=((s.heap.update a (Obj.mapSeq λ_=>(#[]:Array Value))).push (seqObj "tuple" vs.toArray 0)).push (seqObj "list" #[] 0)} keep (λk' s'=>k'=κ∧s'={s with heap:=((s.heap.update a (Obj.mapSeq λ_=>(#[]:Array Value))).push (seqObj "tuple" vs.toArray 0)).push (seqObj "list" #[] 0)}) hn2' ⟨rfl,rfl⟩) (λκ' s0 hes=>?_) λ_ _ x=>x.elim)
  obtain⟨ek,es⟩:=hes;subst ek es;obtain⟨hrow,hup⟩:=mw O (by omega:1≤vs.length);refine wpAny_bind (wpAny_mono (kat_run (Q:=λst' s'=>∃p:Array Nat,p.size=vs.length∧arrOf st'=p.map (kas_item (vs.toArray.zip vs.toArray))∧failedOf st'=none∧p=run f (kas_sort vs.length)∧s'={s with heap:=((s.heap.update a (Obj.mapSeq λ_=>(#[]:Array Value))).push (seqObj "tuple" vs.toArray 0)).push (seqObj "list" #[] 0)})
   rfl hn2' h64 (λp' st' s' a1 a2 a3 a4=>⟨p',a1,a2,a3,a4⟩) (jm (n:=vs.length) (λi j C hi hj hC=>hlt _ keep i j C hi hj hC) (λp s'=>p=run f (kas_sort vs.length)∧s'={s with heap:=((s.heap.update a (Obj.mapSeq λ_=>(#[]:Array Value))).push (seqObj "tuple" vs.toArray 0)).push (seqObj "list" #[] 0)}) _ (iK O (by omega)) ⟨rfl,rfl⟩)) ?_ λ_ _ e=>e)
  rintro⟨⟨⟩,st'⟩ s' ⟨p,hp,har,hf,ep,es⟩;subst es;dsimp only;have hout:=kat_snds (ks:=vs) rfl har;refine wpAny_bind (seqEpoch_at ho6 rfl ?_);rw[hout];refine wpAny_bind (listUpdate_at ho6 rfl ?_ (zero_le _) (by rw[size_toArray,length_map,length_toList,hp,sizeLine_eq];omega));rw[hf];simp only[bne_self_eq_false,false_eq_true,if_false];rw[ep];exact wpAny_pure (h _ hrow hup)
theorem kh{l:Addr}{vs:List Value}{Q:List Value→Shared→Prop}(hl:IsTup s.heap l vs.toArray)(h:Q vs {s with heap:=(s.heap.push (seqObj "list" #[] 0)).update s.heap.objs.size (Obj.mapSeq (· ++ vs.toArray))})(hsz:vs.length≤sizeLine):
  wpAny (model prog w) A (collect (.ref l)) Q E s:=by
 obtain⟨o,ho,hc,n,hd⟩:=id hl;unfold collect;refine wpAny_bind (wpAny_runValue (codeAny_builtin entry_proto_collect' ?_));show wpAny _ _ (do again (.builtin "list.__iadd__" ⟨[←newList [],.ref l],[]⟩)) _ _ s
 refine wpAny_bind (wpAny_newList (wpAny_pure ⟨Code.quiet_builtin _ (by decide +kernel),codeAny_builtin entry_list_iadd' ?_⟩));show wpAny _ _ (Builtin.List.listExtendWith (.ref s.heap.objs.size) (.ref l) (.ref s.heap.objs.size)) _ _ {s with heap:=s.heap.push (seqObj "list" #[] 0)}
 unfold Builtin.List.listExtendWith;have ho':(s.heap.push (seqObj "list" #[] 0)).get? l=some o:=get?_push_of_some _ ho;refine wpAny_bind (wpAny_typeOf (T:="tuple") ⟨o,ho',hc⟩ ?_);have ht:(Value.type "tuple"==Value.type "tuple")=true:=by rfl
 rw[if_pos (by rw[ht];simp)];refine wpAny_bind (listItems_at ho' hd ?_);refine wpAny_bind (listItems_at (xs:=#[]) (n:=0) (get?_push_size _ rfl) rfl ?_);rw[if_neg (by simp)];refine wpAny_bind (listUpdate_at (xs:=#[]) (n:=0) (get?_push_size _ rfl) rfl ?_ (zero_le _) (by show(#[]++vs.toArray).size≤sizeLine+1;simp only[Array.size_append,size_toArray,length_nil];omega));refine wpAny_pure ?_;show wpAny (model prog w) A (do
   let o ← load s.heap.objs.size
   match o.data with
   |.seq xs _=>pure xs.toList
   | _=>unsupported "internal:collect") Q E {s with heap:=(s.heap.push (seqObj "list" #[] 0)).update s.heap.objs.size (Obj.mapSeq (· ++ vs.toArray))}
 refine wpAny_bind (wpAny_load (get?_update_seq (get?_push_size _ rfl) _) ?_);show wpAny _ _ (pure ((#[]:Array Value)++vs.toArray).toList) Q E _;rw[show((#[]:Array Value)++vs.toArray).toList=vs by simp];exact wpAny_pure h
theorem km{l:Addr}{vs:List Value}{Q:List Value→Shared→Prop}(hl:s.heap.IsList l vs.toArray∨IsTup s.heap l vs.toArray)(h:Q vs {s with heap:=(s.heap.push (seqObj "list" #[] 0)).update s.heap.objs.size (Obj.mapSeq (· ++ vs.toArray))})(hsz:vs.length≤sizeLine):
  wpAny (model prog w) A (collect (.ref l)) Q E s:=by
 rcases hl with hl|hl
 ·exact collect_list hl h hsz
 ·exact kh hl h hsz
theorem gP{f:Nat→Nat→Bool}{l:Addr}{vs:List Value}{κ:SortKind}{Q:Value→Shared→Prop}(O:Ord f vs.length)(hl:s.heap.IsList l vs.toArray∨IsTup s.heap l vs.toArray)(h64:vs.length<64)(hk:∀(A':Around) (s':Shared),A'.units≤A.units+2→(∀b o,s.heap.get? b=some o→s'.heap.get? b=some o)→∀Q:SortKind→Shared→Prop,2≤vs.length→Q κ s'→wpAny (model prog w) A' (keyKind' vs.toArray) Q (λ_ _=>False) s')(hlt:∀(A':Around) (s':Shared),A'.units≤A.units+2→(∀b o,s.heap.get? b=some o→s'.heap.get? b=some o)→∀(i j:Nat) (C:Bool→Shared→Prop),i<vs.length→j<vs.length→C (f i j) s'→wpAny (model prog w) A' (keyLt' κ (vs.getD i Value.none) (vs.getD j Value.none)) C (λ_ _=>False) s')(h:∀(p:Array Nat) (h':Heap),Row vs.length p→Up f p vs.length→(∀b o,s.heap.get? b=some o→h'.get? b=some o)→s.heap.objs.size≤s.heap.objs.size+1→(∃k,h'.get? (s.heap.objs.size+1)=some (seqObj "list" (toArray (p.toList.map λi=>vs.getD i Value.none)) k))→Q (.ref (s.heap.objs.size+1)) {s with heap:=h'}):
  wpAny (model prog w) A (call (.builtin "sorted") [.ref l]) Q E s:=by
 refine Calls.call_function_entry kind_sorted plain_sorted entry_sorted (args_sorted1 _) ?_;unfold Builtin.«sorted»;refine wpAny_bind (m:=checkCount "sorted" 1 1 _) (wpAny_pure ?_);refine wpAny_bind (km hl ?_ (by rw[sizeLine_eq];omega));refine wpAny_bind (wpAny_newList ?_ (by rw[sizeLine_eq];omega));have hsz:((s.heap.push (seqObj "list" #[] 0)).update s.heap.objs.size (Obj.mapSeq (· ++ vs.toArray))).objs.size=s.heap.objs.size+1:=by
  rw[size_update,size_push']
 have hoL:(((s.heap.push (seqObj "list" #[] 0)).update s.heap.objs.size (Obj.mapSeq (· ++ vs.toArray))).push (seqObj "list" vs.toArray 0)).get? (s.heap.objs.size+1)=some (seqObj "list" vs.toArray 0):=by
  rw[←hsz];exact get?_push_size _ rfl
 have keep:∀b o,s.heap.get? b=some o→(((s.heap.push (seqObj "list" #[] 0)).update s.heap.objs.size (Obj.mapSeq (· ++ vs.toArray))).push (seqObj "list" vs.toArray 0)).get? b=some o:=λb o q=>by
  have hlt:b<s.heap.objs.size:=lt_size q;rw[get?_push_ne _ _ _ (by rw[hsz];exact ne_of_lt (lt_succ_of_lt hlt)),get?_update_ne _ _ _ _ (ne_of_lt hlt),get?_push_ne _ _ _ (ne_of_lt hlt)];exact q
 have neD:∀b o,s.heap.get? b=some o→b≠s.heap.objs.size+1:=λb o q=>ne_of_lt (lt_succ_of_lt (lt_size q));show wpAny _ _ _ _ _ {s with heap:=((s.heap.push (seqObj "list" #[] 0)).update s.heap.objs.size (Obj.mapSeq (· ++ vs.toArray))).push (seqObj "list" vs.toArray 0)}
 rw[hsz];refine wpAny_bind (wpAny_holding (wpAny_call_entry slot_list_sort ⟨_,hoL,rfl⟩ entry_list_sort (eL (κ:=κ) (s:={s with heap:=((s.heap.push (seqObj "list" #[] 0)).update s.heap.objs.size (Obj.mapSeq (· ++ vs.toArray))).push (seqObj "list" vs.toArray 0)}) O hoL h64 ?_ ?_ λp hr hu=>⟨_,rfl,?_⟩) (args_list_sort _)))
 ·intro s' hs' Q' h2 hq;exact hk _ s' (by simp[Around.in1_units]) (λb o e=>hs' b o (neD b o e) (keep b o e)) Q' h2 hq
 ·intro s' hs' i j C hi hj hC;exact hlt _ s' (by simp[Around.in1_units]) (λb o e=>hs' b o (neD b o e) (keep b o e)) i j C hi hj hC
 ·refine wpAny_pure ⟨_,rfl,h p _ hr hu (λb o e=>?_) (le_succ _) ?_⟩
  ·unfold sortedHeap;rw[get?_update_ne _ _ _ _ (neD b o e)];refine get?_push_of_some _ (get?_push_of_some _ ?_);rw[get?_update_ne _ _ _ _ (neD b o e)];exact keep b o e
  ·unfold sortedHeap;obtain⟨e1,ho1⟩:∃e1,((((s.heap.push (seqObj "list" #[] 0)).update s.heap.objs.size (Obj.mapSeq (· ++ vs.toArray))).push (seqObj "list" vs.toArray 0)).update (s.heap.objs.size+1) (Obj.mapSeq λ_=>(#[]:Array Value))).get? (s.heap.objs.size+1)=some (seqObj "list" #[] e1):=⟨_,get?_update_seq hoL λ_=>#[]⟩;exact⟨_,get?_update_seq (get?_push_of_some _ (get?_push_of_some _ ho1)) _⟩
theorem nO{f:Nat→Nat→Bool}{l:Addr}{vs:List Value}{κ:SortKind}{Q:Value→Shared→Prop}(O:Ord f vs.length)(hl:s.heap.IsList l vs.toArray)(h64:vs.length<64)(hk:∀(A':Around) (s':Shared),A'.units≤A.units+2→(∀b o,s.heap.get? b=some o→s'.heap.get? b=some o)→∀Q:SortKind→Shared→Prop,2≤vs.length→Q κ s'→wpAny (model prog w) A' (keyKind' vs.toArray) Q (λ_ _=>False) s')(hlt:∀(A':Around) (s':Shared),A'.units≤A.units+2→(∀b o,s.heap.get? b=some o→s'.heap.get? b=some o)→∀(i j:Nat) (C:Bool→Shared→Prop),i<vs.length→j<vs.length→C (f i j) s'→wpAny (model prog w) A' (keyLt' κ (vs.getD i Value.none) (vs.getD j Value.none)) C (λ_ _=>False) s')(h:∀(p:Array Nat) (h':Heap),Row vs.length p→Up f p vs.length→(∀b o,s.heap.get? b=some o→h'.get? b=some o)→s.heap.objs.size≤s.heap.objs.size+1→(∃k,h'.get? (s.heap.objs.size+1)=some (seqObj "list" (toArray (p.toList.map λi=>vs.getD i Value.none)) k))→Q (.ref (s.heap.objs.size+1)) {s with heap:=h'}):
  wpAny (model prog w) A (call (.builtin "sorted") [.ref l]) Q E s:=gP O (.inl hl) h64 hk hlt h
end
end SRT
namespace L2
open PySem PySem.Spec PyProof.Rows
section
variable{X:Cx}{tg:Expr}
theorem pk{pins:List (Addr×Obj)}{σ:St}{H:Hp}{s:Shared}{a:Addr}{ks:List Key}(I:Inv X pins σ H s)(h:H a=some (.tup (ks.map kV)))(P:Program)(w:World):IsTupleKey (ao P w) s.heap ks a:=by
 obtain⟨_,its,r,o,e,c,n,d⟩:=I.hok a _ h;exact⟨o,its.toArray,n,e,c,d,by simpa using fj r⟩
theorem cI:∀{as:List Addr}{us:List Value},ap (as.map V.ref) us→us=as.map Value.ref
 |[],_,.nil=>rfl
 |b::bs,_,.cons r t=>by
  have e:_=Value.ref b:=r;rw[e,cI t];rfl
theorem ig(hu:X.A.units+1<cLine):OpR X (compareOp .NotIn) (λx y H Q=>∃a p ks,∃kss:List (Addr×List Key),x=.ref a∧H a=some (.tup (ks.map kV))∧y=.ref p∧SqL X.K H p ((kss.map (·.1)).map V.ref) ∧
  (∀z∈kss,H z.1=some (.tup (z.2.map kV)))∧Q (.bl (!(kss.any λz=>decide (z.2=ks)))) H):=by
 intro pins s σ H x y v u Q I rx ry h;obtain⟨a,p,ks,kss,rfl,ha,rfl,hq,hk,q⟩:=h;cases rx;cases ry;obtain⟨its,rv,pl,hz⟩:=I.list hq;have e:=cI rv;subst e
 let e:Value→Bool:=λv=>match v with | .ref b=>((kss.find? λz=>z.1==b).map λz=>decide (z.2=ks)).getD false | _=>false
 have he:∀z∈kss,e (.ref z.1)=decide (z.2=ks):=λz hz'=>by
  show((kss.find? λy=>y.1==z.1).map λz=>decide (z.2=ks)).getD false=_;cases ef:kss.find? λy=>y.1==z.1 with
  |none=>have:=List.find?_eq_none.mp ef z hz';simp at this
  |some y =>
   have h1:=List.find?_some ef;have h2:=List.mem_of_find?_eq_some ef;have e1:y.1=z.1:=by simpa using h1
   have e2:=hk y h2;rw[e1,hk z hz']at e2;have e3:z.2.map kV=y.2.map kV:=by injection (Option.some.inj e2)
   rw[md e3];rfl
 refine SeqAt.notIn_listAt e pl.isList (λy hy=>?_) ⟨.bl _,H,I,rfl,?_⟩
 ·have hy':y∈(kss.map (·.1)).map Value.ref:=by simpa using hy
  obtain⟨b,hb,rfl⟩:=mem_map.mp hy';obtain⟨z,hz',rfl⟩:=mem_map.mp hb;rw[he z hz'];intro prog w E' Q' hQ;exact wpAny_eqBool_tuple (knd:=ao prog w) (by simp;exact hu) (pk I (hk z hz') prog w) (pk I ha prog w) hQ
 ·have e1:(((kss.map (·.1)).map Value.ref).toArray.any e)=kss.any λz=>decide (z.2=ks):=by
   rw[List.any_toArray,any_map,any_map];apply Bool.eq_iff_iff.mpr;rw[any_eq_true,any_eq_true];constructor
   ·rintro⟨z,hz',h1⟩;exact⟨z,hz',by rw[←he z hz'];exact h1⟩
   ·rintro⟨z,hz',h1⟩;exact⟨z,hz',by show e (.ref z.1)=true;rw[he z hz'];exact h1⟩
  rw[e1];exact q
def qP:V→List V→Hp→VK→Prop:=λx vs H Q=>∃d kvs k y,x=.ref d∧vs=[kV k,y]∧H d=some (.dK kvs)∧kvs.length<sizeLine∧(∀v,aT kvs k=some v→Q v H)∧(aT kvs k=none→Q y (upd H d (.dK (dD kvs k y))))
theorem dI:MtM X "dict.setdefault" qP:=by
 intro pins s σ H x vs v us Q I rx rv h;obtain⟨d,kvs,k,y,rfl,rfl,hd,hz,q1,q2⟩:=h;cases rx;obtain⟨u,u',rfl,ru,ru'⟩:=rv.two;obtain⟨z,hs,ws,rel,dd⟩:=oS I.hok hd;have hzw:ws.length≤sizeLine:=by rw[←rel.length];exact z
 refine call_meetsIn F.slot_dict_setdefault dd.typeIs F.entry_dict_setdefault (F.args_dict_setdefault_3 _ _ _) (kt_meets_setdefault (ao X.prog X.w) d (fQ ru) hs u') ⟨ws,dd,hzw,λw' hw=>?_,λhw h' dd' sb=>?_⟩
 ·have:=rel.val k;rw[hw]at this;cases e:aT kvs k with
  |none=>rw[e]at this;cases this
  |some v =>
   rw[e]at this;exact⟨v,H,I.tok _,this,q1 v e⟩
 ·have:=rel.val k;rw[hw]at this;cases e:aT kvs k with
  |some v=>rw[e]at this;cases this
  |none =>
   have he:∃q,h'.get? d=some q:=let⟨q,_,_,hq,_⟩:=dd';⟨q,hq⟩;have hl:(dD kvs k y).length≤sizeLine:=by have:=fM kvs k y;omega
   exact⟨y,_,mf I (by rw[hd];exact True.intro) sb he (lx hl hs (rel.put k ru') dd'),ru',q2 e⟩
theorem nP:bG X (.type "range") (λxs H Q=>∃i j,xs=[.int i,.int j]∧∀p,H p=none→Q (.ref p) (upd H p (.rng i j))):=by
 intro pins s σ H xs us Q I r h;obtain⟨i,j,rfl,q⟩:=h;obtain⟨u,u',rfl,⟨t,rfl⟩,⟨t',rfl⟩⟩:=uG r;refine call_range_2 ⟨.ref s.heap.objs.size,_,I.laid (t':=s.toks+1) (o:=.rng i j) (λb ob q=>get?_push_of_some _ q) (le_refl _) ?_,rfl,q _ (I.hok.fresh (le_refl _))⟩;exact⟨t,t',_,get?_push_size _ rfl⟩
theorem lC{lo:Int}{n:Nat}{acc:Array Value}(h:ItemsOf (λi v=>∃t,v=.int (lo+i*1) t) acc n):ap ((List.range n).map λk=>V.int (lo+(k:Nat))) acc.toList:=by
 obtain⟨h1,h2⟩:=h;have key:∀(l:List Value)(k:Nat),(∀(i:Nat)(v:Value),l[i]?=some v→∃t,v=Value.int (lo+(k+i:Nat)) t)→ap ((List.range' k l.length).map λk=>V.int (lo+(k:Nat))) l:=by
  intro l
  induction l with
  |nil=>intro k _;exact .nil
  |cons v l ih =>
   intro k hv;rw[length_cons,List.range'_succ,map_cons];refine .cons ?_ (ih (k+1) λi w hw=>?_)
   ·obtain⟨t,e⟩:=hv 0 v rfl;exact⟨t,e⟩
   ·obtain⟨t,e⟩:=hv (i+1) w hw;exact⟨t,by rw[e,show k+(i+1)=k+1+i by omega]⟩
 have hl:acc.toList.length=n:=by simpa using h1
 have:=key acc.toList 0 λi v hv=>by
  have hv':acc[i]?=some v:=by simpa using hv
  obtain⟨t,e⟩:=h2 i v hv';exact⟨t,by rw[e,Int.mul_one,zero_add]⟩
 rw[hl]at this;rw[List.range_eq_range'];exact this
theorem ik(hc:X.calm=true):bG X (.type "list") (λxs H Q=>∃p i j,xs=[.ref p]∧H p=some (.rng i j)∧(-(2 ^ 62)≤i∧i<2 ^ 62∧-(2 ^ 62)≤j∧j<2 ^ 62)∧(j-i).toNat≤1000 ∧
  ∀l,H l=none→Q (.ref l) (upd H l (.lst ((List.range (j-i).toNat).map λk=>V.int (i+(k:Nat)))))):=by
 intro pins s σ H xs us Q I r h;obtain⟨p,i,j,rfl,hp,⟨b1,b2,b3,b4⟩,hn,q⟩:=h;obtain⟨u,rfl,rx⟩:=cz r;cases rx;obtain⟨t,t',t'',e⟩:=(show bb X.prog X.w H s.heap p (.rng i j)from I.hok p _ hp);have hsz:Builtin.Range.rangeSize i j 1=((j-i).toNat:Nat):=by rw[rangeSize_one];split<;>omega
 refine call_list_range (n:=(j-i).toNat) (I.ok.hd hc) e (small_one b1 b2 b3 b4) hsz (by omega) λh' tk acc c' kp hg hi=>?_;refine⟨.ref s.heap.objs.size,_,I.laid (t':=tk) kp (le_refl _) (show bb X.prog X.w _ h' _ (.lst _)from⟨?_,acc.toList,c',lC hi,by simpa using hg⟩),rfl,q _ (I.hok.fresh (le_refl _))⟩
 rw[length_map,length_range,sizeLine_eq];omega
theorem lD(hu:X.A.units<cLine):OpR X (compareOp .Eq) (λx y H Q=>∃a b xs,x=.ref a∧y=.ref b∧SqL X.K H a xs∧SqL X.K H b []∧Q (.bl (decide (xs=[]))) H):=by
 intro pins s σ H x y v u Q I rx ry h;obtain⟨a,b,xs,rfl,rfl,ha,hb,q⟩:=h;cases rx;cases ry;obtain⟨its,r1,ht,_⟩:=I.list ha;obtain⟨its2,r2,hb',_⟩:=I.list hb;cases r2
 by_cases e:xs=[]
 ·subst e;cases r1;refine eq_listAt (e:=λ_=>true) ht.isList hb'.isList rfl hu (λj h1 h2=>absurd h2 (by simp)) ⟨.bl _,H,I,?_,q⟩;rfl
 ·have e2:its≠[]:=λz=>e (r1.nil_iff.mp z);have e3:its.length≠0:=λz=>e2 (length_eq_zero_iff.mp z);refine SeqAt.eq_list_lengthsAt ht.isList hb'.isList (by simp[e3]) hu ⟨.bl _,H,I,?_,q⟩;show _=Value.bool _;simp[e]
end
end L2
namespace ZT
open PySem PySem.SeqAt
section
variable{prog:Program}{w:World}{A:Around}{E:Value→Shared→Prop}{s:Shared}
end
end ZT
namespace L2
open PySem PySem.Spec PyProof.Rows
section
variable{X:Cx}{tg:Expr}
abbrev il:=Addr×Int×List V
def dJ(zs:List il)(i:Nat):Int:=(zs.getD i (0,0,[])).2.1
theorem po{zs:List il}(h:(zs.map (·.2.1)).Nodup):SRT.Ord (λi j=>decide (dJ zs i<dJ zs j)) zs.length:=by
 refine⟨λi _=>by simp,λi j k _ _ _ h1 h2=>?_,λi j hi hj hij=>?_⟩
 ·simp only[decide_eq_true_eq]at *;omega
 ·simp only[decide_eq_true_eq];have:dJ zs i≠dJ zs j:=by
   unfold dJ;rw[getD_eq_getElem?_getD,getD_eq_getElem?_getD,getElem?_eq_getElem hi,getElem?_eq_getElem hj];intro e;have e':(zs.map (·.2.1))[i]'(by simpa using hi)=(zs.map (·.2.1))[j]'(by simpa using hj):=by simpa using e
   exact hij ((getElem_inj h).mp e')
  omega
theorem ko{prog:Program}{w:World}{A:Around}{s:Shared}{b:Bool}{Q:Bool→Shared→Prop}(h:Q false s):∀(l:List Value)(i:Nat),PySem.W.KatLex prog w A b false Q (l.zip l) i s
 |[],i=>h
 |v::l,i=>kat_cons (EqAt.same v prog w _ _ (kat_yes (ko h l (i+1))))
theorem eM:bG X (.builtin "sorted") (λxs H Q=>∃l,∃zs:List il,xs=[.ref l]∧(SqL X.K H l ((zs.map (·.1)).map V.ref)∨SqT X.K H l ((zs.map (·.1)).map V.ref))∧(∀z∈zs,H z.1=some (.tup (.int z.2.1::z.2.2)))∧(zs.map (·.2.1)).Nodup∧zs.length<64 ∧
  ∀zs':List il,zs'.Perm zs→zs'.Pairwise (λa b=>a.2.1<b.2.1)→∀p,H p=none→Q (.ref p) (upd H p (.lst ((zs'.map (·.1)).map V.ref)))):=by
 intro pins s σ H xs us Q I r h;obtain⟨l,zs,rfl,hq,hk,hnd,h64,q⟩:=h;obtain⟨u,rfl,ru⟩:=cz r;cases ru;obtain⟨its,rv,pl⟩:∃its,ap ((zs.map (·.1)).map V.ref) its∧(s.heap.IsList l its.toArray∨IsTup s.heap l its.toArray):=by
  rcases hq with hq|hq
  ·obtain⟨its,rv,pl,hz⟩:=I.list hq;exact⟨its,rv,.inl pl.isList⟩
  ·obtain⟨its,rv,pl,hz⟩:=I.tuple hq;exact⟨its,rv,.inr pl⟩
 have e:=cI rv;subst e;have hlen:((zs.map (·.1)).map Value.ref).length=zs.length:=by simp
 have hobj:∀z∈zs,∃o its n t,s.heap.get? z.1=some o∧o.cls=.type "tuple"∧o.data=.seq its n∧its.toList=.int z.2.1 t::its.toList.drop 1:=λz hz'=>by
  obtain⟨_,its,rr,o,e1,e2,n,e3⟩:=I.hok z.1 _ (hk z hz');cases rr with
  |cons r1 r2 =>
   obtain⟨t,rfl⟩:=r1;exact⟨o,_,n,t,e1,e2,e3,by simp⟩
 have hget:∀i,i<zs.length→((zs.map (·.1)).map Value.ref).getD i Value.none=.ref (zs.getD i (0,0,[])).1∧zs.getD i (0,0,[])∈zs:=λi hi=>by
  rw[getD_eq_getElem?_getD,getD_eq_getElem?_getD,getElem?_map,getElem?_map,getElem?_eq_getElem hi];exact⟨rfl,getElem_mem hi⟩
 refine SRT.gP (κ:=tuples' true) (f:=λi j=>decide (dJ zs i<dJ zs j)) (by rw[hlen];exact po hnd) pl (by rw[hlen];exact h64) ?kind ?less ?fin
 case kind =>
  intro A' s' _ kp Q' h2 hQ';have key:∀ys:List il,(∀z∈ys,z∈zs)→∃fs:List Value,KatTups s'.heap ((ys.map (·.1)).map Value.ref) fs∧fs.length=ys.length∧∀v∈fs,∃i t,v=Value.int i t:=by
   intro ys
   induction ys with
   |nil=>intro _;exact⟨[],KatTups.nil,rfl,λv hv=>by simp at hv⟩
   |cons z ys ih =>
    intro hm;obtain⟨fs,h1,h2',h3⟩:=ih λy hy=>hm y (by simp[hy]);obtain⟨o,its,n,t,e1,e2,e3,e4⟩:=hobj z (hm z (by simp));refine⟨.int z.2.1 t::fs,KatTups.cons (kp _ _ e1) e2 e3 ?_ h1,by simp[h2'],λv hv=>?_⟩
    ·rw[←getElem?_toList,e4];rfl
    ·rcases mem_cons.mp hv with rfl|hv
     ·exact⟨_,_,rfl⟩
     ·exact h3 v hv
  obtain⟨fs,h1,h2',h3⟩:=key zs λz hz'=>hz';refine kat_kind (T:=.type "int") h1 (by rw[h2'];rw[hlen]at h2;omega) (λv hv=>?_) (by rfl) hQ';obtain⟨i,t,rfl⟩:=h3 v hv;exact .now
 case less =>
  intro A' s' _ kp i j C hi hj hC;rw[hlen]at hi hj;obtain⟨gi,mi⟩:=hget i hi;obtain⟨gj,mj⟩:=hget j hj;rw[gi,gj];obtain⟨oi,ii,ni,ti,a1,a2,a3,a4⟩:=hobj _ mi;obtain⟨oj,ij,nj,tj,b1,b2,b3,b4⟩:=hobj _ mj;refine kat_lt (kp _ _ a1) a3 (kp _ _ b1) b3 ?_
  by_cases hij:i=j
  ·subst hij;rw[a1]at b1;cases b1;rw[a3]at b3;cases b3;have:C false s':=by simpa using hC
   have e2:decide (ii.size<ii.size)=false:=by simp
   rw[e2];exact ko this _ _
  ·have hne:dJ zs i≠dJ zs j:=by
    rcases (po hnd).tot i j hi hj hij with h1|h1<;>simp only[decide_eq_true_eq]at h1<;>omega
   rw[a4,b4];refine kat_cons (wpAny_eqBool_int ?_);have e2:((zs.getD i (0,0,[])).2.1==(zs.getD j (0,0,[])).2.1)=false:=beq_eq_false_iff_ne.mpr hne;rw[e2];refine kat_no ?_;exact kat_lt_int hC
 case fin =>
  intro p h' hrow hup kp _ hg;obtain⟨c,hg⟩:=hg;rw[hlen]at hrow hup;obtain⟨zs',hzs'⟩:∃zs',zs'=p.toList.map λi=>zs.getD i (0,0,[]):=⟨_,rfl⟩;have hperm:zs'.Perm zs:=by
   rw[hzs'];refine(hrow.perm.map _).trans ?_;have:(List.range zs.length).map (λi=>zs.getD i (0,0,[]))=zs:=by
    apply ext_getElem?;intro i;rw[getElem?_map]
    by_cases hi:i<zs.length
    ·rw[getElem?_range hi,getElem?_eq_getElem hi];show some (zs.getD i (0,0,[]))=_;rw[getD_eq_getElem?_getD,getElem?_eq_getElem hi];rfl
    ·rw[getElem?_eq_none (by rw[length_range];omega),getElem?_eq_none (by omega)];rfl
   rw[this]
  have hpl:p.size=zs.length:=hrow.size;have hpw:zs'.Pairwise (λa b=>a.2.1<b.2.1):=by
   rw[pairwise_iff_getElem];intro i j hi hj hij;have hi':i<p.size:=by rw[hzs',length_map,length_toList]at hi;exact hi
   have hj':j<p.size:=by rw[hzs',length_map,length_toList]at hj;exact hj
   have:=hup i j hij (by omega);simp only[decide_eq_true_eq,dJ]at this;rw[getD_eq_getD_getElem?,getD_eq_getD_getElem?,Array.getElem?_eq_getElem hi',Array.getElem?_eq_getElem hj']at this;simpa [hzs']using this
  have hout:(toArray (p.toList.map λi=>((zs.map (·.1)).map Value.ref).getD i Value.none))=((zs'.map (·.1)).map Value.ref).toArray:=by
   congr 1
   rw[hzs'];simp only[map_map];apply map_congr_left;intro i hi;have hi':i<zs.length:=mem_range.mp (hrow.perm.mem_iff.mp hi);have:=(hget i hi').1;simp only[map_map]at this;exact this
  rw[hout]at hg;have hv:ap ((zs'.map (·.1)).map V.ref) ((zs'.map (·.1)).map Value.ref):=by
   generalize zs'.map (·.1)=as
   induction as with
   |nil=>exact .nil
   |cons a as ih=>exact .cons rfl ih
  refine⟨.ref (s.heap.objs.size+1),_,I.laid (t':=s.toks) (o:=.lst ((zs'.map (·.1)).map V.ref)) kp (le_succ _) ⟨?_,_,c,hv,hg⟩,rfl,q zs' hperm hpw _ (I.hok.fresh (le_succ _))⟩;rw[length_map,length_map,hperm.length_eq,sizeLine_eq];omega
theorem fm:bG X (.builtin "sorted") (λxs H Q=>∃l,∃zs:List il,xs=[.ref l]∧SqL X.K H l ((zs.map (·.1)).map V.ref)∧(∀z∈zs,H z.1=some (.tup (.int z.2.1::z.2.2)))∧(zs.map (·.2.1)).Nodup∧zs.length<64 ∧
  ∀zs':List il,zs'.Perm zs→zs'.Pairwise (λa b=>a.2.1<b.2.1)→∀p,H p=none→Q (.ref p) (upd H p (.lst ((zs'.map (·.1)).map V.ref)))) :=
 λpins s σ H xs us Q I r ⟨l,zs,e,hq,h⟩=>eM pins s σ H xs us Q I r ⟨l,zs,e,.inl hq,h⟩
end
theorem jp{scope:Scope}{env:Env}(h:∀y∈scope.names,y.2≠.free):relabel scope env=scope:=by
 unfold relabel;rw[map_eq_self (l:=scope.names) (λx hx=>by
  obtain⟨n,k⟩:=x;have:(k==NameKind.free)=false:=by simpa using h _ hx
  simp[this])]
theorem cF{X:Cx}{scope:Scope}(hk:scope.kind=.function)(hf:∀y∈scope.names,y.2≠.free)(hc:∀y∈scope.names,y.2≠.cell)(hn:∀x∈scope.names,x.2=.local→scope.names.lookup x.1=some .local):LcOk X scope [] :=
 ⟨hk,closureFor_none hf,hn,hc,λx c h=>by simp at h,λx h=>by
  rw[jp hf]at h;rcases h with h|h
  ·exact absurd rfl (hc _ (PySem.mem_of_lookup h))
  ·exact absurd rfl (hf _ (PySem.mem_of_lookup h))⟩
theorem rV{k:Nat}{js:List Nat}{J:It}{g:TG}{te:TE}{σ:St}{H1:Hp}{Q:VK}{p:Addr}(n:Nat)(hn:n≤1000)(Pv:Nat→List V→St→Hp→Prop)(h0:Pv 0 [] (bc k js σ) (upd H1 p (.lst [])))(hy:∀i ys σ' H',Pv i ys σ' H'→ys.length≤i)(go:∀i ys σ' H',i<n→Pv i ys σ' H'→J.go i H')(stop:∀ys σ' H',Pv n ys σ' H'→J.stop n H'∧Q (.ref p) H')(step:∀i ys σ' H',i<n→Pv i ys σ' H'→∀x H2,J.yld i H' x H2→g x σ' H2 λσ2 H3=>te σ2 H3 λy H4=>H4 p=some (.lst ys)∧Pv (i+1) (ys++[y]) σ2 (upd H4 p (.lst (ys++[y]))))(mg:∀x σ H (Q Q':St→Hp→Prop),(∀σ H,Q σ H→Q' σ H)→g x σ H Q→g x σ H Q')(me:∀σ H (Q Q':VK),(∀y H,Q y H→Q' y H)→te σ H Q→te σ H Q'):
  LcW k js g te σ Q J H1 p:=by
 refine⟨λi m ys σ' H'=>m=n-i∧i≤n∧Pv i ys σ' H',⟨n,by simp,zero_le _,h0⟩,?_⟩;rintro i m ys σ' H' ⟨rfl,hi,hp⟩
 by_cases hlt:i<n
 ·refine .inr ⟨go i ys σ' H' hlt hp,?_,λx H2 y=>?_⟩
  ·have:=hy i ys σ' H' hp;exact lt_of_le_of_lt this (az (by omega))
  ·refine mg _ _ _ _ _ (λσ2 H3 h3=>me _ _ _ _ (λz H4 h4=>⟨h4.1,n-(i+1),by omega,rfl,hlt,h4.2⟩) h3) (step i ys σ' H' hlt hp x H2 y)
 ·have e:i=n:=by omega
  subst e;exact .inl (stop ys σ' H' hp)
theorem af{H:Hp}{p:Addr}{o:HO}(h:H p=none):Same H (upd H p o):=λb u e=>by rw[ah (ar e h)];exact e
theorem ca{H:Hp}{p a:Addr}{o u:HO}(h:H p=none)(e:H a=some u):upd H p o a=some u:=by rw[ah (ar e h)];exact e
theorem aD{H0 H:Hp}{p:Addr}{o:HO}(h0:H0 p=none)(s:Same H0 H):Same H0 (upd H p o):=λb u e=>by
 rw[ah (ar e h0)];exact s b u e
structure Fly(P:Program)(w:World)(outer:List Env)(H:Hp)(s:Shared)(H':Hp)(ea C:Addr)(s':Shared):Prop where
 os:s'.os=s.os
 bare:AllBare s'.gens
 un:Un (frs outer) [] H H' s.heap s'.heap
 new:H' ea=none
 fly:∃B a0,FlyingW B outer ea (.ref C) a0 s'.heap∧HOk P w H' B∧(∀b o,s.heap.get? b=some o→H b=none→b∉frs outer→B.get? b=some o) ∧
  ∀b o,s.heap.get? b=some o→b∉frs outer→∃o',B.get? b=some o'
def CX1(P:Program)(w:World):CXT:=λouter H s E e s'=>∃ea C H',e=.ref ea∧Fly P w outer H s H' ea C s'∧E (.ref C) none H'
theorem bb.ex{P:Program}{w:World}{H:Hp}{h:Heap}{a:Addr}{o:HO}(x:bb P w H h a o):∃ob,h.get? a=some ob:=by
 cases o with
 |lst xs=>obtain⟨_,_,_,_,e⟩:=x;exact⟨_,e⟩
 |tup xs=>obtain⟨_,_,_,ob,e,_⟩:=x;exact⟨ob,e⟩
 |dK kvs=>obtain⟨_,_,_,_,o,_,_,e,_⟩:=x;exact⟨_,e⟩
 |dT kvs=>obtain⟨_,_,_,_,o,_,_,e,_⟩:=x;exact⟨_,e⟩
 |set S n=>obtain⟨o,_,_,_,e,_⟩:=x;exact⟨_,e⟩
 |ins C dx fs=>obtain⟨_,_,_,e,_⟩:=x;exact⟨_,e⟩
 |own y=>obtain⟨_,e⟩:=x;exact⟨_,e⟩
 |xd fs=>obtain⟨_,⟨_,_,_,e,_⟩,_⟩:=x;exact⟨_,e⟩
 |rng lo hi=>obtain⟨_,_,_,e⟩:=x;exact⟨_,e⟩
 |frz ob u=>obtain⟨e,_⟩:=x;exact⟨_,e⟩
 |tbl ps=>exact⟨_,(show h.get? a=some _ from x)⟩
 |met f y=>exact⟨_,(show h.get? a=some _ from x)⟩
 |ext φ=>obtain⟨_,⟨_,e⟩,_⟩:=x;exact⟨_,e⟩
theorem pq{P:Program}{w:World}{H:Hp}{h:Heap}{l:List Addr}(x:HOk P w H h)(hl:∀b∈l,H b=none):HOk P w H (hideAll h l):=λa o e =>
 (x a o e).stay (λb u hb q=>hideAll_get l q λz=>by
  have:=hl b z;rcases hb with hb|hb
  ·rw[hb,e]at this;cases this
  ·rw[hb]at this;cases this) (λ_ q=>q) λ_ _ q=>q
section
variable{P:Program}{w:World}{l:List Env}{H H':Hp}{h1 h2 h3 B:Heap}{ea:Addr}{cls a0:Value}
theorem pr(un:Un (frs l) [] H H' h1 h2)(fl:FlyingW B l ea cls a0 h2)(hB:HOk P w H' B)(kp:∀b o,h1.get? b=some o→H b=none→b∉frs l→B.get? b=some o)(th:∀b o,h1.get? b=some o→b∉frs l→∃o',B.get? b=some o')(st:B.StaysIn h3)(hs:h2.UpToSlots h3):Un (frs l) [] H H' h1 h3∧HOk P w H' h3:=by
 refine⟨⟨λb o e n hb _=>st b o (kp b o e n hb),λb o e n hb hx=>?_,un.free,λb o e _=>?_,un.tups,un.frzs,un.tbls⟩,hB.kept st⟩
 ·obtain⟨sl,q⟩:=un.slot b o e n hb hx;obtain⟨_,o',ho',hd⟩:=fl.2.2.1.mem hb;rw[q]at ho';cases ho';obtain⟨sl',q'⟩:=hs b _ q hd;exact⟨sl',q'⟩
 ·by_cases hb:b∈frs l
  ·obtain⟨_,o',ho',hd⟩:=fl.2.2.1.mem hb;obtain⟨sl',q'⟩:=hs b _ ho' hd;exact⟨_,q'⟩
  ·obtain⟨o',q⟩:=th b o e hb;exact⟨o',st b o' q⟩
end
section
variable{X:Cx}{pins:List (Addr×Obj)}{σ:St}{H H':Hp}{s s':Shared}{ea C:Addr}{E:XK}
theorem Inv.fly_up(I:Inv X pins σ H s)(hex:X.ex=[])(J:Inv X pins σ H' s')(new:H' ea=none){B:Heap}{a0:Value}(fl:FlyingW B X.outer ea (.ref C) a0 s'.heap)(hB:HOk X.prog X.w H' B)(kp:∀b o,s.heap.get? b=some o→H b=none→b∉frs X.stack→B.get? b=some o)(th:∀b o,s.heap.get? b=some o→b∉frs X.stack→∃o',B.get? b=some o'):Fly X.prog X.w X.outer X.H₀ X.s₀ H' ea C s':=by
 have ub:=I.base;rw[hex]at ub;have uj:=J.base;rw[hex]at uj;have ne:∀b o,X.s₀.heap.get? b=some o→b∉frs X.outer→b∉frs X.stack:=λb o e n hb=>by
  rcases mem_cons.mp (I.stkSub b hb)with z|z
  ·have:=lt_size e;rw[z]at this;exact absurd (lt_of_lt_of_le this I.ok.above) (lt_irrefl _)
  ·exact n z
 refine⟨J.os,J.bare,uj,new,B,a0,fl,hB,λb o e n hb=>?_,λb o e hb=>?_⟩
 ·exact kp b o (ub.keep b o e n hb (by simp)) (ub.free b o e n (by simp)) (ne b o e hb)
 ·obtain⟨o',q⟩:=ub.there b o e (by simp);exact th b o' q (ne b o e hb)
structure Lv(X:Cx)(E:XK):Prop where
 ex:X.ex=[]
 stk:X.stack=X.env::X.outer
 fr:X.env.frame=some X.env.locals
 xe:X.xe=λe s'=>wpAny (model X.prog X.w) X.A (leaving X.env e) (λ_ s''=>CX1 X.prog X.w X.outer X.H₀ X.s₀ E e s'') (λe' s''=>CX1 X.prog X.w X.outer X.H₀ X.s₀ E e' s'') s'
theorem px{P:Program}{w:World}{K:PySem.W.Frag}{mg:Str→Option Value}{base:Heap}{N:List Str}{qual:Str}{scope:Scope}{f:Addr}{cd:Value}{A:Around}{outer:List Env}{s:Shared}{H:Hp}{E:XK} :
  Lv (gb (CX1 P w) P w K mg base N qual scope f cd A outer s H E) E:=⟨rfl,rfl,rfl,rfl⟩
theorem rW(L:Lv X E):gG (CX1 X.prog X.w) X E:=by
 intro pins σ H s e s' I h;obtain⟨ea,C,H',rfl,F,hE⟩:=h;rw[L.xe];obtain⟨B,a0,fl,hB,kp,th⟩:=id F.fly;have fl':=fl;rw[L.stk]at fl';refine wpAny_leaves_onW (by rw[I.ok.frames,L.stk]) L.fr fl' λh' fl2 hs=>?_;obtain⟨u,ok⟩:=pr F.un fl hB kp th fl2.1 hs;have J:Inv X pins σ H' {s' with heap:=h'}:=I.call' (s':={s' with heap:=h'}) F.os u ok F.bare λb z=>absurd z (by simp)
 exact⟨ea,C,H',rfl,I.fly_up L.ex J F.new fl2 hB kp th,hE⟩
theorem Inv.ground(I:Inv X pins σ H s):(hideAll s.heap (frs X.stack)).StaysIn s.heap∧s.heap.FunFrames (hideAll s.heap (frs X.stack)) X.stack∧HOk X.prog X.w H (hideAll s.heap (frs X.stack)) :=
 ⟨λb o q=>of_hideAll _ q,PySem.W.funFrames_hide I.stack λenv he b hb=>mem_filterMap.mpr ⟨env,he,hb⟩,pq I.hok I.stkFree⟩
theorem uM(L:Lv X E)(I:Inv X pins σ H s){h':Heap}{vs:List Value}(hx:Heap.MadeExcOf s.heap h' ea (.ref C) vs)(hE:E (.ref C) none H):X.xe (.ref ea) {s with heap:=h'}:=by
 rw[L.xe];obtain⟨g1,g2,g3⟩:=I.ground;have g2':s.heap.FunFrames (hideAll s.heap (frs X.stack)) (X.env::X.outer):=L.stk ▸ g2;refine wpAny_leaves_madeW (s:={s with heap:=h'}) (by rw[I.ok.frames,L.stk]) L.fr g1 g2' hx λh'' t fl _ _ hs=>?_;have hs':s.heap.UpToSlots h'':=(Heap.UpToSlots.of_keeps hx.keeps).trans hs;have u:Un (frs X.stack) [] H H s.heap h'':=⟨λb o e n hb _=>fl.1 b o (hideAll_get _ e hb),λb o e n hb _=>by
   obtain⟨_,o',ho',hd⟩:=g2.mem hb;rw[e]at ho';cases ho';exact hs' b o e hd,λb o e n _=>n,λb o e _=>by
   by_cases hb:b∈frs X.stack
   ·obtain⟨_,o',ho',hd⟩:=g2.mem hb;obtain⟨sl,q⟩:=hs' b o' ho' hd;exact⟨_,q⟩
   ·exact⟨o,fl.1 b o (hideAll_get _ e hb)⟩,λ_ _ q=>q,λ_ _ _ q=>q,λb ps q=>⟨#[],by simpa using q⟩⟩
 have J:Inv X pins σ H {s with heap:=h''}:=I.call' (s':={s with heap:=h''}) rfl u (g3.kept fl.1) I.bare λb z=>absurd z (by simp)
 have new:H ea=none:=by
  cases q:H ea with
  |none=>rfl
  |some o =>
   obtain⟨ob,e⟩:=(I.hok ea o q).ex;have h2:=hx.new;rw[e]at h2;cases h2
 exact⟨ea,C,H,rfl,I.fly_up L.ex J new fl g3 (λb o e _ hb=>hideAll_get _ e hb) λb o e hb=>⟨o,hideAll_get _ e hb⟩,hE⟩
end
end L2
namespace XI
open PySem PySem.Spec PySem.W
section
variable{prog:Program}{w:World}{A:Around}{E:Value→Shared→Prop}{h:Heap}{g:Array GenState}{d:Drawn}{t:Nat}{os:OsState}{a:Addr}{o:Obj}{vs:Array Value}{nm q:Str}{C N:Addr}{bs bm:List Value}{hdct:Bool}{sn:List Str}{sub:List Value}{ab:Bool}{col:Option Bool}{dd:Option Addr}{k0 k1 k2 k3 k5:Option Value}{newId:String}
end
end XI
namespace L2
open PySem PySem.Spec PyProof.Rows
section
variable{X:Cx}{pins:List (Addr×Obj)}{σ:St}{H:Hp}{s:Shared}
def tF2(te:TE):TE:=λσ H Q=>te σ H λv H1=>∃i:Int,v=.int i∧0≤i∧i≤60∧∀y,Q (.str y) H1
theorem lE(i:Int)(h0:0≤i)(h1:i≤60):(ofString (toString i)).length≤100:=by
 have key:∀n:Fin 61,(ofString (toString ((n.val:Nat):Int))).length≤100:=by decide +kernel
 have:=key ⟨i.toNat,by omega⟩;have e:((i.toNat:Nat):Int)=i:=by omega
 rw[e]at this;exact this
theorem uN{x:Str}{j:Nat}{p1 p2 p3:Pos}{e:Expr}{te:TE}(he:PE X e te)(hx:x.length≤800):PE X (.JoinedStr [.Constant (.str x) j p1,.FormattedValue e (-1) none p2] p3) (tF2 te):=by
 intro pins s σ H Q I h;have hl:(empty++x).length≤800:=by rw[strLen_append];show 0+x.length≤800;omega
 refine JoinedStr_many (joinParts_cons (Calls.Constant_str ?_));refine⟨le_of_lt (az (by omega)),?_⟩;refine joinParts_cons (FormattedValue_plain (thn (he pins _ σ H _ (I.tok _) h) λv s1 hpt=>?_));obtain⟨y,H1,I1,r1,q1⟩:=hpt;obtain⟨i,rfl,h0,h1,q⟩:=q1;obtain⟨t,rfl⟩:=r1;have h2:=lE i h0 h1;have h3:((empty++x)++ofString (toString i)).length≤1000:=by rw[strLen_append];omega
 refine formatField_int_small (lt_of_le_of_lt (Nat.log2_le_self _) (by omega)) ⟨le_of_lt (az h3),?_⟩;exact joinParts_nil ⟨.str _,H1,(I1.tok _).tok _,⟨_,rfl⟩,q _⟩ (le_of_lt (az h3))
abbrev bmV:List Value:=[.type "ValueError",.type "Exception",.type "BaseException",.type "object"]
abbrev uO(X:Cx)(x:Str)(C:Addr):Prop:=OwnCls x C bmV "ValueError.__new__" X.mg X.base
def sZ(C:Addr)(E:XK)(ta:TE):TS:=λ_ σ H=>dE ta jN σ H λvs H1=>vs.length≤sizeLine∧E (.ref C) none H1
theorem pA{E:XK}(L:Lv X E){x:Str}{C:Addr}{np cpos pos:Pos}{a:Expr}{ta:TE}(O:uO X x C)(hh:X.A.handled=none)(hg:Gl X x)(ha:PE X a ta)(hs:starEach [a] X.env=[(false,eval a X.env)]:=by rfl)(hd:(x==("__debug__":Str))=false:=by decide):PS X (.Raise (some (.Call (.Name x np) [a] [] cpos)) none pos) (sZ C E ta):=by
 intro pins s σ H D I h;obtain⟨tl,N,nm,q,bs,hdct,sn,sub,ab,col,dd,k0,k1,k2,k3,k5,mN,hC,hN,hni,T⟩:=O.obj;refine wpAny_Raise_call_subT (C:=C) (nm:=nm) (q:=q) (N:=N) (bs:=bs) (bm:=tl) (hdct:=hdct) (sn:=sn) (sub:=sub) (ab:=ab) (col:=col) (dd:=dd) (k0:=k0) (k1:=k1) (k2:=k2) (k3:=k3) (k5:=k5)
  PySem.F.excBase_ValueError (mN:=mN) (T.hasType PySem.F.excBase_ValueError.hasBase) hh (by rw[hs];rfl) hni (ja I hg O.bound ⟨rfl,?_⟩ hd)
 have hA:PA X [a] (dE ta jN):=aa ha ag hs;have h':=hA cpos pins s σ H (λvs H1=>vs.length≤sizeLine∧E (.ref C) none H1) I h;rw[hs]at h'⊢;refine evalArgs_plain (thn h' λus s2 hpt=>?_);obtain⟨vs,H2,I2,r2,q2⟩:=hpt;exact⟨rfl,by rw[←r2.length];exact q2.1,I2.bk _ _ hC,hN.keeps I2.bk,T.keeps I2.bk,λh' e hx=>uM L I2 hx q2.2⟩
end
end L2
namespace DL
open PySem PySem.Spec PyProof.Rows
theorem gQ:entryFor table "dict.update.loop"=some Builtin.«dict.update.loop»:=entryFor_of_tree (by kernel_rfl)
theorem cU:plainId "dict.update.loop"=true:=by decide +kernel
theorem jq:typeLookup (.type "list") "keys"=pure none:=by rw[typeLookup_type,builtinLookup_eq_fast];kernel_rfl
section
variable{prog:Program}{w:World}{A:Around}{E:Value→Shared→Prop}{s:Shared}
theorem qQ{a:Addr}{xs:Array Value}{k:Nat}{sl:Array (Option Value)}{u:Tok}{Q:Value→Shared→Prop}(hx:s.heap.get? a=some {cls:=.type "list",dict:=none,data:=.seq xs k,slots:=sl})(hA:A.handled=none)(h:∀h' tk e,Heap.NewExcOf s.heap h' e "AttributeError"→E (.ref e) {s with heap:=h',toks:=tk}):
  wpAny (model prog w) A (getAttrBy (.ref a) (.str "keys" u) false) Q E s:=by
 obtain⟨hp,g,d,tk,os⟩:=s;have hT:∀tk',(⟨hp,g,d,tk',os⟩:Shared).TypeIs (.ref a) "list":=λ_=>⟨_,hx,rfl⟩;have f1:=sub_AttributeError;have f3:=F.slot_list_getattribute.lookup;have f4:=F.slot_list_getattribute.bind (.ref a);have f5:=am_list_getattr_none;unfold getAttrBy
 repeat (any_goals (first|assumption|exact hT _|((with_reducible show wpAny _ _ (call (Value.builtin "list.__getattribute__") _ _) _ _ _);refine call_meets F.slot_list_getattribute (hT _) am_entry_list_getattribute (F.args_list_getattribute_2 _ _) (meets_getattribute_miss_list a xs k sl "keys" _ jq (by decide) (by size_fits)) ⟨hx,hA,λh' tk' e hx'=>?_⟩)|wp_step))
 obtain⟨t',u',he⟩:=hx'.there;show wpAny _ _ (getattributeRaised _ _ _ _ _ _ _) _ _ _;unfold getattributeRaised
 repeat (any_goals (first|assumption|wp_step))
 exact h _ _ _ hx'.of
theorem qR{a:Addr}{xs:Array Value}{k:Nat}{sl:Array (Option Value)}{Q:Option Value→Shared→Prop}(hx:s.heap.get? a=some {cls:=.type "list",dict:=none,data:=.seq xs k,slots:=sl})(hA:A.handled=none)(h:∀h' tk,(∀b o,s.heap.get? b=some o→h'.get? b=some o)→Q none {s with heap:=h',toks:=tk}):
  wpAny (model prog w) A (getAttr? (.ref a) "keys") Q E s:=by
 obtain⟨hp,g,d,tk,os⟩:=s;have f1:=sub_AttributeError;unfold getAttr? getAttrBy?
 repeat (any_goals (first|assumption|((with_reducible show wpAny _ _ (getAttrBy _ _ false) _ _ _);refine qQ (s:=⟨hp,g,d,_,os⟩) hx hA λh' tk' e hx'=>?_)|wp_step))
 obtain⟨⟨oc,od,odt,osl⟩,vs,he,hc,_,_⟩:=hx'.there;simp only at hc;subst hc
 repeat (any_goals (first|assumption|with_reducible refine wpAny_loadPart_at he ?_|wp_step))
 exact h h' tk' λb o e=>hx'.keeps b o e
end
section
variable{prog:Program}{w:World}{A:Around}{E:Value→Shared→Prop}{R:Result→Shared→Prop}{I:Addr}{fp wr:List Addr}{G:Array GenState→Array GenState→Prop}{n:Nat}{P:Nat→Value→Prop}{St:Nat→Shared→Prop}
theorem nQ(W:WalksS prog w A.in1 I fp wr G n P St)(d:Addr)(hdf:d∉fp)(ad:Nat→Addr)(kk vv:Nat→Value)(hval:∀i v,P i v→v=.ref (ad i))(had:∀i,i<n→ad i∉d::wr)(D:Nat→Heap→Prop)(hD:∀i (h h':Heap),D i h→(∀b o,b∉wr→h.get? b=some o→h'.get? b=some o)→D i h')(step:∀i (s:Shared) (E:Value→Shared→Prop) (Q:Unit→Shared→Prop),i<n→D i s.heap→(∀h' tk,s.toks≤tk→SameBut d s.heap h'→D (i+1) h'→Q () {s with heap:=h',toks:=tk})→wpAny (model prog w) A.in1 (dictSet d (kk i) (vv i)) Q E s):
  ∀(k i:Nat)(s:Shared)(tk:Tok),n-i=k→i≤n→St i s→D i s.heap→(∀j,j<n→IsTup s.heap (ad j) #[kk j,vv j]) →
   (∀s',Moved (d::wr) G s s'→D n s'.heap→R (.ok (.ret .none)) s') →
   codeAny (model prog w) A (.builtin "dict.update.loop" ⟨[.ref d,.ref I,.int i tk,.none],[]⟩) R s:=by
 have hdw:d∉wr:=λh=>hdf (W.sub _ h);have hsub:∀b∈wr,b∈d::wr:=λb hb=>mem_cons_of_mem _ hb;have hadw:∀i,i<n→ad i∉wr:=λi hi h=>had i hi (mem_cons_of_mem _ h);have hadd:∀i,i<n→ad i≠d:=λi hi h=>had i hi (by rw[h];exact mem_cons_self);intro k
 induction k with
 |zero =>
  intro i s tk hk hi hst hDi htp hR;have hin:i=n:=by omega
  subst hin;refine codeAny_builtin gQ ?_;rw[Around.under_plainId cU _];show wpAny _ A.in1 (pyNext (.ref I) >>= _) _ _ s;refine wpAny_bind (W.done s _ _ hst λs' hm=>?_);show wpAny _ A.in1 (Builtin.Dict.addKeywords d [] >>= λ_=>ret Value.none) _ _ s';exact wpAny_bind (wpAny_pure (wpAny_pure (hR s' (hm.mono hsub) (hD _ _ _ hDi hm.heap))))
 |succ k ih =>
  intro i s tk hk hi hst hDi htp hR;have hlt:i<n:=by omega
  refine codeAny_builtin gQ ?_;rw[Around.under_plainId cU _];show wpAny _ A.in1 (pyNext (.ref I) >>= _) _ _ s;refine wpAny_bind (W.item i s _ _ hlt hst λv s' hP hst' hm=>?_);have hv:=hval i v hP;subst hv;have hDi':D i s'.heap:=hD _ _ _ hDi hm.heap;have htp':∀j,j<n→IsTup s'.heap (ad j) #[kk j,vv j]:=λj hj=>by
   obtain⟨o,ho,r⟩:=htp j hj;exact⟨o,hm.heap _ o (hadw j hj) ho,r⟩
  obtain⟨ot,hot,hct,nt,hdt⟩:=htp' i hlt;have hT:s'.TypeIs (.ref (ad i)) "tuple":=⟨ot,hot,hct⟩;refine wpAny_bind (wpAny_holding ?_);refine wpAny_bind (wpAny_tryCatch ?_);unfold Builtin.Dict.pairItems;refine wpAny_bind (wpAny_typeOf hT ?_);rw[if_pos (by decide)];generalize hDS:dictSet=DS;obtain⟨hp,g,dr,t,os⟩:=s';obtain⟨ocls,odict,odata,oslots⟩:=ot;simp only at hct hdt;subst hct hdt
  repeat (any_goals (first|assumption|with_reducible refine wpAny_loadPart_at hot ?_|wp_step))
  subst hDS;refine step i _ _ _ hlt hDi' λh' tk' htk hsb hD'=>?_;have hsb':SameBut d hp h':=hsb;have hkeep:∀b o,b∉d::wr→hp.get? b=some o→h'.get? b=some o:=λb o hb e=>by
   rw[hsb'.2 b (λz:b=d=>hb (by rw[z];exact mem_cons_self))];exact e
  refine wpAny_pure ⟨plainId_quiet cU _,?_⟩;refine ih (i+1) _ _ (by omega) hlt (W.frame _ _ _ _ hst' htk λb hb o e=>?_) hD' (λj hj=>?_) λs'' hm'' hD''=>?_
  ·rw[hsb'.2 b (λh:b=d=>hdf (by rw[←h];exact hb))];exact e
  ·obtain⟨o,ho,r⟩:=htp' j hj;exact⟨o,hkeep _ o (had j hj) ho,r⟩
  ·exact hR s'' (Moved.trans W.gtrans ((hm.mono hsub).then_heap htk λb o hb e=>hkeep b o hb e) hm'') hD''
end
section
variable{prog:Program}{w:World}{A:Around}{E:Value→Shared→Prop}{s:Shared}
theorem dk{l:Addr}{items:Array Value}{nl:Nat}{sl:Array (Option Value)}{Q:Value→Shared→Prop}(hh:A.handled=none)(hl:s.heap.get? l=some {cls:=.type "list",dict:=none,data:=.seq items nl,slots:=sl})(ad:Nat→Addr)(kk vv:Nat→Value)(hi:∀(i:Nat) (v:Value),items[i]?=some v→v=Value.ref (ad i))(ht:∀i,i<items.size→IsTup s.heap (ad i) #[kk i,vv i])(D:Nat→Heap→Prop)(hD0:∀h',h'.get? s.heap.objs.size=some {cls:=.type "dict",data:=.dict #[]}→(∀b o,s.heap.get? b=some o→h'.get? b=some o)→D 0 h')(hD:∀i (h h':Heap),D i h→(∀b o,b≤s.heap.objs.size→h.get? b=some o→h'.get? b=some o)→D i h')(step:∀i (s':Shared) (E:Value→Shared→Prop) (Q:Unit→Shared→Prop),i<items.size→D i s'.heap→(∀h' tk,s'.toks≤tk→SameBut s.heap.objs.size s'.heap h'→D (i+1) h'→Q () {s' with heap:=h',toks:=tk}) →
   wpAny (model prog w) A.in1.in1 (dictSet s.heap.objs.size (kk i) (vv i)) Q E s')(h:∀h' tk,D items.size h'→(∀b o,s.heap.get? b=some o→h'.get? b=some o)→Q (.ref s.heap.objs.size) {s with heap:=h',toks:=tk}):
  wpAny (model prog w) A (call (.type "dict") [.ref l]) Q E s:=by
 refine callType_codes (Q₁:=λobj s₁=>obj=.ref s.heap.objs.size∧s₁={s with heap:=s.heap.push {cls:=.type "dict",data:=.dict #[]}}) F.kt_called_dict (F.kt_typeCall_dict_1 _) F.entry_dict_init (kt_code_dict_new _ ⟨rfl,rfl⟩) ?_;rintro obj s₁ ⟨rfl,rfl⟩;have hnew:(s.heap.push {cls:=.type "dict",data:=.dict #[]}).get? s.heap.objs.size=some {cls:=.type "dict",data:=.dict #[]}:=get?_push_size _ rfl;have hTd:Shared.TypeIs {s with heap:=s.heap.push {cls:=.type "dict",data:=.dict #[]}} (.ref s.heap.objs.size) "dict":=⟨_,hnew,rfl⟩
 have hl':(s.heap.push {cls:=.type "dict",data:=.dict #[]}).get? l=some {cls:=.type "list",dict:=none,data:=.seq items nl,slots:=sl}:=get?_push_of_some _ hl;have hTl:Shared.TypeIs {s with heap:=s.heap.push {cls:=.type "dict",data:=.dict #[]}} (.ref l) "list":=⟨_,hl',rfl⟩
 refine⟨hTd,F.args_dict_init_2 _ _,?_⟩;unfold Builtin.«dict.__init__»;refine wpAny_bind ?_;unfold Builtin.Dict.selfAndRest;refine wpAny_bind (wpAny_notOrdered_dict hTd ?_);show wpAny _ _ (pure (s.heap.objs.size,[Value.ref l])) _ _ _;refine wpAny_pure ?_;show wpAny _ _ (Builtin.Dict.updateFrom "dict.__init__" s.heap.objs.size (.ref l) [] .none) _ _ _;unfold Builtin.Dict.updateFrom;refine wpAny_bind (wpAny_typeOf hTl ?_);rw[if_pos (by decide)];refine wpAny_bind (qR (s:={s with heap:=s.heap.push {cls:=.type "dict",data:=.dict #[]}}) hl' (show A.in1.in1.handled=none by simp[hh]) λh1 tk1 hk1=>?_);have hk1':∀b o,(s.heap.push {cls:=.type "dict",data:=.dict #[]}).get? b=some o→h1.get? b=some o:=hk1;have hL1:h1.IsList l items:=⟨_,hk1' _ _ hl',rfl,nl,rfl⟩;rw[if_pos (show(none:Option Value).isNone=true from rfl)];refine wpAny_bind (wpAny_rule ?_);refine wpAny_bind (wpAny_pyIter_list hL1 ?_);have hlS:l<s.heap.objs.size:=lt_size hl;have hS1:s.heap.objs.size<h1.objs.size:=lt_size (hk1' _ _ hnew);have k0:∀b o,s.heap.get? b=some o→h1.get? b=some o:=λb o e=>hk1' b o (get?_push_of_some _ e);have hadlt:∀i,i<items.size→ad i<s.heap.objs.size:=λi hi'=>by
  obtain⟨o,ho,_⟩:=ht i hi';exact lt_size ho
 refine wpAny_pure ⟨plainId_quiet cU _,nQ (A:=A.in1) ((Walks.list (show A.in1.in1.handled=none by simp[hh]) h1.objs.size l (ne_of_lt (lt_trans hlS hS1)) items).toS) s.heap.objs.size ?hdf ad kk vv hi ?had D ?hD' (λi s' E Q hi' hDi hq=>step i s' E Q hi' hDi hq)
  (items.size-0) 0 _ 0 (by omega) (zero_le _) ⟨⟨_,get?_push_size _ rfl,rfl,rfl⟩,hL1.push _⟩ ?hD0' ?ht' λs' hm hDn=>?_⟩
 case hdf =>
  simp only[mem_cons,not_mem_nil,or_false,not_or];exact⟨ne_of_lt hS1,ne_of_gt hlS⟩
 case had =>
  intro i hi';simp only[mem_cons,not_mem_nil,or_false,not_or];exact⟨ne_of_lt (hadlt i hi'),ne_of_lt (lt_trans (hadlt i hi') hS1)⟩
 case hD' =>
  intro i g g' hDi hk;refine hD i g g' hDi λb o hb e=>hk b o ?_ e;simp only[mem_cons,not_mem_nil,or_false];exact ne_of_lt (lt_of_le_of_lt hb hS1)
 case hD0' =>
  exact hD0 _ (get?_push_of_some _ (hk1' _ _ hnew)) λb o e=>get?_push_of_some _ (k0 b o e)
 case ht' =>
  intro j hj;obtain⟨o,ho,r⟩:=ht j hj;exact⟨o,get?_push_of_some _ (k0 _ _ ho),r⟩
 obtain⟨h',g',d',tk',os'⟩:=s';have eg:g'=s.gens:=hm.gens;have ed:d'=s.drawn:=hm.drawn;have eo:os'=s.os:=hm.os;subst eg;subst ed;subst eo;refine⟨rfl,h h' tk' hDn λb o e=>?_⟩;have hb:b<s.heap.objs.size:=lt_size e;refine hm.heap b o ?_ (get?_push_of_some _ (k0 b o e));simp only[mem_cons,not_mem_nil,or_false,not_or];exact⟨ne_of_lt hb,ne_of_lt (lt_trans hb hS1)⟩
end
end DL
namespace L2
open PySem PySem.Spec PyProof.Rows
section
variable{X:Cx}
theorem pB{pins:List (Addr×Obj)}{σ:St}{H:Hp}{s:Shared}(I:Inv X pins σ H s){a:Addr}{x y:V}(h:H a=some (.tup [x,y])):∃u v,aw x u∧aw y v∧IsTup s.heap a #[u,v]:=by
 obtain⟨_,its,r,ht⟩:=I.hok a _ h;cases r with
 |cons r1 r =>
  cases r with
  |cons r2 r=>cases r;exact⟨_,_,r1,r2,by simpa using ht⟩
theorem kq{κ:Type}{pins:List (Addr×Obj)}{σ:St}{H:Hp}{s:Shared}(I:Inv X pins σ H s){zs:List (Addr×κ×V)}(kf:Addr×κ×V→V)(hk:∀z∈zs,H z.1=some (.tup [kf z,z.2.2])):
  ∃f:Addr×κ×V→Value×Value,∀z∈zs,aw (kf z) (f z).1∧aw z.2.2 (f z).2∧IsTup s.heap z.1 #[(f z).1,(f z).2]:=by
 have hch:∀z:Addr×κ×V,∃p:Value×Value,z∈zs→aw (kf z) p.1∧aw z.2.2 p.2∧IsTup s.heap z.1 #[p.1,p.2]:=λz=>by
  by_cases hz':z∈zs
  ·obtain⟨u,v,a,b,c⟩:=pB I (hk z hz');exact⟨(u,v),λ_=>⟨a,b,c⟩⟩
  ·exact⟨(.none,.none),λh=>absurd h hz'⟩
 exact⟨λz=>Classical.choose (hch z),λz hz=>Classical.choose_spec (hch z) hz⟩
theorem aI{α:Type}{l:List α}{i:Nat}{d:α}(h:i<l.length):l.getD i d∈l∧l[i]?=some (l.getD i d):=by
 rw[getD_eq_getElem?_getD,getElem?_eq_getElem h];exact⟨getElem_mem h,rfl⟩
theorem iL{κ:Type}{zs:List (Addr×κ×V)}{d:Addr×κ×V}{i:Nat}{v:Value}(h:(((zs.map (·.1)).map Value.ref).toArray)[i]?=some v):v=Value.ref (zs.getD i d).1:=by
 have h':((zs.map (·.1)).map Value.ref)[i]?=some v:=by simpa using h
 rw[getElem?_map,getElem?_map]at h';rw[getD_eq_getElem?_getD];cases e:zs[i]? with
 |none=>rw[e]at h';cases h'
 |some z=>rw[e]at h';exact(Option.some.inj h').symm
theorem bR{α:Type}{l:List α}{i:Nat}{x:α}(h:l[i]?=some x):l.take (i+1)=l.take i++[x]:=by rw[take_succ,h];rfl
theorem iM{α κ:Type}{l:List α}{f:α→κ}{i:Nat}{x:α}(hn:(l.map f).Nodup)(h:l[i]?=some x):f x∉(l.take i).map f:=by
 intro hm;obtain⟨y,hy,e⟩:=mem_map.mp hm;obtain⟨j,hj,e2⟩:=mem_iff_getElem.mp hy;have hj':j<i:=by rw[length_take]at hj;omega
 have hi:i<l.length:=(List.getElem?_eq_some_iff.mp h).1;have e3:(l.map f)[j]'(by rw[length_map];omega)=(l.map f)[i]'(by rw[length_map];omega):=by
  rw[getElem_map,getElem_map];rw[List.getElem_take]at e2;rw[e2,e,(List.getElem?_eq_some_iff.mp h).2]
 have:=(getElem_inj hn).mp e3;omega
theorem fR(hc:X.calm=true):bG X (.type "dict") (λxs H Q=>∃l,∃zs:List (Addr×Key×V),xs=[.ref l]∧H l=some (.lst ((zs.map (·.1)).map V.ref))∧(∀z∈zs,H z.1=some (.tup [kV z.2.1,z.2.2]))∧zs.length≤1000 ∧
  (zs.map (·.2.1)).Nodup∧((∀d o,H d=none→Q (.ref d) (upd H d (.frz o (.dK (zs.map (·.2))))))∨∀d,H d=none→Q (.ref d) (upd H d (.dK (zs.map (·.2)))))):=by
 intro pins s σ H xs us Q I r h;obtain⟨l,zs,rfl,hl,hk,hz,hnd,q⟩:=h;obtain⟨u,rfl,ru⟩:=cz r;cases ru;obtain⟨_,its,nl,rv,ho⟩:=I.hok l _ hl;have e:=cI rv;subst e;obtain⟨f,hf⟩:=kq I (λz=>kV z.2.1) hk;have hsz:(((zs.map (·.1)).map Value.ref).toArray).size=zs.length:=by simp
 refine DL.dk (s:=s) (I.ok.hd hc) ho (λi=>(zs.getD i (0,.inl 0,.non)).1) (λi=>(f (zs.getD i (0,.inl 0,.non))).1) (λi=>(f (zs.getD i (0,.inl 0,.non))).2) (λi v hv=>iL hv) (λi hi=>?_)
  (λi h'=>h'.DictOf (ao X.prog X.w) s.heap.objs.size ((zs.take i).map λz=>(z.2.1,(f z).2))) (λh' hg _=>?_) (λi g g' hd hk=>?_) (λi s' E Q hi hd hq=>?_) λh' tk hd hkeep=>?_
 ·rw[hsz]at hi;exact(hf _ (aI hi).1).2.2
 ·exact⟨_,#[],0,hg,⟨rfl,rfl,rfl⟩,rfl,λ_ he=>by simp at he,Pairs.nil,nodup_nil⟩
 ·obtain⟨o,es,ep,ho,r⟩:=hd;exact⟨o,es,ep,hk _ o (le_refl _) ho,r⟩
 ·rw[hsz]at hi;obtain⟨hm,hg⟩:=aI (d:=((0,.inl 0,.non):Addr×Key×V)) hi;refine wpAny_dictSet_pairs (hsz:=by rw[length_map,length_take];have:=az hz;omega) (k:=(zs.getD i (0,.inl 0,.non)).2.1) (fQ (hf _ hm).1) hd λh' hd' hs=>hq h' _ (le_succ _) hs ?_;have e1:=bR hg;have e2:=iM hnd hg;rw[e1,map_append];unfold stored at hd';rw[if_neg]at hd'
  ·exact hd'
  ·intro ha;obtain⟨p,hp,he⟩:=any_eq_true.mp ha;obtain⟨z,hz',rfl⟩:=mem_map.mp hp;exact e2 (mem_map.mpr ⟨z,hz',of_decide_eq_true he⟩)
 ·rw[hsz,take_length]at hd;obtain⟨ob,hob⟩:∃ob,h'.get? s.heap.objs.size=some ob:=let⟨o,_,_,ho,_⟩:=hd;⟨o,ho⟩;have hrel:KV (zs.map (·.2)) (zs.map λz=>(z.2.1,(f z).2)):=by
   have:∀ys:List (Addr×Key×V),(∀z∈ys,z∈zs)→KV (ys.map (·.2)) (ys.map λz=>(z.2.1,(f z).2)):=by
    intro ys
    induction ys with
    |nil=>intro _;exact .nil
    |cons z ys ih=>intro hm;exact .cons ⟨rfl,(hf z (hm z (by simp))).2.1⟩ (ih λy hy=>hm y (by simp[hy]))
   exact this zs λz hz=>hz
  have hdk:∀H':Hp,bb X.prog X.w H' h' s.heap.objs.size (.dK (zs.map (·.2))):=λH'=>lx (le_of_lt (az (by rw[length_map];exact hz))) (beq_eq_false_iff_ne.mpr (symm (ne_of_lt I.big))) hrel hd;rcases q with q|q
  ·exact⟨.ref s.heap.objs.size,_,I.laid (t':=tk) (o:=.frz ob (.dK (zs.map (·.2)))) hkeep (le_refl _) ⟨hob,hdk _⟩,rfl,q _ ob (I.hok.fresh (le_refl _))⟩
  ·exact⟨.ref s.heap.objs.size,_,I.laid (t':=tk) (o:=.dK (zs.map (·.2))) hkeep (le_refl _) (hdk _),rfl,q _ (I.hok.fresh (le_refl _))⟩
theorem lF(hc:X.calm=true):bG X (.type "dict") (λxs H Q=>∃l,∃zs:List (Addr×Key×V),xs=[.ref l]∧H l=some (.lst ((zs.map (·.1)).map V.ref))∧(∀z∈zs,H z.1=some (.tup [kV z.2.1,z.2.2]))∧zs.length≤1000∧(zs.map (·.2.1)).Nodup∧∀d o,H d=none→Q (.ref d) (upd H d (.frz o (.dK (zs.map (·.2)))))) :=
 λpins s σ H xs us Q I r ⟨l,zs,h1,h2,h3,h4,h5,q⟩=>fR hc pins s σ H xs us Q I r ⟨l,zs,h1,h2,h3,h4,h5,.inl q⟩
theorem kr(hc:X.calm=true):bG X (.type "dict") (λxs H Q=>∃l,∃zs:List (Addr×Key×V),xs=[.ref l]∧H l=some (.lst ((zs.map (·.1)).map V.ref))∧(∀z∈zs,H z.1=some (.tup [kV z.2.1,z.2.2]))∧zs.length≤1000∧(zs.map (·.2.1)).Nodup∧∀d,H d=none→Q (.ref d) (upd H d (.dK (zs.map (·.2))))) :=
 λpins s σ H xs us Q I r ⟨l,zs,h1,h2,h3,h4,h5,q⟩=>fR hc pins s σ H xs us Q I r ⟨l,zs,h1,h2,h3,h4,h5,.inr q⟩
theorem lG(hc:X.calm=true)(hu:X.A.units+4<cLine):bG X (.type "dict") (λxs H Q=>∃l,∃zs:List (Addr×(Addr×List Key)×V),xs=[.ref l]∧H l=some (.lst ((zs.map (·.1)).map V.ref))∧(∀z∈zs,H z.1=some (.tup [.ref z.2.1.1,z.2.2])∧H z.2.1.1=some (.tup (z.2.1.2.map kV)))∧zs.length≤1000 ∧
  (zs.map (·.2.1.2)).Nodup∧∀d o,H d=none→Q (.ref d) (upd H d (.frz o (.dT (zs.map λz=>(z.2.1.2,z.2.2)))))):=by
 intro pins s σ H xs us Q I r h;obtain⟨l,zs,rfl,hl,hk,hz,hnd,q⟩:=h;obtain⟨u,rfl,ru⟩:=cz r;cases ru;obtain⟨_,its,nl,rv,ho⟩:=I.hok l _ hl;have e:=cI rv;subst e;obtain⟨f,hf⟩:=kq I (λz=>V.ref z.2.1.1) (λz hz=>(hk z hz).1);have hsz:(((zs.map (·.1)).map Value.ref).toArray).size=zs.length:=by simp
 have hkey:∀z∈zs,z.2.1.1<s.heap.objs.size:=λz hz=>I.hok.lt (hk z hz).2;have hkk:∀z∈zs,IsTupleKey (ao X.prog X.w) s.heap z.2.1.2 z.2.1.1:=λz hz=>pk I (hk z hz).2 _ _;have hmove:∀(h':Heap)(z:Addr×(Addr×List Key)×V),z∈zs→(∀b o,b<s.heap.objs.size→s.heap.get? b=some o→h'.get? b=some o)→IsTupleKey (ao X.prog X.w) h' z.2.1.2 z.2.1.1:=λh' z hz hk=>by
  obtain⟨o,items,n,ho,r⟩:=hkk z hz;exact⟨o,items,n,hk _ o (lt_size ho) ho,r⟩
 refine DL.dk (s:=s) (I.ok.hd hc) ho (λi=>(zs.getD i (0,(0,[]),.non)).1) (λi=>(f (zs.getD i (0,(0,[]),.non))).1) (λi=>(f (zs.getD i (0,(0,[]),.non))).2) (λi v hv=>iL hv) (λi hi=>?_)
  (λi h'=>h'.DictOfH (tupleKind (ao X.prog X.w)) s.heap.objs.size ((zs.take i).map λz=>(z.2.1.2,z.2.1.1,(f z).2))∧∀b o,b<s.heap.objs.size→s.heap.get? b=some o→h'.get? b=some o) (λh' hg hk0=>?_) (λi g g' hd hk=>?_) (λi s' E Q hi hd hq=>?_) λh' tk hd hkeep=>?_
 ·rw[hsz]at hi;exact(hf _ (aI hi).1).2.2
 ·exact⟨⟨_,#[],0,hg,⟨rfl,rfl,rfl⟩,rfl,rfl,λ_ hx=>by simp at hx,nodup_nil⟩,λb o _ e=>hk0 b o e⟩
 ·obtain⟨⟨o,es,ep,ho,r1,r2,r3,r4,r5⟩,hb⟩:=hd;have hb':∀b o,b<s.heap.objs.size→s.heap.get? b=some o→g'.get? b=some o:=λb o hlt e=>hk b o (le_of_lt hlt) (hb b o hlt e);refine⟨⟨o,es,ep,hk _ o (le_refl _) ho,r1,r2,r3,λx hx=>?_,r5⟩,hb'⟩;obtain⟨z,hz',rfl⟩:=mem_map.mp hx;exact hmove g' z (List.mem_of_mem_take hz') hb'
 ·rw[hsz]at hi;obtain⟨hm,hg⟩:=aI (d:=((0,(0,[]),.non):Addr×(Addr×List Key)×V)) hi;obtain⟨hd1,hd2⟩:=hd;have ek:(f (zs.getD i (0,(0,[]),.non))).1=.ref (zs.getD i (0,(0,[]),.non)).2.1.1:=(hf _ hm).1;rw[ek];refine wpAny_dictSet_heap (hsz:=by rw[length_map,length_take];have:=az hz;omega) (k:=(zs.getD i (0,(0,[]),.non)).2.1.2) (by show X.A.in1.in1.units<cLine;simp[Around.in1_units];omega) (hmove _ _ hm hd2) hd1 λh' hd' hs=>hq h' _ (Nat.le_add_right _ _) hs ⟨?_,λb o hlt e=>?_⟩
  ·have e1:=bR hg;have e2:=iM (f:=λz:Addr×(Addr×List Key)×V=>z.2.1.2) hnd hg;rw[e1,map_append];rw[storedH_new]at hd'
   ·exact hd'
   ·refine atKey_none_of_get λj p hj=>e2 ?_;obtain⟨z,hz',ez⟩:=mem_map.mp (mem_of_getElem? hj);exact mem_map.mpr ⟨z,hz',congrArg Prod.fst ez⟩
  ·rw[hs.2 b (ne_of_lt hlt)];exact hd2 b o hlt e
 ·obtain⟨hd1,_⟩:=hd;rw[hsz,take_length]at hd1;obtain⟨o,es,ep,ho2,r1,r2,r3,r4,r5⟩:=hd1;refine⟨.ref s.heap.objs.size,_,I.laid (t':=tk) (o:=.frz o (.dT (zs.map λz=>(z.2.1.2,z.2.2)))) hkeep (le_refl _) ⟨ho2,le_of_lt (az (by rw[length_map];exact hz)),beq_eq_false_iff_ne.mpr (symm (ne_of_lt I.big)),_,?_,o,es,ep,ho2,r1,r2,r3,r5⟩,rfl,q _ o (I.hok.fresh (le_refl _))⟩;have:∀ys:List (Addr×(Addr×List Key)×V),(∀z∈ys,z∈zs)→Paired (λ(p:List Key×V) (q:List Key×Addr×Value)=>p.1=q.1∧upd H s.heap.objs.size (.frz o (.dT (zs.map λz=>(z.2.1.2,z.2.2)))) q.2.1=some (.tup (p.1.map kV))∧aw p.2 q.2.2) (ys.map λz=>(z.2.1.2,z.2.2)) (ys.map λz=>(z.2.1.2,z.2.1.1,(f z).2)):=by
   intro ys
   induction ys with
   |nil=>intro _;exact .nil
   |cons z ys ih =>
    intro hm;refine .cons ⟨rfl,?_,(hf z (hm z (by simp))).2.1⟩ (ih λy hy=>hm y (by simp[hy]));show upd H _ _ z.2.1.1=_;rw[ah (ne_of_lt (hkey z (hm z (by simp))))];exact(hk z (hm z (by simp))).2
  exact this zs λz hz=>hz
end
def tf(h:Heap)(d:Addr)(es:Array DictEntry)(ep:Nat):Prop:=∃o,h.get? d=some o∧o.ExactDict∧o.data=.dict es ep
section
variable{prog:Program}{w:World}{A:Around}{E:Value→Shared→Prop}{s:Shared}
theorem pC{d:Addr}{es:Array DictEntry}{ep:Nat}{Q:Value→Shared→Prop}(hd:(d==sysModules)=false)(hm:tf s.heap d es ep)(hQ:Q (.ref s.heap.objs.size) {s with heap:=s.heap.push {cls:=.type "dict_keyiterator",data:=.fields #[.ref d,.int 0 0,.int es.size 0,.int ep 0]}}):
  wpAny (model prog w) A (pyIter (.ref d)) Q E s:=by
 obtain⟨o,ho,hc,hdat⟩:=id hm;have hT:s.TypeIs (.ref d) "dict":=⟨o,ho,hc.1⟩;refine wpAny_pyIter_slot hT PySem.F.slot_dict_iter (wpAny_call_entry PySem.F.slot_dict_iter hT PySem.F.entry_dict_iter ?_ (PySem.F.args_dict_iter_1 _));unfold Builtin.«dict.__iter__»;refine wpAny_bind ?_;unfold Builtin.Dict.dictSlotNone;refine wpAny_bind (wpAny_notOrdered_dict hT ?_);show wpAny _ _ (pure (Value.ref d)) _ _ s;refine wpAny_pure ?_;show wpAny _ _ (Builtin.Dict.showsAll d >>= _) _ _ s;unfold Builtin.Dict.showsAll;rw[if_neg (by rw[hd];exact Bool.false_ne_true)];refine wpAny_bind (wpAny_pure ?_);refine wpAny_bind (wpAny_dictEntries ho hdat ?_);refine wpAny_bind (wpAny_dictEpoch ho hdat ?_);refine wpAny_bind (wpAny_newObj_type (wpAny_pure ⟨_,rfl,"dict_keyiterator",_,⟨_,get?_push_size _ rfl,rfl⟩,slot_dict_keyiterator_next.lookup,?_⟩));simpa [rawInt]using hQ
theorem pD{it d:Addr}{i ep:Nat}{es:Array DictEntry}{e:DictEntry}{Q:Option Value→Shared→Prop}(hit:s.heap.IsKeyIter it d i es.size ep)(hm:tf s.heap d es ep)(hx:es[i]?=some e)(hQ:∀h',h'.IsKeyIter it d (i+1) es.size ep→SameBut it s.heap h'→Q (some e.key) {s with heap:=h'}):
  wpAny (model prog w) A (pyNext (.ref it)) Q E s:=by
 obtain⟨o,ho,hc,hd⟩:=id hit;obtain⟨od,hod,hcd,hdd⟩:=id hm;unfold pyNext;refine wpAny_bind (wpAny_attempt (wpAny_callSpecial?_slot (name:=ofString "__next__") hit.typeIs slot_dict_keyiterator_next
  (wpAny_call_entry slot_dict_keyiterator_next hit.typeIs PySem.F.entry_dict_keyiterator_next ?_ (PySem.F.args_dict_keyiterator_next_1 _))))
 refine wpAny_bind (wpAny_pure ?_);refine wpAny_bind ?_;refine wpAny_bind ?_
 first|refine wpAny_bind (wpAny_typeNameOfWhole_keyiter hit.typeIs (wpAny_pure ?_))|refine wpAny_bind (wpAny_typeNameOf_keyiter hit.typeIs (wpAny_pure ?_))
 refine wpAny_bind (wpAny_fieldsOf ho hd ?_);have hown:Builtin.Dict_items.ownsTuple "dict_keyiterator"=false:=by decide
 simp only[hown,false_eq_true,if_false];show wpAny _ _ (if (Value.ref d==Value.none)=true then _ else _) _ _ s
 rw[if_neg (show ¬((Value.ref d==Value.none)=true)from Bool.false_ne_true)];refine wpAny_bind (wpAny_pure ?_);refine wpAny_bind (wpAny_dictEntries hod hdd ?_);rw[if_neg (by simp)];refine wpAny_bind (wpAny_pure ?_);refine wpAny_bind (wpAny_dictEpoch hod hdd ?_);rw[if_neg (by simp)];refine wpAny_pure ?_;have hlt':i<es.size:=(Array.getElem?_eq_some_iff.mp hx).1;have he:es[i]=e:=(Array.getElem?_eq_some_iff.mp hx).2;simp only[show ¬((i:Int)<0)from by omega,if_false,toNat_natCast,Array.getElem?_eq_getElem hlt'];refine wpAny_bind ?_
 first|refine wpAny_bind (wpAny_typeNameOfWhole_keyiter hit.typeIs (wpAny_pure ?_))|refine wpAny_bind (wpAny_typeNameOf_keyiter hit.typeIs (wpAny_pure ?_))
 refine wpAny_bind (wpAny_isOneOf_keyiter hit.typeIs ?_);show wpAny _ _ (setField (.ref it) 1 (rawInt ((i:Int)+1)) >>= _) _ _ s;refine wpAny_bind (wpAny_setField ho hd (by simp) ?_);have hit':(s.heap.update it (Obj.mapFields (·.setIfInBounds 1 (rawInt ((i:Int)+1))))).IsKeyIter it d (i+1) es.size ep :=
  ⟨_,get?_update_self _ ho (Obj.isFreed_of_fields (Obj.data_mapFields hd _)),(Obj.cls_mapFields ..).trans hc,by rw[Obj.data_mapFields hd];simp[rawInt]⟩
 refine wpAny_bind (wpAny_holding ?_);refine wpAny_bind (wpAny_isOneOf_keyiter (s:={s with heap:=s.heap.update it (Obj.mapFields (·.setIfInBounds 1 (rawInt ((i:Int)+1))))}) hit'.typeIs ?_)
 show wpAny _ _ (pure es[i].key) _ _ _;rw[he];exact wpAny_pure (wpAny_pure ⟨_,rfl,wpAny_pure (hQ _ hit' (SameBut.update ..))⟩)
theorem qS{it d:Addr}{i ep:Nat}{es:Array DictEntry}{Q:Option Value→Shared→Prop}(hh:A.handled=none)(hit:s.heap.IsKeyIter it d i es.size ep)(hm:tf s.heap d es ep)(hge:es.size≤i)(hQ:∀h',ExtBut it s.heap h'→Q none {s with heap:=h'}):wpAny (model prog w) A (pyNext (.ref it)) Q E s:=by
 obtain⟨o,ho,hc,hd⟩:=id hit;obtain⟨od,hod,hcd,hdd⟩:=id hm;unfold pyNext;refine wpAny_bind (wpAny_attempt (wpAny_callSpecial?_slot (name:=ofString "__next__") hit.typeIs slot_dict_keyiterator_next
  (wpAny_call_entry slot_dict_keyiterator_next hit.typeIs PySem.F.entry_dict_keyiterator_next ?_ (PySem.F.args_dict_keyiterator_next_1 _))))
 refine wpAny_bind (wpAny_pure ?_);refine wpAny_bind ?_;refine wpAny_bind ?_
 first|refine wpAny_bind (wpAny_typeNameOfWhole_keyiter hit.typeIs (wpAny_pure ?_))|refine wpAny_bind (wpAny_typeNameOf_keyiter hit.typeIs (wpAny_pure ?_))
 refine wpAny_bind (wpAny_fieldsOf ho hd ?_);have hown:Builtin.Dict_items.ownsTuple "dict_keyiterator"=false:=by decide
 simp only[hown,false_eq_true,if_false];show wpAny _ _ (if (Value.ref d==Value.none)=true then _ else _) _ _ s
 rw[if_neg (show ¬((Value.ref d==Value.none)=true)from Bool.false_ne_true)];refine wpAny_bind (wpAny_pure ?_);refine wpAny_bind (wpAny_dictEntries hod hdd ?_);rw[if_neg (by simp)];refine wpAny_bind (wpAny_pure ?_);refine wpAny_bind (wpAny_dictEpoch hod hdd ?_);rw[if_neg (by simp)];refine wpAny_pure ?_;simp only[show ¬((i:Int)<0)from by omega,if_false,toNat_natCast,Array.getElem?_eq_none hge];refine wpAny_bind ?_
 first|refine wpAny_bind (wpAny_typeNameOfWhole_keyiter hit.typeIs (wpAny_pure ?_))|refine wpAny_bind (wpAny_typeNameOf_keyiter hit.typeIs (wpAny_pure ?_))
 show wpAny _ _ (setField (.ref it) 0 .none >>= _) _ _ s;refine wpAny_bind (wpAny_setField ho hd (by simp) ?_);show wpAny _ _ (newExc (.type "StopIteration") [] >>= _) _ _ _;refine wpAny_bind ?_;simp only[newExc,newTuple];refine wpAny_bind (wpAny_newObj_type ?_ (by size_fits));refine wpAny_bind (m:=firstArgMember _ _) (wpAny_of_eq (a:=Value.none) (by first|rfl|(simp only[firstArgMember];rfl)) ?_)
 refine wpAny_newObj_type ?_ (by size_fits);simp only[raiseNew];refine wpAny_bind (wpAny_handled ?_);rw[show A.in1.handled=none from hh];refine wpAny_bind (wpAny_pure (wpAny_throw ?_));refine wpAny_bind (wpAny_isInstance (T:="StopIteration") (b:=true) ⟨_,get?_push_size _ rfl,rfl⟩ isSubtype_stop ?_);exact wpAny_pure (hQ _ (((SameBut.update ..).extBut.push _).push _))
end
def Itk(d:Addr)(o:Obj)(u:HO)(ks:List V):It:=⟨λi H=>H d=some (.frz o u)∧i<ks.length,λi H x H'=>H'=H∧ks[i]?=some x,λi H=>H d=some (.frz o u)∧ks.length≤i⟩
theorem nR{P:Program}{w:World}{K:PySem.W.Frag}{tg:Expr}{d it:Addr}{o:Obj}{u:HO}{es:Array DictEntry}{ep:Nat}{ks:List V}(hx:o.ExactDict)(hd:o.data=.dict es ep)(hv:ap ks (es.toList.map (·.key))):
  Turn P w K tg (Itk d o u ks) [it] it (λi h=>h.IsKeyIter it d i es.size ep) where
 mem:=by simp
 obj:=λi h st b hb=>by
  have e:b=it:=by simpa using hb
  subst e;obtain⟨o,e,c,d⟩:=st;exact⟨o,e,λv z=>by rw[d]at z;cases z⟩
 keep:=λi h h' st k=>st.at λo e=>k it (by simp) o e
 item:=by
  intro X hP hw hK hc i pins s σ H E I hf st hg;subst hP hw hK;obtain⟨hH,hi⟩:=hg;have ho:=(I.hok d _ hH).1;have hl:ks.length=es.size:=by rw[hv.length,length_map,length_toList]
  have hi':i<es.size:=by omega
  obtain⟨v,hv1,hv2⟩:=hv.get (getElem?_eq_getElem hi);obtain⟨f0,f1,f2,f3,f4,f5⟩:=hf it (by simp);have ev:v=es[i].key:=by
   rw[getElem?_map,getElem?_toList,Array.getElem?_eq_getElem hi']at hv1;exact(Option.some.inj hv1).symm
  refine pD st ⟨o,ho,hx,hd⟩ (Array.getElem?_eq_getElem hi') λh' st' sb=>?_;have I1:Inv X pins σ H {s with heap:=h'}:=I.turned (t':=s.toks) (λb o hb e=>(sb.2 b hb).trans e) f0 f1 f3 f4 f5
  obtain⟨oi,e,c,dd⟩:=id st';exact⟨_,rfl,lT (s:={s with heap:=h'}) e c dd (by decide) ⟨ks[i],H,I1,ev ▸ hv2,⟨rfl,getElem?_eq_getElem hi⟩,st',λb hb=>(hf b hb).1⟩⟩
 done:=by
  intro X hP hw hK hc i pins s σ H E I hf st hg;subst hP hw hK;obtain⟨hH,hi⟩:=hg;have ho:=(I.hok d _ hH).1;have hl:ks.length=es.size:=by rw[hv.length,length_map,length_toList]
  obtain⟨f0,f1,f2,f3,f4,f5⟩:=hf it (by simp);exact qS (I.ok.hd hc) st ⟨o,ho,hx,hd⟩ (by omega) λh' eb=>⟨rfl,I.turned (t':=s.toks) (λb o hb e=>eb b o hb e) f0 f1 f3 f4 f5⟩
 self:=λ_ _ _ _ _ st h=>wpAny_pyIter_keyiter st h
section
variable{X:Cx}{tg:Expr}
def iDF(td:TE):TI:=λσ H R=>td σ H λv H1=>∃d o kvs,v=.ref d∧H1 d=some (.frz o (.dK kvs))∧R (Itk d o (.dK kvs) (kvs.map λp=>kV p.1)) H1
theorem fV{l:Expr}{tl:TE}(hl:PE X l tl):PI X tg l (iDF tl):=by
 intro pins s σ H R I h;refine thn (hl pins s σ H _ I h) λv s1 hpt=>?_;obtain⟨x,H1,I1,r1,q1⟩:=hpt;obtain⟨d,o,kvs,e,hH,q⟩:=q1;subst e;cases r1;obtain⟨ho,_,hsm,vs,rel,o',es,ep,ho',hx,hd,hk,hp,hn⟩:=I1.hok d _ hH;rw[ho]at ho';cases ho';refine pC hsm ⟨o,ho,hx,hd⟩ ?_;refine⟨s1.heap.objs.size,[s1.heap.objs.size],_,_,H1,rfl,I1.kept (t':=s1.toks) λb o e=>get?_push_of_some _ e,nR hx hd ?_,⟨_,get?_push_size _ rfl,rfl,rfl⟩,λb hb=>?_,q⟩
 ·have key:∀(es:List DictEntry)(vs:List (Key×Value))(kvs:List (Key×V)),Pairs (ao X.prog X.w) es vs→KV kvs vs→ap (kvs.map λp=>kV p.1) (es.map (·.key)):=by
   intro es vs kvs hp
   induction hp generalizing kvs with
   |nil=>intro r;cases r;exact .nil
   |cons h1 h2 _ ih =>
    intro r;cases r with
    |cons r1 r2 =>
     refine .cons ?_ (ih _ r2);dsimp only;rw[r1.1];rcases ax h1 with⟨i,t,e1,e2⟩|⟨x,t,e1,e2⟩
     ·rw[e1,e2];exact⟨t,rfl⟩
     ·rw[e1,e2];exact⟨t,rfl⟩
  exact key _ _ _ hp rel
 ·have e:b=s1.heap.objs.size:=by simpa using hb
  subst e;exact I1.fpOk (le_refl _) (I1.hok.fresh (le_refl _))
end
theorem nS:typeLookup (.type "list_reverseiterator") "__len__"=pure none:=by rw[typeLookup_type,builtinLookup_eq_fast];kernel_rfl
theorem pE:typeLookup (.type "list_reverseiterator") "__length_hint__"=pure (some (.builtin "list_reverseiterator.__length_hint__")):=by rw[typeLookup_type,builtinLookup_eq_fast];kernel_rfl
theorem qT:isSubtype (.type "list_reverseiterator") (.type "list_reverseiterator")=pure true:=by rw[isSubtype_type];kernel_rfl
section
variable{prog:Program}{w:World}{A:Around}{E:Value→Shared→Prop}{s:Shared}
theorem kt{I l:Addr}{items:Array Value}{Q:List Value→Shared→Prop}(hh:A.handled=none)(hI:s.heap.IsRevIter I l ((items.size:Int)-1))(hl:s.heap.IsList l items)(hne:l≠I)(hn:items.size≤sizeLine)(hQ:∀h' tk acc,(∀b o,b≠I→s.heap.get? b=some o→h'.get? b=some o)→acc=items.toList.reverse→Q acc {s with heap:=h',toks:=tk}):wpAny (model prog w) A (collect (.ref I)) Q E s:=by
 have W:=(Walks.listRev (prog:=prog) (w:=w) (show A.in1.handled=none by simp[hh]) I l hne items).toS;obtain⟨oI,hoI,_⟩:=id hI;obtain⟨oL,hoL,_⟩:=id hl;have ltI:I<s.heap.objs.size:=lt_size hoI;have ltL:l<s.heap.objs.size:=lt_size hoL;have hSf:s.heap.objs.size∉[I,l]:=by
  simp only[mem_cons,not_mem_nil,or_false,not_or];exact⟨ne_of_gt ltI,ne_of_gt ltL⟩
 have hSI:s.heap.objs.size≠I:=ne_of_gt ltI;have key:∀(s':Shared)(acc:Array Value),Moved [I] (λa b=>b=a) s s'→ItemsOf (λi v=>items[items.size-1-i]?=some v) acc items.size→Q acc.toList s':=by
  intro s' acc hm hacc;obtain⟨h',g',d',tk',os'⟩:=s';have eg:g'=s.gens:=hm.gens;have ed:d'=s.drawn:=hm.drawn;have eo:os'=s.os:=hm.os;subst eg;subst ed;subst eo;refine hQ h' tk' acc.toList (λb o hb e=>hm.heap b o (by simpa using hb) e) ?_;apply ext_getElem?;intro i;rw[getElem?_toList]
  by_cases hi:i<items.size
  ·have hi':i<acc.size:=by rw[hacc.1];exact hi
   have ha:acc[i]?=some acc[i]:=Array.getElem?_eq_getElem hi';rw[List.getElem?_reverse (by simpa using hi),ha,length_toList,getElem?_toList];exact(hacc.2 i _ ha).symm
  ·rw[Array.getElem?_eq_none (by rw[hacc.1];omega),getElem?_eq_none (by simp;omega)]
 have st0:∀o,(λ(i:Nat) (h:Heap)=>i≤items.size∧h.IsRevIter I l ((items.size:Int)-1-(i:Int))∧h.IsList l items) 0 (s.heap.push o):=λo=>by
  refine⟨zero_le _,?_,?_⟩
  ·rw[show(items.size:Int)-1-((0:Nat):Int)=(items.size:Int)-1 by omega];exact hI.at λo' e=>get?_push_of_some _ e
  ·exact hl.push _
 unfold collect;refine wpAny_bind (wpAny_runValue (codeAny_builtin PySem.F.entry_proto_collect ?_));rw[Around.under_plainId PySem.F.plain_proto_collect _];show wpAny _ A.in1 (newList [] >>= λl=>again (.builtin "list.__iadd__" ⟨[l,.ref I],[]⟩)) _ _ s;refine wpAny_bind (wpAny_newObj_type (wpAny_pure ⟨plainId_quiet plain_list_iadd _,codeAny_builtin PySem.F.entry_list_iadd ?_⟩));rw[Around.under_plainId plain_list_iadd _];have hTI:Shared.TypeIs {s with heap:=s.heap.push {cls:=.type "list",data:=.seq ([]:List Value).toArray}} (.ref I) "list_reverseiterator":=((st0 _).2.1).typeIs
 have h1:Builtin.List.listSameRef (.ref s.heap.objs.size) (.ref I)=false:=by simp[Builtin.List.listSameRef,hSI]
 show wpAny _ A.in1 (Builtin.List.listExtendWith (.ref s.heap.objs.size) (.ref I) (.ref s.heap.objs.size)) _ _ _;unfold Builtin.List.listExtendWith;refine wpAny_bind (wpAny_typeOf hTI ?_);rw[if_neg (by rw[h1];decide)];refine wpAny_bind (W.self 0 _ _ _ (st0 _) (wpAny_bind (wpAny_holding ?_)));unfold Builtin.List.listLengthHint;refine wpAny_bind (wpAny_specialOf hTI nS ?_);show wpAny _ A.in1 (specialOf (Value.ref I) (ofString "__length_hint__") >>= _) _ _ _;refine wpAny_bind (wpAny_specialOf hTI pE ?_);generalize hid:("list_reverseiterator.__length_hint__":String)=id0
 wp_delta
 rw[show splitId id0=some ("list_reverseiterator","__length_hint__")from by subst hid;decide +kernel];subst hid;refine wpAny_bind (wpAny_isInstance (b:=true) hTI qT (wpAny_pure ?_));rw[if_neg (by decide)];have hS:(s.heap.push {cls:=.type "list",data:=.seq ([]:List Value).toArray}).get? s.heap.objs.size=some {cls:=.type "list",data:=.seq ([]:List Value).toArray}:=get?_push_size _ rfl;refine wpAny_pure ⟨plainId_quiet PySem.F.plain_extend_loop _,codeAny_extend_loopS W hn _ hSf _ items.size 0 _ _ _ rfl (zero_le _) (st0 _) hS (ItemsOf.nil _) λs' acc c hm hS' hacc=>?_⟩;show wpAny _ A (load s.heap.objs.size >>= _) _ _ s';exact wpAny_bind (wpAny_load hS' (wpAny_pure (key s' acc (Moved.drop_new (o:={cls:=.type "list",data:=.seq ([]:List Value).toArray}) (tk:=s.toks) hm (le_refl _)) hacc)))
theorem gR{I l:Addr}{items:Array Value}{Q:Value→Shared→Prop}(hh:A.handled=none)(hI:s.heap.IsRevIter I l ((items.size:Int)-1))(hl:s.heap.IsList l items)(hne:l≠I)(hn:items.size≤sizeLine)(hQ:∀(h':Heap) (tk:Nat),(∀b o,b≠I→s.heap.get? b=some o→h'.get? b=some o)→Q (.ref h'.objs.size) {s with heap:=h'.push {cls:=.type "tuple",data:=.seq items.toList.reverse.toArray},toks:=tk}):
  wpAny (model prog w) A (call (.type "tuple") [.ref I]) Q E s:=by
 refine callType_codes (Q₁:=λobj s₁=>s₁.TypeIs obj "tuple"∧Q obj s₁) called_tuple (PySem.F.typeCall_tuple_1 _) PySem.F.entry_object_init ?_ λobj s₁ h₁=>?_
 ·refine codeAny_of_tree ?_;show wpAny _ A.in1.in1 (do checkBuiltinCall "tuple.__new__" ⟨[.type "tuple",.ref I],[]⟩;again (.builtin "tuple.__new__" ⟨[.type "tuple",.ref I],[]⟩)) _ _ s
  refine wpAny_bind (wpAny_of_eq (PySem.F.newCall_tuple_1 _) (wpAny_pure ⟨plainId_quiet PySem.F.plain_tuple_new _,codeAny_builtin PySem.F.entry_tuple_new ?_⟩));rw[Around.under_plainId PySem.F.plain_tuple_new _];have hsub:=sub_tuple_self;have hinit:=init_tuple_lookup;have hmh:=madeHere_tuple;have hTI:s.TypeIs (.ref I) "list_reverseiterator":=hI.typeIs
  wp_walk using wpAny_typeOf hTI,kt (show A.in1.in1.handled=none by simp[hh]) hI hl hne hn
  intro h' tk acc hk hacc;subst hacc;refine wpAny_bind (wpAny_pure ?_);show wpAny _ _ (Builtin.Tuple.tupleExact items.toList.reverse.toArray >>= λv=>ret v) _ _ _;unfold Builtin.Tuple.tupleExact;have hsz:items.toList.reverse.toArray.size≤sizeLine:=by simpa using hn
  exact wpAny_bind (wpAny_newObj_type (wpAny_pure ⟨⟨_,get?_push_size _ rfl,rfl⟩,hQ h' tk hk⟩) hsz)
 ·exact⟨h₁.1,PySem.F.args_object_init_2 obj _,object_init_meets called_tuple.init.lookup called_tuple.made (by decide) prog w A.in1 _ s₁ ⟨h₁.1,rfl,h₁.2⟩⟩
end
section
variable{X:Cx}
def qU(te:TE):TE:=λσ H Q=>dE te jN σ H λvs H1=>∃l ys,vs=[.ref l]∧H1 l=some (.lst ys)∧∀p,H1 p=none→Q (.ref p) (upd H1 p (.tup ys.reverse))
theorem nT{e:Expr}{te:TE}{q1 q2 p1 p2:Pos}(hc:X.calm=true)(hg:Gl X "tuple")(hm:X.mg "tuple"=none)(hg':Gl X "reversed")(hm':X.mg "reversed"=none)(he:PE X e te)(s1:starEach [e] X.env=[(false,eval e X.env)]:=by rfl)(s2:starEach [.Call (.Name "reversed" q1) [e] [] p1] X.env=[(false,eval (.Call (.Name "reversed" q1) [e] [] p1) X.env)]:=by rfl):
  PE X (.Call (.Name "tuple" q2) [.Call (.Name "reversed" q1) [e] [] p1] [] p2) (qU te):=by
 intro pins s σ H Q I h;refine wpAny_Call_Name_kw (fg I hg hm boot_tuple ?_ (by decide) (by decide));refine PyProof.Rows.callWith_type1 ?_ s2 rfl;rw[s2];refine spliced_cons ?_;refine wpAny_Call_Name_kw (fg I hg' hm' PyProof.Rows.boot_reversed ?_ (by decide) (by decide));have hA:PA X [e] (dE te jN):=aa he ag s1;refine PyProof.Rows.callWith_type1 (thn (hA p1 pins s σ H _ I h) λus s3 ⟨vs,H1,I1,r1,q1⟩=>?_) s1 rfl;obtain⟨l,ys,rfl,hl,q⟩:=q1;obtain⟨u,rfl,ru⟩:=cz r1;cases ru;obtain⟨hz,its,n,rv,ho⟩:=I1.hok l _ hl;have hL:s3.heap.IsList l its.toArray:=⟨_,ho,rfl,n,rfl⟩;have hlen:its.toArray.size≤sizeLine:=by rw[size_toArray,←rv.length];exact hz
 refine call_reversed_list hL (spliced_nil ?_);have ltl:l<s3.heap.objs.size:=lt_size ho;refine gR (s:={s3 with heap:=s3.heap.push (revObj l ((its.toArray.size:Int)-1))}) (items:=its.toArray) (I.ok.hd hc) ⟨_,get?_push_size _ rfl,rfl,rfl⟩ (hL.push _) (ne_of_lt ltl) hlen λh' tk hk=>?_
 have k0:∀b o,s3.heap.get? b=some o→h'.get? b=some o:=λb o e=>hk b o (ne_of_lt (lt_size e)) (get?_push_of_some _ e);have I2:Inv X pins σ H1 {s3 with heap:=h',toks:=tk}:=I1.kept (t':=tk) k0
 have er:its.toArray.toList.reverse.toArray=its.reverse.toArray:=by simp
 rw[er];have I3:Inv X pins σ (upd H1 h'.objs.size (.tup ys.reverse)) {s3 with heap:=h'.push {cls:=.type "tuple",data:=.seq its.reverse.toArray},toks:=tk} :=
  I2.laid (t':=tk) (λb o e=>get?_push_of_some _ e) (le_refl _) (show bb X.prog X.w _ _ _ (.tup ys.reverse)from⟨by rw[List.length_reverse];exact hz,its.reverse,rv.reverse,IsTup.new _ _⟩)
 exact⟨.ref h'.objs.size,_,I3,rfl,q _ (I2.hok.fresh (le_refl _))⟩
theorem qV{P:Program}{w:World}{kvs:List (Key×V)}{vs:List (Key×Value)}{acc:Array Value}(rel:KV kvs vs)(h:ItemsOf (λi v=>∃k x,vs[i]?=some (k,x)∧(ao P w).is k v=true) acc vs.length):ap (kvs.map λp=>kV p.1) acc.toList:=by
 obtain⟨h1,h2⟩:=h;have hl:acc.toList.length=vs.length:=by simpa using h1
 have h3:∀(i:Nat)(v:Value),acc.toList[i]?=some v→∃k x,vs[i]?=some (k,x)∧(ao P w).is k v=true:=λi v hv=>h2 i v (by simpa using hv);clear h1 h2;generalize acc.toList=l at hl h3
 induction rel generalizing l with
 |nil =>
  cases l with
  |nil=>exact .nil
  |cons a r=>simp at hl
 |@cons p q kvs vs r _ ih =>
  cases l with
  |nil=>simp at hl
  |cons a l =>
   refine .cons ?_ (ih l (by simpa using hl) λi v hv=>by simpa using h3 (i+1) v (by simpa using hv))
   obtain⟨k,x,e1,e2⟩:=h3 0 a rfl;have e3:q=(k,x):=by simpa using e1
   show aw (kV p.1) a;rw[r.1,e3];rcases ax e2 with⟨i,t,e4,e5⟩|⟨y,t,e4,e5⟩
   ·rw[e4,e5];exact⟨t,rfl⟩
   ·rw[e4,e5];exact⟨t,rfl⟩
end
end L2
namespace HT
open PySem PyProof.Rows
def bx(x y:Str):Bool:=decide (x.cps.toList<y.cps.toList)
def cq:List Str→List Str→Bool
 |[],[]=>false
 |[],_::_=>true
 |_::_,[]=>false
 |x::xs,y::ys=>if x=y then cq xs ys else bx x y
theorem cJ(x y:Str)(xs ys:List Str):cq (x::xs) (y::ys)=if x=y then cq xs ys else bx x y:=rfl
theorem jr:cq [] []=false:=rfl
theorem im(y:Str)(ys:List Str):cq [] (y::ys)=true:=rfl
theorem io(x:Str)(xs:List Str):cq (x::xs) []=false:=rfl
theorem qW{x y:Str}(h:x.cps.toList=y.cps.toList):x=y:=by
 obtain⟨x⟩:=x;obtain⟨y⟩:=y
 congr
 exact toList_inj.mp h
theorem cK(x:Str):bx x x=false:=decide_eq_false (List.lt_irrefl _)
theorem eO{x y z:Str}(h1:bx x y=true)(h2:bx y z=true):bx x z=true:=by
 unfold bx at *;rw[decide_eq_true_eq]at *;exact List.lt_trans h1 h2
theorem fo{x y:Str}(h:x≠y):bx x y=true∨bx y x=true:=by
 unfold bx;rw[decide_eq_true_eq,decide_eq_true_eq];rcases Decidable.em (x.cps.toList<y.cps.toList)with a|a
 ·exact .inl a
 ·refine .inr ?_;have hle:y.cps.toList≤x.cps.toList:=List.not_lt.mp a;rcases Decidable.em (y.cps.toList<x.cps.toList)with b|b
  ·exact b
  ·have hle2:x.cps.toList≤y.cps.toList:=List.not_lt.mp b;exact absurd (qW (List.le_antisymm hle2 hle)) h
theorem dm:∀p:List Str,cq p p=false
 |[]=>rfl
 |x::p=>by rw[cJ,if_pos rfl];exact dm p
theorem jt:∀{p q r:List Str},cq p q=true→cq q r=true→cq p r=true
 |[],[],_,h,_=>by cases h
 |[],_::_,[],_,h=>by cases h
 |[],_::_,_::_,_,_=>rfl
 |_::_,[],_,h,_=>by cases h
 |_::_,_::_,[],_,h=>by cases h
 |x::p,y::q,z::r,h1,h2=>by
  rw[cJ]at h1 h2⊢
  by_cases a:x=y
  ·subst a;rw[if_pos rfl]at h1
   by_cases b:x=z
   ·rw[if_pos b]at h2⊢;exact jt h1 h2
   ·rw[if_neg b]at h2⊢;exact h2
  ·rw[if_neg a]at h1
   by_cases b:y=z
   ·subst b;rw[if_neg a];exact h1
   ·rw[if_neg b]at h2;have h3:=eO h1 h2;have c:x≠z:=λe=>by
     subst e;rw[cK]at h3;cases h3
    rw[if_neg c];exact h3
theorem ku:∀{p q:List Str},p≠q→cq p q=true∨cq q p=true
 |[],[],h=>absurd rfl h
 |[],_::_,_=>.inl rfl
 |_::_,[],_=>.inr rfl
 |x::p,y::q,h=>by
  rw[cJ,cJ]
  by_cases a:x=y
  ·subst a;rw[if_pos rfl,if_pos rfl];exact ku λe=>h (by rw[e])
  ·rw[if_neg a,if_neg (symm a)];exact fo a
theorem pF(A:Around)(s:Shared)(a:Str)(t:Tok)(c:Str)(u:Tok):∃e,EqAt A s (.str a t) (.str c u) e∧(e=true↔a=c) :=
 ⟨decide (a=c),λprog w E Q h=>wpAny_eqBool_str h,by simp⟩
theorem pG(A:Around)(s:Shared)(a:Str)(t:Tok)(c:Str)(u:Tok)(prog:Program)(w:World)(E:Value→Shared→Prop)(Q:Value→Shared→Prop)(h:Q (.bool (bx a c)) s):
  wpAny (model prog w) A (richCompare .Lt (.str a t) (.str c u)) Q E s :=
 (lt_str h:wpAny (model prog w) A (compareOp .Lt (.str a t) (.str c u)) Q E s)
section
open PySem.SeqAt
open PySem.AutoSeq1 (wpAny_loadPart')
open PySem.MeetsSeq PySem.MeetsSeq2 PySem.MeetsSeq3
theorem ip(l b:Addr)(items items2:Array Value)(n n2:Nat)(dd dd2:Option Addr)(sl sl2:Array (Option Value))(ns ms:List Str)(hi:StrsAre items.toList ns)(hj:StrsAre items2.toList ms):
  Meets (Builtin.«tuple.__lt__» ⟨[.ref l,.ref b],[]⟩)
   (λ_ R s=>s.heap.get? l=some {cls:=.type "tuple",dict:=dd,data:=.seq items n,slots:=sl}∧s.heap.get? b=some {cls:=.type "tuple",dict:=dd2,data:=.seq items2 n2,slots:=sl2} ∧
    R (.ok (.ret (.bool (cq ns ms)))) s) :=
 .of_wp λprog w A R s h=>by
  obtain⟨hp,g,d,tk,os⟩:=s;obtain⟨hl,hb,h⟩:=h;have f2:=AutoSeq1.sub_tuple_tuple;have z1:items.size=ns.length:=by rw[←hi.length];simp
  have z2:items2.size=ms.length:=by rw[←hj.length];simp
  wp_walk using wpAny_loadPart' hl,wpAny_loadPart' hb,wpAny_forIn_list _ (λrest b s'=>b.1=none∧s'=⟨hp,g,d,tk,os⟩∧∃(vs ws:List Value) (ns' ms':List Str),rest=vs.zip ws ∧
   StrsAre vs ns'∧StrsAre ws ms'∧ns'.length+items2.size=ms'.length+items.size∧R (.ok (.ret (.bool (cq ns' ms')))) ⟨hp,g,d,tk,os⟩) _
  case turn =>
   rintro⟨y,x⟩ rest b s' ⟨hb',rfl,vs,ws,ns',ms',hz,hvi,hwi,hlen,hR⟩;cases hvi with
   |nil=>rw[List.zip_nil_left]at hz;cases hz
   |cons a t hvi' =>
    cases hwi with
    |nil=>rw[List.zip_nil_right]at hz;cases hz
    |cons c u hwi' =>
     rw[List.zip_cons_cons]at hz;injection hz with hyx hrest
     injection hyx with hy hx
     subst hy hx;rw[cJ]at hR;simp only[length_cons]at hlen;obtain⟨e,he,hiff⟩:=pF A.in1 ⟨hp,g,d,tk,os⟩ a t c u;refine wpAny_bind (he prog w _ _ ?_);cases e with
     |true =>
      rw[if_pos (hiff.mp rfl)]at hR
      wp_walk
      exact⟨rfl,rfl,_,_,_,_,hrest,hvi',hwi',by omega,hR⟩
     |false =>
      rw[if_neg (λq=>absurd (hiff.mpr q) Bool.false_ne_true)]at hR;have hri:=pG A.in1 ⟨hp,g,d,tk,os⟩ a t c u prog w
      wp_walk using hri
      exact⟨_,rfl,by simpa using hR⟩
  case fin =>
   rintro⟨b1,b2⟩ s' ⟨hb',rfl,vs,ws,ns',ms',hz,hvi,hwi,hlen,hR⟩;simp only at hb';subst hb';have hv:cq ns' ms'=decide (items.size<items2.size):=by
    cases hvi with
    |nil =>
     cases hwi with
     |nil =>
      simp only[length_nil]at hlen;rw[jr];exact(decide_eq_false (by omega)).symm
     |cons c u hw =>
      simp only[length_nil,length_cons]at hlen;rw[im];exact(decide_eq_true (by omega)).symm
    |cons a t hv =>
     cases hwi with
     |nil =>
      simp only[length_nil,length_cons]at hlen;rw[io];exact(decide_eq_false (by omega)).symm
     |cons c u hw =>
      rw[List.zip_cons_cons]at hz;cases hz
   rw[hv]at hR
   wp_walk
   exact⟨_,rfl,by simpa [Builtin.Tuple.tupleCompareSizes]using hR⟩
  case h =>
   exact⟨rfl,rfl,items.toList,items2.toList,ns,ms,rfl,hi,hj,by omega,h⟩
end
section
variable{prog:Program}{w:World}{A:Around}{E:Value→Shared→Prop}{s:Shared}
theorem lH{l b:Addr}{items items2:Array Value}{ns ms:List Str}{Q:Value→Shared→Prop}(hl:IsTup s.heap l items)(hb:IsTup s.heap b items2)(hi:StrsAre items.toList ns)(hj:StrsAre items2.toList ms)(hu:A.units<cLine)(h:Q (.bool (cq ns ms)) s):wpAny (model prog w) A (compareOp .Lt (.ref l) (.ref b)) Q E s:=by
 obtain⟨⟨cls,dd,data,sl⟩,ho,hc,n,hd⟩:=id hl;obtain⟨⟨cls2,dd2,data2,sl2⟩,ho2,hc2,n2,hd2⟩:=id hb;simp only at hc hd hc2 hd2;subst hc hd hc2 hd2;exact richCompare_meets_room (op:=.Lt) ⟨_,ho,rfl⟩ ⟨_,ho2,rfl⟩ PySem.F.slot_tuple_lt PySem.F.entry_tuple_lt (PySem.F.args_tuple_lt_2 _ _) (ip l b items items2 n n2 dd dd2 sl sl2 ns ms hi hj)
  ⟨ho,ho2,show Value.bool (cq ns ms)≠Value.notImplemented∧Q (.bool (cq ns ms)) s from⟨(λx=>nomatch x),h⟩⟩ hu
end
end HT
namespace L2
open PySem PySem.Spec PyProof.Rows
section
variable{X:Cx}
theorem pH{α β:Type}{l:List α}{f:α→β}{d:α}{e:β}{i:Nat}(h:i<l.length):(l.map f).getD i e=f (l.getD i d):=by
 rw[getD_eq_getElem?_getD,getD_eq_getElem?_getD,getElem?_map,getElem?_eq_getElem h];rfl
theorem fq{α:Type}{zs:List α}{val:α→V}{d:α}:∀{us:List Value},ap (zs.map val) us→∀(ps:List Nat),(∀i∈ps,i<zs.length)→ap ((ps.map λi=>zs.getD i d).map val) (ps.map λi=>us.getD i Value.none):=by
 intro us rv ps
 induction ps with
 |nil=>intro _;exact .nil
 |cons i ps ih =>
  intro h;refine .cons ?_ (ih λj hj=>h j (by simp[hj]));have hi:=h i (by simp);obtain⟨u,hu,r⟩:=rv.get (i:=i) (x:=val (zs.getD i d)) (by rw[getElem?_map,(aI (d:=d) hi).2];rfl);have:us.getD i Value.none=u:=by rw[getD_eq_getElem?_getD,hu];rfl
  show aw (val (zs.getD i d)) (us.getD i Value.none);rw[this];exact r
theorem dq{α:Type}{zs:List α}{val:α→V}{d:α}{us:List Value}{f:α→α→Bool}{l:Addr}{pins:List (Addr×Obj)}{σ:St}{H:Hp}{s:Shared}{Q:VK}{κ:SortKind}{E:Value→Shared→Prop}(I:Inv X pins σ H s)(rv:ap (zs.map val) us)(O:SRT.Ord (λi j=>f (zs.getD i d) (zs.getD j d)) zs.length)(pl:s.heap.IsList l us.toArray)(h64:zs.length<64)(hk:∀(A':Around) (s':Shared),A'.units≤X.A.units+2→(∀b o,s.heap.get? b=some o→s'.heap.get? b=some o)→∀Q:SortKind→Shared→Prop,2≤zs.length→Q κ s'→wpAny (model X.prog X.w) A' (keyKind' us.toArray) Q (λ_ _=>False) s')(hlt:∀(A':Around) (s':Shared),A'.units≤X.A.units+2→(∀b o,s.heap.get? b=some o→s'.heap.get? b=some o)→∀(i j:Nat) (C:Bool→Shared→Prop),i<zs.length→j<zs.length→C (f (zs.getD i d) (zs.getD j d)) s'→wpAny (model X.prog X.w) A' (keyLt' κ (us.getD i Value.none) (us.getD j Value.none)) C (λ_ _=>False) s')(q:∀zs':List α,zs'.Perm zs→zs'.Pairwise (λa b=>f a b=true)→∀p,H p=none→Q (.ref p) (upd H p (.lst (zs'.map val)))):wpAny (model X.prog X.w) X.A (call (.builtin "sorted") [.ref l]) (EP X pins σ Q) E s:=by
 have hlen:us.length=zs.length:=by rw[←rv.length,length_map]
 refine SRT.nO (κ:=κ) (f:=λi j=>f (zs.getD i d) (zs.getD j d)) (by rw[hlen];exact O) pl (by rw[hlen];exact h64) (λA' s' h1 h2 Q' h3=>hk A' s' h1 h2 Q' (by omega)) (λA' s' h1 h2 i j C hi hj=>hlt A' s' h1 h2 i j C (by omega) (by omega)) ?_;intro p h' hrow hup kp _ hg;obtain⟨c,hg⟩:=hg;rw[hlen]at hrow hup;have hin:∀i∈p.toList,i<zs.length:=λi hi=>mem_range.mp (hrow.perm.mem_iff.mp hi);have hperm:(p.toList.map λi=>zs.getD i d).Perm zs:=by
  refine(hrow.perm.map _).trans ?_;have:(List.range zs.length).map (λi=>zs.getD i d)=zs:=by
   apply ext_getElem?;intro i;rw[getElem?_map]
   by_cases hi:i<zs.length
   ·rw[getElem?_range hi,(aI (d:=d) hi).2];rfl
   ·rw[getElem?_eq_none (by rw[length_range];omega),getElem?_eq_none (by omega)];rfl
  rw[this]
 have hpl:p.size=zs.length:=hrow.size;have hpw:(p.toList.map λi=>zs.getD i d).Pairwise (λa b=>f a b=true):=by
  rw[pairwise_iff_getElem];intro i j hi hj hij;have hi':i<p.size:=by rw[length_map,length_toList]at hi;exact hi
  have hj':j<p.size:=by rw[length_map,length_toList]at hj;exact hj
  have:=hup i j hij (by omega);simp only[]at this;rw[getD_eq_getD_getElem?,getD_eq_getD_getElem?,Array.getElem?_eq_getElem hi',Array.getElem?_eq_getElem hj']at this;simpa using this
 refine⟨.ref (s.heap.objs.size+1),_,I.laid (t':=s.toks) (o:=.lst ((p.toList.map λi=>zs.getD i d).map val)) kp (le_succ _) ⟨?_,_,c,fq rv p.toList hin,hg⟩,rfl,q _ hperm hpw _ (I.hok.fresh (le_succ _))⟩;rw[length_map,hperm.length_eq,sizeLine_eq];omega
theorem ju{ns:List Int}{us:List Value}(r:ap (ns.map V.int) us):IntsAre us ns:=lu r
theorem ba:bG X (.builtin "sorted") (λxs H Q=>∃l,∃ns:List Int,xs=[.ref l]∧H l=some (.lst (ns.map V.int))∧ns.Nodup∧ns.length<64 ∧
  ∀ms:List Int,ms.Perm ns→ms.Pairwise (λa b=>a<b)→∀p,H p=none→Q (.ref p) (upd H p (.lst (ms.map V.int)))):=by
 intro pins s σ H xs us Q I r h;obtain⟨l,ns,rfl,hl,hnd,h64,q⟩:=h;obtain⟨u,rfl,ru⟩:=cz r;cases ru;obtain⟨_,its,n,rv,ho⟩:=I.hok l _ hl;have hI:=ju rv;have hlen:its.length=ns.length:=by rw[←rv.length,length_map]
 refine dq (val:=V.int) (d:=(0:Int)) (f:=λa b=>decide (a<b)) (κ:=oneType') I rv ⟨λi _=>by simp,λi j k _ _ _ h1 h2=>?_,λi j hi hj hij=>?_⟩ ⟨_,ho,rfl,n,rfl⟩ h64 (λA' s' _ _ Q' h2 hQ=>?_) (λA' s' _ _ i j C hi hj hC=>?_) λzs' h1 h2 p hp=>q zs' h1 (h2.imp λh=>by simpa using h) p hp
 ·simp only[decide_eq_true_eq]at *;omega
 ·simp only[decide_eq_true_eq];have:ns.getD i 0≠ns.getD j 0:=by
   rw[getD_eq_getElem?_getD,getD_eq_getElem?_getD,getElem?_eq_getElem hi,getElem?_eq_getElem hj];exact λe=>hij ((getElem_inj hnd).mp e)
  omega
 ·rw[ksk_kind (keys:=its.toArray) (kz:=ns) (by simpa using hI) (by rw[size_toArray];omega)];exact wpAny_pure hQ
 ·have gi:∀i,i<ns.length→∃t,its.getD i Value.none=.int (ns.getD i 0) t:=λi hi=>by
   obtain⟨v,hv,r⟩:=rv.get (i:=i) (x:=.int (ns.getD i 0)) (by rw[getElem?_map,(aI (d:=(0:Int)) hi).2];rfl);obtain⟨t,rfl⟩:=r;exact⟨t,by rw[getD_eq_getElem?_getD,hv];rfl⟩
  obtain⟨t,e1⟩:=gi i hi;obtain⟨t',e2⟩:=gi j hj;rw[e1,e2];exact kat_lt_int hC
structure Cp where
 a:Addr
 t:Addr
 p:List Str
 n:Int
def nU(H:Hp)(z:Cp):Prop:=H z.a=some (.tup [.ref z.t,.int z.n])∧H z.t=some (.tup (z.p.map V.str))
theorem my:∀{ps:List Str}{us:List Value},ap (ps.map V.str) us→StrsAre us ps
 |[],_,.nil=>.nil
 |p::ps,_,.cons ⟨t,e⟩ r=>by subst e;exact .cons p t (my r)
theorem cY(hu:X.A.units+8<cLine):bG X (.builtin "sorted") (λxs H Q=>∃l,∃zs:List Cp,xs=[.ref l]∧H l=some (.lst (zs.map λz=>V.ref z.a))∧(∀z∈zs,nU H z)∧(zs.map (·.p)).Nodup∧zs.length<64 ∧
  ∀zs':List Cp,zs'.Perm zs→zs'.Pairwise (λa b=>HT.cq a.p b.p=true)→∀p,H p=none→Q (.ref p) (upd H p (.lst (zs'.map λz=>V.ref z.a)))):=by
 intro pins s σ H xs us Q I r h;obtain⟨l,zs,rfl,hl,hk,hnd,h64,q⟩:=h;obtain⟨u,rfl,ru⟩:=cz r;cases ru;obtain⟨_,its,n,rv,ho⟩:=I.hok l _ hl
 let d:Cp:=⟨0,0,[],0⟩
 have hlen:its.length=zs.length:=by rw[←rv.length,length_map]
 have gi:∀i,i<zs.length→its.getD i Value.none=.ref (zs.getD i d).a:=λi hi=>by
  obtain⟨v,hv,r⟩:=rv.get (i:=i) (x:=.ref (zs.getD i d).a) (by rw[getElem?_map,(aI (d:=d) hi).2];rfl);cases r;rw[getD_eq_getElem?_getD,hv];rfl
 have eits:its=zs.map λz=>Value.ref z.a:=by
  have key:∀(l:List Cp)(us:List Value),ap (l.map λz=>V.ref z.a) us→us=l.map λz=>Value.ref z.a:=by
   intro l
   induction l with
   |nil=>intro us r;cases r;rfl
   |cons z l ih =>
    intro us r;cases r with
    |cons r1 r2 =>
     rw[ih _ r2];cases r1;rfl
  exact key zs its rv
 have hobj:∀z∈zs,∃t',IsTup s.heap z.a #[.ref z.t,.int z.n t']:=λz hz=>by
  obtain⟨u,v,r1,r2,ht⟩:=pB I (hk z hz).1;cases r1;obtain⟨t',rfl⟩:=r2;exact⟨t',ht⟩
 have htup:∀z∈zs,∃ws:List Value,StrsAre ws z.p∧IsTup s.heap z.t ws.toArray:=λz hz=>by
  obtain⟨_,ws,r1,ht⟩:=I.hok z.t _ (hk z hz).2;exact⟨ws,my r1,ht⟩
 have kept:∀{s':Shared}{a:Addr}{xs:Array Value},(∀b o,s.heap.get? b=some o→s'.heap.get? b=some o)→IsTup s.heap a xs→IsTup s'.heap a xs:=λk ⟨o,e,r⟩=>⟨o,k _ o e,r⟩;refine dq (val:=λz:Cp=>V.ref z.a) (d:=d) (f:=λa b=>HT.cq a.p b.p) (κ:=tuples' false) I rv ⟨λi _=>HT.dm _,λi j k _ _ _ h1 h2=>HT.jt h1 h2,λi j hi hj hij=>HT.ku ?_⟩ ⟨_,ho,rfl,n,rfl⟩ h64 (λA' s' _ kp Q' h2 hQ=>?_) (λA' s' hA kp i j C hi hj hC=>?_) q
 ·intro e;have e':(zs.map (·.p))[i]'(by simpa using hi)=(zs.map (·.p))[j]'(by simpa using hj):=by
   have h1:=(aI (d:=d) hi).2;have h2:=(aI (d:=d) hj).2;rw[getElem_map,getElem_map,(List.getElem?_eq_some_iff.mp h1).2,(List.getElem?_eq_some_iff.mp h2).2];exact e
  exact hij ((getElem_inj hnd).mp e')
 ·have key:∀ys:List Cp,(∀z∈ys,z∈zs)→KatTups s'.heap (ys.map λz=>Value.ref z.a) (ys.map λz=>Value.ref z.t):=by
   intro ys
   induction ys with
   |nil=>intro _;exact KatTups.nil
   |cons z ys ih =>
    intro hm;obtain⟨t',o,e1,e2,n',e3⟩:=hobj z (hm z (by simp));exact KatTups.cons (kp _ _ e1) e2 e3 rfl (ih λy hy=>hm y (by simp[hy]))
  rw[eits];refine kat_kind (T:=.type "tuple") (key zs λz hz=>hz) (by rw[length_map];omega) (λv hv=>?_) (by rfl) hQ;obtain⟨z,hz,rfl⟩:=mem_map.mp hv;obtain⟨ws,_,o,e1,e2,_⟩:=htup z hz;exact e2 ▸ (Looks.ld (kp _ _ e1)).andThen .now
 ·rw[gi i hi,gi j hj];have mi:=(aI (d:=d) hi).1;have mj:=(aI (d:=d) hj).1;generalize zs.getD i d=zi at mi hC⊢;generalize zs.getD j d=zj at mj hC⊢;obtain⟨ti,oi,a1,a2,ni,a3⟩:=hobj zi mi;obtain⟨tj,oj,b1,b2,nj,b3⟩:=hobj zj mj;refine kat_lt (kp _ _ a1) a3 (kp _ _ b1) b3 ?_;obtain⟨wi,si,pi⟩:=htup zi mi;obtain⟨wj,sj,pj⟩:=htup zj mj;have hu1:A'.units<cLine:=by omega
  have ki:IsTupleKey (ao X.prog X.w) s'.heap (zi.p.map Sum.inr) zi.t:=by
   obtain⟨o,its',n',ho',r⟩:=pk (ks:=zi.p.map Sum.inr) I (by rw[map_map];exact(hk zi mi).2) X.prog X.w;exact⟨o,its',n',kp _ _ ho',r⟩
  have kj:IsTupleKey (ao X.prog X.w) s'.heap (zj.p.map Sum.inr) zj.t:=by
   obtain⟨o,its',n',ho',r⟩:=pk (ks:=zj.p.map Sum.inr) I (by rw[map_map];exact(hk zj mj).2) X.prog X.w;exact⟨o,its',n',kp _ _ ho',r⟩
  refine kat_cons (wpAny_eqBool_tuple (knd:=ao X.prog X.w) hu1 ki kj ?_)
  by_cases e:zi.p=zj.p
  ·rw[e,decide_eq_true rfl];have hC':C false s':=by rw[e,HT.dm]at hC;exact hC
   have en:zi=zj:=by
    obtain⟨x,hx,ex⟩:=mem_iff_getElem.mp mi;obtain⟨y,hy,ey⟩:=mem_iff_getElem.mp mj;have e':(zs.map (·.p))[x]'(by simpa using hx)=(zs.map (·.p))[y]'(by simpa using hy):=by rw[getElem_map,getElem_map,ex,ey];exact e
    have:=(getElem_inj hnd).mp e';subst this;rw[←ex,←ey]
   subst en;refine kat_yes (kat_cons (wpAny_eqBool_int ?_));rw[beq_self_eq_true];exact kat_yes (PySem.W.kat_nil (by simpa using hC'))
  ·have hne:¬(zi.p.map Sum.inr:List Key)=zj.p.map Sum.inr:=λz=>e (by
    have:=congrArg (List.map λk:Key=>match k with | .inr x=>x | .inl _=>empty) z;simpa [map_map,Function.comp_def]using this)
   rw[decide_eq_false hne];refine kat_no (PySem.W.kat_one _ _ ?_);exact HT.lH (kept kp pi) (kept kp pj) (by simpa using si) (by simpa using sj) hu1 hC
end
def mE(H:Hp):Nat→V→V→Prop
 |0,x,y=>x=y∧bH x=true
 |n+1,x,y=>(x=y∧bH x=true)∨∃a b xs ys,x=.ref a∧y=.ref b∧H a=some (.tup xs)∧H b=some (.tup ys)∧xs.length=ys.length∧∀(i:Nat) x' y',xs[i]?=some x'→ys[i]?=some y'→mE H n x' y'
theorem eP{x:V}(f:bH x=true):eqV x x=true:=by
 cases x<;>first|rfl|(simp[eqV];done) | (exact absurd (show false=true from f) Bool.false_ne_true)
theorem lI{H:Hp}{n:Nat}{x y:V}(h:x=y∧bH x=true):mE H n x y:=by
 cases n with
 |zero=>exact h
 |succ n=>exact .inl h
section
variable{X:Cx}{pins:List (Addr×Obj)}{σ:St}{H:Hp}{s:Shared}
theorem pI(I:Inv X pins σ H s):∀(n:Nat){A:Around}{x y:V}{u v:Value},aw x u→aw y v→mE H n x y→A.units+n<cLine→EqAt A s u v true:=by
 intro n
 induction n with
 |zero =>
  intro A x y u v ru rv h hu;obtain⟨e,f⟩:=h;subst e;have:=gI (A:=A) (s:=s) ru rv f f;rw[eP f]at this;exact this
 |succ n ih =>
  intro A x y u v ru rv h hu;rcases h with⟨e,f⟩|⟨a,b,xs,ys,rfl,rfl,ha,hb,hl,hx⟩
  ·subst e;have:=gI (A:=A) (s:=s) ru rv f f;rw[eP f]at this;exact this
  ·cases ru;cases rv
   by_cases hab:a=b
   ·subst hab;exact EqAt.same _
   ·obtain⟨_,us,r1,t1⟩:=I.hok a _ ha;obtain⟨_,ws,r2,t2⟩:=I.hok b _ hb;have l1:=r1.length;have l2:=r2.length;have:=RcAt.tuples (A:=A) (s:=s) (e:=λ_=>true) t1 t2 (by omega) (λj h1 h2=>by
     have h1':j<xs.length:=by rw[l1];simpa using h1
     have h2':j<ys.length:=by rw[l2];simpa using h2
     obtain⟨u',hu1,hu2⟩:=r1.get (getElem?_eq_getElem h1');obtain⟨v',hv1,hv2⟩:=r2.get (getElem?_eq_getElem h2');have e1:us.toArray[j]=u':=by
      have:us[j]?=some us.toArray[j]:=by rw[getElem?_eq_getElem (by simpa using h1)];simp
      rw[hu1]at this;exact(Option.some.inj this).symm
     have e2:ws.toArray[j]=v':=by
      have:ws[j]?=some ws.toArray[j]:=by rw[getElem?_eq_getElem (by simpa using h2)];simp
      rw[hv1]at this;exact(Option.some.inj this).symm
     rw[e1,e2];exact ih hu2 hv2 (hx j _ _ (getElem?_eq_getElem h1') (getElem?_eq_getElem h2')) (by simp[Around.in1_units];omega))
    have e3:((List.range (min us.toArray.size ws.toArray.size)).all (λ_=>true)&&us.toArray.size==ws.toArray.size)=true:=by
     have:us.toArray.size=ws.toArray.size:=by simp only[size_toArray];omega
     simp[this]
    rw[e3]at this;exact EqAt.of_refs hab this
def eQ(H:Hp)(xs ys:List V):Prop:=xs.length=ys.length∧∀(i:Nat) x y,xs[i]?=some x→ys[i]?=some y→mE H 3 x y
theorem eR{pins:List (Addr×Obj)}{σ:St}{H:Hp}{s:Shared}(I:Inv X pins σ H s){xs ys:List V}{us ws:List Value}(r1:ap xs us)(r2:ap ys ws)(h:eQ H xs ys){A:Around}(hu:A.units+3<cLine):
  ∀j (h1:j<us.toArray.size) (h2:j<ws.toArray.size),EqAt A s us.toArray[j] ws.toArray[j] true:=λj h1 h2=>by
 have h1':j<xs.length:=by rw[r1.length];simpa using h1
 have h2':j<ys.length:=by rw[r2.length];simpa using h2
 obtain⟨u',hu1,hu2⟩:=r1.get (getElem?_eq_getElem h1');obtain⟨v',hv1,hv2⟩:=r2.get (getElem?_eq_getElem h2');have e1:us.toArray[j]=u':=by
  have:us[j]?=some us.toArray[j]:=by rw[getElem?_eq_getElem (by simpa using h1)];simp
  rw[hu1]at this;exact(Option.some.inj this).symm
 have e2:ws.toArray[j]=v':=by
  have:ws[j]?=some ws.toArray[j]:=by rw[getElem?_eq_getElem (by simpa using h2)];simp
  rw[hv1]at this;exact(Option.some.inj this).symm
 rw[e1,e2];exact pI I 3 hu2 hv2 (h.2 j _ _ (getElem?_eq_getElem h1') (getElem?_eq_getElem h2')) hu
theorem gS(hu:X.A.units+4<cLine):OpR X (compareOp .NotEq) (λx y H Q=>rNe x y H Q∨(∃a b xs ys,x=.ref a∧y=.ref b∧eQ H xs ys∧((H a=some (.lst xs)∧H b=some (.lst ys))∨(H a=some (.tup xs)∧H b=some (.tup ys)))∧Q (.bl false) H)):=by
 intro pins s σ H x y v u Q I rx ry h;rcases h with h|⟨a,b,xs,ys,rfl,rfl,hx,h,q⟩
 ·exact gE pins s σ H x y v u Q I rx ry h
 ·cases rx;cases ry;rcases h with⟨ha,hb⟩|⟨ha,hb⟩
  ·obtain⟨_,us,n1,r1,o1⟩:=I.hok a _ ha;obtain⟨_,ws,n2,r2,o2⟩:=I.hok b _ hb;have hl:=hx.1;have l1:=r1.length;have l2:=r2.length;refine RcNeAt.lists (e:=λ_=>true) ⟨_,o1,rfl,n1,rfl⟩ ⟨_,o2,rfl,n2,rfl⟩ (by simp only[size_toArray];omega) (by omega) (eR I r1 r2 hx (by simp[Around.in1_units];omega)) _ _ _ _ ⟨.bl false,H,I,?_,q⟩;show _=Value.bool false;simp
  ·obtain⟨_,us,r1,t1⟩:=I.hok a _ ha;obtain⟨_,ws,r2,t2⟩:=I.hok b _ hb;have hl:=hx.1;have l1:=r1.length;have l2:=r2.length;refine RcNeAt.tuples (e:=λ_=>true) t1 t2 (by omega) (eR I r1 r2 hx (by simp[Around.in1_units];omega)) _ _ _ _ ⟨.bl false,H,I,?_,q⟩;show _=Value.bool false;have:us.toArray.size=ws.toArray.size:=by simp only[size_toArray];omega
   simp[this]
end
section
variable{prog:Program}{w:World}{A:Around}{E:Value→Shared→Prop}{s:Shared}
theorem nV{Q:Int→Shared→Prop}(h:Q 4238894112 {s with toks:=s.toks+1}):wpAny (model prog w) A (pyHash .none) Q E s:=by
 have hT:s.TypeIs .none "NoneType":=rfl;have f1:=slot_NoneType_hash.lookup;show wpAny _ _ (pyHashByItsType .none) _ _ _;unfold pyHashByItsType;refine wpAny_bind ?_;rw[cRoomFor,if_neg (by show ¬([Value.none].any Value.onHeap=true);decide)];refine wpAny_pure (wpAny_bind (wpAny_specialOf hT f1 ?_));rw[if_neg (by decide)];refine wpAny_bind (wpAny_specialOf hT f1 ?_);rw[if_neg (by decide)];refine wpAny_bind (wpAny_callSpecialIfBoundUnlessNone?_slot hT slot_NoneType_hash (wpAny_call_entry slot_NoneType_hash hT PySem.F.entry_NoneType_hash (show wpAny _ _ (do ret (← mkInt 0xFCA86420)) _ _ s from wpAny_ret_mkInt ?_) (PySem.F.args_NoneType_hash_1 _)))
 show wpAny _ _ (if (decide (-(2:Int) ^ 63≤4238894112)&&decide ((4238894112:Int)<2 ^ 63))=true then _ else _) Q E _
 rw[if_pos (by decide)];exact wpAny_pure h
end
def nIs:Option Key→Value→Bool
 |some k,v=>dg k v
 |none,.none=>true
 |none,_=>false
theorem cb{v:Value}(h:nIs none v=true):v=.none:=by
 cases v<;>first|rfl|(exact absurd (show false=true from h) Bool.false_ne_true)
def iN(prog:Program)(w:World):PySem.KeyKind prog w (Option Key) where
 is:=nIs
 hash:=λk=>match k with|some k=>ux w k|none=>4238894112
 inj:=λv a b ha hb=>by
  cases a with
  |none =>
   have e:=cb ha;subst e;cases b with
   |none=>rfl
   |some k=>rcases ax (show dg k .none=true from hb)with⟨i,t,_,e⟩|⟨x,t,_,e⟩<;>cases e
  |some j =>
   cases b with
   |none =>
    have e:=cb hb;subst e;rcases ax (show dg j .none=true from ha)with⟨i,t,_,e⟩|⟨x,t,_,e⟩<;>cases e
   |some k=>rw[(ao prog w).inj v j k ha hb]
 byValue:=λk v h=>by
  cases k with
  |none=>rw[cb h];rfl
  |some k=>exact(ao prog w).byValue k v h
 pyHash:=λ{A E s k v Q} hv h=>by
  cases k with
  |none=>rw[cb hv];exact nV h
  |some k=>exact(ao prog w).pyHash (k:=k) hv h
 eqBool:=λ{A E s a b u v Q} hu hv h=>by
  cases a with
  |none =>
   rw[cb hu];cases b with
   |none =>
    rw[cb hv];exact EqAt.same _ _ _ _ _ (by simpa using h)
   |some k =>
    have h':Q false s:=by simpa using h
    rcases ax (show dg k v=true from hv)with⟨i,t,_,e⟩|⟨x,t,_,e⟩
    ·rw[e];exact EqAt.none_int i t _ _ _ _ h'
    ·rw[e];exact EqAt.none_str x t _ _ _ _ h'
  |some j =>
   cases b with
   |none =>
    rw[cb hv];have h':Q false s:=by simpa using h
    rcases ax (show dg j u=true from hu)with⟨i,t,_,e⟩|⟨x,t,_,e⟩
    ·rw[e];exact EqAt.int_none i t _ _ _ _ h'
    ·rw[e];exact EqAt.str_none x t _ _ _ _ h'
   |some k =>
    refine(ao prog w).eqBool (a:=j) (b:=k) hu hv ?_;have:decide ((some j:Option Key)=some k)=decide (j=k):=by simp
    rw[←this];exact h
 «strs»:=λk x t v h=>by
  cases k with
  |none=>exact absurd (cb h) (by simp)
  |some k=>exact(ao prog w).strs k x t v h
section
variable{P:Program}{w:World}
theorem mG:∀{ks:List Key}{us:List Value},ItemsAre (ao P w) ks us→ItemsAre (iN P w) (ks.map some) us
 |_,_,.nil=>.nil
 |_,_,.cons h t=>.cons h (mG t)
theorem uP{h:Heap}{ks:List Key}{a:Addr}(x:IsTupleKey (ao P w) h ks a):IsTupleKey (iN P w) h (ks.map some) a:=by
 obtain⟨o,items,n,ho,hc,hd,hi⟩:=x;exact⟨o,items,n,ho,hc,hd,mG hi⟩
theorem jv{a b:List Key}(h:a.map some=b.map some):a=b:=by
 have:=congrArg (List.map λk:Option Key=>k.getD (.inl 0)) h;simpa [map_map,Function.comp_def]using this
theorem tm{h:Heap}{d:Addr}{xs:List (List Key×Addr×Value)}(x:h.DictOfH (tupleKind (ao P w)) d xs):h.DictOfH (tupleKind (iN P w)) d (xs.map λx=>(x.1.map some,x.2)):=by
 obtain⟨o,es,ep,ho,hc,hd,he,hi,hn⟩:=x;refine⟨o,es,ep,ho,hc,hd,?_,λy hy=>?_,?_⟩
 ·rw[he,map_map];apply map_congr_left;intro y _;show DictEntry.mk (tupleKeyHash (ao P w) y.1) _ _=DictEntry.mk (tupleKeyHash (iN P w) (y.1.map some)) _ _
  congr 1
  unfold tupleKeyHash;rw[map_map];rfl
 ·obtain⟨z,hz,rfl⟩:=mem_map.mp hy;exact uP (hi z hz)
 ·rw[map_map];unfold Nodup at hn⊢;rw[pairwise_map]at hn⊢;exact hn.imp λh e=>h (jv e)
end
section
variable{X:Cx}{o e:Expr}{td ty:TE}{apos cpos:Pos}
def tu(td ty:TE):TE:=λσ H Q=>td σ H λx H1=>∃a o kvs,x=.ref a∧H1 a=some (.frz o (.dT kvs))∧ty σ H1 λy H2=>H2 a=some (.frz o (.dT kvs))∧((∃k b,y=.ref b∧H2 b=some (.tup (k.map kV))∧Q ((aT kvs k).getD .non) H2)∨(∃b x,y=.ref b∧H2 b=some (.tup [.non,.str x])∧Q .non H2))
theorem qX{pins:List (Addr×Obj)}{σ:St}{H:Hp}{s:Shared}(I:Inv X pins σ H s){a:Addr}{o:Obj}{kvs:List (List Key×V)}(h:H a=some (.frz o (.dT kvs))):s.TypeIs (.ref a) "dict"∧∃ob,s.heap.get? a=some ob∧ob.dict=none:=by
 obtain⟨ho,_,_,xs,_,o',es,ep,ho',hx,hd,_⟩:=I.hok a _ h;rw[ho]at ho';cases ho';exact⟨⟨o,ho,hx.1⟩,o,ho,hx.2.1⟩
theorem pJ(hu:X.A.units+4<cLine)(ho:PE X o td)(he:PE X e ty)(m:M1 X o "get" apos e cpos):PE X (.Call (.Attribute o "get" apos) [e] [] cpos) (tu td ty):=by
 intro pins s σ H Q I h;refine wpAny_Call_method m.base m.few m.line plainAttrs_dict slot_dict_get PySem.F.type_dict_get (thn (ho pins s σ H _ I h) λu s1 hpt=>?_);obtain⟨x,H1,I1,rx,a,ob,kvs,ex,hH,q1⟩:=hpt;subst ex;obtain rfl:u=Value.ref a:=rx;obtain⟨t1,t2⟩:=qX I1 hH;refine⟨t1,λa1 e=>by cases e;exact t2,?_⟩;rw[m.trees];refine callWith_builtin rfl (evalArgs_plain (spliced_cons (thn (he pins s1 σ H1 _ I1 q1) λiv s2 ⟨y,H2,I2,ry,hH2,q2⟩=>spliced_nil ?_)));rcases q2 with⟨k,b,rfl,hb,q⟩|⟨b,x,rfl,hb,q⟩
 ·exact sN (by omega) I2 (.inr ⟨kvs,k,b,.inr ⟨ob,hH2⟩,rfl,hb,rfl⟩) ry λw' s3 I3 rw'=>⟨_,H2,I3,rw',q⟩
 ·cases (show iv=Value.ref b from ry);obtain⟨z,hd,xs,rel,dd⟩:=iE I2.hok (.inr ⟨ob,hH2⟩);have hkey:IsTupleKey (iN X.prog X.w) s2.heap [none,some (.inr x)] b:=by
   obtain⟨_,its,r,o',e1,e2,n,e3⟩:=I2.hok b _ hb;cases r with
   |cons r1 r =>
    cases r with
    |cons r2 r =>
     cases r;cases r1;obtain⟨t,rfl⟩:=r2;exact⟨o',_,n,e1,e2,e3,.cons rfl (.cons (iw x t) .nil)⟩
  refine call_meetsIn slot_dict_get dd.typeIs entry_dict_get (args_dict_get_2 _ _) (meetsH_dict_get (tupleKind (iN X.prog X.w)) a b hd) ⟨by show X.A.in1.units<cLine;simp[Around.in1_units];omega,_,_,hkey,tm dd,?_⟩;have hno:atKey (xs.map λx=>(x.1.map some,x.2)) [none,some (.inr x)]=none:=by
   refine atKey_none_of_get λj p hj=>?_;rw[getElem?_map]at hj;cases e:xs[j]? with
   |none=>rw[e]at hj;cases hj
   |some z =>
    rw[e]at hj;have e1:z.1.map some=[none,some (.inr x)]:=congrArg Prod.fst (Option.some.inj hj);cases hz:z.1 with
    |nil=>rw[hz]at e1;cases e1
    |cons k ks=>rw[hz]at e1;simp at e1
  rw[hno];exact⟨.non,H2,I2.tok _,rfl,q⟩
end
def Ext(p:Addr)(H H':Hp):Prop:=∀b o,b≠p→H b=some o→H' b=some o
theorem Ext.of{p:Addr}{H H':Hp}(s:Same H H'):Ext p H H':=λb o _ e=>s b o e
theorem Ext.upd{p:Addr}{H:Hp}{o:HO}:Ext p H (upd H p o):=λb u hb e=>by rw[ah hb];exact e
theorem Ext.trans{p:Addr}{H H1 H2:Hp}(a:Ext p H H1)(b:Ext p H1 H2):Ext p H H2:=λc o hc e=>b c o hc (a c o hc e)
def uQ(te:TE):Prop:=∀σ H (Q Q':VK),(∀y H,Q y H→Q' y H)→te σ H Q→te σ H Q'
theorem jw{js:List Nat}{J:It}{te:TE}{σ:St}{H1:Hp}{Q:VK}{p:Addr}{fr:List (Option V)}(n:Nat)(hn:n≤1000)(hp:H1 p=none)(hfr:bc 1 js σ=none::fr)(R:Nat→V→Hp→Prop)(hR:∀i y H H',R i y H→Ext p H H'→R i y H')(go:∀i H',i<n→Same H1 H'→J.go i H')(stop:∀H',Same H1 H'→J.stop n H')(me:uQ te)(step:∀i H' x H2,i<n→Same H1 H'→(∃ys,H' p=some (.lst ys))→J.yld i H' x H2→H2=H'∧te (some x::fr) H' λy H4=>Same H' H4∧R i y H4)(fin:∀ys H',Same H1 H'→H' p=some (.lst ys)→ys.length=n→(∀(j:Nat) y,ys[j]?=some y→R j y H')→Q (.ref p) H'):LcW 1 js (aB 0) te σ Q J H1 p:=by
 refine rV (k:=1) (js:=js) (J:=J) (p:=p) n hn (λi ys σ' H'=>(∃o,σ'=o::fr)∧Same H1 H'∧H' p=some (.lst ys)∧ys.length=i∧∀(j:Nat) y,ys[j]?=some y→R j y H') ⟨⟨none,hfr⟩,af hp,ac,rfl,λj y h=>by simp at h⟩
  (λi ys σ' H' h=>by have:=h.2.2.2.1;omega) (λi ys σ' H' hi h=>go i H' hi h.2.1) (λys σ' H' h=>⟨stop H' h.2.1,fin ys H' h.2.1 h.2.2.1 h.2.2.2.1 h.2.2.2.2⟩) (λi ys σ' H' hi h x H2 hy=>?_) ?_ me
 ·obtain⟨⟨o,rfl⟩,s1,hl,hlen,hrs⟩:=h;obtain⟨rfl,ht⟩:=step i H' x H2 hi s1 ⟨ys,hl⟩ hy;refine me _ _ _ _ (λy H4 h4=>?_) ht;obtain⟨s4,r4⟩:=h4;refine⟨s4 _ _ hl,⟨some x,rfl⟩,aD hp (s1.trans s4),ac,by rw[length_append,hlen];rfl,λj z hz=>?_⟩;have ex:Ext p H2 (upd H4 p (.lst (ys++[y]))):=(Ext.of s4).trans Ext.upd
  by_cases hj:j<ys.length
  ·rw[getElem?_append_left hj]at hz;exact hR _ _ _ _ (hrs j z hz) ex
  ·rw[getElem?_append_right (by omega)]at hz;have hj':j-ys.length=0:=by
    cases e:j-ys.length with
    |zero=>rfl
    |succ m=>rw[e]at hz;simp at hz
   rw[hj']at hz;have ez:y=z:=by simpa using hz
   subst ez;have ej:j=i:=by omega
   subst ej;exact hR _ _ _ _ r4 Ext.upd
 ·intro _ _ _ _ _ m q;exact m _ _ q
theorem cG{H:Hp}{p q:Addr}(hp:∃ys,H p=some (.lst ys))(hq:H q=none):q≠p:=λe=>by
 obtain⟨ys,h⟩:=hp;rw[←e,hq]at h;cases h
section
variable{X:Cx}{N:List Str}{scope:Scope}{cl:List (Str×Addr)}{k:Nat}{js:List Nat}
theorem ft{elt tg iter c:Expr}{pos spos py:Pos}{y:Str}{ii:Nat}{wi:TI}{g:TG}{tc:TT}{te:TE}(hXN:X.N.Nodup)(hii:X.N[ii]?=some y)(hx:Loc X.env.scope y)(hc:X.calm=true)(L:LcOk X scope cl)(hN:N.length=k+js.length)(hj:∀(i j:Nat) x,js[i]?=some j→N[k+i]?=some x→X.N[j]?=some x∧Vis X.env.scope x∧X.env.scope.names.lookup x≠some .local∧((relabel scope X.env).names.lookup x=some .cell∨(relabel scope X.env).names.lookup x=some .free))(hi:PI X tg iter wi)(hg:∀s H fp,PG (bh X N scope cl s H fp) tg g)(ht:∀s H fp,PT (bh X N scope cl s H fp) c tc)(he:∀s H fp,PE (bh X N scope cl s H fp) elt te)(hs:∀x,foldedSetIterable iter X.env x=pure x:=by intro _;rfl)(hsw:swapsWith (.ListComp elt [⟨tg,iter,[c],0⟩] scope pos) (some (.Name y py)) spos.line X.env=pure true:=by rfl)(hf:X.fn y=true∨X.env.scope.names.lookup y=some .local:=by first|exact .inl rfl|exact .inr rfl|assumption):PS X (.Assign [.Name y py] (.ListComp elt [⟨tg,iter,[c],0⟩] scope pos) spos) (sv (sR k js wi g tc te) (aB ii)):=by
 intro pins s σ H D I h;rw[exec_Assign_Name_used _ _ _ _ hsw];refine wpAny_bind (wpAny_standAt (wpAny_bind ?_));show wpAny _ X.A (do let _ ← comprehension (.ListComp elt [⟨tg,iter,[c],0⟩] scope pos) scope X.env _ (newList []) false (eval iter X.env) (some (assign (.Name y py) X.env))) _ _ s
 refine wpAny_bind (wpAny_mono (wpAny_comprehension_free (use:=some (assign (.Name y py) X.env)) (Q:=λ_ s'=>∃σ' H',Inv X pins σ' H' s'∧D.nx σ' H') rfl hs L.clos L.kind L.names ?_) (λ_ s' hq=>wpAny_pure (wpAny_pure hq)) λ_ _ e=>e);refine thn (hi pins s σ H _ I h) λv s1 h1=>thn h1 λitv s2 h2=>?_;obtain⟨it,fp,tn,J,H2,e,I2,T,st2,f2,hW⟩:=h2;subst e;have hfp:∀b∈fp,b<s2.heap.objs.size:=λb hb=>by
  obtain⟨o,e,_⟩:=T.obj _ _ st2 b hb;exact lt_size e
 refine wpAny_newObj_type (wpAny_newFunctionEnv L.nocell (by intro y hy;simp at hy) (λh₁ hns hsb=>?_) L.kind);dsimp only at hns hsb⊢;obtain⟨W,⟨m0,w0⟩,turn⟩:=hW s2.heap.objs.size (I2.hok.fresh (le_refl _));have I3:Inv X pins σ (upd H2 s2.heap.objs.size (.lst [])) {s2 with heap:=s2.heap.push {cls:=.type "list",dict:=none,data:=.seq ([]:List Value).toArray}}:=I2.lnew (t':=s2.toks) .nil (zero_le _)
 generalize hA:s2.heap.push {cls:=.type "list",dict:=none,data:=.seq ([]:List Value).toArray}=hpA at hns hsb I3⊢;have hszA:hpA.objs.size=s2.heap.objs.size+1:=by rw[←hA,size_push]
 have keepA:∀b o,s2.heap.get? b=some o→hpA.get? b=some o:=λb o e=>by rw[←hA];exact get?_push_of_some _ e
 have f3:∀b∈fp,cy X pins (upd H2 s2.heap.objs.size (.lst [])) b:=λb hb=>⟨by rw[ah (ne_of_lt (hfp b hb))];exact(f2 b hb).1,(f2 b hb).2⟩;have hfp3:∀b∈fp,b<hpA.objs.size:=λb hb=>by rw[hszA];exact lt_succ_of_lt (hfp b hb)
 have keep1:∀b o,hpA.get? b=some o→h₁.get? b=some o:=λb o e=>hsb.extBut b o (ne_of_lt (lt_size e)) (get?_push_of_some _ e);have J0:=eB (N:=N) (k:=k) (js:=js) (tk:=s2.toks+([]:List (Str×Value)).length) I3 L f3 hfp3 ⟨_,hns⟩ keep1 hN hj;have st1:tn 0 h₁:=T.keep _ _ _ st2 λb hb o e=>keep1 b o (keepA b o e);have stat:∀{H':Hp},(∀b∈fp,H' b=none)→∀b∈fp,cy (bh X N scope cl {s2 with heap:=hpA} (upd H2 s2.heap.objs.size (.lst [])) fp) [] H' b:=λhn b hb =>
  ⟨hn b hb,ne_of_lt (hfp3 b hb),(jW (N:=N) I3 L f3 hfp3).exfs b hb,.inl hb,λx c h=>(f3 b hb).2.2.2.2.1 x c (L.cells x c h),λp hp=>absurd (show p∈([]:List (Addr×Obj))from hp) (by simp)⟩
 have loop:codeAny (model X.prog X.w) X.A (.compLoop (.ListComp elt [⟨tg,iter,[c],0⟩] scope pos) 0 (.ref it) (.ref s2.heap.objs.size) (compEnvC scope cl hpA.objs.size X.env))
   (compPost (model X.prog X.w) X.A X.xe (some (assign (.Name y py) X.env)) (λ_ s'=>∃σ' H',Inv X pins σ' H' s'∧D.nx σ' H') (.ref s2.heap.objs.size) hpA.objs.size) {s2 with heap:=h₁,toks:=s2.toks+([]:List (Str×Value)).length}:=by
  refine jX (λn s'=>∃i ys σ' H',Inv (bh X N scope cl {s2 with heap:=hpA} (upd H2 s2.heap.objs.size (.lst [])) fp) [] σ' H' s'∧tn i s'.heap∧(∀b∈fp,H' b=none)∧W i n ys σ' H') ?_ m0 ⟨0,[],_,_,J0,st1,λb hb=>(f3 b hb).1,w0⟩
  rintro n s3 ⟨i,ys,σ3,H3,J3,st3,fr3,w3⟩;rcases turn i n ys σ3 H3 w3 with⟨stop,qn⟩|⟨go,hlen,step⟩
  ·refine thn (T.done (bh X N scope cl {s2 with heap:=hpA} (upd H2 s2.heap.objs.size (.lst [])) fp) rfl rfl rfl hc i [] s3 σ3 H3 (λ_ _=>False) J3 (stat fr3) st3 stop) λr s4 hpt=>?_
   obtain⟨hr,J4⟩:=hpt;subst hr;obtain⟨m,hm,_⟩:=J4.loc;have I4:Inv X pins σ H3 s4:=jj I3 f3 J4 (SameBut.refl _ _);obtain⟨f0,f1,f2,f3',f4,f5⟩:=I3.fpOk (b:=hpA.objs.size) (le_refl _) (H':=H3) J4.free;show wpAny _ _ (assign (.Name y py) X.env (.ref s2.heap.objs.size)) _ _ _;refine wpAny_assign_Name (ff I4 hXN hii hx (v:=.ref s2.heap.objs.size) rfl (λs5 I5 ⟨a,sb,ha⟩=>⟨m,hm.sameBut sb ?_,λh' hs'=>⟨_,H3,I5.turned (t':=s5.toks) (λb o hb e=>(hs'.2 b hb).trans e) f0 f1 f3' f4 f5,qn⟩⟩) hf);rcases ha with e|e
   ·rw[e];exact f1
   ·exact λz=>f4 _ _ e z.symm
  ·refine thn (T.item (bh X N scope cl {s2 with heap:=hpA} (upd H2 s2.heap.objs.size (.lst [])) fp) rfl rfl rfl hc i [] s3 σ3 H3 (λ_ _=>False) J3 (stat fr3) st3 go) λr s4 hpt=>?_
   obtain⟨u,hr,h4⟩:=hpt;subst hr;refine thn h4 λ_ s5 hpt=>?_;obtain⟨x,H5,J5,r5,y5,st5,fr5⟩:=hpt;have J5':=J5.pinned (stat fr5) (T.obj _ _ st5);refine thn (hg _ _ _ _ s5 σ3 H5 x u _ J5' r5 (step x H5 y5)) λ_ s6 hpt=>?_;obtain⟨σ6,H6,J6,q6⟩:=hpt;refine thn (ht _ _ _ _ s6 σ6 H6 _ J6 q6) λb s6 hpt=>?_;obtain⟨H6,J6,q6⟩:=hpt;cases b with
   |true =>
    rw[if_pos rfl]at q6⊢;refine thn (he _ _ _ _ s6 σ6 H6 _ J6 q6) λy s7 hpt=>?_;obtain⟨vy,H7,J7,r7,q7,m',hm',w7⟩:=hpt;refine thn (aU _ s7 σ6 H7 (.ref s2.heap.objs.size) [vy] _ _ (λ_ H8=>H8=upd H7 s2.heap.objs.size (.lst (ys++[vy]))) J7 rfl (.cons r7 .nil) ⟨_,ys,vy,rfl,rfl,q7,hlen,rfl⟩) λ_ s8 hpt=>?_;obtain⟨_,H8,J8,_,e8⟩:=hpt;subst e8;refine⟨m',hm',i+1,ys++[vy],σ6,_,J8.unpinned,T.keep _ _ _ st5 λb hb o e=>(J8.pin (b,o) (mem_append_right _ (mem_append_right _ (aC hb e)))).1,λb hb=>?_,w7⟩;obtain⟨o,e,d⟩:=T.obj _ _ st5 b hb;exact(J8.pin (b,o) (mem_append_right _ (mem_append_right _ (aC hb e)))).2.1
   |false =>
    rw[if_neg (by simp)]at q6⊢;obtain⟨m',hm',w7⟩:=q6;refine⟨m',hm',i+1,ys,σ6,_,J6.unpinned,T.keep _ _ _ st5 λb hb o e=>(J6.pin (b,o) (mem_append_right _ (mem_append_right _ (aC hb e)))).1,λb hb=>?_,w7⟩;obtain⟨o,e,d⟩:=T.obj _ _ st5 b hb;exact(J6.pin (b,o) (mem_append_right _ (mem_append_right _ (aC hb e)))).2.1
 exact codeAny_compStart_list loop (T.self _ 0 _ _ _ st1 loop)
theorem kw{elt tg iter:Expr}{pos spos py:Pos}{y:Str}{ii:Nat}{wi:TI}{g:TG}{te:TE}(hXN:X.N.Nodup)(hii:X.N[ii]?=some y)(hx:Loc X.env.scope y)(hc:X.calm=true)(L:LcOk X scope cl)(hN:N.length=k+js.length)(hj:∀(i j:Nat) x,js[i]?=some j→N[k+i]?=some x→X.N[j]?=some x∧Vis X.env.scope x∧X.env.scope.names.lookup x≠some .local∧((relabel scope X.env).names.lookup x=some .cell∨(relabel scope X.env).names.lookup x=some .free))(hi:PI X tg iter wi)(hg:∀s H fp,PG (bh X N scope cl s H fp) tg g)(he:∀s H fp,PE (bh X N scope cl s H fp) elt te)(hs:∀x,foldedSetIterable iter X.env x=pure x:=by intro _;rfl)(hsw:swapsWith (.ListComp elt [⟨tg,iter,[],0⟩] scope pos) (some (.Name y py)) spos.line X.env=pure true:=by rfl)(hf:X.fn y=true∨X.env.scope.names.lookup y=some .local:=by first|exact .inl rfl|exact .inr rfl|assumption):PS X (.Assign [.Name y py] (.ListComp elt [⟨tg,iter,[],0⟩] scope pos) spos) (sv (tLc k js wi g te) (aB ii)):=by
 intro pins s σ H D I h;rw[exec_Assign_Name_used _ _ _ _ hsw];refine wpAny_bind (wpAny_standAt (wpAny_bind ?_));show wpAny _ X.A (do let _ ← comprehension (.ListComp elt [⟨tg,iter,[],0⟩] scope pos) scope X.env _ (newList []) false (eval iter X.env) (some (assign (.Name y py) X.env))) _ _ s
 refine wpAny_bind (wpAny_mono (wpAny_comprehension_free (use:=some (assign (.Name y py) X.env)) (Q:=λ_ s'=>∃σ' H',Inv X pins σ' H' s'∧D.nx σ' H') rfl hs L.clos L.kind L.names ?_) (λ_ s' hq=>wpAny_pure (wpAny_pure hq)) λ_ _ e=>e);refine thn (hi pins s σ H _ I h) λv s1 h1=>thn h1 λitv s2 h2=>?_;obtain⟨it,fp,tn,J,H2,e,I2,T,st2,f2,hW⟩:=h2;subst e;have hfp:∀b∈fp,b<s2.heap.objs.size:=λb hb=>by
  obtain⟨o,e,_⟩:=T.obj _ _ st2 b hb;exact lt_size e
 refine wpAny_newObj_type (wpAny_newFunctionEnv L.nocell (by intro y hy;simp at hy) (λh₁ hns hsb=>?_) L.kind);dsimp only at hns hsb⊢;obtain⟨W,⟨m0,w0⟩,turn⟩:=hW s2.heap.objs.size (I2.hok.fresh (le_refl _));have I3:Inv X pins σ (upd H2 s2.heap.objs.size (.lst [])) {s2 with heap:=s2.heap.push {cls:=.type "list",dict:=none,data:=.seq ([]:List Value).toArray}}:=I2.lnew (t':=s2.toks) .nil (zero_le _)
 generalize hA:s2.heap.push {cls:=.type "list",dict:=none,data:=.seq ([]:List Value).toArray}=hpA at hns hsb I3⊢;have hszA:hpA.objs.size=s2.heap.objs.size+1:=by rw[←hA,size_push]
 have keepA:∀b o,s2.heap.get? b=some o→hpA.get? b=some o:=λb o e=>by rw[←hA];exact get?_push_of_some _ e
 have f3:∀b∈fp,cy X pins (upd H2 s2.heap.objs.size (.lst [])) b:=λb hb=>⟨by rw[ah (ne_of_lt (hfp b hb))];exact(f2 b hb).1,(f2 b hb).2⟩;have hfp3:∀b∈fp,b<hpA.objs.size:=λb hb=>by rw[hszA];exact lt_succ_of_lt (hfp b hb)
 have keep1:∀b o,hpA.get? b=some o→h₁.get? b=some o:=λb o e=>hsb.extBut b o (ne_of_lt (lt_size e)) (get?_push_of_some _ e);have J0:=eB (N:=N) (k:=k) (js:=js) (tk:=s2.toks+([]:List (Str×Value)).length) I3 L f3 hfp3 ⟨_,hns⟩ keep1 hN hj;have st1:tn 0 h₁:=T.keep _ _ _ st2 λb hb o e=>keep1 b o (keepA b o e);have stat:∀{H':Hp},(∀b∈fp,H' b=none)→∀b∈fp,cy (bh X N scope cl {s2 with heap:=hpA} (upd H2 s2.heap.objs.size (.lst [])) fp) [] H' b:=λhn b hb =>
  ⟨hn b hb,ne_of_lt (hfp3 b hb),(jW (N:=N) I3 L f3 hfp3).exfs b hb,.inl hb,λx c h=>(f3 b hb).2.2.2.2.1 x c (L.cells x c h),λp hp=>absurd (show p∈([]:List (Addr×Obj))from hp) (by simp)⟩
 have loop:codeAny (model X.prog X.w) X.A (.compLoop (.ListComp elt [⟨tg,iter,[],0⟩] scope pos) 0 (.ref it) (.ref s2.heap.objs.size) (compEnvC scope cl hpA.objs.size X.env))
   (compPost (model X.prog X.w) X.A X.xe (some (assign (.Name y py) X.env)) (λ_ s'=>∃σ' H',Inv X pins σ' H' s'∧D.nx σ' H') (.ref s2.heap.objs.size) hpA.objs.size) {s2 with heap:=h₁,toks:=s2.toks+([]:List (Str×Value)).length}:=by
  refine jk (λn s'=>∃i ys σ' H',Inv (bh X N scope cl {s2 with heap:=hpA} (upd H2 s2.heap.objs.size (.lst [])) fp) [] σ' H' s'∧tn i s'.heap∧(∀b∈fp,H' b=none)∧W i n ys σ' H') ?_ m0 ⟨0,[],_,_,J0,st1,λb hb=>(f3 b hb).1,w0⟩
  rintro n s3 ⟨i,ys,σ3,H3,J3,st3,fr3,w3⟩;rcases turn i n ys σ3 H3 w3 with⟨stop,qn⟩|⟨go,hlen,step⟩
  ·refine thn (T.done (bh X N scope cl {s2 with heap:=hpA} (upd H2 s2.heap.objs.size (.lst [])) fp) rfl rfl rfl hc i [] s3 σ3 H3 (λ_ _=>False) J3 (stat fr3) st3 stop) λr s4 hpt=>?_
   obtain⟨hr,J4⟩:=hpt;subst hr;obtain⟨m,hm,_⟩:=J4.loc;have I4:Inv X pins σ H3 s4:=jj I3 f3 J4 (SameBut.refl _ _);obtain⟨f0,f1,f2,f3',f4,f5⟩:=I3.fpOk (b:=hpA.objs.size) (le_refl _) (H':=H3) J4.free;show wpAny _ _ (assign (.Name y py) X.env (.ref s2.heap.objs.size)) _ _ _;refine wpAny_assign_Name (ff I4 hXN hii hx (v:=.ref s2.heap.objs.size) rfl (λs5 I5 ⟨a,sb,ha⟩=>⟨m,hm.sameBut sb ?_,λh' hs'=>⟨_,H3,I5.turned (t':=s5.toks) (λb o hb e=>(hs'.2 b hb).trans e) f0 f1 f3' f4 f5,qn⟩⟩) hf);rcases ha with e|e
   ·rw[e];exact f1
   ·exact λz=>f4 _ _ e z.symm
  ·refine thn (T.item (bh X N scope cl {s2 with heap:=hpA} (upd H2 s2.heap.objs.size (.lst [])) fp) rfl rfl rfl hc i [] s3 σ3 H3 (λ_ _=>False) J3 (stat fr3) st3 go) λr s4 hpt=>?_
   obtain⟨u,hr,h4⟩:=hpt;subst hr;refine thn h4 λ_ s5 hpt=>?_;obtain⟨x,H5,J5,r5,y5,st5,fr5⟩:=hpt;have J5':=J5.pinned (stat fr5) (T.obj _ _ st5);refine thn (hg _ _ _ _ s5 σ3 H5 x u _ J5' r5 (step x H5 y5)) λ_ s6 hpt=>?_;obtain⟨σ6,H6,J6,q6⟩:=hpt;refine thn (he _ _ _ _ s6 σ6 H6 _ J6 q6) λy s7 hpt=>?_;obtain⟨vy,H7,J7,r7,q7,m',hm',w7⟩:=hpt;refine thn (aU _ s7 σ6 H7 (.ref s2.heap.objs.size) [vy] _ _ (λ_ H8=>H8=upd H7 s2.heap.objs.size (.lst (ys++[vy]))) J7 rfl (.cons r7 .nil) ⟨_,ys,vy,rfl,rfl,q7,hlen,rfl⟩) λ_ s8 hpt=>?_;obtain⟨_,H8,J8,_,e8⟩:=hpt;subst e8;refine⟨m',hm',i+1,ys++[vy],σ6,_,J8.unpinned,T.keep _ _ _ st5 λb hb o e=>(J8.pin (b,o) (mem_append_right _ (mem_append_right _ (aC hb e)))).1,λb hb=>?_,w7⟩;obtain⟨o,e,d⟩:=T.obj _ _ st5 b hb;exact(J8.pin (b,o) (mem_append_right _ (mem_append_right _ (aC hb e)))).2.1
 exact codeAny_compStart_list loop (T.self _ 0 _ _ _ st1 loop)
end
section
variable{X:Cx}{tg:Expr}
theorem tw(hu:X.A.units+4<cLine):OpR X (compareOp .Eq) (λx y H Q=>rEq x y H Q∨(∃a b xs ys,x=.ref a∧y=.ref b∧eQ H xs ys∧((H a=some (.lst xs)∧H b=some (.lst ys))∨(H a=some (.tup xs)∧H b=some (.tup ys)))∧Q (.bl true) H)):=by
 intro pins s σ H x y v u Q I rx ry h;rcases h with h|⟨a,b,xs,ys,rfl,rfl,hx,h,q⟩
 ·exact gD pins s σ H x y v u Q I rx ry h
 ·cases rx;cases ry;rcases h with⟨ha,hb⟩|⟨ha,hb⟩
  ·obtain⟨_,us,n1,r1,o1⟩:=I.hok a _ ha;obtain⟨_,ws,n2,r2,o2⟩:=I.hok b _ hb;have hl:=hx.1;have l1:=r1.length;have l2:=r2.length;refine eq_listAt (e:=λ_=>true) ⟨_,o1,rfl,n1,rfl⟩ ⟨_,o2,rfl,n2,rfl⟩ (by simp only[size_toArray];omega) (by omega) (eR I r1 r2 hx (by simp[Around.in1_units];omega)) ⟨.bl true,H,I,?_,q⟩;show _=Value.bool true;simp
  ·obtain⟨_,us,r1,t1⟩:=I.hok a _ ha;obtain⟨_,ws,r2,t2⟩:=I.hok b _ hb;have hl:=hx.1;have l1:=r1.length;have l2:=r2.length;refine SeqAt.eq_tupleAt (e:=λ_=>true) t1 t2 (by omega) (eR I r1 r2 hx (by simp[Around.in1_units];omega)) ⟨.bl true,H,I,?_,q⟩;show _=Value.bool true;have:us.toArray.size=ws.toArray.size:=by simp only[size_toArray];omega
   simp[this]
end
theorem Same.seqT{K:PySem.W.Frag}{H H':Hp}{a:Addr}{xs:List V}(e:Same H H')(h:SqT K H a xs):SqT K H' a xs:=by
 rcases h with (h|⟨o,h⟩)|h
 ·exact .inl (.inl (e _ _ h))
 ·exact .inl (.inr ⟨o,e _ _ h⟩)
 ·exact .inr h
structure Src(J:It)(H1:Hp)(xs:List V):Prop where
 go:∀i H',i<xs.length→Same H1 H'→J.go i H'
 stop:∀H',Same H1 H'→J.stop xs.length H'
 yl:∀i H' x H2,i<xs.length→Same H1 H'→J.yld i H' x H2→H2=H'∧xs[i]?=some x
theorem jx{K:PySem.W.Frag}{a:Addr}{xs:List V}{H1:Hp}(h:SqT K H1 a xs):Src (Itt K a) H1 xs :=
 ⟨λi H' hi s=>⟨xs,xs[i],s.seqT h,getElem?_eq_getElem hi⟩,λH' s=>⟨xs,s.seqT h,le_refl _⟩,λi H' x H2 _ s ⟨e,y⟩=>⟨e,y xs (by subst e;exact s.seqT h)⟩⟩
theorem aY{K:PySem.W.Frag}{a:Addr}{xs:List V}{H1:Hp}(h:SqL K H1 a xs):Src (Itl K a) H1 xs :=
 ⟨λi H' hi s=>⟨xs,xs[i],s.seq h,getElem?_eq_getElem hi⟩,λH' s=>⟨xs,s.seq h,le_refl _⟩,λi H' x H2 _ s ⟨e,y⟩=>⟨e,y xs (by subst e;exact s.seq h)⟩⟩
theorem cr{d:Addr}{o:Obj}{u:HO}{ks:List V}{H1:Hp}(h:H1 d=some (.frz o u)):Src (Itk d o u ks) H1 ks :=
 ⟨λi H' hi s=>⟨s _ _ h,hi⟩,λH' s=>⟨s _ _ h,le_refl _⟩,λi H' x H2 _ s ⟨e,y⟩=>⟨e,y⟩⟩
theorem Paired.snoc{α β:Type}{R:α→β→Prop}:∀{as:List α}{bs:List β}{a:α}{b:β},Paired R as bs→R a b→Paired R (as++[a]) (bs++[b])
 |_,_,_,_,.nil,h=>.cons h .nil
 |_,_,_,_,.cons r t,h=>.cons r (Paired.snoc t h)
theorem bz{α:Type}{js:List Nat}{J:It}{tc:TT}{te:TE}{σ:St}{H1:Hp}{Q:VK}{p:Addr}{fr:List (Option V)}(zs:List α)(val:α→V)(hn:zs.length≤1000)(hp:H1 p=none)(S:Src J H1 (zs.map val))(hfr:bc 1 js σ=none::fr)(g:α→Bool)(R:α→V→Hp→Prop)(hR:∀z y H H',R z y H→Ext p H H'→R z y H')(cond:∀z H' (k:Bool→Hp→Prop),z∈zs→Same H1 H'→(∃ys,H' p=some (.lst ys))→(∀H4,Same H' H4→k (g z) H4)→tc (some (val z)::fr) H' k)(elt:∀z H' (k:VK),z∈zs→g z=true→Same H1 H'→(∃ys,H' p=some (.lst ys))→(∀y H4,Same H' H4→R z y H4→k y H4)→te (some (val z)::fr) H' k)(fin:∀ys H',Same H1 H'→H' p=some (.lst ys)→Paired (λz y=>R z y H') (zs.filter g) ys→Q (.ref p) H'):sQ 1 js (aB 0) tc te σ Q J H1 p:=by
 have grow:∀{as:List α}{ys:List V}{H H':Hp},Ext p H H'→Paired (λz y=>R z y H) as ys→Paired (λz y=>R z y H') as ys:=λex r=>Paired.mapP r λa b h=>hR a b _ _ h ex;have hlen:∀{as:List α}{ys:List V}{H:Hp},Paired (λz y=>R z y H) as ys→ys.length=as.length:=λr=>(Paired.length r).symm;refine⟨λi m ys σ' H'=>m=zs.length-i∧i≤zs.length∧(∃o,σ'=o::fr)∧Same H1 H'∧H' p=some (.lst ys)∧Paired (λz y=>R z y H') ((zs.take i).filter g) ys,⟨zs.length,by simp,zero_le _,⟨none,hfr⟩,af hp,ac,.nil⟩,?_⟩;rintro i m ys σ' H' ⟨rfl,hi,⟨o,rfl⟩,s1,hl,hys⟩
 by_cases hlt:i<zs.length
 ·have hlt':i<(zs.map val).length:=by rw[length_map];exact hlt
  refine .inr ⟨S.go i H' hlt' s1,?_,λx H2 hy=>?_⟩
  ·have h1:ys.length≤zs.length:=by
    rw[hlen hys];exact le_trans (length_filter_le _ _) (by rw[length_take];omega)
   exact lt_of_le_of_lt h1 (az hn)
  ·obtain⟨rfl,hx⟩:=S.yl i H' x H2 hlt' s1 hy;have gz:zs[i]?=some zs[i]:=getElem?_eq_getElem hlt;have mz:=mem_of_getElem? gz;rw[getElem?_map,gz]at hx;have ex:val zs[i]=x:=Option.some.inj hx;have et:zs.take (i+1)=zs.take i++[zs[i]]:=bR gz;subst ex;generalize zs[i]=z at gz mz et⊢;refine cond z H2 _ mz s1 ⟨ys,hl⟩ λH4 s4=>?_;cases hb:g z with
   |true =>
    rw[if_pos rfl];refine elt z H4 _ mz hb (s1.trans s4) ⟨ys,s4 _ _ hl⟩ λy H5 s5 r5=>⟨s5 _ _ (s4 _ _ hl),zs.length-(i+1),by omega,rfl,hlt,⟨_,rfl⟩,aD hp ((s1.trans s4).trans s5),ac,?_⟩;rw[et,filter_append,filter_cons_of_pos hb];exact Paired.snoc (grow ((Ext.of (s4.trans s5)).trans Ext.upd) hys) (hR _ _ _ _ r5 Ext.upd)
   |false =>
    rw[if_neg (by simp)];refine⟨zs.length-(i+1),by omega,rfl,hlt,⟨_,rfl⟩,s1.trans s4,s4 _ _ hl,?_⟩;rw[et,filter_append,filter_cons_of_neg (by simp[hb]),filter_nil,append_nil];exact grow (Ext.of s4) hys
 ·have e:i=zs.length:=by omega
  subst e;have st:=S.stop H' s1;rw[length_map]at st;refine .inl ⟨st,fin ys H' s1 hl ?_⟩;rw[take_length]at hys;exact hys
theorem cV{α:Type}{js:List Nat}{J:It}{te:TE}{σ:St}{H1:Hp}{Q:VK}{p:Addr}{fr:List (Option V)}(zs:List α)(val:α→V)(hn:zs.length≤1000)(hp:H1 p=none)(S:Src J H1 (zs.map val))(hfr:bc 1 js σ=none::fr)(R:α→V→Hp→Prop)(hR:∀z y H H',R z y H→Ext p H H'→R z y H')(elt:∀z H' (k:VK),z∈zs→Same H1 H'→(∃ys,H' p=some (.lst ys))→(∀y H4,Same H' H4→R z y H4→k y H4)→te (some (val z)::fr) H' k)(fin:∀ys H',Same H1 H'→H' p=some (.lst ys)→Paired (λz y=>R z y H') zs ys→Q (.ref p) H'):LcW 1 js (aB 0) te σ Q J H1 p:=by
 have grow:∀{as:List α}{ys:List V}{H H':Hp},Ext p H H'→Paired (λz y=>R z y H) as ys→Paired (λz y=>R z y H') as ys:=λex r=>Paired.mapP r λa b h=>hR a b _ _ h ex;have hlen:∀{as:List α}{ys:List V}{H:Hp},Paired (λz y=>R z y H) as ys→ys.length=as.length:=λr=>(Paired.length r).symm;refine⟨λi m ys σ' H'=>m=zs.length-i∧i≤zs.length∧(∃o,σ'=o::fr)∧Same H1 H'∧H' p=some (.lst ys)∧Paired (λz y=>R z y H') (zs.take i) ys,⟨zs.length,by simp,zero_le _,⟨none,hfr⟩,af hp,ac,.nil⟩,?_⟩;rintro i m ys σ' H' ⟨rfl,hi,⟨o,rfl⟩,s1,hl,hys⟩
 by_cases hlt:i<zs.length
 ·have hlt':i<(zs.map val).length:=by rw[length_map];exact hlt
  refine .inr ⟨S.go i H' hlt' s1,?_,λx H2 hy=>?_⟩
  ·have h1:ys.length≤zs.length:=by
    rw[hlen hys,length_take];omega
   exact lt_of_le_of_lt h1 (az hn)
  ·obtain⟨rfl,hx⟩:=S.yl i H' x H2 hlt' s1 hy;have gz:zs[i]?=some zs[i]:=getElem?_eq_getElem hlt;have mz:=mem_of_getElem? gz;rw[getElem?_map,gz]at hx;have ex:val zs[i]=x:=Option.some.inj hx;have et:zs.take (i+1)=zs.take i++[zs[i]]:=bR gz;subst ex;generalize zs[i]=z at gz mz et⊢;refine elt z H2 _ mz s1 ⟨ys,hl⟩ λy H5 s5 r5=>⟨s5 _ _ hl,zs.length-(i+1),by omega,rfl,hlt,⟨_,rfl⟩,aD hp (s1.trans s5),ac,?_⟩;rw[et];exact Paired.snoc (grow ((Ext.of s5).trans Ext.upd) hys) (hR _ _ _ _ r5 Ext.upd)
 ·have e:i=zs.length:=by omega
  subst e;have st:=S.stop H' s1;rw[length_map]at st;refine .inl ⟨st,fin ys H' s1 hl ?_⟩;rw[take_length]at hys;exact hys
theorem dy{α β:Type}{R:α→V→Prop}{val:β→V}{S:α→β→Prop}{zs:List α}{ys:List V}(h:Paired R zs ys)(f:∀z y,z∈zs→R z y→∃b,y=val b∧S z b):
  ∃bs:List (α×β),bs.map (·.1)=zs∧ys=bs.map (λx=>val x.2)∧∀x∈bs,S x.1 x.2:=by
 induction h with
 |nil=>exact⟨[],rfl,rfl,by simp⟩
 |@cons a y as bs r _ ih =>
  obtain⟨cs,e1,e2,e3⟩:=ih λz y hz=>f z y (by simp[hz]);obtain⟨b,e,s⟩:=f _ _ (by simp) r;refine⟨(a,b)::cs,by rw[map_cons,e1],by rw[map_cons,←e2,e],λx hx=>?_⟩;rcases mem_cons.mp hx with rfl|hx
  ·exact s
  ·exact e3 x hx
theorem au{α:Type}{R:α→V→Prop}{f:α→V}{zs:List α}{ys:List V}(h:Paired R zs ys)(hf:∀z y,z∈zs→R z y→y=f z):ys=zs.map f:=by
 induction h with
 |nil=>rfl
 |cons r _ ih=>rw[map_cons,←ih λz y hz=>hf z y (by simp[hz]),hf _ _ (by simp) r]
theorem jy(p:Int)(ms:List Int):inV (.int p) (ms.map V.int)=decide (p∈ms):=by
 unfold inV;rw[any_map,Bool.eq_iff_iff,any_eq_true,decide_eq_true_eq];constructor
 ·rintro⟨x,hx,e⟩;have:x=p:=by simpa [eqV]using e
  rw[←this];exact hx
 ·intro h;exact⟨p,h,by simp[eqV]⟩
theorem mH{X:Cx}:gG (CX1 X.prog X.w) X E0:=λ_ _ _ _ _ _ _ ⟨_,_,_,_,_,h⟩=>h.elim
end L2
namespace TW
structure Nd(S:Type) where
 num:Int
 par:Int
 nm:S
 st:Option Int
section
variable{S:Type}
inductive Reach(ns:List (Nd S))(f:Int):Nd S→Prop where
 |base {n:Nd S}:n∈ns→n.par=f→Reach ns f n
 |step {m n:Nd S}:Reach ns f m→m.st=none→n∈ns→n.par=m.num→Reach ns f n
theorem Reach.mem{ns:List (Nd S)}{f:Int}{n:Nd S}(h:Reach ns f n):n∈ns:=by
 cases h<;>assumption
theorem Reach.mono{ns ms:List (Nd S)}{f:Int}{n:Nd S}(h:Reach ns f n)(hs:∀x∈ns,x∈ms):Reach ms f n:=by
 induction h with
 |base hm hp=>exact .base (hs _ hm) hp
 |step _ hf hm hp ih=>exact .step ih hf (hs _ hm) hp
def gT(ns:List (Nd S))(k:Int):List (Nd S):=ns.filter λn=>decide (n.par=k)
def cZ(dn:List Int)(n:Nd S):Bool:=decide (n.par∈dn)
structure Walk(ns:List (Nd S))(f:Int)(dn:List Int)(fd:List (Nd S))(pd:List Int):Prop where
 perm:fd.Perm (ns.filter (cZ dn))
 reach:∀n∈fd,Reach ns f n
 cover:∀k,(k∈pd∨k∈dn)↔(k=f∨∃m∈fd,m.st=none∧m.num=k)
theorem Walk.start(ns:List (Nd S))(f:Int):Walk ns f [] [] [f]:=by
 refine⟨?_,by simp,λk=>by simp⟩;have e:ns.filter (cZ [])=[]:=by
  rw[List.filter_eq_nil_iff];intro a _;simp[cZ]
 rw[e]
theorem dt{α:Type}(p q:α→Bool)(hd:∀x,p x=true→q x=true→False):∀l:List α,
  (l.filter p++l.filter q).Perm (l.filter λx=>p x||q x)
 |[]=>by simp
 |x::l=>by
  have ih:=dt p q hd l;cases hp:p x with
  |true =>
   have hq:q x=false:=by
    cases h:q x with
    |false=>rfl
    |true=>exact(hd x hp h).elim
   rw[filter_cons_of_pos hp,filter_cons_of_neg (by simp[hq]),filter_cons_of_pos (by simp[hp])];exact List.Perm.cons x ih
  |false =>
   cases hq:q x with
   |true =>
    rw[filter_cons_of_neg (by simp[hp]),filter_cons_of_pos hq,filter_cons_of_pos (by simp[hq])];exact List.perm_middle.trans (List.Perm.cons x ih)
   |false =>
    rw[filter_cons_of_neg (by simp[hp]),filter_cons_of_neg (by simp[hq]),filter_cons_of_neg (by simp[hp,hq])];exact ih
def jz(ns:List (Nd S))(dn:List Int)(x:Int):List (Nd S):=if x∈dn then []else gT ns x
def aA(l:List (Nd S)):List Int:=(l.filter λn=>n.st.isNone).map (·.num)
theorem fX{l:List (Nd S)}{k:Int}:k∈aA l↔∃m∈l,m.st=none∧m.num=k:=by
 unfold aA;rw[mem_map];constructor
 ·rintro⟨m,hm,e⟩;rw[mem_filter]at hm;exact⟨m,hm.1,by simpa using hm.2,e⟩
 ·rintro⟨m,hm,h,e⟩;exact⟨m,mem_filter.mpr ⟨hm,by simp[h]⟩,e⟩
theorem Walk.turn{ns:List (Nd S)}{f x:Int}{dn:List Int}{fd:List (Nd S)}{pd:List Int}(w:Walk ns f dn fd (pd++[x])):
  Walk ns f (x::dn) (fd++jz ns dn x) (pd++aA (jz ns dn x)):=by
 have hx:=(w.cover x).mp (.inl (by simp))
 by_cases hd:x∈dn
 ·have eh:jz ns dn x=[]:=by unfold jz;rw[if_pos hd]
  rw[eh];refine⟨?_,by simpa using w.reach,λk=>?_⟩
  ·have e:ns.filter (cZ (x::dn))=ns.filter (cZ dn):=by
    apply filter_congr;intro n _;simp only[cZ,mem_cons,decide_eq_decide];constructor
    ·rintro(h|h)
     ·rw[h];exact hd
     ·exact h
    ·exact .inr
   rw[e,append_nil];exact w.perm
  ·have c:=w.cover k;rw[append_nil,←c];simp only[aA,filter_nil,map_nil,append_nil,mem_append,mem_cons,not_mem_nil,or_false];constructor
   ·rintro(h|h|h)
    ·exact .inl (.inl h)
    ·exact .inl (.inr h)
    ·exact .inr h
   ·rintro((h|h)|h)
    ·exact .inl h
    ·exact .inr (.inl h)
    ·exact .inr (.inr h)
 ·have eh:jz ns dn x=gT ns x:=by unfold jz;rw[if_neg hd]
  rw[eh];refine⟨?_,λn hn=>?_,λk=>?_⟩
  ·have e:ns.filter (cZ (x::dn))=ns.filter λn=>cZ dn n||decide (n.par=x):=by
    apply filter_congr;intro n _;rw[Bool.eq_iff_iff];simp only[cZ,mem_cons,decide_eq_true_eq,or_eq_true];constructor
    ·rintro(h|h)
     ·exact .inr h
     ·exact .inl h
    ·rintro(h|h)
     ·exact .inr h
     ·exact .inl h
   rw[e];refine(List.Perm.append_right _ w.perm).trans (dt _ _ (λy h1 h2=>?_) ns);simp only[cZ,decide_eq_true_eq]at h1 h2;rw[h2]at h1;exact hd h1
  ·rcases mem_append.mp hn with h|h
   ·exact w.reach n h
   ·unfold gT at h;rw[mem_filter]at h;obtain⟨hm,hp⟩:=h;simp only[decide_eq_true_eq]at hp;rcases hx with e|⟨m,hm',hf,e⟩
    ·exact .base hm (hp.trans e)
    ·exact .step (w.reach m hm') hf hm (hp.trans e.symm)
  ·have c:=w.cover k;simp only[mem_append,mem_cons,not_mem_nil,or_false]at c⊢;rw[fX];constructor
   ·rintro((h|⟨m,hm,h1,h2⟩)|h|h)
    ·rcases c.mp (.inl (.inl h))with e|⟨m,hm,z⟩
     ·exact .inl e
     ·exact .inr ⟨m,.inl hm,z⟩
    ·exact .inr ⟨m,.inr hm,h1,h2⟩
    ·rcases c.mp (.inl (.inr h))with e|⟨m,hm,z⟩
     ·exact .inl e
     ·exact .inr ⟨m,.inl hm,z⟩
    ·rcases c.mp (.inr h)with e|⟨m,hm,z⟩
     ·exact .inl e
     ·exact .inr ⟨m,.inl hm,z⟩
   ·rintro(e|⟨m,hm|hm,z⟩)
    ·rcases c.mpr (.inl e)with (h|h)|h
     ·exact .inl (.inl h)
     ·exact .inr (.inl h)
     ·exact .inr (.inr h)
    ·rcases c.mpr (.inr ⟨m,hm,z⟩)with (h|h)|h
     ·exact .inl (.inl h)
     ·exact .inr (.inl h)
     ·exact .inr (.inr h)
    ·exact .inl (.inr ⟨m,hm,z⟩)
theorem Walk.len{ns:List (Nd S)}{f:Int}{dn:List Int}{fd:List (Nd S)}{pd:List Int}(w:Walk ns f dn fd pd):fd.length≤ns.length:=by
 rw[w.perm.length_eq];exact length_filter_le _ _
theorem cB(l:List (Nd S)):(aA l).length≤l.length:=by
 unfold aA;rw[length_map];exact length_filter_le _ _
theorem Walk.mem{ns:List (Nd S)}{f:Int}{dn:List Int}{fd:List (Nd S)}(w:Walk ns f dn fd [])(n:Nd S):n∈fd↔Reach ns f n:=by
 constructor
 ·exact w.reach n
 ·have cov:∀k,(k=f∨∃m∈fd,m.st=none∧m.num=k)→k∈dn:=λk h=>by
   rcases (w.cover k).mpr h with z|z
   ·simp at z
   ·exact z
  have back:∀x,x∈ns→x.par∈dn→x∈fd:=λx hx hp=>w.perm.mem_iff.mpr (mem_filter.mpr ⟨hx,by simp[cZ,hp]⟩);intro h
  induction h with
  |base hm hp=>exact back _ hm (cov _ (.inl hp))
  |step _ hf hm hp ih=>exact back _ hm (cov _ (.inr ⟨_,ih,hf,hp.symm⟩))
def nW(ns:List (Nd S)):Prop:=ns.Pairwise λa b=>a.num<b.num
def cu(ns:List (Nd S)):Prop:=(ns.map λn=>(n.par,n.nm)).Nodup
structure Tree(ns:List (Nd S)):Prop where
 rise:nW ns
 own:cu ns
 down:∀n∈ns,Reach ns 0 n
inductive Built:List (Nd S)→Prop where
 |nil:Built []
 |snoc {l:List (Nd S)} {n:Nd S}:Built l→(n.par=0∨∃m∈l,m.st=none∧m.num=n.par)→Built (l++[n])
theorem Built.down{l:List (Nd S)}(b:Built l):∀n∈l,Reach l 0 n:=by
 induction b with
 |nil=>simp
 |@snoc l n b h ih =>
  intro x hx;have up:∀y∈l,y∈l++[n]:=λy hy=>mem_append_left _ hy;rcases mem_append.mp hx with hx|hx
  ·exact(ih x hx).mono up
  ·have e:x=n:=by simpa using hx
   subst e;rcases h with h|⟨m,hm,hf,he⟩
   ·exact .base (by simp) h
   ·exact .step ((ih m hm).mono up) hf (by simp) he.symm
theorem qY{l t:List (Nd S)}(b:Built l)(p:t.Perm l)(hr:t.Pairwise λa b=>a.num≤b.num)(hn:(l.map (·.num)).Nodup)(ho:cu l):Tree t:=by
 refine⟨?_,?_,λn hn'=>?_⟩
 ·have hn':(t.map (·.num)).Nodup:=((p.map _).nodup_iff).mpr hn;unfold Nodup at hn';rw[pairwise_map]at hn';unfold nW;exact hr.imp₂ (λa b h1 h2=>by omega) hn'
 ·unfold cu;exact((p.map _).nodup_iff).mpr ho
 ·exact(b.down n (p.mem_iff.mp hn')).mono λx hx=>p.mem_iff.mpr hx
theorem pK{t:List (Nd S)}(h:nW t){a b:Nd S}(ha:a∈t)(hb:b∈t)(e:a.num=b.num):a=b:=by
 unfold nW at h
 induction t with
 |nil=>simp at ha
 |cons x r ih =>
  rw[pairwise_cons]at h;rcases mem_cons.mp ha with ea|ha'
  ·rcases mem_cons.mp hb with eb|hb'
   ·rw[ea,eb]
   ·have:=h.1 b hb';rw[←ea]at this;omega
  ·rcases mem_cons.mp hb with eb|hb'
   ·have:=h.1 a ha';rw[←eb]at this;omega
   ·exact ih h.2 ha' hb'
end
end TW
namespace TW
section
variable{S:Type}
inductive PathTo(ns:List (Nd S)):Int→List S→Prop where
 |top:PathTo ns 0 []
 |node {n:Nd S} {p:List S}:n∈ns→PathTo ns n.par p→PathTo ns n.num (p++[n.nm])
structure Tree1(ns:List (Nd S)):Prop extends Tree ns where
 pos:∀n∈ns,1≤n.num
theorem Tree1.inj{ns:List (Nd S)}(T:Tree1 ns){a b:Nd S}(ha:a∈ns)(hb:b∈ns)(e:a.num=b.num):a=b:=pK T.rise ha hb e
theorem PathTo.zero{ns:List (Nd S)}(T:Tree1 ns){k:Int}{p:List S}(h:PathTo ns k p)(e:k=0):p=[]:=by
 cases h with
 |top=>rfl
 |@node n p hm _=>have:=T.pos n hm;omega
theorem PathTo.inv{ns:List (Nd S)}(T:Tree1 ns){k:Int}{p:List S}(h:PathTo ns k p){n:Nd S}(hn:n∈ns)(e:k=n.num):∃q,p=q++[n.nm]∧PathTo ns n.par q:=by
 cases h with
 |top=>have:=T.pos n hn;omega
 |@node m q hm hq =>
  have:m=n:=T.inj hm hn e;subst this;exact⟨q,rfl,hq⟩
theorem PathTo.uniq{ns:List (Nd S)}(T:Tree1 ns){k:Int}{p:List S}(h:PathTo ns k p):∀{q:List S},PathTo ns k q→p=q:=by
 induction h with
 |top=>intro q hq;exact(hq.zero T rfl).symm
 |@node n p hm _ ih =>
  intro q hq;obtain⟨q',e,hq'⟩:=hq.inv T hm rfl;rw[e,ih hq']
theorem PathTo.ex{ns:List (Nd S)}(T:Tree1 ns){n:Nd S}(hn:n∈ns):∃p,PathTo ns n.num p:=by
 have key:∀x,Reach ns 0 x→∃p,PathTo ns x.num p:=by
  intro x r
  induction r with
  |base hm hp=>exact⟨_,.node hm (by rw[hp];exact .top)⟩
  |step _ _ hm hp ih =>
   obtain⟨p,h⟩:=ih;exact⟨_,.node hm (by rw[hp];exact h)⟩
 exact key n (T.down n hn)
theorem PathTo.key{ns:List (Nd S)}(T:Tree1 ns):∀{p:List S}{k j:Int},PathTo ns k p→PathTo ns j p→k=j:=by
 have main:∀(m:Nat){p:List S}{k j:Int},p.length=m→PathTo ns k p→PathTo ns j p→k=j:=by
  intro m
  induction m with
  |zero =>
   intro p k j hl h1 h2;have e:p=[]:=length_eq_zero_iff.mp hl;subst e;have z:∀{k:Int}{q:List S},PathTo ns k q→q=[]→k=0:=by
    intro k q h e;cases h with
    |top=>rfl
    |node _ _=>simp at e
   rw[z h1 rfl,z h2 rfl]
  |succ m ih =>
   intro p k j hl h1 h2;have z:∀{k:Int}{q:List S},PathTo ns k q→q=p→∃n q',n∈ns∧n.num=k∧p=q'++[n.nm]∧PathTo ns n.par q':=by
    intro k q h e;cases h with
    |top=>rw[←e]at hl;simp at hl
    |@node n q' hm hq'=>exact⟨n,q',hm,rfl,e.symm,hq'⟩
   obtain⟨n,q,hn,e1,e2,hq⟩:=z h1 rfl;obtain⟨n',q',hn',e1',e2',hq'⟩:=z h2 rfl;have e3:q++[n.nm]=q'++[n'.nm]:=e2.symm.trans e2';obtain⟨e4,e5⟩:=append_inj' e3 rfl;subst e4;have e6:n.nm=n'.nm:=by simpa using e5
   have e7:n.par=n'.par:=ih (by rw[e2]at hl;simpa using hl) hq hq';have ho:=T.own;have:n=n':=by
    unfold cu at ho;obtain⟨i,hi,gi⟩:=mem_iff_getElem.mp hn;obtain⟨j',hj,gj⟩:=mem_iff_getElem.mp hn';have:(ns.map λn=>(n.par,n.nm))[i]'(by simpa using hi)=(ns.map λn=>(n.par,n.nm))[j']'(by simpa using hj):=by
     rw[getElem_map,getElem_map,gi,gj,e6,e7]
    have hij:=(getElem_inj ho).mp this;subst hij;rw[←gi,←gj]
   rw[←e1,←e1',this]
 intro p k j h1 h2;exact main p.length rfl h1 h2
theorem PathTo.chain{ns:List (Nd S)}(T:Tree1 ns){k:Int}{p:List S}(h:PathTo ns k p):∃l:List Int,l.length=p.length∧l.Nodup∧∀x∈l,x∈ns.map (·.num)∧∃q,PathTo ns x q∧q.length≤p.length:=by
 induction h with
 |top=>exact⟨[],rfl,nodup_nil,by simp⟩
 |@node n p hm hp ih =>
  obtain⟨l,e,nd,hx⟩:=ih;refine⟨n.num::l,by simp[e],nodup_cons.mpr ⟨λhin=>?_,nd⟩,λx hx'=>?_⟩
  ·obtain⟨_,q,hq,hl⟩:=hx _ hin;have:=hq.uniq T (.node hm hp);rw[this]at hl;simp at hl;omega
  ·rcases mem_cons.mp hx' with e'|h'
   ·rw[e'];exact⟨mem_map.mpr ⟨n,hm,rfl⟩,_,.node hm hp,le_refl _⟩
   ·obtain⟨a,q,b,c⟩:=hx x h';exact⟨a,q,b,by simp;omega⟩
theorem PathTo.len{ns:List (Nd S)}(T:Tree1 ns){k:Int}{p:List S}(h:PathTo ns k p):p.length≤ns.length:=by
 obtain⟨l,e,nd,hx⟩:=h.chain T;rw[←e];have:=Nodup.length_le_of_subset nd (λx hx'=>(hx x hx').1);rw[length_map]at this;exact this
theorem PathTo.down{ns:List (Nd S)}(T:Tree1 ns){k:Int}{p:List S}{x:S}{j:Int}(h:PathTo ns k p)(hj:PathTo ns j (p++[x])):∃n∈ns,n.num=j∧n.par=k∧n.nm=x:=by
 have z:∀{j:Int}{q:List S},PathTo ns j q→q=p++[x]→∃n∈ns,n.num=j∧n.par=k∧n.nm=x:=by
  intro j q h' e;cases h' with
  |top=>simp at e
  |@node n q' hm hq' =>
   obtain⟨e1,e2⟩:=append_inj' e rfl;subst e1;exact⟨n,hm,rfl,hq'.key T h,by simpa using e2⟩
 exact z hj rfl
theorem PathTo.prefix{ns:List (Nd S)}{j:Int}{p:List S}{x:S}(hj:PathTo ns j (p++[x])):∃k,PathTo ns k p:=by
 have z:∀{j:Int}{q:List S},PathTo ns j q→q=p++[x]→∃k,PathTo ns k p:=by
  intro j q h' e;cases h' with
  |top=>simp at e
  |@node n q' hm hq' =>
   obtain⟨e1,e2⟩:=append_inj' e rfl;subst e1;exact⟨_,hq'⟩
 exact z hj rfl
end
end TW
namespace TW
section
variable{S:Type}
end
end TW
namespace TW
section
variable{S:Type}
end
end TW
namespace TW
section
variable{S:Type}
end
end TW
namespace L2
open PySem PySem.Spec PyProof.Rows
section
variable{P:Program}{w:World}{K:PySem.W.Frag}{mg:Str→Option Value}{base:Heap}
theorem Fun.okX{x qual:Str}{st:Stmt}{f:Addr}{fd:FuncData}{N ps:List Str}{k:Nat}{sp:Sp}(F:Fun K x qual st f fd)(S:FnScope N ps (ae st))(len:∀vs H Q E,sp vs H Q E→vs.length=ps.length)(hbody:∀(cdv:Value) (A:Around) (outer:List Env) (s:Shared) (H:Hp) (vs:List V) (Q:VK) (E:XK),Room k (A.deeper (envOfC qual (ae st) s.heap.objs.size f cdv))→sp vs H Q E →
   ∃t,PSs (gb (CX1 P w) P w K mg base N qual (ae st) f cdv A outer s H E) (bg st) t∧t {nx:=λ_ H'=>Q .non H',rt:=Q} (start N vs) H):FnOk P w K mg base (CX1 P w) (k+1) f fd ps sp:=by
 obtain⟨oc,od,kV,doc,pm,an,cdv,ct,osl,rfl,lk,hcd⟩:=F.ex;exact oJ lk hcd S len λA outer s H vs Q E hr hsp=>hbody cdv A outer s H vs Q E hr hsp
theorem LcOk.mk'{X:Cx}{scope:Scope}{cl:List (Str×Addr)}(fs:List Str)(hk:scope.kind=.function)(hc:closureFor scope X.env=pure cl)(hn:∀x∈scope.names,x.2=.local→scope.names.lookup x.1=some .local)(hnc:∀x∈scope.names,x.2≠.cell)(hcl:∀y∈cl,X.env.cells.lookup y.1=some y.2)(hfs:cl.map (·.1)=fs)(hall:scope.names.all (λy=>!(y.2==.free)||fs.contains y.1)=true):LcOk X scope cl:=by
 refine⟨hk,hc,hn,hnc,λx c h=>hcl (x,c) (PySem.mem_of_lookup h),λx h=>?_⟩;have hm:∃k,(x,k)∈(relabel scope X.env).names∧(k=.cell∨k=.free):=by
  rcases h with h|h
  ·exact⟨_,PySem.mem_of_lookup h,.inl rfl⟩
  ·exact⟨_,PySem.mem_of_lookup h,.inr rfl⟩
 obtain⟨k,hm,hk'⟩:=hm;unfold relabel at hm;obtain⟨⟨y,k0⟩,hy,e⟩:=mem_map.mp hm;have hfree:x=y∧k0=.free:=by
  cases k0 with
  |free =>
   simp only at e
   split at e
   ·injection e with e1 e2;exact⟨e1.symm,rfl⟩
   ·injection e with e1 e2;exact⟨e1.symm,rfl⟩
  |cell=>exact absurd rfl (hnc _ hy)
  |_ =>
   exfalso
   have e2:k=_:=(congrArg Prod.snd e).symm;simp at e2;rcases hk' with z|z<;>rw[z]at e2<;>cases e2
 obtain⟨rfl,rfl⟩:=hfree;have:=all_eq_true.mp hall _ hy;have hin:fs.contains x=true:=by simpa using this
 rw[←hfs]at hin;have hmem:x∈cl.map (·.1):=List.contains_iff_mem.mp hin;cases e:cl.lookup x with
 |some c=>exact⟨c,rfl⟩
 |none =>
  exfalso
  obtain⟨y,hy,ey⟩:=mem_map.mp hmem;have:=List.lookup_eq_none_iff.mp e y hy;rw[ey]at this;simp at this
end
end L2
namespace TK
open PySem L2
abbrev Nd:=TW.Nd Str
def stV:Option Int→V
 |none=>.non
 |some i=>.int i
def vals(n:Nd):List V:=[.int n.num,.int n.par,.str n.nm,stV n.st]
abbrev ZN:=List (Addr×Nd)
def aP(zs:ZN):List V:=(zs.map (·.1)).map V.ref
def nds(zs:ZN):List Nd:=zs.map (·.2)
def At(H:Hp)(zs:ZN):Prop:=∀z∈zs,H z.1=some (.tup (vals z.2))
theorem At.same{H H':Hp}{zs:ZN}(h:At H zs)(s:Same H H'):At H' zs:=λz hz=>s _ _ (h z hz)
theorem bo(zs:ZN):(aP zs).length=zs.length:=by simp[aP]
theorem bd(zs:ZN):(nds zs).length=zs.length:=by simp[nds]
theorem cw{zs:ZN}{i:Nat}{x:V}(h:(aP zs)[i]?=some x):∃z,zs[i]?=some z∧x=.ref z.1:=by
 unfold aP at h;rw[getElem?_map,getElem?_map]at h;cases e:zs[i]? with
 |none=>rw[e]at h;cases h
 |some z=>rw[e]at h;exact⟨z,rfl,(Option.some.inj h).symm⟩
theorem eS{zs:ZN}{i:Nat}{z:Addr×Nd}(h:zs[i]?=some z):(aP zs)[i]?=some (.ref z.1):=by
 unfold aP;rw[getElem?_map,getElem?_map,h];rfl
theorem at0(n:Nd):atI (vals n) 0=some (.int n.num):=rfl
theorem at1(n:Nd):atI (vals n) 1=some (.int n.par):=rfl
theorem at2(n:Nd):atI (vals n) 2=some (.str n.nm):=rfl
theorem at3(n:Nd):atI (vals n) 3=some (stV n.st):=rfl
theorem jA{σ:St}(h:σ.length=2):∃a b,σ=[a,b]:=by
 match σ,h with
 |[a,b],_=>exact⟨a,b,rfl⟩
theorem tz{σ:St}(h:σ.length=1):∃a,σ=[a]:=by
 match σ,h with
 |[a],_=>exact⟨a,rfl⟩
theorem aV{n:Nat}(h:n≤1000):n≤sizeLine:=le_of_lt (az h)
theorem le2:2≤sizeLine:=aV (by decide)
theorem cW{A:Around}{k:Nat}(hr:Room k A):A.units+4<cLine:=lt_of_le_of_lt (Nat.add_le_add_left (by decide:4≤64) _) hr.units
def plK(n:Nd):List Key:=[.inl n.par,.inr n.nm]
theorem iO(zs:List Nd):(zs.map plK).Nodup↔TW.cu zs:=by
 unfold TW.cu Nodup;rw[pairwise_map,pairwise_map];have e:∀a b:Nd,(plK a≠plK b)=((a.par,a.nm)≠(b.par,b.nm)):=λa b=>by
  simp[plK]
 simp only[e]
def ins(zs:ZN)(k:Int):ZN:=zs.filter λz=>decide (z.2.par=k)
theorem mJ(zs:ZN)(k:Int):nds (ins zs k)=TW.gT (nds zs) k:=by
 unfold nds ins TW.gT;rw[filter_map];rfl
theorem du(zs:ZN)(z:Addr×Nd)(k:Int):ins (zs++[z]) k=if z.2.par=k then ins zs k++[z]else ins zs k:=by
 unfold ins;rw[filter_append]
 by_cases h:z.2.par=k
 ·rw[if_pos h,filter_cons_of_pos (by simp[h])];rfl
 ·rw[if_neg h,filter_cons_of_neg (by simp[h])];simp
theorem qZ{zs:ZN}{k:Int}{z:Addr×Nd}(h:z∈ins zs k):z∈zs:=(mem_filter.mp h).1
theorem iP(zs:ZN)(z:Addr×Nd):aP (zs++[z])=aP zs++[.ref z.1]:=by simp[aP]
structure Mem(H0 H:Hp)(d:Addr)(L:Int→Addr)(kvs:List (Key×V))(xs:ZN)(dn:List Int):Prop where
 dict:H d=some (.dK kvs)
 d0:H0 d=none
 len:kvs.length≤xs.length
 val:∀k:Int,aT kvs (Sum.inl k:Key)=if k∈dn∨ins xs k=[]then none else some (.ref (L k))
 at':∀k,k∉dn→ins xs k≠[]→H (L k)=some (.lst (aP (ins xs k)))∧H0 (L k)=none
 inj:∀k k',k∉dn→k'∉dn→ins xs k≠[]→ins xs k'≠[]→L k=L k'→k=k'
 same:Same H0 H
theorem Mem.grow{H0 H H':Hp}{d:Addr}{L:Int→Addr}{kvs:List (Key×V)}{xs:ZN}{dn:List Int}(m:Mem H0 H d L kvs xs dn)(s:Same H H'):Mem H0 H' d L kvs xs dn :=
 ⟨s _ _ m.dict,m.d0,m.len,m.val,λk h1 h2=>⟨s _ _ (m.at' k h1 h2).1,(m.at' k h1 h2).2⟩,m.inj,m.same.trans s⟩
theorem Mem.other{H0 H:Hp}{d p:Addr}{L:Int→Addr}{kvs:List (Key×V)}{xs:ZN}{dn:List Int}{is:List Int}{o:HO}(m:Mem H0 H d L kvs xs dn)(hp:H p=some (.lst (is.map V.int)))(h0:H0 p=none):Mem H0 (upd H p o) d L kvs xs dn:=by
 refine⟨?_,m.d0,m.len,m.val,λk h1 h2=>⟨?_,(m.at' k h1 h2).2⟩,m.inj,aD h0 m.same⟩
 ·rw[ah]
  ·exact m.dict
  ·intro e;have:=m.dict;rw[e,hp]at this;cases this
 ·have e1:=(m.at' k h1 h2).1;rw[ah]
  ·exact e1
  ·intro e;rw[e,hp]at e1;injection e1 with e1
   injection e1 with e1
   have hne:=h2;cases hk:ins xs k with
   |nil=>exact h2 hk
   |cons a r =>
    rw[hk]at e1;cases is with
    |nil=>simp[aP]at e1
    |cons i r'=>simp[aP]at e1
theorem Mem.start{H0:Hp}{d:Addr}(h:H0 d=none):Mem H0 (upd H0 d (.dK [])) d (λ_=>d) [] [] [] :=
 ⟨ac,h,by simp,λk=>by rw[if_pos (.inr rfl)];rfl,λk _ h=>absurd rfl h,λk k' _ _ h=>absurd rfl h,af h⟩
theorem Mem.hit{H0 H:Hp}{d:Addr}{L:Int→Addr}{kvs:List (Key×V)}{xs:ZN}{z:Addr×Nd}(m:Mem H0 H d L kvs xs [])(hp:ins xs z.2.par≠[]):
  Mem H0 (upd H (L z.2.par) (.lst (aP (ins xs z.2.par)++[.ref z.1]))) d L kvs (xs++[z]) []:=by
 have e1:=(m.at' z.2.par (by simp) hp);have hd:d≠L z.2.par:=λe=>by
  have:=m.dict;rw[e,e1.1]at this;cases this
 have ne:∀k,ins (xs++[z]) k=[]↔ins xs k=[]:=λk=>by
  rw[du]
  by_cases h:z.2.par=k
  ·rw[if_pos h];subst h;simp[hp]
  ·rw[if_neg h]
 refine⟨by rw[ah hd];exact m.dict,m.d0,by have:=m.len;simp;omega,λk=>?_,λk h1 h2=>?_,λk k' _ _ h2 h3 e=>m.inj k k' (by simp) (by simp) (λh=>h2 ((ne k).mpr h)) (λh=>h3 ((ne k').mpr h)) e,aD e1.2 m.same⟩
 ·rw[m.val k];simp only[ne k]
 ·have h2':ins xs k≠[]:=λh=>h2 ((ne k).mpr h);refine⟨?_,(m.at' k h1 h2').2⟩
  by_cases h:z.2.par=k
  ·subst h;rw[ac,du,if_pos rfl,iP]
  ·rw[ah,du,if_neg h]
   ·exact(m.at' k h1 h2').1
   ·intro e;exact h (m.inj _ _ (by simp) (by simp) hp h2' e.symm)
theorem Mem.fresh{H0 H:Hp}{d q:Addr}{L:Int→Addr}{kvs:List (Key×V)}{xs:ZN}{z:Addr×Nd}(m:Mem H0 H d L kvs xs [])(hp:ins xs z.2.par=[])(hq:H q=none):
  Mem H0 (upd (upd (upd H q (.lst [])) d (.dK (dD kvs (Sum.inl z.2.par:Key) (.ref q)))) q (.lst ([]++[.ref z.1]))) d (λk=>if k=z.2.par then q else L k) (dD kvs (Sum.inl z.2.par:Key) (.ref q)) (xs++[z]) []:=by
 have hdq:d≠q:=λe=>by
  have:=m.dict;rw[e,hq]at this;cases this
 have lq:∀k,ins xs k≠[]→L k≠q:=λk h e=>by
  have:=(m.at' k (by simp) h).1;rw[e,hq]at this;cases this
 have ld:∀k,ins xs k≠[]→L k≠d:=λk h e=>by
  have:=(m.at' k (by simp) h).1;rw[e,m.dict]at this;cases this
 have q0:H0 q=none:=m.same.free hq;have e2:∀k,k≠z.2.par→ins (xs++[z]) k=ins xs k:=λk h=>by rw[du,if_neg (λe=>h e.symm)]
 have e3:ins (xs++[z]) z.2.par=[z]:=by rw[du,if_pos rfl,hp];rfl
 refine⟨by rw[ah hdq,ac],m.d0,?_,λk=>?_,λk h1 h2=>?_,λk k' _ _ h2 h3 e=>?_,?_⟩
 ·have h1:=m.len;have h2:=fM kvs (Sum.inl z.2.par:Key) (.ref q);rw[length_append,length_singleton];omega
 ·rw[oQ]
  by_cases h:k=z.2.par
  ·subst h;rw[if_pos rfl,if_neg (by rw[e3];simp),if_pos rfl]
  ·rw[if_neg (λe=>h (Sum.inl.inj e)),m.val k,e2 k h,if_neg h]
 ·by_cases h:k=z.2.par
  ·subst h;simp only[if_true];exact⟨by rw[ac,e3];rfl,q0⟩
  ·rw[e2 k h]at h2;simp only[if_neg h];refine⟨?_,(m.at' k h1 h2).2⟩;rw[ah (lq k h2),ah (ld k h2),ah (lq k h2),e2 k h];exact(m.at' k h1 h2).1
 ·by_cases h:k=z.2.par
  ·by_cases h':k'=z.2.par
   ·rw[h,h']
   ·rw[e2 k' h']at h3;simp only[if_pos h,if_neg h']at e;exact absurd e.symm (lq k' h3)
  ·rw[e2 k h]at h2
   by_cases h':k'=z.2.par
   ·simp only[if_neg h,if_pos h']at e;exact absurd e (lq k h2)
   ·rw[e2 k' h']at h3;simp only[if_neg h,if_neg h']at e;exact m.inj k k' (by simp) (by simp) h2 h3 e
 ·exact aD q0 (aD m.d0 (m.same.trans (af hq)))
theorem nX{κ:Type}[DecidableEq κ](kvs:List (κ×V))(k j:κ):aT (cm kvs k) j=if j=k then none else aT kvs j:=by
 induction kvs with
 |nil=>simp[cm,aT]
 |cons p r ih =>
  by_cases e:p.1=k
  ·rw[nK e,ih]
   by_cases h:j=k
   ·rw[if_pos h,if_pos h]
   ·rw[if_neg h,if_neg h,aH (λz=>h (z.symm.trans e))]
  ·rw[nL e]
   by_cases h:p.1=j
   ·rw[aQ h,if_neg (λz=>e (h.trans z)),aQ h]
   ·rw[aH h,ih,aH h]
theorem Mem.drop{H0 H:Hp}{d:Addr}{L:Int→Addr}{kvs:List (Key×V)}{xs:ZN}{dn:List Int}(m:Mem H0 H d L kvs xs dn)(x:Int):Mem H0 (upd H d (.dK (cm kvs (Sum.inl x:Key)))) d L (cm kvs (Sum.inl x:Key)) xs (x::dn):=by
 have ld:∀k,k∉dn→ins xs k≠[]→L k≠d:=λk h0 h e=>by
  have:=(m.at' k h0 h).1;rw[e,m.dict]at this;cases this
 have no:∀k,k∉x::dn→k∉dn:=λk h h'=>h (mem_cons_of_mem _ h');refine⟨ac,m.d0,le_trans (jS _ _) m.len,λk=>?_,λk h1 h2=>?_,λk k' h0 h1 h2 h3 e=>m.inj k k' (no k h0) (no k' h1) h2 h3 e,aD m.d0 m.same⟩
 ·rw[nX,m.val k]
  by_cases h:k=x
  ·rw[if_pos (by rw[h]),if_pos (.inl (by rw[h];simp))]
  ·rw[if_neg (λe=>h (Sum.inl.inj e))];simp[h]
 ·rw[ah (ld k (no k h1) h2)];exact m.at' k (no k h1) h2
theorem Mem.skip{H0 H:Hp}{d:Addr}{L:Int→Addr}{kvs:List (Key×V)}{xs:ZN}{dn:List Int}(m:Mem H0 H d L kvs xs dn){x:Int}(hx:x∈dn∨ins xs x=[]):Mem H0 H d L kvs xs (x::dn):=by
 have no:∀k,k∉x::dn→k∉dn:=λk h h'=>h (mem_cons_of_mem _ h');refine⟨m.dict,m.d0,m.len,λk=>?_,λk h1 h2=>m.at' k (no k h1) h2,λk k' h0 h1 h2 h3 e=>m.inj k k' (no k h0) (no k' h1) h2 h3 e,m.same⟩;rw[m.val k]
 by_cases h:k=x
 ·subst h;rw[if_pos hx,if_pos (.inl (by simp))]
 ·simp[h]
theorem pL{Q:VK}{H0 H:Hp}{d q:Addr}{L:Int→Addr}{kvs:List (Key×V)}{zs:ZN}{dn:List Int}{x:Int}(m:Mem H0 H d L kvs zs dn)(hq:H q=some (.lst []))(k:∀hl Hc kvs' hs,Mem H0 Hc d L kvs' zs (x::dn)→Hc hl=some (.lst (aP hs))→nds hs=TW.jz (nds zs) dn x→(∀z∈hs,z∈zs)→(∀p,p≠d→Hc p=H p)→(hs=[]→hl=q)→Q (.ref hl) Hc):
  ∃kvs k,H d=some (.dK kvs)∧V.int x=kV k∧(∀v,aT kvs k=some v→Q v (upd H d (.dK (cm kvs k))))∧(aT kvs k=none→Q (.ref q) H):=by
 refine⟨kvs,.inl x,m.dict,rfl,λv hv=>?_,λhn=>?_⟩
 ·rw[m.val x]at hv
  by_cases h:x∈dn∨ins zs x=[]
  ·rw[if_pos h]at hv;cases hv
  ·rw[if_neg h]at hv;have h1:x∉dn:=λz=>h (.inl z);have h2:ins zs x≠[]:=λz=>h (.inr z);cases hv;have a:=(m.at' x h1 h2).1;have ld:L x≠d:=λe=>by rw[e,m.dict]at a;cases a
   refine k (L x) _ _ (ins zs x) (m.drop x) (by rw[ah ld];exact a) ?_ (λz hz=>qZ hz) (λp hp=>ah hp) (λe=>absurd e h2);rw[mJ];unfold TW.jz;rw[if_neg h1]
 ·rw[m.val x]at hn
  by_cases h:x∈dn∨ins zs x=[]
  ·refine k q _ _ [] (m.skip h) hq ?_ (by simp) (λp _=>rfl) (λ_=>rfl);unfold TW.jz
   by_cases h1:x∈dn
   ·rw[if_pos h1];rfl
   ·rw[if_neg h1];rcases h with h|h
    ·exact absurd h h1
    ·rw[←mJ,h]
  ·rw[if_neg h]at hn;cases hn
theorem mM{H:Hp}{p hl:Addr}{hs:ZN}{is:List Int}(hp:H p=some (.lst (is.map V.int)))(h:H hl=some (.lst (aP hs)))(hne:hs≠[]):hl≠p:=by
 intro e;rw[e,hp]at h;injection h with h
 injection h with h
 cases hs with
 |nil=>exact hne rfl
 |cons a r =>
  cases is with
  |nil=>simp[aP]at h
  |cons i r'=>simp[aP]at h
def eT(H:Hp)(p:Addr):Nat:=match H p with
 |some (.lst xs)=>xs.length
 |_=>0
theorem cL{H:Hp}{p:Addr}{xs:List V}(h:H p=some (.lst xs)):eT H p=xs.length:=by unfold eT;rw[h]
def cM(l:List Nd):List V:=(l.map (·.num)).map V.int
def eU(K:PySem.W.Frag)(H:Hp)(a:Addr):Prop:=∃ns:List Int,SqL K H a (ns.map V.int)
theorem eU.same{K:PySem.W.Frag}{H H':Hp}{a:Addr}(h:eU K H a)(s:Same H H'):eU K H' a:=let⟨ns,e⟩:=h;⟨ns,s.seq e⟩
theorem kx{ns:List Int}{i:Int}(h0:0≤i)(h1:i<ns.length):∃j,atI (ns.map V.int) i=some (.int j):=by
 refine⟨ns[i.toNat]'(by omega),?_⟩;have:=gk (xs:=ns.map V.int) (j:=i.toNat) (v:=.int (ns[i.toNat]'(by omega))) (by rw[getElem?_map,getElem?_eq_getElem (by omega)];rfl);rw[show((i.toNat:Nat):Int)=i by omega]at this;exact this
def Has(P:Program)(w:World)(K:PySem.W.Frag)(mg:Str→Option Value)(base:Heap)(k:Nat)(x:Str)(ps:List Str)(sp:Sp):Prop:=∃f fd,FnOk P w K mg base CX0 k f fd ps sp∧mg x=some (.ref f)∧keepIn K (.ref f)=true∧cp K fd ps []
def tD(n:Nd):Prop:=1≤n.num∧n.num≤12∧(n.nm="a"∨n.nm="b"∨n.nm="c"∨n.nm="abcde")∧(n.st=none∨n.st=some 0∨n.st=some 1∨n.st=some 2∨n.st=some 999)
structure Bd(zs:ZN)(lf:List Int):Prop where
 built:TW.Built (nds zs)
 nd:((nds zs).map (·.num)++lf).Nodup
 rng:∀x∈lf,1≤x∧x≤12
 own:TW.cu (nds zs)
 ok:∀z∈zs,tD z.2
theorem Bd.skip{zs:ZN}{lf:List Int}(b:Bd zs lf)(i:Nat):Bd zs (lf.eraseIdx i) :=
 ⟨b.built,Nodup.sublist (Sublist.append (Sublist.refl _) (List.eraseIdx_sublist lf i)) b.nd,λx hx=>b.rng x ((List.eraseIdx_sublist lf i).mem hx),b.own,b.ok⟩
theorem gU:∀{l:List Int}{i:Nat}{x:Int},l[i]?=some x→(x::l.eraseIdx i).Perm l
 |a::l,0,x,h=>by
  have:a=x:=by simpa using h
  subst this;exact List.Perm.refl _
 |a::l,i+1,x,h=>by
  have h':l[i]?=some x:=by simpa using h
  exact(List.Perm.swap a x _).trans (List.Perm.cons a (gU h'))
 |[],i,x,h=>by simp at h
theorem Bd.add{zs:ZN}{lf:List Int}{i:Nat}{q:Addr}{n:Nd}(b:Bd zs lf)(hi:lf[i]?=some n.num)(hp:n.par∈(0:Int)::TW.aA (nds zs))(ho:∀z∈zs,¬(z.2.par=n.par∧z.2.nm=n.nm))(h3:n.nm="a"∨n.nm="b"∨n.nm="c"∨n.nm="abcde")(h4:n.st=none∨n.st=some 0∨n.st=some 1∨n.st=some 2∨n.st=some 999):Bd (zs++[(q,n)]) (lf.eraseIdx i):=by
 have e:nds (zs++[(q,n)])=nds zs++[n]:=by simp[nds]
 have pm:=gU hi;refine⟨?_,?_,λx hx=>b.rng x ((List.eraseIdx_sublist lf i).mem hx),?_,λz hz=>?_⟩
 ·rw[e];refine .snoc b.built ?_;rcases mem_cons.mp hp with h|h
  ·exact .inl h
  ·exact .inr (TW.fX.mp h)
 ·rw[e,map_append,append_assoc];exact((List.Perm.append_left _ pm).nodup_iff).mpr b.nd
 ·rw[e];unfold TW.cu;rw[map_append,nodup_append];refine⟨b.own,by simp,λx hx y hy=>?_⟩;have ey:y=(n.par,n.nm):=by simpa using hy
  subst ey;obtain⟨m,hm,rfl⟩:=mem_map.mp hx;obtain⟨z,hz,rfl⟩:=mem_map.mp hm;intro h;injection h with h1 h2
  exact ho z hz ⟨h1,h2⟩
 ·rcases mem_append.mp hz with h|h
  ·exact b.ok z h
  ·have ez:z=(q,n):=by simpa using h
   subst ez;have:=b.rng n.num (mem_of_getElem? hi);exact⟨this.1,this.2,h3,h4⟩
def tp(z:Addr×Nd):il:=(z.1,z.2.num,[.int z.2.par,.str z.2.nm,stV z.2.st])
def un(t:il):Addr×Nd:=(t.1,match t.2.2 with
 |[.int p,.str s,.int i]=>⟨t.2.1,p,s,some i⟩
 |[.int p,.str s,_]=>⟨t.2.1,p,s,none⟩
 | _=>⟨0,0,"",none⟩)
theorem rX(z:Addr×Nd):un (tp z)=z:=by
 obtain⟨a,⟨n,p,s,st⟩⟩:=z;cases st<;>rfl
theorem back{zs:ZN}{ts:List il}(h:ts.Perm (zs.map tp)):(ts.map un).Perm zs∧(ts.map un).map tp=ts:=by
 constructor
 ·have:=h.map un;rw[map_map]at this;have e:zs.map (un∘tp)=zs.map id:=map_congr_left λz _=>rX z;rw[e,List.map_id]at this;exact this
 ·rw[map_map,map_congr_left (g:=id)]
  ·simp
  ·intro t ht;obtain⟨z,_,rfl⟩:=mem_map.mp (h.mem_iff.mp ht);show tp (un (tp z))=tp z;rw[rX]
theorem mQ(zs:ZN):((zs.map tp).map (·.1)).map V.ref=aP zs:=by
 unfold aP;simp only[map_map];rfl
theorem tE{n:Nat}{j:Int}(h0:0≤j)(h1:j<n):seqIndex? j n=some j.toNat:=(lZ (by unfold ixN;rw[if_pos h0,if_pos h1])).1
theorem iQ:∀(l:List Int)(i:Nat),(l.map V.int).eraseIdx i=(l.eraseIdx i).map V.int
 |[],i=>by simp
 |a::l,0=>rfl
 |a::l,i+1=>by
  show V.int a::(l.map V.int).eraseIdx i=V.int a::(l.eraseIdx i).map V.int;rw[iQ l i]
theorem ra{ns:List Int}{i:Int}(h0:0≤i)(h1:i<ns.length):∃x∈ns,atI (ns.map V.int) i=some (.int x):=by
 refine⟨ns[i.toNat]'(by omega),getElem_mem _,?_⟩;have:=gk (xs:=ns.map V.int) (j:=i.toNat) (v:=.int (ns[i.toNat]'(by omega))) (by rw[getElem?_map,getElem?_eq_getElem (by omega)];rfl);rw[show((i.toNat:Nat):Int)=i by omega]at this;exact this
theorem rc{j:Int}(h0:0≤j)(h1:j<4):∃x:Str,(x="a"∨x="b"∨x="c"∨x="abcde")∧atI [V.str "a",.str "b",.str "c",.str "abcde"] j=some (.str x):=by
 obtain rfl|rfl|rfl|rfl:j=0∨j=1∨j=2∨j=3:=by omega
 ·exact⟨"a",.inl rfl,rfl⟩
 ·exact⟨"b",.inr (.inl rfl),rfl⟩
 ·exact⟨"c",.inr (.inr (.inl rfl)),rfl⟩
 ·exact⟨"abcde",.inr (.inr (.inr rfl)),rfl⟩
theorem re{j:Int}(h0:0≤j)(h1:j<4):∃i:Int,(some i=none∨some i=some (0:Int)∨some i=some 1∨some i=some 2∨some i=some 999)∧atI [V.int 0,.int 1,.int 2,.int 999] j=some (.int i):=by
 obtain rfl|rfl|rfl|rfl:j=0∨j=1∨j=2∨j=3:=by omega
 ·exact⟨0,.inr (.inl rfl),rfl⟩
 ·exact⟨1,.inr (.inr (.inl rfl)),rfl⟩
 ·exact⟨2,.inr (.inr (.inr (.inl rfl))),rfl⟩
 ·exact⟨999,.inr (.inr (.inr (.inr rfl))),rfl⟩
structure Sta(H:Hp)(pl pf pn:Addr)(Hx:Hp)(lf fs:List Int)(zs:ZN):Prop where
 same:Same H Hx
 l:Hx pl=some (.lst (lf.map V.int))
 f:Hx pf=some (.lst (fs.map V.int))
 n:Hx pn=some (.lst (aP zs))
 nd:At Hx zs
 l0:H pl=none
 f0:H pf=none
 n0:H pn=none
 lf':pl≠pf
 ln':pl≠pn
 fn':pf≠pn
theorem Sta.grow{H Hx Hy:Hp}{pl pf pn:Addr}{lf fs:List Int}{zs:ZN}(a:Sta H pl pf pn Hx lf fs zs)(s:Same Hx Hy):Sta H pl pf pn Hy lf fs zs :=
 ⟨a.same.trans s,s _ _ a.l,s _ _ a.f,s _ _ a.n,a.nd.same s,a.l0,a.f0,a.n0,a.lf',a.ln',a.fn'⟩
theorem At.over{H:Hp}{p:Addr}{xs:List V}{o:HO}{zs:ZN}(h:At H zs)(hp:H p=some (.lst xs)):At (upd H p o) zs:=λz hz=>by
 rw[ah]
 ·exact h z hz
 ·intro e;have:=h z hz;rw[e,hp]at this;cases this
theorem Sta.pop{H Hx:Hp}{pl pf pn:Addr}{lf fs:List Int}{zs:ZN}(a:Sta H pl pf pn Hx lf fs zs)(lf2:List Int):Sta H pl pf pn (upd Hx pl (.lst (lf2.map V.int))) lf2 fs zs :=
 ⟨aD a.l0 a.same,ac,by rw[ah (symm a.lf')];exact a.f,by rw[ah (symm a.ln')];exact a.n,a.nd.over a.l,a.l0,a.f0,a.n0,a.lf',a.ln',a.fn'⟩
theorem Sta.fold{H Hx:Hp}{pl pf pn:Addr}{lf fs:List Int}{zs:ZN}(a:Sta H pl pf pn Hx lf fs zs)(x:Int):Sta H pl pf pn (upd Hx pf (.lst (fs.map V.int++[.int x]))) lf (fs++[x]) zs :=
 ⟨aD a.f0 a.same,by rw[ah a.lf'];exact a.l,by rw[ac];simp,by rw[ah (symm a.fn')];exact a.n,a.nd.over a.f,a.l0,a.f0,a.n0,a.lf',a.ln',a.fn'⟩
theorem Sta.node{H Hx:Hp}{pl pf pn q:Addr}{lf fs:List Int}{zs:ZN}{n:Nd}(a:Sta H pl pf pn Hx lf fs zs)(hq:Hx q=some (.tup (vals n))):Sta H pl pf pn (upd Hx pn (.lst (aP zs++[.ref q]))) lf fs (zs++[(q,n)]) :=
 ⟨aD a.n0 a.same,by rw[ah a.ln'];exact a.l,by rw[ah a.fn'];exact a.f,by rw[ac,iP],(λz hz=>by
  rcases mem_append.mp hz with h|h
  ·exact a.nd.over a.n z h
  ·have ez:z=(q,n):=by simpa using h
   subst ez;rw[ah]
   ·exact hq
   ·intro e;have e':q=pn:=e;rw[e',a.n]at hq;cases hq),a.l0,a.f0,a.n0,a.lf',a.ln',a.fn'⟩
def lf0(m:Int):List Int:=(List.range (m+4-1).toNat).map λk=>(1:Int)+(k:Nat)
theorem rf{m:Int}(h:0≤m):((lf0 m).length:Int)=m+3:=by unfold lf0;rw[length_map,length_range];omega
theorem rg{m:Int}(h:m≤9):∀x∈lf0 m,1≤x∧x≤12:=λx hx=>by
 unfold lf0 at hx;obtain⟨k,hk,rfl⟩:=mem_map.mp hx;have:=mem_range.mp hk;omega
theorem tF(m:Int):(lf0 m).Nodup:=by
 unfold lf0 Nodup;rw[pairwise_map];exact nodup_range.imp λh e=>h (by omega)
theorem Bd.zero{m:Int}(h:m≤9):Bd [] (lf0 m):=⟨.nil,by show(([]:List Int)++lf0 m).Nodup;rw[nil_append];exact tF m,rg h,by unfold TW.cu nds;simp,by simp⟩
def ci(zs:ZN):List (Key×V):=zs.map λz=>((Sum.inl z.2.num:Key),V.ref z.1)
theorem jB{zs:ZN}(hn:((nds zs).map (·.num)).Nodup){z:Addr×Nd}(hz:z∈zs):aT (ci zs) (Sum.inl z.2.num:Key)=some (.ref z.1):=by
 induction zs with
 |nil=>simp at hz
 |cons y zs ih =>
  have hn':y.2.num∉(nds zs).map (·.num)∧((nds zs).map (·.num)).Nodup:=by simpa [nds]using hn
  show aT (((Sum.inl y.2.num:Key),V.ref y.1)::ci zs) _=_;rcases mem_cons.mp hz with e|hz'
  ·subst e;exact aQ rfl
  ·rw[aH]
   ·exact ih hn'.2 hz'
   ·intro e;injection e with e
    exact hn'.1 (mem_map.mpr ⟨z.2,mem_map.mpr ⟨z,hz',rfl⟩,e.symm⟩)
theorem lJ{zs:ZN}{k:Int}(h:∀z∈zs,z.2.num≠k):aT (ci zs) (Sum.inl k:Key)=none:=by
 induction zs with
 |nil=>rfl
 |cons y zs ih =>
  show aT (((Sum.inl y.2.num:Key),V.ref y.1)::ci zs) _=_;rw[aH]
  ·exact ih λz hz=>h z (mem_cons_of_mem _ hz)
  ·intro e;injection e with e
   exact h y (by simp) e
def gW(H:Hp)(d:Addr)(zs:ZN):Prop:=∃o,H d=some (.frz o (.dK (ci zs)))
theorem gW.same{H H':Hp}{d:Addr}{zs:ZN}(h:gW H d zs)(s:Same H H'):gW H' d zs:=let⟨o,e⟩:=h;⟨o,s _ _ e⟩
theorem gW.get{H:Hp}{d:Addr}{zs:ZN}(h:gW H d zs)(hn:((nds zs).map (·.num)).Nodup){z:Addr×Nd}(hz:z∈zs):ji H d (.int z.2.num) (some (.ref z.1)):=by
 obtain⟨o,e⟩:=h;exact .inl ⟨ci zs,Sum.inl z.2.num,.inr ⟨o,e⟩,rfl,(jB hn hz).symm⟩
theorem gW.not{H:Hp}{d:Addr}{zs:ZN}(h:gW H d zs){k:Int}(hk:∀z∈zs,z.2.num≠k):ji H d (.int k) none:=by
 obtain⟨o,e⟩:=h;exact .inl ⟨ci zs,Sum.inl k,.inr ⟨o,e⟩,rfl,(lJ hk).symm⟩
theorem bp{ns:List Nd}(T:TW.Tree1 ns):(ns.map (·.num)).Nodup:=by
 have h:=T.rise;unfold TW.nW at h;unfold Nodup;rw[pairwise_map];exact h.imp λh e=>by omega
theorem rh{ys:List V}{zs:ZN}{H:Hp}{p:Addr}{g:Addr×Nd→List V}(hlen:ys.length=zs.length)(h:∀(i:Nat) y,ys[i]?=some y→∃q z,zs[i]?=some z∧y=.ref q∧q≠p∧H q=some (.tup (g z))):
  ∃as:List (Addr×(Addr×Nd)),as.map (·.2)=zs∧ys=(as.map (·.1)).map V.ref∧∀a∈as,a.1≠p∧H a.1=some (.tup (g a.2)):=by
 induction ys generalizing zs with
 |nil =>
  have:zs=[]:=length_eq_zero_iff.mp hlen.symm;subst this;exact⟨[],rfl,rfl,by simp⟩
 |cons y ys ih =>
  cases zs with
  |nil=>simp at hlen
  |cons z zs =>
   obtain⟨as,e1,e2,e3⟩:=ih (zs:=zs) (by simpa using hlen) λi x hx=>by simpa using h (i+1) x (by simpa using hx)
   obtain⟨q,z',f1,f2,f3,f4⟩:=h 0 y rfl;have:z=z':=by simpa using f1
   subst this;refine⟨(q,z)::as,by simp[e1],by simp[e2,f2],λa ha=>?_⟩;rcases mem_cons.mp ha with rfl|ha
   ·exact⟨f3,f4⟩
   ·exact e3 a ha
theorem ky{κ:Type}[DecidableEq κ]{kvs:List (κ×V)}(hn:(kvs.map (·.1)).Nodup){k:κ}{v:V}(h:(k,v)∈kvs):aT kvs k=some v:=by
 induction kvs with
 |nil=>simp at h
 |cons y kvs ih =>
  have hn':y.1∉kvs.map (·.1)∧(kvs.map (·.1)).Nodup:=by simpa using hn
  rcases mem_cons.mp h with e|h'
  ·subst e;exact aQ rfl
  ·rw[aH]
   ·exact ih hn'.2 h'
   ·intro e;exact hn'.1 (mem_map.mpr ⟨_,h',e.symm⟩)
theorem ri{κ:Type}[DecidableEq κ]{kvs:List (κ×V)}{k:κ}(h:k∉kvs.map (·.1)):aT kvs k=none:=by
 induction kvs with
 |nil=>rfl
 |cons y kvs ih =>
  have h':¬k=y.1∧k∉kvs.map (·.1):=by simpa using h
  rw[aH (λe=>h'.1 e.symm)];exact ih h'.2
theorem mR{zs:ZN}{k:Int}{q:List Str}(T:TW.Tree1 (nds zs))(h:TW.PathTo (nds zs) k q)(hk:k≠0):∃z∈zs,z.2.num=k∧∃q',q=q'++[z.2.nm]∧TW.PathTo (nds zs) z.2.par q':=by
 cases h with
 |top=>exact absurd rfl hk
 |@node n q' hm hq' =>
  obtain⟨z,hz,rfl⟩:=mem_map.mp hm;exact⟨z,hz,rfl,q',rfl,hq'⟩
def eV(P:Program)(w:World)(K:PySem.W.Frag)(mg:Str→Option Value)(base:Heap)(k:Nat)(x:Str)(ps:List Str)(sp:Sp):Prop:=∃f fd,FnOk P w K mg base (CX1 P w) k f fd ps sp∧mg x=some (.ref f)∧keepIn K (.ref f)=true∧cp K fd ps []
structure Tre(H:Hp)(t:Addr)(zs:ZN):Prop where
 tup:H t=some (.tup (aP zs))
 nod:At H zs
 tr:TW.Tree1 (nds zs)
 len:zs.length≤30
theorem Tre.same{H H':Hp}{t:Addr}{zs:ZN}(h:Tre H t zs)(s:Same H H'):Tre H' t zs:=⟨s _ _ h.tup,h.nod.same s,h.tr,h.len⟩
theorem nY{ns:List Nd}(T:TW.Tree1 ns){f:Int}{dn:List Int}{fd:List Nd}(wk:TW.Walk ns f dn fd []):(fd.map (·.num)).Nodup:=by
 have h:=bp T;have:(fd.map (·.num)).Perm ((ns.filter (TW.cZ dn)).map (·.num)):=wk.perm.map _;exact this.nodup_iff.mpr (h.sublist (filter_sublist.map _))
theorem _root_.L2.Same.rd{H H':Hp}(s:Same H H'){a:Addr}{u:HO}(r:Rd H a u):Rd H' a u:=by
 rcases r with r|⟨o,r⟩
 ·exact .inl (s _ _ r)
 ·exact .inr ⟨o,s _ _ r⟩
def bJ(as:List (Addr×(Addr×Nd))):List (Key×V):=as.map λa=>((Sum.inl a.2.2.num:Key),V.ref a.1)
def db(n:Nd):List V:=[.int n.par,.str n.nm,stV n.st]
structure Book(H:Hp)(d:Addr)(as:List (Addr×(Addr×Nd)))(zs:ZN):Prop where
 dict:Rd H d (.dK (bJ as))
 of:as.map (·.2)=zs
 at':∀a∈as,H a.1=some (.tup (db a.2.2))
theorem Book.same{H H':Hp}{d:Addr}{as:List (Addr×(Addr×Nd))}{zs:ZN}(b:Book H d as zs)(s:Same H H'):Book H' d as zs:=⟨s.rd b.dict,b.of,λa ha=>s _ _ (b.at' a ha)⟩
theorem lK{as:List (Addr×(Addr×Nd))}{zs:ZN}(h:as.map (·.2)=zs):(bJ as).map (·.1)=((nds zs).map (·.num)).map (Sum.inl:Int→Key):=by
 rw[←h];unfold bJ nds;simp only[map_map];rfl
theorem pM{as:List (Addr×(Addr×Nd))}{zs:ZN}(h:as.map (·.2)=zs)(hn:((nds zs).map (·.num)).Nodup):((bJ as).map (·.1)).Nodup:=by
 rw[lK h];unfold Nodup at hn⊢;rw[pairwise_map];exact hn.imp λh e=>h (by injection e)
theorem Book.get{H:Hp}{d:Addr}{as:List (Addr×(Addr×Nd))}{zs:ZN}(b:Book H d as zs)(hn:((nds zs).map (·.num)).Nodup){z:Addr×Nd}(hz:z∈zs):∃q,ji H d (.int z.2.num) (some (.ref q))∧H q=some (.tup (db z.2)):=by
 have:z∈as.map (·.2):=by rw[b.of];exact hz
 obtain⟨a,ha,rfl⟩:=mem_map.mp this;refine⟨a.1,.inl ⟨bJ as,Sum.inl a.2.2.num,b.dict,rfl,?_⟩,b.at' a ha⟩;exact(ky (pM b.of hn) (mem_map.mpr ⟨a,ha,rfl⟩)).symm
def lL(ns:List Nd)(k:Int):Nat:=open Classical in if h:∃p,TW.PathTo ns k p then (Classical.choose h).length else 0
theorem mS{ns:List Nd}(T:TW.Tree1 ns){k:Int}{p:List Str}(h:TW.PathTo ns k p):lL ns k=p.length:=by
 unfold lL;have hx:∃p,TW.PathTo ns k p:=⟨p,h⟩;rw[dif_pos hx];rw[(Classical.choose_spec hx).uniq T h]
theorem tG(n:Nd):atI (db n) 0=some (.int n.par):=rfl
theorem rk(n:Nd):atI (db n) 1=some (.str n.nm):=rfl
abbrev uR(x:Str)(mg:Str→Option Value)(base:Heap)(C:Addr):Prop:=PyProof.Rows.OwnCls x C bmV "ValueError.__new__" mg base
theorem ce(zs:ZN):zs.map (λz=>V.ref z.1)=aP zs:=by simp[aP]
theorem gn{zs:ZN}{z:Addr×Nd}(h:z∈zs):z.2∈nds zs:=mem_map.mpr ⟨z,h,rfl⟩
theorem tH{zs:ZN}{n:Nd}(h:n∈nds zs):∃z∈zs,z.2=n:=mem_map.mp h
def mV(bs:List (Addr×Nd)):List (Key×V):=bs.map λb=>((Sum.inl b.2.num:Key),V.ref b.1)
theorem rl(as:List (Addr×(Addr×Nd))):bJ as=mV (as.map λa=>(a.1,a.2.2)):=by
 unfold bJ mV;rw[map_map];rfl
theorem lM(bs:List (Addr×Nd)):(mV bs).map (λp=>kV p.1)=bs.map λb=>V.int b.2.num:=by
 unfold mV;rw[map_map];rfl
theorem pN(n:Nd):atI (db n) 2=some (stV n.st):=rfl
def top(i:Nat):Stmt:=PySem.Challenge.pw_treewatch_k03_whole_found.main.body.getD i (.Pass ⟨0,0,0,0⟩)
abbrev tI:Stmt:=top 6
abbrev tJ:Stmt:=top 7
abbrev tK:Stmt:=top 8
abbrev tL:Stmt:=top 9
abbrev tM:Stmt:=top 10
abbrev tN:Stmt:=top 11
abbrev pO:Stmt:=top 12
abbrev tO:Stmt:=top 13
abbrev rm:Stmt:=top 14
abbrev bA:Stmt:=top 15
abbrev gq:Stmt:=top 17
abbrev cX:Stmt:=top 18
abbrev cN:Stmt:=top 19
abbrev cD:Stmt:=top 20
abbrev dQ:Stmt:=top 21
abbrev bq:Stmt:=top 22
abbrev dR:Stmt:=top 23
abbrev cj:Stmt:=top 24
abbrev pP:Stmt:=top 26
abbrev pQ:Stmt:=top 27
abbrev fu:Stmt:=top 28
abbrev pR:Stmt:=top 29
abbrev lN:Stmt:=top 30
abbrev aW:Stmt:=top 32
structure Txt(mg:Str→Option Value):Prop where
 isin:mg "isinstance"=none
 dict:mg "dict"=none
 len:mg "len"=none
 tuple:mg "tuple"=none
 list:mg "list"=none
 range:mg "range"=none
 sorted:mg "sorted"=none
 reversed:mg "reversed"=none
 ValueError:mg "ValueError"=none
 str:mg "str"=none
 set:mg "set"=none
 max:mg "max"=none
 min:mg "min"=none
 sum:mg "sum"=none
 zip:mg "zip"=none
 enumerate:mg "enumerate"=none
 all:mg "all"=none
 int:mg "int"=none
 bool:mg "bool"=none
 top:∃t,mg "TOP"=some (.int 0 t)
section
variable{P:Program}{w:World}{K:PySem.W.Frag}{mg:Str→Option Value}{base:Heap}
def mX:Sp:=λvs H Q _=>∃t f zs,vs=[.ref t,.int f]∧H t=some (.tup (aP zs))∧At H zs∧zs.length≤100∧∀fd dn l H',TW.Walk (nds zs) f dn fd []→H' l=some (.lst (cM fd))→Same H H'→Q (.ref l) H'
theorem gX:FnScope ["nodes","folder","members","node","found","pending","here"] ["nodes","folder"] (ae tI):=fsc
theorem tP{f:Addr}{fd:FuncData}(F:Fun K "numbers_inside" "numbers_inside" tI f fd)(T:Txt mg):FnOk P w K mg base CX0 1 f fd ["nodes","folder"] mX:=by
 refine F.ok gX (λvs H Q E h=>?_) (λcdv A outer s H vs Q E hr h=>?_)
 ·obtain⟨t,f,zs,rfl,_⟩:=h;rfl
 ·obtain⟨t,f,zs,rfl,ht,hA,hl,k⟩:=h;refine⟨_,aj (aE (i:=2) gX.nd rfl (Or.inl rfl) jU)
   (aj (cR PassesOwn.never rfl (cE (pv 0)) (al (i:=3) gX.nd rfl (Or.inl rfl)) (ak (bV (dG plainAttrs_list PySem.F.slot_list_append PySem.F.type_list_append aU
     (dG plainAttrs_dict PySem.F.slot_dict_setdefault PySem.F.type_dict_setdefault dI (pv 2) (aa (ay av (pv 3) ai (λ_ _=>rfl)) (aa (be ag) ag))) (aa (pv 3) ag)))))
   (aj (aE (i:=4) gX.nd rfl (Or.inl rfl) (be ag))
   (aj (aE (i:=5) gX.nd rfl (Or.inl rfl) (be (aa (pv 1) ag)))
   (aj (gy PassesOwn.never (jM (pv 5) (λ_=>rfl))
    (aj (aE (i:=6) gX.nd rfl (Or.inl rfl) (oU (pv 2) (sG plainAttrs_list slot_list_pop type_list_pop sH (pv 5)) (be ag) ⟨rfl,rfl,rfl,rfl⟩))
    (ak (cR PassesOwn.never rfl (aM (pv 6)) (al (i:=3) gX.nd rfl (Or.inl rfl))
     (aj (bV (dG plainAttrs_list PySem.F.slot_list_append PySem.F.type_list_append aU (pv 4) (aa (ay av (pv 3) ai (λ_ _=>rfl)) ag)))
     (ak (ck (aq jd (ay av (pv 3) ai (λ_ _=>rfl)) cg (aG _)) (ak (bV (dG plainAttrs_list PySem.F.slot_list_append PySem.F.type_list_append aU (pv 5) (aa (ay av (pv 3) ai (λ_ _=>rfl)) ag)))) aX)))))))
   (ak (aK (pv 4))))))),?_⟩
  refine λd hd=>?_;have z100:∀{n:Nat},n≤100→n<sizeLine:=λh=>az (by omega);refine⟨_,rfl,t,rfl,⟨_,SqT.of (ca hd ht)⟩,gg (xs:=aP zs) (λi σ H'=>∃L kvs on,σ=[some (.ref t),some (.int f),some (.ref d),on,none,none,none]∧Mem H H' d L kvs (zs.take i) [])
   ⟨_,_,_,rfl,Mem.start hd⟩ (λi σ H' _ h=>?_) (λi x σ H' hx h=>?_) (λσ H' h=>?_)⟩
  ·obtain⟨_,_,_,_,m⟩:=h;exact SqT.of (m.same _ _ ht)
  ·obtain⟨L,kvs,on,rfl,m⟩:=h;obtain⟨z,gz,rfl⟩:=cw hx;have mz:=mem_of_getElem? gz;have ez:zs.take (i+1)=zs.take i++[z]:=by rw[take_succ,gz];rfl
   have hkl:kvs.length≤100:=by have:=m.len;rw[length_take]at this;omega
   refine⟨_,rfl,.inr (.inr (.inl ⟨rfl,.inl ⟨_,m.dict⟩⟩)),_,rfl,z.1,_,_,_,rfl,rfl,SqT.of (m.same _ _ (hA z mz)),at1 z.2,zero_le _,λq hq=>?_⟩;have m':=m.grow (af (o:=.lst []) hq);refine⟨d,kvs,.inl z.2.par,.ref q,rfl,rfl,m'.dict,z100 hkl,λv hv=>?_,λhn=>?_⟩
   ·rw[m.val]at hv
    by_cases h:z.2.par∈([]:List Int)∨ins (zs.take i) z.2.par=[]
    ·rw[if_pos h]at hv;cases hv
    ·rw[if_neg h]at hv;cases hv;have h2:ins (zs.take i) z.2.par≠[]:=λz=>h (.inr z);have a:=(m'.at' z.2.par (by simp) h2).1;refine⟨.inl ⟨rfl,_,SqL.of a⟩,_,rfl,_,_,_,rfl,rfl,a,?_,?_⟩
     ·refine z100 ?_;rw[bo];exact le_trans (Sublist.length_le (Sublist.trans filter_sublist (take_sublist _ _))) hl
     ·refine⟨L,kvs,_,rfl,?_⟩;rw[ez];exact m'.hit h2
   ·rw[m.val]at hn
    by_cases h:z.2.par∈([]:List Int)∨ins (zs.take i) z.2.par=[]
    ·have h2:ins (zs.take i) z.2.par=[]:=h.resolve_left (by simp);have hqd:q≠d:=λe=>by rw[e,m.dict]at hq;cases hq
     have a:upd (upd H' q (.lst [])) d (.dK (dD kvs (Sum.inl z.2.par:Key) (.ref q))) q=some (.lst []):=by rw[ah hqd];exact ac
     refine⟨.inl ⟨rfl,_,SqL.of a⟩,_,rfl,q,[],_,rfl,rfl,a,z100 (zero_le _),?_⟩;have fr:=m.fresh (z:=z) h2 hq;rw[←ez]at fr;exact⟨_,_,_,rfl,fr⟩
    ·rw[if_neg h]at hn;cases hn
  ·obtain⟨L,kvs,on,rfl,m⟩:=h;rw[bo,take_length]at m;refine⟨zero_le _,λpf hpf=>⟨_,rfl,aV (by simp),λpp hpp=>?_⟩⟩;have m1:=(m.grow (af (o:=.lst []) hpf)).grow (af (o:=.lst [.int f]) hpp);have hpf0:H pf=none:=m.same.free hpf;have hne:pp≠pf:=λe=>by rw[e,ac]at hpp;cases hpp
   have hpp0:H pp=none:=by rw[ah hne]at hpp;exact m.same.free hpp
   dsimp only[aB,qx];refine gC (λσ H'=>∃L kvs dn fd pd on oh,σ=[some (.ref t),some (.int f),some (.ref d),on,some (.ref pf),some (.ref pp),oh]∧pd.length≤fd.length+1∧Mem H H' d L kvs zs dn∧TW.Walk (nds zs) f dn fd pd∧H' pf=some (.lst (cM fd))∧H' pp=some (.lst (pd.map V.int)))
    (λσ H'=>2*(zs.length-eT H' pf)+eT H' pp) ⟨L,kvs,[],[],[f],_,_,rfl,le_refl _,m1,TW.Walk.start _ _,by rw[ah (symm hne),ac];rfl,ac⟩ (λσ H' h=>?_) ?_
   ·obtain⟨L,kvs,dn,fd,pd,on,oh,rfl,hpl,m,wk,ef,ep⟩:=h;refine⟨_,rfl,_,.inl ⟨_,SqL.of ep,rfl⟩,?_⟩
    by_cases hpd:pd=[]
    ·subst hpd;exact bZ ⟨_,rfl,k fd dn pf H' wk ef m.same⟩
    ·obtain⟨pd',x,rfl⟩:∃pd' x,pd=pd'++[x]:=⟨pd.dropLast,pd.getLast hpd,(List.dropLast_concat_getLast hpd).symm⟩;have et:(!((pd'++[x]).map V.int).isEmpty)=true:=by simp
     rw[if_pos et];have elast:((pd'++[x]).map V.int)[((pd'++[x]).map V.int).length-1]?=some (.int x):=by simp
     have edrop:((pd'++[x]).map V.int).dropLast=pd'.map V.int:=by simp
     refine⟨_,rfl,d,rfl,.inl ⟨_,Rd.of m.dict⟩,_,rfl,.inl ⟨rfl,_,SqL.of ep⟩,pp,_,.int x,rfl,rfl,ep,elast,zero_le _,λq hq=>?_⟩;rw[edrop]at hq⊢;have m2:=(m.other (o:=.lst (pd'.map V.int)) ep hpp0).grow (af (o:=.lst []) hq);have hqp:q≠pp:=λe=>by rw[e,ac]at hq;cases hq
     have hqf:q≠pf:=λe=>by rw[e,ah (symm hne),ef]at hq;cases hq
     refine pL m2 ac λhl Hc kvs' hs m3 ehl eh hsub hkeep hnil=>?_;have df:pf≠d:=λe=>by have:=m.dict;rw[←e,ef]at this;cases this
     have dp:pp≠d:=λe=>by have:=m.dict;rw[←e,ep]at this;cases this
     have ef3:Hc pf=some (.lst (cM fd)):=by rw[hkeep pf df,ah (symm hqf),ah (symm hne)];exact ef
     have ep3:Hc pp=some (.lst (pd'.map V.int)):=by rw[hkeep pp dp,ah (symm hqp),ac]
     have hlf:hl≠pf:=by
      by_cases h:hs=[]
      ·rw[hnil h];exact hqf
      ·exact mM ef3 ehl h
     have hlp:hl≠pp:=by
      by_cases h:hs=[]
      ·rw[hnil h];exact hqp
      ·exact mM ep3 ehl h
     have wk':=wk.turn;rw[←eh]at wk';have hlen:=wk'.len;rw[length_append,bd,bd]at hlen;rw[length_append,length_singleton]at hpl;refine⟨_,rfl,hl,rfl,⟨_,SqL.of ehl⟩,gB (xs:=aP hs) (λj σ H'=>∃on,σ=[some (.ref t),some (.int f),some (.ref d),on,some (.ref pf),some (.ref pp),some (.ref hl)]∧Mem H H' d L kvs' zs (x::dn)∧H' hl=some (.lst (aP hs)) ∧
      H' pf=some (.lst (cM (fd++nds (hs.take j))))∧H' pp=some (.lst ((pd'++TW.aA (nds (hs.take j))).map V.int))) ⟨_,rfl,m3,ehl,by rw[ef3];simp[nds],by rw[ep3];simp[nds,TW.aA]⟩
      (λj σ H' _ h=>?_) (λj y σ H' hy h=>?_) (λσ H' h=>?_)⟩
     ·obtain⟨_,_,_,e,_⟩:=h;exact SqL.of e
     ·obtain⟨on,rfl,m4,e1,e2,e3⟩:=h;obtain⟨z,gz,rfl⟩:=cw hy;have mz:=hsub z (mem_of_getElem? gz);have ez:hs.take (j+1)=hs.take j++[z]:=by rw[take_succ,gz];rfl
      have l1:(cM (fd++nds (hs.take j))).length≤100:=by
       unfold cM;rw[length_map,length_map,length_append,bd,length_take];omega
      have l2:((pd'++TW.aA (nds (hs.take j))).map V.int).length≤1000:=by
       have:=TW.cB (nds (hs.take j));rw[bd,length_take]at this;rw[length_map,length_append];omega
      have g0:∀{Hx:Hp},Same H Hx→Hx z.1=some (.tup (vals z.2)):=λs=>s _ _ (hA z mz);have e4:cM (fd++nds (hs.take (j+1)))=cM (fd++nds (hs.take j))++[.int z.2.num]:=by rw[ez];simp[cM,nds]
      have m5:Mem H (upd H' pf (.lst (cM (fd++nds (hs.take j))++[.int z.2.num]))) d L kvs' zs (x::dn):=m4.other e2 hpf0;have e5:(upd H' pf (.lst (cM (fd++nds (hs.take j))++[.int z.2.num]))) hl=some (.lst (aP hs)):=by rw[ah hlf];exact e1
      have e6:(upd H' pf (.lst (cM (fd++nds (hs.take j))++[.int z.2.num]))) pp=some (.lst ((pd'++TW.aA (nds (hs.take j))).map V.int)):=by rw[ah hne];exact e3
      refine⟨_,rfl,.inl ⟨rfl,_,SqL.of e2⟩,_,rfl,z.1,_,_,_,rfl,rfl,SqT.of (g0 m4.same),at0 z.2,pf,_,_,rfl,rfl,e2,z100 l1,?_⟩;refine⟨_,rfl,z.1,_,_,_,rfl,rfl,SqT.of (g0 m5.same),at3 z.2,rfl,_,rfl,?_⟩;cases est:z.2.st with
      |none =>
       have e7:TW.aA (nds (hs.take (j+1)))=TW.aA (nds (hs.take j))++[z.2.num]:=by rw[ez];simp[TW.aA,nds,est]
       refine dM ⟨_,rfl,.inl ⟨rfl,_,SqL.of e6⟩,_,rfl,z.1,_,_,_,rfl,rfl,SqT.of (g0 m5.same),at0 z.2,pp,_,_,rfl,rfl,e6,az l2,?_⟩;refine⟨_,rfl,m5.other e6 hpp0,by rw[ah hlp];exact e5,by rw[ah (symm hne),ac,e4],?_⟩;rw[ac,e7];simp
      |some i =>
       have e7:TW.aA (nds (hs.take (j+1)))=TW.aA (nds (hs.take j)):=by rw[ez];simp[TW.aA,nds,est]
       refine bZ ⟨_,rfl,m5,e5,by rw[ac,e4],?_⟩;rw[e6,e7]
     ·obtain⟨on,rfl,m4,e1,e2,e3⟩:=h;rw[bo,take_length]at e2 e3;refine⟨⟨L,kvs',x::dn,_,_,on,_,rfl,?_,m4,wk',e2,e3⟩,?_⟩
      ·have:=TW.cB (nds hs);rw[bd]at this;rw[length_append,length_append,bd];omega
      show 2*(zs.length-eT H' pf)+eT H' pp<_;rw[cL e2,cL e3,cL ef,cL ep];have:=TW.cB (nds hs);rw[bd]at this;simp only[cM,length_map,length_append,bd,length_singleton];omega
   ·rintro σ H Q Q' mo ⟨v,e,k,tv,q⟩;exact⟨v,e,k,tv,mo _ _ q⟩
def gY:Sp:=λvs H Q _=>∃t zs,vs=[.ref t]∧H t=some (.tup (aP zs))∧At H zs∧zs.length≤100∧((nds zs).map (·.num)).Nodup∧∀d H',Same H H'→gW H' d zs→Q (.ref d) H'
theorem uS:FnScope ["tree"] ["tree"] (ae tJ):=fsc
theorem tQ{f:Addr}{fd:FuncData}(F:Fun K "by_number" "by_number" tJ f fd)(T:Txt mg):FnOk P w K mg base CX0 1 f fd ["tree"] gY:=by
 refine F.ok uS (λvs H Q E h=>?_) (λcdv A outer s H vs Q E hr h=>?_)
 ·obtain⟨t,zs,rfl,_⟩:=h;rfl
 ·obtain⟨t,zs,rfl,ht,hA,hl,hnd,k⟩:=h;refine⟨_,ak (aK (bu (lF rfl) rfl T.dict boot_dict (aa (di (N:=["node"]) (k:=1) (js:=[]) (g:=aB 0) rfl (cF rfl (by decide +kernel) (by decide +kernel) (by decide +kernel)) rfl (λi j x h=>by simp at h)
   (cE (pv 0)) (λs H fp=>al (i:=0) (show(["node"]:List Str).Nodup by decide +kernel) rfl (Or.inl rfl) (Or.inr rfl))
   (λs H fp=>aZ (aa (ay (r:=bw K) av (pv 0) ai (λ_ _=>rfl)) (aa (pv 0) ag)))) ag))),?_⟩
  refine⟨_,rfl,t,rfl,⟨_,SqT.of ht⟩,λp hp=>?_⟩;refine jw (fr:=[]) zs.length (by omega) hp rfl (λi y H'=>∃q z,zs[i]?=some z∧y=.ref q∧q≠p∧H' q=some (.tup [.int z.2.num,.ref z.1])) (λi y H1 H2 h ex=>?_) (λi H' hi s1=>?_) (λH' s1=>?_) ?_ (λi H' x H2 hi s1 hpl hy=>?_) (λys H' s1 hp' hlen hys=>?_)
  ·obtain⟨q,z,e1,e2,e3,e4⟩:=h;exact⟨q,z,e1,e2,e3,ex q _ e3 e4⟩
  ·exact⟨_,_,SqT.of (s1 _ _ ht),eS (getElem?_eq_getElem hi)⟩
  ·exact⟨_,SqT.of (s1 _ _ ht),by rw[bo];exact le_refl _⟩
  ·rintro _ _ _ _ m ⟨v1,b1,p1,xs,i1,v2,c1,c2,c3,c4,v3,b3,hz,q⟩;exact⟨v1,b1,p1,xs,i1,v2,c1,c2,c3,c4,v3,b3,hz,λl hl=>m _ _ (q l hl)⟩
  ·obtain⟨rfl,hx⟩:=hy;obtain⟨z,gz,rfl⟩:=cw (hx _ (SqT.of (s1 _ _ ht)));have mz:=mem_of_getElem? gz;refine⟨rfl,_,rfl,z.1,_,_,_,rfl,rfl,SqT.of (s1 _ _ (hA z mz)),at0 z.2,_,rfl,le2,λq hq=>⟨af hq,q,z,gz,rfl,cG hpl hq,ac⟩⟩
  ·obtain⟨as,e1,e2,e3⟩:=rh (g:=λz=>[.int z.2.num,.ref z.1]) hlen hys;have e4:as.length=zs.length:=by rw[←e1,length_map]
   have e5:(as.map λa=>((Sum.inl a.2.2.num:Key),V.ref a.2.1))=ci zs:=by rw[←e1];unfold ci;rw[map_map];rfl
   refine⟨p,as.map λa=>(a.1,(Sum.inl a.2.2.num:Key),V.ref a.2.1),rfl,?_,?_,?_,?_,λd o hd=>?_⟩
   ·rw[hp',e2,map_map,map_map,map_map];rfl
   ·intro z hz;obtain⟨a,ha,rfl⟩:=mem_map.mp hz;exact(e3 a ha).2
   ·rw[length_map];omega
   ·rw[map_map];have:(as.map ((λx:Addr×Key×V=>x.2.1)∘λa=>(a.1,(Sum.inl a.2.2.num:Key),V.ref a.2.1)))=((nds zs).map (·.num)).map (Sum.inl:Int→Key):=by
     rw[←e1];unfold nds;simp only[map_map];rfl
    rw[this];unfold Nodup at hnd⊢;rw[pairwise_map];exact hnd.imp λh e=>h (by injection e)
   ·refine k d _ (s1.trans (af hd)) ⟨o,?_⟩;rw[ac,map_map];exact congrArg (λx=>some (HO.frz o (.dK x))) e5
abbrev pS(mg:Str→Option Value)(base:Heap)(C:Addr):Prop:=PyProof.Rows.OwnCls "NoNode" C bmV "ValueError.__new__" mg base
def kE(C:Addr):Sp:=λvs H Q E=>∃d k zs,vs=[.ref d,.int k]∧gW H d zs∧((nds zs).map (·.num)).Nodup∧0≤k∧k≤60∧(∀z∈zs,z.2.num=k→Q (.ref z.1) H)∧((∀z∈zs,z.2.num≠k)→E (.ref C) none H)
theorem uT:FnScope ["nodes","number"] ["nodes","number"] (ae tK):=fsc
theorem tR{f C:Addr}{fd:FuncData}(F:Fun K "node_of" "node_of" tK f fd)(O:pS mg base C):FnOk P w K mg base (CX1 P w) 1 f fd ["nodes","number"] (kE C):=by
 refine F.okX uT (λvs H Q E h=>?_) (λcdv A outer s H vs Q E hr h=>?_)
 ·obtain⟨d,k,zs,rfl,_⟩:=h;rfl
 ·obtain⟨d,k,zs,rfl,hd,hnd,h0,h1,q1,q2⟩:=h;refine⟨_,aj (ck (ss (nH (bv hr) (pv 1) (pv 0))) (ak (pA px O hr.hd rfl (uN (pv 1) (by decide +kernel)))) aX) (ak (aK (aS (bv hr) (pv 0) (pv 1) (λ_ _=>rfl)))),?_⟩
  by_cases hk:∀z∈zs,z.2.num≠k
  ·refine⟨_,rfl,_,rfl,d,_,rfl,hd.not hk,_,rfl,?_⟩;exact dM ⟨_,rfl,k,rfl,h0,h1,λy=>⟨aV (show 1≤1000 by decide),q2 hk⟩⟩
  ·obtain⟨z,hz,e⟩:∃z∈zs,z.2.num=k:=by
    by_cases h:∃z∈zs,z.2.num=k
    ·exact h
    ·exact absurd (λz hz e=>h ⟨z,hz,e⟩) hk
   subst e;refine⟨_,rfl,_,rfl,d,_,rfl,hd.get hnd hz,_,rfl,?_⟩;exact bZ ⟨_,rfl,_,rfl,d,_,rfl,hd.get hnd hz,q1 z hz rfl⟩
def iR(C:Addr):Sp:=λvs H Q E=>∃t k zs,vs=[.ref t,.int k]∧Tre H t zs∧0≤k∧k≤60 ∧
 ((k=0∨∃z∈zs,z.2.num=k)→∀(ms:List Int)(l:Addr)(H':Hp),Same H H'→ms.Pairwise (λa b:Int=>a<b)→ms.length≤zs.length→(∀x,x∈ms↔∃n∈nds zs,n.num=x∧TW.Reach (nds zs) k n)→H' l=some (.lst (ms.map V.int))→Q (.ref l) H') ∧
 (k≠0→(∀z∈zs,z.2.num≠k)→∀H',Same H H'→E (.ref C) none H')
theorem uU:FnScope ["tree","number"] ["tree","number"] (ae tO):=fsc
theorem tS{f C:Addr}{fd:FuncData}(F:Fun K "below" "below" tO f fd)(T:Txt mg)(CB:Has P w K mg base 1 "by_number" ["tree"] gY)(CN:eV P w K mg base 1 "node_of" ["nodes","number"] (kE C))(CI:Has P w K mg base 1 "numbers_inside" ["nodes","folder"] mX):
  FnOk P w K mg base (CX1 P w) 2 f fd ["tree","number"] (iR C):=by
 obtain⟨fB,fdB,GB,mB,kB,bB⟩:=CB;obtain⟨fN,fdN,GN,mN,kN,bN⟩:=CN;obtain⟨fI,fdI,GI,mI,kI,bI⟩:=CI;obtain⟨tt,hT⟩:=T.top;refine F.okX uU (λvs H Q E h=>?_) (λcdv A outer s H vs Q E hr h=>?_)
 ·obtain⟨t,k,zs,rfl,_⟩:=h;rfl
 ·obtain⟨t,k,zs,rfl,tr,h0,h1,q1,q2⟩:=h;have hnd:=bp tr.tr;have hl:=tr.len;refine⟨_,aj (ck (aq gE (pv 1) (gf (v:=.int 0) rfl hT ⟨_,rfl⟩) (aG _))
    (ak (bV (am (E:=E) GN hr rfl mN kN bN .nil (rW px) (aa (am GB hr rfl mB kB bB .nil aJ (aa (pv 0) ag)) (aa (pv 1) ag))))) aX)
   (ak (aK (aL ba rfl T.sorted boot_sorted (aa (am GI hr rfl mI kI bI .nil aJ (aa (pv 0) (aa (pv 1) ag))) ag)))),?_⟩
  have main:∀H1,Same H H1→(k=0∨∃z∈zs,z.2.num=k)→uA (tCB (λxs H Q=>∃l,∃ns:List Int,xs=[.ref l]∧H l=some (.lst (ns.map V.int))∧ns.Nodup∧ns.length<64∧∀ms:List Int,ms.Perm ns→ms.Pairwise (λa b=>a<b)→∀p,H p=none→Q (.ref p) (upd H p (.lst (ms.map V.int))))
    (dE (rS mX [] E0 (dE (ie 0) (dE (ie 1) jN))) jN)) {nx:=λ_ H'=>Q .non H',rt:=Q} [some (.ref t),some (.int k)] H1:=by
   intro H1 s1 hk;refine⟨_,rfl,_,rfl,t,k,zs,rfl,s1 _ _ tr.tup,tr.nod.same s1,by omega,λfd dn l H2 wk el s2=>?_⟩;have hfl:=wk.len;rw[bd]at hfl;refine⟨l,fd.map (λn:Nd=>n.num),rfl,(show H2 l=some (.lst ((fd.map λn:Nd=>n.num).map V.int))from el),nY tr.tr wk,by rw[length_map];omega,λms hp hs p hpn=>?_⟩;refine q1 hk ms p _ ((s1.trans s2).trans (af hpn)) hs (by rw[hp.length_eq,length_map];exact hfl) (λx=>?_) ac;rw[hp.mem_iff,mem_map];constructor
   ·rintro⟨n,hn,e⟩;have:=(wk.mem n).mp hn;exact⟨n,this.mem,e,this⟩
   ·rintro⟨n,_,e,hr⟩;exact⟨n,(wk.mem n).mpr hr,e⟩
  refine⟨_,rfl,rfl,_,rfl,?_⟩
  by_cases hk0:k=0
  ·have:decide (V.int k=V.int 0)=true:=by simp[hk0]
   rw[this];exact bZ (main H (Same.refl _) (.inl hk0))
  ·have:decide (V.int k=V.int 0)=false:=by simp[hk0]
   rw[this];refine dM ?_;refine⟨_,rfl,t,zs,rfl,tr.tup,tr.nod,by omega,hnd,λd H1 s1 nd1=>?_⟩;refine⟨_,rfl,d,k,zs,rfl,nd1,hnd,h0,h1,λz hz e=>main H1 s1 (.inr ⟨z,hz,e⟩),λhk=>q2 hk0 hk H1 s1⟩
def jC:Sp:=λvs H Q _=>∃t zs,vs=[.ref t]∧Tre H t zs∧∀d as H',Same H H'→H d=none→Book H' d as zs→H' d=some (.dK (bJ as))→Q (.ref d) H'
theorem tT:FnScope ["_law_tree_here"] ["_law_tree_here"] (ae pR):=fsc
theorem rn{f:Addr}{fd:FuncData}(F:Fun K "_law_book" "_law_book" pR f fd)(T:Txt mg):FnOk P w K mg base CX0 1 f fd ["_law_tree_here"] jC:=by
 refine F.ok tT (λvs H Q E h=>?_) (λcdv A outer s H vs Q E hr h=>?_)
 ·obtain⟨t,zs,rfl,_⟩:=h;rfl
 ·obtain⟨t,zs,rfl,tr,k⟩:=h;have hnd:=bp tr.tr;have hl:=tr.len;have ht:=tr.tup;have hA:=tr.nod;refine⟨_,ak (aK (bu (kr rfl) rfl T.dict boot_dict (aa (di (N:=["_law_node"]) (k:=1) (js:=[]) (g:=aB 0) rfl (cF rfl (by decide +kernel) (by decide +kernel) (by decide +kernel)) rfl (λi j x h=>by simp at h)
   (cE (pv 0)) (λs H fp=>al (i:=0) (show(["_law_node"]:List Str).Nodup by decide +kernel) rfl (Or.inl rfl) (Or.inr rfl))
   (λs H fp=>aZ (aa (ay (r:=bw K) av (pv 0) ai (λ_ _=>rfl)) (aa (jP (r:=sF K) oM (pv 0) (jf ai) qB) ag)))) ag))),?_⟩
  refine⟨_,rfl,t,rfl,⟨_,SqT.of ht⟩,λp hp=>?_⟩;refine jw (fr:=[]) zs.length (by omega) hp rfl (λi y H'=>∃q t' z,zs[i]?=some z∧y=.ref q∧q≠p∧t'≠p∧H' q=some (.tup [.int z.2.num,.ref t'])∧H' t'=some (.tup (db z.2))) (λi y H1 H2 h ex=>?_) (λi H' hi s1=>?_) (λH' s1=>?_) ?_ (λi H' x H2 hi s1 hpl hy=>?_) (λys H' s1 hp' hlen hys=>?_)
  ·obtain⟨q,t',z,e1,e2,e3,e4,e5,e6⟩:=h;exact⟨q,t',z,e1,e2,e3,e4,ex q _ e3 e5,ex t' _ e4 e6⟩
  ·exact⟨_,_,SqT.of (s1 _ _ ht),eS (getElem?_eq_getElem hi)⟩
  ·exact⟨_,SqT.of (s1 _ _ ht),by rw[bo];exact le_refl _⟩
  ·rintro _ _ _ _ m ⟨v1,b1,p1,xs,i1,v2,c1,c2,c3,c4,v3,b3,i3,d0,a3,xs3,d1,d2,d3,q⟩;refine⟨v1,b1,p1,xs,i1,v2,c1,c2,c3,c4,v3,b3,i3,d0,a3,xs3,d1,d2,d3,λl hl=>?_⟩;obtain⟨hz',q'⟩:=q l hl;exact⟨hz',λl' hl'=>m _ _ (q' l' hl')⟩
  ·obtain⟨rfl,hx⟩:=hy;obtain⟨z,gz,rfl⟩:=cw (hx _ (SqT.of (s1 _ _ ht)));have mz:=mem_of_getElem? gz;have hz1:=s1 _ _ (hA z mz);have ecut:nE (vals z.2) (some 1) none=db z.2:=rfl;refine⟨rfl,_,rfl,z.1,_,_,_,rfl,rfl,SqT.of hz1,at0 z.2,_,rfl,_,rfl,z.1,_,rfl,SqT.of hz1,(by intro h;exact absurd h.1 (show ¬HT.sIx 4 0 (some 1)=0 by decide)),λt' ht'=>?_⟩;rw[ecut];have s2:=af (o:=.tup (db z.2)) ht';have hpl2:∃ys,upd H2 t' (.tup (db z.2)) p=some (.lst ys):=let⟨ys,e⟩:=hpl;⟨ys,s2 _ _ e⟩;refine⟨le2,λq hq=>⟨s2.trans (af hq),q,t',z,gz,rfl,cG hpl2 hq,cG hpl ht',ac,ca hq ac⟩⟩
  ·obtain⟨as,e1,e2,e3⟩:∃as:List ((Addr×Addr)×(Addr×Nd)),as.map (·.2)=zs∧ys=(as.map (·.1.1)).map V.ref∧∀a∈as,H' a.1.1=some (.tup [.int a.2.2.num,.ref a.1.2])∧H' a.1.2=some (.tup (db a.2.2)):=by
    clear hp';have main:∀(ys:List V)(xs:ZN),ys.length=xs.length→(∀(i:Nat) y,ys[i]?=some y→∃q t' z,xs[i]?=some z∧y=.ref q∧q≠p∧t'≠p∧H' q=some (.tup [.int z.2.num,.ref t'])∧H' t'=some (.tup (db z.2))) →
      ∃as:List ((Addr×Addr)×(Addr×Nd)),as.map (·.2)=xs∧ys=(as.map (·.1.1)).map V.ref∧∀a∈as,H' a.1.1=some (.tup [.int a.2.2.num,.ref a.1.2])∧H' a.1.2=some (.tup (db a.2.2)):=by
     intro ys
     induction ys with
     |nil =>
      intro xs hl _;have:xs=[]:=length_eq_zero_iff.mp hl.symm;subst this;exact⟨[],rfl,rfl,by simp⟩
     |cons y ys ih =>
      intro xs hl h;cases xs with
      |nil=>simp at hl
      |cons x xs =>
       obtain⟨as,e1,e2,e3⟩:=ih xs (by simpa using hl) λi y hy=>by simpa using h (i+1) y (by simpa using hy)
       obtain⟨q,t',z,f1,f2,f3,f4,f5,f6⟩:=h 0 y rfl;have:x=z:=by simpa using f1
       subst this;refine⟨((q,t'),x)::as,by simp[e1],by simp[e2,f2],λa ha=>?_⟩;rcases mem_cons.mp ha with rfl|ha
       ·exact⟨f5,f6⟩
       ·exact e3 a ha
    exact main ys zs hlen hys
   have hal:as.length=zs.length:=by rw[←e1,length_map]
   refine⟨p,as.map λa=>(a.1.1,(Sum.inl a.2.2.num:Key),V.ref a.1.2),rfl,?_,?_,?_,?_,λd hd=>?_⟩
   ·rw[hp',e2,map_map,map_map,map_map];rfl
   ·intro z hz;obtain⟨a,ha,rfl⟩:=mem_map.mp hz;exact(e3 a ha).1
   ·rw[length_map];omega
   ·rw[map_map];have:(as.map ((λx:Addr×Key×V=>x.2.1)∘λa=>(a.1.1,(Sum.inl a.2.2.num:Key),V.ref a.1.2)))=((nds zs).map (·.num)).map (Sum.inl:Int→Key):=by
     rw[←e1];unfold nds;simp only[map_map];rfl
    rw[this];unfold Nodup at hnd⊢;rw[pairwise_map];exact hnd.imp λh e=>h (by injection e)
   ·have sd:=af (o:=.dK ((as.map λa=>(a.1.1,(Sum.inl a.2.2.num:Key),V.ref a.1.2)).map (·.2))) hd;have ed:upd H' d (.dK ((as.map λa=>(a.1.1,(Sum.inl a.2.2.num:Key),V.ref a.1.2)).map (·.2))) d=some (.dK (bJ (as.map λa=>(a.1.2,a.2)))):=by
     rw[ac];refine congrArg (λx=>some (HO.dK x)) ?_;unfold bJ;simp only[map_map];rfl
    refine k d (as.map λa=>(a.1.2,a.2)) _ (s1.trans sd) (s1.free hd) ⟨.inl ed,by rw[map_map];exact e1,λa ha=>?_⟩ ed;obtain⟨b,hb,rfl⟩:=mem_map.mp ha;exact sd _ _ (e3 b hb).2
end
def bX(zs:ZN):List (List Key×V):=zs.map λz=>(plK z.2,V.int z.2.num)
theorem eW(zs:ZN):(bX zs).map (·.1)=(nds zs).map plK:=by unfold bX nds;rw[map_map,map_map];rfl
def mZ(ns:List Nd)(p:List Str)(a:V):Prop:=(∃k,a=.int k∧TW.PathTo ns k p)∨(a=.non∧∀k,¬TW.PathTo ns k p)
section
variable{P:Program}{w:World}{K:PySem.W.Frag}{mg:Str→Option Value}{base:Heap}
def na:Sp:=λvs H Q _=>∃d k zs p,vs=[.ref d,.int k]∧gW H d zs∧At H zs∧TW.Tree1 (nds zs)∧zs.length≤100∧TW.PathTo (nds zs) k p∧∀t H',Same H H'→H' t=some (.tup (p.map V.str))→Q (.ref t) H'
theorem nb:FnScope ["nodes","number","names","at"] ["nodes","number"] (ae tM):=fsc
theorem tU{f:Addr}{fd:FuncData}(F:Fun K "path_up" "path_up" tM f fd)(T:Txt mg):FnOk P w K mg base CX0 1 f fd ["nodes","number"] na:=by
 obtain⟨tt,hT⟩:=T.top;refine F.ok nb (λvs H Q E h=>?_) (λcdv A outer s H vs Q E hr h=>?_)
 ·obtain⟨d,k,zs,p,rfl,_⟩:=h;rfl
 ·obtain⟨d,k,zs,p,rfl,hd,hA,hTr,hl,hp,q⟩:=h;have hnd:=bp hTr;have hpl:p.length≤100:=by have:=hp.len hTr;rw[bd]at this;omega
  refine⟨_,aj (aE (i:=2) nb.nd rfl (Or.inl rfl) (be ag)) (aj (aE (i:=3) nb.nd rfl (Or.inl rfl) (pv 1))
   (aj (gy PassesOwn.never (aq gE (pv 3) (gf (v:=.int 0) rfl hT ⟨_,rfl⟩) (aG _))
    (aj (bV (dG plainAttrs_list PySem.F.slot_list_append PySem.F.type_list_append aU (pv 2) (aa (ay av (aS (bv hr) (pv 0) (pv 3) (λ_ _=>rfl)) ai (λ_ _=>rfl)) ag)))
    (ak (aE (i:=3) nb.nd rfl (Or.inl rfl) (ay av (aS (bv hr) (pv 0) (pv 3) (λ_ _=>rfl)) ai (λ_ _=>rfl))))))
   (ak (aK (nT rfl rfl T.tuple rfl T.reversed (pv 2)))))),?_⟩
  refine⟨zero_le _,λpn hpn=>⟨_,rfl,?_⟩⟩;dsimp only[aB,qx];refine gC (λσ H'=>∃at' q' r,σ=[some (.ref d),some (.int k),some (.ref pn),some (.int at')]∧TW.PathTo (nds zs) at' q'∧p=q'++r∧H' pn=some (.lst (r.reverse.map V.str))∧Same H H')
   (λσ H'=>p.length-eT H' pn) ⟨k,p,[],rfl,hp,by simp,ac,af hpn⟩ (λσ H' h=>?_) ?_
  ·obtain⟨at',q',r,rfl,hq',ep,en,s1⟩:=h;refine⟨_,rfl,rfl,_,rfl,?_⟩
   by_cases h0:at'=0
   ·subst h0;have e0:q'=[]:=hq'.zero hTr rfl;subst e0;refine bZ ⟨_,rfl,pn,_,rfl,en,λt ht=>q t _ (s1.trans (af ht)) ?_⟩;rw[ac,ep,nil_append,←List.map_reverse,List.reverse_reverse]
   ·have hne:decide (V.int at'=V.int 0)=false:=by simp[h0]
    rw[hne];refine dM ?_;obtain⟨z,hz,e1,q'',e2,hq''⟩:=mR hTr hq' h0;subst e1;have hdz:=(hd.same s1).get hnd hz;have hat:=s1 _ _ (hA z hz);have hrl:r.length<100:=by
     have:=congrArg length ep;rw[e2]at this;simp at this;omega
    refine⟨_,rfl,.inl ⟨rfl,_,SqL.of en⟩,_,rfl,_,rfl,d,_,rfl,hdz,z.1,_,_,_,rfl,rfl,SqT.of hat,at2 z.2,pn,_,_,rfl,rfl,en,az (by rw[length_map,List.length_reverse];omega),?_⟩;have hpnd:pn≠d:=λe=>by
     obtain⟨o,e'⟩:=hd.same s1;rw[←e,en]at e';cases e'
    have hpnz:z.1≠pn:=λe=>by rw[e,en]at hat;cases hat
    have s2:Same H (upd H' pn (.lst (r.reverse.map V.str++[.str z.2.nm]))):=aD hpn s1;refine⟨_,rfl,_,rfl,d,_,rfl,(hd.same s2).get hnd hz,z.1,_,_,_,rfl,rfl,SqT.of (s2 _ _ (hA z hz)),at1 z.2,?_⟩;refine⟨⟨z.2.par,q'',z.2.nm::r,rfl,hq'',by rw[ep,e2];simp,by rw[ac];simp,s2⟩,?_⟩;show p.length-eT _ pn<p.length-eT H' pn;rw[cL ac,cL en,ep,e2];simp;omega
  ·rintro σ H1 Q1 Q2 m ⟨v,e,h2,b,e3,q⟩;exact⟨v,e,h2,b,e3,m _ _ q⟩
def gZ(C:Addr):Sp:=λvs H Q E=>∃t k zs,vs=[.ref t,.int k]∧Tre H t zs∧0≤k∧k≤60∧(∀z∈zs,z.2.num=k→∀p,TW.PathTo (nds zs) k p→∀t' H',Same H H'→H' t'=some (.tup (p.map V.str))→Q (.ref t') H') ∧
 ((∀z∈zs,z.2.num≠k)→∀H',Same H H'→E (.ref C) none H')
theorem rY:FnScope ["tree","number","nodes"] ["tree","number"] (ae tN):=fsc
theorem tV{f C:Addr}{fd:FuncData}(F:Fun K "path_of" "path_of" tN f fd)(CB:Has P w K mg base 1 "by_number" ["tree"] gY)(CN:eV P w K mg base 1 "node_of" ["nodes","number"] (kE C))(CU:Has P w K mg base 1 "path_up" ["nodes","number"] na):
  FnOk P w K mg base (CX1 P w) 2 f fd ["tree","number"] (gZ C):=by
 obtain⟨fB,fdB,GB,mB,kB,bB⟩:=CB;obtain⟨fN,fdN,GN,mN,kN,bN⟩:=CN;obtain⟨fU,fdU,GU,mU,kU,bU⟩:=CU;refine F.okX rY (λvs H Q E h=>?_) (λcdv A outer s H vs Q E hr h=>?_)
 ·obtain⟨t,k,zs,rfl,_⟩:=h;rfl
 ·obtain⟨t,k,zs,rfl,tr,h0,h1,q1,q2⟩:=h;have hnd:=bp tr.tr;have hl:=tr.len;refine⟨_,aj (aE (i:=2) rY.nd rfl (Or.inl rfl) (am GB hr rfl mB kB bB .nil aJ (aa (pv 0) ag)))
   (aj (bV (am (E:=E) GN hr rfl mN kN bN .nil (rW px) (aa (pv 2) (aa (pv 1) ag))))
   (ak (aK (am GU hr rfl mU kU bU .nil aJ (aa (pv 2) (aa (pv 1) ag)))))),?_⟩
  refine⟨_,rfl,t,zs,rfl,tr.tup,tr.nod,by omega,hnd,λd H1 s1 nd1=>?_⟩;refine⟨_,rfl,_,rfl,d,k,zs,rfl,nd1,hnd,h0,h1,λz hz e=>?_,λhk=>q2 hk H1 s1⟩;subst e;obtain⟨p,hp⟩:=TW.PathTo.ex tr.tr (mem_map.mpr ⟨z,hz,rfl⟩:z.2∈nds zs);refine⟨_,rfl,_,rfl,d,_,zs,p,rfl,nd1,tr.nod.same s1,tr.tr,by omega,hp,λt' H2 s2 ht'=>q1 z hz rfl p hp t' H2 (s1.trans s2) ht'⟩
def fw:Sp:=λvs H Q _=>∃t tp zs p,vs=[.ref t,.ref tp]∧Tre H t zs∧H tp=some (.tup (p.map V.str))∧p.length≤100∧∀a H',Same H H'→mZ (nds zs) p a→Q a H'
theorem hJ:FnScope ["tree","path","places","at","name"] ["tree","path"] (ae pO):=fsc
theorem ro{f:Addr}{fd:FuncData}(F:Fun K "find" "find" pO f fd)(T:Txt mg):FnOk P w K mg base CX0 1 f fd ["tree","path"] fw:=by
 obtain⟨tt,hT⟩:=T.top;refine F.ok hJ (λvs H Q E h=>?_) (λcdv A outer s H vs Q E hr h=>?_)
 ·obtain⟨t,tp,zs,p,rfl,_⟩:=h;rfl
 ·obtain⟨t,tp,zs,pa,rfl,tr,htp,hpl,q⟩:=h;have hnd:=bp tr.tr;have hl:=tr.len;have ht:=tr.tup;have hA:=tr.nod;refine⟨_,aj (aE (i:=2) hJ.nd rfl (Or.inl rfl) (bu (lG rfl (cW hr)) rfl T.dict boot_dict (aa (di (N:=["node"]) (k:=1) (js:=[]) (g:=aB 0) rfl (cF rfl (by decide +kernel) (by decide +kernel) (by decide +kernel)) rfl (λi j x h=>by simp at h)
    (cE (pv 0)) (λs H fp=>al (i:=0) (show(["node"]:List Str).Nodup by decide +kernel) rfl (Or.inl rfl) (Or.inr rfl))
    (λs H fp=>aZ (aa (aZ (aa (ay (r:=bw K) av (pv 0) ai (λ_ _=>rfl)) (aa (ay (r:=bw K) av (pv 0) ai (λ_ _=>rfl)) ag))) (aa (ay (r:=bw K) av (pv 0) ai (λ_ _=>rfl)) ag)))) ag)))
   (aj (aE (i:=3) hJ.nd rfl (Or.inl rfl) (gf (v:=.int 0) rfl hT ⟨_,rfl⟩))
   (aj (cR PassesOwn.never rfl (cE (pv 1)) (al (i:=4) hJ.nd rfl (Or.inl rfl))
    (ak (aE (i:=3) hJ.nd rfl (Or.inl rfl) (pJ (cW hr) (pv 2) (aZ (aa (pv 3) (aa (pv 4) ag))) ⟨rfl,rfl,rfl,rfl⟩))))
   (ak (aK (pv 3))))),?_⟩
  refine⟨_,rfl,t,rfl,⟨_,SqT.of ht⟩,λp hp=>?_⟩;refine jw (fr:=[]) zs.length (by omega) hp rfl (λi y H'=>∃q t' z,zs[i]?=some z∧y=.ref q∧q≠p∧t'≠p∧H' q=some (.tup [.ref t',.int z.2.num])∧H' t'=some (.tup ((plK z.2).map kV))) (λi y H1 H2 h ex=>?_) (λi H' hi s1=>?_) (λH' s1=>?_) ?_ (λi H' x H2 hi s1 hpl hy=>?_) (λys H' s1 hp' hlen hys=>?_)
  ·obtain⟨q,t',z,e1,e2,e3,e4,e5,e6⟩:=h;exact⟨q,t',z,e1,e2,e3,e4,ex q _ e3 e5,ex t' _ e4 e6⟩
  ·exact⟨_,_,SqT.of (s1 _ _ ht),eS (getElem?_eq_getElem hi)⟩
  ·exact⟨_,SqT.of (s1 _ _ ht),by rw[bo];exact le_refl _⟩
  ·rintro _ _ _ _ m ⟨v1,b1,p1,xs,i1,v2,c1,c2,c3,c4,v3,b3,p3,xs3,i3,v4,d1,d2,d3,d4,hz,q⟩;refine⟨v1,b1,p1,xs,i1,v2,c1,c2,c3,c4,v3,b3,p3,xs3,i3,v4,d1,d2,d3,d4,hz,λl hl=>?_⟩;obtain⟨v5,b5,p5,xs5,i5,v6,f1,f2,f3,f4,hz',q'⟩:=q l hl;exact⟨v5,b5,p5,xs5,i5,v6,f1,f2,f3,f4,hz',λl' hl'=>m _ _ (q' l' hl')⟩
  ·obtain⟨rfl,hx⟩:=hy;obtain⟨z,gz,rfl⟩:=cw (hx _ (SqT.of (s1 _ _ ht)));have mz:=mem_of_getElem? gz;have hz1:=s1 _ _ (hA z mz);refine⟨rfl,_,rfl,z.1,_,_,_,rfl,rfl,SqT.of hz1,at1 z.2,_,rfl,z.1,_,_,_,rfl,rfl,SqT.of hz1,at2 z.2,le2,λt' ht'=>?_⟩;have s2:=af (o:=.tup [.int z.2.par,.str z.2.nm]) ht';have hpl2:∃ys,upd H2 t' (.tup [.int z.2.par,.str z.2.nm]) p=some (.lst ys):=let⟨ys,e⟩:=hpl;⟨ys,s2 _ _ e⟩;refine⟨_,rfl,z.1,_,_,_,rfl,rfl,SqT.of (s2 _ _ hz1),at0 z.2,le2,λq hq=>⟨s2.trans (af hq),q,t',z,gz,rfl,cG hpl2 hq,cG hpl ht',ac,ca hq ac⟩⟩
  ·
   obtain⟨as,e1,e2,e3⟩:∃as:List ((Addr×Addr)×(Addr×Nd)),as.map (·.2)=zs∧ys=(as.map (·.1.1)).map V.ref∧∀a∈as,H' a.1.1=some (.tup [.ref a.1.2,.int a.2.2.num])∧H' a.1.2=some (.tup ((plK a.2.2).map kV)):=by
    clear hp';have main:∀(ys:List V)(xs:ZN),ys.length=xs.length→(∀(i:Nat) y,ys[i]?=some y→∃q t' z,xs[i]?=some z∧y=.ref q∧q≠p∧t'≠p∧H' q=some (.tup [.ref t',.int z.2.num])∧H' t'=some (.tup ((plK z.2).map kV))) →
      ∃as:List ((Addr×Addr)×(Addr×Nd)),as.map (·.2)=xs∧ys=(as.map (·.1.1)).map V.ref∧∀a∈as,H' a.1.1=some (.tup [.ref a.1.2,.int a.2.2.num])∧H' a.1.2=some (.tup ((plK a.2.2).map kV)):=by
     intro ys
     induction ys with
     |nil =>
      intro xs hl _;have:xs=[]:=length_eq_zero_iff.mp hl.symm;subst this;exact⟨[],rfl,rfl,by simp⟩
     |cons y ys ih =>
      intro xs hl h;cases xs with
      |nil=>simp at hl
      |cons x xs =>
       obtain⟨as,e1,e2,e3⟩:=ih xs (by simpa using hl) λi y hy=>by simpa using h (i+1) y (by simpa using hy)
       obtain⟨q,t',z,f1,f2,f3,f4,f5,f6⟩:=h 0 y rfl;have:x=z:=by simpa using f1
       subst this;refine⟨((q,t'),x)::as,by simp[e1],by simp[e2,f2],λa ha=>?_⟩;rcases mem_cons.mp ha with rfl|ha
       ·exact⟨f5,f6⟩
       ·exact e3 a ha
    exact main ys zs hlen hys
   have hal:as.length=zs.length:=by rw[←e1,length_map]
   refine⟨p,as.map λa=>(a.1.1,(a.1.2,plK a.2.2),V.int a.2.2.num),rfl,?_,?_,?_,?_,λd o hd=>?_⟩
   ·rw[hp',e2,map_map,map_map,map_map];rfl
   ·intro z hz;obtain⟨a,ha,rfl⟩:=mem_map.mp hz;exact e3 a ha
   ·rw[length_map];omega
   ·rw[map_map];have:(as.map ((λx:Addr×(Addr×List Key)×V=>x.2.1.2)∘λa=>(a.1.1,(a.1.2,plK a.2.2),V.int a.2.2.num)))=(nds zs).map plK:=by
     rw[←e1];unfold nds;simp only[map_map];rfl
    rw[this,iO];exact tr.tr.own
   ·have ek:(List.map (λz:Addr×(Addr×List Key)×V=>(z.2.1.2,z.2.2)) (as.map λa=>(a.1.1,(a.1.2,plK a.2.2),V.int a.2.2.num)))=bX zs:=by
     rw[←e1];unfold bX;simp only[map_map];rfl
    rw[ek];have sd:=s1.trans (af (o:=.frz o (.dT (bX zs))) hd);have hkn:((bX zs).map (·.1)).Nodup:=by rw[eW,iO];exact tr.tr.own
    generalize hG:upd H' d (.frz o (.dT (bX zs)))=G at sd⊢;have hGd:G d=some (.frz o (.dT (bX zs))):=by rw[←hG];exact ac
    refine⟨_,rfl,tp,rfl,⟨_,SqT.of (sd _ _ htp)⟩,gg (xs:=pa.map V.str) (λi σ H2=>∃a on,σ=[some (.ref t),some (.ref tp),some (.ref d),some a,on]∧mZ (nds zs) (pa.take i) a∧Same G H2)
     ⟨.int 0,_,rfl,.inl ⟨0,rfl,.top⟩,Same.refl _⟩ (λi σ H2 _ h=>?_) (λi x σ H2 hx h=>?_) (λσ H2 h=>?_)⟩
    ·obtain⟨_,_,_,_,s2⟩:=h;exact SqT.of ((sd.trans s2) _ _ htp)
    ·obtain⟨a,on,rfl,hf,s2⟩:=h;rw[getElem?_map]at hx;cases hpi:pa[i]? with
     |none=>rw[hpi]at hx;cases hx
     |some y =>
      rw[hpi]at hx;cases hx;have et:pa.take (i+1)=pa.take i++[y]:=bR hpi;have hd2:=s2 _ _ hGd;refine⟨_,rfl,d,o,_,rfl,hd2,_,rfl,_,rfl,le2,λq hq=>?_⟩;have s3:=af (o:=.tup [a,.str y]) hq;refine⟨s3 _ _ hd2,?_⟩;rcases hf with⟨k,rfl,hk⟩|⟨rfl,hno⟩
      ·refine .inl ⟨[.inl k,.inr y],q,rfl,ac,⟨_,_,rfl,?_,s2.trans s3⟩⟩;rw[et]
       by_cases hz:∃z∈zs,z.2.par=k∧z.2.nm=y
       ·obtain⟨z,hz,rfl,rfl⟩:=hz;have:aT (bX zs) [.inl z.2.par,.inr z.2.nm]=some (.int z.2.num):=ky hkn (mem_map.mpr ⟨z,hz,rfl⟩);rw[this];exact .inl ⟨_,rfl,.node (mem_map.mpr ⟨z,hz,rfl⟩) hk⟩
       ·have:aT (bX zs) [.inl k,.inr y]=none:=ri λhm=>by
         rw[eW]at hm;obtain⟨n,hn,e⟩:=mem_map.mp hm;obtain⟨z,hz',rfl⟩:=mem_map.mp hn;unfold plK at e;injection e with e1 e2
         injection e2 with e2 _
         injection e1 with e1
         injection e2 with e2
         exact hz ⟨z,hz',e1,e2⟩
        rw[this];refine .inr ⟨rfl,λj hj=>hz ?_⟩;obtain⟨n,hn,_,e2,e3⟩:=hk.down tr.tr hj;obtain⟨z,hz',rfl⟩:=mem_map.mp hn;exact⟨z,hz',e2,e3⟩
      ·refine .inr ⟨q,y,rfl,ac,⟨_,_,rfl,?_,s2.trans s3⟩⟩;rw[et];exact .inr ⟨rfl,λj hj=>let⟨k,hk⟩:=hj.prefix;hno k hk⟩
    ·obtain⟨a,on,rfl,hf,s2⟩:=h;rw[length_map,take_length]at hf;exact⟨_,rfl,q a H2 (sd.trans s2) hf⟩
def lO:Sp:=λvs H Q _=>∃d k as zs p,vs=[.ref d,.int k]∧Book H d as zs∧TW.Tree1 (nds zs)∧zs.length≤30∧TW.PathTo (nds zs) k p∧∀t H',Same H H'→H' t=some (.tup (p.map V.str))→Q (.ref t) H'
theorem rp:FnScope ["_law_book_here","_law_number","_law_names"] ["_law_book_here","_law_number"] (ae lN):=fsc
theorem uV{f:Addr}{fd:FuncData}(F:Fun K "_law_path" "_law_path" lN f fd)(T:Txt mg):FnOk P w K mg base CX0 1 f fd ["_law_book_here","_law_number"] lO:=by
 refine F.ok rp (λvs H Q E h=>?_) (λcdv A outer s H vs Q E hr h=>?_)
 ·obtain⟨d,k,as,zs,p,rfl,_⟩:=h;rfl
 ·obtain⟨d,k,as,zs,p,rfl,bk,hTr,hl,hp,q⟩:=h;have hnd:=bp hTr;refine⟨_,aj (aE (i:=2) rp.nd rfl (Or.inl rfl) (be ag))
   (aj (gy PassesOwn.never (aq gE (pv 1) ai (aG _))
    (aj (aE (i:=2) rp.nd rfl (Or.inl rfl) (aN jg (be (aa (ay av (aS (bv hr) (pv 0) (pv 1) (λ_ _=>rfl)) ai (λ_ _=>rfl)) ag)) (pv 2)))
    (ak (aE (i:=1) rp.nd rfl (Or.inl rfl) (ay av (aS (bv hr) (pv 0) (pv 1) (λ_ _=>rfl)) ai (λ_ _=>rfl))))))
   (ak (aK (bu dF rfl T.tuple rfl (aa (pv 2) ag))))),?_⟩
  refine⟨zero_le _,λpn hpn=>?_⟩;dsimp only[aB,qx];refine gC (λσ H'=>∃at' q' r pn,σ=[some (.ref d),some (.int at'),some (.ref pn)]∧TW.PathTo (nds zs) at' q'∧p=q'++r∧H' pn=some (.lst (r.map V.str))∧Same H H')
   (λσ H'=>match σ with | [_,some (.int k),_]=>lL (nds zs) k | _=>0) ⟨k,p,[],pn,rfl,hp,by simp,ac,af hpn⟩ (λσ H' h=>?_) ?_
  ·obtain⟨at',q',r,pn,rfl,hq',ep,en,s1⟩:=h;refine⟨_,rfl,rfl,_,rfl,?_⟩
   by_cases h0:at'=0
   ·subst h0;have e0:q'=[]:=hq'.zero hTr rfl;subst e0;refine bZ ⟨_,rfl,pn,_,rfl,.inl ⟨SqL.of en,λt ht=>q t _ (s1.trans (af ht)) ?_⟩⟩;rw[ac,ep,nil_append]
   ·have hne:decide (V.int at'=V.int 0)=false:=by simp[h0]
    rw[hne];refine dM ?_;obtain⟨z,hz,e1,q'',e2,hq''⟩:=mR hTr hq' h0;subst e1;obtain⟨b,hb1,hb2⟩:=(bk.same s1).get hnd hz;have hrl:r.length≤100:=by
     have h1:=hp.len hTr;have h2:=congrArg length ep;rw[bd]at h1;rw[length_append]at h2;omega
    refine⟨_,rfl,_,rfl,d,_,rfl,hb1,b,_,_,_,rfl,rfl,SqT.of hb2,rk z.2,aV (show 1≤1000 by decide),λl1 hl1=>?_⟩;have s2:=af (o:=.lst [.str z.2.nm]) hl1;refine⟨_,rfl,l1,pn,_,_,rfl,rfl,ac,s2 _ _ en,aV (by simp;omega),λl2 hl2=>?_⟩;have s3:=s2.trans (af (o:=.lst ([.str z.2.nm]++r.map V.str)) hl2);obtain⟨b',hb1',hb2'⟩:=(bk.same (s1.trans s3)).get hnd hz;refine⟨_,rfl,_,rfl,d,_,rfl,hb1',b',_,_,_,rfl,rfl,SqT.of hb2',tG z.2,?_⟩;refine⟨⟨z.2.par,q'',z.2.nm::r,l2,rfl,hq'',by rw[ep,e2];simp,ac,s1.trans s3⟩,?_⟩;show lL (nds zs) z.2.par<lL (nds zs) z.2.num;rw[mS hTr hq'',mS hTr hq',e2];simp
  ·rintro σ H1 Q1 Q2 m ⟨v,e,h2,b,e3,q⟩;exact⟨v,e,h2,b,e3,m _ _ q⟩
end
end TK
namespace TB
open PySem PySem.SetTable
theorem nZ{t:SetTable}{l:List Nat}(T:Tb t l)(mk:Mk t.mask)(hl:l.length≤t.mask)(h:Int):∃j,t.freeSlot h=some (j,false)∧j∉l∧j≤t.mask:=by
 obtain⟨j₀,hj₀,hj₀'⟩:=lA t.mask l hl;obtain⟨n₀,hn₀,en₀⟩:=cover mk.cyc h hj₀;obtain⟨N,hNle,hN,hNno⟩:=oY (λm=>pos t.mask h m∉l) n₀ (by rw[en₀];exact hj₀');have hp:=kc t (λ_=>h+1) h N (st t.mask h) (10*turns t.mask) (by omega) (λm hm=>by
  have hin:pos t.mask h m∈l:=by
   by_cases z:pos t.mask h m∈l
   ·exact z
   ·exact(hNno m hm z).elim
  obtain⟨i,hi,e⟩:=mem_iff_getElem.mp hin;exact⟨i,qJ T (by show l[i]?=some (pos t.mask h m);rw[getElem?_eq_getElem hi,e]),by rw[beq_eq_false_iff_ne];omega⟩) (oZ T hN)
 refine⟨pos t.mask h N,?_,hN,gL _ _ _⟩;unfold SetTable.freeSlot;have hp':t.probe (λ_=>h+1) h (t.probeStart h)=some (.empty (pos t.mask h N) none):=hp;rw[hp'];rfl
theorem rq{t:SetTable}{l:List Nat}(T:Tb t l)(mk:Mk t.mask)(hl:l.length+1≤t.mask)(es:Array (Int×Value))(hes:es.size=l.length)(h:Int)(x:Value):
  ∃p t' l',layNew t es h x=(insertAt es p (h,x),t',false,false)∧Tb t' l'∧l'.length=l.length+1∧t'.mask=t.mask∧t'.plain=t.plain∧t'.led=t.led:=by
 obtain⟨j,hf,hj,hjm⟩:=nZ T mk (by omega) h;obtain⟨T1,hp1,hm1⟩:=sW T hj hjm;have hlen:(l.take (below l.toArray j)++j::l.drop (below l.toArray j)).length=l.length+1:=by
  rw[length_append,length_cons,length_take,length_drop];have:=(bQ T.up j).1;omega
 have hsz:(insertAt es (t.put j).2 (h,x)).size=l.length+1:=by
  rw[←length_toList,SetTable.toList_insertAt,length_append,length_cons,length_take,length_drop,length_toList,hes,hp1];have:=(bQ T.up j).1;omega
 have hfit:(t.put j).1.fits (insertAt es (t.put j).2 (h,x)).size=true:=jl T1 (by rw[hlen,hsz]) (by rw[hsz,hm1];exact hl);refine⟨(t.put j).2,(t.put j).1,_,?_,T1,hlen,hm1,rfl,rfl⟩;unfold layNew;rw[hf];show(insertAt es (t.put j).2 (h,x),(t.put j).1.orStandIn (insertAt es (t.put j).2 (h,x)).size,false,!((t.put j).1.fits (insertAt es (t.put j).2 (h,x)).size))=_;rw[hfit];unfold SetTable.orStandIn;rw[if_pos hfit];rfl
theorem oa{t:SetTable}(es:Array (Int×Value))(h0:0<es.size)(h60:es.size≤60):
  ∃es' t' l',relayAll t es (grown es.size)=(es',t',false)∧es'.toList.Perm es.toList∧Tb t' l'∧l'.length=es.size∧Mk t'.mask∧es.size*5<t'.mask*3∧t'.plain=t.plain∧t'.led=t.led:=by
 have hw:grown es.size=es.size*4:=by unfold SetTable.grown;rw[if_neg (by omega)]
 obtain⟨hmk,hle,h256⟩:=oX (w:=es.size*4) (by omega);rw[hw];obtain⟨t',zs,e,hm,hled,hpl,T,hperm,_⟩:=nN (t:=t) (hashes:=es.map (·.1)) (wanted:=es.size*4) hmk.cyc (by rw[size_map];omega);rw[size_map]at hperm;have hlen:zs.length=es.size:=by
  have:=hperm.length_eq;rw[length_map,length_range]at this;exact this
 have hp:(((zs.map (·.2)).toArray).filterMap (λi=>es[i]?)).toList.Perm es.toList:=by
  rw[Array.toList_filterMap];exact(hperm.filterMap _).trans (by rw[filterMap_getElem?_range])
 have hsz:(((zs.map (·.2)).toArray).filterMap (λi=>es[i]?)).size=es.size:=by
  rw[←length_toList,hp.length_eq,length_toList]
 have hfit:t'.fits (((zs.map (·.2)).toArray).filterMap (λi=>es[i]?)).size=true:=jl T (by rw[hsz,length_map,hlen]) (by rw[hsz,hm];omega);have hcov:coversAll (zs.map (·.2)).toArray es.size=true:=by
  unfold coversAll;exact List.isPerm_iff.mpr hperm
 refine⟨((zs.map (·.2)).toArray).filterMap (λi=>es[i]?),t',zs.map (·.1),?_,hp,T,by rw[length_map,hlen],by rw[hm];exact hmk,by rw[hm];omega,hpl,hled⟩;unfold relayAll;rw[e];dsimp only;rw[hcov,hfit];rfl
def bt(w:World):Bool:=w.params.followText "set-order"
def fz(tk:Int→Tok)(n:Int):Int×Value:=(hashInt n,.int n (tk n))
structure ISt(w:World)(es:Array (Int×Value))(t:SetTable)(ns:List Int):Prop where
 ent:∃tk,es.toList=ns.map (fz tk)
 nd:ns.Nodup
 tb:∃l,Tb t l∧l.length=ns.length
 mkm:Mk t.mask
 room:ns.length*5<t.mask*3
 pl:t.plain=true
 led:bt w=false→t.led=true
def IS(w:World)(h:Heap)(a:Addr)(ns:List Int):Prop:=∃o es ep t,h.get? a=some o∧o.ExactSet∧o.data=.set es ep t∧ISt w es t ns
theorem ISt.size{w:World}{es:Array (Int×Value)}{t:SetTable}{ns:List Int}(h:ISt w es t ns):es.size=ns.length:=by
 obtain⟨tk,e⟩:=h.ent;rw[←length_toList,e,length_map]
theorem ISt.fits{w:World}{es:Array (Int×Value)}{t:SetTable}{ns:List Int}(h:ISt w es t ns):t.fits es.size=true:=by
 obtain⟨l,T,hl⟩:=h.tb;have:=h.mkm.ge;have:=h.room;exact jl T (by rw[hl,h.size]) (by rw[h.size];omega)
theorem ISt.elems{prog:Program}{w:World}{es:Array (Int×Value)}{t:SetTable}{ns:List Int}(h:ISt w es t ns):ElemsOf (intKind prog w) es.toList:=by
 obtain⟨tk,e⟩:=h.ent;rw[e];intro z hz;obtain⟨n,hn,rfl⟩:=mem_map.mp hz;exact⟨⟨n,intKind_is _ _ _ _,rfl⟩,rfl⟩
theorem fA{es':List (Int×Value)}:∀{l:List (Int×Value)},es'.Perm l→∀{tk:Int→Tok}{ns:List Int},l=ns.map (fz tk)→∃ns':List Int,ns'.Perm ns∧es'=ns'.map (fz tk):=by
 intro l p tk ns e;have hall:∀z∈es',∃n,z=fz tk n:=λz hz=>by
  have:=p.mem_iff.mp hz;rw[e]at this;obtain⟨n,hn,e⟩:=mem_map.mp this;exact⟨n,e.symm⟩
 obtain⟨ns',e'⟩:∃ns':List Int,es'=ns'.map (fz tk):=by
  clear p e
  induction es' with
  |nil=>exact⟨[],rfl⟩
  |cons z es' ih =>
   obtain⟨n,hn⟩:=hall z mem_cons_self;obtain⟨ns',e⟩:=ih λy hy=>hall y (mem_cons_of_mem _ hy);exact⟨n::ns',by rw[hn,e];rfl⟩
 refine⟨ns',?_,e'⟩;have hv:∀m:List Int,(m.map (fz tk)).map (λz=>match z.2 with | .int n _=>n | _=>0)=m:=λm=>by
  rw[map_map]
  induction m with
  |nil=>rfl
  |cons x m ih=>rw[map_cons,ih];rfl
 have:=p.map (λz=>match z.2 with | .int n _=>n | _=>0);rw[e',e,hv,hv]at this;exact this
theorem pT{tk:Int→Tok}{ns:List Int}{n:Int}{t:Tok}(hn:n∉ns):∃tk',(fz tk' n=(hashInt n,Value.int n t))∧ns.map (fz tk')=ns.map (fz tk):=by
 refine⟨λm=>if m=n then t else tk m,by show(hashInt n,Value.int n (if n=n then t else tk n))=_;rw[if_pos rfl],?_⟩
 apply map_congr_left;intro m hm;show(hashInt m,Value.int m (if m=n then t else tk m))=_;rw[if_neg (by rintro rfl;exact hn hm)];rfl
section
variable{prog:Program}{w:World}{A:Around}{E:Value→Shared→Prop}{s:Shared}
theorem add_int{a:Addr}{ns:List Int}{n:Int}{t0:Tok}{Q:Bool→Shared→Prop}(hS:IS w s.heap a ns)(hroom:ns.length<60)(h:∀r h' ns',SameBut a s.heap h'→IS w h' a ns'→((n∈ns∧ns'=ns)∨(n∉ns∧ns'.Perm (n::ns)))→Q r {s with heap:=h'}):
  wpAny (model prog w) A (setAddHashed a (.int n t0) (hashInt n)) Q E s:=by
 obtain⟨o,es,ep,t,ho,hex,hd,S⟩:=id hS;have hsz:=S.size;have hf:=S.fits;have hel:ElemsOf (intKind prog w) es.toList:=S.elems;have hkey:(intKind prog w).is n (.int n t0)=true:=intKind_is _ _ _ _;have hb:es.size<scanBound:=by unfold scanBound;omega
 have hge:=S.mkm.ge;have hrm:=S.room;unfold setAddHashed setAddHashedIn;refine wpAny_holding (wpAny_bind (wpAny_setState_of ho hd hf ?_));dsimp only;rw[byScan_of (knd:=intKind prog w) (x:=.int n t0) rfl hb hel];simp only[↓reduceIte];unfold setAddByScan;refine wpAny_bind ?_;refine wpAny_bind (wpAny_rule ?_);refine wpAny_bind (wpAny_setScan_of (knd:=intKind prog w) (k:=n) hkey ho hd hf hel ?_);obtain⟨tk,hent⟩:=S.ent;cases hr:List.findIdx? (λe=>(intKind prog w).is n e.2) es.toList with
 |some j =>
  dsimp only;obtain⟨hj,hpj,_⟩:=List.findIdx?_eq_some_iff_getElem.mp hr;have hin:n∈ns:=by
   have hm:es.toList[j]∈es.toList:=getElem_mem hj;generalize es.toList[j]=z at hm hpj;rw[hent]at hm;obtain⟨m,hm1,rfl⟩:=mem_map.mp hm;have:=(intKind prog w).inj _ n m hpj (intKind_is _ _ _ _);rw[this];exact hm1
  refine wpAny_pure (wpAny_pure ?_);have e:s={s with heap:=s.heap}:=by cases s;rfl
  have:=h false s.heap ns (SameBut.refl a s.heap) hS (.inl ⟨hin,rfl⟩);rw[e];exact this
 |none =>
  dsimp only;have hnin:n∉ns:=λhin=>by
   have:=List.findIdx?_eq_none_iff.mp hr (fz tk n) (by rw[hent];exact mem_map.mpr ⟨n,hin,rfl⟩);have h2:(intKind prog w).is n (fz tk n).2=true:=intKind_is _ _ _ _;rw[h2]at this;cases this
  obtain⟨l,T,hl⟩:=S.tb;obtain⟨p,t1,l1,e1,T1,hl1,hm1,hp1,hled1⟩:=rq T S.mkm (by omega) es (by omega) (hashInt n) (.int n t0);rw[e1];dsimp only;obtain⟨tk',htk1,htk2⟩:=pT (tk:=tk) (t:=t0) hnin;obtain⟨ns1,hns1,hes1⟩:=fA (es':=(insertAt es p (hashInt n,Value.int n t0)).toList) (l:=(n::ns).map (fz tk')) (tk:=tk') (ns:=n::ns) (by
   refine(SetTable.insertAt_perm es p _).trans ?_;rw[toList_push,hent,←htk2,map_cons,htk1];exact List.perm_append_singleton _ _) rfl
  have hn1:ns1.length=ns.length+1:=by rw[hns1.length_eq,length_cons]
  have hnd1:ns1.Nodup:=hns1.nodup_iff.mpr (nodup_cons.mpr ⟨hnin,S.nd⟩);have hsz1:(insertAt es p (hashInt n,Value.int n t0)).size=ns1.length:=by rw[←length_toList,hes1,length_map]
  refine wpAny_bind (wpAny_pure ?_);rw[hp1,S.pl];simp only[if_true];refine wpAny_bind ?_;rw[hashByValue_scannable 8 (x:=.int n t0) rfl];refine wpAny_pure ?_;simp only[plainKind,if_true];refine wpAny_bind (wpAny_storeSet_of ho hd ?_ (by rw[hsz1];exact pg (by omega)));have ho1:=stored ho hd (insertAt es p (hashInt n,Value.int n t0)) t1;have hsb1:=SameBut.update s.heap a (Obj.putSet (insertAt es p (hashInt n,Value.int n t0)) t1);have hfill:t1.fill=ns1.length:=by rw[mr T1,hl1,hl,hn1]
  by_cases hfull:t1.tooFull=true
  ·rw[hfull];simp only[Bool.not_false,Bool.and_self,if_true];obtain⟨es2,t2,l2,e2,p2,T2,hl2,hmk2,hrm2,hp2,hled2⟩:=oa (t:=t1) (insertAt es p (hashInt n,Value.int n t0)) (by omega) (by omega);rw[e2];dsimp only;obtain⟨ns2,hns2,hes2⟩:=fA p2 hes1;have hn2:ns2.length=ns1.length:=hns2.length_eq;have hsz2:es2.size=ns2.length:=by rw[←length_toList,hes2,length_map]
   refine wpAny_bind (wpAny_pure ?_);refine wpAny_bind (wpAny_storeSet_of ho1 rfl ?_ (by rw[hsz2];exact pg (by omega)));have ho2:=stored (s:={s with heap:=s.heap.update a (Obj.putSet (insertAt es p (hashInt n,Value.int n t0)) t1)}) ho1 rfl es2 t2
   refine wpAny_pure (wpAny_pure (h true _ ns2 (hsb1.trans (SameBut.update _ a _)) ⟨_,es2,_,t2,ho2,hex,rfl,⟨⟨tk',hes2⟩,hns2.nodup_iff.mpr hnd1,⟨l2,T2,by omega⟩,hmk2,by rw[hn2,←hsz1];exact hrm2,by rw[hp2,hp1];exact S.pl,λz=>by rw[hled2,hled1];exact S.led z⟩⟩ (.inr ⟨hnin,hns2.trans hns1⟩)))
  ·have hnf:t1.tooFull=false:=by simpa using hfull
   rw[hnf];simp only[Bool.and_false,false_eq_true,if_false];refine wpAny_pure (wpAny_pure (h true _ ns1 hsb1 ⟨_,_,_,t1,ho1,hex,rfl,⟨⟨tk',hes1⟩,hnd1,⟨l1,T1,by omega⟩,by rw[hm1];exact S.mkm,?_,by rw[hp1];exact S.pl,λz=>by rw[hled1];exact S.led z⟩⟩ (.inr ⟨hnin,hns1⟩)));unfold SetTable.tooFull at hnf;rw[decide_eq_false_iff_not,hfill]at hnf;omega
end
theorem hO:entryFor table "set.__iter__"=some Builtin.«frozenset.__iter__» :=
 entryFor_alias (id':="frozenset.__iter__") (by kernel_rfl) rfl (by decide +kernel) (by kernel_rfl)
theorem bi:Slot "set_iterator" "__next__" "set_iterator.__next__" :=
 .of (owner:="set_iterator") (n:="__next__") (by rw[typeLookup_type,builtinLookup_eq_fast];kernel_rfl) (by decide +kernel) (by decide +kernel) (by decide +kernel)
  (by first|exact .inl (by decide +kernel)|exact .inr (by decide +kernel)) (by rw[isSubtype_type];kernel_rfl)
theorem eX:Slot "set_iterator" "__iter__" "set_iterator.__iter__" :=
 .of (owner:="set_iterator") (n:="__iter__") (by rw[typeLookup_type,builtinLookup_eq_fast];kernel_rfl) (by decide +kernel) (by decide +kernel) (by decide +kernel)
  (by first|exact .inl (by decide +kernel)|exact .inr (by decide +kernel)) (by rw[isSubtype_type];kernel_rfl)
theorem dL:entryFor table "set_iterator.__next__"=some Builtin.«set_iterator.__next__»:=entryFor_of_tree (by kernel_rfl)
theorem kG:Manifest.owners.lookup (String.ofList ['r','o','t','a','r','e','t','i','_','t','e','s'].reverse)=some Manifest.sig_set_iterator:=by kernel_rfl
theorem eY(a:Value):argsOk "set_iterator.__next__" ⟨[a],[]⟩:=by
 unfold argsOk;rw[signature?_of (id:="set_iterator.__next__") (n:=['_','_','t','x','e','n','_','_']) (o:=['r','o','t','a','r','e','t','i','_','t','e','s']) (by kernel_rfl) kG];kernel_rfl
theorem jD(a:Value):argsOk "set_iterator.__iter__" ⟨[a],[]⟩:=by
 unfold argsOk;rw[signature?_of (id:="set_iterator.__iter__") (n:=['_','_','r','e','t','i','_','_']) (o:=['r','o','t','a','r','e','t','i','_','t','e','s']) (by kernel_rfl) kG];kernel_rfl
theorem iq:∃b,entryFor table "set_iterator.__iter__"=some b∧b=Builtin.«dict_keyiterator.__iter__» :=
 ⟨_,entryFor_alias (id':="dict_keyiterator.__iter__") (by kernel_rfl) rfl (by decide +kernel) (by kernel_rfl),rfl⟩
theorem iS{α:Type}(next:Nat→Nat):∀(fuel k:Nat)(left:List α)(out:Array α),left.length=fuel→(pickOrder.go next fuel k left out).toList.Perm (out.toList++left)
 |0,k,left,out,h=>by
  have:left=[]:=length_eq_zero_iff.mp h;subst this;rw[append_nil];exact .rfl
 |fuel+1,k,left,out,h=>by
  unfold pickOrder.go;have hlt:next k % left.length<left.length:=mod_lt _ (by omega);rw[getElem?_eq_getElem hlt];dsimp only;refine(iS next fuel (k+1) _ _ (by rw[List.length_eraseIdx,if_pos hlt];omega)).trans ?_;rw[toList_push,append_assoc];refine List.Perm.append_left _ ?_;rw[List.singleton_append];rw[List.eraseIdx_eq_take_drop_succ];refine List.perm_middle.symm.trans ?_;rw[List.getElem_cons_drop,List.take_append_drop]
def eZ(w:World)(a:Addr)(ep:Nat)(es:Array (Int×Value)):Array (Int×Value):=if bt w then pickOrder (w.params.setOrder a ep) es else es
theorem kH(w:World)(a:Addr)(ep:Nat)(es:Array (Int×Value)):(eZ w a ep es).toList.Perm es.toList:=by
 unfold eZ
 split
 ·exact iS _ _ _ _ _ rfl
 ·exact .rfl
theorem kJ(w:World)(a:Addr)(ep:Nat)(es:Array (Int×Value)):(eZ w a ep es).size=es.size:=by
 rw[←length_toList,(kH w a ep es).length_eq,length_toList]
def lP(w:World)(t:SetTable)(h:Heap)(I a:Addr)(n ep i:Nat):Prop :=
 ∃o slot,h.get? I=some o∧o.cls=.type "set_iterator"∧o.data=.fields #[.int (slot:Nat) 0,.int (i:Nat) 0,.ref a,.int (n:Nat) 0,.int (ep:Nat) 0]∧(bt w=false→below t.place slot=i)
theorem lP.typeIs{w:World}{t:SetTable}{s:Shared}{I a:Addr}{n ep i:Nat}(x:lP w t s.heap I a n ep i):s.TypeIs (.ref I) "set_iterator":=let⟨o,_,ho,hc,_⟩:=x;⟨o,ho,hc⟩
section
variable{prog:Program}{w:World}{A:Around}{E:Value→Shared→Prop}{s:Shared}
theorem iT{es:Array (Int×Value)}{t:SetTable}{ns:List Int}(S:ISt w es t ns):(!t.plain&&decide (es.size>1))=false:=by rw[S.pl];rfl
theorem pU{a:Addr}{o:Obj}{es:Array (Int×Value)}{ep:Nat}{t:SetTable}{ns:List Int}{Q:Value→Shared→Prop}(S:ISt w es t ns)(ho:s.heap.get? a=some o)(hex:o.ExactSet)(hd:o.data=.set es ep t)(hQ:Q (.ref s.heap.objs.size) {s with heap:=s.heap.push {cls:=.type "set_iterator",data:=.fields #[.int 0 0,.int 0 0,.ref a,.int es.size 0,.int ep 0]}}):wpAny (model prog w) A (pyIter (.ref a)) Q E s:=by
 have hT:s.TypeIs (.ref a) "set":=⟨o,ho,hex.1⟩;refine wpAny_pyIter_slot hT F.slot_set_iter (wpAny_call_entry F.slot_set_iter hT hO ?_ (F.args_set_iter_1 _));unfold Builtin.«frozenset.__iter__» Builtin.Frozenset.slot0;refine wpAny_bind ?_;show wpAny _ _ (pure a) _ _ s;refine wpAny_pure ?_;unfold Builtin.Frozenset.sizeOf;refine wpAny_bind (wpAny_bind (wpAny_setEntries_of ho hd S.fits (wpAny_pure ?_)));refine wpAny_bind ?_;unfold setDrawn;refine wpAny_bind (wpAny_setState_of ho hd S.fits ?_);unfold setsByText;refine wpAny_bind (wpAny_bind (wpAny_askSetting (wpAny_pure ?_)));refine wpAny_pure ?_;have hdr:(!(model prog w).w.params.followText "set-order"&&(!t.plain&&decide (es.size>1)))=false:=by rw[iT S,Bool.and_false]
 show wpAny _ _ (if (!(model prog w).w.params.followText "set-order"&&(!t.plain&&decide (es.size>1)))=true then _ else _) _ _ _
 rw[hdr];simp only[false_eq_true,if_false];refine wpAny_bind (wpAny_pure ?_);refine wpAny_bind (wpAny_setEpoch_of ho hd S.fits ?_);refine wpAny_bind (wpAny_newObj_type (wpAny_pure ⟨_,rfl,"set_iterator",_,⟨_,get?_push_size _ rfl,rfl⟩,bi.lookup,?_⟩));simpa [rawInt]using hQ
theorem kM{a:Addr}{o:Obj}{es:Array (Int×Value)}{ep slot i:Nat}{t:SetTable}{ns:List Int}{Q:Option (Value×Nat)→Shared→Prop}(S:ISt w es t ns)(ho:s.heap.get? a=some o)(hd:o.data=.set es ep t)(hs:bt w=false→below t.place slot=i)(h1:∀v slot',(eZ w a ep es)[i]?.map (·.2)=some v→(bt w=false→below t.place slot'=i+1)→Q (some (v,slot')) s)(h2:(eZ w a ep es)[i]?=none→Q none s):wpAny (model prog w) A (setNext a slot i ep) Q E s:=by
 unfold setNext;refine wpAny_bind (wpAny_setState_of ho hd S.fits ?_);unfold setsByText;refine wpAny_bind (wpAny_bind (wpAny_askSetting (wpAny_pure ?_)));show wpAny _ _ (if bt w=true then _ else _) _ _ _;cases hb:bt w with
 |true =>
  simp only[if_true,bne_self_eq_false,false_eq_true,if_false];refine wpAny_bind ?_;unfold setWalk;refine wpAny_bind (wpAny_setState_of ho hd S.fits ?_);unfold setsByText;refine wpAny_bind (wpAny_bind (wpAny_askSetting (wpAny_pure ?_)));show wpAny _ _ (if bt w=true then _ else _) _ _ _;rw[hb];simp only[if_true];refine wpAny_bind (wpAny_askSetting (wpAny_pure ?_));have e:eZ w a ep es=pickOrder (w.params.setOrder a ep) es:=by unfold eZ;rw[hb];rfl
  rw[e]at h1 h2;show wpAny _ _ (pure (((pickOrder (w.params.setOrder a ep) es)[i]?).map λe=>(e.2,slot))) _ _ _;cases hx:(pickOrder (w.params.setOrder a ep) es)[i]? with
  |none=>exact wpAny_pure (h2 hx)
  |some x=>exact wpAny_pure (h1 x.2 slot (by rw[hx];rfl) (λz=>absurd (hb.symm.trans z) (by decide)))
 |false =>
  simp only[false_eq_true,if_false];have e:eZ w a ep es=es:=by unfold eZ;rw[hb];rfl
  rw[e]at h1 h2;show wpAny _ _ (if (!t.plain&&decide (es.size>1))=true then _ else _) _ _ _
  rw[iT S];simp only[false_eq_true,if_false];refine wpAny_bind ?_;show wpAny _ _ (if (!t.led && !es.isEmpty)=true then _ else _) _ _ _
  rw[S.led hb];simp only[Bool.not_true,Bool.false_and,false_eq_true,if_false];refine wpAny_pure ?_;have hsl:=hs hb;obtain⟨l,T,hl⟩:=S.tb;have hlen:l.length=es.size:=by rw[hl,S.size]
  rw[hsl]
  by_cases hi:i<es.size
  ·have e1:es[i]?=some es[i]:=Array.getElem?_eq_getElem hi;have e2:t.place[i]?=some (l[i]'(by omega)):=by rw[T.pl,List.getElem?_toArray,getElem?_eq_getElem (by omega)]
   rw[e1,e2];refine wpAny_pure (h1 _ _ (by rw[e1];rfl) λ_=>?_);obtain⟨b1,b2,b3⟩:=bQ T.up (l[i]'(by omega)+1);rw[T.pl];rcases Nat.lt_trichotomy (below l.toArray (l[i]'(by omega)+1)) (i+1)with z|z|z
   ·have:=b3 i (by omega) (by omega);omega
   ·exact z
   ·have hi2:i+1<l.length:=by omega
    have q1:=b2 (i+1) hi2 z;have q2:=pairwise_iff_getElem.mp T.up i (i+1) (by omega) hi2 (by omega);omega
  ·have e1:es[i]?=none:=Array.getElem?_eq_none (by omega);rw[e1];exact wpAny_pure (h2 e1)
theorem rA{I a:Addr}{o:Obj}{es:Array (Int×Value)}{ep i:Nat}{t:SetTable}{ns:List Int}{Q:Option Value→Shared→Prop}(S:ISt w es t ns)(hi:i<es.size)(hit:lP w t s.heap I a es.size ep i)(ho:s.heap.get? a=some o)(hd:o.data=.set es ep t)(hne:a≠I)(hQ:∀v h',(eZ w a ep es)[i]?.map (·.2)=some v→lP w t h' I a es.size ep (i+1)→SameBut I s.heap h'→Q (some v) {s with heap:=h'}):wpAny (model prog w) A (pyNext (.ref I)) Q E s:=by
 obtain⟨oi,slot,hoi,hci,hdi,hsl⟩:=id hit;unfold pyNext;refine wpAny_bind (wpAny_attempt (wpAny_callSpecial?_slot (name:=ofString "__next__") hit.typeIs bi
  (wpAny_call_entry bi hit.typeIs dL ?_ (eY _))))
 unfold Builtin.«set_iterator.__next__»;refine wpAny_bind (wpAny_pure ?_);refine wpAny_bind (wpAny_fieldsOf hoi hdi ?_);dsimp only;refine wpAny_bind (wpAny_setEntries_of ho hd S.fits ?_);rw[if_neg (by simp)];show wpAny _ _ (setNext a (toNat (slot:Int)) (toNat (i:Int)) (toNat (ep:Int)) >>= _) _ _ _;rw[toNat_natCast,toNat_natCast,toNat_natCast];refine wpAny_bind (kM S ho hd hsl (λv slot' hv hs'=>?_) λhn=>?_)
 ·dsimp only;refine wpAny_bind (wpAny_setField hoi hdi (by simp) ?_);have h1:(s.heap.update I (Obj.mapFields (·.setIfInBounds 0 (rawInt (slot':Nat))))).get? I=some _:=get?_update_self _ hoi (Obj.isFreed_of_fields (Obj.data_mapFields hdi _));refine wpAny_bind (wpAny_setField h1 (Obj.data_mapFields hdi _) (by simp) ?_);have h2:=get?_update_self (Obj.mapFields (·.setIfInBounds 1 (rawInt ((i:Int)+1)))) h1 (Obj.isFreed_of_fields (Obj.data_mapFields (Obj.data_mapFields hdi _) _));refine wpAny_pure ⟨_,rfl,wpAny_pure (hQ v _ hv ⟨_,slot',h2,?_,?_,hs'⟩ ((SameBut.update ..).trans (SameBut.update ..)))⟩
  ·rw[Obj.cls_mapFields,Obj.cls_mapFields];exact hci
  ·rw[Obj.data_mapFields (Obj.data_mapFields hdi _)];simp[rawInt]
 ·exfalso
  rw[Array.getElem?_eq_none_iff,kJ]at hn;omega
theorem tW{I a:Addr}{o:Obj}{es:Array (Int×Value)}{ep:Nat}{t:SetTable}{ns:List Int}{Q:Option Value→Shared→Prop}(hh:A.handled=none)(S:ISt w es t ns)(hit:lP w t s.heap I a es.size ep es.size)(ho:s.heap.get? a=some o)(hd:o.data=.set es ep t)(hQ:∀h',ExtBut I s.heap h'→Q none {s with heap:=h'}):wpAny (model prog w) A (pyNext (.ref I)) Q E s:=by
 obtain⟨oi,slot,hoi,hci,hdi,hsl⟩:=id hit;unfold pyNext;refine wpAny_bind (wpAny_attempt (wpAny_callSpecial?_slot (name:=ofString "__next__") hit.typeIs bi
  (wpAny_call_entry bi hit.typeIs dL ?_ (eY _))))
 unfold Builtin.«set_iterator.__next__»;refine wpAny_bind (wpAny_pure ?_);refine wpAny_bind (wpAny_fieldsOf hoi hdi ?_);dsimp only;refine wpAny_bind (wpAny_setEntries_of ho hd S.fits ?_);rw[if_neg (by simp)];show wpAny _ _ (setNext a (toNat (slot:Int)) (toNat (es.size:Int)) (toNat (ep:Int)) >>= _) _ _ _;rw[toNat_natCast,toNat_natCast,toNat_natCast];refine wpAny_bind (kM S ho hd hsl (λv slot' hv hs'=>?_) λhn=>?_)
 ·exfalso
  have:(eZ w a ep es)[es.size]?=none:=Array.getElem?_eq_none (by rw[kJ];exact le_refl _);rw[this]at hv;cases hv
 ·dsimp only;refine wpAny_bind (wpAny_setField hoi hdi (by simp) ?_);show wpAny _ _ (newExc (.type "StopIteration") [] >>= _) _ _ _;refine wpAny_bind ?_;simp only[newExc,newTuple];refine wpAny_bind (wpAny_newObj_type ?_ (by size_fits));refine wpAny_bind (m:=firstArgMember _ _) (wpAny_of_eq (a:=Value.none) (by first|rfl|(simp only[firstArgMember];rfl)) ?_)
  refine wpAny_newObj_type ?_ (by size_fits);simp only[raiseNew];refine wpAny_bind (wpAny_handled ?_);rw[show A.in1.handled=none from hh];refine wpAny_bind (wpAny_pure (wpAny_throw ?_));refine wpAny_bind (wpAny_isInstance (T:="StopIteration") (b:=true) ⟨_,get?_push_size _ rfl,rfl⟩ isSubtype_stop ?_);exact wpAny_pure (hQ _ (((SameBut.update ..).extBut.push _).push _))
theorem rB{I a:Addr}{n ep i:Nat}{t:SetTable}{Q:Value→Shared→Prop}(hit:lP w t s.heap I a n ep i)(h:Q (.ref I) s):wpAny (model prog w) A (pyIter (.ref I)) Q E s:=by
 obtain⟨b,hb,e⟩:=iq;subst e;refine wpAny_pyIter_slot hit.typeIs eX (wpAny_call_entry eX hit.typeIs hb ?_ (jD _));show wpAny _ _ (ret (.ref I)) _ _ s;exact wpAny_pure ⟨_,rfl,"set_iterator",_,hit.typeIs,bi.lookup,h⟩
theorem oe{es:Array (Int×Value)}{t:SetTable}{ns:List Int}{ep:Nat}(S:ISt w es t ns)(hh:A.handled=none)(I a:Addr)(hne:a≠I)(o:Obj)(hd:o.data=.set es ep t):
  Walks prog w A I [I,a] [I] es.size (λi v=>(eZ w a ep es)[i]?.map (·.2)=some v) (λi h=>lP w t h I a es.size ep i∧h.get? a=some o) where
 sub:=λb hb=>by simp at hb;simp[hb]
 frame:=λi h h' st hk=>by
  obtain⟨⟨oi,slot,h1,h2⟩,h3⟩:=st;exact⟨⟨oi,slot,hk I (by simp) _ h1,h2⟩,hk a (by simp) _ h3⟩
 item:=λi s Q E hi st hQ=>by
  refine rA S hi st.1 st.2 hd hne λv h' hv hit' hs'=>?_;exact hQ v h' s.toks hv ⟨hit',hs'.extBut a o hne st.2⟩ λb o hb e=>hs'.extBut b o (λh=>hb (by simp[h])) e
 done:=λs Q E st hQ=>tW hh S st.1 st.2 hd λh' he'=>hQ h' s.toks λb o hb e=>he' b o (λh=>hb (by simp[h])) e
 self:=λ_ _ _ _ st hQ=>rB st.1 hQ
theorem pV{r:Addr}{Q:Bool→Shared→Prop}(hT:s.TypeIs (.ref r) "set")(h:Q false s):wpAny (model prog w) A (Builtin.List.listLengthHint (.ref r)) Q E s:=by
 unfold Builtin.List.listLengthHint;refine wpAny_bind (wpAny_specialOf hT PySem.F.slot_set_len.lookup ?_);generalize hid:("set.__len__":String)=id0
 wp_delta
 rw[show splitId id0=some ("set","__len__")from by subst hid;decide +kernel];subst hid;refine wpAny_bind (wpAny_isInstance (T:="set") (b:=true) hT (by rw[isSubtype_type];kernel_rfl) ?_);refine wpAny_ite_split (λhab=>absurd hab (by decide)) (λ_=>?_);refine wpAny_ite_split (λ_=>?_) (λhab=>absurd (by decide +kernel) hab);refine wpAny_bind (wpAny_typeOf hT ?_);exact wpAny_pure h
theorem rC{es:Array (Int×Value)}{t:SetTable}{ns:List Int}{ep:Nat}{a:Addr}{o:Obj}(S:ISt w es t ns)(hex:o.ExactSet)(hd:o.data=.set es ep t):
  KdlSrc prog w "set" a a es.size (λi v=>(eZ w a ep es)[i]?.map (·.2)=some v) (λh=>h.get? a=some o) where
 type:=λ_ hm=>⟨o,hm,hex.1⟩
 there:=λ_ hm=>⟨lt_size hm,lt_size hm⟩
 keep:=λ_ _ hm hk=>hk a (.inl rfl) o hm
 notList:=by decide
 notTuple:=by decide
 hint:=λ_ _ _ _ hm hq=>pV ⟨o,hm,hex.1⟩ hq
 iter:=λA s hh hm=>⟨{cls:=.type "set_iterator",data:=.fields #[.int 0 0,.int 0 0,.ref a,.int es.size 0,.int ep 0]},_,(λ_ _ hq=>pU S hm hex hd hq),oe S hh _ a (ne_of_lt (lt_size hm)) o hd,
  ⟨⟨_,0,get?_push_size _ rfl,rfl,rfl,λ_=>by
   obtain⟨l,T,hl⟩:=S.tb;obtain⟨b1,b2,b3⟩:=bQ T.up 0;rw[T.pl];rcases Nat.eq_zero_or_pos (below l.toArray 0)with z|z
   ·exact z
   ·have:=b2 0 (by omega) z;omega⟩,get?_push_of_some _ hm⟩⟩
end
theorem IS.moved{w:World}{wr:List Addr}{G:Array GenState→Array GenState→Prop}{s s':Shared}{S:Addr}{ns:List Int}(m:Moved wr G s s')(hS:S∉wr)(h:IS w s.heap S ns):IS w s'.heap S ns:=by
 obtain⟨o,es,ep,t,ho,r⟩:=h;exact⟨o,es,ep,t,m.heap S o hS ho,r⟩
theorem IS.at{w:World}{h h':Heap}{S:Addr}{ns:List Int}(x:IS w h S ns)(k:∀o,h.get? S=some o→h'.get? S=some o):IS w h' S ns:=by
 obtain⟨o,es,ep,t,ho,r⟩:=x;exact⟨o,es,ep,t,k o ho,r⟩
theorem pW{w:World}{h:Heap}{a:Addr}(ho:h.get? a=some {cls:=.type "set",dict:=none,data:=.set #[] 0 (.fresh 0 0 (!bt w))}):IS w h a [] :=
 ⟨_,#[],0,_,ho,⟨rfl,rfl,rfl⟩,rfl,⟨⟨λ_=>0,rfl⟩,nodup_nil,⟨[],⟨rfl,rfl,Pairwise.nil,λ_ h=>by simp at h⟩,rfl⟩,Or.inl rfl,(by show 0<21;decide),rfl,λz=>by show(!bt w)=true;rw[z];rfl⟩⟩
section
variable{prog:Program}{w:World}{A:Around}{R:Result→Shared→Prop}{I:Addr}{fp wr:List Addr}{G:Array GenState→Array GenState→Prop}{n:Nat}{P:Nat→Value→Prop}{St:Nat→Shared→Prop}
theorem og(W:WalksS prog w A.in1 I fp wr G n P St)(S:Addr)(hSf:S∉fp)(val:Nat→Int)(hval:∀i v,P i v→∃t,v=.int (val i) t)(hn:n≤60):
  ∀(k i:Nat)(s:Shared)(ms:List Int),n-i=k→i≤n→St i s→IS w s.heap S ms→ms.length≤i→(∀x,x∈ms↔∃j,j<i∧val j=x) →
   (∀s' ms',Moved (S::wr) G s s'→IS w s'.heap S ms'→ms'.length≤n→(∀x,x∈ms'↔∃j,j<n∧val j=x)→R (.ok (.ret .none)) s') →
   codeAny (model prog w) A (.builtin "set.update.loop" ⟨[.ref S,.ref I],[]⟩) R s:=by
 have hSw:S∉wr:=λh=>hSf (W.sub _ h);have hsub:∀b∈wr,b∈S::wr:=λb hb=>mem_cons_of_mem _ hb;intro k
 induction k with
 |zero =>
  intro i s ms hk hi hst hS hl hmem hR;have hin:i=n:=by omega
  subst hin;refine codeAny_builtin PyProof.Rows.F.entry_set_update_loop ?_;rw[Around.under_plainId PyProof.Rows.F.plain_set_update_loop _];show wpAny _ A.in1 (pyNext (.ref I) >>= _) _ _ s;refine wpAny_bind (W.done s _ _ hst λs' hm=>?_);show wpAny _ A.in1 (ret Value.none) _ _ s';exact wpAny_pure (hR s' ms (hm.mono hsub) (hS.moved hm hSw) hl hmem)
 |succ k ih =>
  intro i s ms hk hi hst hS hl hmem hR;have hlt:i<n:=by omega
  refine codeAny_builtin PyProof.Rows.F.entry_set_update_loop ?_;rw[Around.under_plainId PyProof.Rows.F.plain_set_update_loop _];show wpAny _ A.in1 (pyNext (.ref I) >>= _) _ _ s;refine wpAny_bind (W.item i s _ _ hlt hst λv s' hP hst' hm=>?_);obtain⟨t,rfl⟩:=hval i v hP;have hS':IS w s'.heap S ms:=hS.moved hm hSw;show wpAny _ A.in1 (holding [Value.int (val i) t] (setAdd S (.int (val i) t)) >>= _) _ _ s';refine wpAny_bind (wpAny_holding ?_);unfold setAdd;refine wpAny_holding ?_;refine wpAny_bind ((intKind prog w).pyHash (k:=val i) (intKind_is _ _ _ _) ?_);refine add_int (s:={s' with toks:=s'.toks+1}) hS' (by omega) λr h' ms' hsb hS2 hor=>?_;have hsb':SameBut S s'.heap h':=hsb;have hlen':ms'.length≤i+1:=by
   rcases hor with⟨_,e⟩|⟨_,e⟩
   ·rw[e];omega
   ·have:=e.length_eq;rw[length_cons]at this;omega
  have hmem':∀x,x∈ms'↔∃j,j<i+1∧val j=x:=λx=>by
   rcases hor with⟨hin,e⟩|⟨_,e⟩
   ·rw[e,hmem x];constructor
    ·rintro⟨j,hj,e'⟩;exact⟨j,by omega,e'⟩
    ·rintro⟨j,hj,e'⟩
     by_cases hji:j=i
     ·rw[←e',hji];exact(hmem _).mp hin
     ·exact⟨j,by omega,e'⟩
   ·rw[e.mem_iff,mem_cons,hmem x];constructor
    ·rintro(e'|⟨j,hj,e'⟩)
     ·exact⟨i,by omega,e'.symm⟩
     ·exact⟨j,by omega,e'⟩
    ·rintro⟨j,hj,e'⟩
     by_cases hji:j=i
     ·left;rw[←e',hji]
     ·exact .inr ⟨j,by omega,e'⟩
  refine wpAny_pure ⟨plainId_quiet PyProof.Rows.F.plain_set_update_loop _,ih (i+1) _ ms' (by omega) hlt (W.frame _ s' _ _ hst' (le_succ _) λb hb o e=>?_) hS2 hlen' hmem' λs'' ms'' hm'' hS'' hl'' hmm''=>?_⟩
  ·rw[hsb'.2 b (λh:b=S=>hSf (by rw[←h];exact hb))];exact e
  ·refine hR s'' ms'' (Moved.trans W.gtrans ((hm.mono hsub).then_heap (le_succ _) λb o hb e=>?_) hm'') hS'' hl'' hmm'';rw[hsb'.2 b (λh:b=S=>hb (by rw[h];exact mem_cons_self))];exact e
end
section
variable{prog:Program}{w:World}{A:Around}{E:Value→Shared→Prop}{s:Shared}
theorem ir(a:Value){Q₁:Value→Shared→Prop}(h:Q₁ (.ref s.heap.objs.size) {s with heap:=s.heap.push {cls:=.type "set",dict:=none,data:=.set #[] 0 (.fresh 0 0 (!bt w))}}):
  codeAny (model prog w) A (.call (.builtin "set.__new__") ⟨[.type "set",a],[]⟩) (wants Q₁ E) s:=by
 refine codeAny_of_tree ?_;show wpAny _ A.in1 (do checkBuiltinCall "set.__new__" ⟨[.type "set",a],[]⟩;again (.builtin "set.__new__" ⟨[.type "set",a],[]⟩)) _ _ s
 refine wpAny_bind (wpAny_of_eq (F.newCall_set_1 a) (wpAny_pure ⟨plainId_quiet F.plain_set_new _,codeAny_builtin F.entry_set_new ?_⟩));rw[Around.under_plainId F.plain_set_new _];unfold Builtin.«set.__new__» Builtin.Frozenset.newClass;have hsub:=sub_set_self;obtain⟨hp,g,d,tk,os⟩:=s;dsimp only
 wp_walk
 refine wpAny_askSetting (wpAny_pure ?_);dsimp only;simp only[newObj];refine wpAny_bind (wpAny_alloc (wpAny_pure ?_));exact wpAny_pure h
set_option maxRecDepth 100000 in
set_option maxHeartbeats 3200000 in
theorem jE{x:Value}{Q:Value→Shared→Prop}(h:wpAny (model prog w) A.in1.in1 (Builtin.«set.__init__» ⟨[.ref s.heap.objs.size,x],[]⟩)
   (λfin s'=>match fin with | .done f=>wants (λr s₂=>r=.none∧Q (.ref s.heap.objs.size) s₂) E (.ok f) s' | .again c'=>c'.quiet=true∧codeAny (model prog w) A.in1 c' (wants (λr s₂=>r=.none∧Q (.ref s.heap.objs.size) s₂) E) s')
   (λe s'=>wants (λr s₂=>r=.none∧Q (.ref s.heap.objs.size) s₂) E (.error e) s') {s with heap:=s.heap.push {cls:=.type "set",dict:=none,data:=.set #[] 0 (.fresh 0 0 (!bt w))}}):
  wpAny (model prog w) A (call (.type "set") [x]) Q E s:=by
 obtain⟨c,tl,hmro⟩:=F.called_set.mro;have hmade:=F.called_set.made;have hsub:=F.called_set.sub;refine wpAny_call (codeAny_of_tree ?_);show wpAny _ _ (callAny (.type "set") _) _ _ _;refine wpAny_pure ⟨Code.quiet_builtin _ (by decide +kernel),codeAny_builtin F.entry_type_call ?_⟩;rw[Around.under_plain (weight_type_call_type "set" [x] []) rfl];have h1:=F.called_set.notType;have h2:=F.called_set.canCreate;have hct:=F.typeCall_set_1 x
 repeat (any_goals (first|assumption|wp_step))
 refine codeAny_mono (ir x (E:=E) (Q₁:=λobj s₁=>obj=.ref s.heap.objs.size∧s₁={s with heap:=s.heap.push {cls:=.type "set",dict:=none,data:=.set #[] 0 (.fresh 0 0 (!bt w))}}) ⟨rfl,rfl⟩) λr s₁ hr=>?_
 cases r with
 |error e=>exact hr
 |ok fl =>
  cases fl with
  |ret obj =>
   obtain⟨rfl,rfl⟩:=hr;have hS:(s.heap.push {cls:=.type "set",dict:=none,data:=.set #[] 0 (.fresh 0 0 (!bt w))}).get? s.heap.objs.size=some {cls:=.type "set",dict:=none,data:=.set #[] 0 (.fresh 0 0 (!bt w))}:=get?_push_size _ rfl;have hT:Shared.TypeIs {s with heap:=s.heap.push {cls:=.type "set",dict:=none,data:=.set #[] 0 (.fresh 0 0 (!bt w))}} (.ref s.heap.objs.size) "set":=⟨_,hS,rfl⟩
   have hli:=F.called_set.init.lookup;have hbi:=F.called_set.init.bind (.ref s.heap.objs.size)
   repeat (any_goals (first|assumption|wp_step))
   refine codeAny_mono (codeAny_call_builtin (R:=wants (λr s₂=>r=.none∧Q (.ref s.heap.objs.size) s₂) E) F.called_set.init.plain F.entry_set_init (check_set_init_1 hT ?_)) λr₂ s₂ hr₂=>?_
   ·exact h
   ·cases r₂ with
    |error e=>exact hr₂
    |ok fl₂ =>
     cases fl₂ with
     |ret r =>
      obtain⟨rfl,hq⟩:=hr₂
      repeat (any_goals (first|assumption|wp_step))
     |_=>exact hr₂.elim
  |_=>exact hr.elim
set_option maxRecDepth 100000 in
set_option maxHeartbeats 3200000 in
theorem pX{l:Addr}{items:Array Value}{val:Nat→Int}{Q:Value→Shared→Prop}(hh:A.handled=none)(hl:s.heap.IsList l items)(hi:∀(i:Nat) (v:Value),items[i]?=some v→∃t,v=Value.int (val i) t)(hb:items.size≤60)(h:∀(h':Heap) (tk:Nat) (ms:List Int),IS w h' s.heap.objs.size ms→(∀x,x∈ms↔∃j,j<items.size∧val j=x) →
   (∀b o,b<s.heap.objs.size→s.heap.get? b=some o→h'.get? b=some o)→Q (.ref s.heap.objs.size) {s with heap:=h',toks:=tk}):
  wpAny (model prog w) A (call (.type "set") [.ref l]) Q E s:=by
 refine jE ?_;obtain⟨ol,hol,hcl,nl,hdl⟩:=hl;obtain⟨ocls,odict,odata,oslots⟩:=ol;simp only at hcl hdl;subst hcl;subst hdl;have hS:(s.heap.push {cls:=.type "set",dict:=none,data:=.set #[] 0 (.fresh 0 0 (!bt w))}).get? s.heap.objs.size=some {cls:=.type "set",dict:=none,data:=.set #[] 0 (.fresh 0 0 (!bt w))}:=get?_push_size _ rfl;have hol':(s.heap.push {cls:=.type "set",dict:=none,data:=.set #[] 0 (.fresh 0 0 (!bt w))}).get? l=some {cls:=.type "list",dict:=odict,data:=.seq items nl,slots:=oslots}:=get?_push_of_some _ hol;have hsls:=F.sub_list_set;have hslf:=F.sub_list_frozenset;have hne:(Value.type "list"==Value.type "dict")=false:=by decide
 have hl1:(s.heap.push {cls:=.type "set",dict:=none,data:=.set #[] 0 (.fresh 0 0 (!bt w))}).IsList l items:=⟨_,hol',rfl,nl,rfl⟩;generalize hled:(!bt w)=led at *;unfold Builtin.«set.__init__» noKeywords Builtin.Frozenset.updateFrom;generalize hPI:pyIter=PI
 wp_walk
 subst hPI;refine wpAny_pyIter_list hl1 ?_;refine wpAny_bind (wpAny_runValue ?_);have hlS:l<s.heap.objs.size:=lt_size hol;have hh3:A.in1.in1.in1.handled=none:=by simp[hh]
 have hneI:l≠(s.heap.push {cls:=.type "set",dict:=none,data:=.set #[] 0 (.fresh 0 0 led)}).objs.size:=by
  rw[size_push];exact ne_of_lt (lt_succ_of_lt hlS)
 have hSf:s.heap.objs.size∉[(s.heap.push {cls:=.type "set",dict:=none,data:=.set #[] 0 (.fresh 0 0 led)}).objs.size,l]:=by
  rw[size_push];simp only[mem_cons,List.mem_singleton,not_mem_nil,or_false,not_or];exact⟨ne_of_lt (Nat.lt_succ_self _),ne_of_gt hlS⟩
 refine og ((Walks.list hh3 _ l hneI items).toS) s.heap.objs.size
  hSf val hi hb (items.size-0) 0 _ [] (by omega) (zero_le _)
  ⟨⟨_,get?_push_size _ rfl,rfl,rfl⟩,(hl1.push _)⟩ ?hS0 (zero_le _) (λk'=>⟨λh=>by simp at h,λ⟨j,hj,_⟩=>by omega⟩) ?hR
 case hS0 =>
  rw[←hled]at hS⊢;exact pW (get?_push_of_some _ hS)
 case hR =>
  intro s' ms hm hS' hl' hm';obtain⟨h',g',d',tk',os'⟩:=s';have eg:g'=s.gens:=hm.gens;have ed:d'=s.drawn:=hm.drawn;have eo:os'=s.os:=hm.os;subst eg;subst ed;subst eo;show wpAny _ _ _ _ _ _;refine wpAny_pure ?_;show wpAny _ _ (ret Value.none) _ _ _;refine wpAny_pure ⟨rfl,h h' tk' ms hS' hm' λb o hb e=>?_⟩;have hb1:b≠s.heap.objs.size:=ne_of_lt hb;have hb2:b≠(s.heap.push {cls:=.type "set",dict:=none,data:=.set #[] 0 (.fresh 0 0 led)}).objs.size:=by
   rw[size_push];exact ne_of_lt (lt_succ_of_lt hb)
  exact hm.heap b o (by simp only[mem_cons,List.mem_singleton,not_mem_nil,or_false,not_or];exact⟨hb1,hb2⟩) (get?_push_of_some _ (get?_push_of_some _ e))
end
end TB
namespace SRT
open PySem PySem.W PyProof.Rows
section
variable{prog:Program}{w:World}{A:Around}{E:Value→Shared→Prop}{s:Shared}
theorem kQ{f:Nat→Nat→Bool}{vs:List Value}{κ:SortKind}{Q:Value→Shared→Prop}(O:Ord f vs.length)(h64:vs.length<64)(hk:∀(A':Around) (s':Shared),A'.units≤A.units+1→(∀b o,s.heap.get? b=some o→s'.heap.get? b=some o)→∀Q:SortKind→Shared→Prop,2≤vs.length→Q κ s'→wpAny (model prog w) A' (keyKind' vs.toArray) Q (λ_ _=>False) s')(hlt:∀(A':Around) (s':Shared),A'.units≤A.units+1→(∀b o,s.heap.get? b=some o→s'.heap.get? b=some o)→∀(i j:Nat) (C:Bool→Shared→Prop),i<vs.length→j<vs.length→C (f i j) s'→wpAny (model prog w) A' (keyLt' κ (vs.getD i Value.none) (vs.getD j Value.none)) C (λ_ _=>False) s')(h:∀(p:Array Nat) (h':Heap),Row vs.length p→Up f p vs.length→(∀b o,s.heap.get? b=some o→h'.get? b=some o)→(∃k,h'.get? s.heap.objs.size=some (seqObj "list" (toArray (p.toList.map λi=>vs.getD i Value.none)) k))→Q (.ref s.heap.objs.size) {s with heap:=h'}):
  wpAny (model prog w) A (do
   let l ← newList vs
   let _ ← holding [l] (call (.builtin "list.sort") [l] [])
   ret l) (λfin s'=>∃v,fin=.done (.ret v)∧Q v s') E s:=by
 refine wpAny_bind (wpAny_newList ?_ (by rw[sizeLine_eq];omega));have hoL:(s.heap.push (seqObj "list" vs.toArray 0)).get? s.heap.objs.size=some (seqObj "list" vs.toArray 0):=get?_push_size _ rfl;have keep:∀b o,s.heap.get? b=some o→(s.heap.push (seqObj "list" vs.toArray 0)).get? b=some o:=λb o q=>get?_push_of_some _ q;have neD:∀b o,s.heap.get? b=some o→b≠s.heap.objs.size:=λb o q=>ne_of_lt (lt_size q);show wpAny _ _ _ _ _ {s with heap:=s.heap.push (seqObj "list" vs.toArray 0)}
 refine wpAny_bind (wpAny_holding (wpAny_call_entry slot_list_sort ⟨_,hoL,rfl⟩ entry_list_sort (eL (κ:=κ) (s:={s with heap:=s.heap.push (seqObj "list" vs.toArray 0)}) O hoL h64 ?_ ?_ λp hr hu=>⟨_,rfl,?_⟩) (args_list_sort _)))
 ·intro s' hs' Q' h2 hq;exact hk _ s' (by simp[Around.in1_units]) (λb o e=>hs' b o (neD b o e) (keep b o e)) Q' h2 hq
 ·intro s' hs' i j C hi hj hC;exact hlt _ s' (by simp[Around.in1_units]) (λb o e=>hs' b o (neD b o e) (keep b o e)) i j C hi hj hC
 ·refine wpAny_pure ⟨_,rfl,h p _ hr hu (λb o e=>?_) ?_⟩
  ·unfold sortedHeap;rw[get?_update_ne _ _ _ _ (neD b o e)];refine get?_push_of_some _ (get?_push_of_some _ ?_);rw[get?_update_ne _ _ _ _ (neD b o e)];exact keep b o e
  ·unfold sortedHeap;obtain⟨e1,ho1⟩:∃e1,((s.heap.push (seqObj "list" vs.toArray 0)).update s.heap.objs.size (Obj.mapSeq λ_=>(#[]:Array Value))).get? s.heap.objs.size=some (seqObj "list" #[] e1):=⟨_,get?_update_seq hoL λ_=>#[]⟩;exact⟨_,get?_update_seq (get?_push_of_some _ (get?_push_of_some _ ho1)) _⟩
theorem kR{T:String}{r d:Addr}{n:Nat}{P:Nat→Value→Prop}{OK:Heap→Prop}{Q:List Value→Shared→Prop}(K:KdlSrc prog w T r d n P OK)(hh:A.handled=none)(hok:OK s.heap)(hn:n≤sizeLine)(hQ:∀h' tk acc,(∀b o,s.heap.get? b=some o→h'.get? b=some o)→s.heap.objs.size<h'.objs.size→ItemsOf P acc n→Q acc.toList {s with heap:=h',toks:=tk}):wpAny (model prog w) A (collect (.ref r)) Q E s:=by
 unfold collect;refine wpAny_bind (wpAny_runValue (codeAny_builtin entry_proto_collect' ?_));show wpAny _ _ (do again (.builtin "list.__iadd__" ⟨[←newList [],.ref r],[]⟩)) _ _ s
 refine wpAny_bind (wpAny_newList (wpAny_pure ⟨Code.quiet_builtin _ (by decide +kernel),codeAny_builtin entry_list_iadd' ?_⟩));rw[Around.under_plainId plain_list_iadd _];show wpAny _ _ (Builtin.List.listExtendWith (.ref s.heap.objs.size) (.ref r) (.ref s.heap.objs.size)) _ _ {s with heap:=s.heap.push (seqObj "list" #[] 0)}
 have hlt:=K.there _ hok;have hS:(s.heap.push (seqObj "list" #[] 0)).get? s.heap.objs.size=some (seqObj "list" #[] 0):=get?_push_size _ rfl;have key:=PySem.W.kdl_extend (A:=A) (s:={s with heap:=s.heap.push (seqObj "list" #[] 0)}) (R:=λr s'=>∃h' tk acc c',r=.ok (.ret (.ref s.heap.objs.size))∧s'={s with heap:=h',toks:=tk}∧(∀b o,s.heap.get? b=some o→h'.get? b=some o)∧h'.get? s.heap.objs.size=some {cls:=.type "list",dict:=none,data:=.seq acc c',slots:=#[]}∧ItemsOf P acc n)
  K hh (K.keep _ _ hok λb _ o e=>get?_push_of_some _ e) s.heap.objs.size (ne_of_gt hlt.1) (ne_of_gt hlt.2) (.ref s.heap.objs.size) 0 hS (λh' tk acc' c' hk hS' hacc=>⟨h',tk,acc',c',rfl,rfl,λb o e=>hk b o (ne_of_lt (lt_size e)) (get?_push_of_some _ e),hS',hacc⟩) hn
 have fin:∀(h':Heap)(tk:Nat)(acc:Array Value)(c':Nat),(∀b o,s.heap.get? b=some o→h'.get? b=some o)→h'.get? s.heap.objs.size=some {cls:=.type "list",dict:=none,data:=.seq acc c',slots:=#[]}→ItemsOf P acc n→wpAny (model prog w) A (do
   let o ← load s.heap.objs.size
   match o.data with
   |.seq xs _=>pure xs.toList
   | _=>unsupported "internal:collect") Q E {s with heap:=h',toks:=tk}:=λh' tk acc c' hk hS' hacc=>by
  refine wpAny_bind (wpAny_load hS' ?_);exact wpAny_pure (hQ h' tk acc hk (lt_size hS') hacc)
 refine wpAny_mono key (λfn s' hf=>?_) λe s' hf=>?_
 ·cases fn with
  |done f =>
   obtain⟨h',tk,acc,c',e1,e2,hk,hS',hacc⟩:=hf;cases e1;subst e2;exact fin h' tk acc c' hk hS' hacc
  |again c =>
   refine⟨hf.1,codeAny_mono hf.2 λr s' hr=>?_⟩;obtain⟨h',tk,acc,c',e1,e2,hk,hS',hacc⟩:=hr;subst e1 e2;exact fin h' tk acc c' hk hS' hacc
 ·obtain⟨h',tk,acc,c',e1,_⟩:=hf;cases e1
theorem hU{T:String}{r d:Addr}{n:Nat}{P:Nat→Value→Prop}{OK:Heap→Prop}{κ:SortKind}{Q:Value→Shared→Prop}(K:KdlSrc prog w T r d n P OK)(hh:A.handled=none)(hok:OK s.heap)(hn:n≤sizeLine)(hQ:∀(h1:Heap) (tk:Nat) (vs:List Value),(∀b o,s.heap.get? b=some o→h1.get? b=some o)→s.heap.objs.size<h1.objs.size→ItemsOf P vs.toArray n→∃f:Nat→Nat→Bool,Ord f vs.length∧vs.length<64 ∧
   (∀(A':Around) (s':Shared),A'.units≤A.units+2→(∀b o,s.heap.get? b=some o→s'.heap.get? b=some o)→∀Q:SortKind→Shared→Prop,2≤vs.length→Q κ s'→wpAny (model prog w) A' (keyKind' vs.toArray) Q (λ_ _=>False) s') ∧
   (∀(A':Around) (s':Shared),A'.units≤A.units+2→(∀b o,s.heap.get? b=some o→s'.heap.get? b=some o)→∀(i j:Nat) (C:Bool→Shared→Prop),i<vs.length→j<vs.length→C (f i j) s'→wpAny (model prog w) A' (keyLt' κ (vs.getD i Value.none) (vs.getD j Value.none)) C (λ_ _=>False) s') ∧
   ∀(p:Array Nat) (h':Heap),Row vs.length p→Up f p vs.length→(∀b o,s.heap.get? b=some o→h'.get? b=some o)→(∃k,h'.get? h1.objs.size=some (seqObj "list" (toArray (p.toList.map λi=>vs.getD i Value.none)) k))→Q (.ref h1.objs.size) {s with heap:=h',toks:=tk}):
  wpAny (model prog w) A (call (.builtin "sorted") [.ref r]) Q E s:=by
 refine Calls.call_function_entry kind_sorted plain_sorted entry_sorted (args_sorted1 _) ?_;unfold Builtin.«sorted»;refine wpAny_bind (m:=checkCount "sorted" 1 1 _) (wpAny_pure ?_);refine wpAny_bind (kR K hh hok hn λh1 tk acc hk hlt hacc=>?_);obtain⟨f,O,h64,hkk,hltt,hq⟩:=hQ h1 tk acc.toList hk hlt (by rw[Array.toArray_toList];exact hacc);exact kQ (s:={s with heap:=h1,toks:=tk}) O h64 (λA' s' hu hk'=>hkk A' s' (by have:=hu;simp only[Around.in1_units]at this;omega) λb o e=>hk' b o (hk b o e)) (λA' s' hu hk'=>hltt A' s' (by have:=hu;simp only[Around.in1_units]at this;omega) λb o e=>hk' b o (hk b o e))
  λp h' hr hu' hk' hg=>hq p h' hr hu' (λb o e=>hk' b o (hk b o e)) hg
end
end SRT
namespace L2
open PySem PySem.Spec PyProof.Rows
section
variable{X:Cx}
def rD(w:World)(a:Addr)(ns:List Int):HO:=.ext λh=>TB.IS w h a ns
theorem Inv.intS{pins:List (Addr×Obj)}{σ:St}{H:Hp}{s:Shared}(I:Inv X pins σ H s){a:Addr}{ns:List Int}(h:H a=some (rD X.w a ns)):TB.IS X.w s.heap a ns:=(I.hok a _ h).1
theorem Inv.layS{pins:List (Addr×Obj)}{σ:St}{H:Hp}{s:Shared}(I:Inv X pins σ H s){h':Heap}{t':Nat}{a:Addr}{ns:List Int}(k:∀b u,s.heap.get? b=some u→h'.get? b=some u)(hp:s.heap.objs.size≤a)(hS:TB.IS X.w h' a ns):
  Inv X pins σ (upd H a (rD X.w a ns)) {s with heap:=h',toks:=t'}:=by
 obtain⟨o,es,ep,t,ho,r⟩:=id hS;exact I.laid k hp ⟨hS,⟨o,ho⟩,λh1 h2 hI hh=>hI.at hh⟩
theorem iu(hc:X.calm=true):bG X (.type "set") (λxs H Q=>∃p,∃ns:List Int,xs=[.ref p]∧SqL X.K H p (ns.map V.int)∧ns.length≤60 ∧
  ∀ms:List Int,ms.Nodup→(∀x,x∈ms↔x∈ns)→∀q,H q=none→Q (.ref q) (upd H q (rD X.w q ms))):=by
 intro pins s σ H xs us Q I r h;obtain⟨p,ns,rfl,hq,hl,q⟩:=h;obtain⟨u,rfl,ru⟩:=cz r;cases ru;obtain⟨its,rv,pl,hz⟩:=I.list hq;have hsz:its.toArray.size=ns.length:=by rw[size_toArray,←rv.length,length_map]
 have gi:∀i,i<ns.length→∃t,its[i]?=some (.int (ns.getD i 0) t):=λi hi=>by
  obtain⟨v,hv,r⟩:=rv.get (i:=i) (x:=.int (ns.getD i 0)) (by rw[getElem?_map,(aI (d:=(0:Int)) hi).2];rfl);obtain⟨t,rfl⟩:=r;exact⟨t,hv⟩
 refine TB.pX (val:=λi=>ns.getD i 0) (I.ok.hd hc) pl.isList (λi v hv=>?_) (by rw[hsz];exact hl) λh' tk ms hS hm hkeep=>?_
 ·have hv':its[i]?=some v:=by simpa using hv
  have hi:i<ns.length:=by
   have:=(List.getElem?_eq_some_iff.mp hv').1;rw[←rv.length,length_map]at this;exact this
  obtain⟨t,e⟩:=gi i hi;rw[e]at hv';exact⟨t,(Option.some.inj hv').symm⟩
 ·rw[hsz]at hm;have hnd:ms.Nodup:=by obtain⟨o,es,ep,t,_,_,_,S⟩:=hS;exact S.nd
  refine⟨.ref s.heap.objs.size,_,I.layS (t':=tk) (λb o e=>hkeep b o (lt_size e) e) (le_refl _) hS,rfl,q ms hnd (λx=>?_) _ (I.hok.fresh (le_refl _))⟩;rw[hm x];constructor
  ·rintro⟨j,hj,e⟩;rw[←e];exact(aI (d:=(0:Int)) hj).1
  ·intro hx;obtain⟨j,hj,e⟩:=mem_iff_getElem.mp hx;exact⟨j,hj,by show ns.getD j 0=x;rw[getD_eq_getElem?_getD,getElem?_eq_getElem hj,e];rfl⟩
theorem hV(hc:X.calm=true):bG X (.builtin "sorted") (λxs H Q=>∃l,∃ns:List Int,xs=[.ref l]∧H l=some (rD X.w l ns)∧ns.length≤60 ∧
  ∀ms:List Int,ms.Perm ns→ms.Pairwise (λa b=>a<b)→∀p,H p=none→Q (.ref p) (upd H p (.lst (ms.map V.int)))):=by
 intro pins s σ H xs us Q I r h;obtain⟨l,ns,rfl,hl,h60,q⟩:=h;obtain⟨u,rfl,ru⟩:=cz r;cases ru;obtain⟨o,es,ep,t,ho,hex,hd,S⟩:=I.intS hl;obtain⟨tk0,hent⟩:=S.ent;obtain⟨ns',hperm,hord⟩:=TB.fA (TB.kH X.w l ep es) hent;have hnd':ns'.Nodup:=hperm.nodup_iff.mpr S.nd;have hl':ns'.length=ns.length:=hperm.length_eq;refine SRT.hU (κ:=oneType') (TB.rC S hex hd) (I.ok.hd hc) ho (by rw[S.size,sizeLine_eq];omega) λh1 tk vs hk1 hlt1 hit=>?_;have evs:vs=ns'.map λn=>Value.int n (tk0 n):=by
  apply ext_getElem?;intro i;have hvl:vs.length=es.size:=by have:=hit.1;rw[size_toArray]at this;exact this
  by_cases hi:i<vs.length
  ·have:Option.map (λx=>x.2) (TB.eZ X.w l ep es)[i]?=some vs[i]:=hit.2 i vs[i] (by rw[List.getElem?_toArray];exact getElem?_eq_getElem hi);rw[getElem?_eq_getElem hi,getElem?_map];rw[←getElem?_toList,hord,getElem?_map]at this;cases e:ns'[i]? with
   |none=>rw[e]at this;cases this
   |some n =>
    rw[e]at this;have e2:(TB.fz tk0 n).2=vs[i]:=Option.some.inj this;show some vs[i]=some (Value.int n (tk0 n));rw[←e2];rfl
  ·rw[getElem?_eq_none (by omega),getElem?_eq_none (by rw[length_map,hl',←S.size];omega)]
 have hvl:vs.length=ns'.length:=by rw[evs,length_map]
 have gd:∀i,i<ns'.length→vs.getD i Value.none=.int (ns'.getD i 0) (tk0 (ns'.getD i 0)):=λi hi=>by
  rw[evs,pH (d:=(0:Int)) hi]
 have rv:ap (ns'.map V.int) vs:=by
  rw[evs];clear hperm hord hnd' hl' evs hvl gd hit
  induction ns' with
  |nil=>exact .nil
  |cons n ns' ih=>exact .cons ⟨_,rfl⟩ ih
 refine⟨λi j=>decide (ns'.getD i 0<ns'.getD j 0),⟨λi _=>by simp,λi j k _ _ _ h1 h2=>?_,λi j hi hj hij=>?_⟩,by omega,λA' s' _ _ Q' h2 hQ=>?_,λA' s' _ _ i j C hi hj hC=>?_,λp h' hrow hup kp hg=>?_⟩
 ·simp only[decide_eq_true_eq]at *;omega
 ·simp only[decide_eq_true_eq];have:ns'.getD i 0≠ns'.getD j 0:=by
   rw[getD_eq_getElem?_getD,getD_eq_getElem?_getD,getElem?_eq_getElem (by omega),getElem?_eq_getElem (by omega)];exact λe=>hij ((getElem_inj hnd').mp e)
  omega
 ·rw[ksk_kind (keys:=vs.toArray) (kz:=ns') (by simpa using ju rv) (by rw[size_toArray];omega)];exact wpAny_pure hQ
 ·rw[gd i (by omega),gd j (by omega)];exact kat_lt_int hC
 ·obtain⟨c,hg⟩:=hg;rw[hvl]at hrow hup;have hin:∀i∈p.toList,i<ns'.length:=λi hi=>mem_range.mp (hrow.perm.mem_iff.mp hi);have hperm2:(p.toList.map λi=>ns'.getD i 0).Perm ns':=by
   refine(hrow.perm.map _).trans ?_;have:(List.range ns'.length).map (λi=>ns'.getD i 0)=ns':=by
    apply ext_getElem?;intro i;rw[getElem?_map]
    by_cases hi:i<ns'.length
    ·rw[getElem?_range hi,(aI (d:=(0:Int)) hi).2];rfl
    ·rw[getElem?_eq_none (by rw[length_range];omega),getElem?_eq_none (by omega)];rfl
   rw[this]
  have hpl:p.size=ns'.length:=hrow.size;have hpw:(p.toList.map λi=>ns'.getD i 0).Pairwise (λa b=>a<b):=by
   rw[pairwise_iff_getElem];intro i j hi hj hij;have hi':i<p.size:=by rw[length_map,length_toList]at hi;exact hi
   have hj':j<p.size:=by rw[length_map,length_toList]at hj;exact hj
   have:=hup i j hij (by omega);simp only[]at this;rw[getD_eq_getD_getElem?,getD_eq_getD_getElem?,Array.getElem?_eq_getElem hi',Array.getElem?_eq_getElem hj']at this;simpa using this
  refine⟨.ref h1.objs.size,_,I.laid (t':=tk) (o:=.lst ((p.toList.map λi=>ns'.getD i 0).map V.int)) kp (le_of_lt hlt1) ⟨?_,_,c,fq rv p.toList hin,hg⟩,rfl,q _ (hperm2.trans hperm) hpw _ (I.hok.fresh (le_of_lt hlt1))⟩;rw[length_map,hperm2.length_eq,sizeLine_eq];omega
end
end L2
namespace TB
open PySem PySem.SetTable
section
variable{prog:Program}{w:World}{A:Around}{E:Value→Shared→Prop}{s:Shared}
end
end TB
namespace L2
open PySem PySem.Spec PyProof.Rows
section
variable{X:Cx}
theorem Inv.dK{pins:List (Addr×Obj)}{σ:St}{H:Hp}{s:Shared}(I:Inv X pins σ H s){a:Addr}{kvs:List (Key×V)}(h:Rd H a (.dK kvs)):
  kvs.length≤sizeLine∧(a==sysModules)=false∧∃vs,KV kvs vs∧s.heap.DictOf (ao X.prog X.w) a vs:=by
 rcases h with h|⟨o,h⟩
 ·obtain⟨hz,hsm,vs,rel,dd⟩:=I.hok a _ h;exact⟨hz,hsm,vs,rel,dd⟩
 ·obtain⟨_,hz,hsm,vs,rel,dd⟩:=I.hok a _ h;exact⟨hz,hsm,vs,rel,dd⟩
end
theorem rE{J:It}{H1:Hp}{xs:List V}{g:TG}{tb:TS}{D:Ends}{σ:St}{H:Hp}(S:Src J H1 xs)(Pv:Nat→St→Hp→Prop)(h0:Pv 0 σ H)(hl:∀i σ H,i≤xs.length→Pv i σ H→Same H1 H)(hs:∀i x σ H,xs[i]?=some x→Pv i σ H→g x σ H λσ2 H2=>tb {D with nx:=Pv (i+1),ct:=Pv (i+1),bk:=D.nx} σ2 H2)(hd:∀σ H,Pv xs.length σ H→D.nx σ H):
  ∃W:Nat→Nat→St→Hp→Prop,(∃m,W 0 m σ H)∧∀i m σ H,W i m σ H →
   (J.stop i H∧D.nx σ H)∨(J.go i H∧∃N:St→Hp→Prop,(∀σ' H',N σ' H'→∃m',m'<m∧W (i+1) m' σ' H')∧∀x H',J.yld i H x H'→g x σ H' λσ2 H2=>tb {D with nx:=N,ct:=N,bk:=D.nx} σ2 H2):=by
 refine⟨λi m σ H=>m=xs.length-i∧i≤xs.length∧Pv i σ H,⟨xs.length,by simp,zero_le _,h0⟩,?_⟩;rintro i m σ H ⟨rfl,hi,p⟩;have q:=hl i σ H hi p
 by_cases hlt:i<xs.length
 ·refine .inr ⟨S.go i H hlt q,Pv (i+1),λσ' H' p'=>⟨xs.length-(i+1),by omega,rfl,hlt,p'⟩,λx H' y=>?_⟩;obtain⟨e,y2⟩:=S.yl i H x H' hlt q y;subst e;exact hs i x σ _ y2 p
 ·have e:i=xs.length:=by omega
  subst e;exact .inl ⟨S.stop H q,hd σ H p⟩
section
variable{X:Cx}
end
end L2
namespace TW
section
variable{S:Type}
end
end TW
namespace TW
section
variable{S:Type}
end
end TW
namespace L2
open PySem PySem.Spec PyProof.Rows
theorem kX{α:Type}{k:Nat}{js:List Nat}{J:It}{g:TG}{te:TE}{σ:St}{H1:Hp}{Q:VK}{p:Addr}{fr:List (Option V)}(zs:List α)(val:α→V)(hn:zs.length≤1000)(hp:H1 p=none)(S:Src J H1 (zs.map val))(hfr:∃σ0:St,σ0.length=k∧bc k js σ=σ0++fr)(R:α→V→Hp→Prop)(hR:∀z y H H',R z y H→Ext p H H'→R z y H')(elt:∀z (σ0:St) H' (kk:St→VK),σ0.length=k→z∈zs→Same H1 H'→(∃ys,H' p=some (.lst ys))→(∀σ2 y H4,(∃σ0':St,σ0'.length=k∧σ2=σ0'++fr)→Same H' H4→R z y H4→kk σ2 y H4)→g (val z) (σ0++fr) H' λσ2 H3=>te σ2 H3 (kk σ2))(fin:∀ys H',Same H1 H'→H' p=some (.lst ys)→Paired (λz y=>R z y H') zs ys→Q (.ref p) H'):LcW k js g te σ Q J H1 p:=by
 have grow:∀{as:List α}{ys:List V}{H H':Hp},Ext p H H'→Paired (λz y=>R z y H) as ys→Paired (λz y=>R z y H') as ys:=λex r=>Paired.mapP r λa b h=>hR a b _ _ h ex;have hlen:∀{as:List α}{ys:List V}{H:Hp},Paired (λz y=>R z y H) as ys→ys.length=as.length:=λr=>(Paired.length r).symm;refine⟨λi m ys σ' H'=>m=zs.length-i∧i≤zs.length∧(∃σ0:St,σ0.length=k∧σ'=σ0++fr)∧Same H1 H'∧H' p=some (.lst ys)∧Paired (λz y=>R z y H') (zs.take i) ys,⟨zs.length,by simp,zero_le _,hfr,af hp,ac,.nil⟩,?_⟩;rintro i m ys σ' H' ⟨rfl,hi,⟨σ0,hσ0,rfl⟩,s1,hl,hys⟩
 by_cases hlt:i<zs.length
 ·have hlt':i<(zs.map val).length:=by rw[length_map];exact hlt
  refine .inr ⟨S.go i H' hlt' s1,?_,λx H2 hy=>?_⟩
  ·have h1:ys.length≤zs.length:=by
    rw[hlen hys,length_take];omega
   exact lt_of_le_of_lt h1 (az hn)
  ·obtain⟨rfl,hx⟩:=S.yl i H' x H2 hlt' s1 hy;have gz:zs[i]?=some zs[i]:=getElem?_eq_getElem hlt;have mz:=mem_of_getElem? gz;rw[getElem?_map,gz]at hx;have ex:val zs[i]=x:=Option.some.inj hx;have et:zs.take (i+1)=zs.take i++[zs[i]]:=bR gz;subst ex;generalize zs[i]=z at gz mz et⊢;refine elt z σ0 H2 _ hσ0 mz s1 ⟨ys,hl⟩ λσ2 y H5 hσ2 s5 r5=>⟨s5 _ _ hl,zs.length-(i+1),by omega,rfl,hlt,hσ2,aD hp (s1.trans s5),ac,?_⟩;rw[et];exact Paired.snoc (grow ((Ext.of s5).trans Ext.upd) hys) (hR _ _ _ _ r5 Ext.upd)
 ·have e:i=zs.length:=by omega
  subst e;have st:=S.stop H' s1;rw[length_map]at st;refine .inl ⟨st,fin ys H' s1 hl ?_⟩;rw[take_length]at hys;exact hys
end L2
namespace TK
open PySem L2
instance decNd:DecidableEq (TW.Nd Str):=λa b=>Classical.propDecidable _
end TK
namespace L2
open PySem PySem.Spec PyProof.Rows
section
variable{X:Cx}
theorem hX(hc:X.calm=true):bG X (.builtin "sorted") (λxs H Q=>∃d kvs,∃ns:List Int,xs=[.ref d]∧Rd H d (.dK kvs)∧kvs.map (·.1)=ns.map (Sum.inl:Int→Key)∧ns.Nodup∧ns.length≤60 ∧
  ∀ms:List Int,ms.Perm ns→ms.Pairwise (λa b=>a<b)→∀p,H p=none→Q (.ref p) (upd H p (.lst (ms.map V.int)))):=by
 intro pins s σ H xs us Q I r h;obtain⟨d,kvs,ns,rfl,hH,hks,hnd',h60,q⟩:=h;obtain⟨u,rfl,ru⟩:=cz r;cases ru;obtain⟨hz,hsm,vs0,rel,dd⟩:=I.dK hH;obtain⟨ep,da⟩:=dd.dictAt;have hzv:vs0.length≤sizeLine:=by rw[←rel.length];exact hz
 refine SRT.hU (κ:=oneType') (PySem.W.kdl_dict hsm) (I.ok.hd hc) da hzv λh1 tk vs hk1 hlt1 hit=>?_;have rv:ap (ns.map V.int) vs:=by
  have:=qV rel hit;have e:(kvs.map λp=>kV p.1)=ns.map V.int:=by
   have:=congrArg (List.map kV) hks;rw[map_map,map_map]at this;exact this
  rw[e]at this;simpa using this
 have hvl:vs.length=ns.length:=by rw[←rv.length,length_map]
 have gd:∀i,i<ns.length→∃t,vs.getD i Value.none=.int (ns.getD i 0) t:=λi hi=>by
  obtain⟨v,hv,r⟩:=rv.get (i:=i) (x:=.int (ns.getD i 0)) (by rw[getElem?_map,(aI (d:=(0:Int)) hi).2];rfl);obtain⟨t,rfl⟩:=r;exact⟨t,by rw[getD_eq_getElem?_getD,hv];rfl⟩
 refine⟨λi j=>decide (ns.getD i 0<ns.getD j 0),⟨λi _=>by simp,λi j k _ _ _ h1 h2=>?_,λi j hi hj hij=>?_⟩,by omega,λA' s' _ _ Q' h2 hQ=>?_,λA' s' _ _ i j C hi hj hC=>?_,λp h' hrow hup kp hg=>?_⟩
 ·simp only[decide_eq_true_eq]at *;omega
 ·simp only[decide_eq_true_eq];have:ns.getD i 0≠ns.getD j 0:=by
   rw[getD_eq_getElem?_getD,getD_eq_getElem?_getD,getElem?_eq_getElem (by omega),getElem?_eq_getElem (by omega)];exact λe=>hij ((getElem_inj hnd').mp e)
  omega
 ·rw[ksk_kind (keys:=vs.toArray) (kz:=ns) (by simpa using ju rv) (by rw[size_toArray];omega)];exact wpAny_pure hQ
 ·obtain⟨t1,e1⟩:=gd i (by omega);obtain⟨t2,e2⟩:=gd j (by omega);rw[e1,e2];exact kat_lt_int hC
 ·obtain⟨c,hg⟩:=hg;rw[hvl]at hrow hup;have hin:∀i∈p.toList,i<ns.length:=λi hi=>mem_range.mp (hrow.perm.mem_iff.mp hi);have hperm2:(p.toList.map λi=>ns.getD i 0).Perm ns:=by
   refine(hrow.perm.map _).trans ?_;have:(List.range ns.length).map (λi=>ns.getD i 0)=ns:=by
    apply ext_getElem?;intro i;rw[getElem?_map]
    by_cases hi:i<ns.length
    ·rw[getElem?_range hi,(aI (d:=(0:Int)) hi).2];rfl
    ·rw[getElem?_eq_none (by rw[length_range];omega),getElem?_eq_none (by omega)];rfl
   rw[this]
  have hpl:p.size=ns.length:=hrow.size;have hpw:(p.toList.map λi=>ns.getD i 0).Pairwise (λa b=>a<b):=by
   rw[pairwise_iff_getElem];intro i j hi hj hij;have hi':i<p.size:=by rw[length_map,length_toList]at hi;exact hi
   have hj':j<p.size:=by rw[length_map,length_toList]at hj;exact hj
   have:=hup i j hij (by omega);simp only[]at this;rw[getD_eq_getD_getElem?,getD_eq_getD_getElem?,Array.getElem?_eq_getElem hi',Array.getElem?_eq_getElem hj']at this;simpa using this
  refine⟨.ref h1.objs.size,_,I.laid (t':=tk) (o:=.lst ((p.toList.map λi=>ns.getD i 0).map V.int)) kp (le_of_lt hlt1) ⟨?_,_,c,fq rv p.toList hin,hg⟩,rfl,q _ hperm2 hpw _ (I.hok.fresh (le_of_lt hlt1))⟩;rw[length_map,hperm2.length_eq,sizeLine_eq];omega
end
end L2
namespace TW
section
variable{S:Type}
end
end TW
namespace L2
open PySem PySem.Spec PyProof.Rows
end L2
namespace TK
open PySem L2
end TK
namespace L2
open PySem PySem.Spec PyProof.Rows
section
variable{X:Cx}{tg:Expr}
end
end L2
namespace L2
open PySem PyProof PyProof.Rows
section
variable{X:Cx}{pos:Pos}
end
end L2
namespace L2
open PySem PySem.Spec PyProof.Rows
def rF(CX:CXT)(P:Program)(w:World)(K:PySem.W.Frag)(mg:Str→Option Value)(base:Heap)(N:List Str)(qual:Str)(scope:Scope)(f:Addr)(cd:Value)(cl:List (Str×Addr))(A:Around)(outer:List Env)(s:Shared)(H:Hp)(E:XK):Cx where
 prog:=P
 w:=w
 K:=K
 mg:=mg
 base:=base
 A:=A.deeper (envX qual scope s.heap.objs.size f cd cl)
 N:=N
 s₀:=s
 H₀:=H
 env:=envX qual scope s.heap.objs.size f cd cl
 outer:=outer
 stack:=envX qual scope s.heap.objs.size f cd cl::outer
 ex:=[]
 calm:=true
 fn:=λ_=>false
 pn:=[]
 xe:=λe s'=>wpAny (model P w) (A.deeper (envX qual scope s.heap.objs.size f cd cl)) (leaving (envX qual scope s.heap.objs.size f cd cl) e) (λ_ s''=>CX outer H s E e s'') (λe' s''=>CX outer H s E e' s'') s'
structure LaScope(ps:List Str)(scope:Scope)(cl:List (Str×Addr)):Prop where
 kind:scope.kind=.function
 co:scope.isCoroutine=false
 gen:scope.isGenerator=false
 nocell:∀x∈scope.names,x.2≠.cell
 par:∀x∈ps,scope.names.lookup x=some .local
 nd:ps.Nodup
 has:∀x,scope.names.lookup x=some .free→∃c,cl.lookup x=some c
 inj:∀x y c,cl.lookup x=some c→cl.lookup y=some c→x=y
structure Capt(base:Heap)(scope:Scope)(cl:List (Str×Addr))(fs:List Str)(fv:List V):Prop where
 cell:∀x c,cl.lookup x=some c→∃v,base.IsCell c v
 len:fs.length=fv.length
 val:∀(i:Nat) x v,fs[i]?=some x→fv[i]?=some v→scope.names.lookup x=some .free∧∃c u,cl.lookup x=some c∧base.IsCell c (some u)∧aw v u
theorem nc:∀(ps:List Str)(us:List Value),((ps.zip us).map (·.1)).Sublist ps
 |[],_=>by simp
 |_::_,[]=>by simp
 |p::ps,u::us=>by rw[List.zip_cons_cons,map_cons];exact(nc ps us).cons₂ _
theorem kZ{ps:List Str}{us:List Value}{i:Nat}{x:Str}{u:Value}(nd:ps.Nodup)(h1:ps[i]?=some x)(h2:us[i]?=some u):(ps.zip us).reverse.lookup x=some u:=by
 have mem:(x,u)∈(ps.zip us).reverse:=by
  rw[List.mem_reverse];exact mem_of_getElem? (i:=i) (by rw[List.getElem?_zip_eq_some];exact⟨h1,h2⟩)
 have nd2:((ps.zip us).reverse.map (·.1)).Nodup:=by
  rw[List.map_reverse];unfold Nodup;rw[List.pairwise_reverse];exact(nd.sublist (nc ps us)).imp λh=>symm h
 generalize (ps.zip us).reverse=l at mem nd2
 induction l with
 |nil=>cases mem
 |cons a r ih =>
  obtain⟨y,w⟩:=a;rw[map_cons,nodup_cons]at nd2;rcases mem_cons.mp mem with e|e
  ·cases e;rw[lookup_cons,beq_self_eq_true]
  ·have ne:x≠y:=λz=>nd2.1 (by rw[←z];exact mem_map.mpr ⟨(x,u),e,rfl⟩);rw[lookup_cons,show(x==y)=false by simpa using ne]
   exact ih e nd2.2
section
variable{CX:CXT}{P:Program}{w:World}{K:PySem.W.Frag}{mg:Str→Option Value}{base:Heap}{k:Nat}{f c:Addr}{name qual:Str}{params:Arguments}{body:Expr}{scope:Scope}{cl:List (Str×Addr)}{pm ctv:Value}{ps fs:List Str}{fv:List V}{sp:Sp}
theorem pY{A:Around}{outer:List Env}{s:Shared}{H:Hp}{E:XK}{us:List Value}{vs:List V}{h₁:Heap}{tk:Nat}(S:LaScope ps scope cl)(C:Capt base scope cl fs fv)(hd:A.handled=none)(e0:Env0 P w K mg base A outer s H)(hl:vs.length=ps.length)(r:ap vs us)(hns:h₁.Ns s.heap.objs.size (λx=>(ps.zip us).reverse.lookup x))(hk:∀b o,s.heap.get? b=some o→h₁.get? b=some o):
  Inv (rF CX P w K mg base (ps++fs) qual scope f (.ref c) cl A outer s H E) [] (vs.map some++fv.map some) H {s with heap:=h₁,toks:=tk}:=by
 have noA:∀b:Addr,b∉(rF CX P w K mg base (ps++fs) qual scope f (.ref c) cl A outer s H E).ex:=λb z=>absurd (show b∈([]:List Addr)from z) (by simp);have cellB:∀c v,base.IsCell c v→h₁.IsCell c v∧H c=none∧c≠s.heap.objs.size:=λc v ⟨o,e,d⟩=>⟨⟨o,hk c o (e0.bs _ _ e).1,d⟩,(e0.bs _ _ e).2,ne_of_lt (lt_size (e0.bs _ _ e).1)⟩;refine⟨⟨e0.mod,S.kind,rfl,rfl,le_refl _,S.inj,λy hy=>?_,λy c h _=>absurd h (by simp[rF]),λ_=>hd,Around.frames_deeper e0.frames,.inr ⟨rfl,rfl⟩,λb z=>absurd z (noA b),e0.bs,e0.bsz,λb _ _=>noA b,λb z=>absurd z (noA b),e0.funs,e0.frf⟩,
  rfl,e0.bare,Un.kept hk,⟨_,hns,λi y v h1 h2 h3=>?_⟩,λy c h=>?_,e0.hok.fresh (le_refl _),λy c h=>?_,λp hp=>absurd (show p∈([]:List (Addr×Obj))from hp) (by simp),e0.hok.kept hk,?_⟩
 ·have hy:scope.names.lookup y=some .cell∨scope.names.lookup y=some .free:=hy;rcases hy with hy|hy
  ·exact absurd rfl (S.nocell _ (PySem.mem_of_lookup hy))
  ·exact S.has y hy
 ·have h1:(ps++fs)[i]?=some y:=h1
  by_cases hi:i<ps.length
  ·rw[getElem?_append_left hi]at h1;rw[getElem?_append_left (by rw[length_map];omega),getElem?_map]at h2;cases e:vs[i]? with
   |none=>rw[e]at h2;cases h2
   |some a =>
    rw[e]at h2;cases h2;obtain⟨u,hu,rv⟩:=r.get e;exact⟨u,rv,.inl ⟨S.par y (mem_of_getElem? h1),kZ S.nd h1 hu⟩⟩
  ·rw[getElem?_append_right (by omega)]at h1;rw[getElem?_append_right (by rw[length_map];omega),length_map,hl,getElem?_map]at h2;cases e:fv[i-ps.length]? with
   |none=>rw[e]at h2;cases h2
   |some a =>
    rw[e]at h2;cases h2;obtain⟨g1,cc,u,g2,g3,rv⟩:=C.val _ _ _ h1 e;exact⟨u,rv,.inr ⟨.inr g1,cc,g2,(cellB _ _ g3).1⟩⟩
 ·obtain⟨v,hv⟩:=C.cell y c h;exact⟨v,(cellB _ _ hv).1⟩
 ·obtain⟨v,hv⟩:=C.cell y c h;exact(cellB _ _ hv).2.1
 ·show _=(ps++fs).length;rw[length_append,length_append,length_map,length_map,hl,C.len]
end
def cdφ(c:Addr)(qual:Str)(h:Heap):Prop:=h.CodeRec (.ref c) qual
theorem la{c:Addr}{qual:Str}:∀h1 h2:Heap,cdφ c qual h1→(∀o,h1.get? c=some o→h2.get? c=some o)→cdφ c qual h2:=λh1 h2 h k=>by
 obtain⟨c',oc,vs,tq,e1,e2,e3⟩:=h;cases e1;exact⟨c,oc,vs,tq,rfl,k _ e2,e3⟩
theorem pZ{c:Addr}{qual:Str}{h:Heap}(x:cdφ c qual h):∃o,h.get? c=some o:=by
 obtain⟨c',oc,vs,tq,e1,e2,e3⟩:=x;cases e1;exact⟨oc,e2⟩
def cO(H:Hp)(P:Addr)(qual:Str):Prop:=∃ps:Array Value,H P=some (.tbl ps)∧TriplesOk ps.toList∧∀pos cv,codeAmong pos ps.toList=some cv→∃c,cv=.ref c∧H c=some (.ext (cdφ c qual))
theorem cO.start{H:Hp}{P:Addr}{qual:Str}(h:H P=some (.tbl #[])):cO H P qual:=⟨#[],h,trivial,λpos cv e=>by cases e⟩
theorem iU{pos:Pos}{a b:Int}{t u:Tok}{v cv:Value}:∀{l:List Value},TriplesOk l→codeAmong pos (l++[.int a t,.int b u,v])=some cv→codeAmong pos l=some cv∨cv=v
 |[],_,h=>by
  have h:(if a==pos.line&&b==pos.col then some v else codeAmong pos [])=some cv:=h
  split at h
  ·exact .inr (Option.some.inj h).symm
  ·cases h
 |.int x t1::.int y t2::c::rest,ht,h=>by
  have h:(if x==pos.line&&y==pos.col then some c else codeAmong pos (rest++[.int a t,.int b u,v]))=some cv:=h
  show(if x==pos.line&&y==pos.col then some c else codeAmong pos rest)=some cv∨cv=v
  split at h
  ·rename_i e;rw[if_pos e];exact .inl h
  ·rename_i e;rw[if_neg e];exact iU (show TriplesOk rest from ht) h
theorem fZ{a b:Int}{t u:Tok}{v:Value}:∀{l:List Value},TriplesOk l→TriplesOk (l++[.int a t,.int b u,v])
 |[],_=>trivial
 |.int x t1::.int y t2::c::rest,ht=>fZ (l:=rest) ht
def dS(P:Addr)(H H':Hp):Prop:=∀b o,b≠P→H b=some o→H' b=some o
theorem dS.refl(P:Addr)(H:Hp):dS P H H:=λ_ _ _ h=>h
def BmB(base:Heap)(mg:Str→Option Value):Prop:=∃bm o,mg "__builtins__"=some (.ref bm)∧bm≠builtinsNs∧base.get? bm=some o∧o.cls=.type "module"∧o.dict=some builtinsNs∧o.data=.plain
section
variable{X:Cx}{pins:List (Addr×Obj)}{σ:St}{H:Hp}{s:Shared}
theorem Inv.tab{P:Addr}{ps more:Array Value}{h':Heap}{t':Nat}(I:Inv X pins σ H s)(hP:H P=some (.tbl ps))(k:∀b o,b≠P→s.heap.get? b=some o→h'.get? b=some o)(hP':h'.get? P=some {cls:=.none,data:=.fields (ps++more)}):Inv X pins σ (upd H P (.tbl (ps++more))) {s with heap:=h',toks:=t'}:=by
 have ne:∀b,H b=none→b≠P:=λb n z=>by rw[z,hP]at n;cases n
 refine I.un (t':=t') ⟨λb o e n _ _=>k b o (ne b n) e,λb o e n _ _=>⟨o.slots,k b o (ne b n) e⟩,λb o e n _=>by rw[ah (ne b n)];exact n,λb o e _=>?_,λb xs e=>?_,λb o u e=>?_,λb qs e=>?_⟩ λb u e=>?_
 ·by_cases hb:b=P
  ·rw[hb];exact⟨_,hP'⟩
  ·exact⟨o,k b o hb e⟩
 ·rw[ah (λz=>by rw[z,hP]at e;cases e)];exact e
 ·rw[ah (λz=>by rw[z,hP]at e;cases e)];exact e
 ·by_cases hb:b=P
  ·subst hb;rw[hP]at e;cases e;exact⟨more,ac⟩
  ·exact⟨#[],by rw[ah hb,e];simp⟩
 ·by_cases hb:b=P
  ·subst hb;rw[ac]at e;cases e;exact hP'
  ·rw[ah hb]at e;refine(I.hok b u e).stay (λc v hc q=>k c v (λz=>?_) q) (λc q=>?_) λc xs q=>?_
   ·rcases hc with hc|hc
    ·exact hb (hc.symm.trans z)
    ·rw[z,hP]at hc;cases hc
   ·rw[ah (λz=>by rw[z,hP]at q;cases q)];exact q
   ·rw[ah (λz=>by rw[z,hP]at q;cases q)];exact q
theorem rG{c0 P:Addr}{params:Arguments}{body:Expr}{scope:Scope}{pos:Pos}{cl:List (Str×Addr)}{Q:Value→Shared→Prop}{E:Value→Shared→Prop}(I:Inv X pins σ H s)(C0:CodeHd X.base c0 P)(hc:X.env.code=.ref c0)(Bm:BmB X.base X.mg)(T:cO H P (X.env.qual++"<lambda>"))(hdef:defaultsOf params X.env=([],[]))(hcl:closureFor scope X.env=pure cl)(h:∀f c pm ctv H' s',dS P H H'→cO H' P (X.env.qual++"<lambda>")→H' c=some (.ext (cdφ c (X.env.qual++"<lambda>")))→Inv X pins σ H' s'→s'.heap.get? f=some (kla_obj "<lambda>" (X.env.qual++"<lambda>") params body scope cl pm c ctv)→s.heap.objs.size≤f→H' f=none→(∀b v,s.heap.IsCell b v→H b=none→s'.heap.IsCell b v)→Q (.ref f) s'):
  wpAny (model X.prog X.w) X.A (eval (.Lambda params body scope pos) X.env) Q E s:=by
 obtain⟨ps,hP,ht,hq⟩:=T;have hPs:s.heap.get? P=some (tabObj ps):=I.hok P _ hP;have hg:s.heap.Ns mainGlobals X.mg:=I.ok.mod.glob.keeps I.bk;have hgP:mainGlobals≠P:=λq=>by
  obtain⟨o,es,ep,e,hd,_⟩:=I.ok.mod.glob;have:=(I.bs _ _ e).2;rw[q,hP]at this;cases this
 have hb:s.heap.BuiltinsAt X.mg P:=by
  obtain⟨bm,ob,b1,b2,b3,b4,b5,b6⟩:=Bm;refine⟨bm,ob,b1,b2,λq=>?_,λq=>?_,I.bk _ _ b3,b4,b5,b6⟩
  ·obtain⟨o,es,ep,e,hd,_⟩:=I.ok.mod.glob;rw[q,e]at b3;cases b3;rw[hd]at b6;cases b6
  ·have:=(I.bs _ _ b3).2;rw[q,hP]at this;cases this
 have C:=C0.keeps I.bk;have cellP:∀b v,s.heap.IsCell b v→H b=none→b≠P:=λb v _ n z=>by rw[z,hP]at n;cases n
 refine PySem.W.kla_eval hdef ?_;cases ha:codeAmong pos ps.toList with
 |none =>
  refine PySem.W.kla_makeFunction (mg:=X.mg) hcl I.ok.glob hg hc C hPs ht ha hgP hb λc' ctv h' tk hx hge hlt hrec htb=>?_;have J:=I.tab (t':=tk) (more:=#[rawInt pos.line,rawInt pos.col,.ref c']) (h':=h'.push (kla_obj "<lambda>" (X.env.qual++"<lambda>") params body scope cl ((X.mg "__name__").getD .none) c' ctv)) hP (λb o n e=>get?_push_of_some _ (hx b o n e)) (get?_push_of_some _ htb);have fr:H c'=none:=I.hok.fresh hge;have ncP:c'≠P:=λz=>by rw[z,hP]at fr;cases fr
  have fr':upd H P (.tbl (ps ++ #[rawInt pos.line,rawInt pos.col,.ref c'])) c'=none:=by rw[ah ncP];exact fr
  have hrec':cdφ c' (X.env.qual++"<lambda>") (h'.push (kla_obj "<lambda>" (X.env.qual++"<lambda>") params body scope cl ((X.mg "__name__").getD .none) c' ctv)):=la _ _ hrec λo e=>get?_push_of_some _ e;have Hq:dS P H (upd (upd H P (.tbl (ps ++ #[rawInt pos.line,rawInt pos.col,.ref c']))) c' (.ext (cdφ c' (X.env.qual++"<lambda>")))):=λb o n e=>by
   rw[ah (ar e fr),ah n];exact e
  have sz:s.heap.objs.size≤h'.objs.size:=le_trans hge (le_of_lt hlt);have nfc:h'.objs.size≠c':=ne_of_gt hlt;have frf:H h'.objs.size=none:=I.hok.fresh sz;have nfP:h'.objs.size≠P:=λz=>by rw[z,hP]at frf;cases frf
  have J2:Inv X pins σ (upd (upd H P (.tbl (ps ++ #[rawInt pos.line,rawInt pos.col,.ref c']))) c' (.ext (cdφ c' (X.env.qual++"<lambda>")))) {s with heap:=h'.push (kla_obj "<lambda>" (X.env.qual++"<lambda>") params body scope cl ((X.mg "__name__").getD .none) c' ctv),toks:=tk}:=by
   refine⟨J.ok,J.os,J.bare,⟨λb o e n hb hx=>J.base.keep b o e n hb hx,λb o e n hb hx=>J.base.slot b o e n hb hx,λb o e n hx=>?_,J.base.there,λb xs e=>?_,λb o u e=>?_,λb qs e=>?_⟩,J.loc,J.cell,?_,λx c e=>?_,λp hp=>?_,λb u e=>?_,J.len⟩
   ·have h1:=J.base.free b o e n hx;have:b≠c':=ne_of_lt (lt_of_lt_of_le (lt_of_lt_of_le (lt_size e) I.sz) hge);rw[ah this];exact h1
   ·have h1:=J.base.tups b xs e;rw[ah (ar h1 fr')];exact h1
   ·have h1:=J.base.frzs b o u e;rw[ah (ar h1 fr')];exact h1
   ·obtain⟨m,h1⟩:=J.base.tbls b qs e;exact⟨m,by rw[ah (ar h1 fr')];exact h1⟩
   ·rw[ah (ne_of_lt (lt_of_lt_of_le I.lt hge))];exact J.free
   ·have h1:=J.freeC x c e;obtain⟨v,o,ho,_⟩:=I.cell x c e;rw[ah (ne_of_lt (lt_of_lt_of_le (lt_size ho) hge))];exact h1
   ·obtain⟨g1,g2,g3,g4,g5⟩:=J.pin p hp;obtain⟨i1,_⟩:=I.pin p hp;exact⟨g1,by rw[ah (ne_of_lt (lt_of_lt_of_le (lt_size i1) hge))];exact g2,g3,g4,g5⟩
   ·by_cases hb:b=c'
    ·subst hb;rw[ac]at e;cases e;exact⟨hrec',pZ hrec',la⟩
    ·rw[ah hb]at e;exact(J.hok b u e).stay (λ_ _ _ q=>q) (λc q=>by rw[ah (ar q fr')];exact q) λc xs q=>by rw[ah (ar q fr')];exact q
  refine h h'.objs.size c' _ ctv _ _ Hq ⟨_,by rw[ah (symm ncP)];exact ac,?_,λpos' cv e=>?_⟩ ac J2 (get?_push_size _ rfl) sz ?_ λb v ⟨o,ho,hd⟩ n=>⟨o,get?_push_of_some _ (hx b o (cellP b v ⟨o,ho,hd⟩ n) ho),hd⟩
  ·rw[Array.toList_append];exact fZ ht
  ·rw[Array.toList_append]at e;rcases iU ht e with e|e
   ·obtain⟨c,e1,e2⟩:=hq pos' cv e;refine⟨c,e1,Hq c _ (λz=>?_) e2⟩;rw[z,hP]at e2;cases e2
   ·exact⟨c',e,ac⟩
  ·rw[ah nfc,ah nfP];exact frf
 |some cv =>
  obtain⟨c,rfl,hcx⟩:=hq pos cv ha;refine PySem.W.kla_makeFunctionHit (mg:=X.mg) hcl I.ok.glob hg hc C hPs ht ha hb λctv h' tk hk hsz=>?_;have J:=I.kept (t':=tk) (h':=h'.push (kla_obj "<lambda>" (X.env.qual++"<lambda>") params body scope cl ((X.mg "__name__").getD .none) c ctv)) λb o e=>get?_push_of_some _ (hk b o e);exact h h'.objs.size c _ ctv H _ (dS.refl _ _) ⟨ps,hP,ht,hq⟩ hcx J (get?_push_size _ rfl) hsz (I.hok.fresh hsz) λb v ⟨o,ho,hd⟩ _=>⟨o,get?_push_of_some _ (hk b o ho),hd⟩
end
def bB(X:Cx)(H:Hp)(s:Shared):Heap:=hideAll s.heap (trk s.heap H++frs X.stack)
section
variable{X:Cx}{pins:List (Addr×Obj)}{σ:St}{H:Hp}{s:Shared}
theorem qb{b:Addr}{o:Obj}(e:s.heap.get? b=some o)(n:H b=none)(nf:b∉frs X.stack):(bB X H s).get? b=some o :=
 hideAll_get _ e λhm=>by
  rcases mem_append.mp hm with hm|hm
  ·have q:(H b).isSome=true:=(mem_filter.mp hm).2;rw[n]at q;simp at q
  ·exact nf hm
theorem qc{b:Addr}{o:Obj}(e:(bB X H s).get? b=some o):s.heap.get? b=some o∧H b=none∧b∉frs X.stack:=by
 have e':s.heap.get? b=some o:=of_hideAll (trk s.heap H++frs X.stack) e;have hid:b∉trk s.heap H++frs X.stack:=λhm=>by
  have z:(bB X H s).get? b=none:=hideAll_none _ hm;rw[z]at e;cases e
 refine⟨e',?_,λhm=>hid (mem_append_right _ hm)⟩;cases q:H b with
 |none=>rfl
 |some x=>exact absurd (mem_append_left _ (mem_filter.mpr ⟨mem_range.mpr (lt_size e'),by simp[q]⟩)) hid
theorem cP{h base base':Heap}:∀{l:List Env},h.FunFrames base l→(∀b∈frs l,base'.get? b=none)→h.FunFrames base' l
 |[],_,_=>trivial
 |env::rest,⟨k,⟨L,o,hf,hb,ho,hd⟩,r⟩,hn=>by
  have e:frs (env::rest)=L::frs rest:=by unfold frs;rw[filterMap_cons,hf]
  rw[e]at hn;exact⟨k,⟨L,o,hf,hn L mem_cons_self,ho,hd⟩,cP r λb hb=>hn b (mem_cons_of_mem _ hb)⟩
theorem Inv.bsub(I:Inv X pins σ H s):∀b o,X.base.get? b=some o→(bB X H s).get? b=some o:=λb o e=>by
 obtain⟨h1,h2⟩:=I.bs b o e;refine qb h1 h2 λhm=>?_;have:=(I.stack.mem hm).1;rw[e]at this;cases this
theorem Inv.env0B(I:Inv X pins σ H s):Env0 X.prog X.w X.K X.mg (bB X H s) X.A X.stack s H:=by
 have kp:=I.bsub;obtain⟨mb,hb,hbb⟩:=I.ok.mod.blt;refine⟨I.ok.frames,⟨I.ok.mod.kin.keeps kp,I.ok.mod.glob.keeps kp,⟨mb,hb.keeps kp,hbb⟩,I.ok.mod.nolimit.keeps kp⟩,λb o e=>⟨(qc e).1,(qc e).2.1⟩,le_of_eq (hideAll_size _ _),cP I.stack λb hb=>?_,I.stkFree,I.hok,I.bare⟩;cases q:(bB X H s).get? b with
 |none=>rfl
 |some o=>exact absurd hb (qc q).2.2
end
section
variable{CX:CXT}{P:Program}{w:World}{K:PySem.W.Frag}{mg:Str→Option Value}{base:Heap}{k:Nat}{f c:Addr}{name qual:Str}{params:Arguments}{body:Expr}{scope:Scope}{cl:List (Str×Addr)}{pm ctv:Value}{ps fs:List Str}{fv:List V}{sp:Sp}
theorem rH(ho:base.get? f=some (kla_obj name qual params body scope cl pm c ctv))(hcd:∀vs H Q E,sp vs H Q E→H c=some (.ext (cdφ c qual)))(S:LaScope ps scope cl)(C:Capt base scope cl fs fv)(len:∀vs H Q E,sp vs H Q E→vs.length=ps.length)(hbody:∀(A:Around) (outer:List Env) (s:Shared) (H:Hp) (vs:List V) (Q:VK) (E:XK),Room k (A.deeper (envX qual scope s.heap.objs.size f (.ref c) cl))→sp vs H Q E →
   ∃t,PE (rF CX P w K mg base (ps++fs) qual scope f (.ref c) cl A outer s H E) body t∧t (vs.map some++fv.map some) H Q):
  FnOk P w K mg base CX (k+1) f (kla_fn name qual params body scope cl pm (.ref c) ctv) ps sp:=by
 refine⟨len,λA outer s H args us vs Q E hr e0 hb r hsp=>?_⟩;have hl:=len _ _ _ _ hsp;have kp:∀b o,base.get? b=some o→s.heap.get? b=some o:=λb o e=>(e0.bs b o e).1;have lim:s.heap.NoLimit:=e0.mod.nolimit.keeps kp;have hcd':s.heap.CodeRec (.ref c) qual:=(e0.hok c _ (hcd _ _ _ _ hsp)).1;refine PySem.W.kla_callFunE hr.depth (kp _ _ ho) rfl S.co S.gen rfl hcd' (hb _ _ _ _ ?_);refine wpAny_newFunctionEnv S.nocell (λx hx=>S.par _ (of_mem_zip hx).1) (λh₁ hns hsb=>?_) S.kind;have hk₁:∀b o,s.heap.get? b=some o→h₁.get? b=some o:=λb o e=>hsb.extBut b o (ne_of_lt (lt_size e)) (get?_push_of_some _ e);refine⟨lim.keeps hk₁,PySem.W.kla_codeExpr ?_⟩;obtain⟨t,ht,hq⟩:=hbody A outer s H vs Q E (hr.deeper _) hsp;have I:=pY (CX:=CX) (P:=P) (w:=w) (K:=K) (mg:=mg) (qual:=qual) (f:=f) (c:=c) (E:=E) (tk:=s.toks+(ps.zip us).length) S C hr.hd e0 hl r hns hk₁;exact wpAny_mono (ht [] _ _ H _ I hq) (λu s' ⟨v,H',J,rv,q⟩=>⟨v,H',J.os,J.bare,J.base,J.hok,rv,q⟩) λe s' h=>h
end
structure KSt(P:Program)(w:World)(H:Hp)(fs:List Addr)(s s':Shared):Prop where
 os:s'.os=s.os
 bare:AllBare s'.gens
 hok:HOk P w H s'.heap
 un:Un fs [] H H s.heap s'.heap
section
variable{P:Program}{w:World}{H:Hp}{fs:List Addr}{s s1:Shared}
theorem KSt.low(h0:HOk P w H s.heap)(h:KSt P w H fs s s1){h2:Heap}{t:Nat}(k:∀b o,b<s.heap.objs.size→s1.heap.get? b=some o→h2.get? b=some o):KSt P w H fs s {s1 with heap:=h2,toks:=t}:=by
 refine⟨h.os,h.bare,λb u e=>(h.hok b u e).stay (λc v hc q=>k c v ?_ q) (λ_ q=>q) λ_ _ q=>q,⟨λb o e n hb hx=>k b o (lt_size e) (h.un.keep b o e n hb hx),λb o e n hb hx=>?_,h.un.free,λb o e hx=>?_,h.un.tups,h.un.frzs,h.un.tbls⟩⟩
 ·rcases hc with z|z
  ·rw[z];exact h0.lt e
  ·exact h0.lt z
 ·obtain⟨sl,q⟩:=h.un.slot b o e n hb hx;exact⟨sl,k b _ (lt_size e) q⟩
 ·obtain⟨o',q⟩:=h.un.there b o e hx;exact⟨o',k b o' (lt_size e) q⟩
theorem fb{base h h':Heap}{ex:List Addr}:∀{l:List Env},h.FunFrames base l→Un fs [] H H h h'→(∀b∈frs l,H b=none)→h'.FunFrames base l
 |[],_,_,_=>trivial
 |env::rest,⟨k,⟨L,o,hf,hb,ho,hd⟩,r⟩,u,hn=>by
  have e:frs (env::rest)=L::frs rest:=by unfold frs;rw[filterMap_cons,hf]
  rw[e]at hn;obtain⟨sl,q⟩:=u.any ho (hn L mem_cons_self) (by simp);exact⟨k,⟨L,_,hf,hb,q,hd⟩,fb (ex:=ex) r u λb hb=>hn b (mem_cons_of_mem _ hb)⟩
variable{K:PySem.W.Frag}{mg:Str→Option Value}{base:Heap}{A:Around}{outer:List Env}{k:Nat}{f:Addr}{fd:FuncData}{y:Str}{spK:Sp}{key:V→Str}
theorem qd(F:FnOk P w K mg base CX0 k f fd [y] spK)(hb:cp K fd [y] [])(hr:Room k A)(e0:Env0 P w K mg base A outer s H)(h:KSt P w H (frs outer) s s1)(hsz:s.heap.objs.size≤s1.heap.objs.size){x:V}{u:Value}(r:aw x u)(hsp:spK [x] H (λv H'=>v=.str (key x)∧H'=H) E0):
  wpAny (model P w) A (call (.ref f) [u]) (λv s2=>KSt P w H (frs outer) s s2∧(∃t,v=.str (key x) t)∧∀b o,s.heap.objs.size≤b→s1.heap.get? b=some o→s2.heap.get? b=some o) (λ_ _=>False) s1:=by
 have lowF:∀b∈frs outer,b<s.heap.objs.size:=λb hb=>by
  obtain⟨_,o,ho,_⟩:=e0.funs.mem hb;exact lt_size ho
 have bs:∀b o,base.get? b=some o→s1.heap.get? b=some o∧H b=none:=λb o e=>by
  obtain⟨h1,h2⟩:=e0.bs b o e;refine⟨h.un.keep b o h1 h2 (λhm=>?_) (by simp),h2⟩;have:=(e0.funs.mem hm).1;rw[e]at this;cases this
 have e1:Env0 P w K mg base A outer s1 H:=⟨e0.frames,e0.mod,bs,le_trans e0.bsz hsz,fb (ex:=[]) e0.funs h.un e0.frf,e0.frf,h.hok,h.bare⟩;have KX:K.In s1.heap:=e0.mod.kin.keeps λb o e=>(bs b o e).1;have hb':=hb s1 [u] KX rfl;refine wpAny_call (codeAny_mono (F.run A outer s1 H ⟨[u],[]⟩ [u] [x] _ E0 hr e1 hb' (.cons r .nil) hsp) λrs s2 hq=>?_);cases rs with
 |error e=>exact hq
 |ok fl =>
  cases fl with
  |next=>exact False.elim hq
  |brk=>exact False.elim hq
  |cont=>exact False.elim hq
  |ret v =>
   obtain⟨x',H',os,bare,un,hok,rv,ev,eH⟩:=hq;subst ev eH;refine⟨⟨os.trans h.os,bare,hok,h.un.trans un⟩,rv,λb o hb' e=>un.keep b o e (e0.hok.fresh hb') (λhm=>?_) (by simp)⟩;exact absurd (lowF b hm) (not_lt.mpr hb')
def bE(key:V→Str)(xs:List V)(us:List Value):Prop:=Paired (λ(x:V) (u:Value)=>∃t,u=.str (key x) t) xs us
theorem bE.length:∀{xs:List V}{us:List Value},bE key xs us→us.length=xs.length
 |_,_,.nil=>rfl
 |_,_,.cons _ r=>by rw[length_cons,length_cons,bE.length r]
theorem bE.get:∀{xs:List V}{us:List Value}{i:Nat},bE key xs us→i<xs.length→∃t,us.getD i Value.none=.str (key (xs.getD i .non)) t
 |_,_,i,.nil,h=>absurd h (Nat.not_lt_zero _)
 |_,_,0,.cons r _,_=>r
 |_,_,i+1,.cons _ r,h=>bE.get (i:=i) r (Nat.lt_of_succ_lt_succ h)
theorem bE.all:∀{xs:List V}{us:List Value},bE key xs us→∀u∈us,∃z t,u=.str z t
 |_,_,.nil,u,h=>by cases h
 |_,_,.cons r q,u,h=>by
  rcases mem_cons.mp h with e|e
  ·rw[e];obtain⟨t,e⟩:=r;exact⟨_,t,e⟩
  ·exact bE.all q u e
def dU(key:V→Str)(xs:List V)(i j:Nat):Bool:=HT.bx (key (xs.getD i .non)) (key (xs.getD j .non))
theorem ng{xs:List V}(h:(xs.map key).Nodup):SRT.Ord (dU key xs) xs.length:=by
 refine⟨λi _=>HT.cK _,λi j l _ _ _ h1 h2=>HT.eO h1 h2,λi j hi hj hij=>HT.fo λe=>hij ?_⟩;have hi':i<(xs.map key).length:=by rw[length_map];exact hi
 have hj':j<(xs.map key).length:=by rw[length_map];exact hj
 have e':(xs.map key)[i]=(xs.map key)[j]:=by
  rw[getElem_map,getElem_map];rw[getD_eq_getElem?_getD,getD_eq_getElem?_getD,getElem?_eq_getElem hi,getElem?_eq_getElem hj]at e;exact e
 have pw:=pairwise_iff_getElem.mp h;rcases Nat.lt_trichotomy i j with z|z|z
 ·exact absurd e' (pw i j hi' hj' z)
 ·exact z
 ·exact absurd e'.symm (pw j i hj' hi' z)
theorem qe(F:FnOk P w K mg base CX0 k f fd [y] spK)(hb:cp K fd [y] [])(hr:Room k A)(e0:Env0 P w K mg base A outer s H){a:Addr}{vs:List Value}{xs:List V}{n:Nat}(h:KSt P w H (frs outer) s s1)(ha:s.heap.objs.size≤a)(ho:s1.heap.get? a=some (seqObj "list" vs.toArray n))(rv:ap xs vs)(h64:xs.length<64)(hnd:(xs.map key).Nodup)(hsp:∀x∈xs,spK [x] H (λv H'=>v=.str (key x)∧H'=H) E0){Q:PySem.Fin→Shared→Prop}{E:Value→Shared→Prop}(q:∀(p:Array Nat) s2 c,SRT.Row xs.length p→SRT.Up (dU key xs) p xs.length→KSt P w H (frs outer) s s2→s2.heap.get? a=some (seqObj "list" (toArray (p.toList.map λi=>vs.getD i Value.none)) c)→Q (.done (.ret .none)) s2):
  wpAny (model P w) A (ksk_tree a (.ref f) false) Q E s1:=by
 have lenV:=rv.length;have s1':=SameBut.update s1.heap a (Obj.mapSeq λ_=>(#[]:Array Value));obtain⟨e1,ho1⟩:∃e1,(s1.heap.update a (Obj.mapSeq λ_=>(#[]:Array Value))).get? a=some (seqObj "list" #[] e1):=⟨_,get?_update_seq ho λ_=>#[]⟩;have haL:a<s1.heap.objs.size:=lt_size ho;unfold ksk_tree;refine wpAny_bind (listItems_at ho rfl (wpAny_bind (listUpdate_at ho rfl ?_ (by rw[size_toArray,sizeLine_eq];omega) (zero_le _))));refine wpAny_bind (seqEpoch_at ho1 rfl (wpAny_bind (wpAny_newTuple ?_ (by show vs.length≤_;rw[sizeLine_eq];omega))));refine wpAny_bind (wpAny_newList (wpAny_holding ?_) (zero_le _));have hkS:((s1.heap.update a (Obj.mapSeq λ_=>(#[]:Array Value))).push (seqObj "tuple" vs.toArray 0)).objs.size=s1.heap.objs.size+1:=by rw[size_push',size_update]
 have ho2:(((s1.heap.update a (Obj.mapSeq λ_=>(#[]:Array Value))).push (seqObj "tuple" vs.toArray 0)).push (seqObj "list" #[] 0)).get? a=some (seqObj "list" #[] e1):=get?_push_of_some _ (get?_push_of_some _ ho1);have hk2:(((s1.heap.update a (Obj.mapSeq λ_=>(#[]:Array Value))).push (seqObj "tuple" vs.toArray 0)).push (seqObj "list" #[] 0)).get? (s1.heap.objs.size+1)=some (seqObj "list" #[] 0):=by rw[←hkS];exact get?_push_size _ rfl
 have K2:KSt P w H (frs outer) s {s1 with heap:=((s1.heap.update a (Obj.mapSeq λ_=>(#[]:Array Value))).push (seqObj "tuple" vs.toArray 0)).push (seqObj "list" #[] 0),toks:=s1.toks}:=h.low e0.hok λb o hb e=>get?_push_of_some _ (get?_push_of_some _ ((s1'.2 b (ne_of_lt (lt_of_lt_of_le hb ha))).trans e))
 show wpAny (model P w) A (ksk_rest a (.ref f) false vs.toArray e1 (.ref ((s1.heap.update a (Obj.mapSeq λ_=>(#[]:Array Value))).push (seqObj "tuple" vs.toArray 0)).objs.size)) Q E {s1 with heap:=((s1.heap.update a (Obj.mapSeq λ_=>(#[]:Array Value))).push (seqObj "tuple" vs.toArray 0)).push (seqObj "list" #[] 0)}
 rw[hkS];have hka:s1.heap.objs.size+1≠a:=ne_of_gt (lt_succ_of_lt haL);have hkl:s.heap.objs.size≤s1.heap.objs.size+1:=Nat.le_succ_of_le (le_trans ha (le_of_lt haL));generalize hh:({s1 with heap:=((s1.heap.update a (Obj.mapSeq λ_=>(#[]:Array Value))).push (seqObj "tuple" vs.toArray 0)).push (seqObj "list" #[] 0)}:Shared)=s2
 have ho3:s2.heap.get? a=some (seqObj "list" #[] e1):=by rw[←hh];exact ho2
 have hk3:s2.heap.get? (s1.heap.objs.size+1)=some (seqObj "list" #[] 0):=by rw[←hh];exact hk2
 have K3:KSt P w H (frs outer) s s2:=by rw[←hh];exact K2
 generalize s1.heap.objs.size+1=kS at hka hkl hk3⊢;clear K2 hk2 ho2 hkS ho1 s1' hh;unfold ksk_rest;refine wpAny_bind (wpAny_rule ?_);rw[←Array.forIn_toList];refine wpAny_bind (ksk_fold (λi s'=>KSt P w H (frs outer) s s'∧s'.heap.get? a=some (seqObj "list" #[] e1)∧∃kA c,s'.heap.get? kS=some (seqObj "list" kA c)∧bE key (xs.take i) kA.toList) vs.toArray.toList 0 s2 ⟨K3,ho3,#[],0,hk3,by rw[List.take_zero];exact .nil⟩ ?step ?done)
 case step =>
  rintro j u s' hu ⟨K4,ho4,kA,c,hk4,hka4⟩;rw[List.toList_toArray]at hu;rw[zero_add]at hka4⊢;have hj:j<vs.length:=(List.getElem?_eq_some_iff.mp hu).1;have hjx:j<xs.length:=by omega
  have rj:aw xs[j] u:=by
   obtain⟨u',h1,h2⟩:=rv.get (getElem?_eq_getElem hjx);rw[hu]at h1;cases h1;exact h2
  have hz:kA.size≤vs.length:=by
   have h1:=hka4.length;rw[length_toList,length_take]at h1;omega
  refine wpAny_bind (wpAny_attempt (wpAny_mono (qd F hb hr e0 K4 (le_of_lt (lt_of_le_of_lt hkl (lt_size hk4))) rj (hsp _ (getElem_mem hjx))) (λv s3 hv=>?_) λ_ _ z=>z.elim));obtain⟨K5,⟨t,rfl⟩,kp⟩:=hv;have hk5:=kp _ _ hkl hk4;have ho5:=kp _ _ ha ho4;have sb:=SameBut.update s3.heap kS (Obj.mapSeq (·.push (Value.str (key xs[j]) t)));dsimp only;refine wpAny_bind (listUpdate_at hk5 rfl ?_ (by rw[sizeLine_eq];omega) (le_trans (le_of_eq (Array.size_push ..)) (by rw[sizeLine_eq];omega)));refine wpAny_pure ⟨rfl,K5.low (t:=s3.toks) e0.hok λb o hb' e=>(sb.2 b (ne_of_lt (lt_of_lt_of_le hb' hkl))).trans e,(sb.2 a (symm hka)).trans ho5,kA.push (.str (key xs[j]) t),_,get?_update_seq hk5 (·.push (Value.str (key xs[j]) t)),?_⟩;rw[List.take_add_one,getElem?_eq_getElem hjx,toList_push];exact Paired.snoc hka4 ⟨t,rfl⟩
 case done =>
  rintro s' ⟨K4,ho4,kA,c,hk4,hka4⟩;have hka5:bE key xs kA.toList:=by
   rw[zero_add,List.toList_toArray,List.take_of_length_le (by omega)]at hka4;exact hka4
  have kl:kA.toList.length=vs.length:=by rw[hka5.length];omega
  have kz:kA.size=vs.length:=by rw[←length_toList];exact kl
  refine wpAny_bind (listItems_at hk4 rfl ?_);have fin:∀(st:SortSt)(p:Array Nat),SRT.Row xs.length p→SRT.Up (dU key xs) p xs.length→(arrOf st).map (·.2)=toArray (p.toList.map λi=>vs.getD i Value.none)→failedOf st=none→wpAny (model P w) A (ksk_tail a false e1 (.ref kS) st) Q E s':=λst p hrow hup hout hfl=>by
   have sb:=SameBut.update s'.heap kS (Obj.mapSeq λ_=>(#[]:Array Value));have ho6:=(sb.2 a (symm hka)).trans ho4;have sb2:=SameBut.update (s'.heap.update kS (Obj.mapSeq λ_=>(#[]:Array Value))) a (Obj.mapSeq λ_=>toArray (p.toList.map λi=>vs.getD i Value.none));unfold ksk_tail;dsimp only;rw[hout];simp only[false_eq_true,if_false];refine wpAny_bind (listUpdate_at hk4 rfl (wpAny_bind (wpAny_letGo (wpAny_bind (seqEpoch_at ho6 rfl ?_)))) (by rw[kz,sizeLine_eq];omega) (zero_le _));refine wpAny_bind (listUpdate_at ho6 rfl ?_ (zero_le _) (by rw[size_toArray,length_map,length_toList,hrow.size,sizeLine_eq];omega));rw[hfl];simp only[bne_self_eq_false,false_eq_true,if_false];refine wpAny_pure (q p _ _ hrow hup (K4.low (t:=s'.toks) e0.hok λb o hb' e=>?_) (get?_update_seq ho6 _));exact(sb2.2 b (ne_of_lt (lt_of_lt_of_le hb' ha))).trans ((sb.2 b (ne_of_lt (lt_of_lt_of_le hb' hkl))).trans e)
  unfold ksk_end;dsimp only;simp only[false_eq_true,if_false]
  by_cases h2:vs.toArray.size<2
  ·rw[if_pos h2,if_pos h2];refine wpAny_bind (wpAny_pure ?_);rw[StateT.run_pure];refine wpAny_bind (wpAny_pure (fin _ (toArray (List.range xs.length)) ⟨by simp⟩ (λi j hij hj=>?_) ?_ rfl))
   ·rw[size_toArray]at h2;omega
   ·show(kA.zip vs.toArray).map (·.2)=_;rw[size_toArray]at h2;apply toList_inj.mp;rw[show xs.length=vs.length by omega];have e2:kA=kA.toList.toArray:=by simp
    rw[e2]
    match vs,kA.toList,kl,h2 with
    |[],[],_,_=>simp
    |[v],[w],_,_=>simp
    |_::_::_,_,_,h2=>exact absurd h2 (by simp)
  ·rw[if_neg h2,if_neg h2];rw[size_toArray]at h2;have e2:kA=kA.toList.toArray:=by simp
   rw[e2];refine wpAny_bind (kas_kind (T:=.type "str") (by omega) (λu hu=>?_) (by rfl) (by rfl) ?_)
   ·obtain⟨z,t,rfl⟩:=hka5.all u hu;exact Looks.now
   ·obtain⟨hrow,hup⟩:=SRT.mw (ng hnd) (by omega:1≤xs.length);rw[show xs.length=vs.length by omega]at hrow hup;refine wpAny_bind (wpAny_mono (PySem.W.kat_run (κ:=oneType') (ks:=kA.toList) (vs:=vs) (Q:=λst' s''=>∃p:Array Nat,arrOf st'=p.map (PySem.W.kas_item (kA.toList.toArray.zip vs.toArray))∧failedOf st'=none∧p=SRT.run (dU key xs) (PySem.W.kas_sort vs.length)∧s''=s')
     kl (by omega) (by omega) (λp' st' s'' a1 a2 a3 a4=>⟨p',a2,a3,a4⟩) (SRT.jm (n:=vs.length) (f:=dU key xs) (λi j C hi hj hC=>?_) (λp s''=>p=SRT.run (dU key xs) (PySem.W.kas_sort vs.length)∧s''=s') _ (by rw[show vs.length=xs.length by omega];exact SRT.iK (ng hnd) (by omega)) ⟨rfl,rfl⟩)) ?_ λ_ _ e=>e)
    ·obtain⟨t1,k1⟩:=hka5.get (i:=i) (by omega);obtain⟨t2,k2⟩:=hka5.get (i:=j) (by omega);show wpAny (model P w) A (keyLt' oneType' (kA.toList.getD i Value.none) (kA.toList.getD j Value.none)) C _ s';rw[k1,k2];exact kas_lt_str hC
    ·rintro⟨⟨⟩,st'⟩ s'' ⟨p,har,hf,ep,es⟩;subst es ep;refine fin st' _ (by rw[show xs.length=vs.length by omega];exact hrow) (by rw[show xs.length=vs.length by omega];exact hup) (PySem.W.kat_snds (ks:=kA.toList) (vs:=vs) kl har) hf
end
theorem lQ{α:Type}(xs:List α)(d:α):(List.range xs.length).map (λi=>xs.getD i d)=xs:=by
 apply ext_getElem?;intro i
 by_cases h:i<xs.length
 ·rw[getElem?_map,getElem?_range h,getElem?_eq_getElem h];show some (xs.getD i d)=_;rw[getD_eq_getElem?_getD,getElem?_eq_getElem h];rfl
 ·rw[getElem?_eq_none (by rw[length_map,length_range];omega),getElem?_eq_none (by omega)]
theorem iV{xs:List V}{us:List Value}(r:ap xs us):∀(p:List Nat),(∀i∈p,i<xs.length)→ap (p.map λi=>xs.getD i .non) (p.map λi=>us.getD i Value.none)
 |[],_=>.nil
 |i::p,h=>by
  have hi:=h i mem_cons_self;obtain⟨u,hu,ru⟩:=r.get (getElem?_eq_getElem hi);refine .cons ?_ (iV r p λj hj=>h j (mem_cons_of_mem _ hj));show aw (xs.getD i .non) (us.getD i Value.none);rw[getD_eq_getElem?_getD,getD_eq_getElem?_getD,hu,getElem?_eq_getElem hi];exact ru
theorem qf{α:Type}{xs:List α}{d:α}{p:Array Nat}(r:SRT.Row xs.length p):(p.toList.map λi=>xs.getD i d).Perm xs:=by
 have:=r.perm.map λi=>xs.getD i d;rw[lQ]at this;exact this
theorem tX{key:V→Str}{xs:List V}{p:Array Nat}(r:SRT.Row xs.length p)(u:SRT.Up (dU key xs) p xs.length):(p.toList.map λi=>xs.getD i .non).Pairwise λa b=>HT.bx (key a) (key b)=true:=by
 rw[pairwise_map,pairwise_iff_getElem];intro i j hi hj hij;have hs:=r.size;rw[length_toList]at hi hj;have:=u i j hij (by omega);rw[getD_eq_getD_getElem?,getD_eq_getD_getElem?,Array.getElem?_eq_getElem (by omega),Array.getElem?_eq_getElem (by omega)]at this;exact this
def qg(P:Addr)(qual:Str)(spK:Addr→Addr→Sp)(key:Hp→V→Str)(Q:VK):List V→Hp→Prop
 |[v],H1=>∃l xs,v=.ref l∧H1 l=some (.lst xs)∧xs.length<64∧cO H1 P qual∧∀f c H',dS P H1 H'→cO H' P qual→H' c=some (.ext (cdφ c qual)) →
  (xs.map (key H')).Nodup∧(∀x∈xs,spK f c [x] H' (λv H2=>v=.str (key H' x)∧H2=H') E0)∧∀D ys,ys.Perm xs→ys.Pairwise (λa b=>HT.bx (key H' a) (key H' b)=true)→H' D=none→Q (.ref D) (upd H' D (.lst ys))
 |_,_=>False
def tY(P:Addr)(qual:Str)(spK:Addr→Addr→Sp)(key:Hp→V→Str)(te:TE):TE:=λσ H Q=>te σ H λv H1=>qg P qual spK key Q [v] H1
section
variable{X:Cx}
theorem qh{P c0:Addr}{k:Nat}{y:Str}{p lpos kpos pos:Pos}{params:Arguments}{body:Expr}{scope:Scope}{qual:Str}{spK:Addr→Addr→Sp}{key:Hp→V→Str}{e:Expr}{te:TE}(C0:CodeHd X.base c0 P)(hc:X.env.code=.ref c0)(Bm:BmB X.base X.mg)(hq:X.env.qual++"<lambda>"=qual)(hdef:defaultsOf params X.env=([],[]))(hcl:closureFor scope X.env=pure [])(hK:∀(base':Heap) (f c:Addr) (pm ctv:Value),(∀b o,X.base.get? b=some o→base'.get? b=some o)→base'.get? f=some (kla_obj "<lambda>" qual params body scope [] pm c ctv)→FnOk X.prog X.w X.K X.mg base' CX0 k f (kla_fn "<lambda>" qual params body scope [] pm (.ref c) ctv) [y] (spK f c))(hbn:∀(pm ctv:Value) (c:Addr),cp X.K (kla_fn "<lambda>" qual params body scope [] pm (.ref c) ctv) [y] [])(hr:Room (k+2) X.A)(hg:Gl X "sorted")(hm:X.mg "sorted"=none)(he:PE X e te)(hse:starEach [e] X.env=(false,eval e X.env)::starEach [] X.env:=by rfl)(hpl:(backTo pos (starEach [e] X.env)).any (·.1)=false:=by rfl):
  PE X (.Call (.Name "sorted" p) [e] [⟨some "key",.Lambda params body scope lpos,kpos⟩] pos) (tY P qual spK key te):=by
 intro pins s σ H Q I h;subst hq;refine wpAny_Call_Name_kw (fg I hg hm boot_sorted ?_ (by decide) (by decide));refine PyProof.Rows.callWith_kw ?_ (by rw[hse];rfl) hpl rfl rfl;refine thn (aa he ag hse pos pins s σ H (qg P (X.env.qual++"<lambda>") spK key Q) I h) λus s1 hpt=>?_;obtain⟨vs,H1,I1,r,q0⟩:=hpt;obtain⟨v,rfl⟩:∃v,vs=[v]:=by
  match vs,q0 with
  |[v],_=>exact⟨v,rfl⟩
 obtain⟨l,xs,rfl,hl,h64,T,q⟩:=q0;obtain⟨u,rfl,ru⟩:=cz r;cases ru;show wpAny _ _ (evalAll [(do let v ← eval (.Lambda params body scope lpos) X.env;standAt pos;pure v)]) _ _ s1
 refine wpAny_evalAll_cons (wpAny_bind (rG I1 C0 hc Bm T hdef hcl λf c pm ctv H' s2 off tq hc' J ho hsz hf hcell=>wpAny_bind (wpAny_standAt (wpAny_pure (wpAny_evalAll_nil ?_)))));obtain⟨hnd,hsp,qq⟩:=q f c H' off tq hc';have hl2:H' l=some (.lst xs):=off l _ (λz=>by obtain⟨ps,hP,_⟩:=T;rw[z,hP]at hl;cases hl) hl;have nf:f∉frs X.stack:=λhm=>by
  rcases mem_cons.mp (I1.stkSub f hm)with z|z
  ·have:=I1.lt;rw[←z]at this;exact absurd this (not_lt.mpr hsz)
  ·exact I1.nofs hsz z
 obtain⟨_,its,n,rv,hol⟩:=J.hok l _ hl2;have lenV:=rv.length;have F:=hK _ f c pm ctv J.bsub (qb ho hf nf);show wpAny _ _ (call (.builtin "sorted") [.ref l] [("key",.ref f)]) _ _ s2;refine call_function_entry_kw kind_sorted plain_sorted entry_sorted (ksk_s1 _ _) ?_;unfold Builtin.«sorted»;refine wpAny_bind (m:=checkCount "sorted" 1 1 _) (wpAny_pure (wpAny_bind (collect_list ⟨_,hol,rfl,n,rfl⟩ ?_ (by rw[sizeLine_eq];omega))));refine wpAny_bind (wpAny_newList ?_ (by rw[sizeLine_eq];omega));have hz:((s2.heap.push (seqObj "list" #[] 0)).update s2.heap.objs.size (Obj.mapSeq (· ++ its.toArray))).objs.size=s2.heap.objs.size+1:=by
  rw[size_update,size_push']
 have hoL:(((s2.heap.push (seqObj "list" #[] 0)).update s2.heap.objs.size (Obj.mapSeq (· ++ its.toArray))).push (seqObj "list" its.toArray 0)).get? (s2.heap.objs.size+1)=some (seqObj "list" its.toArray 0):=by
  rw[←hz];exact get?_push_size _ rfl
 have low:∀b o,b<s2.heap.objs.size→s2.heap.get? b=some o→(((s2.heap.push (seqObj "list" #[] 0)).update s2.heap.objs.size (Obj.mapSeq (· ++ its.toArray))).push (seqObj "list" its.toArray 0)).get? b=some o:=λb o hb e=>by
  rw[get?_push_ne _ _ _ (by rw[hz];exact ne_of_lt (lt_succ_of_lt hb)),get?_update_ne _ _ _ _ (ne_of_lt hb),get?_push_ne _ _ _ (ne_of_lt hb)];exact e
 have K0:KSt X.prog X.w H' (frs X.stack) s2 s2:=⟨rfl,J.bare,J.hok,Un.refl⟩;have K1:=K0.low (t:=s2.toks) J.hok low;show wpAny _ _ _ _ _ {s2 with heap:=((s2.heap.push (seqObj "list" #[] 0)).update s2.heap.objs.size (Obj.mapSeq (· ++ its.toArray))).push (seqObj "list" its.toArray 0)}
 rw[hz];refine wpAny_bind (wpAny_holding (wpAny_call_entry_kw slot_list_sort ⟨_,hoL,rfl⟩ entry_list_sort ?_ (ksk_l1 _ _)));show wpAny _ _ (Builtin.«list.sort» ⟨[.ref (s2.heap.objs.size+1)],[(ofString "key",.ref f)]⟩) _ _ _;rw[ksk_t1];refine qe (key:=key H') F (hbn pm ctv c) hr.in1.in1 J.env0B.in1.in1 K1 (le_succ _) hoL rv h64 hnd hsp λpp s3 cc hrow hup K3 hD=>⟨_,rfl,wpAny_pure ⟨_,rfl,?_⟩⟩;have fD:H' (s2.heap.objs.size+1)=none:=J.hok.fresh (le_succ _);have lL:(pp.toList.map λi=>xs.getD i V.non).length=xs.length:=by rw[length_map,length_toList];exact hrow.size
 have un:Un (frs X.stack) [] H' (upd H' (s2.heap.objs.size+1) (.lst (pp.toList.map λi=>xs.getD i .non))) s2.heap s3.heap:=by
  refine⟨K3.un.keep,K3.un.slot,λb o e n _=>?_,K3.un.there,λb xs e=>?_,λb o u e=>?_,λb ps e=>?_⟩
  ·rw[ah (ne_of_lt (lt_succ_of_lt (lt_size e)))];exact n
  ·rw[ah (ar e fD)];exact e
  ·rw[ah (ar e fD)];exact e
  ·exact⟨#[],by rw[ah (ar e fD),e];simp⟩
 have hok:HOk X.prog X.w (upd H' (s2.heap.objs.size+1) (.lst (pp.toList.map λi=>xs.getD i .non))) s3.heap:=λb u e=>by
  by_cases hb:b=s2.heap.objs.size+1
  ·subst hb;rw[ac]at e;cases e;refine⟨by rw[lL,sizeLine_eq];omega,_,cc,iV rv pp.toList (λi hi=>?_),hD⟩;exact mem_range.mp (hrow.perm.mem_iff.mp hi)
  ·rw[ah hb]at e;exact(K3.hok b u e).stay (λ_ _ _ z=>z) (λc z=>by rw[ah (ar z fD)];exact z) λc xs z=>by rw[ah (ar z fD)];exact z
 have J3:=J.call' (s':=s3) (ch:=[]) K3.os un hok K3.bare λb z=>absurd z (by simp);exact⟨.ref (s2.heap.objs.size+1),_,J3,rfl,qq _ _ (qf hrow) (tX hrow hup) fD⟩
end
theorem om{P:Program}{w:World}{K:PySem.W.Frag}{mg mb:Str→Option Value}{k:Nat}{fa a:Addr}{fd:FuncData}{x:Str}{sp:Sp}{s₁:Shared}{vs:List Value}{ns:List Int}{tabs:List Addr}(KX:K.In s₁.heap)(hns:s₁.heap.Ns mainGlobals mg)(hb:s₁.heap.Ns builtinsNs mb)(hbb:∀x:Str,x≠"__name__"→mb x=bootBuiltins x)(hlim:s₁.heap.NoLimit)(hg:s₁.gens=#[])(hT:∀t∈tabs,(∃c,CodeHd s₁.heap c t)∧s₁.heap.get? t=some (tabObj #[]))(hKT:∀t∈tabs,K.lookup t=none)(hbm:BmB s₁.heap mg)(ha:s₁.heap.get? a=some {cls:=.type "list",data:=.seq vs.toArray})(hi:IntsAre vs ns)(hl:ns.length≤sizeLine)(hr:Room k callerA)(F:∀base:Heap,K.In base→base.Ns mainGlobals mg→BmB base mg→FnOk P w K mg base CX0 k fa fd [x] sp)(hbind:∀(s:Shared) (u:Value),BindsTo s fd ⟨[u],[]⟩ [(x,u)])(hsp:∀H:Hp,SqL K H a (ns.map V.int)→(∀t∈tabs,H t=some (.tbl #[]))→sp [.ref a] H (λv _=>v=.bl true) λ_ _ _=>False):
  codeAny (model P w) callerA (.call (.ref fa) ⟨[.ref a],[]⟩) (λr s'=>r=.ok (.ret (.bool true))∧OldK s₁.heap s'.heap∧s'.os=s₁.os∧AllBare s'.gens) s₁:=by
 have rv:=iF hi;have lenV:=hi.length;have naT:a∉tabs:=λh=>by
  have:=(hT a h).2;rw[ha]at this;cases this
 have core:∀(H:Hp),SqL K H a (ns.map V.int)→HOk P w H s₁.heap→(∀t∈tabs,H t=some (.tbl #[]))→(∀b o,H b=some o→(b=a∧K.lookup a=none∧∃ob xs,o=.frz ob (.lst xs))∨b∈tabs) →
   codeAny (model P w) callerA (.call (.ref fa) ⟨[.ref a],[]⟩) (λr s'=>r=.ok (.ret (.bool true))∧OldK s₁.heap s'.heap∧s'.os=s₁.os∧AllBare s'.gens) s₁:=by
  intro H hS hok hTt hA;have base_of:∀{b:Addr}{o:Obj},s₁.heap.get? b=some o→H b=none→(ic s₁.heap H).get? b=some o:=λe n=>oz e n;have noA:∀{b:Addr}{o:Obj}{es:Array DictEntry}{ep:Nat},s₁.heap.get? b=some o→o.data=.dict es ep→H b=none:=λ{b o es ep} e d=>by
   cases q:H b with
   |none=>rfl
   |some u =>
    rcases hA b u q with⟨e',_⟩|hm
    ·subst e';rw[ha]at e;cases e;cases d
    ·rw[(hT b hm).2]at e;cases e;cases d
  have nsK:∀{b:Addr}{m:Str→Option Value},s₁.heap.Ns b m→(ic s₁.heap H).Ns b m:=λ{b m} ⟨o,es,ep,e,d,r⟩=>⟨o,es,ep,base_of e (noA e d),d,r⟩;have hKb:K.In (ic s₁.heap H):=λb o e=>base_of (KX b o e) (by
   cases q:H b with
   |none=>rfl
   |some u =>
    rcases hA b u q with⟨e',hk,_⟩|hm
    ·subst e';rw[hk]at e;cases e
    ·rw[hKT b hm]at e;cases e)
  have hM:Mod K mg (ic s₁.heap H):=⟨hKb,nsK hns,⟨mb,nsK hb,hbb⟩,let⟨mc,h1,h2⟩:=hlim;⟨mc,nsK h1,h2⟩⟩;have e0:Env0 P w K mg (ic s₁.heap H) callerA [] s₁ H:=⟨rfl,hM,λb o e=>qw e,le_of_eq (nw _ _),trivial,λb hb=>absurd (show b∈([]:List Addr)from hb) (by simp),hok,.of_eq hg⟩;have hBm:BmB (ic s₁.heap H) mg:=by
   obtain⟨bm,o,b1,b2,b3,b4,b5,b6⟩:=hbm;refine⟨bm,o,b1,b2,base_of b3 ?_,b4,b5,b6⟩;cases q:H bm with
   |none=>rfl
   |some u =>
    rcases hA bm u q with⟨e',_⟩|hm
    ·subst e';rw[ha]at b3;cases b3;cases b6
    ·rw[(hT bm hm).2]at b3;cases b3;cases b6
  refine codeAny_mono ((F _ hKb (nsK hns) hBm).run callerA [] s₁ H ⟨[.ref a],[]⟩ [.ref a] [.ref a] _ _ hr e0 (hbind s₁ (.ref a)) (.cons rfl .nil) (hsp H hS hTt)) λr s' h=>?_;cases r with
  |error e=>exact False.elim h
  |ok fl =>
   cases fl with
   |next=>exact False.elim h
   |brk=>exact False.elim h
   |cont=>exact False.elim h
   |ret u =>
    obtain⟨v,H',os,bare,un,hok',r',q⟩:=h;have q':v=.bl true:=q;subst q';obtain rfl:u=Value.bool true:=r';refine⟨rfl,⟨λb o e=>?_,λb o e=>?_⟩,os,bare⟩
    ·cases q:H b with
     |none=>exact .inl (un.keep b o e q (by intro z;exact absurd (show b∈([]:List Addr)from z) (by simp)) (by simp))
     |some u =>
      rcases hA b u q with⟨e',_,ob,xs,z⟩|hm
      ·subst z;have z2:=un.frzs b ob _ q;obtain⟨e1,_⟩:=hok b _ q;obtain⟨e2,_⟩:=hok' b _ z2;rw[e]at e1;cases e1;exact .inl e2
      ·obtain⟨⟨c,C⟩,e1⟩:=hT b hm;obtain⟨more,e2⟩:=un.tbls b _ (hTt b hm);have e3:s'.heap.get? b=some (tabObj (#[]++more)):=hok' b _ e2;rw[e]at e1;cases e1;exact .inr (.inl ⟨(C.tab e).isCodeTable,rfl,#[],more,rfl,e3⟩)
    ·exact un.there b o e (by simp)
 cases hk:K.lookup a with
 |some o =>
  have e:=KX a o hk;rw[ha]at e;cases e;refine core (λb=>if b∈tabs then some (.tbl #[])else none) (.inr ⟨_,vs.toArray,_,hk,rfl,rfl,rfl,by rw[size_toArray,lenV];exact hl,by simpa using rv⟩) (λb u z=>?_) (λt h=>if_pos h) λb o z=>?_
  ·by_cases hb:b∈tabs
   ·have z':=(if_pos hb).symm.trans z;cases z';exact(hT b hb).2
   ·have z':=(if_neg hb).symm.trans z;cases z'
  ·by_cases hb:b∈tabs
   ·exact .inr hb
   ·have z':=(if_neg hb).symm.trans z;cases z'
 |none =>
  refine core (λb=>if b=a then some (.frz {cls:=.type "list",data:=.seq vs.toArray} (.lst (ns.map V.int)))else if b∈tabs then some (.tbl #[])else none) (.inl (.inr ⟨{cls:=.type "list",data:=.seq vs.toArray},if_pos rfl⟩)) (λb u z=>?_) (λt h=>?_) λb o z=>?_
  ·by_cases hb:b=a
   ·have z':=(if_pos hb).symm.trans z;cases z';subst hb;exact⟨ha,by rw[length_map];exact hl,vs,_,rv,ha⟩
   ·have z1:=(if_neg hb).symm.trans z
    by_cases hm:b∈tabs
    ·have z':=(if_pos hm).symm.trans z1;cases z';exact(hT b hm).2
    ·have z':=(if_neg hm).symm.trans z1;cases z'
  ·have:t≠a:=λz=>naT (by rw[←z];exact h);rw[if_neg this,if_pos h]
  ·by_cases hb:b=a
   ·have z':=(if_pos hb).symm.trans z;exact .inl ⟨hb,hk,_,_,(Option.some.inj z').symm⟩
   ·have z1:=(if_neg hb).symm.trans z
    by_cases hm:b∈tabs
    ·exact .inr hm
    ·have z':=(if_neg hm).symm.trans z1;cases z'
theorem qi{l:PySem.W.OpenLaw}{n k:Nat}{q:Program}{loose:List Str}{XP:(Str→Option Value)→Heap→Prop}{YP:World→Heap→Prop}{d:DefRec}{K:Params→PySem.W.Frag}{sp:World→Sp}{x:Str}{tabs:List Addr}(hn:l.most=some n)(hn2:n≤sizeLine)(hdf:d.params.defaults=[])(hr:Room k callerA)(hY:∀(w:World) (h:Heap),YP w h→(K w.params).In h)(hT:∀(w:World) (h:Heap),YP w h→∀t∈tabs,h.get? t=some (tabObj #[]))(hC:∀w:World,∀t∈tabs,(∃c,codeHdIn (K w.params) c t=true)∧(K w.params).lookup t=none)(F:∀(w:World) (mg:Str→Option Value) (fa:Addr) (h:Heap),(K w.params).In h→h.Ns mainGlobals mg→mg d.name=some (.ref fa) →
   ∃fd:FuncData,(∀(s:Shared) (u:Value),BindsTo s fd ⟨[u],[]⟩ [(x,u)]) ∧
    ∀base:Heap,(K w.params).In base→base.Ns mainGlobals mg→BmB base mg→FnOk l.prog w (K w.params) mg base CX0 k fa fd [x] (sp w))(hsp:∀(w:World) (H:Hp) (a:Addr) (ns:List Int),ns.length≤n→SqL (K w.params) H a (ns.map V.int)→(∀t∈tabs,H t=some (.tbl #[]))→sp w [.ref a] H (λv _=>v=.bl true) λ_ _ _=>False):
  PySem.W.WalkO q loose XP YP l.row.toRowW d [] (λf vs=>PySem.call f vs):=by
 refine Att.jV hn hdf λw s₀ s₁ mg mb fa o pm cd doc a vs ns G Y ho hd hcd hmg hobj hints hlen hg=>?_;have KX:=hY w _ Y;obtain⟨fd,hb,hF⟩:=F w mg fa _ KX G.T.g hmg;exact om KX G.T.g G.T.b G.T.builtins G.T.nolimit hg (λt h=>⟨let⟨c,e⟩:=(hC w t h).1;⟨c,codeHd_of_K KX e⟩,hT w _ Y t h⟩) (λt h=>(hC w t h).2) G.T.bmain hobj hints (le_trans hlen hn2) hr hF hb λH hS hTt=>hsp w H a ns hlen hS hTt
theorem Fun.okT{P:Program}{w:World}{K:PySem.W.Frag}{mg:Str→Option Value}{base:Heap}{x qual:Str}{st:Stmt}{f c0:Addr}{fd:FuncData}{N ps:List Str}{k:Nat}{sp:Sp}(F:Fun K x qual st f fd)(hc:fd.code=.ref c0)(S:FnScope N ps (ae st))(len:∀vs H Q E,sp vs H Q E→vs.length=ps.length)(hbody:∀(A:Around) (outer:List Env) (s:Shared) (H:Hp) (vs:List V) (Q:VK) (E:XK),Room k (A.deeper (envOfC qual (ae st) s.heap.objs.size f (.ref c0)))→sp vs H Q E →
   ∃t,PSs (gb CX0 P w K mg base N qual (ae st) f (.ref c0) A outer s H E).nox (bg st) t∧t {nx:=λ_ H'=>Q .non H',rt:=Q} (start N vs) H):FnOk P w K mg base CX0 (k+1) f fd ps sp:=by
 obtain⟨oc,od,kV,doc,pm,an,cdv,ct,osl,rfl,lk,hcd⟩:=F.ex;obtain rfl:cdv=.ref c0:=hc;refine oJ lk hcd S len λA outer s H vs Q E hr hsp=>?_;obtain⟨t,h,q⟩:=hbody A outer s H vs Q E hr hsp;exact⟨t,h.nox,q⟩
end L2
namespace TW
section
variable{S:Type}[DecidableEq S]
end
section
variable{S:Type}{ns:List (Nd S)}
variable[DecidableEq S]
end
end TW
namespace L2
end L2
namespace TK
open PySem L2
theorem fE{α β:Type}{g:α→β}{l:List α}(h:(l.map g).Nodup){a b:α}(ha:a∈l)(hb:b∈l)(e:g a=g b):a=b:=by
 induction l with
 |nil=>cases ha
 |cons x r ih =>
  rw[map_cons,nodup_cons]at h;rcases mem_cons.mp ha with ea|ha'<;>rcases mem_cons.mp hb with eb|hb'
  ·rw[ea,eb]
  ·exact absurd (mem_map.mpr ⟨b,hb',by rw[←e,ea]⟩) h.1
  ·exact absurd (mem_map.mpr ⟨a,ha',by rw[e,eb]⟩) h.1
  ·exact ih h.2 ha' hb'
def dc(zs:ZN):List V:=zs.map λz=>V.int z.2.num
theorem cx{α:Type}{R:α→α→Prop}(irr:∀a,¬R a a)(asy:∀a b,R a b→¬R b a):∀{l m:List α},l.Pairwise R→m.Pairwise R→(∀x,x∈l↔x∈m)→l=m
 |[],[],_,_,_=>rfl
 |[],b::m,_,_,h=>absurd ((h b).mpr mem_cons_self) (by simp)
 |a::l,[],_,_,h=>absurd ((h a).mp mem_cons_self) (by simp)
 |a::l,b::m,hl,hm,h=>by
  obtain⟨l1,l2⟩:=pairwise_cons.mp hl;obtain⟨m1,m2⟩:=pairwise_cons.mp hm;have e:a=b:=by
   rcases mem_cons.mp ((h a).mp mem_cons_self)with e|h1
   ·exact e
   ·rcases mem_cons.mp ((h b).mpr mem_cons_self)with e|h2
    ·exact e.symm
    ·exact absurd (m1 a h1) (asy _ _ (l1 b h2))
  subst e;rw[cx irr asy l2 m2 λx=>⟨λhx=>?_,λhx=>?_⟩]
  ·rcases mem_cons.mp ((h x).mp (mem_cons_of_mem _ hx))with e|h1
   ·subst e;exact absurd (l1 x hx) (irr _)
   ·exact h1
  ·rcases mem_cons.mp ((h x).mpr (mem_cons_of_mem _ hx))with e|h1
   ·subst e;exact absurd (m1 x hx) (irr _)
   ·exact h1
theorem lg{α β:Type}{g:α→β}{ys ms:List β}(h:ys.Perm ms):∀{zs:List α},ms=zs.map g→∃us:List α,us.map g=ys∧us.Perm zs:=by
 induction h with
 |nil =>
  intro zs e;cases zs with
  |nil=>exact⟨[],rfl,.refl _⟩
  |cons a r=>cases e
 |cons x _ ih =>
  intro zs e;cases zs with
  |nil=>cases e
  |cons a r =>
   injection e with e1 e2
   obtain⟨us,h1,h2⟩:=ih e2;exact⟨a::us,by rw[map_cons,h1,e1],h2.cons a⟩
 |swap x y l =>
  intro zs e
  match zs,e with
  |a::b::r,e =>
   injection e with e1 e2
   injection e2 with e2 e3
   exact⟨b::a::r,by rw[map_cons,map_cons,←e1,←e2,←e3],.swap a b r⟩
 |trans _ _ ih1 ih2 =>
  intro zs e;obtain⟨us,h1,h2⟩:=ih2 e;obtain⟨vs,h3,h4⟩:=ih1 h1.symm;exact⟨vs,h3,h4.trans h2⟩
def aO(k:Int)(z:Addr×Nd):Bool:=decide (z.2.par=k)
structure Kids(zs:ZN)(k:Int)(ys:ZN):Prop where
 perm:ys.Perm (zs.filter (aO k))
 up:ys.Pairwise λa b=>HT.bx a.2.nm b.2.nm=true
def fG:Str:=("children"++".<locals>.")++"<lambda>"
def uW(c:Addr):Sp:=λvs H Q _=>∃z:Addr×Nd,vs=[.ref z.1]∧H z.1=some (.tup (vals z.2))∧H c=some (.ext (cdφ c fG))∧Q (.str z.2.nm) H
def chS(i:Nat):Stmt:=(bg bq).getD i (.Pass ⟨0,0,0,0⟩)
theorem rZ:FnScope ["tree","number","members"] ["tree","number"] (ae bq):=fsc
def rJ(H:Hp)(v:V):Str:=match v with
 |.ref a=>match H a with
  |some (.tup [_,_,.str x,_])=>x
  |_=>""
 |_=>""
theorem rK{H:Hp}{z:Addr×Nd}(h:H z.1=some (.tup (vals z.2))):rJ H (.ref z.1)=z.2.nm:=by
 show(match H z.1 with
  |some (.tup [_,_,.str x,_])=>x
  | _=>"")=_
 rw[h];rfl
section
variable{P:Program}{w:World}{K:PySem.W.Frag}{mg:Str→Option Value}{base:Heap}{f c0 Pt:Addr}{A:Around}{outer:List Env}{s:Shared}{H0:Hp}{E:XK}
abbrev CHX(P:Program)(w:World)(K:PySem.W.Frag)(mg:Str→Option Value)(base:Heap)(f c0:Addr)(A:Around)(outer:List Env)(s:Shared)(H:Hp)(E:XK):Cx:=(gb CX0 P w K mg base ["tree","number","members"] "children" (ae bq) f (.ref c0) A outer s H E).nox
theorem ch2(T:Txt mg)(hr:Room 3 (A.deeper (PyProof.Rows.envOfC "children" (ae bq) s.heap.objs.size f (.ref c0))))(C0:CodeHd base c0 Pt)(Bm:BmB base mg):
  ∃rd,PS (CHX P w K mg base f c0 A outer s H0 E) (chS 2) rd∧∀(D:Ends)(H:Hp)(t l:Addr)(zs ms:ZN)(k:Int),At H zs→H l=some (.lst (aP ms))→ms=zs.filter (aO k)→ms.length<64→(ms.map λz=>z.2.nm).Nodup→cO H Pt fG →
   (∀l' ys H',dS Pt H H'→cO H' Pt fG→Kids zs k ys→H l'=none→H' l'=some (.lst (dc ys))→D.rt (.ref l') H')→rd D [some (.ref t),some (.int k),some (.ref l)] H:=by
 refine⟨_,aK (di (N:=["node"]) (cl:=[]) (k:=1) (js:=[]) (g:=aB 0) rfl (cF rfl (by decide +kernel) (by decide +kernel) (by decide +kernel)) rfl (λi j x h=>by simp at h)
  (aM (qh (k:=1) (y:="node") (qual:=fG) (spK:=λf c=>uW c) (key:=rJ) C0 rfl Bm rfl rfl rfl ?hK ?hbn hr rfl T.sorted (pv 2))) (λs H fp=>al (i:=0) (show(["node"]:List Str).Nodup by decide +kernel) rfl (Or.inl rfl) (Or.inr rfl))
  (λs H fp=>ay (r:=bw K) av (pv 0) ai (λ_ _=>rfl))),?_⟩
 case hK =>
  intro base' f' c pm ctv sub ho;refine rH (k:=0) (fs:=[]) (fv:=[]) ho (λvs H Q E h=>?_) ⟨rfl,rfl,rfl,by decide +kernel,λx hx=>?_,by decide +kernel,λx h=>?_,λx y c h=>by simp at h⟩ ⟨λx c h=>by simp at h,rfl,λi x v h=>by simp at h⟩ (λvs H Q E h=>?_) (λA outer s H vs Q E hr h=>?_)
  ·obtain⟨z,_,_,h,_⟩:=h;exact h
  ·have:x="node":=by simpa using hx
   subst this;rfl
  ·exact absurd rfl ((by decide +kernel:∀y∈_,y.2≠NameKind.free) _ (PySem.mem_of_lookup h))
  ·obtain⟨z,rfl,_⟩:=h;rfl
  ·obtain⟨z,rfl,hz,hc,q⟩:=h;refine⟨_,ay (r:=bw K) av (pv 0) ai (λ_ _=>rfl),?_⟩;exact⟨_,rfl,z.1,_,_,_,rfl,rfl,SqT.of hz,at2 z.2,q⟩
 case hbn=>exact λpm ctv c=>.all λus hl=>match us,hl with | [_],_=>rfl
 intro D H t l zs ms k hA hl em h64 hnd TQ q;subst em;have hmA:∀z∈zs.filter (aO k),H z.1=some (.tup (vals z.2)):=λz hz=>hA z (mem_filter.mp hz).1;refine⟨_,rfl,l,_,rfl,hl,by rw[bo];exact h64,TQ,λf' c H' off tq hc=>?_⟩;have hnP:∀b xs,H b=some (.tup xs)→b≠Pt:=λb xs h z=>by
  obtain⟨ps,hP,_⟩:=TQ;rw[z,hP]at h;cases h
 have hA':∀z∈zs.filter (aO k),H' z.1=some (.tup (vals z.2)):=λz hz=>off _ _ (hnP _ _ (hmA z hz)) (hmA z hz);have hkey:∀z∈zs.filter (aO k),rJ H' (.ref z.1)=z.2.nm:=λz hz=>rK (hA' z hz);have er:aP (zs.filter (aO k))=(zs.filter (aO k)).map λz=>V.ref z.1:=by unfold aP;rw[map_map];rfl
 refine⟨?_,λx hx=>?_,λD' ys' hp hup hD=>?_⟩
 ·rw[er,map_map];show((zs.filter (aO k)).map λz=>rJ H' (V.ref z.1)).Nodup;rw[map_congr_left (g:=λz:Addr×Nd=>z.2.nm) λz hz=>hkey z hz];exact hnd
 ·rw[er]at hx;obtain⟨z,hz,rfl⟩:=mem_map.mp hx;exact⟨z,rfl,hA' z hz,hc,by rw[hkey z hz],rfl⟩
 ·
  have hin:∀v∈ys',∃z∈zs.filter (aO k),v=.ref z.1:=λv hv=>by
   have:=hp.mem_iff.mp hv;rw[er]at this;obtain⟨z,hz,e⟩:=mem_map.mp this;exact⟨z,hz,e.symm⟩
  obtain⟨us,eu,pu⟩:∃us:ZN,us.map (λz=>V.ref z.1)=ys'∧us.Perm (zs.filter (aO k)):=by
   rw[er]at hp;exact lg hp rfl
  have hKids:Kids zs k us:=⟨pu,by
   rw[←eu,pairwise_map]at hup;refine hup.imp_of_mem λ{a b} ha hb h=>?_;rw[hkey a (pu.mem_iff.mp ha),hkey b (pu.mem_iff.mp hb)]at h;exact h⟩
  have hD':upd H' D' (.lst ys') D'=some (.lst ys'):=ac;have sD:=af (o:=.lst ys') hD;refine⟨D',rfl,⟨_,SqL.of hD'⟩,λp hp2=>?_⟩;refine cV (fr:=[]) us (λz=>V.ref z.1) (by rw[pu.length_eq];omega) hp2 (aY (by rw[eu];exact SqL.of hD')) rfl (λz y _=>y=.int z.2.num) (λ_ _ _ _ h _=>h) (λz H2 kk mz s2 _ hk=>?_) (λys2 H2 s2 hp' hys=>?_)
  ·have hz:=pu.mem_iff.mp mz;exact⟨_,rfl,z.1,_,_,_,rfl,rfl,SqT.of (s2 _ _ (sD _ _ (hA' z hz))),at0 z.2,hk _ H2 (Same.refl _) rfl⟩
  ·have ey:=au (f:=λz:Addr×Nd=>V.int z.2.num) hys (λz y _ h=>h);have off2:dS Pt H H2:=λb o n e=>s2 _ _ (sD _ _ (off b o n e));have tq2:cO H2 Pt fG:=by
    obtain⟨ps,h1,h2,h3⟩:=tq;exact⟨ps,s2 _ _ (sD _ _ h1),h2,λpos cv e=>let⟨c,e1,e2⟩:=h3 pos cv e;⟨c,e1,s2 _ _ (sD _ _ e2)⟩⟩
   have hp0:H p=none:=by
    cases e:H p with
    |none=>rfl
    |some o =>
     by_cases z:p=Pt
     ·subst z;obtain⟨ps,h1,_⟩:=tq;rw[sD _ _ h1]at hp2;cases hp2
     ·rw[sD _ _ (off p o z e)]at hp2;cases hp2
   exact q p us H2 off2 tq2 hKids hp0 (by rw[hp',ey];rfl)
def iW(Pt:Addr):Sp:=λvs H Q _=>∃t k zs,vs=[.ref t,.int k]∧Tre H t zs∧0≤k∧k≤60∧(k=0∨∃z∈zs,z.2.num=k∧z.2.st=none)∧cO H Pt fG∧∀l ys H',dS Pt H H'→cO H' Pt fG→Kids zs k ys→H l=none→H' l=some (.lst (dc ys))→Q (.ref l) H'
theorem dA{H H':Hp}{Pt:Addr}{qual:Str}(h:cO H Pt qual)(s:Same H H'):cO H' Pt qual:=by
 obtain⟨ps,h1,h2,h3⟩:=h;exact⟨ps,s _ _ h1,h2,λpos cv e=>let⟨c,e1,e2⟩:=h3 pos cv e;⟨c,e1,s _ _ e2⟩⟩
theorem hZ{zs:ZN}(h:TW.cu (nds zs))(k:Int):((zs.filter (aO k)).map λz=>z.2.nm).Nodup:=by
 unfold TW.cu nds at h;rw[map_map]at h;unfold Nodup at h⊢;rw[pairwise_map]at h⊢;refine(h.sublist filter_sublist).imp_of_mem λ{a b} ha hb hab e=>hab ?_;have e1:a.2.par=k:=by simpa [aO]using (mem_filter.mp ha).2
 have e2:b.2.par=k:=by simpa [aO]using (mem_filter.mp hb).2
 show(a.2.par,a.2.nm)=(b.2.par,b.2.nm);rw[e1,e2,e]
def qj:Sp:=λvs H Q _=>∃d k zs,vs=[.ref d,.int k]∧gW H d zs∧At H zs∧((nds zs).map (·.num)).Nodup∧0≤k∧k≤60∧(k=0∨∃z∈zs,z.2.num=k∧z.2.st=none)∧Q .non H
theorem uX:FnScope ["nodes","number"] ["nodes","number"] (ae tL):=fsc
theorem tZ{CN0:Addr}{fd:FuncData}(F:Fun K "check_folder" "check_folder" tL f fd)(T:Txt mg)(CN:eV P w K mg base 1 "node_of" ["nodes","number"] (kE CN0)):FnOk P w K mg base CX0 2 f fd ["nodes","number"] qj:=by
 obtain⟨fN,fdN,GN,mN,kN,bN⟩:=CN;obtain⟨tt,hT⟩:=T.top;refine F.ok uX (λvs H Q E h=>?_) (λcdv A outer s H vs Q E hr h=>?_)
 ·obtain⟨d,k,zs,rfl,_⟩:=h;rfl
 ·obtain⟨d,k,zs,rfl,hd,hA,hnd,k0,k1,hk,q⟩:=h;refine⟨_,ak (ck (PW.pt (pw_and (aq gE (pv 1) (gf (v:=.int 0) rfl hT ⟨_,rfl⟩) (aG _)) (pw_and1 (aq gh (ay av (am GN hr rfl mN kN bN .nil mH (aa (pv 0) (aa (pv 1) ag))) ai (λ_ _=>rfl)) cg (aG _))))) br aX),?_⟩
  by_cases h0:k=0
  ·subst h0;exact⟨_,rfl,rfl,_,rfl,bZ (bZ q)⟩
  ·obtain⟨z,hz,e,hs⟩:=hk.resolve_left h0;refine⟨_,rfl,rfl,_,rfl,?_⟩;rw[show(!decide (V.int k=V.int 0))=true by simp[h0]];refine dM ⟨_,rfl,_,rfl,d,k,zs,rfl,hd,hnd,k0,k1,λy hy ey=>?_,λhno=>absurd e (hno z hz)⟩;have:y=z:=fE (g:=λz:Addr×Nd=>z.2.num) (by unfold nds at hnd;rw[map_map]at hnd;exact hnd) hy hz (ey.trans e.symm);subst this;refine⟨y.1,_,_,_,rfl,rfl,SqT.of (hA y hy),at3 y.2,rfl,_,rfl,?_⟩;rw[hs];exact bZ q
theorem ua{fd:FuncData}(F:Fun K "children" "children" bq f fd)(hc:fd.code=.ref c0)(T:Txt mg)(C0:CodeHd base c0 Pt)(Bm:BmB base mg)(CB:Has P w K mg base 1 "by_number" ["tree"] gY)(CF:Has P w K mg base 2 "check_folder" ["nodes","number"] qj):FnOk P w K mg base CX0 4 f fd ["tree","number"] (iW Pt):=by
 obtain⟨fB,fdB,GB,mB,kB,bB⟩:=CB;obtain⟨fF,fdF,GF,mF,kF,bF⟩:=CF;refine F.okT hc rZ (λvs H Q E h=>?_) (λA outer s H vs Q E hr h=>?_)
 ·obtain⟨t,k,zs,rfl,_⟩:=h;rfl
 ·obtain⟨t,k,zs,rfl,tr,k0,k1,hk,TQ,q⟩:=h;have hl:=tr.len;have hnd:=bp tr.tr;have hr1:Room 1 _:=hr.mono (by decide);have hr2:Room 2 _:=hr.mono (by decide);obtain⟨r2,p2,h2⟩:=ch2 (P:=P) (w:=w) (K:=K) (outer:=outer) (H0:=H) (E:=E) T hr C0 Bm;refine⟨_,aj (bV (am GF hr2 rfl mF kF bF .nil aJ (aa (am GB hr1 rfl mB kB bB .nil aJ (aa (pv 0) ag)) (aa (pv 1) ag))))
   (aj (ft (ii:=2) (N:=["node","number"]) (cl:=[("number",s.heap.objs.size+1)]) (k:=1) (js:=[1]) (g:=aB 0) rZ.nd rfl (Or.inl rfl) rfl
    (LcOk.mk' ["number"] rfl rfl (by decide +kernel) (by decide +kernel) ?hcl rfl (by decide +kernel)) rfl ?hj (cE (pv 0)) (λs H fp=>al (i:=0) (show(["node","number"]:List Str).Nodup by decide +kernel) rfl (Or.inl rfl) (Or.inr rfl))
    (λs H fp=>aq gD (ay (r:=bw K) av (pv 0) ai (λ_ _=>rfl)) (pv 1) (aG _)) (λs H fp=>pv 0)) (ak p2)),?_⟩
  case hcl =>
   intro y hy;rcases mem_cons.mp hy with e|hy
   ·rw[e];rfl
   ·cases hy
  case hj =>
   intro i j x h1 h2
   match i,h1,h2 with
   |0,h1,h2 =>
    cases h1;cases h2;exact⟨rfl,Or.inr (Or.inl rfl),(show((ae bq).names.lookup ("number":Str)≠some NameKind.local)by decide +kernel),by first|exact Or.inl rfl|exact Or.inr rfl⟩
   |i+1,h1,h2=>simp at h1
  refine⟨_,rfl,t,zs,rfl,tr.tup,tr.nod,by omega,hnd,λd H1 s1 nd1=>⟨_,rfl,d,k,zs,rfl,nd1,tr.nod.same s1,hnd,k0,k1,hk,?_⟩⟩;have ht1:=s1 _ _ tr.tup;refine⟨_,rfl,t,rfl,⟨_,SqT.of ht1⟩,λp hp=>?_⟩;refine bz (fr:=[some (.int k)]) zs (λz=>V.ref z.1) (by omega) hp (jx (by rw[ce];exact SqT.of ht1)) rfl (aO k) (λz y _=>y=.ref z.1) (λ_ _ _ _ h _=>h) (λz H' kk mz s2 _ hk=>?_) (λz H' kk mz _ s2 _ hk=>?_) (λys H' s2 hp' hys=>?_)
  ·refine⟨_,rfl,z.1,_,_,_,rfl,rfl,SqT.of (s2 _ _ (s1 _ _ (tr.nod z mz))),at1 z.2,_,rfl,rfl,_,rfl,?_⟩;have e:decide (V.int z.2.par=V.int k)=aO k z:=by unfold aO;simp
   rw[e];exact hk H' (Same.refl _)
  ·exact⟨_,rfl,hk _ H' (Same.refl _) rfl⟩
  ·have ey:=au (f:=λz:Addr×Nd=>V.ref z.1) hys (λz y _ h=>h);have s12:=s1.trans s2;have hle:(zs.filter (aO k)).length≤zs.length:=length_filter_le _ _;refine h2 _ H' t p zs _ k (tr.nod.same s12) (by rw[hp',ey];unfold aP;rw[map_map];rfl) rfl (by omega) (hZ tr.tr.own k) (dA TQ s12) λl us H2 off tq hK hl0 hl2=>?_;exact q l us H2 (λb o n e=>off b o n (s12 _ _ e)) tq hK (s12.free hl0) hl2
def iX:Sp:=λvs H Q _=>∃t k zs p,vs=[.ref t,.int k]∧Tre H t zs∧0≤k∧k≤60∧(∃z∈zs,z.2.num=k)∧TW.PathTo (nds zs) k p∧∀H',Same H H'→Q (.int p.length) H'
theorem uY:FnScope ["tree","number"] ["tree","number"] (ae dQ):=fsc
theorem uc{CN0:Addr}{fd:FuncData}(F:Fun K "depth_of" "depth_of" dQ f fd)(T:Txt mg)(CP:eV P w K mg base 2 "path_of" ["tree","number"] (gZ CN0)):FnOk P w K mg base CX0 3 f fd ["tree","number"] iX:=by
 obtain⟨fP,fdP,GP,mP,kP,bP⟩:=CP;refine F.ok uY (λvs H Q E h=>?_) (λcdv A outer s H vs Q E hr h=>?_)
 ·obtain⟨t,k,zs,p,rfl,_⟩:=h;rfl
 ·obtain⟨t,k,zs,p,rfl,tr,k0,k1,⟨z,hz,ez⟩,hp,q⟩:=h;refine⟨_,ak (aK (aL bf rfl T.len boot_len (aa (am GP hr rfl mP kP bP .nil mH (aa (pv 0) (aa (pv 1) ag))) ag))),?_⟩;refine⟨_,rfl,_,rfl,t,k,zs,rfl,tr,k0,k1,λz' hz' ez' p' hp' t' H' s' ht'=>?_,λhno=>absurd ez (hno z hz)⟩;have e:=hp'.uniq tr.tr hp;subst e;refine⟨t',_,rfl,.inr (SqT.of ht'),?_⟩;rw[length_map];exact q H' s'
def dB:Sp:=λvs H Q _=>∃t zs x,vs=[.ref t,.str x]∧H t=some (.tup (aP zs))∧At H zs∧zs.length≤100∧∀l H',Same H H'→H l=none→H' l=some (.lst (dc (zs.filter λz=>decide (z.2.nm=x))))→Q (.ref l) H'
theorem rL:FnScope ["tree","name"] ["tree","name"] (ae gq):=fsc
theorem qk{f:Addr}{fd:FuncData}(F:Fun K "named" "named" gq f fd):FnOk P w K mg base CX0 1 f fd ["tree","name"] dB:=by
 refine F.ok rL (λvs H Q E h=>?_) (λcdv A outer s H vs Q E hr h=>?_)
 ·obtain⟨t,zs,x,rfl,_⟩:=h;rfl
 ·obtain⟨t,zs,x,rfl,ht,hA,hl,q⟩:=h;refine⟨_,ak (aK (bM (N:=["node","name"]) (cl:=[("name",s.heap.objs.size+1)]) (k:=1) (js:=[1]) (g:=aB 0) rfl
    (LcOk.mk' ["name"] rfl rfl (by decide +kernel) (by decide +kernel) ?hcl rfl (by decide +kernel)) rfl ?hj (cE (pv 0)) (λs H fp=>al (i:=0) (show(["node","name"]:List Str).Nodup by decide +kernel) rfl (Or.inl rfl) (Or.inr rfl))
    (λs H fp=>aq gD (ay (r:=bw K) av (pv 0) ai (λ_ _=>rfl)) (pv 1) (aG _)) (λs H fp=>ay (r:=bw K) av (pv 0) ai (λ_ _=>rfl)))),?_⟩
  case hcl =>
   intro y hy;rcases mem_cons.mp hy with e|hy
   ·rw[e];rfl
   ·cases hy
  case hj =>
   intro i j x h1 h2
   match i,h1,h2 with
   |0,h1,h2 =>
    cases h1;cases h2;exact⟨rfl,Or.inr (Or.inl rfl),(show((ae gq).names.lookup ("name":Str)≠some NameKind.local)by decide +kernel),by first|exact Or.inl rfl|exact Or.inr rfl⟩
   |i+1,h1,h2=>simp at h1
  refine⟨_,rfl,t,rfl,⟨_,SqT.of ht⟩,λp hp=>?_⟩;refine bz (fr:=[some (.str x)]) zs (λz=>V.ref z.1) (by omega) hp (jx (by rw[ce];exact SqT.of ht)) rfl (λz=>decide (z.2.nm=x)) (λz y _=>y=.int z.2.num) (λ_ _ _ _ h _=>h) (λz H' k mz s1 _ hk=>?_) (λz H' k mz _ s1 _ hk=>?_) (λys H' s1 hp' hys=>?_)
  ·refine⟨_,rfl,z.1,_,_,_,rfl,rfl,SqT.of (s1 _ _ (hA z mz)),at2 z.2,_,rfl,rfl,_,rfl,?_⟩;have e:decide (V.str z.2.nm=V.str x)=decide (z.2.nm=x):=by simp
   rw[e];exact hk H' (Same.refl _)
  ·exact⟨_,rfl,z.1,_,_,_,rfl,rfl,SqT.of (s1 _ _ (hA z mz)),at0 z.2,hk _ H' (Same.refl _) rfl⟩
  ·have ey:=au (f:=λz:Addr×Nd=>V.int z.2.num) hys (λz y _ h=>h);exact q p H' s1 hp (by rw[hp',ey];rfl)
def isF(z:Addr×Nd):Bool:=z.2.st.isSome
def nh:Sp:=λvs H Q _=>∃t zs,vs=[.ref t]∧H t=some (.tup (aP zs))∧At H zs∧zs.length≤100∧∀l H',Same H H'→H l=none→H' l=some (.lst (aP (zs.filter isF)))→Q (.ref l) H'
theorem sa:FnScope ["tree"] ["tree"] (ae cX):=fsc
theorem ud{f:Addr}{fd:FuncData}(F:Fun K "files_of" "files_of" cX f fd):FnOk P w K mg base CX0 1 f fd ["tree"] nh:=by
 refine F.ok sa (λvs H Q E h=>?_) (λcdv A outer s H vs Q E hr h=>?_)
 ·obtain⟨t,zs,rfl,_⟩:=h;rfl
 ·obtain⟨t,zs,rfl,ht,hA,hl,q⟩:=h;refine⟨_,ak (aK (bM (N:=["node"]) (cl:=[]) (k:=1) (js:=[]) (g:=aB 0) rfl (cF rfl (by decide +kernel) (by decide +kernel) (by decide +kernel)) rfl (λi j x h=>by simp at h) (cE (pv 0)) (λs H fp=>al (i:=0) (show(["node"]:List Str).Nodup by decide +kernel) rfl (Or.inl rfl) (Or.inr rfl))
    (λs H fp=>aq gh (ay (r:=bw K) av (pv 0) ai (λ_ _=>rfl)) cg (aG _)) (λs H fp=>pv 0))),?_⟩
  refine⟨_,rfl,t,rfl,⟨_,SqT.of ht⟩,λp hp=>?_⟩;refine bz (fr:=[]) zs (λz=>V.ref z.1) (by omega) hp (jx (by rw[ce];exact SqT.of ht)) rfl isF (λz y _=>y=.ref z.1) (λ_ _ _ _ h _=>h) (λz H' k mz s1 _ hk=>?_) (λz H' k mz _ s1 _ hk=>?_) (λys H' s1 hp' hys=>?_)
  ·refine⟨_,rfl,z.1,_,_,_,rfl,rfl,SqT.of (s1 _ _ (hA z mz)),at3 z.2,rfl,_,rfl,?_⟩;have e:(!decide (stV z.2.st=V.non))=isF z:=by
    unfold isF;cases z.2.st<;>simp[stV]
   rw[←e]at hk;exact hk H' (Same.refl _)
  ·exact⟨_,rfl,hk _ H' (Same.refl _) rfl⟩
  ·have ey:=au (f:=λz:Addr×Nd=>V.ref z.1) hys (λz y _ h=>h);exact q p H' s1 hp (by rw[hp',ey];unfold aP;rw[map_map];rfl)
def inS(a b:Int)(z:Addr×Nd):Bool:=match z.2.st with
 |some i=>decide (a≤i)&&decide (i≤b)
 |none=>false
def iY:Sp:=λvs H Q _=>∃t zs a b,vs=[.ref t,.int a,.int b]∧H t=some (.tup (aP zs))∧At H zs∧zs.length≤100∧∀l H',Same H H'→H l=none→H' l=some (.lst (dc ((zs.filter isF).filter (inS a b))))→Q (.ref l) H'
theorem uZ:FnScope ["tree","low","high"] ["tree","low","high"] (ae cN):=fsc
theorem ue{f:Addr}{fd:FuncData}(F:Fun K "stamped" "stamped" cN f fd)(CF:Has P w K mg base 1 "files_of" ["tree"] nh):FnOk P w K mg base CX0 2 f fd ["tree","low","high"] iY:=by
 obtain⟨fF,fdF,GF,mF,kF,bF⟩:=CF;refine F.ok uZ (λvs H Q E h=>?_) (λcdv A outer s H vs Q E hr h=>?_)
 ·obtain⟨t,zs,a,b,rfl,_⟩:=h;rfl
 ·obtain⟨t,zs,a,b,rfl,ht,hA,hl,q⟩:=h;refine⟨_,ak (aK (bM (N:=["node","low","high"]) (cl:=[("low",s.heap.objs.size+1),("high",s.heap.objs.size+2)]) (k:=1) (js:=[1,2]) (g:=aB 0) rfl
    (LcOk.mk' ["low","high"] rfl rfl (by decide +kernel) (by decide +kernel) ?hcl rfl (by decide +kernel)) rfl ?hj (aM (am GF hr rfl mF kF bF .nil aJ (aa (pv 0) ag))) (λs H fp=>al (i:=0) (show(["node","low","high"]:List Str).Nodup by decide +kernel) rfl (Or.inl rfl) (Or.inr rfl))
    (λs H fp=>oH lX lX (pv 1) (ay (r:=bw K) av (pv 0) ai (λ_ _=>rfl)) (pv 2)) (λs H fp=>ay (r:=bw K) av (pv 0) ai (λ_ _=>rfl)))),?_⟩
  case hcl =>
   intro y hy;rcases mem_cons.mp hy with e|hy
   ·rw[e];rfl
   ·rcases mem_cons.mp hy with e|hy
    ·rw[e];rfl
    ·cases hy
  case hj =>
   intro i j x h1 h2
   match i,h1,h2 with
   |0,h1,h2 =>
    cases h1;cases h2;exact⟨rfl,Or.inr (Or.inl rfl),(show((ae cN).names.lookup ("low":Str)≠some NameKind.local)by decide +kernel),by first|exact Or.inl rfl|exact Or.inr rfl⟩
   |1,h1,h2 =>
    cases h1;cases h2;exact⟨rfl,Or.inr (Or.inl rfl),(show((ae cN).names.lookup ("high":Str)≠some NameKind.local)by decide +kernel),by first|exact Or.inl rfl|exact Or.inr rfl⟩
   |i+2,h1,h2=>simp at h1
  refine⟨_,rfl,t,zs,rfl,ht,hA,hl,λl H1 s1 hl0 hl1=>?_⟩;have hA1:=hA.same s1;have hle:(zs.filter isF).length≤zs.length:=length_filter_le _ _;refine⟨l,rfl,⟨_,SqL.of hl1⟩,λp hp=>?_⟩;refine bz (fr:=[some (.int a),some (.int b)]) (zs.filter isF) (λz=>V.ref z.1) (by omega) hp (aY (by rw[ce];exact SqL.of hl1)) rfl (inS a b) (λz y _=>y=.int z.2.num) (λ_ _ _ _ h _=>h) (λz H' k mz s2 _ hk=>?_) (λz H' k mz _ s2 _ hk=>?_) (λys H' s2 hp' hys=>?_)
  ·obtain⟨mz1,mz2⟩:=mem_filter.mp mz;obtain⟨i,hi⟩:∃i,z.2.st=some i:=isSome_iff_exists.mp mz2;have hz:atI (vals z.2) 3=some (.int i):=by rw[at3];rw[hi];rfl
   refine⟨_,rfl,_,rfl,z.1,_,_,_,rfl,rfl,SqT.of (s2 _ _ (hA1 z mz1)),hz,_,_,rfl,rfl,_,rfl,?_⟩;have e:inS a b z=(decide (a≤i)&&decide (i≤b)):=by unfold inS;rw[hi]
   rw[e]at hk
   by_cases h1:a≤i
   ·rw[decide_eq_true h1]at hk⊢;rw[Bool.true_and]at hk;exact dM ⟨_,rfl,_,_,rfl,rfl,_,rfl,hk H' (Same.refl _)⟩
   ·rw[decide_eq_false h1]at hk⊢;exact bZ ⟨_,rfl,hk H' (Same.refl _)⟩
  ·obtain⟨mz1,mz2⟩:=mem_filter.mp mz;exact⟨_,rfl,z.1,_,_,_,rfl,rfl,SqT.of (s2 _ _ (hA1 z mz1)),at0 z.2,hk _ H' (Same.refl _) rfl⟩
  ·have ey:=au (f:=λz:Addr×Nd=>V.int z.2.num) hys (λz y _ h=>h);exact q p H' (s1.trans s2) (s1.free hp) (by rw[hp',ey];rfl)
end
def gv(xs:List (Int×V))(k:Int):List V:=(xs.filter λx=>decide (x.1=k)).map (·.2)
theorem fc(xs:List (Int×V))(a k:Int)(v:V):gv (xs++[(a,v)]) k=if a=k then gv xs k++[v]else gv xs k:=by
 unfold gv;rw[filter_append]
 by_cases h:a=k
 ·rw[if_pos h,filter_cons_of_pos (by simpa using h),map_append];rfl
 ·rw[if_neg h,filter_cons_of_neg (by simpa using h)];simp
theorem uf(xs:List (Int×V))(k:Int):(gv xs k).length≤xs.length:=by
 unfold gv;rw[length_map];exact length_filter_le _ _
structure Grp(H0 H:Hp)(d:Addr)(L:Int→Addr)(ns:List Int)(xs:List (Int×V)):Prop where
 dict:H d=some (.dK (ns.map λk=>((Sum.inl k:Key),V.ref (L k))))
 d0:H0 d=none
 nd:ns.Nodup
 mem:∀k,k∈ns↔gv xs k≠[]
 at':∀k∈ns,H (L k)=some (.lst (gv xs k))∧H0 (L k)=none
 inj:∀k∈ns,∀k'∈ns,L k=L k'→k=k'
 same:Same H0 H
 len:ns.length≤xs.length
theorem gr{ns:List Int}{L:Int→Addr}{k:Int}:aT (ns.map λk=>((Sum.inl k:Key),V.ref (L k))) (Sum.inl k:Key)=if k∈ns then some (.ref (L k))else none:=by
 induction ns with
 |nil=>rfl
 |cons a r ih =>
  unfold aT at ih⊢;rw[map_cons,find?_cons]
  by_cases h:a=k
  ·subst h;simp
  ·have h1:decide ((Sum.inl a:Key)=Sum.inl k)=false:=by simp[h]
   have h2:(k∈a::r)↔k∈r:=by simp[symm h]
   simp only[h1,h2];exact ih
section
variable{H0 H H':Hp}{d:Addr}{L:Int→Addr}{ns:List Int}{xs:List (Int×V)}
theorem Grp.grow(m:Grp H0 H d L ns xs)(s:Same H H'):Grp H0 H' d L ns xs :=
 ⟨s _ _ m.dict,m.d0,m.nd,m.mem,λk hk=>⟨s _ _ (m.at' k hk).1,(m.at' k hk).2⟩,m.inj,m.same.trans s,m.len⟩
theorem Grp.start(h:H0 d=none):Grp H0 (upd H0 d (.dK [])) d (λ_=>d) [] [] :=
 ⟨ac,h,nodup_nil,λk=>by simp[gv],λk h=>(by cases h),λk h=>(by cases h),af h,le_refl _⟩
theorem Grp.hit{k:Int}{v:V}(m:Grp H0 H d L ns xs)(hk:k∈ns):Grp H0 (upd H (L k) (.lst (gv xs k++[v]))) d L ns (xs++[(k,v)]):=by
 obtain⟨e1,e2⟩:=m.at' k hk;have hd:d≠L k:=λe=>by
  have:=m.dict;rw[e,e1]at this;cases this
 refine⟨by rw[ah hd];exact m.dict,m.d0,m.nd,λj=>?_,λj hj=>⟨?_,(m.at' j hj).2⟩,m.inj,aD e2 m.same,by have:=m.len;rw[length_append];omega⟩
 ·rw[fc,m.mem j]
  by_cases h:k=j
  ·subst h;rw[if_pos rfl];exact⟨λ_=>by simp,λ_=>(m.mem k).mp hk⟩
  ·rw[if_neg h]
 ·rw[fc]
  by_cases h:k=j
  ·subst h;rw[if_pos rfl,ac]
  ·rw[if_neg h,ah λe=>h (m.inj k hk j hj e.symm)];exact(m.at' j hj).1
theorem Grp.fresh{k:Int}{v:V}{q:Addr}(m:Grp H0 H d L ns xs)(hk:k∉ns)(hq:H q=none):
  Grp H0 (upd (upd (upd H q (.lst [])) d (.dK (dD (ns.map λk=>((Sum.inl k:Key),V.ref (L k))) (Sum.inl k:Key) (.ref q)))) q (.lst ([]++[v]))) d (λj=>if j=k then q else L j) (ns++[k]) (xs++[(k,v)]):=by
 have hdq:d≠q:=λe=>by
  have:=m.dict;rw[e,hq]at this;cases this
 have lq:∀j∈ns,L j≠q:=λj h e=>by
  have:=(m.at' j h).1;rw[e,hq]at this;cases this
 have ld:∀j∈ns,L j≠d:=λj h e=>by
  have:=(m.at' j h).1;rw[e,m.dict]at this;cases this
 have q0:H0 q=none:=m.same.free hq;have g0:gv xs k=[]:=by
  cases e:gv xs k with
  |nil=>rfl
  |cons a r=>exact absurd ((m.mem k).mpr (by rw[e];simp)) hk
 have nk:∀j∈ns,j≠k:=λj h e=>hk (by rw[←e];exact h);refine⟨?_,m.d0,?_,λj=>?_,λj hj=>?_,λi hi j hj e=>?_,?_,by have:=m.len;rw[length_append,length_append];show ns.length+1≤xs.length+1;omega⟩
 ·rw[ah hdq,ac,oR _ (by rw[gr,if_neg hk]),map_append];have e1:(ns.map λk=>((Sum.inl k:Key),V.ref (L k)))=ns.map λj=>((Sum.inl j:Key),V.ref (if j=k then q else L j)):=by
   apply map_congr_left;intro j hj;rw[if_neg (nk j hj)]
  have e2:[((Sum.inl k:Key),V.ref q)]=[k].map λj=>((Sum.inl j:Key),V.ref (if j=k then q else L j)):=by
   show _=[((Sum.inl k:Key),V.ref (if k=k then q else L k))];rw[if_pos rfl]
  rw[e1,e2]
 ·rw[nodup_append];exact⟨m.nd,by simp,λa ha b hb=>by
   have:b=k:=by simpa using hb
   subst this;exact nk a ha⟩
 ·rw[fc,mem_append,m.mem j]
  by_cases h:k=j
  ·subst h;rw[if_pos rfl];exact⟨λ_=>by simp,λ_=>.inr (by simp)⟩
  ·rw[if_neg h];have:j∉[k]:=by simp[symm h]
   simp[this]
 ·rcases mem_append.mp hj with hj|hj
  ·have hn:=nk j hj;rw[if_neg hn];refine⟨?_,(m.at' j hj).2⟩;rw[ah (lq j hj),ah (ld j hj),ah (lq j hj),fc,if_neg (symm hn)];exact(m.at' j hj).1
  ·have:j=k:=by simpa using hj
   subst this;rw[if_pos rfl];exact⟨by rw[ac,fc,if_pos rfl,g0],q0⟩
 ·rcases mem_append.mp hi with hi|hi<;>rcases mem_append.mp hj with hj|hj
  ·rw[if_neg (nk i hi),if_neg (nk j hj)]at e;exact m.inj i hi j hj e
  ·have e2:j=k:=by simpa using hj
   rw[if_neg (nk i hi),if_pos e2]at e;exact absurd e (lq i hi)
  ·have e2:i=k:=by simpa using hi
   rw[if_neg (nk j hj),if_pos e2]at e;exact absurd e.symm (lq j hj)
  ·have e1:i=k:=by simpa using hi
   have e2:j=k:=by simpa using hj
   rw[e1,e2]
 ·exact aD q0 (aD m.d0 (m.same.trans (af hq)))
end
def lh(z:Addr×Nd):Int×V:=(z.2.st.getD 0,.int z.2.num)
structure BySt(H0 H:Hp)(zs:ZN)(cs:List (Addr×Int×Addr)):Prop where
 tup:∀c∈cs,H c.1=some (.tup [.int c.2.1,.ref c.2.2])∧H0 c.1=none
 lst:∀c∈cs,H c.2.2=some (.lst (gv ((zs.filter isF).map lh) c.2.1))∧H0 c.2.2=none
 up:(cs.map (·.2.1)).Pairwise λa b:Int=>a<b
 all:∀k,k∈cs.map (·.2.1)↔gv ((zs.filter isF).map lh) k≠[]
 inj:∀c∈cs,∀c'∈cs,c.2.2=c'.2.2→c=c'
 len:cs.length≤zs.length
section
variable{P:Program}{w:World}{K:PySem.W.Frag}{mg:Str→Option Value}{base:Heap}
def li:Sp:=λvs H Q _=>∃t zs,vs=[.ref t]∧H t=some (.tup (aP zs))∧At H zs∧zs.length≤60∧∀l cs H',Same H H'→H l=none→H' l=some (.lst (cs.map λc=>V.ref c.1))→BySt H H' zs cs→Q (.ref l) H'
theorem ql:FnScope ["tree","numbers","node"] ["tree"] (ae cD):=fsc
theorem ug{f:Addr}{fd:FuncData}(F:Fun K "by_stamps" "by_stamps" cD f fd)(T:Txt mg)(CF:Has P w K mg base 1 "files_of" ["tree"] nh):FnOk P w K mg base CX0 2 f fd ["tree"] li:=by
 obtain⟨fF,fdF,GF,mF,kF,bF⟩:=CF;refine F.ok ql (λvs H Q E h=>?_) (λcdv A outer s H vs Q E hr h=>?_)
 ·obtain⟨t,zs,rfl,_⟩:=h;rfl
 ·obtain⟨t,zs,rfl,ht,hA,hl,q⟩:=h;refine⟨_,aj (aE (i:=1) ql.nd rfl (Or.inr rfl) jU)
   (aj (cR PassesOwn.never rfl (aM (am GF hr rfl mF kF bF .nil aJ (aa (pv 0) ag))) (al (i:=2) ql.nd rfl (Or.inl rfl)) (ak (bV (dG plainAttrs_list PySem.F.slot_list_append PySem.F.type_list_append aU
     (dG plainAttrs_dict PySem.F.slot_dict_setdefault PySem.F.type_dict_setdefault dI (pv 1) (aa (ay av (pv 2) ai (λ_ _=>rfl)) (aa (be ag) ag))) (aa (ay av (pv 2) ai (λ_ _=>rfl)) ag)))))
   (ak (aK (di (N:=["stamp","numbers"]) (cl:=[("numbers",s.heap.objs.size+1)]) (k:=1) (js:=[1]) (g:=aB 0) rfl
    (LcOk.mk' ["numbers"] rfl rfl (by decide +kernel) (by decide +kernel) ?hcl rfl (by decide +kernel)) rfl ?hj (aM (aL (hX rfl) rfl T.sorted boot_sorted (aa (pv 1) ag))) (λs H fp=>al (i:=0) (show(["stamp","numbers"]:List Str).Nodup by decide +kernel) rfl (Or.inl rfl) (Or.inr rfl))
    (λs H fp=>aZ (aa (pv 0) (aa (aS (bv hr) (pv 1) (pv 0) (λ_ _=>rfl)) ag))))))),?_⟩
  case hcl =>
   intro y hy;rcases mem_cons.mp hy with e|hy
   ·rw[e];rfl
   ·cases hy
  case hj =>
   intro i j x h1 h2
   match i,h1,h2 with
   |0,h1,h2 =>
    cases h1;cases h2;exact⟨rfl,Or.inr (Or.inl rfl),(show((ae cD).names.lookup ("numbers":Str)≠some NameKind.local)by decide +kernel),by first|exact Or.inl rfl|exact Or.inr rfl⟩
   |i+1,h1,h2=>simp at h1
  refine λd hd=>?_;have z100:∀{n:Nat},n≤100→n<sizeLine:=λh=>az (by omega);have s0:=af (o:=.dK []) hd;refine⟨_,rfl,t,zs,rfl,s0 _ _ ht,hA.same s0,by omega,λl H1 s1 hl0 hl1=>?_⟩;have hle:(zs.filter isF).length≤zs.length:=length_filter_le _ _;have hlF:(aP (zs.filter isF)).length=(zs.filter isF).length:=bo _;have eF:aP (zs.filter isF)=(zs.filter isF).map λz=>V.ref z.1:=by unfold aP;rw[map_map];rfl
  refine⟨l,rfl,⟨_,SqL.of hl1⟩,gB (xs:=aP (zs.filter isF)) (λi σ H'=>∃L ns on,σ=[some (.ref t),some (.ref d),on]∧Grp H H' d L ns (((zs.filter isF).take i).map lh)∧H' l=some (.lst (aP (zs.filter isF)))∧∀k∈ns,L k≠l)
   ⟨_,_,_,rfl,by rw[List.take_zero];exact(Grp.start hd).grow s1,hl1,λk h=>(by cases h)⟩ (λi σ H' _ h=>?_) (λi x σ H' hx h=>?_) (λσ H' h=>?_)⟩
  ·obtain⟨_,_,_,_,_,h,_⟩:=h;exact SqL.of h
  ·obtain⟨L,ns,on,rfl,m,hl2,hL⟩:=h;obtain⟨z,gz,rfl⟩:=cw hx;have mz:=mem_of_getElem? gz;obtain⟨mz1,mz2⟩:=mem_filter.mp mz;obtain⟨st,hst⟩:∃st,z.2.st=some st:=isSome_iff_exists.mp mz2;have ez:((zs.filter isF).take (i+1)).map lh=((zs.filter isF).take i).map lh++[(st,.int z.2.num)]:=by
    rw[take_succ,gz,map_append];show _++[(z.2.st.getD 0,V.int z.2.num)]=_;rw[hst];rfl
   have hz3:atI (vals z.2) 3=some (.int st):=by rw[at3,hst];rfl
   have hpl:(((zs.filter isF).take i).map lh).length≤60:=by rw[length_map,length_take];omega
   have hnl:(ns.map λk=>((Sum.inl k:Key),V.ref (L k))).length≤100:=by rw[length_map];have:=m.len;omega
   have nld:l≠d:=λe=>by rw[e,m.dict]at hl2;cases hl2
   have nlq:∀qa,H' qa=none→l≠qa:=λqa h e=>by rw[e,h]at hl2;cases hl2
   refine⟨_,rfl,.inr (.inr (.inl ⟨rfl,.inl ⟨_,m.dict⟩⟩)),_,rfl,z.1,_,_,_,rfl,rfl,SqT.of (m.same _ _ (hA z mz1)),hz3,zero_le _,λqa hq=>?_⟩;have m':=m.grow (af (o:=.lst []) hq);have hl3:=af (o:=.lst []) hq _ _ hl2;refine⟨d,_,.inl st,.ref qa,rfl,rfl,m'.dict,z100 hnl,λv hv=>?_,λhn=>?_⟩
   ·rw[gr]at hv
    by_cases h:st∈ns
    ·rw[if_pos h]at hv;cases hv;obtain⟨a1,a0⟩:=m'.at' st h;have hz1:upd H' qa (.lst []) z.1=some (.tup (vals z.2)):=m'.same _ _ (hA z mz1);refine⟨.inl ⟨rfl,_,SqL.of a1⟩,_,rfl,z.1,_,_,_,rfl,rfl,SqT.of hz1,at0 z.2,_,_,_,rfl,rfl,a1,z100 (le_trans (uf _ _) (by omega)),?_⟩;exact⟨L,ns,_,rfl,by rw[ez];exact m'.hit h,by rw[ah (symm (hL st h))];exact hl3,hL⟩
    ·rw[if_neg h]at hv;cases hv
   ·rw[gr]at hn
    by_cases h:st∈ns
    ·rw[if_pos h]at hn;cases hn
    ·have hqd:qa≠d:=λe=>by rw[e,m.dict]at hq;cases hq
     have a:upd (upd H' qa (.lst [])) d (.dK (dD (ns.map λk=>((Sum.inl k:Key),V.ref (L k))) (Sum.inl st:Key) (.ref qa))) qa=some (.lst []):=by rw[ah hqd];exact ac
     have hz1:upd (upd H' qa (.lst [])) d (.dK (dD (ns.map λk=>((Sum.inl k:Key),V.ref (L k))) (Sum.inl st:Key) (.ref qa))) z.1=some (.tup (vals z.2)):=by
      have hz0:=m'.same _ _ (hA z mz1);rw[ah λe=>by rw[e,m'.dict]at hz0;cases hz0];exact hz0
     refine⟨.inl ⟨rfl,_,SqL.of a⟩,_,rfl,z.1,_,_,_,rfl,rfl,SqT.of hz1,at0 z.2,qa,[],_,rfl,rfl,a,z100 (zero_le _),?_⟩;have fr:=m.fresh (k:=st) (v:=.int z.2.num) h hq;rw[←ez]at fr;refine⟨_,_,_,rfl,fr,by rw[ah (nlq qa hq),ah nld];exact hl3,λj hj=>?_⟩
     by_cases e:j=st
     ·rw[if_pos e];exact symm (nlq qa hq)
     ·rw[if_neg e];rcases mem_append.mp hj with hj|hj
      ·exact hL j hj
      ·exact absurd (by simpa using hj) e
  ·obtain⟨L,ns,on,rfl,m,hl2,hL⟩:=h;rw[hlF,take_length]at m;have hn60:ns.length≤60:=by have:=m.len;rw[length_map]at this;omega
   refine⟨_,rfl,d,_,ns,rfl,.inl m.dict,by rw[map_map];rfl,m.nd,hn60,λms hp hup g hg=>?_⟩;have sg:=af (o:=.lst (ms.map V.int)) hg;have hg1:upd H' g (.lst (ms.map V.int)) g=some (.lst (ms.map V.int)):=ac;have m1:=m.grow sg;generalize upd H' g (.lst (ms.map V.int))=H2 at sg hg1 m1⊢;refine⟨g,rfl,⟨_,SqL.of hg1⟩,λp hp2=>?_⟩;refine cV (fr:=[some (.ref d)]) ms V.int (by rw[hp.length_eq];omega) hp2 (aY (SqL.of hg1)) rfl (λk y H3=>∃e,y=.ref e∧e≠p∧H2 e=none∧H3 e=some (.tup [.int k,.ref (L k)])) (λk y Ha Hb h ex=>let⟨e,h1,h2,h3,h4⟩:=h;⟨e,h1,h2,h3,ex _ _ h2 h4⟩) (λk H3 kk mk s3 hpp hk=>?_) (λys H3 s3 hp' hys=>?_)
   ·obtain⟨ys0,hpp⟩:=hpp;have hk2:=hp.mem_iff.mp mk;refine⟨_,rfl,_,rfl,_,rfl,d,_,rfl,.inl ⟨_,.inl k,.inl (s3 _ _ m1.dict),rfl,by rw[gr,if_pos hk2]⟩,le2,λe he=>?_⟩;exact hk _ _ (af he) ⟨e,rfl,symm (ar hpp he),s3.free he,ac⟩
   ·obtain⟨bs,e1,e2,e3⟩:=dy (val:=V.ref) (S:=λ(k:Int) (e:Addr)=>H2 e=none∧H3 e=some (.tup [.int k,.ref (L k)])) hys (λk y _ ⟨e,h1,_,h3,h4⟩=>⟨e,h1,h3,h4⟩);have m3:=m1.grow s3;have hbm:∀b∈bs,b.1∈ns:=λb hb=>hp.mem_iff.mp (by rw[←e1];exact mem_map.mpr ⟨b,hb,rfl⟩);have hms:(bs.map λb=>(b.2,b.1,L b.1)).map (·.2.1)=ms:=by rw[map_map,←e1];rfl
    refine q p (bs.map λb=>(b.2,b.1,L b.1)) H3 m3.same (m1.same.free hp2) (by rw[hp',e2,map_map];rfl) ⟨λc hc=>?_,λc hc=>?_,by rw[hms];exact hup,λk=>by rw[hms,hp.mem_iff];exact m.mem k,λc hc c' hc' e=>?_,?_⟩
    ·obtain⟨b,hb,rfl⟩:=mem_map.mp hc;exact⟨(e3 b hb).2,m1.same.free (e3 b hb).1⟩
    ·obtain⟨b,hb,rfl⟩:=mem_map.mp hc;exact m3.at' b.1 (hbm b hb)
    ·obtain⟨b,hb,rfl⟩:=mem_map.mp hc;obtain⟨b',hb',rfl⟩:=mem_map.mp hc';have ek:=m3.inj b.1 (hbm b hb) b'.1 (hbm b' hb') e;have nd:(bs.map (·.1)).Nodup:=by rw[e1];exact hp.nodup_iff.mpr m.nd
     have:b=b':=fE nd hb hb' ek;rw[this]
    ·have h1:=m.len;have h2:=hp.length_eq;rw[length_map]at h1;rw[length_map];have h3:=congrArg length e1;rw[length_map]at h3;omega
theorem qm{A:Around}{k:Nat}(hr:Room k A):A.units+8<cLine:=lt_of_le_of_lt (Nat.add_le_add_left (by decide:8≤64) _) hr.units
structure Wl(H:Hp)(zs:ZN)(cs:List Cp):Prop where
 at':∀c∈cs,nU H c
 up:cs.Pairwise (λa b=>HT.cq a.p b.p=true)
 mem:∀p n,(∃c∈cs,c.p=p∧c.n=n)↔∃z∈zs,z.2.num=n∧TW.PathTo (nds zs) n p
structure Cps(H:Hp)(zs:ZN)(cs:List Cp):Prop where
 at':∀c∈cs,nU H c
 nums:cs.map (·.n)=(nds zs).map (·.num)
 path:∀c∈cs,TW.PathTo (nds zs) c.n c.p
theorem uh{H:Hp}{p:Addr}{zs:ZN}{ys:List V}(hlen:ys.length=zs.length)(h:∀(i:Nat) y,ys[i]?=some y→∃q t z pa,zs[i]?=some z∧y=.ref q∧q≠p∧t≠p∧H q=some (.tup [.ref t,.int z.2.num])∧H t=some (.tup (pa.map V.str))∧TW.PathTo (nds zs) z.2.num pa):
  ∃cs:List Cp,ys=cs.map (λc=>V.ref c.a)∧Cps H zs cs∧∀c∈cs,c.a≠p∧c.t≠p:=by
 have main:∀(ys:List V)(xs:ZN),ys.length=xs.length→(∀(i:Nat) y,ys[i]?=some y→∃q t z pa,xs[i]?=some z∧y=.ref q∧q≠p∧t≠p∧H q=some (.tup [.ref t,.int z.2.num])∧H t=some (.tup (pa.map V.str))∧TW.PathTo (nds zs) z.2.num pa) →
   ∃cs:List Cp,ys=cs.map (λc=>V.ref c.a)∧(∀c∈cs,nU H c∧TW.PathTo (nds zs) c.n c.p∧c.a≠p∧c.t≠p)∧cs.map (·.n)=(nds xs).map (·.num):=by
  intro ys
  induction ys with
  |nil =>
   intro xs hl _;have:xs=[]:=length_eq_zero_iff.mp hl.symm;subst this;exact⟨[],rfl,by simp,rfl⟩
  |cons y ys ih =>
   intro xs hl h;cases xs with
   |nil=>simp at hl
   |cons x xs =>
    obtain⟨cs,e1,e2,e3⟩:=ih xs (by simpa using hl) λi y hy=>by simpa using h (i+1) y (by simpa using hy)
    obtain⟨q,t,z,pa,f1,f2,f3,f4,f5,f6,f7⟩:=h 0 y rfl;have:x=z:=by simpa using f1
    subst this;refine⟨⟨q,t,pa,x.2.num⟩::cs,by simp[e1,f2],λc hc=>?_,by simp[nds]at e3⊢;exact e3⟩;rcases mem_cons.mp hc with rfl|hc
    ·exact⟨⟨f5,f6⟩,f7,f3,f4⟩
    ·exact e2 c hc
 obtain⟨cs,e1,e2,e3⟩:=main ys zs hlen h;exact⟨cs,e1,⟨λc hc=>(e2 c hc).1,e3,λc hc=>(e2 c hc).2.1⟩,λc hc=>(e2 c hc).2.2⟩
theorem Cps.paths_nd{H:Hp}{zs:ZN}{cs:List Cp}(h:Cps H zs cs)(T:TW.Tree1 (nds zs)):(cs.map (·.p)).Nodup:=by
 have hn:(cs.map (·.n)).Nodup:=by rw[h.nums];exact bp T
 unfold Nodup at hn⊢;rw[pairwise_map]at hn⊢;have hp:=h.path;clear h
 induction cs with
 |nil=>exact .nil
 |cons c cs ih =>
  rw[pairwise_cons]at hn⊢;refine⟨λd hd e=>hn.1 d hd ?_,ih hn.2 λx hx=>hp x (by simp[hx])⟩;have h1:=hp c (by simp);have h2:=hp d (by simp[hd]);rw[←e]at h2;exact h1.key T h2
theorem Cps.wl{H:Hp}{zs:ZN}{cs cs':List Cp}(h:Cps H zs cs)(T:TW.Tree1 (nds zs))(hp:cs'.Perm cs)(hs:cs'.Pairwise (λa b=>HT.cq a.p b.p=true)):Wl H zs cs':=by
 refine⟨λc hc=>h.at' c (hp.mem_iff.mp hc),hs,λp n=>?_⟩;constructor
 ·rintro⟨c,hc,rfl,rfl⟩;have hc':=hp.mem_iff.mp hc;have:c.n∈(nds zs).map (·.num):=by rw[←h.nums];exact mem_map.mpr ⟨c,hc',rfl⟩
  obtain⟨n,hn,e⟩:=mem_map.mp this;obtain⟨z,hz,rfl⟩:=mem_map.mp hn;exact⟨z,hz,e,h.path c hc'⟩
 ·rintro⟨z,hz,rfl,hpa⟩;have:z.2.num∈cs.map (·.n):=by rw[h.nums];exact mem_map.mpr ⟨z.2,mem_map.mpr ⟨z,hz,rfl⟩,rfl⟩
  obtain⟨c,hc,e⟩:=mem_map.mp this;refine⟨c,hp.mem_iff.mpr hc,?_,e⟩;have:=h.path c hc;rw[e]at this;exact this.uniq T hpa
def qo:Sp:=λvs H Q _=>∃t zs,vs=[.ref t]∧Tre H t zs∧∀cs l H',Same H H'→Wl H' zs cs→cs.length=zs.length→H' l=some (.lst (cs.map λc=>V.ref c.a))→Q (.ref l) H'
theorem se:FnScope ["tree","nodes"] ["tree"] (ae rm):=fsc
theorem ui{f:Addr}{fd:FuncData}(F:Fun K "walked" "walked" rm f fd)(T:Txt mg)(CB:Has P w K mg base 1 "by_number" ["tree"] gY)(CU:Has P w K mg base 1 "path_up" ["nodes","number"] na):
  FnOk P w K mg base CX0 2 f fd ["tree"] qo:=by
 obtain⟨fB,fdB,GB,mB,kB,bB⟩:=CB;obtain⟨fU,fdU,GU,mU,kU,bU⟩:=CU;refine F.ok se (λvs H Q E h=>?_) (λcdv A outer s H vs Q E hr h=>?_)
 ·obtain⟨t,zs,rfl,_⟩:=h;rfl
 ·obtain⟨t,zs,rfl,tr,k⟩:=h;have hnd:=bp tr.tr;have hl:=tr.len;refine⟨_,aj (aE (i:=1) se.nd rfl (Or.inr rfl) (am GB hr rfl mB kB bB .nil aJ (aa (pv 0) ag)))
   (ak (aK (aL (cY (qm hr)) rfl T.sorted boot_sorted (aa (di (N:=["number","nodes"]) (cl:=[("nodes",s.heap.objs.size+1)]) (k:=1) (js:=[1]) (g:=aB 0) rfl
     (LcOk.mk' ["nodes"] rfl rfl (by decide +kernel) (by decide +kernel) ?hcl rfl (by decide +kernel)) rfl ?hj
    (fV (pv 1)) (λs H fp=>al (i:=0) (show(["number","nodes"]:List Str).Nodup by decide +kernel) rfl (Or.inl rfl) (Or.inr rfl))
    (λs H fp=>aZ (aa (am (X:=bh _ _ _ _ _ _ _) GU hr rfl mU kU bU .nil aJ (aa (pv 1) (aa (pv 0) ag))) (aa (pv 0) ag)))) ag)))),?_⟩
  case hcl =>
   intro y hy;rcases mem_cons.mp hy with e|hy
   ·rw[e];rfl
   ·cases hy
  case hj =>
   intro i j x h1 h2
   match i,h1,h2 with
   |0,h1,h2 =>
    cases h1;cases h2;exact⟨rfl,Or.inr (Or.inl rfl),(show((ae rm).names.lookup ("nodes":Str)≠some NameKind.local)by decide +kernel),by first|exact Or.inl rfl|exact Or.inr rfl⟩
   |i+1,h1,h2=>simp at h1
  refine⟨_,rfl,t,zs,rfl,tr.tup,tr.nod,by omega,hnd,λd H1 s1 nd1=>?_⟩;obtain⟨o,ho⟩:=id nd1;have tr1:=tr.same s1;refine⟨_,rfl,d,o,_,rfl,ho,λp hp=>?_⟩;refine jw (fr:=[some (.ref d)]) zs.length (by omega) hp rfl (λi y H'=>∃q t z pa,zs[i]?=some z∧y=.ref q∧q≠p∧t≠p∧H' q=some (.tup [.ref t,.int z.2.num])∧H' t=some (.tup (pa.map V.str))∧TW.PathTo (nds zs) z.2.num pa) (λi y H1 H2 h ex=>?_) (λi H' hi s2=>?_) (λH' s2=>?_) ?_ (λi H' x H2 hi s2 hpl hy=>?_) (λys H' s2 hp' hlen hys=>?_)
  ·obtain⟨q,t,z,pa,e1,e2,e3,e4,e5,e6,e7⟩:=h;exact⟨q,t,z,pa,e1,e2,e3,e4,ex q _ e3 e5,ex t _ e4 e6,e7⟩
  ·exact⟨s2 _ _ ho,by simpa [ci]using hi⟩
  ·exact⟨s2 _ _ ho,by simp[ci]⟩
  ·rintro _ _ _ _ m ⟨v1,b1,v2,b2,d',k',zs',pa,c1,c2,c3,c4,c5,c6,q⟩;refine⟨v1,b1,v2,b2,d',k',zs',pa,c1,c2,c3,c4,c5,c6,λt' H' st ht=>?_⟩;obtain⟨v3,b3,hz,q'⟩:=q t' H' st ht;exact⟨v3,b3,hz,λl hl=>m _ _ (q' l hl)⟩
  ·obtain⟨rfl,hx⟩:=hy;have gz:zs[i]?=some zs[i]:=getElem?_eq_getElem hi;have ex:x=.int zs[i].2.num:=by
    unfold ci at hx;rw[getElem?_map,getElem?_map,gz]at hx;exact(Option.some.inj hx).symm
   subst ex;have mz:=mem_of_getElem? gz;generalize zs[i]=z at gz mz⊢;obtain⟨pa,hpa⟩:=TW.PathTo.ex tr.tr (mem_map.mpr ⟨z,mz,rfl⟩:z.2∈nds zs);have s12:=s1.trans s2;refine⟨rfl,_,rfl,_,rfl,d,_,zs,pa,rfl,nd1.same s2,tr.nod.same s12,tr.tr,by omega,hpa,λt' H4 s4 ht'=>?_⟩;have hpl4:∃ys,H4 p=some (.lst ys):=let⟨ys,e⟩:=hpl;⟨ys,s4 _ _ e⟩;have htp:t'≠p:=λe=>by obtain⟨ys,e'⟩:=hpl4;rw[←e,ht']at e';cases e'
   refine⟨_,rfl,le2,λq hq=>⟨s4.trans (af hq),q,t',z,pa,gz,rfl,cG hpl4 hq,htp,ac,ca hq ht',hpa⟩⟩
  ·obtain⟨cs,e1,e2,e3⟩:=uh (p:=p) hlen hys;subst e1;have hcl:cs.length=zs.length:=by rw[←hlen,length_map]
   refine⟨p,cs,rfl,hp',e2.at',e2.paths_nd tr.tr,by omega,λcs' hpm hup q hq=>?_⟩;have s3:=af (o:=.lst (cs'.map λc=>V.ref c.a)) hq;have wl:=e2.wl tr.tr hpm hup;refine k cs' q _ ((s1.trans s2).trans s3) ⟨λc hc=>?_,wl.up,wl.mem⟩ (hpm.length_eq.trans hcl) ac;obtain⟨g1,g2⟩:=wl.at' c hc;exact⟨s3 _ _ g1,s3 _ _ g2⟩
end
end TK
namespace L2
open PySem PySem.Spec PyProof.Rows
theorem nn{α:Type}{k:Nat}{js:List Nat}{J:It}{g:TG}{tc:TT}{te:TE}{σ:St}{H1:Hp}{Q:VK}{p:Addr}{fr:List (Option V)}(zs:List α)(val:α→V)(hn:zs.length≤1000)(hp:H1 p=none)(S:Src J H1 (zs.map val))(hfr:∃σ0:St,σ0.length=k∧bc k js σ=σ0++fr)(gd:α→Bool)(R:α→V→Hp→Prop)(hR:∀z y H H',R z y H→Ext p H H'→R z y H')(elt:∀z (σ0:St) H' (kk:St→VK) (kn:St→Hp→Prop),σ0.length=k→z∈zs→Same H1 H'→(∃ys,H' p=some (.lst ys))→(∀σ2 y H4,(∃σ0':St,σ0'.length=k∧σ2=σ0'++fr)→Same H' H4→gd z=true→R z y H4→kk σ2 y H4)→(∀σ2 H4,(∃σ0':St,σ0'.length=k∧σ2=σ0'++fr)→Same H' H4→gd z=false→kn σ2 H4)→g (val z) (σ0++fr) H' λσ2 H3=>tc σ2 H3 λb H4=>if b=true then te σ2 H4 (kk σ2)else kn σ2 H4)(fin:∀ys H',Same H1 H'→H' p=some (.lst ys)→Paired (λz y=>R z y H') (zs.filter gd) ys→Q (.ref p) H'):sQ k js g tc te σ Q J H1 p:=by
 have grow:∀{as:List α}{ys:List V}{H H':Hp},Ext p H H'→Paired (λz y=>R z y H) as ys→Paired (λz y=>R z y H') as ys:=λex r=>Paired.mapP r λa b h=>hR a b _ _ h ex;have hlen:∀{as:List α}{ys:List V}{H:Hp},Paired (λz y=>R z y H) as ys→ys.length=as.length:=λr=>(Paired.length r).symm;refine⟨λi m ys σ' H'=>m=zs.length-i∧i≤zs.length∧(∃σ0:St,σ0.length=k∧σ'=σ0++fr)∧Same H1 H'∧H' p=some (.lst ys)∧Paired (λz y=>R z y H') ((zs.take i).filter gd) ys,⟨zs.length,by simp,zero_le _,hfr,af hp,ac,.nil⟩,?_⟩;rintro i m ys σ' H' ⟨rfl,hi,⟨σ0,hσ0,rfl⟩,s1,hl,hys⟩
 by_cases hlt:i<zs.length
 ·have hlt':i<(zs.map val).length:=by rw[length_map];exact hlt
  refine .inr ⟨S.go i H' hlt' s1,?_,λx H2 hy=>?_⟩
  ·have h1:ys.length≤zs.length:=by
    rw[hlen hys];exact le_trans (length_filter_le _ _) (by rw[length_take];omega)
   exact lt_of_le_of_lt h1 (az hn)
  ·obtain⟨rfl,hx⟩:=S.yl i H' x H2 hlt' s1 hy;have gz:zs[i]?=some zs[i]:=getElem?_eq_getElem hlt;have mz:=mem_of_getElem? gz;rw[getElem?_map,gz]at hx;have ex:val zs[i]=x:=Option.some.inj hx;have et:zs.take (i+1)=zs.take i++[zs[i]]:=bR gz;subst ex;generalize zs[i]=z at gz mz et⊢;refine elt z σ0 H2 _ (λσ2 H4=>∃m',m'<zs.length-i∧_) hσ0 mz s1 ⟨ys,hl⟩ (λσ2 y H5 hσ2 s5 hb r5=>⟨s5 _ _ hl,zs.length-(i+1),by omega,rfl,hlt,hσ2,aD hp (s1.trans s5),ac,?_⟩) (λσ2 H4 hσ2 s4 hb=>⟨zs.length-(i+1),by omega,rfl,hlt,hσ2,s1.trans s4,s4 _ _ hl,?_⟩)
   ·rw[et,filter_append,filter_cons_of_pos hb];exact Paired.snoc (grow ((Ext.of s5).trans Ext.upd) hys) (hR _ _ _ _ r5 Ext.upd)
   ·rw[et,filter_append,filter_cons_of_neg (by simp[hb]),filter_nil,append_nil];exact grow (Ext.of s4) hys
 ·have e:i=zs.length:=by omega
  subst e;have st:=S.stop H' s1;rw[length_map]at st;refine .inl ⟨st,fin ys H' s1 hl ?_⟩;rw[take_length]at hys;exact hys
theorem Inv.freeze{X:Cx}{pins:List (Addr×Obj)}{σ:St}{H:Hp}{s:Shared}{d:Addr}{kvs:List (Key×V)}(I:Inv X pins σ H s)(hH:H d=some (.dK kvs)):∃o,Inv X pins σ (upd H d (.frz o (.dK kvs))) s:=by
 obtain⟨hz,hsm,vs,rel,o,es,ep,ho,hx,hd,hk,hp,hn⟩:=I.hok d _ hH;exact⟨o,I.write (t':=s.toks) (x:=d) (e:=d) (by rw[hH];trivial) (.inl rfl) (λ_ _ _ q=>q) ⟨o,ho⟩ ⟨ho,hz,hsm,vs,rel,o,es,ep,ho,hx,hd,hk,hp,hn⟩⟩
def vF(t:TS):TS:=λD σ H=>∃d kvs,H d=some (.dK kvs)∧∀o,t D σ (upd H d (.frz o (.dK kvs)))
theorem oq{X:Cx}{st:Stmt}{t:TS}(hs:PS X st t):PS X st (vF t):=λpins s σ H D I ⟨d,kvs,h,ht⟩=>by
 obtain⟨o,I2⟩:=I.freeze h;exact hs pins s σ _ D I2 (ht o)
end L2
namespace TK
open PySem L2
def iZ(zs:ZN)(ns:List Int):Prop:=∃H cs,Wl H zs cs∧cs.map (·.n)=ns
theorem iZ.one{zs:ZN}{ns ms:List Int}(h:iZ zs ns)(h':iZ zs ms):ns=ms:=by
 obtain⟨H,cs,w,rfl⟩:=h;obtain⟨H',cs',w',rfl⟩:=h';have e:cs.map (λc=>(c.p,c.n))=cs'.map (λc=>(c.p,c.n)):=by
  refine cx (R:=λa b:List Str×Int=>HT.cq a.1 b.1=true) (λa=>by rw[HT.dm];simp) (λa b h1 h2=>?_) (pairwise_map.mpr w.up) (pairwise_map.mpr w'.up) λx=>?_
  ·have:=HT.jt h1 h2;rw[HT.dm]at this;cases this
  ·have m:∀{H:Hp}{ds:List Cp},Wl H zs ds→(x∈ds.map (λc=>(c.p,c.n))↔∃z∈zs,z.2.num=x.2∧TW.PathTo (nds zs) x.2 x.1):=λ{H ds} v=>by
    rw[←v.mem x.1 x.2,mem_map];constructor
    ·rintro⟨c,hc,rfl⟩;exact⟨c,hc,rfl,rfl⟩
    ·rintro⟨c,hc,e1,e2⟩;exact⟨c,hc,by rw[e1,e2]⟩
   rw[m w,m w']
 have:=congrArg (List.map Prod.snd) e;rw[map_map,map_map]at this;exact this
section
variable{P:Program}{w:World}{K:PySem.W.Frag}{mg:Str→Option Value}{base:Heap}
def lR:Sp:=λvs H Q _=>∃t zs,vs=[.ref t]∧H t=some (.lst (aP zs))∧At H zs∧zs.length≤100∧∀l H',Same H H'→H l=none→H' l=some (.lst (aP (zs.filter isF)))→Q (.ref l) H'
theorem rM{f:Addr}{fd:FuncData}(F:Fun K "files_of" "files_of" cX f fd):FnOk P w K mg base CX0 1 f fd ["tree"] lR:=by
 refine F.ok sa (λvs H Q E h=>?_) (λcdv A outer s H vs Q E hr h=>?_)
 ·obtain⟨t,zs,rfl,_⟩:=h;rfl
 ·obtain⟨t,zs,rfl,ht,hA,hl,q⟩:=h;refine⟨_,ak (aK (bM (N:=["node"]) (cl:=[]) (k:=1) (js:=[]) (g:=aB 0) rfl (cF rfl (by decide +kernel) (by decide +kernel) (by decide +kernel)) rfl (λi j x h=>by simp at h) (aM (pv 0)) (λs H fp=>al (i:=0) (show(["node"]:List Str).Nodup by decide +kernel) rfl (Or.inl rfl) (Or.inr rfl))
    (λs H fp=>aq gh (ay (r:=bw K) av (pv 0) ai (λ_ _=>rfl)) cg (aG _)) (λs H fp=>pv 0))),?_⟩
  refine⟨_,rfl,t,rfl,⟨_,SqL.of ht⟩,λp hp=>?_⟩;refine bz (fr:=[]) zs (λz=>V.ref z.1) (by omega) hp (aY (by rw[ce];exact SqL.of ht)) rfl isF (λz y _=>y=.ref z.1) (λ_ _ _ _ h _=>h) (λz H' k mz s1 _ hk=>?_) (λz H' k mz _ s1 _ hk=>?_) (λys H' s1 hp' hys=>?_)
  ·refine⟨_,rfl,z.1,_,_,_,rfl,rfl,SqT.of (s1 _ _ (hA z mz)),at3 z.2,rfl,_,rfl,?_⟩;have e:(!decide (stV z.2.st=V.non))=isF z:=by
    unfold isF;cases z.2.st<;>simp[stV]
   rw[←e]at hk;exact hk H' (Same.refl _)
  ·exact⟨_,rfl,hk _ H' (Same.refl _) rfl⟩
  ·have ey:=au (f:=λz:Addr×Nd=>V.ref z.1) hys (λz y _ h=>h);exact q p H' s1 hp (by rw[hp',ey];unfold aP;rw[map_map];rfl)
structure Pn where
 a:Addr
 t:Addr
 z:Addr×Nd
def va(H:Hp)(x:Pn):Prop:=H x.a=some (.tup [.ref x.t,.ref x.z.1])
def uk:Sp:=λvs H Q _=>∃t zs,vs=[.ref t]∧Tre H t zs∧∀(xs:List Pn)(l:Addr)(H':Hp),Same H H'→(∀x∈xs,va H' x∧x.z∈zs)→iZ zs (xs.map λx=>x.z.2.num)→xs.length≤30→H' l=some (.lst (xs.map λx=>V.ref x.a))→Q (.ref l) H'
theorem vb:FnScope ["tree","nodes"] ["tree"] (ae bA):=fsc
theorem vc{f:Addr}{fd:FuncData}(F:Fun K "walked_nodes" "walked_nodes" bA f fd)(CB:Has P w K mg base 1 "by_number" ["tree"] gY)(CW:Has P w K mg base 2 "walked" ["tree"] qo):FnOk P w K mg base CX0 3 f fd ["tree"] uk:=by
 obtain⟨fB,fdB,GB,mB,kB,bB⟩:=CB;obtain⟨fW,fdW,GW,mW,kW,bW⟩:=CW;refine F.ok vb (λvs H Q E h=>?_) (λcdv A outer s H vs Q E hr h=>?_)
 ·obtain⟨t,zs,rfl,_⟩:=h;rfl
 ·obtain⟨t,zs,rfl,tr,q⟩:=h;have hr1:Room 1 _:=hr.mono (by decide);refine⟨_,aj (aE (i:=1) vb.nd rfl (Or.inr rfl) (am GB hr1 rfl mB kB bB .nil aJ (aa (pv 0) ag)))
   (ak (aK (di (N:=["path","number","nodes"]) (cl:=[("nodes",s.heap.objs.size+1)]) (k:=2) (js:=[1]) (g:=oC K 2 (dW (aB 0) (dW (aB 1) oB))) rfl
    (LcOk.mk' ["nodes"] rfl rfl (by decide +kernel) (by decide +kernel) ?hcl rfl (by decide +kernel)) rfl ?hj
    (aM (am GW hr rfl mW kW bW .nil aJ (aa (pv 0) ag)))
    (λs H fp=>gw (n:=2) rfl (bn (al (i:=0) (show(["path","number","nodes"]:List Str).Nodup by decide +kernel) rfl (Or.inl rfl) (Or.inr rfl)) (bn (al (i:=1) (show(["path","number","nodes"]:List Str).Nodup by decide +kernel) rfl (Or.inl rfl) (Or.inr rfl)) dX)))
    (λs H fp=>aZ (aa (pv 0) (aa (aS (bv hr) (pv 2) (pv 1) (λ_ _=>rfl)) ag)))))),?_⟩
  case hcl =>
   intro y hy;rcases mem_cons.mp hy with e|hy
   ·rw[e];rfl
   ·cases hy
  case hj =>
   intro i j x h1 h2
   match i,h1,h2 with
   |0,h1,h2 =>
    cases h1;cases h2;exact⟨rfl,Or.inr (Or.inl rfl),(show((ae bA).names.lookup ("nodes":Str)≠some NameKind.local)by decide +kernel),by first|exact Or.inl rfl|exact Or.inr rfl⟩
   |i+1,h1,h2=>simp at h1
  have hl:=tr.len;have hnd:=bp tr.tr;refine⟨_,rfl,t,zs,rfl,tr.tup,tr.nod,by omega,hnd,λd H1 s1 nd1=>?_⟩;have tr1:=tr.same s1;refine⟨_,rfl,t,zs,rfl,tr1,λcs l H2 s2 wl hcl0 hl2=>?_⟩;have nd2:=nd1.same s2;have hcl:cs.length≤30:=by omega
  refine⟨l,rfl,⟨_,SqL.of hl2⟩,λp hp=>?_⟩;refine kX (fr:=[some (.ref d)]) cs (λc=>V.ref c.a) (by omega) hp (aY (SqL.of hl2)) ⟨[none,none],rfl,rfl⟩ (λc y H'=>∃q z,y=.ref q∧q≠p∧z∈zs∧z.2.num=c.n∧H' q=some (.tup [.ref c.t,.ref z.1])) (λc y H H' h ex=>?_) (λc σ0 H' kk hσ mc s3 hpl hk=>?_) (λys H' s3 hp' hys=>?_)
  ·obtain⟨q,z,e1,ne,h1,h2,h3⟩:=h;exact⟨q,z,e1,ne,h1,h2,ex q _ ne h3⟩
  ·obtain⟨x0,x1,rfl⟩:=jA hσ;obtain⟨h1,h2⟩:=wl.at' c mc;obtain⟨z,hz,ez,_⟩:=(wl.mem c.p c.n).mp ⟨c,mc,rfl,rfl⟩;refine⟨c.a,_,rfl,SqT.of (s3 _ _ h1),rfl,_,_,rfl,_,_,rfl,rfl,?_⟩;have hg:=(nd2.same s3).get hnd hz;rw[ez]at hg;refine⟨_,rfl,_,rfl,_,rfl,d,_,rfl,hg,le2,λq hq=>?_⟩;exact hk _ _ _ ⟨[some (.ref c.t),some (.int c.n)],rfl,rfl⟩ (af hq) ⟨q,z,rfl,cG hpl hq,hz,ez,ac⟩
  ·obtain⟨bs,e1,e2,e3⟩:=dy (val:=λx:Pn=>V.ref x.a) (S:=λ(c:Cp) (x:Pn)=>va H' x∧x.z∈zs∧x.z.2.num=c.n) hys (λc y _ ⟨q,z,e,_,hz,ez,h⟩=>⟨⟨q,c.t,z⟩,e,h,hz,ez⟩);refine q (bs.map (·.2)) p H' ((s1.trans s2).trans s3) (λx hx=>?_) ⟨H2,cs,wl,?_⟩ (by rw[length_map];have:=congrArg length e1;rw[length_map]at this;omega) (by rw[hp',e2,map_map];rfl)
   ·obtain⟨b,hb,rfl⟩:=mem_map.mp hx;exact⟨(e3 b hb).1,(e3 b hb).2.1⟩
   ·rw[←e1,map_map,map_map];exact map_congr_left λb hb=>(e3 b hb).2.2.symm
def hdV:List Int→V
 |[]=>.non
 |k::_=>.int k
def ul:Sp:=λvs H Q _=>∃l,∃ns:List Int,vs=[.ref l]∧H l=some (.lst (ns.map V.int))∧Q (hdV ns) H
theorem vG:FnScope ["numbers"] ["numbers"] (ae dR):=fsc
theorem vd{f:Addr}{fd:FuncData}(F:Fun K "first_of" "first_of" dR f fd):FnOk P w K mg base CX0 1 f fd ["numbers"] ul:=by
 refine F.ok vG (λvs H Q E h=>?_) (λcdv A outer s H vs Q E hr h=>?_)
 ·obtain⟨l,ns,rfl,_⟩:=h;rfl
 ·obtain⟨l,ns,rfl,hl,q⟩:=h;refine⟨_,ak (aK (oA (jM (pv 0) (λ_=>rfl)) (ay cA (pv 0) ai (λ_ _=>rfl)) cg)),?_⟩;refine⟨_,rfl,!(ns.map V.int).isEmpty,.inl ⟨_,SqL.of hl,rfl⟩,?_⟩;cases ns with
  |nil=>exact bZ q
  |cons k r=>exact dM ⟨_,rfl,l,_,_,_,rfl,rfl,SqL.of hl,gk (j:=0) rfl,q⟩
def isD(z:Addr×Nd):Bool:=!isF z
def nums(zs:ZN):List Int:=zs.map λz=>z.2.num
def lj:Sp:=λvs H Q _=>∃t zs,vs=[.ref t]∧Tre H t zs∧∀(us:ZN) t' H',Same H H'→(∀u∈us,u∈zs)→iZ zs (nums us)→H' t'=some (.tup [hdV (nums (us.filter isD)),hdV (nums (us.filter isF))])→Q (.ref t') H'
theorem rN:FnScope ["tree","nodes","folders","files"] ["tree"] (ae cj):=fsc
theorem ve{f:Addr}{fd:FuncData}(F:Fun K "first_of_kind" "first_of_kind" cj f fd)(CW:Has P w K mg base 3 "walked_nodes" ["tree"] uk)(CF:Has P w K mg base 1 "files_of" ["tree"] lR)(CO:Has P w K mg base 1 "first_of" ["numbers"] ul):FnOk P w K mg base CX0 4 f fd ["tree"] lj:=by
 obtain⟨fW,fdW,GW,mW,kW,bW⟩:=CW;obtain⟨fF,fdF,GF,mF,kF,bF⟩:=CF;obtain⟨fO,fdO,GO,mO,kO,bO⟩:=CO;refine F.ok rN (λvs H Q E h=>?_) (λcdv A outer s H vs Q E hr h=>?_)
 ·obtain⟨t,zs,rfl,_⟩:=h;rfl
 ·obtain⟨t,zs,rfl,tr,q⟩:=h;have hr1:Room 1 _:=hr.mono (by decide);refine⟨_,aj (kw (ii:=1) (N:=["path","node"]) (cl:=[]) (k:=2) (js:=[]) (g:=oC K 2 (dW (aB 0) (dW (aB 1) oB))) rN.nd rfl (Or.inl rfl) rfl (cF rfl (by decide +kernel) (by decide +kernel) (by decide +kernel)) rfl (λi j x h=>by simp at h)
    (aM (am GW hr rfl mW kW bW .nil aJ (aa (pv 0) ag)))
    (λs H fp=>gw (n:=2) rfl (bn (al (i:=0) (show(["path","node"]:List Str).Nodup by decide +kernel) rfl (Or.inl rfl) (Or.inr rfl)) (bn (al (i:=1) (show(["path","node"]:List Str).Nodup by decide +kernel) rfl (Or.inl rfl) (Or.inr rfl)) dX)))
    (λs H fp=>pv 1))
   (aj (ft (ii:=2) (N:=["node"]) (cl:=[]) (k:=1) (js:=[]) (g:=aB 0) rN.nd rfl (Or.inl rfl) rfl (cF rfl (by decide +kernel) (by decide +kernel) (by decide +kernel)) rfl (λi j x h=>by simp at h)
    (aM (pv 1)) (λs H fp=>al (i:=0) (show(["node"]:List Str).Nodup by decide +kernel) rfl (Or.inl rfl) (Or.inr rfl))
    (λs H fp=>aq jd (ay (r:=bw K) av (pv 0) ai (λ_ _=>rfl)) cg (aG _)) (λs H fp=>ay (r:=bw K) av (pv 0) ai (λ_ _=>rfl)))
   (aj (kw (ii:=3) (N:=["node"]) (cl:=[]) (k:=1) (js:=[]) (g:=aB 0) rN.nd rfl (Or.inl rfl) rfl (cF rfl (by decide +kernel) (by decide +kernel) (by decide +kernel)) rfl (λi j x h=>by simp at h)
    (aM (am GF hr1 rfl mF kF bF .nil aJ (aa (pv 1) ag))) (λs H fp=>al (i:=0) (show(["node"]:List Str).Nodup by decide +kernel) rfl (Or.inl rfl) (Or.inr rfl))
    (λs H fp=>ay (r:=bw K) av (pv 0) ai (λ_ _=>rfl)))
   (ak (aK (aZ (aa (am GO hr1 rfl mO kO bO .nil aJ (aa (pv 2) ag)) (aa (am GO hr1 rfl mO kO bO .nil aJ (aa (pv 3) ag)) ag))))))),?_⟩
  refine⟨_,rfl,t,zs,rfl,tr,λxs l H1 s1 hxs hw hxl hl1=>?_⟩;refine⟨l,rfl,⟨_,SqL.of hl1⟩,λp hp=>?_⟩;refine kX (fr:=[]) xs (λx=>V.ref x.a) (by omega) hp (aY (SqL.of hl1)) ⟨[none,none],rfl,rfl⟩ (λx y H'=>y=.ref x.z.1) (λ_ _ _ _ h _=>h) (λx σ0 H' kk hσ mx s2 hpl hk=>?_) (λys H2 s2 hp2 hys=>?_)
  ·obtain⟨x0,x1,rfl⟩:=jA hσ;refine⟨x.a,_,rfl,SqT.of (s2 _ _ (hxs x mx).1),rfl,_,_,rfl,_,_,rfl,rfl,_,rfl,?_⟩;exact hk _ _ _ ⟨[some (.ref x.t),some (.ref x.z.1)],rfl,rfl⟩ (Same.refl _) rfl
  have ey:=au (f:=λx:Pn=>V.ref x.z.1) hys (λz y _ h=>h);have eu:ys=aP (xs.map (·.z)):=by rw[ey,←ce,map_map];rfl
  have hus:∀u∈xs.map (·.z),u∈zs:=λu hu=>by
   obtain⟨x,hx,rfl⟩:=mem_map.mp hu;exact(hxs x hx).2
  have hw':iZ zs (nums (xs.map (·.z))):=by unfold nums;rw[map_map];exact hw
  have hul:(xs.map (·.z)).length≤30:=by rw[length_map];exact hxl
  rw[eu]at hp2;generalize xs.map (·.z)=us at hus hw' hul hp2;have hA2:At H2 us:=λu hu=>(tr.nod.same (s1.trans s2)) u (hus u hu);refine⟨_,rfl,p,rfl,⟨_,SqL.of hp2⟩,λp3 hp3=>?_⟩;refine bz (fr:=[]) us (λz=>V.ref z.1) (by omega) hp3 (aY (by rw[ce];exact SqL.of hp2)) rfl isD (λz y _=>y=.int z.2.num) (λ_ _ _ _ h _=>h) (λz H' k mz s3 _ hk=>?_) (λz H' k mz _ s3 _ hk=>?_) (λys3 H3 s3 hp3' hys3=>?_)
  ·refine⟨_,rfl,z.1,_,_,_,rfl,rfl,SqT.of (s3 _ _ (hA2 z mz)),at3 z.2,rfl,_,rfl,?_⟩;have e:decide (stV z.2.st=V.non)=isD z:=by
    unfold isD isF;cases z.2.st<;>simp[stV]
   rw[←e]at hk;exact hk H' (Same.refl _)
  ·exact⟨_,rfl,z.1,_,_,_,rfl,rfl,SqT.of (s3 _ _ (hA2 z mz)),at0 z.2,hk _ H' (Same.refl _) rfl⟩
  have ey3:=au (f:=λz:Addr×Nd=>V.int z.2.num) hys3 (λz y _ h=>h);have hA3:=hA2.same s3;have e3:ys3=(nums (us.filter isD)).map V.int:=by rw[ey3];unfold nums;rw[map_map];rfl
  rw[e3]at hp3';refine⟨_,rfl,p,us,rfl,s3 _ _ hp2,hA3,by omega,λl4 H4 s4 hl40 hl4=>?_⟩;refine⟨l4,rfl,⟨_,SqL.of hl4⟩,λp5 hp5=>?_⟩;have hfl:=length_filter_le isF us;have hA4:=hA3.same s4;refine cV (fr:=[]) (us.filter isF) (λz=>V.ref z.1) (by omega) hp5 (aY (by rw[ce];exact SqL.of hl4)) rfl (λz y _=>y=.int z.2.num) (λ_ _ _ _ h _=>h) (λz H' k mz s5 _ hk=>?_) (λys5 H5 s5 hp5' hys5=>?_)
  ·exact⟨_,rfl,z.1,_,_,_,rfl,rfl,SqT.of (s5 _ _ (hA4 z (mem_filter.mp mz).1)),at0 z.2,hk _ H' (Same.refl _) rfl⟩
  have ey5:=au (f:=λz:Addr×Nd=>V.int z.2.num) hys5 (λz y _ h=>h);have e5:ys5=(nums (us.filter isF)).map V.int:=by rw[ey5];unfold nums;rw[map_map];rfl
  rw[e5]at hp5';refine⟨_,rfl,p3,_,rfl,s5 _ _ (s4 _ _ hp3'),_,rfl,p5,_,rfl,hp5',le2,λt' ht'=>?_⟩;exact q us t' _ ((((s1.trans s2).trans s3).trans s4).trans s5 |>.trans (af ht')) hus hw' ac
end
end TK
namespace L2
open PySem PySem.Spec PyProof.Rows
def jF(H:Hp):Nat→V→V→Prop
 |0,x,y=>x=y∧bH x=true
 |n+1,x,y=>(x=y∧bH x=true)∨∃a b xs ys,x=.ref a∧y=.ref b∧((H a=some (.tup xs)∧H b=some (.tup ys))∨(H a=some (.lst xs)∧H b=some (.lst ys)))∧xs.length=ys.length∧∀(i:Nat) x' y',xs[i]?=some x'→ys[i]?=some y'→jF H n x' y'
theorem ga{H:Hp}{n:Nat}{x y:V}(h:x=y∧bH x=true):jF H n x y:=by
 cases n with
 |zero=>exact h
 |succ n=>exact .inl h
section
variable{X:Cx}{pins:List (Addr×Obj)}{σ:St}{H:Hp}{s:Shared}
theorem gs{us:List Value}{j:Nat}{u:Value}(h1:j<us.toArray.size)(hu:us[j]?=some u):us.toArray[j]=u:=by
 have:us[j]?=some us.toArray[j]:=by rw[getElem?_eq_getElem (by simpa using h1)];simp
 rw[hu]at this;exact(Option.some.inj this).symm
theorem ou(I:Inv X pins σ H s):∀(n:Nat){A:Around}{x y:V}{u v:Value},aw x u→aw y v→jF H n x y→A.units+n<cLine→EqAt A s u v true:=by
 intro n
 induction n with
 |zero =>
  intro A x y u v ru rv h hu;obtain⟨e,f⟩:=h;subst e;have:=gI (A:=A) (s:=s) ru rv f f
  rwa [eP f]at this
 |succ n ih =>
  intro A x y u v ru rv h hu;rcases h with⟨e,f⟩|⟨a,b,xs,ys,rfl,rfl,hab',hl,hx⟩
  ·subst e;have:=gI (A:=A) (s:=s) ru rv f f
   rwa [eP f]at this
  ·cases ru;cases rv
   by_cases hab:a=b
   ·subst hab;exact EqAt.same _
   ·have part:∀{us ws:List Value},ap xs us→ap ys ws→∀j (h1:j<us.toArray.size) (h2:j<ws.toArray.size),EqAt A.in1 s us.toArray[j] ws.toArray[j] true:=λ{us ws} r1 r2 j h1 h2=>by
     have h1':j<xs.length:=by rw[r1.length];simpa using h1
     have h2':j<ys.length:=by rw[r2.length];simpa using h2
     obtain⟨u',hu1,hu2⟩:=r1.get (getElem?_eq_getElem h1');obtain⟨v',hv1,hv2⟩:=r2.get (getElem?_eq_getElem h2');rw[gs h1 hu1,gs h2 hv1];exact ih hu2 hv2 (hx j _ _ (getElem?_eq_getElem h1') (getElem?_eq_getElem h2')) (by simp[Around.in1_units];omega)
    rcases hab' with⟨ha,hb⟩|⟨ha,hb⟩
    ·obtain⟨_,us,r1,t1⟩:=I.hok a _ ha;obtain⟨_,ws,r2,t2⟩:=I.hok b _ hb;have l1:=r1.length;have l2:=r2.length;have:=RcAt.tuples (A:=A) (s:=s) (e:=λ_=>true) t1 t2 (by omega) (part r1 r2);have e3:((List.range (min us.toArray.size ws.toArray.size)).all (λ_=>true)&&us.toArray.size==ws.toArray.size)=true:=by
      have:us.toArray.size=ws.toArray.size:=by simp only[size_toArray];omega
      simp[this]
     rw[e3]at this;exact EqAt.of_refs hab this
    ·obtain⟨_,us,n1,r1,o1⟩:=I.hok a _ ha;obtain⟨_,ws,n2,r2,o2⟩:=I.hok b _ hb;have l1:=r1.length;have l2:=r2.length;have:=RcAt.lists (A:=A) (s:=s) (e:=λ_=>true) ⟨_,o1,rfl,n1,rfl⟩ ⟨_,o2,rfl,n2,rfl⟩ (by simp only[size_toArray];omega) (by omega) (part r1 r2);rw[show((List.range us.toArray.size).all λ_=>true)=true by rw[all_eq_true];intros;rfl]at this;exact EqAt.of_refs hab this
def ow(H:Hp)(xs ys:List V):Prop:=xs.length=ys.length∧∀(i:Nat) x y,xs[i]?=some x→ys[i]?=some y→jF H 3 x y
theorem fH:bG X (.builtin "sorted") (λxs H Q=>∃l,∃ns:List Str,xs=[.ref l]∧H l=some (.lst (ns.map V.str))∧ns.Nodup∧ns.length<64 ∧
  ∀ms:List Str,ms.Perm ns→ms.Pairwise (λa b=>HT.bx a b=true)→∀p,H p=none→Q (.ref p) (upd H p (.lst (ms.map V.str)))):=by
 intro pins s σ H xs us Q I r h;obtain⟨l,ns,rfl,hl,hnd,h64,q⟩:=h;obtain⟨u,rfl,ru⟩:=cz r;cases ru;obtain⟨_,its,n,rv,ho⟩:=I.hok l _ hl;have hlen:its.length=ns.length:=by rw[←rv.length,length_map]
 have gi:∀i,i<ns.length→∃t,its.getD i Value.none=.str (ns.getD i "") t:=λi hi=>by
  obtain⟨v,hv,r⟩:=rv.get (i:=i) (x:=.str (ns.getD i "")) (by rw[getElem?_map,(aI (d:=("":Str)) hi).2];rfl);obtain⟨t,rfl⟩:=r;exact⟨t,by rw[getD_eq_getElem?_getD,hv];rfl⟩
 refine dq (val:=V.str) (d:=("":Str)) (f:=λa b=>HT.bx a b) (κ:=oneType') I rv ⟨λi _=>HT.cK _,λi j k _ _ _ h1 h2=>HT.eO h1 h2,λi j hi hj hij=>HT.fo ?_⟩ ⟨_,ho,rfl,n,rfl⟩ h64 (λA' s' _ _ Q' h2 hQ=>?_) (λA' s' _ _ i j C hi hj hC=>?_) q
 ·rw[getD_eq_getElem?_getD,getD_eq_getElem?_getD,getElem?_eq_getElem hi,getElem?_eq_getElem hj];exact λe=>hij ((getElem_inj hnd).mp e)
 ·refine kas_kind (T:=.type "str") (by omega) (λu hu=>?_) (by rfl) (by rfl) hQ;obtain⟨i,hi,e⟩:=List.getElem_of_mem hu;obtain⟨t,e'⟩:=gi i (by omega);rw[getD_eq_getElem?_getD,getElem?_eq_getElem hi,e]at e';rw[show u=_ from e'];exact Looks.now
 ·obtain⟨t,e1⟩:=gi i hi;obtain⟨t',e2⟩:=gi j hj;rw[e1,e2];exact kas_lt_str hC
theorem um(hu:X.A.units+4<cLine):OpR X (compareOp .NotEq) (λx y H Q=>∃a b xs ys,x=.ref a∧y=.ref b∧ow H xs ys∧H a=some (.lst xs)∧H b=some (.lst ys)∧Q (.bl false) H):=by
 intro pins s σ H x y v u Q I rx ry h;obtain⟨a,b,xs,ys,rfl,rfl,hx,ha,hb,q⟩:=h;cases rx;cases ry;obtain⟨_,us,n1,r1,o1⟩:=I.hok a _ ha;obtain⟨_,ws,n2,r2,o2⟩:=I.hok b _ hb;have hl:=hx.1;have l1:=r1.length;have l2:=r2.length;refine RcNeAt.lists (e:=λ_=>true) ⟨_,o1,rfl,n1,rfl⟩ ⟨_,o2,rfl,n2,rfl⟩ (by simp only[size_toArray];omega) (by omega) (λj h1 h2=>?_) _ _ _ _ ⟨.bl false,H,I,?_,q⟩
 ·have h1':j<xs.length:=by rw[l1];simpa using h1
  have h2':j<ys.length:=by rw[l2];simpa using h2
  obtain⟨u',hu1,hu2⟩:=r1.get (getElem?_eq_getElem h1');obtain⟨v',hv1,hv2⟩:=r2.get (getElem?_eq_getElem h2');rw[gs h1 hu1,gs h2 hv1];exact ou I 3 hu2 hv2 (hx.2 j _ _ (getElem?_eq_getElem h1') (getElem?_eq_getElem h2')) (by simp[Around.in1_units];omega)
 ·show _=Value.bool false;simp
theorem bS{H:Hp}{xs:List V}(h:xs.all bH=true):eQ H xs xs:=⟨rfl,λi x y hx hy=>by
 rw[hx]at hy;cases hy;exact lI ⟨rfl,all_eq_true.mp h x (mem_of_getElem? hx)⟩⟩
end
end L2
namespace TK
open PySem L2
section
variable{P:Program}{w:World}{K:PySem.W.Frag}{mg:Str→Option Value}{base:Heap}
def lS(K:PySem.W.Frag):Sp:=λvs H Q _=>∃a k,vs=[.ref a,.int k]∧0≤k∧eU K H a∧∀r H',Same H H'→Q (.int r) H'
theorem uo:FnScope ["_law_script","_law_k"] ["_law_script","_law_k"] (ae pP):=fsc
theorem rO{f:Addr}{fd:FuncData}(F:Fun K "_law_cell" "_law_cell" pP f fd)(T:Txt mg):FnOk P w K mg base CX0 1 f fd ["_law_script","_law_k"] (lS K):=by
 refine F.ok uo (λvs H Q E h=>?_) (λcdv A outer s H vs Q E hr h=>?_)
 ·obtain⟨a,k,rfl,_⟩:=h;rfl
 ·obtain⟨a,k,rfl,hk,⟨ns,ea⟩,q⟩:=h;refine⟨_,aj (ck (aq uD (pv 1) (aL bf rfl T.len boot_len (aa (pv 0) ag)) (aG _)) (ak (aK (ay cA (pv 0) (pv 1) (λ_ _=>rfl)))) aX)
   (aj (ck (aq (lD hr.units0) (pv 0) (be ag) (aG _)) (ak (aK ai)) aX)
   (ak (aK (aN bj (aN cS (ay cA (pv 0) (aN jc (pv 1) (aL bf rfl T.len boot_len (aa (pv 0) ag))) (λ_ _=>rfl)) ai) (pv 1))))),?_⟩
  refine⟨_,rfl,_,rfl,a,_,rfl,.inl (ea),_,_,rfl,rfl,_,rfl,?_⟩;rw[length_map]
  by_cases h:k<(ns.length:Int)
  ·rw[decide_eq_true h];obtain⟨j,ej⟩:=kx hk h;exact dM ⟨_,rfl,_,rfl,a,_,_,_,rfl,rfl,ea,ej,q _ _ (Same.refl _)⟩
  ·rw[decide_eq_false h];refine bZ ⟨_,rfl,zero_le _,λp hp=>⟨a,p,_,rfl,rfl,((af hp).seq ea),SqL.of ac,_,rfl,?_⟩⟩
   by_cases h0:ns=[]
   ·subst h0;exact dM (q _ _ (af hp))
   ·have hne:¬ns.map V.int=[]:=by simpa using h0
    rw[decide_eq_false hne];have hpos:0<ns.length:=List.length_pos_iff.mpr h0;have hm1:0≤k % (ns.length:Int):=emod_nonneg _ (by omega);have hm2:k % (ns.length:Int)<ns.length:=Int.emod_lt_of_pos _ (by omega);obtain⟨j,ej⟩:=kx hm1 hm2;have ej':atI (ns.map V.int) (k % ((ns.map V.int).length:Int))=some (.int j):=by rw[length_map];exact ej
    exact bZ ⟨_,rfl,_,rfl,_,rfl,a,_,rfl,.inl (((af hp).seq ea)),_,_,rfl,rfl,by rw[length_map];omega,a,_,_,_,rfl,rfl,((af hp).seq ea),ej',_,_,rfl,rfl,.inr ⟨by decide,by decide⟩,_,rfl,_,_,rfl,rfl,q _ _ (af hp)⟩
def fJ(K:PySem.W.Frag):Sp:=λvs H Q _=>∃a k m,vs=[.ref a,.int k,.int m]∧0≤k∧0<m∧eU K H a∧∀r H',0≤r→r<m→Same H H'→Q (.int r) H'
theorem qp:FnScope ["_law_script","_law_k","_law_many","_law_drawn"] ["_law_script","_law_k","_law_many"] (ae pQ):=fsc
theorem rP{f:Addr}{fd:FuncData}(F:Fun K "_law_pick" "_law_pick" pQ f fd)(T:Txt mg)(C:Has P w K mg base 1 "_law_cell" ["_law_script","_law_k"] (lS K)):FnOk P w K mg base CX0 2 f fd ["_law_script","_law_k","_law_many"] (fJ K):=by
 obtain⟨fC,fdC,GC,mC,kC,bC⟩:=C;refine F.ok qp (λvs H Q E h=>?_) (λcdv A outer s H vs Q E hr h=>?_)
 ·obtain⟨a,k,m,rfl,_⟩:=h;rfl
 ·obtain⟨a,k,m,rfl,hk,hm,hS,q⟩:=h;refine⟨_,(aj (aE (i:=3) qp.nd rfl (Or.inl rfl) (aN jc (aN cS (aN bj (am GC hr rfl mC kC bC .nil aJ (aa (pv 0) (aa (pv 1) ag))) (aN cS ai (aN bj (pv 1) ai))) ai) ai))
   (ak (aK (aN jc (aN jc (aN bj (aN cS (pv 3) (pv 3)) (aN qy (pv 3) ai)) ai) (pv 2))))),?_⟩
  refine⟨_,rfl,_,rfl,a,k,rfl,hk,hS,λr H1 s1=>?_⟩;refine⟨_,rfl,_,_,rfl,rfl,_,_,rfl,rfl,.inl ⟨by decide,by decide⟩,_,_,rfl,rfl,_,_,rfl,rfl,.inr ⟨by decide,by decide⟩,_,_,rfl,rfl,(by decide:(0:Int)<2147483399),?_⟩;generalize hd:(r+6151*(k+1))*40692 % 2147483399=dr;have d0:0≤dr:=by rw[←hd];exact emod_nonneg _ (by decide)
  have d1:dr<2147483399:=by rw[←hd];exact Int.emod_lt_of_pos _ (by decide)
  refine⟨_,rfl,_,rfl,_,_,rfl,rfl,.inl ⟨by omega,by omega⟩,_,rfl,_,_,rfl,rfl,⟨by decide,by decide⟩,_,_,rfl,rfl,_,_,rfl,rfl,(by decide:(0:Int)<2147483629),_,rfl,_,_,rfl,rfl,hm,?_⟩;exact q _ _ (emod_nonneg _ (by omega)) (Int.emod_lt_of_pos _ hm) s1
def gu(K:PySem.W.Frag):Sp:=λvs H Q _=>∃a at' m,vs=[.ref a,.int at',.int m]∧0≤at'∧0≤m∧m≤9∧eU K H a∧∀t zs H',H' t=some (.tup (aP zs))→At H' zs→(zs.length:Int)≤m→TW.Tree (nds zs)→(∀z∈zs,tD z.2)→Same H H'→Q (.ref t) H'
theorem scB:FnScope ["_law_script","_law_at","_law_most","_law_left","_law_folders","_law_nodes","_law_k","_law_number","_law_parent","_law_name","_law_stamp"] ["_law_script","_law_at","_law_most"] (ae fu):=fsc
def buS(i:Nat):Stmt:=match (bg fu).getD 3 (.Pass ⟨0,0,0,0⟩)with
 |.For _ _ b _ _=>b.getD i (.Pass ⟨0,0,0,0⟩)
 |x=>x
abbrev BX(P:Program)(w:World)(K:PySem.W.Frag)(mg:Str→Option Value)(base:Heap)(f:Addr)(cdv:Value)(A:Around)(outer:List Env)(s:Shared)(H:Hp)(E:XK):Cx:=(gb CX0 P w K mg base ["_law_script","_law_at","_law_most","_law_left","_law_folders","_law_nodes","_law_k","_law_number","_law_parent","_law_name","_law_stamp"] "_law_tree" (ae fu) f cdv A outer s H E).nox
theorem vf{f:Addr}{cdv:Value}{A:Around}{outer:List Env}{s:Shared}{H0:Hp}{E:XK}(hr:Room 2 (A.deeper (PyProof.Rows.envOfC "_law_tree" (ae fu) s.heap.objs.size f cdv))):
  ∃t,PS (BX P w K mg base f cdv A outer s H0 E) (buS 5) t∧∀(D:Ends)(H H6:Hp)(pl pf pn:Addr)(x0 x1 x2 x6:Option V)(lf:List Int)(zs:ZN)(num par:Int)(nm:Str)(st:Option Int),Sta H pl pf pn H6 lf (0::TW.aA (nds zs)) zs→zs.length≤20 →
   (∀H',Sta H pl pf pn H' lf (0::TW.aA (nds zs)) zs→D.nx [x0,x1,x2,some (.ref pl),some (.ref pf),some (.ref pn),x6,some (.int num),some (.int par),some (.str nm),some (stV st)] H') →
   (∀q H',(∀z∈zs,¬(z.2.par=par∧z.2.nm=nm))→Sta H pl pf pn H' lf (0::TW.aA (nds (zs++[(q,⟨num,par,nm,st⟩)]))) (zs++[(q,⟨num,par,nm,st⟩)])→D.nx [x0,x1,x2,some (.ref pl),some (.ref pf),some (.ref pn),x6,some (.int num),some (.int par),some (.str nm),some (stV st)] H') →
   t D [x0,x1,x2,some (.ref pl),some (.ref pf),some (.ref pn),x6,some (.int num),some (.int par),some (.str nm),some (stV st)] H6:=by
 refine⟨_,ck (aq (ig (bv hr)) (aZ (aa (pv 8) (aa (pv 9) ag))) (di (N:=["_law_node"]) (k:=1) (js:=[]) (g:=aB 0) rfl (cF rfl (by decide +kernel) (by decide +kernel) (by decide +kernel)) rfl (λi j x h=>by simp at h)
     (aM (pv 5)) (λs H fp=>al (i:=0) (show(["_law_node"]:List Str).Nodup by decide +kernel) rfl (Or.inl rfl) (Or.inr rfl))
     (λs H fp=>jP (r:=sF K) oM (pv 0) (jf ai) (jf ai))) rfl) (aj (bV (dG plainAttrs_list PySem.F.slot_list_append PySem.F.type_list_append aU (pv 5) (aa (aZ (aa (pv 7) (aa (pv 8) (aa (pv 9) (aa (pv 10) ag))))) ag))) (ak (ck (aq jd (pv 10) cg (aG _)) (ak (bV (dG plainAttrs_list PySem.F.slot_list_append PySem.F.type_list_append aU (pv 4) (aa (pv 7) ag)))) aX))) aX,?_⟩
 intro D H H6 pl pf pn x0 x1 x2 x6 lf zs num par nm st A6 hzl qs qa;refine⟨_,rfl,_,rfl,le2,λq0 hq0=>?_⟩;have A7:=A6.grow (af (o:=.tup [.int par,.str nm]) hq0);have eq0:(upd H6 q0 (.tup [.int par,.str nm])) q0=some (.tup ([Sum.inl par,Sum.inr nm].map kV)):=ac;refine⟨_,rfl,pn,rfl,⟨_,SqL.of A7.n⟩,λp hp=>?_⟩;generalize upd H6 q0 (.tup [.int par,.str nm])=H7 at A7 eq0 hp⊢;refine rV (k:=1) (js:=[]) (J:=Itl K pn) (p:=p) zs.length (by omega) (λi ys σ' H'=>∃kss:List (Addr×List Key),ys=(kss.map (·.1)).map V.ref∧kss.map (·.2)=((nds zs).take i).map plK∧kss.length=i∧(∀z∈kss,H' z.1=some (.tup (z.2.map kV)))∧σ'.length=1∧Same H7 H'∧H' p=some (.lst ys))
  ⟨[],rfl,rfl,rfl,by simp,rfl,af hp,ac⟩ (λi ys σ' H' h=>?_) (λi ys σ' H' hi h=>?_) (λys σ' H' h=>?_) (λi ys σ' H' hi h v H2 hy=>?_) ?_ ?_
 ·obtain⟨kss,rfl,_,e,_⟩:=h;rw[length_map,length_map];omega
 ·obtain⟨_,_,_,_,_,_,s2,_⟩:=h;exact⟨_,_,SqL.of (s2 _ _ A7.n),eS (getElem?_eq_getElem hi)⟩
 ·obtain⟨kss,e1,e2,e3,e4,_,s2,e5⟩:=h;refine⟨⟨_,SqL.of (s2 _ _ A7.n),by rw[bo];exact le_refl _⟩,?_⟩;subst e1;refine⟨q0,p,_,kss,rfl,s2 _ _ eq0,rfl,SqL.of e5,e4,_,rfl,?_⟩;rw[List.take_of_length_le (by rw[bd];exact le_refl _)]at e2;have A8:=A7.grow s2;cases ea:(kss.any λz=>decide (z.2=[Sum.inl par,Sum.inr nm]))with
  |true=>exact bZ (qs _ A8)
  |false =>
   have ho:∀z∈zs,¬(z.2.par=par∧z.2.nm=nm):=λz hz ⟨h1,h2⟩=>by
    have m1:plK z.2∈kss.map (·.2):=by rw[e2];exact mem_map.mpr ⟨z.2,mem_map.mpr ⟨z,hz,rfl⟩,rfl⟩
    obtain⟨y,hy,ey⟩:=mem_map.mp m1;have:(kss.any λz=>decide (z.2=[Sum.inl par,Sum.inr nm]))=true:=any_eq_true.mpr ⟨y,hy,by rw[decide_eq_true_eq,ey];unfold plK;rw[h1,h2]⟩;rw[ea]at this;cases this
   refine dM ⟨_,rfl,.inl ⟨rfl,_,SqL.of A8.n⟩,_,rfl,_,rfl,_,rfl,_,rfl,(show 4≤sizeLine from aV (by decide)),λq hq=>⟨pn,_,_,rfl,rfl,ca hq A8.n,az (by rw[bo];omega),?_⟩⟩;have A9:=(A8.grow (af (o:=.tup (vals ⟨num,par,nm,st⟩)) hq)).node (n:=⟨num,par,nm,st⟩) ac;refine⟨_,rfl,rfl,_,rfl,?_⟩;cases st with
   |some i5 =>
    have ef:(0::TW.aA (nds zs))=(0:Int)::TW.aA (nds (zs++[(q,⟨num,par,nm,some i5⟩)])):=by simp[TW.aA,nds]
    rw[ef]at A9;exact bZ (qa q _ ho A9)
   |none =>
    refine dM ⟨_,rfl,.inl ⟨rfl,_,SqL.of A9.f⟩,_,rfl,pf,_,_,rfl,rfl,A9.f,az ?_,?_⟩
    ·have:=TW.cB (nds zs);rw[bd]at this;rw[length_map,length_cons];omega
    ·have A10:=A9.fold num;have ef:(0::TW.aA (nds zs))++[num]=(0:Int)::TW.aA (nds (zs++[(q,⟨num,par,nm,none⟩)])):=by simp[TW.aA,nds]
     rw[ef]at A10;exact qa q _ ho A10
 ·obtain⟨kss,e1,e2,e3,e4,e0,s2,e5⟩:=h;obtain⟨o1,rfl⟩:=tz e0;obtain⟨rfl,hx⟩:=hy;have gx:=hx _ (SqL.of (s2 _ _ A7.n));obtain⟨z1,g1,rfl⟩:=cw gx;have m1:=mem_of_getElem? g1;have ecut:nE (vals z1.2) (some 1) (some 3)=[.int z1.2.par,.str z1.2.nm]:=rfl;refine⟨_,rfl,_,rfl,_,rfl,z1.1,_,rfl,SqT.of (s2 _ _ (A7.nd z1 m1)),(λh=>by have h1:(1:Nat)=0:=h.1;cases h1),λq hq=>?_⟩;rw[ecut];refine⟨ca hq e5,kss++[(q,plK z1.2)],by rw[e1];simp,?_,by simp[e3],?_,rfl,aD hp (s2.trans (af hq)),ac⟩
  ·rw[map_append,e2,take_succ,show(nds zs)[i]?=some z1.2 by unfold nds;rw[getElem?_map,g1];rfl,map_append];rfl
  ·intro z hz;have hqp:q≠p:=λz=>by rw[z,e5]at hq;cases hq
   rcases mem_append.mp hz with hz|hz
   ·have:=ca (o:=.tup [.int z1.2.par,.str z1.2.nm]) hq (e4 z hz);rw[ah]
    ·exact this
    ·intro e;rw[e,ah (symm hqp),e5]at this;cases this
   ·have e:z=(q,plK z1.2):=by simpa using hz
    subst e;rw[ah hqp];exact ac
 ·rintro _ _ _ _ _ m h;exact m _ _ h
 ·rintro _ _ _ _ m ⟨v1,b0,i1,b1,i2,b2,a2,x2,c1,c2,c3,q⟩;exact⟨v1,b0,i1,b1,i2,b2,a2,x2,c1,c2,c3,λp hp=>m _ _ (q p hp)⟩
theorem qr{f:Addr}{fd:FuncData}(F:Fun K "_law_tree" "_law_tree" fu f fd)(T:Txt mg)(C:Has P w K mg base 2 "_law_pick" ["_law_script","_law_k","_law_many"] (fJ K)):FnOk P w K mg base CX0 3 f fd ["_law_script","_law_at","_law_most"] (gu K):=by
 obtain⟨fP,fdP,GP,mP,kP,bP⟩:=C;refine F.ok scB (λvs H Q E h=>?_) (λcdv A outer s H vs Q E hr h=>?_)
 ·obtain⟨a,at',m,rfl,_⟩:=h;rfl
 ·obtain⟨a,at',m,rfl,ha0,hm0,hm9,hS,k⟩:=h;obtain⟨t5,p5,h5⟩:=vf (P:=P) (w:=w) (mg:=mg) (base:=base) (f:=f) (cdv:=cdv) (A:=A) (outer:=outer) (s:=s) (H0:=H) (E:=E) hr;refine⟨_,(aj (aE (i:=3) scB.nd rfl (Or.inl rfl) (bu (ik rfl) rfl T.list rfl (aa (bu nP rfl T.range rfl (aa ai (aa (aN bj (pv 2) ai) ag))) ag)))
    (aj (aE (i:=4) scB.nd rfl (Or.inl rfl) (be (aa ai ag)))
    (aj (aE (i:=5) scB.nd rfl (Or.inl rfl) (be ag))
    (aj (cR PassesOwn.never rfl (nz rfl T.range (aa (am GP hr rfl mP kP bP .nil aJ (aa (pv 0) (aa (pv 1) (aa (aN bj (pv 2) ai) ag)))) ag)) (al (i:=6) scB.nd rfl (Or.inl rfl))
    (aj (aE (i:=7) scB.nd rfl (Or.inl rfl) (dG plainAttrs_list slot_list_pop type_list_pop oP (pv 3) (aa (am GP hr rfl mP kP bP .nil aJ (aa (pv 0) (aa (aN bj (aN bj (pv 1) ai) (aN cS ai (pv 6))) (aa (aL bf rfl T.len boot_len (aa (pv 3) ag)) ag)))) ag)))
    (aj (aE (i:=8) scB.nd rfl (Or.inl rfl) (ay cA (pv 4) (am GP hr rfl mP kP bP .nil aJ (aa (pv 0) (aa (aN bj (aN bj (pv 1) ai) (aN cS ai (pv 6))) (aa (aL bf rfl T.len boot_len (aa (pv 4) ag)) ag)))) (λ_ _=>rfl)))
    (aj (aE (i:=9) scB.nd rfl (Or.inl rfl) (ay cA (be (aa cQ (aa cQ (aa cQ (aa cQ ag))))) (am GP hr rfl mP kP bP .nil aJ (aa (pv 0) (aa (aN bj (aN bj (pv 1) ai) (aN cS ai (pv 6))) (aa ai ag)))) (λ_ _=>rfl)))
    (aj (aE (i:=10) scB.nd rfl (Or.inl rfl) cg)
    (aj (ck (aq uE (am GP hr rfl mP kP bP .nil aJ (aa (pv 0) (aa (aN bj (aN bj (pv 1) ai) (aN cS ai (pv 6))) (aa ai ag)))) ai (aG _)) (ak (aE (i:=10) scB.nd rfl (Or.inl rfl) (ay cA (be (aa ai (aa ai (aa ai (aa ai ag))))) (am GP hr rfl mP kP bP .nil aJ (aa (pv 0) (aa (aN bj (aN bj (pv 1) ai) (aN cS ai (pv 6))) (aa ai ag)))) (λ_ _=>rfl)))) aX)
    (ak p5)))))))
    (ak (aK (bu dF rfl T.tuple rfl (aa (aL fm rfl T.sorted boot_sorted (aa (pv 5) ag)) ag)))))))),?_⟩
  refine⟨_,rfl,_,_,rfl,rfl,_,_,rfl,λp1 hp1=>⟨p1,_,_,rfl,ac,⟨by decide,by decide,by omega,by omega⟩,by omega,λpl hpl=>?_⟩⟩;refine⟨aV (by decide),λpf hpf=>⟨zero_le _,λpn hpn=>?_⟩⟩;have s0:Same H (upd (upd (upd (upd H p1 (.rng 1 (m+4))) pl (.lst ((List.range (m+4-1:Int).toNat).map λk=>V.int (1+(k:Nat))))) pf (.lst [.int 0])) pn (.lst [])):=(((af hp1).trans (af hpl)).trans (af hpf)).trans (af hpn);have hfl:pl≠pf:=λe=>by rw[←e,ac]at hpf;cases hpf
  have hln:pl≠pn:=λe=>by rw[←e,ah hfl,ac]at hpn;cases hpn
  have hfn:pf≠pn:=λe=>by rw[←e,ac]at hpn;cases hpn
  have A0:Sta H pl pf pn (upd (upd (upd (upd H p1 (.rng 1 (m+4))) pl (.lst ((List.range (m+4-1:Int).toNat).map λk=>V.int (1+(k:Nat))))) pf (.lst [.int 0])) pn (.lst [])) (lf0 m) [0] [] :=
   ⟨s0,by rw[ah hln,ah hfl,ac,lf0,map_map];rfl,by rw[ah hfn,ac];rfl,ac,λz hz=>by simp at hz,(af hp1).free hpl,((af hp1).trans (af hpl)).free hpf,(((af hp1).trans (af hpl)).trans (af hpf)).free hpn,hfl,hln,hfn⟩
  have B0:Bd [] (lf0 m):=Bd.zero hm9;refine⟨_,rfl,_,rfl,_,rfl,_,_,rfl,rfl,a,_,_,rfl,ha0,by omega,hS.same s0,λr H1 r0 r1 s1=>⟨r,rfl,by omega,by omega,?_⟩⟩;refine nB (n:=r.toNat) (λi σ H'=>∃lf zs o6 o7 o8 o9 o10,σ=[some (.ref a),some (.int at'),some (.int m),some (.ref pl),some (.ref pf),some (.ref pn),o6,o7,o8,o9,o10]∧Sta H pl pf pn H' lf (0::TW.aA (nds zs)) zs∧Bd zs lf∧(lf.length:Int)+i=m+3∧zs.length≤i)
   ⟨_,[],_,_,_,_,_,rfl,A0.grow s1,B0,by rw[rf hm0];omega,le_refl _⟩ (λi σ H' hi h=>?_) (λσ H' h=>?_)
  ·obtain⟨lf,zs,o6,o7,o8,o9,o10,rfl,A1,B,hlf,hzl⟩:=h;have hi8:i<10:=by omega
   have z0:(0:Int)≤at'+1+6*(0+(i:Int)):=by omega
   refine⟨_,rfl,.inl ⟨rfl,_,SqL.of A1.l⟩,_,rfl,_,rfl,_,_,rfl,rfl,_,rfl,_,_,rfl,rfl,.inl ⟨by decide,by decide⟩,_,_,rfl,rfl,_,rfl,pl,_,rfl,.inl (SqL.of A1.l),a,_,_,rfl,by omega,by rw[length_map];omega,hS.same A1.same,λj H2 j0 j1 s2=>?_⟩;rw[length_map]at j1;have A2:=A1.grow s2;obtain⟨num,gnum⟩:∃num,lf[j.toNat]?=some num:=⟨_,getElem?_eq_getElem (by omega)⟩;refine⟨pl,_,j,j.toNat,.int num,rfl,rfl,A2.l,by omega,by omega,by rw[length_map];exact tE j0 j1,by rw[getElem?_map,gnum];rfl,?_⟩;rw[iQ];have A3:=A2.pop (lf.eraseIdx j.toNat);have elen:(lf.eraseIdx j.toNat).length=lf.length-1:=List.length_eraseIdx_of_lt (by omega);generalize upd H2 pl (.lst ((lf.eraseIdx j.toNat).map V.int))=H3 at A3⊢;refine⟨_,rfl,_,rfl,_,rfl,_,_,rfl,rfl,_,rfl,_,_,rfl,rfl,.inl ⟨by decide,by decide⟩,_,_,rfl,rfl,_,rfl,pf,_,rfl,.inl (SqL.of A3.f),a,_,_,rfl,by omega,by rw[length_map,length_cons];omega,hS.same A3.same,λj2 H4 j20 j21 s4=>?_⟩;rw[length_map]at j21;obtain⟨par,mpar,gpar⟩:=ra j20 j21;have A4:=A3.grow s4;refine⟨pf,_,_,_,rfl,rfl,SqL.of A4.f,gpar,?_⟩;refine⟨aV (by decide),λp3 hp3=>?_⟩;have A5:=A4.grow (af (o:=.lst [.str "a",.str "b",.str "c",.str "abcde"]) hp3);refine⟨_,rfl,_,rfl,_,_,rfl,rfl,_,rfl,_,_,rfl,rfl,.inl ⟨by decide,by decide⟩,_,_,rfl,rfl,a,_,_,rfl,by omega,by decide,hS.same A5.same,λj3 H5 j30 j31 s5=>?_⟩;obtain⟨nm,hnm,gnm⟩:=rc j30 j31;refine⟨p3,_,_,_,rfl,rfl,SqL.of (s5 _ _ ac),gnm,?_⟩;have A6:=A5.grow s5;refine⟨_,rfl,_,rfl,_,_,rfl,rfl,_,rfl,_,_,rfl,rfl,.inl ⟨by decide,by decide⟩,_,_,rfl,rfl,a,_,_,rfl,by omega,by decide,hS.same A6.same,λj4 H6 j40 j41 s6=>⟨_,_,rfl,rfl,_,rfl,?_⟩⟩;have A6':=A6.grow s6;refine vE (λhgt=>?_) (λhgt=>?_)
   ·refine⟨aV (by decide),λp5 hp5=>?_⟩;have A65:=A6'.grow (af (o:=.lst [.int 0,.int 1,.int 2,.int 999]) hp5);refine⟨_,rfl,_,rfl,_,_,rfl,rfl,_,rfl,_,_,rfl,rfl,.inl ⟨by decide,by decide⟩,_,_,rfl,rfl,a,_,_,rfl,by omega,by decide,hS.same A65.same,λj5 H65 j50 j51 s65=>?_⟩;obtain⟨i5,hst5,gst⟩:=re j50 j51;refine⟨p5,_,_,_,rfl,rfl,SqL.of (s65 _ _ ac),gst,?_⟩;have A66:=A65.grow s65;exact h5 _ H H65 pl pf pn _ _ _ _ (lf.eraseIdx j.toNat) zs num par nm (some i5) A66 (by omega) (λH' A8=>⟨_,zs,_,_,_,_,_,rfl,A8,B.skip _,by rw[elen];omega,by omega⟩)
     (λq H' ho A9=>⟨_,_,_,_,_,_,_,rfl,A9,B.add (q:=q) (n:=⟨num,par,nm,(some i5)⟩) gnum mpar ho hnm hst5,by rw[elen];omega,by rw[length_append,length_singleton];omega⟩)
   ·exact h5 _ H H6 pl pf pn _ _ _ _ (lf.eraseIdx j.toNat) zs num par nm none A6' (by omega) (λH' A8=>⟨_,zs,_,_,_,_,_,rfl,A8,B.skip _,by rw[elen];omega,by omega⟩)
     (λq H' ho A9=>⟨_,_,_,_,_,_,_,rfl,A9,B.add (q:=q) (n:=⟨num,par,nm,none⟩) gnum mpar ho hnm (.inl rfl),by rw[elen];omega,by rw[length_append,length_singleton];omega⟩)
  ·obtain⟨lf,zs,o6,o7,o8,o9,o10,rfl,A1,B,hlf,hzl⟩:=h;have hzl8:(zs.length:Int)≤m:=by omega
   have hnum:(zs.map tp).map (·.2.1)=(nds zs).map (·.num):=by
    unfold nds;simp only[map_map];rfl
   have hnd:((nds zs).map (·.num)).Nodup:=(nodup_append.mp B.nd).1;refine⟨_,rfl,pn,zs.map tp,rfl,SqL.of (by rw[A1.n,mQ]),λz hz=>?_,by rw[hnum];exact hnd,by rw[length_map];omega,λts pm up p hp=>?_⟩
   ·obtain⟨y,hy,rfl⟩:=mem_map.mp hz;exact A1.nd y hy
   ·obtain⟨pm2,eb⟩:=back pm;have er:(ts.map (·.1)).map V.ref=aP (ts.map un):=by rw[←mQ,eb]
    rw[er];refine⟨p,_,rfl,.inl ⟨SqL.of ac,λl hl=>?_⟩⟩;have mem:∀z,z∈ts.map un→z∈zs:=λz hz=>pm2.mem_iff.mp hz;refine k l (ts.map un) _ ac ?_ (by rw[pm2.length_eq];exact hzl8) ?_ (λz hz=>B.ok z (mem z hz)) ((A1.same.trans (af hp)).trans (af hl))
    ·intro z hz;exact((af hp).trans (af hl)) _ _ (A1.nd z (mem z hz))
    ·refine TW.qY B.built (pm2.map _) ?_ hnd B.own;unfold nds;rw[pairwise_map];have up2:((ts.map un).map tp).Pairwise (λa b=>a.2.1<b.2.1):=by rw[eb];exact up
     rw[pairwise_map]at up2;exact up2.imp λh=>Int.le_of_lt h
end
def FN:List Str:=["_law_script","_law_tree_here","_law_book_here","_law_name","_law_one","_law_files","_law_low","_law_high","_law_stamps","_law_folder","_law_told","_law_paths","_law_folders"]
theorem scF:FnScope FN ["_law_script"] (ae aW):=fsc
abbrev FX(P:Program)(w:World)(K:PySem.W.Frag)(mg:Str→Option Value)(base:Heap)(f:Addr)(cdv:Value)(A:Around)(outer:List Env)(s:Shared)(H:Hp)(E:XK):Cx:=(gb CX0 P w K mg base FN "law" (ae aW) f cdv A outer s H E).nox
def fS(i:Nat):Stmt:=(bg aW).getD i (.Pass ⟨0,0,0,0⟩)
abbrev fσ(a t d:Addr)(x3 x4 x5 x6 x7 x8 x9 x10 x11 x12:Option V):St:=[some (.ref a),some (.ref t),some (.ref d),x3,x4,x5,x6,x7,x8,x9,x10,x11,x12]
theorem jG{Pt:Addr}{q:Str}{H H':Hp}(T:cO H Pt q)(o:dS Pt H H'){b:Addr}{u:HO}(e:H b=some u)(n:∀ps,u≠.tbl ps):H' b=some u:=o b u (λz=>by
 obtain⟨ps,h1,_⟩:=T;rw[z,h1]at e;exact n ps (Option.some.inj e).symm) e
structure FF(H:Hp)(PC t d:Addr)(zs:ZN)(as:List (Addr×(Addr×Nd))):Prop where
 tr:Tre H t zs
 bk:Book H d as zs
 dz:∃o,H d=some (.frz o (.dK (bJ as)))
 tab:cO H PC fG
 gd:∀z∈zs,tD z.2
section
variable{H H':Hp}{PC t d:Addr}{zs:ZN}{as:List (Addr×(Addr×Nd))}
theorem FF.same(h:FF H PC t d zs as)(s:Same H H'):FF H' PC t d zs as:=⟨h.tr.same s,h.bk.same s,let⟨o,e⟩:=h.dz;⟨o,s _ _ e⟩,dA h.tab s,h.gd⟩
theorem FF.off(h:FF H PC t d zs as)(o:dS PC H H')(tq:cO H' PC fG):FF H' PC t d zs as:=by
 have k:∀b u,H b=some u→(∀ps,u≠.tbl ps)→H' b=some u:=λb u e n=>jG h.tab o e n;obtain⟨oo,hd⟩:=h.dz;have hd':=k _ _ hd λps e=>(by cases e);exact⟨⟨k _ _ h.tr.tup λps e=>(by cases e),λz hz=>k _ _ (h.tr.nod z hz) λps e=>(by cases e),h.tr.tr,h.tr.len⟩,⟨.inr ⟨oo,hd'⟩,h.bk.of,λa ha=>k _ _ (h.bk.at' a ha) λps e=>(by cases e)⟩,⟨oo,hd'⟩,tq,h.gd⟩
theorem FF.nd(h:FF H PC t d zs as):((nds zs).map (·.num)).Nodup:=bp h.tr.tr
theorem FF.keys(h:FF H PC t d zs as):(bJ as).map (λp=>kV p.1)=zs.map λz=>V.int z.2.num:=by
 rw[rl,lM,←h.bk.of];simp only[map_map];rfl
theorem FF.rise(h:FF H PC t d zs as)(g:Addr×Nd→Bool):(nums (zs.filter g)).Pairwise λa b:Int=>a<b:=by
 have:=h.tr.tr.rise;unfold TW.nW nds at this;unfold nums;rw[pairwise_map]at this⊢;exact this.sublist filter_sublist
theorem jH{l m:List Int}(hl:l.Pairwise λa b:Int=>a<b)(hm:m.Pairwise λa b:Int=>a<b)(h:l.Perm m):l=m:=cx (R:=λa b:Int=>a<b) (λa=>Int.lt_irrefl a) (λa b h1 h2=>by omega) hl hm λx=>h.mem_iff
theorem FF.ndf(h:FF H PC t d zs as)(g:Addr×Nd→Bool):(nums (zs.filter g)).Nodup:=(h.rise g).imp λh=>by omega
theorem dv(zs:ZN):(nums zs).length=zs.length:=length_map _
theorem aR(zs:ZN):dc zs=(nums zs).map V.int:=by unfold dc nums;rw[map_map];rfl
theorem ia(ms:List Int):(ms.map V.int).all bH=true:=by
 rw[all_eq_true];intro x hx;obtain⟨k,_,rfl⟩:=mem_map.mp hx;rfl
end
section
variable{P:Program}{w:World}{K:PySem.W.Frag}{mg:Str→Option Value}{base:Heap}{f PC:Addr}{cdv:Value}{A:Around}{outer:List Env}{s:Shared}{H0:Hp}{E:XK}
def nbS:Stmt:=match fS 2 with
 |.For _ _ b _ _=>b.getD 0 (.Pass ⟨0,0,0,0⟩)
 |_=>.Pass ⟨0,0,0,0⟩
theorem fl2(T:Txt mg)(hr:Room 5 (A.deeper (PyProof.Rows.envOfC "law" (ae aW) s.heap.objs.size f cdv)))(CN:Has P w K mg base 1 "named" ["tree","name"] dB):
  ∃rd,PS (FX P w K mg base f cdv A outer s H0 E) nbS rd∧∀(D:Ends)(H:Hp)(a t d:Addr)(zs:ZN)(as:List (Addr×(Addr×Nd)))(x:Str)(x4 x5 x6 x7 x8 x9 x10 x11 x12:Option V),FF H PC t d zs as →
   (∀H',Same H H'→D.nx (fσ a t d (some (.str x)) x4 x5 x6 x7 x8 x9 x10 x11 x12) H')→rd D (fσ a t d (some (.str x)) x4 x5 x6 x7 x8 x9 x10 x11 x12) H:=by
 obtain⟨fN,fdN,GN,mN,kN,bN⟩:=CN;have hr1:Room 1 _:=hr.mono (by decide);have hu4:=cW hr;refine⟨_,ck (aq (gS hu4) (am GN hr1 rfl mN kN bN .nil aJ (aa (pv 1) (aa (pv 3) ag))) (aL ba rfl T.sorted boot_sorted (aa (bM (N:=["_law_one","_law_book_here","_law_name"]) (cl:=[("_law_name",s.heap.objs.size+3),("_law_book_here",s.heap.objs.size+2)]) (k:=1) (js:=[2,3]) (g:=aB 0) rfl
    (LcOk.mk' ["_law_name","_law_book_here"] rfl rfl (by decide +kernel) (by decide +kernel) ?hcl rfl (by decide +kernel)) rfl ?hj (fV (pv 2)) (λs H fp=>al (i:=0) (show(["_law_one","_law_book_here","_law_name"]:List Str).Nodup by decide +kernel) rfl (Or.inl rfl) (Or.inr rfl))
    (λs H fp=>aq gD (ay (r:=bw K) av (aS (bv hr) (pv 1) (pv 0) (λ_ _=>rfl)) ai (λ_ _=>rfl)) (pv 2) (aG _)) (λs H fp=>pv 0)) ag)) (aG _)) br aX,?_⟩
 case hcl =>
  intro y hy;rcases mem_cons.mp hy with e|hy
  ·rw[e];rfl
  ·skip
   rcases mem_cons.mp hy with e|hy
   ·rw[e];rfl
   ·skip
    cases hy
 case hj =>
  intro i j x h1 h2
  match i,h1,h2 with
  |0,h1,h2 =>
   cases h1;cases h2;exact⟨rfl,Or.inr (Or.inl rfl),(show((ae aW).names.lookup ("_law_book_here":Str)≠some NameKind.local)by decide +kernel),by first|exact Or.inl rfl|exact Or.inr rfl⟩
  |1,h1,h2 =>
   cases h1;cases h2;exact⟨rfl,Or.inr (Or.inl rfl),(show((ae aW).names.lookup ("_law_name":Str)≠some NameKind.local)by decide +kernel),by first|exact Or.inl rfl|exact Or.inr rfl⟩
  |i+2,h1,h2=>simp at h1
 intro D H a t d zs as x x4 x5 x6 x7 x8 x9 x10 x11 x12 L q;have hl:=L.tr.len;refine⟨_,rfl,_,rfl,t,zs,x,rfl,L.tr.tup,L.tr.nod,by omega,λl H1 s1 _ hl1=>?_⟩;have L1:=L.same s1;obtain⟨o,ho⟩:=L1.dz;refine⟨_,rfl,d,o,_,rfl,ho,λp hp=>?_⟩;rw[L1.keys];refine bz (fr:=[some (.ref d),some (.str x)]) zs (λz=>V.int z.2.num) (by omega) hp (by have:=cr (ks:=zs.map λz=>V.int z.2.num) ho;exact this) rfl (λz=>decide (z.2.nm=x)) (λz y _=>y=.int z.2.num) (λ_ _ _ _ h _=>h) (λz H' k mz s2 _ hk=>?_) (λz H' k mz _ s2 _ hk=>?_) (λys H2 s2 hp2 hys=>?_)
 ·obtain⟨b,hb1,hb2⟩:=(L1.bk.same s2).get L.nd mz;refine⟨_,rfl,_,rfl,d,_,rfl,hb1,b,_,_,_,rfl,rfl,SqT.of hb2,rk z.2,_,rfl,rfl,_,rfl,?_⟩;have e:decide (V.str z.2.nm=V.str x)=decide (z.2.nm=x):=by simp
  rw[e];exact hk H' (Same.refl _)
 ·exact⟨_,rfl,hk _ H' (Same.refl _) rfl⟩
 ·have ey:=au (f:=λz:Addr×Nd=>V.int z.2.num) hys (λz y _ h=>h);have e2:ys=(nums (zs.filter λz=>decide (z.2.nm=x))).map V.int:=by rw[ey];exact aR _
  rw[e2]at hp2;have hfl:=length_filter_le (λz:Addr×Nd=>decide (z.2.nm=x)) zs;refine⟨p,_,rfl,hp2,L.ndf _,by rw[dv];omega,λms hpm hup p3 hp3=>?_⟩;have em:=jH hup (L.rise _) hpm;subst em;have s3:=af (o:=.lst ((nums (zs.filter λz=>decide (z.2.nm=x))).map V.int)) hp3;refine .inr ⟨l,p3,_,_,rfl,rfl,bS (ia _),.inl ⟨?_,ac⟩,_,rfl,bZ (q _ ((s1.trans s2).trans s3))⟩;have h:=s3 _ _ (s2 _ _ hl1);rw[aR]at h;exact h
theorem fl3(T:Txt mg)(hr:Room 5 (A.deeper (PyProof.Rows.envOfC "law" (ae aW) s.heap.objs.size f cdv))):
  ∃rd,PS (FX P w K mg base f cdv A outer s H0 E) (fS 3) rd∧∀(D:Ends)(H:Hp)(a t d:Addr)(zs:ZN)(as:List (Addr×(Addr×Nd)))(x3 x4 x5 x6 x7 x8 x9 x10 x11 x12:Option V),FF H PC t d zs as →
   (∀fl H',Same H H'→H' fl=some (.lst ((nums (zs.filter isF)).map V.int))→D.nx (fσ a t d x3 x4 (some (.ref fl)) x6 x7 x8 x9 x10 x11 x12) H')→rd D (fσ a t d x3 x4 x5 x6 x7 x8 x9 x10 x11 x12) H:=by
 refine⟨_,aE (i:=5) scF.nd rfl (Or.inr rfl) (aL ba rfl T.sorted boot_sorted (aa (bM (N:=["_law_one","_law_book_here"]) (cl:=[("_law_book_here",s.heap.objs.size+2)]) (k:=1) (js:=[2]) (g:=aB 0) rfl
    (LcOk.mk' ["_law_book_here"] rfl rfl (by decide +kernel) (by decide +kernel) ?hcl rfl (by decide +kernel)) rfl ?hj (fV (pv 2)) (λs H fp=>al (i:=0) (show(["_law_one","_law_book_here"]:List Str).Nodup by decide +kernel) rfl (Or.inl rfl) (Or.inr rfl))
    (λs H fp=>aq gh (ay (r:=bw K) av (aS (bv hr) (pv 1) (pv 0) (λ_ _=>rfl)) ai (λ_ _=>rfl)) cg (aG _)) (λs H fp=>pv 0)) ag)),?_⟩
 case hcl =>
  intro y hy;rcases mem_cons.mp hy with e|hy
  ·rw[e];rfl
  ·skip
   cases hy
 case hj =>
  intro i j x h1 h2
  match i,h1,h2 with
  |0,h1,h2 =>
   cases h1;cases h2;exact⟨rfl,Or.inr (Or.inl rfl),(show((ae aW).names.lookup ("_law_book_here":Str)≠some NameKind.local)by decide +kernel),by first|exact Or.inl rfl|exact Or.inr rfl⟩
  |i+1,h1,h2=>simp at h1
 intro D H a t d zs as x3 x4 x5 x6 x7 x8 x9 x10 x11 x12 L q;have hl:=L.tr.len;obtain⟨o,ho⟩:=L.dz;refine⟨_,rfl,d,o,_,rfl,ho,λp hp=>?_⟩;rw[L.keys];refine bz (fr:=[some (.ref d)]) zs (λz=>V.int z.2.num) (by omega) hp (by have:=cr (ks:=zs.map λz=>V.int z.2.num) ho;exact this) rfl isF (λz y _=>y=.int z.2.num) (λ_ _ _ _ h _=>h) (λz H' k mz s2 _ hk=>?_) (λz H' k mz _ s2 _ hk=>?_) (λys H2 s2 hp2 hys=>?_)
 ·obtain⟨b,hb1,hb2⟩:=(L.bk.same s2).get L.nd mz;refine⟨_,rfl,_,rfl,d,_,rfl,hb1,b,_,_,_,rfl,rfl,SqT.of hb2,pN z.2,rfl,_,rfl,?_⟩;have e:(!decide (stV z.2.st=V.non))=isF z:=by
   unfold isF;cases z.2.st<;>simp[stV]
  rw[e];exact hk H' (Same.refl _)
 ·exact⟨_,rfl,hk _ H' (Same.refl _) rfl⟩
 ·have ey:=au (f:=λz:Addr×Nd=>V.int z.2.num) hys (λz y _ h=>h);have e2:ys=(nums (zs.filter isF)).map V.int:=by rw[ey];exact aR _
  rw[e2]at hp2;have hfl:=length_filter_le isF zs;refine⟨p,_,rfl,hp2,L.ndf _,by rw[dv];omega,λms hpm hup p3 hp3=>?_⟩;have em:=jH hup (L.rise _) hpm;subst em;exact q p3 _ (s2.trans (af hp3)) ac
end
theorem ib{z:Addr×Nd}(h:isF z=true):∃i,z.2.st=some i:=by
 unfold isF at h;cases e:z.2.st with
 |none=>rw[e]at h;cases h
 |some i=>exact⟨i,rfl⟩
section
variable{P:Program}{w:World}{K:PySem.W.Frag}{mg:Str→Option Value}{base:Heap}{f PC:Addr}{cdv:Value}{A:Around}{outer:List Env}{s:Shared}{H0:Hp}{E:XK}
def sbS:Stmt:=match fS 4 with
 |.For _ _ b _ _=>b.getD 0 (.Pass ⟨0,0,0,0⟩)
 |_=>.Pass ⟨0,0,0,0⟩
theorem fl4(T:Txt mg)(hr:Room 5 (A.deeper (PyProof.Rows.envOfC "law" (ae aW) s.heap.objs.size f cdv)))(CS:Has P w K mg base 2 "stamped" ["tree","low","high"] iY):
  ∃rd,PS (FX P w K mg base f cdv A outer s H0 E) sbS rd∧∀(D:Ends)(H:Hp)(a t d fl:Addr)(zs:ZN)(as:List (Addr×(Addr×Nd)))(lo hi:Int)(x3 x4 x8 x9 x10 x11 x12:Option V),FF H PC t d zs as→H fl=some (.lst ((nums (zs.filter isF)).map V.int)) →
   (∀H',Same H H'→D.nx (fσ a t d x3 x4 (some (.ref fl)) (some (.int lo)) (some (.int hi)) x8 x9 x10 x11 x12) H')→rd D (fσ a t d x3 x4 (some (.ref fl)) (some (.int lo)) (some (.int hi)) x8 x9 x10 x11 x12) H:=by
 obtain⟨fN,fdN,GN,mN,kN,bN⟩:=CS;have hr2:Room 2 _:=hr.mono (by decide);have hu4:=cW hr;refine⟨_,ck (aq (gS hu4) (am GN hr2 rfl mN kN bN .nil aJ (aa (pv 1) (aa (pv 6) (aa (pv 7) ag)))) (bM (N:=["_law_one","_law_book_here","_law_high","_law_low"]) (cl:=[("_law_low",s.heap.objs.size+5),("_law_high",s.heap.objs.size+6),("_law_book_here",s.heap.objs.size+2)]) (k:=1) (js:=[2,7,6]) (g:=aB 0) rfl
    (LcOk.mk' ["_law_low","_law_high","_law_book_here"] rfl rfl (by decide +kernel) (by decide +kernel) ?hcl rfl (by decide +kernel)) rfl ?hj (aM (pv 5)) (λs H fp=>al (i:=0) (show(["_law_one","_law_book_here","_law_high","_law_low"]:List Str).Nodup by decide +kernel) rfl (Or.inl rfl) (Or.inr rfl))
    (λs H fp=>PW.pt (pw_and (aq lX (pv 3) (ay (r:=bw K) av (aS (bv hr) (pv 1) (pv 0) (λ_ _=>rfl)) ai (λ_ _=>rfl)) (aG _)) (pw_and1 (aq lX (ay (r:=bw K) av (aS (bv hr) (pv 1) (pv 0) (λ_ _=>rfl)) ai (λ_ _=>rfl)) (pv 2) (aG _))))) (λs H fp=>pv 0)) (aG _)) br aX,?_⟩
 case hcl =>
  intro y hy;rcases mem_cons.mp hy with e|hy
  ·rw[e];rfl
  ·skip
   rcases mem_cons.mp hy with e|hy
   ·rw[e];rfl
   ·skip
    rcases mem_cons.mp hy with e|hy
    ·rw[e];rfl
    ·skip
     cases hy
 case hj =>
  intro i j x h1 h2
  match i,h1,h2 with
  |0,h1,h2 =>
   cases h1;cases h2;exact⟨rfl,Or.inr (Or.inl rfl),(show((ae aW).names.lookup ("_law_book_here":Str)≠some NameKind.local)by decide +kernel),by first|exact Or.inl rfl|exact Or.inr rfl⟩
  |1,h1,h2 =>
   cases h1;cases h2;exact⟨rfl,Or.inr (Or.inl rfl),(show((ae aW).names.lookup ("_law_high":Str)≠some NameKind.local)by decide +kernel),by first|exact Or.inl rfl|exact Or.inr rfl⟩
  |2,h1,h2 =>
   cases h1;cases h2;exact⟨rfl,Or.inr (Or.inl rfl),(show((ae aW).names.lookup ("_law_low":Str)≠some NameKind.local)by decide +kernel),by first|exact Or.inl rfl|exact Or.inr rfl⟩
  |i+3,h1,h2=>simp at h1
 intro D H a t d fl zs as lo hi x3 x4 x8 x9 x10 x11 x12 L hfl q;have hl:=L.tr.len;refine⟨_,rfl,_,rfl,_,rfl,t,zs,lo,hi,rfl,L.tr.tup,L.tr.nod,by omega,λl H1 s1 _ hl1=>?_⟩;have L1:=L.same s1;have hfl1:=s1 _ _ hfl;have hle:=length_filter_le isF zs;refine⟨_,rfl,fl,rfl,⟨_,SqL.of hfl1⟩,λp hp=>?_⟩;refine bz (fr:=[some (.ref d),some (.int hi),some (.int lo)]) (zs.filter isF) (λz=>V.int z.2.num) (by omega) hp (aY (by rw[show((zs.filter isF).map λz=>V.int z.2.num)=(nums (zs.filter isF)).map V.int from aR _];exact SqL.of hfl1)) rfl (inS lo hi) (λz y _=>y=.int z.2.num) (λ_ _ _ _ h _=>h) (λz H' k mz s2 _ hk=>?_) (λz H' k mz _ s2 _ hk=>?_) (λys H2 s2 hp2 hys=>?_)
 ·obtain⟨b,hb1,hb2⟩:=(L1.bk.same s2).get L.nd (mem_filter.mp mz).1;obtain⟨i,ei⟩:=ib (mem_filter.mp mz).2;have r2:=pN z.2;have ek:inS lo hi z=(decide (lo≤i)&&decide (i≤hi)):=by unfold inS;rw[ei]
  rw[ek]at hk;refine⟨_,rfl,_,rfl,_,rfl,d,_,rfl,hb1,b,_,_,_,rfl,rfl,SqT.of hb2,r2,?_⟩;rw[ei];refine⟨_,_,rfl,rfl,_,rfl,?_⟩
  by_cases h1:lo≤i
  ·rw[decide_eq_true h1]at hk⊢;refine dM ⟨_,rfl,_,rfl,d,_,rfl,hb1,b,_,_,_,rfl,rfl,SqT.of hb2,r2,?_⟩;rw[ei];exact⟨_,rfl,_,_,rfl,rfl,_,rfl,hk H' (Same.refl _)⟩
  ·rw[decide_eq_false h1]at hk⊢;exact bZ (hk H' (Same.refl _))
 ·exact⟨_,rfl,hk _ H' (Same.refl _) rfl⟩
 ·have ey:=au (f:=λz:Addr×Nd=>V.int z.2.num) hys (λz y _ h=>h);rw[ey]at hp2;refine .inr ⟨l,p,dc _,dc _,rfl,rfl,bS (by rw[aR];exact ia _),.inl ⟨s2 _ _ hl1,hp2⟩,_,rfl,bZ (q _ (s1.trans s2))⟩
theorem fl5(T:Txt mg)(hr:Room 5 (A.deeper (PyProof.Rows.envOfC "law" (ae aW) s.heap.objs.size f cdv))):
  ∃rd,PS (FX P w K mg base f cdv A outer s H0 E) (fS 5) rd∧∀(D:Ends)(H:Hp)(a t d fl:Addr)(zs:ZN)(as:List (Addr×(Addr×Nd)))(x3 x4 x6 x7 x8 x9 x10 x11 x12:Option V),FF H PC t d zs as→H fl=some (.lst ((nums (zs.filter isF)).map V.int)) →
   (∀sl (ms:List Int) H',Same H H'→H' sl=some (.lst (ms.map V.int))→ms.Pairwise (λa b=>a<b)→(∀k,k∈ms↔∃z∈zs,z.2.st=some k)→ms.length≤60→D.nx (fσ a t d x3 x4 (some (.ref fl)) x6 x7 (some (.ref sl)) x9 x10 x11 x12) H')→rd D (fσ a t d x3 x4 (some (.ref fl)) x6 x7 x8 x9 x10 x11 x12) H:=by
 refine⟨_,aE (i:=8) scF.nd rfl (Or.inl rfl) (aL (hV rfl) rfl T.sorted boot_sorted (aa (bu (iu rfl) rfl T.set rfl (aa (di (N:=["_law_one","_law_book_here"]) (cl:=[("_law_book_here",s.heap.objs.size+2)]) (k:=1) (js:=[2]) (g:=aB 0) rfl
    (LcOk.mk' ["_law_book_here"] rfl rfl (by decide +kernel) (by decide +kernel) ?hcl rfl (by decide +kernel)) rfl ?hj (aM (pv 5)) (λs H fp=>al (i:=0) (show(["_law_one","_law_book_here"]:List Str).Nodup by decide +kernel) rfl (Or.inl rfl) (Or.inr rfl))
    (λs H fp=>(ay (r:=bw K) av (aS (bv hr) (pv 1) (pv 0) (λ_ _=>rfl)) ai (λ_ _=>rfl)))) ag)) ag)),?_⟩
 case hcl =>
  intro y hy;rcases mem_cons.mp hy with e|hy
  ·rw[e];rfl
  ·skip
   cases hy
 case hj =>
  intro i j x h1 h2
  match i,h1,h2 with
  |0,h1,h2 =>
   cases h1;cases h2;exact⟨rfl,Or.inr (Or.inl rfl),(show((ae aW).names.lookup ("_law_book_here":Str)≠some NameKind.local)by decide +kernel),by first|exact Or.inl rfl|exact Or.inr rfl⟩
  |i+1,h1,h2=>simp at h1
 intro D H a t d fl zs as x3 x4 x6 x7 x8 x9 x10 x11 x12 L hfl q;have hl:=L.tr.len;have hle:=length_filter_le isF zs;refine⟨_,rfl,fl,rfl,⟨_,SqL.of hfl⟩,λp hp=>?_⟩;refine cV (fr:=[some (.ref d)]) (zs.filter isF) (λz=>V.int z.2.num) (by omega) hp (aY (by rw[show((zs.filter isF).map λz=>V.int z.2.num)=(nums (zs.filter isF)).map V.int from aR _];exact SqL.of hfl)) rfl (λz y _=>y=.int (z.2.st.getD 0)) (λ_ _ _ _ h _=>h) (λz H' k mz s2 _ hk=>?_) (λys H2 s2 hp2 hys=>?_)
 ·obtain⟨b,hb1,hb2⟩:=(L.bk.same s2).get L.nd (mem_filter.mp mz).1;obtain⟨i,ei⟩:=ib (mem_filter.mp mz).2;refine⟨_,rfl,_,rfl,d,_,rfl,hb1,b,_,_,_,rfl,rfl,SqT.of hb2,pN z.2,?_⟩;refine hk _ H' (Same.refl _) ?_;rw[ei];rfl
 ·have ey:=au (f:=λz:Addr×Nd=>V.int (z.2.st.getD 0)) hys (λz y _ h=>h);have ey2:ys=((zs.filter isF).map λz=>z.2.st.getD 0).map V.int:=by rw[ey,map_map];rfl
  rw[ey2]at hp2;refine⟨p,_,rfl,SqL.of hp2,by rw[length_map];omega,λns hnd hns q1 hq1=>?_⟩;have hnl:ns.length≤60:=by
   have:ns.length≤((zs.filter isF).map λz=>z.2.st.getD 0).length:=hnd.length_le_of_subset λx hx=>(hns x).mp hx;rw[length_map]at this;omega
  refine⟨q1,ns,rfl,ac,hnl,λms hpm hup p3 hp3=>?_⟩;refine q p3 ms _ ((s2.trans (af hq1)).trans (af hp3)) ac hup (λk=>?_) (by rw[hpm.length_eq];exact hnl);rw[hpm.mem_iff,hns,mem_map];constructor
  ·rintro⟨z,hz,e⟩;obtain⟨i,ei⟩:=ib (mem_filter.mp hz).2;rw[ei]at e;exact⟨z,(mem_filter.mp hz).1,by rw[ei];exact congrArg some e⟩
  ·rintro⟨z,hz,e⟩;exact⟨z,mem_filter.mpr ⟨hz,by unfold isF;rw[e];rfl⟩,by rw[e];rfl⟩
def dbS:Stmt:=match fS 7 with
 |.For _ _ b _ _=>b.getD 0 (.Pass ⟨0,0,0,0⟩)
 |_=>.Pass ⟨0,0,0,0⟩
theorem fl7{CN0:Addr}(T:Txt mg)(hr:Room 5 (A.deeper (PyProof.Rows.envOfC "law" (ae aW) s.heap.objs.size f cdv)))(CD:Has P w K mg base 3 "depth_of" ["tree","number"] iX)(CL:Has P w K mg base 1 "_law_path" ["_law_book_here","_law_number"] lO)(CF:Has P w K mg base 1 "find" ["tree","path"] fw)(CP:eV P w K mg base 2 "path_of" ["tree","number"] (gZ CN0)):
  ∃rd,PS (FX P w K mg base f cdv A outer s H0 E) dbS rd∧∀(D:Ends)(H:Hp)(a t d:Addr)(zs:ZN)(as:List (Addr×(Addr×Nd)))(z:Addr×Nd)(x3 x5 x6 x7 x8 x9 x10 x11 x12:Option V),FF H PC t d zs as→z∈zs →
   (∀H',Same H H'→D.nx (fσ a t d x3 (some (.int z.2.num)) x5 x6 x7 x8 x9 x10 x11 x12) H')→rd D (fσ a t d x3 (some (.int z.2.num)) x5 x6 x7 x8 x9 x10 x11 x12) H:=by
 obtain⟨fD,fdD,GD,mD,kD,bD⟩:=CD;obtain⟨fL,fdL,GL,mL,kL,bL⟩:=CL;obtain⟨fF,fdF,GF,mF,kF,bF⟩:=CF;obtain⟨fP,fdP,GP,mP,kP,bP⟩:=CP;have hr3:Room 3 _:=hr.mono (by decide);have hr2:Room 2 _:=hr.mono (by decide);have hr1:Room 1 _:=hr.mono (by decide);refine⟨_,ck (PW.pt (pw_or (aq gE (am GD hr3 rfl mD kD bD .nil aJ (aa (pv 1) (aa (pv 4) ag))) (aL bf rfl T.len boot_len (aa (am GL hr1 rfl mL kL bL .nil aJ (aa (pv 2) (aa (pv 4) ag))) ag)) (aG _))
  (pw_or1 (aq gE (am GF hr1 rfl mF kF bF .nil aJ (aa (pv 1) (aa (am GP hr2 rfl mP kP bP .nil mH (aa (pv 1) (aa (pv 4) ag))) ag))) (pv 4) (aG _))))) br aX,?_⟩
 intro D H a t d zs as z x3 x5 x6 x7 x8 x9 x10 x11 x12 L hz q;obtain⟨p,hp⟩:=TW.PathTo.ex L.tr.tr (gn hz);have b:=L.gd z hz;have b1:=b.1;have b2:=b.2.1;have hl:=L.tr.len;refine⟨_,rfl,_,rfl,t,z.2.num,zs,p,rfl,L.tr,by omega,by omega,⟨z,hz,rfl⟩,hp,λH1 s1=>?_⟩;have L1:=L.same s1;refine⟨_,rfl,_,rfl,d,z.2.num,as,zs,p,rfl,L1.bk,L.tr.tr,L.tr.len,hp,λt1 H2 s2 ht1=>?_⟩;have L2:=L1.same s2;refine⟨t1,_,rfl,.inr (SqT.of ht1),rfl,_,rfl,?_⟩;rw[show(!decide (V.int (p.length:Int)=V.int ((p.map V.str).length:Int)))=false by simp];refine bZ ?_;refine⟨_,rfl,_,rfl,_,rfl,t,z.2.num,zs,rfl,L2.tr,by omega,by omega,λ_ _ _ p' hp' t3 H3 s3 ht3=>?_,λhno=>absurd rfl (hno z hz)⟩;have e:=hp'.uniq L.tr.tr hp;subst e;have l3:p'.length≤100:=by have:=hp.len L.tr.tr;rw[bd]at this;omega
 refine⟨t,t3,zs,p',rfl,(L2.same s3).tr,ht3,l3,λv H4 s4 hf=>?_⟩;rcases hf with⟨k,rfl,hk⟩|⟨_,hno⟩
 ·have ek:=hk.key L.tr.tr hp;subst ek;refine⟨_,rfl,rfl,_,rfl,?_⟩;rw[show(!decide (V.int z.2.num=V.int z.2.num))=false by simp];exact bZ (q H4 (((s1.trans s2).trans s3).trans s4))
 ·exact absurd hp (hno _)
end
end TK
namespace L2
open PySem PySem.Spec PyProof.Rows
structure LcOkO(X:Cx)(scope:Scope)(cl:List (Str×Addr))(y:Str):Prop where
 kind:scope.kind=.function
 clos:closureFor scope X.env=pure cl
 names:∀x∈scope.names,x.2=.local→scope.names.lookup x.1=some .local
 cf:∀n,cellsFrom n scope.names cl=(y,n)::cl
 cf0:∀n,cellsFrom n scope.names []=[(y,n)]
 cells:∀x c,cl.lookup x=some c→X.env.cells.lookup x=some c
 has:∀x,((relabel scope X.env).names.lookup x=some .cell∨(relabel scope X.env).names.lookup x=some .free)→x=y∨∃c,cl.lookup x=some c
abbrev de(X:Cx)(N:List Str)(scope:Scope)(cl:List (Str×Addr))(y:Str)(s:Shared)(H:Hp)(ex:List Addr):Cx:={bh X N scope ((y,s.heap.objs.size+1)::cl) s H ex with fn:=λx=>x==y}
theorem lkO{cl:List (Str×Addr)}{y x:Str}{a c:Addr}(h:((y,a)::cl).lookup x=some c):(x=y∧c=a)∨cl.lookup x=some c:=by
 rw[lookup_cons]at h;cases hb:x==y with
 |true=>rw[hb]at h;cases h;exact .inl ⟨beq_iff_eq.mp hb,rfl⟩
 |false=>rw[hb]at h;exact .inr h
theorem qt{M:Model}{A:Around}{E:Value→Shared→Prop}{s:Shared}{scope:Scope}{globals:Addr}{cl:List (Str×Addr)}{qual:Str}{around:Env}{Q:Env→Shared→Prop}(h:Q {scope:=scope,locals:=s.heap.objs.size,globals:=globals,cells:=cellsFrom (s.heap.objs.size+1) scope.names cl,qual:=qual,func:=none,code:=around.code,frame:=around.frame,builtins:=around.builtins} {s with heap:=pushCells (s.heap.push {cls:=.type "dict",data:=.dict #[]}) scope.names}):
  wpAny M A (newFunctionEnv scope globals cl [] qual none .none (some around)) Q E s:=by
 simp only[newFunctionEnv,isSome_some,if_true];refine wpAny_bind (wpAny_alloc ?_);refine wpAny_bind (wpAny_layCells _ (λname kind cells=>by cases hkc:kind==NameKind.cell<;>simp[hkc]) _ _ _ _ ?_);rw[show({s with heap:=s.heap.push {cls:=.type "dict",data:=.dict #[]}}:Shared).heap.objs.size=s.heap.objs.size+1 from size_push ..];simp only[List.forIn_nil];exact wpAny_bind (wpAny_pure (wpAny_pure h))
section
variable{X:Cx}{pins:List (Addr×Obj)}{σ:St}{H:Hp}{s:Shared}{N:List Str}{scope:Scope}{cl:List (Str×Addr)}{fp:List Addr}
theorem qu{y:Str}(I:Inv X pins σ H s)(L:LcOkO X scope cl y)(hf:∀b∈fp,cy X pins H b)(ho:∀b∈fp,b<s.heap.objs.size):(de X N scope cl y s H fp).Ok where
 mod:=I.ok.mod
 kind:=L.kind
 glob:=I.ok.glob
 blt:=I.ok.blt
 above:=le_refl _
 inj:=λx z c h1 h2=>by
  have old:∀x c,cl.lookup x=some c→c<s.heap.objs.size:=λx c h=>by
   obtain⟨v,q⟩:=I.cell x c (L.cells x c h);exact q.lt
  rcases lkO h1 with⟨e1,e2⟩|h1<;>rcases lkO h2 with⟨e3,e4⟩|h2
  ·rw[e1,e3]
  ·have:=old z c h2;rw[e2]at this;exact absurd this (not_lt.mpr (le_succ _))
  ·have:=old x c h1;rw[e4]at this;exact absurd this (not_lt.mpr (le_succ _))
  ·exact I.ok.inj x z c (L.cells x c h1) (L.cells z c h2)
 has:=λx hx=>by
  rcases L.has x hx with e|⟨c,e⟩
  ·exact⟨_,by subst e;exact List.lookup_cons_self⟩
  ·by_cases h:x=y
   ·exact⟨_,by subst h;exact List.lookup_cons_self⟩
   ·exact⟨c,by show((y,s.heap.objs.size+1)::cl).lookup x=some c;rw[lookup_cons,beq_eq_false_iff_ne.mpr h];exact e⟩
 cab:=λx c h e=>by
  have hx:x=y:=beq_iff_eq.mp h;subst hx;rcases lkO e with⟨_,e⟩|e
  ·rw[e];exact le_succ _
  ·have e':((x,s.heap.objs.size+1)::cl).lookup x=some c:=by assumption
   rw[List.lookup_cons_self]at e';cases e';exact le_succ _
 hd:=I.ok.hd
 frames:=I.ok.frames
 stk:=.inl rfl
 exf:=λb hb=>⟨ne_of_lt (ho b hb),λx c h=>by
  rcases lkO h with⟨_,e⟩|h
  ·rw[e];exact ne_of_gt (lt_succ_of_lt (ho b hb))
  ·exact(hf b hb).2.2.2.2.1 x c (L.cells x c h)⟩
 bs:=I.bs
 bsz:=le_trans I.ok.bsz I.sz
 noex:=λb o e hb=>by
  rcases (hf b hb).2.2.2.1 with z|z
  ·exact I.ok.noex b o e z
  ·exact absurd (lt_of_lt_of_le (lt_size e) (le_trans I.ok.bsz z)) (lt_irrefl _)
 exfs:=λb hb hs=>by
  rcases mem_cons.mp (I.stkSub b hs)with z|z
  ·exact(hf b hb).2.1 z
  ·exact(hf b hb).2.2.1 z
 funs:=I.stack
 frf:=I.stkFree
theorem ox{y:Str}{h₁:Heap}{tk:Nat}{k:Nat}{js:List Nat}(I:Inv X pins σ H s)(L:LcOkO X scope cl y)(hf:∀b∈fp,cy X pins H b)(ho:∀b∈fp,b<s.heap.objs.size)(hns:∃m,h₁.Ns s.heap.objs.size m)(hk:∀b o,s.heap.get? b=some o→h₁.get? b=some o)(hoc:h₁.IsCell (s.heap.objs.size+1) none)(hN:N.length=k+js.length)(hy:∀i x,N[k+i]?=some x→x≠y)(hj:∀(i j:Nat) x,js[i]?=some j→N[k+i]?=some x→X.N[j]?=some x∧Vis X.env.scope x∧X.env.scope.names.lookup x≠some .local∧((relabel scope X.env).names.lookup x=some .cell∨(relabel scope X.env).names.lookup x=some .free)):
  Inv (de X N scope cl y s H fp) [] (bc k js σ) H {s with heap:=h₁,toks:=tk}:=by
 obtain⟨m,hm⟩:=hns;have cellK:∀c v,s.heap.IsCell c v→h₁.IsCell c v:=λc v ⟨o,e,d⟩=>⟨o,hk c o e,d⟩;refine⟨qu I L hf ho,rfl,I.bare,Un.kept hk,⟨m,hm,λi x v e1 e2 e3=>?_⟩,λx c e=>?_,I.hok.fresh (le_refl _),λx c e=>?_,λp hp=>absurd (show p∈([]:List (Addr×Obj))from hp) (by simp),I.hok.kept hk,?_⟩
 ·unfold bc at e2
  by_cases hi:i<k
  ·rw[getElem?_append_left (by simpa using hi),List.getElem?_replicate]at e2
   split at e2<;>cases e2
  ·obtain⟨i',rfl⟩:∃i',i=k+i':=⟨i-k,by omega⟩;rw[getElem?_append_right (by simp),length_replicate,Nat.add_sub_cancel_left,getElem?_map]at e2;cases ej:js[i']? with
   |none=>rw[ej]at e2;cases e2
   |some j =>
    rw[ej]at e2;have e2':(σ[j]?).getD none=some v:=Option.some.inj e2;obtain⟨h1,h2,h3,h4⟩:=hj i' j x ej e1;have e4:σ[j]?=some (some v):=by
     cases q:σ[j]? with
     |none=>rw[q]at e2';cases e2'
     |some y=>rw[q]at e2';exact congrArg some e2'
    obtain⟨m0,_,hl⟩:=I.loc;obtain⟨u,r,lk⟩:=hl j x v h1 e4 h2;refine⟨u,r,.inr ⟨h4,?_⟩⟩;rcases lk with⟨q,_⟩|⟨_,c,e5,e6⟩
    ·exact absurd q h3
    ·obtain⟨c',e7⟩:=(L.has x h4).resolve_left (hy i' x e1);have:c'=c:=Option.some.inj ((L.cells x c' e7).symm.trans e5);subst this;exact⟨c',by show((y,s.heap.objs.size+1)::cl).lookup x=some c';rw[lookup_cons,beq_eq_false_iff_ne.mpr (hy i' x e1)];exact e7,cellK c' _ e6⟩
 ·rcases lkO e with⟨_,e⟩|e
  ·rw[e];exact⟨_,hoc⟩
  ·obtain⟨v,e1⟩:=I.cell x c (L.cells x c e);exact⟨v,cellK c v e1⟩
 ·rcases lkO e with⟨_,e⟩|e
  ·rw[e];exact I.hok.fresh (le_succ _)
  ·exact I.freeC x c (L.cells x c e)
 ·unfold bc;rw[length_append,length_replicate,length_map];exact hN.symm
theorem rQ{y:Str}{H':Hp}{σ':St}{s':Shared}{h':Heap}(I:Inv X pins σ H s)(hf:∀b∈fp,cy X pins H b)(J:Inv (de X N scope cl y s H fp) [] σ' H' s')(hs:SameBut s.heap.objs.size s'.heap h'):Inv X pins σ H' {s' with heap:=h'}:=by
 have ne:∀b o,s.heap.get? b=some o→b≠s.heap.objs.size:=λb o e=>ne_of_lt (lt_size e);have u:=J.base;have u':Un (frs X.stack) fp H H' s.heap h' :=
  ⟨λb o e n hb hx=>(hs.2 b (ne b o e)).trans (u.keep b o e n hb hx),λb o e n hb hx=>by
   obtain⟨sl,q⟩:=u.slot b o e n hb hx;exact⟨sl,(hs.2 b (ne b o e)).trans q⟩,u.free,λb o e hx=>by
   obtain⟨o',q⟩:=u.there b o e hx;exact⟨o',(hs.2 b (ne b o e)).trans q⟩,u.tups,u.frzs,u.tbls⟩
 have nt:∀b o,H' b=some o→b≠s.heap.objs.size:=λb o e z=>by
  have:=J.free;rw[show(de X N scope cl y s H fp).env.locals=s.heap.objs.size from rfl,←z,e]at this;cases this
 refine I.call' (s':={s' with heap:=h'}) J.os u' (λb o e=>?_) J.bare λb hb=>?_
 ·refine(J.hok b o e).stay (λc v hc q=>(hs.2 c ?_).trans q) (λ_ q=>q) λ_ _ q=>q;rcases hc with z|z
  ·rw[z];exact nt b o e
  ·exact nt c _ z
 ·obtain⟨f0,f1,f2,f3,f4,f5⟩:=hf b hb;exact⟨f3,f1,f4,f5⟩
end
section
variable{X:Cx}{N:List Str}{scope:Scope}{cl:List (Str×Addr)}{k:Nat}{js:List Nat}
theorem uq{y:Str}{elt tg iter:Expr}{pos:Pos}{wi:TI}{g:TG}{te:TE}(hc:X.calm=true)(L:LcOkO X scope cl y)(hN:N.length=k+js.length)(hy:∀i x,N[k+i]?=some x→x≠y)(hj:∀(i j:Nat) x,js[i]?=some j→N[k+i]?=some x→X.N[j]?=some x∧Vis X.env.scope x∧X.env.scope.names.lookup x≠some .local∧((relabel scope X.env).names.lookup x=some .cell∨(relabel scope X.env).names.lookup x=some .free))(hi:PI X tg iter wi)(hg:∀s H fp,PG (de X N scope cl y s H fp) tg g)(he:∀s H fp,PE (de X N scope cl y s H fp) elt te)(hs:∀x,foldedSetIterable iter X.env x=pure x:=by intro _;rfl):PE X (.ListComp elt [⟨tg,iter,[],0⟩] scope pos) (tLc k js wi g te):=by
 intro pins s σ H Q I h;rw[eval_ListComp];refine wpAny_comprehension_free (use:=none) rfl hs L.clos L.kind L.names ?_;refine thn (hi pins s σ H _ I h) λv s1 h1=>thn h1 λitv s2 h2=>?_;obtain⟨it,fp,tn,J,H2,e,I2,T,st2,f2,hW⟩:=h2;subst e;have hfp:∀b∈fp,b<s2.heap.objs.size:=λb hb=>by
  obtain⟨o,e,_⟩:=T.obj _ _ st2 b hb;exact lt_size e
 refine wpAny_newObj_type (qt ?_);rw[L.cf];dsimp only;obtain⟨W,⟨m0,w0⟩,turn⟩:=hW s2.heap.objs.size (I2.hok.fresh (le_refl _));have I3:Inv X pins σ (upd H2 s2.heap.objs.size (.lst [])) {s2 with heap:=s2.heap.push {cls:=.type "list",dict:=none,data:=.seq ([]:List Value).toArray}}:=I2.lnew (t':=s2.toks) .nil (zero_le _)
 generalize hA:s2.heap.push {cls:=.type "list",dict:=none,data:=.seq ([]:List Value).toArray}=hpA at I3⊢;have hszA:hpA.objs.size=s2.heap.objs.size+1:=by rw[←hA,size_push]
 have keepA:∀b o,s2.heap.get? b=some o→hpA.get? b=some o:=λb o e=>by rw[←hA];exact get?_push_of_some _ e
 have f3:∀b∈fp,cy X pins (upd H2 s2.heap.objs.size (.lst [])) b:=λb hb=>⟨by rw[ah (ne_of_lt (hfp b hb))];exact(f2 b hb).1,(f2 b hb).2⟩;have hfp3:∀b∈fp,b<hpA.objs.size:=λb hb=>by rw[hszA];exact lt_succ_of_lt (hfp b hb)
 obtain⟨h₁,eh⟩:∃h₁,h₁=pushCells (hpA.push {cls:=.type "dict",data:=.dict #[]}) scope.names:=⟨_,rfl⟩;have hns:h₁.Ns hpA.objs.size (λ_=>none):=by rw[eh];exact(Heap.Ns.new hpA (.type "dict")).keeps (pushCells_keeps _ _)
 have hoc:h₁.IsCell (hpA.objs.size+1) none:=by
  have ok:=cellsFrom_ok scope.names (hpA.push {cls:=.type "dict",data:=.dict #[]}) 0 [] ⟨λ_ _ hm=>(nomatch hm),Pairwise.nil⟩ (zero_le _);rw[size_push,L.cf0]at ok;rw[eh];exact(ok.empty y _ mem_cons_self).1
 rw[←eh];have keep1:∀b o,hpA.get? b=some o→h₁.get? b=some o:=λb o e=>by rw[eh];exact pushCells_keeps _ _ _ _ (get?_push_of_some _ e)
 have J0:=ox (N:=N) (k:=k) (js:=js) (tk:=s2.toks) I3 L f3 hfp3 ⟨_,hns⟩ keep1 hoc hN hy hj;have st1:tn 0 h₁:=T.keep _ _ _ st2 λb hb o e=>keep1 b o (keepA b o e);have stat:∀{H':Hp},(∀b∈fp,H' b=none)→∀b∈fp,cy (de X N scope cl y {s2 with heap:=hpA} (upd H2 s2.heap.objs.size (.lst [])) fp) [] H' b:=λhn b hb =>
  ⟨hn b hb,ne_of_lt (hfp3 b hb),(qu (N:=N) I3 L f3 hfp3).exfs b hb,.inl hb,λx c h=>by
   rcases lkO h with⟨_,e⟩|h
   ·rw[e];exact ne_of_gt (lt_succ_of_lt (hfp3 b hb))
   ·exact(f3 b hb).2.2.2.2.1 x c (L.cells x c h),λp hp=>absurd (show p∈([]:List (Addr×Obj))from hp) (by simp)⟩
 have loop:codeAny (model X.prog X.w) X.A (.compLoop (.ListComp elt [⟨tg,iter,[],0⟩] scope pos) 0 (.ref it) (.ref s2.heap.objs.size) (compEnvC scope ((y,hpA.objs.size+1)::cl) hpA.objs.size X.env))
   (compPost (model X.prog X.w) X.A X.xe none (EP X pins σ Q) (.ref s2.heap.objs.size) hpA.objs.size) {s2 with heap:=h₁,toks:=s2.toks}:=by
  refine jk (λn s'=>∃i ys σ' H',Inv (de X N scope cl y {s2 with heap:=hpA} (upd H2 s2.heap.objs.size (.lst [])) fp) [] σ' H' s'∧tn i s'.heap∧(∀b∈fp,H' b=none)∧W i n ys σ' H') ?_ m0 ⟨0,[],_,_,J0,st1,λb hb=>(f3 b hb).1,w0⟩
  rintro n s3 ⟨i,ys,σ3,H3,J3,st3,fr3,w3⟩;rcases turn i n ys σ3 H3 w3 with⟨stop,qn⟩|⟨go,hlen,step⟩
  ·refine thn (T.done (de X N scope cl y {s2 with heap:=hpA} (upd H2 s2.heap.objs.size (.lst [])) fp) rfl rfl rfl hc i [] s3 σ3 H3 (λ_ _=>False) J3 (stat fr3) st3 stop) λr s4 hpt=>?_
   obtain⟨hr,J4⟩:=hpt;subst hr;obtain⟨m,hm,_⟩:=J4.loc;exact⟨m,hm,λh' hs'=>⟨.ref s2.heap.objs.size,H3,rQ I3 f3 J4 hs',rfl,qn⟩⟩
  ·refine thn (T.item (de X N scope cl y {s2 with heap:=hpA} (upd H2 s2.heap.objs.size (.lst [])) fp) rfl rfl rfl hc i [] s3 σ3 H3 (λ_ _=>False) J3 (stat fr3) st3 go) λr s4 hpt=>?_
   obtain⟨u,hr,h4⟩:=hpt;subst hr;refine thn h4 λ_ s5 hpt=>?_;obtain⟨x,H5,J5,r5,y5,st5,fr5⟩:=hpt;have J5':=J5.pinned (stat fr5) (T.obj _ _ st5);refine thn (hg _ _ _ _ s5 σ3 H5 x u _ J5' r5 (step x H5 y5)) λ_ s6 hpt=>?_;obtain⟨σ6,H6,J6,q6⟩:=hpt;refine thn (he _ _ _ _ s6 σ6 H6 _ J6 q6) λy s7 hpt=>?_;obtain⟨vy,H7,J7,r7,q7,m',hm',w7⟩:=hpt;refine thn (aU _ s7 σ6 H7 (.ref s2.heap.objs.size) [vy] _ _ (λ_ H8=>H8=upd H7 s2.heap.objs.size (.lst (ys++[vy]))) J7 rfl (.cons r7 .nil) ⟨_,ys,vy,rfl,rfl,q7,hlen,rfl⟩) λ_ s8 hpt=>?_;obtain⟨_,H8,J8,_,e8⟩:=hpt;subst e8;refine⟨m',hm',i+1,ys++[vy],σ6,_,J8.unpinned,T.keep _ _ _ st5 λb hb o e=>(J8.pin (b,o) (mem_append_right _ (mem_append_right _ (aC hb e)))).1,λb hb=>?_,w7⟩;obtain⟨o,e,d⟩:=T.obj _ _ st5 b hb;exact(J8.pin (b,o) (mem_append_right _ (mem_append_right _ (aC hb e)))).2.1
 exact codeAny_compStart_list loop (T.self _ 0 _ _ _ st1 loop)
end
end L2
namespace TK
open PySem L2
theorem mkO{y0:Str}{X:Cx}{scope:Scope}{cl:List (Str×Addr)}(fs:List Str)(hk:scope.kind=.function)(hc:closureFor scope X.env=pure cl)(hn:∀x∈scope.names,x.2=.local→scope.names.lookup x.1=some .local)(hnc:∀x∈scope.names,x.2=.cell→x.1=y0)(hcf:∀n,cellsFrom n scope.names cl=(y0,n)::cl)(hcf0:∀n,cellsFrom n scope.names []=[(y0,n)])(hcl:∀y∈cl,X.env.cells.lookup y.1=some y.2)(hfs:cl.map (·.1)=fs)(hall:scope.names.all (λy=>!(y.2==.free)||fs.contains y.1)=true):LcOkO X scope cl y0:=by
 refine⟨hk,hc,hn,hcf,hcf0,λx c h=>hcl (x,c) (PySem.mem_of_lookup h),λx h=>?_⟩;have hm:∃k,(x,k)∈(relabel scope X.env).names∧(k=.cell∨k=.free):=by
  rcases h with h|h
  ·exact⟨_,PySem.mem_of_lookup h,.inl rfl⟩
  ·exact⟨_,PySem.mem_of_lookup h,.inr rfl⟩
 obtain⟨k,hm,hk'⟩:=hm;unfold relabel at hm;obtain⟨⟨y,k0⟩,hy,e⟩:=mem_map.mp hm
 by_cases hxy:x=y0
 ·exact .inl hxy
 refine .inr ?_;have hfree:x=y∧k0=.free:=by
  cases k0 with
  |free =>
   simp only at e
   split at e
   ·injection e with e1 e2;exact⟨e1.symm,rfl⟩
   ·injection e with e1 e2;exact⟨e1.symm,rfl⟩
  |cell =>
   exfalso
   have h1:=hnc _ hy rfl;simp only at e
   split at e
   ·injection e with e1 e2;exact hxy (e1.symm.trans h1)
   ·injection e with e1 e2;exact hxy (e1.symm.trans h1)
  |_ =>
   exfalso
   have e2:k=_:=(congrArg Prod.snd e).symm;simp at e2;rcases hk' with z|z<;>rw[z]at e2<;>cases e2
 obtain⟨rfl,rfl⟩:=hfree;have:=all_eq_true.mp hall _ hy;have hin:fs.contains x=true:=by simpa using this
 rw[←hfs]at hin;have hmem:x∈cl.map (·.1):=List.contains_iff_mem.mp hin;cases e:cl.lookup x with
 |some c=>exact⟨c,rfl⟩
 |none =>
  exfalso
  obtain⟨y,hy,ey⟩:=mem_map.mp hmem;have:=List.lookup_eq_none_iff.mp e y hy;rw[ey]at this;simp at this
def bsE:Expr:=match fS 6 with
 |.If (.Compare _ _ [e] _) _ _ _=>e
 |_=>.Constant .none 0 ⟨0,0,0,0⟩
def nq:Scope:=match bsE with
 |.ListComp _ _ sc _=>sc
 |_=>ae aW
def vg:Expr:=match bsE with
 |.ListComp e _ _ _=>e
 |_=>.Constant .none 0 ⟨0,0,0,0⟩
def bsN:List Str:=["_law_stamp","_law_book_here","_law_files"]
def bsT(K:PySem.W.Frag):TE:=uH (dE (ie 0) (dE (sR 1 [1,0] (rR K (ie 2)) (aB 0) (oG (tOp rEq (tOp (bw K) (rU (ie 1) (ie 0)) (tC (.int 2))) (ie 2))) (ie 0)) jN))
section
variable{P:Program}{w:World}{K:PySem.W.Frag}{mg:Str→Option Value}{base:Heap}{f PC:Addr}{cdv:Value}{A:Around}{outer:List Env}{s:Shared}{H0:Hp}{E:XK}
theorem ut(hr:Room 5 (A.deeper (PyProof.Rows.envOfC "law" (ae aW) s.heap.objs.size f cdv)))(s1:Shared)(H:Hp)(fp:List Addr):
  PE (de (FX P w K mg base f cdv A outer s H0 E) bsN nq [("_law_files",s.heap.objs.size+4),("_law_book_here",s.heap.objs.size+2)] "_law_stamp" s1 H fp) vg (bsT K):=by
 refine aZ (aa (pv 0) (aa (bM (X:=de (FX P w K mg base f cdv A outer s H0 E) bsN nq [("_law_files",s.heap.objs.size+4),("_law_book_here",s.heap.objs.size+2)] "_law_stamp" s1 H fp) (N:=["_law_one","_law_book_here","_law_stamp"]) (cl:=[("_law_stamp",s1.heap.objs.size+1),("_law_book_here",s.heap.objs.size+2)]) (k:=1) (js:=[1,0]) (g:=aB 0) rfl
    (LcOk.mk' ["_law_stamp","_law_book_here"] rfl rfl (by decide +kernel) (by decide +kernel) ?hcl rfl (by decide +kernel)) rfl ?hj (aM (pv 2)) (λs H fp=>al (i:=0) (show(["_law_one","_law_book_here","_law_stamp"]:List Str).Nodup by decide +kernel) rfl (Or.inl rfl) (Or.inr rfl))
    (λs H fp=>aq gD (ay (r:=bw K) av (aS (bv hr) (pv 1) (pv 0) (λ_ _=>rfl)) ai (λ_ _=>rfl)) (pv 2) (aG _)) (λs H fp=>pv 0)) ag))
 case hcl =>
  intro y hy;rcases mem_cons.mp hy with e|hy
  ·rw[e];rfl
  ·rcases mem_cons.mp hy with e|hy
   ·rw[e];rfl
   ·cases hy
 case hj =>
  intro i j x h1 h2
  match i,h1,h2 with
  |0,h1,h2 =>
   cases h1;cases h2;exact⟨rfl,by first|exact Or.inr (Or.inl rfl)|exact Or.inr (Or.inr rfl),(by intro h;cases h),by first|exact Or.inl rfl|exact Or.inr rfl⟩
  |1,h1,h2 =>
   cases h1;cases h2;exact⟨rfl,by first|exact Or.inr (Or.inl rfl)|exact Or.inr (Or.inr rfl),(by intro h;cases h),by first|exact Or.inl rfl|exact Or.inr rfl⟩
  |i+2,h1,h2=>simp at h1
def stN(zs:ZN)(k:Int):List Int:=nums ((zs.filter isF).filter λz=>decide (z.2.st=some k))
theorem sf(zs:ZN)(k:Int):gv ((zs.filter isF).map lh) k=(stN zs k).map V.int:=by
 unfold gv stN nums;rw[filter_map,map_map,map_map];have:∀z∈zs.filter isF,((λx:Int×V=>decide (x.1=k))∘lh) z=decide (z.2.st=some k):=λz hz=>by
  obtain⟨i,ei⟩:=ib (mem_filter.mp hz).2;show decide (z.2.st.getD 0=k)=_;rw[ei];simp
 rw[filter_congr this];rfl
theorem fl6(T:Txt mg)(hr:Room 5 (A.deeper (PyProof.Rows.envOfC "law" (ae aW) s.heap.objs.size f cdv)))(CY:Has P w K mg base 2 "by_stamps" ["tree"] li):
  ∃rd,PS (FX P w K mg base f cdv A outer s H0 E) (fS 6) rd∧∀(D:Ends)(H:Hp)(a t d fl sl:Addr)(zs:ZN)(as:List (Addr×(Addr×Nd)))(ms:List Int)(x3 x4 x6 x7 x9 x10 x11 x12:Option V),FF H PC t d zs as→H fl=some (.lst ((nums (zs.filter isF)).map V.int))→H sl=some (.lst (ms.map V.int))→ms.Pairwise (λa b=>a<b)→(∀k,k∈ms↔∃z∈zs,z.2.st=some k)→ms.length≤60 →
   (∀H',Same H H'→D.nx (fσ a t d x3 x4 (some (.ref fl)) x6 x7 (some (.ref sl)) x9 x10 x11 x12) H')→rd D (fσ a t d x3 x4 (some (.ref fl)) x6 x7 (some (.ref sl)) x9 x10 x11 x12) H:=by
 obtain⟨fY,fdY,GY,mY,kY,bY⟩:=CY;have hr2:Room 2 _:=hr.mono (by decide);have hu4:=cW hr;refine⟨_,ck (aq (um hu4) (am GY hr2 rfl mY kY bY .nil aJ (aa (pv 1) ag)) (uq (y:="_law_stamp") (N:=bsN) (cl:=[("_law_files",s.heap.objs.size+4),("_law_book_here",s.heap.objs.size+2)]) (k:=1) (js:=[2,5]) (g:=aB 0) (te:=bsT K) rfl
    (mkO ["_law_files","_law_book_here"] rfl rfl (by decide +kernel) (by decide +kernel) (λ_=>rfl) (λ_=>rfl) ?hcl rfl (by decide +kernel)) rfl ?hy ?hj (aM (pv 8)) (λs H fp=>al (i:=0) (show bsN.Nodup by decide +kernel) rfl (Or.inr rfl) (Or.inl rfl))
    (λs1 H fp=>ut hr s1 H fp)) (aG _)) br aX,?_⟩
 case hcl =>
  intro y hy;rcases mem_cons.mp hy with e|hy
  ·rw[e];rfl
  ·rcases mem_cons.mp hy with e|hy
   ·rw[e];rfl
   ·cases hy
 case hy =>
  intro i x h
  match i,h with
  |0,h=>cases h;decide
  |1,h=>cases h;decide
  |i+2,h=>exact absurd h (by unfold bsN;rw[show 1+(i+2)=i+3 by omega];simp)
 case hj =>
  intro i j x h1 h2
  match i,h1,h2 with
  |0,h1,h2 =>
   cases h1;cases h2;exact⟨rfl,Or.inr (Or.inl rfl),(show((ae aW).names.lookup ("_law_book_here":Str)≠some NameKind.local)by decide +kernel),by first|exact Or.inl rfl|exact Or.inr rfl⟩
  |1,h1,h2 =>
   cases h1;cases h2;exact⟨rfl,Or.inr (Or.inl rfl),(show((ae aW).names.lookup ("_law_files":Str)≠some NameKind.local)by decide +kernel),by first|exact Or.inl rfl|exact Or.inr rfl⟩
  |i+2,h1,h2=>simp at h1
 intro D H a t d fl sl zs as ms x3 x4 x6 x7 x9 x10 x11 x12 L hfl hsl hup hms hml q;have hl:=L.tr.len;have hle:=length_filter_le isF zs;refine⟨_,rfl,t,zs,rfl,L.tr.tup,L.tr.nod,by omega,λl cs H1 s1 _ hl1 B=>?_⟩;have L1:=L.same s1;refine⟨_,rfl,sl,rfl,⟨_,SqL.of (s1 _ _ hsl)⟩,λp hp=>?_⟩;refine cV (fr:=[some (.ref d),some (.ref fl)]) ms V.int (by omega) hp (aY (SqL.of (s1 _ _ hsl))) rfl (λk y H'=>∃q r,y=.ref q∧q≠p∧r≠p∧H' q=some (.tup [.int k,.ref r])∧H' r=some (.lst ((stN zs k).map V.int))) (λk y H H' h ex=>?_) (λk H' kk mk s2 hpl hk=>?_) (λys H2 s2 hp2 hys=>?_)
 ·obtain⟨q,r,e1,n1,n2,h1,h2⟩:=h;exact⟨q,r,e1,n1,n2,ex q _ n1 h1,ex r _ n2 h2⟩
 ·have hfl2:=s2 _ _ (s1 _ _ hfl);refine⟨_,rfl,_,rfl,fl,rfl,⟨_,SqL.of hfl2⟩,λp3 hp3=>?_⟩;refine bz (fr:=[some (.ref d),some (.int k)]) (zs.filter isF) (λz=>V.int z.2.num) (by omega) hp3 (aY (by rw[show((zs.filter isF).map λz=>V.int z.2.num)=(nums (zs.filter isF)).map V.int from aR _];exact SqL.of hfl2)) rfl (λz=>decide (z.2.st=some k)) (λz y _=>y=.int z.2.num) (λ_ _ _ _ h _=>h) (λz H3 k3 mz s3 _ hk3=>?_) (λz H3 k3 mz _ s3 _ hk3=>?_) (λys3 H3 s3 hp3' hys3=>?_)
  ·obtain⟨b,hb1,hb2⟩:=((L1.bk.same s2).same s3).get L.nd (mem_filter.mp mz).1;obtain⟨i,ei⟩:=ib (mem_filter.mp mz).2;refine⟨_,rfl,_,rfl,d,_,rfl,hb1,b,_,_,_,rfl,rfl,SqT.of hb2,pN z.2,?_⟩;rw[ei];refine⟨_,rfl,rfl,_,rfl,?_⟩;have e:decide (V.int i=V.int k)=decide (z.2.st=some k):=by rw[ei];simp
   rw[show decide (stV (some i)=V.int k)=decide (V.int i=V.int k)from rfl,e];exact hk3 H3 (Same.refl _)
  ·exact⟨_,rfl,hk3 _ H3 (Same.refl _) rfl⟩
  ·have ey3:=au (f:=λz:Addr×Nd=>V.int z.2.num) hys3 (λz y _ h=>h);have e3:ys3=(stN zs k).map V.int:=by rw[ey3];exact aR _
   rw[e3]at hp3';refine⟨le2,λq4 hq4=>?_⟩;have s4:=af (o:=.tup [.int k,.ref p3]) hq4;have hpl3:∃ys,H3 p=some (.lst ys):=let⟨ys,e⟩:=hpl;⟨ys,s3 _ _ e⟩;have np:p3≠p:=cG hpl hp3;exact hk _ _ (s3.trans s4) ⟨q4,p3,rfl,cG hpl3 hq4,np,ac,s4 _ _ hp3'⟩
 ·obtain⟨bs,e1,e2,e3⟩:=dy (val:=λx:Addr×Addr=>V.ref x.1) (S:=λ(k:Int) (x:Addr×Addr)=>H2 x.1=some (.tup [.int k,.ref x.2])∧H2 x.2=some (.lst ((stN zs k).map V.int))) hys (λk y _ ⟨q,r,e,_,_,h1,h2⟩=>⟨(q,r),e,h1,h2⟩);have ekeys:cs.map (·.2.1)=ms:=cx (R:=λa b:Int=>a<b) (λa=>Int.lt_irrefl a) (λa b h1 h2=>by omega) B.up hup λk=>by
   rw[B.all,hms,sf];constructor
   ·intro h;cases e:stN zs k with
    |nil=>rw[e]at h;exact absurd rfl h
    |cons x r =>
     have hx:x∈stN zs k:=by rw[e];exact mem_cons_self
     obtain⟨z,hz,_⟩:=mem_map.mp hx;exact⟨z,(mem_filter.mp (mem_filter.mp hz).1).1,by simpa using (mem_filter.mp hz).2⟩
   ·rintro⟨z,hz,e⟩ h;have:z.2.num∈stN zs k:=mem_map.mpr ⟨z,mem_filter.mpr ⟨mem_filter.mpr ⟨hz,by unfold isF;rw[e];rfl⟩,by simp[e]⟩,rfl⟩;rw[List.map_eq_nil_iff.mp h]at this;cases this
  have hbl:bs.map (·.1)=cs.map (·.2.1):=e1.trans ekeys.symm;refine⟨l,p,cs.map λc=>V.ref c.1,ys,rfl,rfl,⟨?_,λi x y hx hy=>?_⟩,s2 _ _ hl1,hp2,_,rfl,bZ (q _ (s1.trans s2))⟩
  ·have:=congrArg length hbl;rw[length_map,length_map]at this;rw[e2,length_map,length_map,this]
  ·rw[e2,getElem?_map]at hy;rw[getElem?_map]at hx;cases ec:cs[i]? with
   |none=>rw[ec]at hx;cases hx
   |some c =>
    cases eb:bs[i]? with
    |none=>rw[eb]at hy;cases hy
    |some b =>
     rw[ec]at hx;rw[eb]at hy;cases hx;cases hy;have ek:b.1=c.2.1:=by
      have h1:(bs.map (·.1))[i]?=some b.1:=by rw[getElem?_map,eb];rfl
      have h2:(cs.map (·.2.1))[i]?=some c.2.1:=by rw[getElem?_map,ec];rfl
      rw[hbl,h2]at h1;exact(Option.some.inj h1).symm
     obtain⟨h1,h2⟩:=e3 b (mem_of_getElem? eb);obtain⟨h3,_⟩:=B.tup c (mem_of_getElem? ec);obtain⟨h4,_⟩:=B.lst c (mem_of_getElem? ec);rw[sf,←ek]at h4;rw[←ek]at h3;refine .inr ⟨c.1,b.2.1,_,_,rfl,rfl,.inl ⟨s2 _ _ h3,h1⟩,rfl,λj x' y' hx' hy'=>?_⟩
     match j,hx',hy' with
     |0,hx',hy' =>
      cases hx';cases hy';exact ga ⟨rfl,rfl⟩
     |1,hx',hy' =>
      cases hx';cases hy';refine .inr ⟨c.2.2,b.2.2,_,_,rfl,rfl,.inr ⟨s2 _ _ h4,h2⟩,rfl,λj x' y' hx' hy'=>?_⟩;rw[hx']at hy';cases hy';exact ga ⟨rfl,all_eq_true.mp (ia _) _ (mem_of_getElem? hx')⟩
     |j+2,hx',hy'=>simp at hx'
end
theorem vh(ms:List Str):(ms.map V.str).all bH=true:=by
 rw[all_eq_true];intro x hx;obtain⟨k,_,rfl⟩:=mem_map.mp hx;rfl
def fe(zs:ZN):List Str:=zs.map λz=>z.2.nm
theorem Kids.nms{zs ys:ZN}{k:Int}(h:Kids zs k ys){ms:List Str}(hp:ms.Perm (fe (zs.filter (aO k))))(hu:ms.Pairwise λa b=>HT.bx a b=true):fe ys=ms :=
 cx (R:=λa b:Str=>HT.bx a b=true) (λa=>by rw[HT.cK];simp) (λa b h1 h2=>by
  have:=HT.eO h1 h2;rw[HT.cK]at this;cases this) (by unfold fe;exact pairwise_map.mpr h.up) hu λx=>by
  rw[hp.mem_iff];exact(h.perm.map _).mem_iff
theorem Kids.len{zs ys:ZN}{k:Int}(h:Kids zs k ys):ys.length≤zs.length:=by
 rw[h.perm.length_eq];exact length_filter_le _ _
theorem Kids.mem{zs ys:ZN}{k:Int}(h:Kids zs k ys){z:Addr×Nd}(hz:z∈ys):z∈zs∧z.2.par=k:=by
 have:=mem_filter.mp (h.perm.mem_iff.mp hz);exact⟨this.1,by simpa [aO]using this.2⟩
def kbS(i:Nat):Stmt:=match fS 8 with
 |.For _ _ b _ _=>b.getD i (.Pass ⟨0,0,0,0⟩)
 |_=>.Pass ⟨0,0,0,0⟩
section
variable{P:Program}{w:World}{K:PySem.W.Frag}{mg:Str→Option Value}{base:Heap}{f PC:Addr}{cdv:Value}{A:Around}{outer:List Env}{s:Shared}{H0:Hp}{E:XK}
theorem kb0(hr:Room 5 (A.deeper (PyProof.Rows.envOfC "law" (ae aW) s.heap.objs.size f cdv)))(CC:Has P w K mg base 4 "children" ["tree","number"] (iW PC)):
  ∃rd,PS (FX P w K mg base f cdv A outer s H0 E) (kbS 0) rd∧∀(D:Ends)(H:Hp)(a t d:Addr)(zs:ZN)(as:List (Addr×(Addr×Nd)))(k:Int)(x3 x4 x5 x6 x7 x8 x10 x11 x12:Option V),FF H PC t d zs as→0≤k→k≤60→(k=0∨∃z∈zs,z.2.num=k∧z.2.st=none) →
   (∀l ys H',dS PC H H'→cO H' PC fG→Kids zs k ys→H' l=some (.lst (dc ys))→D.nx (fσ a t d x3 x4 x5 x6 x7 x8 (some (.int k)) (some (.ref l)) x11 x12) H')→rd D (fσ a t d x3 x4 x5 x6 x7 x8 (some (.int k)) x10 x11 x12) H:=by
 obtain⟨fC,fdC,GC,mC,kC,bC⟩:=CC;have hr4:Room 4 _:=hr.mono (by decide);refine⟨_,aE (i:=10) scF.nd rfl (Or.inl rfl) (am GC hr4 rfl mC kC bC .nil aJ (aa (pv 1) (aa (pv 9) ag))),?_⟩;intro D H a t d zs as k x3 x4 x5 x6 x7 x8 x10 x11 x12 L k0 k1 hk q;exact⟨_,rfl,_,rfl,t,k,zs,rfl,L.tr,k0,k1,hk,L.tab,λl ys H' off tq hK _ hl=>q l ys H' off tq hK hl⟩
theorem kb1(T:Txt mg)(hr:Room 5 (A.deeper (PyProof.Rows.envOfC "law" (ae aW) s.heap.objs.size f cdv))):
  ∃rd,PS (FX P w K mg base f cdv A outer s H0 E) (kbS 1) rd∧∀(D:Ends)(H:Hp)(a t d l:Addr)(zs ys:ZN)(as:List (Addr×(Addr×Nd)))(k:Int)(x3 x4 x5 x6 x7 x8 x11 x12:Option V),FF H PC t d zs as→Kids zs k ys→H l=some (.lst (dc ys)) →
   (∀H',Same H H'→D.nx (fσ a t d x3 x4 x5 x6 x7 x8 (some (.int k)) (some (.ref l)) x11 x12) H')→rd D (fσ a t d x3 x4 x5 x6 x7 x8 (some (.int k)) (some (.ref l)) x11 x12) H:=by
 have hu4:=cW hr;refine⟨_,ck (aq (gS hu4) (di (N:=["_law_one","_law_book_here"]) (cl:=[("_law_book_here",s.heap.objs.size+2)]) (k:=1) (js:=[2]) (g:=aB 0) rfl (LcOk.mk' ["_law_book_here"] rfl rfl (by decide +kernel) (by decide +kernel) ?hcl1 rfl (by decide +kernel)) rfl ?hj1 (aM (pv 10)) (λs H fp=>al (i:=0) (show(["_law_one","_law_book_here"]:List Str).Nodup by decide +kernel) rfl (Or.inl rfl) (Or.inr rfl)) (λs H fp=>(ay (r:=bw K) av (aS (bv hr) (pv 1) (pv 0) (λ_ _=>rfl)) ai (λ_ _=>rfl))))
   (aL fH rfl T.sorted boot_sorted (aa (bM (N:=["_law_one","_law_book_here","_law_folder"]) (cl:=[("_law_folder",s.heap.objs.size+7),("_law_book_here",s.heap.objs.size+2)]) (k:=1) (js:=[2,9]) (g:=aB 0) rfl (LcOk.mk' ["_law_folder","_law_book_here"] rfl rfl (by decide +kernel) (by decide +kernel) ?hcl2 rfl (by decide +kernel)) rfl ?hj2 (fV (pv 2)) (λs H fp=>al (i:=0) (show(["_law_one","_law_book_here","_law_folder"]:List Str).Nodup by decide +kernel) rfl (Or.inl rfl) (Or.inr rfl))
    (λs H fp=>aq gD (ay (r:=bw K) av (aS (bv hr) (pv 1) (pv 0) (λ_ _=>rfl)) ai (λ_ _=>rfl)) (pv 2) (aG _)) (λs H fp=>(ay (r:=bw K) av (aS (bv hr) (pv 1) (pv 0) (λ_ _=>rfl)) ai (λ_ _=>rfl)))) ag)) (aG _)) br aX,?_⟩
 case hcl1 =>
  intro y hy;rcases mem_cons.mp hy with e|hy
  ·rw[e];rfl
  ·skip
   cases hy
 case hj1 =>
  intro i j x h1 h2
  match i,h1,h2 with
  |0,h1,h2 =>
   cases h1;cases h2;exact⟨rfl,Or.inr (Or.inl rfl),(show((ae aW).names.lookup ("_law_book_here":Str)≠some NameKind.local)by decide +kernel),by first|exact Or.inl rfl|exact Or.inr rfl⟩
  |i+1,h1,h2=>simp at h1
 case hcl2 =>
  intro y hy;rcases mem_cons.mp hy with e|hy
  ·rw[e];rfl
  ·skip
   rcases mem_cons.mp hy with e|hy
   ·rw[e];rfl
   ·skip
    cases hy
 case hj2 =>
  intro i j x h1 h2
  match i,h1,h2 with
  |0,h1,h2 =>
   cases h1;cases h2;exact⟨rfl,Or.inr (Or.inl rfl),(show((ae aW).names.lookup ("_law_book_here":Str)≠some NameKind.local)by decide +kernel),by first|exact Or.inl rfl|exact Or.inr rfl⟩
  |1,h1,h2 =>
   cases h1;cases h2;exact⟨rfl,Or.inr (Or.inl rfl),(show((ae aW).names.lookup ("_law_folder":Str)≠some NameKind.local)by decide +kernel),by first|exact Or.inl rfl|exact Or.inr rfl⟩
  |i+2,h1,h2=>simp at h1
 intro D H a t d l zs ys as k x3 x4 x5 x6 x7 x8 x11 x12 L hK hl q;have hlen:=L.tr.len;have hkl:=hK.len;refine⟨_,rfl,l,rfl,⟨_,SqL.of hl⟩,λp hp=>?_⟩;refine cV (fr:=[some (.ref d)]) ys (λz=>V.int z.2.num) (by omega) hp (aY (SqL.of hl)) rfl (λz y _=>y=.str z.2.nm) (λ_ _ _ _ h _=>h) (λz H' kk mz s1 _ hk=>?_) (λys1 H1 s1 hp1 hys=>?_)
 ·obtain⟨b,hb1,hb2⟩:=(L.bk.same s1).get L.nd (hK.mem mz).1;exact⟨_,rfl,_,rfl,d,_,rfl,hb1,b,_,_,_,rfl,rfl,SqT.of hb2,rk z.2,hk _ H' (Same.refl _) rfl⟩
 have ey:=au (f:=λz:Addr×Nd=>V.str z.2.nm) hys (λz y _ h=>h);have e1:ys1=(fe ys).map V.str:=by rw[ey];unfold fe;rw[map_map];rfl
 rw[e1]at hp1;have L1:=L.same s1;obtain⟨o,ho⟩:=L1.dz;refine⟨_,rfl,d,o,_,rfl,ho,λp2 hp2=>?_⟩;rw[L1.keys];refine bz (fr:=[some (.ref d),some (.int k)]) zs (λz=>V.int z.2.num) (by omega) hp2 (by have:=cr (ks:=zs.map λz=>V.int z.2.num) ho;exact this) rfl (aO k) (λz y _=>y=.str z.2.nm) (λ_ _ _ _ h _=>h) (λz H' kk mz s2 _ hk=>?_) (λz H' kk mz _ s2 _ hk=>?_) (λys2 H2 s2 hp2' hys2=>?_)
 ·obtain⟨b,hb1,hb2⟩:=(L1.bk.same s2).get L.nd mz;refine⟨_,rfl,_,rfl,d,_,rfl,hb1,b,_,_,_,rfl,rfl,SqT.of hb2,tG z.2,_,rfl,rfl,_,rfl,?_⟩;have e:decide (V.int z.2.par=V.int k)=aO k z:=by unfold aO;simp
  rw[e];exact hk H' (Same.refl _)
 ·obtain⟨b,hb1,hb2⟩:=(L1.bk.same s2).get L.nd mz;exact⟨_,rfl,_,rfl,d,_,rfl,hb1,b,_,_,_,rfl,rfl,SqT.of hb2,rk z.2,hk _ H' (Same.refl _) rfl⟩
 have ey2:=au (f:=λz:Addr×Nd=>V.str z.2.nm) hys2 (λz y _ h=>h);have e2:ys2=(fe (zs.filter (aO k))).map V.str:=by rw[ey2];unfold fe;rw[map_map];rfl
 rw[e2]at hp2';have hfl:=length_filter_le (aO k) zs;refine⟨p2,_,rfl,hp2',hZ L.tr.tr.own k,by unfold fe;rw[length_map];omega,λms hpm hup p3 hp3=>?_⟩;have em:=hK.nms hpm hup;subst em;have s3:=af (o:=.lst ((fe ys).map V.str)) hp3;exact .inr ⟨p,p3,_,_,rfl,rfl,bS (vh _),.inl ⟨s3 _ _ (s2 _ _ hp1),ac⟩,_,rfl,bZ (q _ ((s1.trans s2).trans s3))⟩
theorem kb2(T:Txt mg)(hr:Room 5 (A.deeper (PyProof.Rows.envOfC "law" (ae aW) s.heap.objs.size f cdv))):
  ∃rd,PS (FX P w K mg base f cdv A outer s H0 E) (kbS 2) rd∧∀(D:Ends)(H:Hp)(a t d l:Addr)(zs ys:ZN)(as:List (Addr×(Addr×Nd)))(k:Int)(x3 x4 x5 x6 x7 x8 x11 x12:Option V),FF H PC t d zs as→Kids zs k ys→H l=some (.lst (dc ys)) →
   (∀H',Same H H'→D.nx (fσ a t d x3 x4 x5 x6 x7 x8 (some (.int k)) (some (.ref l)) x11 x12) H')→rd D (fσ a t d x3 x4 x5 x6 x7 x8 (some (.int k)) (some (.ref l)) x11 x12) H:=by
 have hu4:=cW hr;refine⟨_,ck (aq (gS hu4) (aL ba rfl T.sorted boot_sorted (aa (pv 10) ag))
   (aL ba rfl T.sorted boot_sorted (aa (bM (N:=["_law_one","_law_book_here","_law_folder"]) (cl:=[("_law_folder",s.heap.objs.size+7),("_law_book_here",s.heap.objs.size+2)]) (k:=1) (js:=[2,9]) (g:=aB 0) rfl (LcOk.mk' ["_law_folder","_law_book_here"] rfl rfl (by decide +kernel) (by decide +kernel) ?hcl rfl (by decide +kernel)) rfl ?hj (fV (pv 2)) (λs H fp=>al (i:=0) (show(["_law_one","_law_book_here","_law_folder"]:List Str).Nodup by decide +kernel) rfl (Or.inl rfl) (Or.inr rfl))
    (λs H fp=>aq gD (ay (r:=bw K) av (aS (bv hr) (pv 1) (pv 0) (λ_ _=>rfl)) ai (λ_ _=>rfl)) (pv 2) (aG _)) (λs H fp=>pv 0)) ag)) (aG _)) br aX,?_⟩
 case hcl =>
  intro y hy;rcases mem_cons.mp hy with e|hy
  ·rw[e];rfl
  ·skip
   rcases mem_cons.mp hy with e|hy
   ·rw[e];rfl
   ·skip
    cases hy
 case hj =>
  intro i j x h1 h2
  match i,h1,h2 with
  |0,h1,h2 =>
   cases h1;cases h2;exact⟨rfl,Or.inr (Or.inl rfl),(show((ae aW).names.lookup ("_law_book_here":Str)≠some NameKind.local)by decide +kernel),by first|exact Or.inl rfl|exact Or.inr rfl⟩
  |1,h1,h2 =>
   cases h1;cases h2;exact⟨rfl,Or.inr (Or.inl rfl),(show((ae aW).names.lookup ("_law_folder":Str)≠some NameKind.local)by decide +kernel),by first|exact Or.inl rfl|exact Or.inr rfl⟩
  |i+2,h1,h2=>simp at h1
 intro D H a t d l zs ys as k x3 x4 x5 x6 x7 x8 x11 x12 L hK hl q;have hlen:=L.tr.len;have hkl:=hK.len;have hpm0:(nums ys).Perm (nums (zs.filter (aO k))):=hK.perm.map _;rw[aR]at hl;refine⟨_,rfl,l,_,rfl,hl,hpm0.nodup_iff.mpr (L.ndf _),by rw[dv];omega,λms hpm hup p hp=>?_⟩;have em:=jH hup (L.rise _) (hpm.trans hpm0);subst em;have s1:=af (o:=.lst ((nums (zs.filter (aO k))).map V.int)) hp;have hp1:upd H p (.lst ((nums (zs.filter (aO k))).map V.int)) p=_:=ac;generalize upd H p (.lst ((nums (zs.filter (aO k))).map V.int))=H1 at s1 hp1⊢;have L1:=L.same s1;obtain⟨o,ho⟩:=L1.dz;refine⟨_,rfl,d,o,_,rfl,ho,λp2 hp2=>?_⟩;rw[L1.keys];refine bz (fr:=[some (.ref d),some (.int k)]) zs (λz=>V.int z.2.num) (by omega) hp2 (by have:=cr (ks:=zs.map λz=>V.int z.2.num) ho;exact this) rfl (aO k) (λz y _=>y=.int z.2.num) (λ_ _ _ _ h _=>h) (λz H' kk mz s2 _ hk=>?_) (λz H' kk mz _ s2 _ hk=>?_) (λys2 H2 s2 hp2' hys2=>?_)
 ·obtain⟨b,hb1,hb2⟩:=(L1.bk.same s2).get L.nd mz;refine⟨_,rfl,_,rfl,d,_,rfl,hb1,b,_,_,_,rfl,rfl,SqT.of hb2,tG z.2,_,rfl,rfl,_,rfl,?_⟩;have e:decide (V.int z.2.par=V.int k)=aO k z:=by unfold aO;simp
  rw[e];exact hk H' (Same.refl _)
 ·exact⟨_,rfl,hk _ H' (Same.refl _) rfl⟩
 have ey2:=au (f:=λz:Addr×Nd=>V.int z.2.num) hys2 (λz y _ h=>h);have e2:ys2=(nums (zs.filter (aO k))).map V.int:=by rw[ey2];exact aR _
 rw[e2]at hp2';have hfl:=length_filter_le (aO k) zs;refine⟨p2,_,rfl,hp2',L.ndf _,by rw[dv];omega,λms hpm hup p3 hp3=>?_⟩;have em:=jH hup (L.rise _) hpm;subst em;have s3:=af (o:=.lst ((nums (zs.filter (aO k))).map V.int)) hp3;exact .inr ⟨p,p3,_,_,rfl,rfl,bS (ia _),.inl ⟨s3 _ _ (s2 _ _ hp1),ac⟩,_,rfl,bZ (q _ ((s1.trans s2).trans s3))⟩
theorem kb3{CN0:Addr}(hr:Room 5 (A.deeper (PyProof.Rows.envOfC "law" (ae aW) s.heap.objs.size f cdv)))(CB:eV P w K mg base 2 "below" ["tree","number"] (iR CN0)):
  ∃rd,PS (FX P w K mg base f cdv A outer s H0 E) (kbS 3) rd∧∀(D:Ends)(H:Hp)(a t d l:Addr)(zs ys:ZN)(as:List (Addr×(Addr×Nd)))(k:Int)(x3 x4 x5 x6 x7 x8 x11 x12:Option V),FF H PC t d zs as→Kids zs k ys→H l=some (.lst (dc ys))→0≤k→k≤60→(k=0∨∃z∈zs,z.2.num=k∧z.2.st=none) →
   (∀H',Same H H'→D.nx (fσ a t d x3 x4 x5 x6 x7 x8 (some (.int k)) (some (.ref l)) x11 x12) H')→rd D (fσ a t d x3 x4 x5 x6 x7 x8 (some (.int k)) (some (.ref l)) x11 x12) H:=by
 obtain⟨fB,fdB,GB,mB,kB,bB⟩:=CB;have hu4:=cW hr;have hr2:Room 2 _:=hr.mono (by decide);refine⟨_,ck (aq (gS hu4) (bM (N:=["_law_one","_law_folder","_law_tree_here"]) (cl:=[("_law_tree_here",s.heap.objs.size+1),("_law_folder",s.heap.objs.size+7)]) (k:=1) (js:=[9,1]) (g:=aB 0) rfl (LcOk.mk' ["_law_tree_here","_law_folder"] rfl rfl (by decide +kernel) (by decide +kernel) ?hcl rfl (by decide +kernel)) rfl ?hj (aM (pv 10)) (λs H fp=>al (i:=0) (show(["_law_one","_law_folder","_law_tree_here"]:List Str).Nodup by decide +kernel) rfl (Or.inl rfl) (Or.inr rfl))
    (λs H fp=>aq (r:=rIn K true) ee (pv 0) (am (X:=bh _ _ _ _ _ _ _) GB hr2 rfl mB kB bB .nil mH (aa (pv 2) (aa (pv 1) ag))) rfl) (λs H fp=>pv 0)) (be ag) (aG _)) br aX,?_⟩
 case hcl =>
  intro y hy;rcases mem_cons.mp hy with e|hy
  ·rw[e];rfl
  ·skip
   rcases mem_cons.mp hy with e|hy
   ·rw[e];rfl
   ·skip
    cases hy
 case hj =>
  intro i j x h1 h2
  match i,h1,h2 with
  |0,h1,h2 =>
   cases h1;cases h2;exact⟨rfl,Or.inr (Or.inl rfl),(show((ae aW).names.lookup ("_law_folder":Str)≠some NameKind.local)by decide +kernel),by first|exact Or.inl rfl|exact Or.inr rfl⟩
  |1,h1,h2 =>
   cases h1;cases h2;exact⟨rfl,Or.inr (Or.inl rfl),(show((ae aW).names.lookup ("_law_tree_here":Str)≠some NameKind.local)by decide +kernel),by first|exact Or.inl rfl|exact Or.inr rfl⟩
  |i+2,h1,h2=>simp at h1
 intro D H a t d l zs ys as k x3 x4 x5 x6 x7 x8 x11 x12 L hK hl k0 k1 hk0 q;have hlen:=L.tr.len;have hkl:=hK.len;refine⟨_,rfl,l,rfl,⟨_,SqL.of hl⟩,λp hp=>?_⟩;refine bz (fr:=[some (.int k),some (.ref t)]) ys (λz=>V.int z.2.num) (by omega) hp (aY (SqL.of hl)) rfl (λ_=>false) (λz y _=>y=.int z.2.num) (λ_ _ _ _ h _=>h) (λz H' kk mz s1 _ hk=>?_) (λz H' kk mz hf s1 _ hk=>by cases hf) (λys1 H1 s1 hp1 hys=>?_)
 ·obtain⟨hz,ep⟩:=hK.mem mz;refine⟨_,rfl,_,rfl,_,rfl,t,k,zs,rfl,L.tr.same s1,k0,k1,λ_ bs lb H4 s4 _ hbl hbm hlb=>?_,λh0 hno=>?_⟩
  ·refine⟨lb,_,rfl,.inl (SqL.of hlb),rfl,ia _,_,rfl,?_⟩;have hin:z.2.num∈bs:=(hbm _).mpr ⟨z.2,gn hz,rfl,.base (gn hz) ep⟩;rw[show(if true=true then !inV (.int z.2.num) (bs.map V.int)else inV (.int z.2.num) (bs.map V.int))=false by rw[if_pos rfl,jy,decide_eq_true hin];rfl]
   exact hk H4 s4
  ·obtain⟨z',hz',e,_⟩:=hk0.resolve_left h0;exact absurd e (hno z' hz')
 ·rw[List.filter_eq_nil_iff.mpr (by simp)]at hys;cases hys;refine⟨zero_le _,λp2 hp2=>.inr ⟨p,p2,[],[],rfl,rfl,bS rfl,.inl ⟨ca hp2 hp1,ac⟩,_,rfl,bZ (q _ (s1.trans (af hp2)))⟩⟩
end
theorem sh(ns:List Int):atI (ns.map V.int++[V.non]) 0=some (hdV ns):=by
 cases ns<;>exact gk (j:=0) rfl
theorem oy{zs:ZN}(h:((nds zs).map (·.num)).Nodup){u z:Addr×Nd}(hu:u∈zs)(hz:z∈zs)(e:u.2.num=z.2.num):u=z:=fE (g:=λz:Addr×Nd=>z.2.num) (by unfold nds at h;rw[map_map]at h;exact h) hu hz e
theorem qv{zs:ZN}(h:((nds zs).map (·.num)).Nodup){u:Addr×Nd}(hu:u∈zs):decide (u.2.num∈nums (zs.filter isF))=isF u:=by
 cases e:isF u with
 |true=>exact decide_eq_true (mem_map.mpr ⟨u,mem_filter.mpr ⟨hu,e⟩,rfl⟩)
 |false =>
  refine decide_eq_false λhm=>?_;obtain⟨z,hz,ez⟩:=mem_map.mp hm;have hz':=mem_filter.mp hz;have:=oy h hu hz'.1 ez.symm;rw[this,hz'.2]at e;cases e
theorem nr{zs us:ZN}{cs:List Cp}(h:((nds zs).map (·.num)).Nodup)(hus:∀u∈us,u∈zs)(e:nums us=cs.map (·.n))(g:Bool→Bool):(cs.filter λc=>g (decide (c.n∈nums (zs.filter isF)))).map (·.n)=nums (us.filter λu=>g (isF u)):=by
 have h1:(cs.filter λc=>g (decide (c.n∈nums (zs.filter isF)))).map (·.n)=(cs.map (·.n)).filter λk=>g (decide (k∈nums (zs.filter isF))):=by rw[filter_map];rfl
 rw[h1,←e];unfold nums at *;rw[filter_map]
 congr 1
 apply filter_congr;intro u hu;exact congrArg g (qv h (hus u hu))
section
variable{P:Program}{w:World}{K:PySem.W.Frag}{mg:Str→Option Value}{base:Heap}{f PC:Addr}{cdv:Value}{A:Around}{outer:List Env}{s:Shared}{H0:Hp}{E:XK}
theorem fl9(T:Txt mg)(hr:Room 5 (A.deeper (PyProof.Rows.envOfC "law" (ae aW) s.heap.objs.size f cdv)))(CL:Has P w K mg base 1 "_law_path" ["_law_book_here","_law_number"] lO):
  ∃rd,PS (FX P w K mg base f cdv A outer s H0 E) (fS 9) rd∧∀(D:Ends)(H:Hp)(a t d:Addr)(zs:ZN)(as:List (Addr×(Addr×Nd)))(x3 x4 x5 x6 x7 x8 x9 x10 x11 x12:Option V),FF H PC t d zs as →
   (∀pl (cs:List Cp) H',Same H H'→H' pl=some (.lst (cs.map λc=>V.ref c.a))→Wl H' zs cs→cs.length=zs.length→D.nx (fσ a t d x3 x4 x5 x6 x7 x8 x9 x10 (some (.ref pl)) x12) H')→rd D (fσ a t d x3 x4 x5 x6 x7 x8 x9 x10 x11 x12) H:=by
 obtain⟨fL,fdL,GL,mL,kL,bL⟩:=CL;have hr1:Room 1 _:=hr.mono (by decide);refine⟨_,aE (i:=11) scF.nd rfl (Or.inl rfl) (aL (cY (qm hr)) rfl T.sorted boot_sorted (aa (di (N:=["_law_one","_law_book_here"]) (cl:=[("_law_book_here",s.heap.objs.size+2)]) (k:=1) (js:=[2]) (g:=aB 0) rfl (LcOk.mk' ["_law_book_here"] rfl rfl (by decide +kernel) (by decide +kernel) ?hcl rfl (by decide +kernel)) rfl ?hj (fV (pv 2)) (λs H fp=>al (i:=0) (show(["_law_one","_law_book_here"]:List Str).Nodup by decide +kernel) rfl (Or.inl rfl) (Or.inr rfl))
    (λs H fp=>aZ (aa (am (X:=bh _ _ _ _ _ _ _) GL hr1 rfl mL kL bL .nil aJ (aa (pv 1) (aa (pv 0) ag))) (aa (pv 0) ag)))) ag)),?_⟩
 case hcl =>
  intro y hy;rcases mem_cons.mp hy with e|hy
  ·rw[e];rfl
  ·skip
   cases hy
 case hj =>
  intro i j x h1 h2
  match i,h1,h2 with
  |0,h1,h2 =>
   cases h1;cases h2;exact⟨rfl,Or.inr (Or.inl rfl),(show((ae aW).names.lookup ("_law_book_here":Str)≠some NameKind.local)by decide +kernel),by first|exact Or.inl rfl|exact Or.inr rfl⟩
  |i+1,h1,h2=>simp at h1
 intro D H a t d zs as x3 x4 x5 x6 x7 x8 x9 x10 x11 x12 L q;have hl:=L.tr.len;obtain⟨o,ho⟩:=L.dz;refine⟨_,rfl,d,o,_,rfl,ho,λp hp=>?_⟩;rw[L.keys];refine cV (fr:=[some (.ref d)]) zs (λz=>V.int z.2.num) (by omega) hp (by have:=cr (ks:=zs.map λz=>V.int z.2.num) ho;exact this) rfl (λz y H'=>∃c:Cp,y=.ref c.a∧c.a≠p∧c.t≠p∧nU H' c∧c.n=z.2.num∧TW.PathTo (nds zs) c.n c.p) (λz y H H' h ex=>?_) (λz H' kk mz s1 hpl hk=>?_) (λys H1 s1 hp1 hys=>?_)
 ·obtain⟨c,e,n1,n2,⟨h1,h2⟩,h3,h4⟩:=h;exact⟨c,e,n1,n2,⟨ex _ _ n1 h1,ex _ _ n2 h2⟩,h3,h4⟩
 ·obtain⟨pz,hpz⟩:=TW.PathTo.ex L.tr.tr (gn mz);refine⟨_,rfl,_,rfl,d,z.2.num,as,zs,pz,rfl,L.bk.same s1,L.tr.tr,L.tr.len,hpz,λt1 H2 s2 ht1=>?_⟩;have hpl2:∃ys,H2 p=some (.lst ys):=let⟨ys,e⟩:=hpl;⟨ys,s2 _ _ e⟩;have ntp:t1≠p:=λe=>by obtain⟨ys,e'⟩:=hpl2;rw[←e,ht1]at e';cases e'
  refine⟨_,rfl,le2,λq1 hq1=>?_⟩;have s3:=af (o:=.tup [.ref t1,.int z.2.num]) hq1;exact hk _ _ (s2.trans s3) ⟨⟨q1,t1,pz,z.2.num⟩,rfl,cG hpl2 hq1,ntp,⟨ac,s3 _ _ ht1⟩,rfl,hpz⟩
 ·obtain⟨bs,e1,e2,e3⟩:=dy (val:=λc:Cp=>V.ref c.a) (S:=λ(z:Addr×Nd) (c:Cp)=>nU H1 c∧c.n=z.2.num∧TW.PathTo (nds zs) c.n c.p) hys (λz y _ ⟨c,e,_,_,h1,h2,h3⟩=>⟨c,e,h1,h2,h3⟩);have C:Cps H1 zs (bs.map (·.2)):=⟨λc hc=>by obtain⟨b,hb,rfl⟩:=mem_map.mp hc;exact(e3 b hb).1,by
    rw[←e1];unfold nds;rw[map_map,map_map,map_map];exact map_congr_left λb hb=>(e3 b hb).2.1,λc hc=>by obtain⟨b,hb,rfl⟩:=mem_map.mp hc;exact(e3 b hb).2.2⟩
  have hbl:(bs.map (·.2)).length=zs.length:=by rw[length_map,←e1,length_map]
  have e2':ys=(bs.map (·.2)).map λc=>V.ref c.a:=by rw[e2,map_map];rfl
  rw[e2']at hp1;refine⟨p,_,rfl,hp1,C.at',C.paths_nd L.tr.tr,by omega,λcs' hpm hup p2 hp2=>?_⟩;have s2:=af (o:=.lst (cs'.map λc=>V.ref c.a)) hp2;have wl:=C.wl L.tr.tr hpm hup;exact q p2 cs' _ (s1.trans s2) ac ⟨λc hc=>⟨s2 _ _ (wl.at' c hc).1,s2 _ _ (wl.at' c hc).2⟩,wl.up,wl.mem⟩ (hpm.length_eq.trans hbl)
theorem vH(hr:Room 5 (A.deeper (PyProof.Rows.envOfC "law" (ae aW) s.heap.objs.size f cdv))):
  ∃rd,PS (FX P w K mg base f cdv A outer s H0 E) (fS 10) rd∧∀(D:Ends)(H:Hp)(a t d fl pl:Addr)(zs:ZN)(as:List (Addr×(Addr×Nd)))(cs:List Cp)(x3 x4 x6 x7 x8 x9 x10 x12:Option V),FF H PC t d zs as→H fl=some (.lst ((nums (zs.filter isF)).map V.int))→H pl=some (.lst (cs.map λc=>V.ref c.a))→Wl H zs cs→cs.length=zs.length →
   (∀dl H',Same H H'→H' dl=some (.lst (((cs.filter λc=>!decide (c.n∈nums (zs.filter isF))).map (·.n)).map V.int))→D.nx (fσ a t d x3 x4 (some (.ref fl)) x6 x7 x8 x9 x10 (some (.ref pl)) (some (.ref dl))) H')→rd D (fσ a t d x3 x4 (some (.ref fl)) x6 x7 x8 x9 x10 (some (.ref pl)) x12) H:=by
 refine⟨_,ft (ii:=12) (N:=["_law_path_here","_law_one","_law_files"]) (cl:=[("_law_files",s.heap.objs.size+4)]) (k:=2) (js:=[5]) (g:=oC K 2 (dW (aB 0) (dW (aB 1) oB))) scF.nd rfl (Or.inl rfl) rfl (LcOk.mk' ["_law_files"] rfl rfl (by decide +kernel) (by decide +kernel) ?hcl rfl (by decide +kernel)) rfl ?hj (aM (pv 11)) (λs H fp=>gw (n:=2) rfl (bn (al (i:=0) (show(["_law_path_here","_law_one","_law_files"]:List Str).Nodup by decide +kernel) rfl (Or.inl rfl) (Or.inr rfl)) (bn (al (i:=1) (show(["_law_path_here","_law_one","_law_files"]:List Str).Nodup by decide +kernel) rfl (Or.inl rfl) (Or.inr rfl)) dX)))
    (λs H fp=>aq (r:=rIn K true) ee (pv 1) (pv 2) rfl) (λs H fp=>pv 1),?_⟩
 case hcl =>
  intro y hy;rcases mem_cons.mp hy with e|hy
  ·rw[e];rfl
  ·skip
   cases hy
 case hj =>
  intro i j x h1 h2
  match i,h1,h2 with
  |0,h1,h2 =>
   cases h1;cases h2;exact⟨rfl,Or.inr (Or.inl rfl),(show((ae aW).names.lookup ("_law_files":Str)≠some NameKind.local)by decide +kernel),by first|exact Or.inl rfl|exact Or.inr rfl⟩
  |i+1,h1,h2=>simp at h1
 intro D H a t d fl pl zs as cs x3 x4 x6 x7 x8 x9 x10 x12 L hfl hpl wl hcl q;have hl:=L.tr.len;refine⟨_,rfl,pl,rfl,⟨_,SqL.of hpl⟩,λp hp=>?_⟩;refine nn (fr:=[some (.ref fl)]) cs (λc=>V.ref c.a) (by omega) hp (aY (SqL.of hpl)) ⟨[none,none],rfl,rfl⟩ (λc=>!decide (c.n∈nums (zs.filter isF))) (λc y _=>y=.int c.n) (λ_ _ _ _ h _=>h) (λc σ0 H' kk kn hσ mc s1 _ hk hn=>?_) (λys H1 s1 hp1 hys=>?_)
 ·obtain⟨x0,x1,rfl⟩:=jA hσ;have h1:=(wl.at' c mc).1;refine⟨c.a,_,rfl,SqT.of (s1 _ _ h1),rfl,_,_,rfl,_,_,rfl,rfl,?_⟩;refine⟨_,rfl,_,rfl,fl,_,rfl,.inl (SqL.of (s1 _ _ hfl)),rfl,ia _,_,rfl,?_⟩;rw[show(if true=true then !inV (.int c.n) ((nums (zs.filter isF)).map V.int)else inV (.int c.n) ((nums (zs.filter isF)).map V.int)) = !decide (c.n∈nums (zs.filter isF))by rw[if_pos rfl,jy]]
  cases e:(!decide (c.n∈nums (zs.filter isF)))with
  |true=>exact dM ⟨_,rfl,hk _ _ _ ⟨[some (.ref c.t),some (.int c.n)],rfl,rfl⟩ (Same.refl _) e rfl⟩
  |false=>exact bZ (hn _ _ ⟨[some (.ref c.t),some (.int c.n)],rfl,rfl⟩ (Same.refl _) e)
 ·have ey:=au (f:=λc:Cp=>V.int c.n) hys (λz y _ h=>h);exact q p H1 s1 (by rw[hp1,ey,map_map];rfl)
theorem vI(T:Txt mg)(hr:Room 5 (A.deeper (PyProof.Rows.envOfC "law" (ae aW) s.heap.objs.size f cdv)))(CK:Has P w K mg base 4 "first_of_kind" ["tree"] lj):
  ∃rd,PS (FX P w K mg base f cdv A outer s H0 E) (fS 11) rd∧∀(D:Ends)(H:Hp)(a t d fl pl dl:Addr)(zs:ZN)(as:List (Addr×(Addr×Nd)))(cs:List Cp)(x3 x4 x6 x7 x8 x9 x10:Option V),FF H PC t d zs as→H fl=some (.lst ((nums (zs.filter isF)).map V.int))→H pl=some (.lst (cs.map λc=>V.ref c.a))→Wl H zs cs→cs.length=zs.length→H dl=some (.lst (((cs.filter λc=>!decide (c.n∈nums (zs.filter isF))).map (·.n)).map V.int)) →
   (∀H',D.rt (.bl true) H')→rd D (fσ a t d x3 x4 (some (.ref fl)) x6 x7 x8 x9 x10 (some (.ref pl)) (some (.ref dl))) H:=by
 obtain⟨fK,fdK,GK,mK,kK,bK⟩:=CK;have hr4:Room 4 _:=hr.mono (by decide);have hu4:=cW hr;refine⟨_,aK (qz (tw hu4) (am GK hr4 rfl mK kK bK .nil aJ (aa (pv 1) ag)) (aZ (aa (ay cA (aN jg (pv 12) (be (aa cg ag))) ai (λ_ _=>rfl)) (aa (ay cA (aN jg (bM (N:=["_law_path_here","_law_one","_law_files"]) (cl:=[("_law_files",s.heap.objs.size+4)]) (k:=2) (js:=[5]) (g:=oC K 2 (dW (aB 0) (dW (aB 1) oB))) rfl (LcOk.mk' ["_law_files"] rfl rfl (by decide +kernel) (by decide +kernel) ?hcl rfl (by decide +kernel)) rfl ?hj (aM (pv 11)) (λs H fp=>gw (n:=2) rfl (bn (al (i:=0) (show(["_law_path_here","_law_one","_law_files"]:List Str).Nodup by decide +kernel) rfl (Or.inl rfl) (Or.inr rfl)) (bn (al (i:=1) (show(["_law_path_here","_law_one","_law_files"]:List Str).Nodup by decide +kernel) rfl (Or.inl rfl) (Or.inr rfl)) dX)))
    (λs H fp=>aq (r:=rIn K false) nF (pv 1) (pv 2) rfl) (λs H fp=>pv 1)) (be (aa cg ag))) ai (λ_ _=>rfl)) ag))) (aG _)),?_⟩
 case hcl =>
  intro y hy;rcases mem_cons.mp hy with e|hy
  ·rw[e];rfl
  ·skip
   cases hy
 case hj =>
  intro i j x h1 h2
  match i,h1,h2 with
  |0,h1,h2 =>
   cases h1;cases h2;exact⟨rfl,Or.inr (Or.inl rfl),(show((ae aW).names.lookup ("_law_files":Str)≠some NameKind.local)by decide +kernel),by first|exact Or.inl rfl|exact Or.inr rfl⟩
  |i+1,h1,h2=>simp at h1
 intro D H a t d fl pl dl zs as cs x3 x4 x6 x7 x8 x9 x10 L hfl hpl wl hcl hdl q;have hl:=L.tr.len;have hnd:=L.nd;refine⟨_,rfl,t,zs,rfl,L.tr,λus t' H1 s1 hus hw ht'=>?_⟩;have eN:nums us=cs.map (·.n):=hw.one ⟨H,cs,wl,rfl⟩;have eD:=nr hnd hus eN (λb=>!b);have eF:=nr hnd hus eN (λb=>b);have hfD:∀g:Cp→Bool,(cs.filter g).length≤30:=λg=>le_trans (length_filter_le _ _) (by omega);refine⟨_,rfl,aV (show 1≤1000 by decide),λp1 hp1=>?_⟩;have s2:=af (o:=.lst [.non]) hp1;refine⟨dl,p1,_,_,rfl,rfl,s2 _ _ (s1 _ _ hdl),ac,aV (by rw[length_map,length_map];have:=hfD (λc=>!decide (c.n∈nums (zs.filter isF)));show _+1≤1000;omega),λp2 hp2=>?_⟩;have s3:=s2.trans (af (o:=.lst (((cs.filter λc=>!decide (c.n∈nums (zs.filter isF))).map (·.n)).map V.int++[.non])) hp2);refine⟨p2,_,_,_,rfl,rfl,SqL.of ac,sh _,?_⟩;generalize upd (upd H1 p1 (.lst [.non])) p2 (.lst (((cs.filter λc=>!decide (c.n∈nums (zs.filter isF))).map (·.n)).map V.int++[.non]))=H3 at s3⊢;have s13:=s1.trans s3;have hpl3:=s13 _ _ hpl;refine⟨_,rfl,pl,rfl,⟨_,SqL.of hpl3⟩,λp hp=>?_⟩;refine nn (fr:=[some (.ref fl)]) cs (λc=>V.ref c.a) (by omega) hp (aY (SqL.of hpl3)) ⟨[none,none],rfl,rfl⟩ (λc=>decide (c.n∈nums (zs.filter isF))) (λc y _=>y=.int c.n) (λ_ _ _ _ h _=>h) (λc σ0 H' kk kn hσ mc s4 _ hk hn=>?_) (λys H4 s4 hp4 hys=>?_)
 ·obtain⟨x0,x1,rfl⟩:=jA hσ;have h1:=(wl.at' c mc).1;refine⟨c.a,_,rfl,SqT.of (s4 _ _ (s13 _ _ h1)),rfl,_,_,rfl,_,_,rfl,rfl,?_⟩;refine⟨_,rfl,_,rfl,fl,_,rfl,.inl (SqL.of (s4 _ _ (s13 _ _ hfl))),rfl,ia _,_,rfl,?_⟩;rw[show(if false=true then !inV (.int c.n) ((nums (zs.filter isF)).map V.int)else inV (.int c.n) ((nums (zs.filter isF)).map V.int))=decide (c.n∈nums (zs.filter isF))from jy _ _]
  cases e:decide (c.n∈nums (zs.filter isF))with
  |true=>exact dM ⟨_,rfl,hk _ _ _ ⟨[some (.ref c.t),some (.int c.n)],rfl,rfl⟩ (Same.refl _) e rfl⟩
  |false=>exact bZ (hn _ _ ⟨[some (.ref c.t),some (.int c.n)],rfl,rfl⟩ (Same.refl _) e)
 ·have ey:=au (f:=λc:Cp=>V.int c.n) hys (λz y _ h=>h);have e4:ys=((cs.filter λc=>decide (c.n∈nums (zs.filter isF))).map (·.n)).map V.int:=by rw[ey,map_map];rfl
  rw[e4]at hp4;refine⟨aV (show 1≤1000 by decide),λp5 hp5=>?_⟩;have s5:=af (o:=.lst [.non]) hp5;refine⟨p,p5,_,_,rfl,rfl,s5 _ _ hp4,ac,aV (by rw[length_map,length_map];have:=hfD (λc=>decide (c.n∈nums (zs.filter isF)));show _+1≤1000;omega),λp6 hp6=>?_⟩;have s6:=s5.trans (af (o:=.lst (((cs.filter λc=>decide (c.n∈nums (zs.filter isF))).map (·.n)).map V.int++[.non])) hp6);refine⟨p6,_,_,_,rfl,rfl,SqL.of ac,sh _,?_⟩;refine⟨le2,λp7 hp7=>?_⟩;have s7:=(s4.trans s6).trans (af (o:=.tup [hdV ((cs.filter λc=>!decide (c.n∈nums (zs.filter isF))).map (·.n)),hdV ((cs.filter λc=>decide (c.n∈nums (zs.filter isF))).map (·.n))]) hp7);refine .inr ⟨t',p7,_,_,rfl,rfl,?_,.inr ⟨s7 _ _ (s3 _ _ ht'),ac⟩,q _⟩;rw[show(cs.filter λc=>!decide (c.n∈nums (zs.filter isF))).map (·.n)=nums (us.filter isD)from eD,show(cs.filter λc=>decide (c.n∈nums (zs.filter isF))).map (·.n)=nums (us.filter isF)from eF];refine bS ?_;cases nums (us.filter isD)<;>cases nums (us.filter isF)<;>rfl
end
def ll:List Str:=["a","b","c","abcde","zz"]
section
variable{P:Program}{w:World}{K:PySem.W.Frag}{mg:Str→Option Value}{base:Heap}{f PC:Addr}{cdv:Value}{A:Around}{outer:List Env}{s:Shared}{H0:Hp}{E:XK}
theorem fs2(T:Txt mg)(hr:Room 5 (A.deeper (PyProof.Rows.envOfC "law" (ae aW) s.heap.objs.size f cdv)))(CN:Has P w K mg base 1 "named" ["tree","name"] dB):
  ∃rd,PS (FX P w K mg base f cdv A outer s H0 E) (fS 2) rd∧∀(D:Ends)(H:Hp)(a t d:Addr)(zs:ZN)(as:List (Addr×(Addr×Nd)))(x3 x4 x5 x6 x7 x8 x9 x10 x11 x12:Option V),FF H PC t d zs as →
   (∀x3 H',Same H H'→D.nx (fσ a t d x3 x4 x5 x6 x7 x8 x9 x10 x11 x12) H')→rd D (fσ a t d x3 x4 x5 x6 x7 x8 x9 x10 x11 x12) H:=by
 obtain⟨rb,pb,hb⟩:=fl2 (PC:=PC) (outer:=outer) (H0:=H0) (E:=E) T hr CN;refine⟨_,cR PassesOwn.never rfl (cE (aZ (aa cQ (aa cQ (aa cQ (aa cQ (aa cQ ag))))))) (al (i:=3) scF.nd rfl (Or.inr rfl)) (ak pb),?_⟩;intro D H a t d zs as x3 x4 x5 x6 x7 x8 x9 x10 x11 x12 L q;refine⟨(show 5≤sizeLine from aV (by decide)),λp hp=>?_⟩;have s1:=af (o:=.tup (ll.map V.str)) hp;have hp1:upd H p (.tup (ll.map V.str)) p=some (.tup (ll.map V.str)):=ac;refine⟨p,rfl,⟨_,SqT.of hp1⟩,gg (xs:=ll.map V.str) (λi σ H'=>∃x3,σ=fσ a t d x3 x4 x5 x6 x7 x8 x9 x10 x11 x12∧Same (upd H p (.tup (ll.map V.str))) H') ⟨_,rfl,Same.refl _⟩ (λi σ H' _ h=>?_) (λi x σ H' hx h=>?_) (λσ H' h=>?_)⟩
 ·obtain⟨_,_,s2⟩:=h;exact SqT.of (s2 _ _ hp1)
 ·obtain⟨x3,rfl,s2⟩:=h;obtain⟨y,_,rfl⟩:=mem_map.mp (mem_of_getElem? hx);exact hb _ H' a t d zs as y x4 x5 x6 x7 x8 x9 x10 x11 x12 (L.same (s1.trans s2)) λH3 s3=>⟨_,rfl,s2.trans s3⟩
 ·obtain⟨x3,rfl,s2⟩:=h;exact q x3 H' (s1.trans s2)
theorem fs4(T:Txt mg)(hr:Room 5 (A.deeper (PyProof.Rows.envOfC "law" (ae aW) s.heap.objs.size f cdv)))(CS:Has P w K mg base 2 "stamped" ["tree","low","high"] iY)(CP:Has P w K mg base 2 "_law_pick" ["_law_script","_law_k","_law_many"] (fJ K)):
  ∃rd,PS (FX P w K mg base f cdv A outer s H0 E) (fS 4) rd∧∀(D:Ends)(H:Hp)(a t d fl:Addr)(zs:ZN)(as:List (Addr×(Addr×Nd)))(x3 x4 x6 x7 x8 x9 x10 x11 x12:Option V),eU K H a→FF H PC t d zs as→H fl=some (.lst ((nums (zs.filter isF)).map V.int)) →
   (∀x6 x7 H',Same H H'→D.nx (fσ a t d x3 x4 (some (.ref fl)) x6 x7 x8 x9 x10 x11 x12) H')→rd D (fσ a t d x3 x4 (some (.ref fl)) x6 x7 x8 x9 x10 x11 x12) H:=by
 obtain⟨rb,pb,hb⟩:=fl4 (PC:=PC) (outer:=outer) (H0:=H0) (E:=E) T hr CS;obtain⟨fP,fdP,GP,mP,kP,bP⟩:=CP;have hr2:Room 2 _:=hr.mono (by decide);refine⟨_,cR PassesOwn.never rfl (cE (aZ (aa (aZ (aa ai (aa ai ag))) (aa (aZ (aa ai (aa ai ag))) (aa (aZ (aa ai (aa ai ag))) (aa (aZ (aa (am GP hr2 rfl mP kP bP .nil aJ (aa (pv 0) (aa ai (aa ai ag)))) (aa (am GP hr2 rfl mP kP bP .nil aJ (aa (pv 0) (aa ai (aa ai ag)))) ag))) ag))))))
  (gw (n:=2) rfl (bn (al (i:=6) scF.nd rfl (Or.inr rfl)) (bn (al (i:=7) scF.nd rfl (Or.inr rfl)) dX))) (ak pb),?_⟩
 intro D H a t d fl zs as x3 x4 x6 x7 x8 x9 x10 x11 x12 hS L hfl q;refine⟨le2,λc1 h1=>?_⟩;have s1:=af (o:=.tup [.int 0,.int 999]) h1;have g1:upd H c1 (.tup [.int 0,.int 999]) c1=some (.tup [.int 0,.int 999]):=ac;generalize upd H c1 (.tup [.int 0,.int 999])=H1 at s1 g1⊢;refine⟨le2,λc2 h2=>?_⟩;have s2:=af (o:=.tup [.int 1,.int 2]) h2;have g2:upd H1 c2 (.tup [.int 1,.int 2]) c2=some (.tup [.int 1,.int 2]):=ac;generalize upd H1 c2 (.tup [.int 1,.int 2])=H2 at s2 g2⊢;refine⟨le2,λc3 h3=>?_⟩;have s3:=af (o:=.tup [.int 2,.int 1]) h3;have g3:upd H2 c3 (.tup [.int 2,.int 1]) c3=some (.tup [.int 2,.int 1]):=ac;generalize upd H2 c3 (.tup [.int 2,.int 1])=H3 at s3 g3⊢;have s13:=(s1.trans s2).trans s3;refine⟨_,rfl,a,_,_,rfl,by decide,by decide,hS.same s13,λr H4 _ _ s4=>?_⟩;refine⟨_,rfl,a,_,_,rfl,by decide,by decide,hS.same (s13.trans s4),λr' H5 _ _ s5=>?_⟩;refine⟨le2,λc4 h4=>?_⟩;have s6:=af (o:=.tup [.int r,.int r']) h4;have g4:upd H5 c4 (.tup [.int r,.int r']) c4=some (.tup [.int r,.int r']):=ac;generalize upd H5 c4 (.tup [.int r,.int r'])=H6 at s6 g4⊢;refine⟨(show 4≤sizeLine from aV (by decide)),λp hp=>?_⟩;have s7:=af (o:=.tup [.ref c1,.ref c2,.ref c3,.ref c4]) hp;have gp:upd H6 p (.tup [.ref c1,.ref c2,.ref c3,.ref c4]) p=some (.tup [.ref c1,.ref c2,.ref c3,.ref c4]):=ac;generalize upd H6 p (.tup [.ref c1,.ref c2,.ref c3,.ref c4])=H7 at s7 gp⊢;have s37:=((s4.trans s5).trans s6).trans s7;have s17:=s13.trans s37;have all:∀(i:Nat) x,[V.ref c1,.ref c2,.ref c3,.ref c4][i]?=some x→∃c lo hi,x=.ref c∧H7 c=some (.tup [.int lo,.int hi]):=λi x hx=>by
  match i,hx with
  |0,hx=>cases hx;exact⟨c1,_,_,rfl,s37 _ _ (s3 _ _ (s2 _ _ g1))⟩
  |1,hx=>cases hx;exact⟨c2,_,_,rfl,s37 _ _ (s3 _ _ g2)⟩
  |2,hx=>cases hx;exact⟨c3,_,_,rfl,s37 _ _ g3⟩
  |3,hx=>cases hx;exact⟨c4,_,_,rfl,s7 _ _ g4⟩
  |i+4,hx=>simp at hx
 refine⟨p,rfl,⟨_,SqT.of gp⟩,gg (xs:=[.ref c1,.ref c2,.ref c3,.ref c4]) (λi σ H'=>∃x6 x7,σ=fσ a t d x3 x4 (some (.ref fl)) x6 x7 x8 x9 x10 x11 x12∧Same H7 H') ⟨_,_,rfl,Same.refl _⟩ (λi σ H' _ h=>?_) (λi x σ H' hx h=>?_) (λσ H' h=>?_)⟩
 ·obtain⟨_,_,_,s8⟩:=h;exact SqT.of (s8 _ _ gp)
 ·obtain⟨x6,x7,rfl,s8⟩:=h;obtain⟨c,lo,hi,rfl,hc⟩:=all i x hx;refine⟨c,_,rfl,SqT.of (s8 _ _ hc),rfl,_,_,rfl,_,_,rfl,rfl,?_⟩;exact hb _ H' a t d fl zs as lo hi x3 x4 x8 x9 x10 x11 x12 (L.same (s17.trans s8)) ((s17.trans s8) _ _ hfl) λH9 s9=>⟨_,_,rfl,s8.trans s9⟩
 ·obtain⟨x6,x7,rfl,s8⟩:=h;exact q x6 x7 H' (s17.trans s8)
theorem fs7{CN0:Addr}(T:Txt mg)(hr:Room 5 (A.deeper (PyProof.Rows.envOfC "law" (ae aW) s.heap.objs.size f cdv)))(CD:Has P w K mg base 3 "depth_of" ["tree","number"] iX)(CL:Has P w K mg base 1 "_law_path" ["_law_book_here","_law_number"] lO)(CF:Has P w K mg base 1 "find" ["tree","path"] fw)(CP:eV P w K mg base 2 "path_of" ["tree","number"] (gZ CN0)):
  ∃rd,PS (FX P w K mg base f cdv A outer s H0 E) (fS 7) rd∧∀(D:Ends)(H:Hp)(a t d:Addr)(zs:ZN)(as:List (Addr×(Addr×Nd)))(x3 x4 x5 x6 x7 x8 x9 x10 x11 x12:Option V),FF H PC t d zs as →
   (∀x4 H',Same H H'→D.nx (fσ a t d x3 x4 x5 x6 x7 x8 x9 x10 x11 x12) H')→rd D (fσ a t d x3 x4 x5 x6 x7 x8 x9 x10 x11 x12) H:=by
 obtain⟨rb,pb,hb⟩:=fl7 (PC:=PC) (outer:=outer) (H0:=H0) (E:=E) T hr CD CL CF CP;refine⟨_,cR PassesOwn.never rfl (fV (pv 2)) (al (i:=4) scF.nd rfl (Or.inl rfl)) (ak pb),?_⟩;intro D H a t d zs as x3 x4 x5 x6 x7 x8 x9 x10 x11 x12 L q;obtain⟨o,ho⟩:=L.dz;refine⟨_,rfl,d,o,_,rfl,ho,?_⟩;rw[L.keys];refine rE (by have:=cr (ks:=zs.map λz=>V.int z.2.num) ho;exact this) (λi σ H'=>∃x4,σ=fσ a t d x3 x4 x5 x6 x7 x8 x9 x10 x11 x12∧Same H H') ⟨_,rfl,Same.refl _⟩ (λi σ H' _ ⟨_,_,e⟩=>e) (λi x σ H' hx h=>?_) (λσ H' h=>?_)
 ·obtain⟨x4,rfl,s1⟩:=h;obtain⟨z,hz,rfl⟩:=mem_map.mp (mem_of_getElem? hx);exact hb _ H' a t d zs as z x3 x5 x6 x7 x8 x9 x10 x11 x12 (L.same s1) hz λH2 s2=>⟨_,rfl,s1.trans s2⟩
 ·obtain⟨x4,rfl,s1⟩:=h;exact q x4 H' s1
theorem fs8{CN0:Addr}(T:Txt mg)(hr:Room 5 (A.deeper (PyProof.Rows.envOfC "law" (ae aW) s.heap.objs.size f cdv)))(CC:Has P w K mg base 4 "children" ["tree","number"] (iW PC))(CB:eV P w K mg base 2 "below" ["tree","number"] (iR CN0)):
  ∃rd,PS (FX P w K mg base f cdv A outer s H0 E) (fS 8) rd∧∀(D:Ends)(H:Hp)(a t d:Addr)(zs:ZN)(as:List (Addr×(Addr×Nd)))(x3 x4 x5 x6 x7 x8 x9 x10 x11 x12:Option V),FF H PC t d zs as →
   (∀x9 x10 H',dS PC H H'→cO H' PC fG→D.nx (fσ a t d x3 x4 x5 x6 x7 x8 x9 x10 x11 x12) H')→rd D (fσ a t d x3 x4 x5 x6 x7 x8 x9 x10 x11 x12) H:=by
 obtain⟨r0,p0,h0⟩:=kb0 (PC:=PC) (outer:=outer) (H0:=H0) (E:=E) hr CC;obtain⟨r1,p1,h1⟩:=kb1 (P:=P) (w:=w) (K:=K) (base:=base) (PC:=PC) (outer:=outer) (H0:=H0) (E:=E) T hr;obtain⟨r2,p2,h2⟩:=kb2 (P:=P) (w:=w) (K:=K) (base:=base) (PC:=PC) (outer:=outer) (H0:=H0) (E:=E) T hr;obtain⟨r3,p3,h3⟩:=kb3 (PC:=PC) (outer:=outer) (H0:=H0) (E:=E) hr CB;refine⟨_,cR PassesOwn.never rfl (aM (aN jg (be (aa ai ag)) (bM (N:=["_law_one","_law_book_here"]) (cl:=[("_law_book_here",s.heap.objs.size+2)]) (k:=1) (js:=[2]) (g:=aB 0) rfl (LcOk.mk' ["_law_book_here"] rfl rfl (by decide +kernel) (by decide +kernel) ?hcl rfl (by decide +kernel)) rfl ?hj (fV (pv 2)) (λs H fp=>al (i:=0) (show(["_law_one","_law_book_here"]:List Str).Nodup by decide +kernel) rfl (Or.inl rfl) (Or.inr rfl))
    (λs H fp=>aq jd (ay (r:=bw K) av (aS (bv hr) (pv 1) (pv 0) (λ_ _=>rfl)) ai (λ_ _=>rfl)) cg (aG _)) (λs H fp=>pv 0)))) (al (i:=9) scF.nd rfl (Or.inr rfl)) (aj p0 (aj p1 (aj p2 (ak p3)))),?_⟩
 case hcl =>
  intro y hy;rcases mem_cons.mp hy with e|hy
  ·rw[e];rfl
  ·skip
   cases hy
 case hj =>
  intro i j x h1 h2
  match i,h1,h2 with
  |0,h1,h2 =>
   cases h1;cases h2;exact⟨rfl,Or.inr (Or.inl rfl),(show((ae aW).names.lookup ("_law_book_here":Str)≠some NameKind.local)by decide +kernel),by first|exact Or.inl rfl|exact Or.inr rfl⟩
  |i+1,h1,h2=>simp at h1
 intro D H a t d zs as x3 x4 x5 x6 x7 x8 x9 x10 x11 x12 L q;have hl:=L.tr.len;refine⟨aV (show 1≤1000 by decide),λc1 hc1=>?_⟩;have s1:=af (o:=.lst [.int 0]) hc1;have g1:upd H c1 (.lst [.int 0]) c1=some (.lst [.int 0]):=ac;generalize upd H c1 (.lst [.int 0])=H1 at s1 g1⊢;have L1:=L.same s1;obtain⟨o,ho⟩:=L1.dz;refine⟨_,rfl,d,o,_,rfl,ho,λp hp=>?_⟩;rw[L1.keys];refine bz (fr:=[some (.ref d)]) zs (λz=>V.int z.2.num) (by omega) hp (by have:=cr (ks:=zs.map λz=>V.int z.2.num) ho;exact this) rfl isD (λz y _=>y=.int z.2.num) (λ_ _ _ _ h _=>h) (λz H' k mz s2 _ hk=>?_) (λz H' k mz _ s2 _ hk=>?_) (λys H2 s2 hp2 hys=>?_)
 ·obtain⟨b,hb1,hb2⟩:=(L1.bk.same s2).get L.nd mz;refine⟨_,rfl,_,rfl,d,_,rfl,hb1,b,_,_,_,rfl,rfl,SqT.of hb2,pN z.2,rfl,_,rfl,?_⟩;have e:decide (stV z.2.st=V.non)=isD z:=by
   unfold isD isF;cases z.2.st<;>simp[stV]
  rw[e];exact hk H' (Same.refl _)
 ·exact⟨_,rfl,hk _ H' (Same.refl _) rfl⟩
 have ey:=au (f:=λz:Addr×Nd=>V.int z.2.num) hys (λz y _ h=>h);have e2:ys=(nums (zs.filter isD)).map V.int:=by rw[ey];exact aR _
 rw[e2]at hp2;have hfl:=length_filter_le isD zs;refine⟨c1,p,_,_,rfl,rfl,s2 _ _ g1,hp2,aV (by rw[length_map,dv];show 1+_≤1000;omega),λl hl0=>?_⟩;have s3:=(s1.trans s2).trans (af (o:=.lst ([.int 0]++(nums (zs.filter isD)).map V.int)) hl0);have gl:upd H2 l (.lst ([.int 0]++(nums (zs.filter isD)).map V.int)) l=some (.lst ((0::nums (zs.filter isD)).map V.int)):=ac;generalize upd H2 l (.lst ([.int 0]++(nums (zs.filter isD)).map V.int))=H3 at s3 gl⊢;have L3:=L.same s3;refine⟨l,rfl,⟨_,SqL.of gl⟩,gB (xs:=(0::nums (zs.filter isD)).map V.int) (λi σ H'=>∃x9 x10,σ=fσ a t d x3 x4 x5 x6 x7 x8 x9 x10 x11 x12∧dS PC H3 H'∧cO H' PC fG) ⟨_,_,rfl,dS.refl _ _,L3.tab⟩ (λi σ H' _ h=>?_) (λi x σ H' hx h=>?_) (λσ H' h=>?_)⟩
 ·obtain⟨_,_,_,off,_⟩:=h;exact SqL.of (jG L3.tab off gl λps e=>by cases e)
 ·obtain⟨x9,x10,rfl,off,tq⟩:=h;obtain⟨k,hk,rfl⟩:=mem_map.mp (mem_of_getElem? hx);have L4:=L3.off off tq;have hk':k=0∨∃z∈zs,z.2.num=k∧z.2.st=none:=by
   rcases mem_cons.mp hk with e|hk
   ·exact .inl e
   ·obtain⟨z,hz,e⟩:=mem_map.mp hk;have:=mem_filter.mp hz;refine .inr ⟨z,this.1,e,?_⟩;have h2:=this.2;unfold isD isF at h2;cases es:z.2.st with
    |none=>rfl
    |some i=>rw[es]at h2;cases h2
  have kb:0≤k∧k≤60:=by
   rcases hk' with e|⟨z,hz,e,_⟩
   ·omega
   ·have g:=L.gd z hz;have g1:=g.1;have g2:=g.2.1;omega
  refine h0 _ H' a t d zs as k x3 x4 x5 x6 x7 x8 x10 x11 x12 L4 kb.1 kb.2 hk' λlc yc H5 off5 tq5 hK hlc=>?_;have L5:=L4.off off5 tq5;refine h1 _ H5 a t d lc zs yc as k x3 x4 x5 x6 x7 x8 x11 x12 L5 hK hlc λH6 s6=>?_;refine h2 _ H6 a t d lc zs yc as k x3 x4 x5 x6 x7 x8 x11 x12 (L5.same s6) hK (s6 _ _ hlc) λH7 s7=>?_;refine h3 _ H7 a t d lc zs yc as k x3 x4 x5 x6 x7 x8 x11 x12 ((L5.same s6).same s7) hK (s7 _ _ (s6 _ _ hlc)) kb.1 kb.2 hk' λH8 s8=>?_;have s58:=(s6.trans s7).trans s8;exact⟨_,_,rfl,λb u n e=>s58 _ _ (off5 b u n (off b u n e)),dA tq5 s58⟩
 ·obtain⟨x9,x10,rfl,off,tq⟩:=h;exact q x9 x10 H' (λb u n e=>off b u n (s3 _ _ e)) tq
end
def nu(PC:Addr)(K:PySem.W.Frag):Sp:=λvs H Q _=>∃(a:Addr) (ns:List Int),vs=[.ref a]∧SqL K H a (ns.map V.int)∧ns.length≤63∧H PC=some (.tbl #[])∧∀H',Q (.bl true) H'
section
variable{P:Program}{w:World}{K:PySem.W.Frag}{mg:Str→Option Value}{base:Heap}{f PC CN0:Addr}{fd:FuncData}
theorem uu(F:Fun K "law" "law" aW f fd)(T:Txt mg)(CT:Has P w K mg base 3 "_law_tree" ["_law_script","_law_at","_law_most"] (gu K))(CBk:Has P w K mg base 1 "_law_book" ["_law_tree_here"] jC)(CN:Has P w K mg base 1 "named" ["tree","name"] dB)(CP:Has P w K mg base 2 "_law_pick" ["_law_script","_law_k","_law_many"] (fJ K))(CS:Has P w K mg base 2 "stamped" ["tree","low","high"] iY)(CY:Has P w K mg base 2 "by_stamps" ["tree"] li)(CD:Has P w K mg base 3 "depth_of" ["tree","number"] iX)(CL:Has P w K mg base 1 "_law_path" ["_law_book_here","_law_number"] lO)(CF:Has P w K mg base 1 "find" ["tree","path"] fw)(CPo:eV P w K mg base 2 "path_of" ["tree","number"] (gZ CN0))(CC:Has P w K mg base 4 "children" ["tree","number"] (iW PC))(CB:eV P w K mg base 2 "below" ["tree","number"] (iR CN0))(CK:Has P w K mg base 4 "first_of_kind" ["tree"] lj):
  FnOk P w K mg base CX0 6 f fd ["_law_script"] (nu PC K):=by
 obtain⟨fT,fdT,GT,mT,kT,bT⟩:=CT;obtain⟨fK,fdK,GK,mK,kK,bK⟩:=CBk;refine F.ok scF (λvs H Q E h=>?_) (λcdv A outer s H vs Q E hr h=>?_)
 ·obtain⟨a,ns,rfl,_⟩:=h;rfl
 ·obtain⟨a,ns,rfl,hS,hn,hPC,q⟩:=h;have hr3:Room 3 _:=hr.mono (by decide);have hr1:Room 1 _:=hr.mono (by decide);obtain⟨r2,p2,h2⟩:=fs2 (PC:=PC) (outer:=outer) (H0:=H) (E:=E) T hr CN;obtain⟨r3,p3,h3⟩:=fl3 (P:=P) (w:=w) (K:=K) (base:=base) (PC:=PC) (outer:=outer) (H0:=H) (E:=E) T hr;obtain⟨r4,p4,h4⟩:=fs4 (PC:=PC) (outer:=outer) (H0:=H) (E:=E) T hr CS CP;obtain⟨r5,p5,h5⟩:=fl5 (P:=P) (w:=w) (K:=K) (base:=base) (PC:=PC) (outer:=outer) (H0:=H) (E:=E) T hr;obtain⟨r6,p6,h6⟩:=fl6 (PC:=PC) (outer:=outer) (H0:=H) (E:=E) T hr CY;obtain⟨r7,p7,h7⟩:=fs7 (PC:=PC) (outer:=outer) (H0:=H) (E:=E) T hr CD CL CF CPo;obtain⟨r8,p8,h8⟩:=fs8 (PC:=PC) (outer:=outer) (H0:=H) (E:=E) T hr CC CB;obtain⟨r9,p9,h9⟩:=fl9 (PC:=PC) (outer:=outer) (H0:=H) (E:=E) T hr CL;obtain⟨r10,p10,h10⟩:=vH (P:=P) (w:=w) (K:=K) (mg:=mg) (base:=base) (PC:=PC) (outer:=outer) (H0:=H) (E:=E) hr;obtain⟨r11,p11,h11⟩:=vI (PC:=PC) (outer:=outer) (H0:=H) (E:=E) T hr CK;refine⟨_,aj (aE (i:=1) scF.nd rfl (Or.inr rfl) (am GT hr3 rfl mT kT bT .nil aJ (aa (pv 0) (aa ai (aa ai ag)))))
   (aj (aE (i:=2) scF.nd rfl (Or.inr rfl) (am GK hr1 rfl mK kK bK .nil aJ (aa (pv 1) ag)))
   (aj (oq p2) (aj p3 (aj p4 (aj p5 (aj p6 (aj p7 (aj p8 (aj p9 (aj p10 (ak p11))))))))))),?_⟩
  have TC0:cO H PC fG:=.start hPC;refine⟨_,rfl,a,0,9,rfl,by decide,by decide,by decide,⟨ns,hS⟩,λt zs H1 ht1 hA1 hl1 hT1 hG1 s1=>?_⟩;have tr1:TW.Tree1 (nds zs):=⟨hT1,λn hn=>by obtain⟨z,hz,rfl⟩:=tH hn;exact(hG1 z hz).1⟩;have Tr1:Tre H1 t zs:=⟨ht1,hA1,tr1,by omega⟩;refine⟨_,rfl,t,zs,rfl,Tr1,λd as H2 s2 hd0 bk hd=>?_⟩;refine⟨d,_,hd,λo=>?_⟩;have s02:=s1.trans s2;have hd00:H d=none:=s1.free hd0;have s03:Same H (upd H2 d (.frz o (.dK (bJ as)))):=λb u e=>by
   rw[ah λz=>by rw[z,hd00]at e;cases e];exact s02 _ _ e
  have s13:Same H1 (upd H2 d (.frz o (.dK (bJ as)))):=λb u e=>by
   rw[ah λz=>by rw[z,hd0]at e;cases e];exact s2 _ _ e
  have bk3:Book (upd H2 d (.frz o (.dK (bJ as)))) d as zs:=⟨.inr ⟨o,ac⟩,bk.of,λx hx=>by
   have:=bk.at' x hx;rw[ah λz=>by rw[z,hd]at this;cases this];exact this⟩
  have L:FF (upd H2 d (.frz o (.dK (bJ as)))) PC t d zs as:=⟨Tr1.same s13,bk3,⟨o,ac⟩,dA TC0 s03,hG1⟩;have hS3:eU K (upd H2 d (.frz o (.dK (bJ as)))) a:=eU.same ⟨ns,hS⟩ s03;generalize upd H2 d (.frz o (.dK (bJ as)))=H3 at L hS3⊢;refine h2 _ H3 a t d zs as none none none none none none none none none none L λx3 H4 s4=>?_;refine h3 _ H4 a t d zs as x3 _ _ _ _ _ _ _ _ _ (L.same s4) λfl H5 s5 hfl=>?_;have L5:=(L.same s4).same s5;refine h4 _ H5 a t d fl zs as x3 _ _ _ _ _ _ _ _ (hS3.same (s4.trans s5)) L5 hfl λx6 x7 H6 s6=>?_;have L6:=L5.same s6;refine h5 _ H6 a t d fl zs as x3 _ x6 x7 _ _ _ _ _ L6 (s6 _ _ hfl) λsl ms H7 s7 hsl hup hms hml=>?_;have L7:=L6.same s7;have hfl7:=s7 _ _ (s6 _ _ hfl);refine h6 _ H7 a t d fl sl zs as ms x3 _ x6 x7 _ _ _ _ L7 hfl7 hsl hup hms hml λH8 s8=>?_;have L8:=L7.same s8;refine h7 _ H8 a t d zs as x3 _ _ x6 x7 _ _ _ _ _ L8 λx4 H9 s9=>?_;have L9:=L8.same s9;have hfl9:=s9 _ _ (s8 _ _ hfl7);refine h8 _ H9 a t d zs as x3 x4 _ x6 x7 _ _ _ _ _ L9 λx9 x10 H10 off tq=>?_;have L10:=L9.off off tq;have hfl10:=jG L9.tab off hfl9 λps e=>by cases e
  refine h9 _ H10 a t d zs as x3 x4 _ x6 x7 _ x9 x10 _ _ L10 λpl cs H11 s11 hpl wl hcl=>?_;have L11:=L10.same s11;have hfl11:=s11 _ _ hfl10;refine h10 _ H11 a t d fl pl zs as cs x3 x4 x6 x7 _ x9 x10 _ L11 hfl11 hpl wl hcl λdl H12 s12 hdl=>?_;have wl12:Wl H12 zs cs:=⟨λc hc=>⟨s12 _ _ (wl.at' c hc).1,s12 _ _ (wl.at' c hc).2⟩,wl.up,wl.mem⟩;exact h11 _ H12 a t d fl pl dl zs as cs x3 x4 x6 x7 _ x9 x10 (L11.same s12) (s12 _ _ hfl11) (s12 _ _ hpl) wl12 hcl hdl q
end
end TK
namespace TK
open PySem PySem.W PyProof.Rows L2
theorem uv{K:PySem.W.Frag}{h:Heap}{mg:Str→Option Value}{x:Str}{C:Addr}{bB:List Value}{nid:String}(X:K.In h)(hb:mg x=some (.ref C))(q:excIn K C bB nid=true):OwnCls x C bB nid mg h:=by
 have hobj:∃bm N nm q' bs hdct sn sub ab col dd k0 k1 k2 k3 k5 mN,h.get? C=some (excClassObj nm q' C N bs bm hdct sn sub ab col dd k0 k1 k2 k3 k5 nid)∧h.Ns N mN∧mN "__init__"=none∧OwnTail h bB bm:=by
  unfold excIn at q
  split at q
  case h_2=>exact absurd q (by simp)
  case h_1 d0 c0 s0 hK =>
   split at q
   case h_2=>exact absurd q (by simp)
   case h_1 C1 b1 u0 u1 u2 u3 u4 u5 e1 e2 =>
    rw[and_eq_true,and_eq_true,and_eq_true,and_eq_true,and_eq_true]at q;obtain⟨⟨⟨⟨⟨y1,y2⟩,y3⟩,g4⟩,g5⟩,y6⟩:=q;have g1:C1=C:=beq_iff_eq.mp y1;have g2:u4=nid:=beq_iff_eq.mp y2;have g3:c0.hasDel=false:=by simpa using y3
    have g6:nsIn K c0.ns "__init__"=some none:=beq_iff_eq.mp y6;clear y1 y2 y3 y6;cases c0;cases s0;dsimp only at e1 e2 g3 g5 g6;subst g1 g2 g3 e1 e2;exact⟨_,_,_,_,_,_,_,_,_,_,_,_,_,_,_,_,_,X _ _ hK,Heap.Ns.of_isNs (PySem.W.isNs_of_in X g5),PySem.W.nsMap_none_of_in X g5 g6,PySem.W.tail_of_in X g4⟩
 exact⟨hb,hobj⟩
theorem vJ{α:Type}{P:List α→Prop}{us:List α}(hl:us.length=0)(h:P []):P us:=by cases us with|nil=>exact h|cons a r=>cases hl
theorem vi{α:Type}{P:List α→Prop}{us:List α}(hl:us.length=1)(h:∀a0,P [a0]):P us:=by cases us with|nil=>cases hl|cons a r=>exact vJ (P:=λr=>P (a::r)) (Nat.succ.inj hl) (h a)
theorem vj{α:Type}{P:List α→Prop}{us:List α}(hl:us.length=2)(h:∀a0 a1,P [a0,a1]):P us:=by cases us with|nil=>cases hl|cons a r=>exact vi (P:=λr=>P (a::r)) (Nat.succ.inj hl) (h a)
theorem vK{α:Type}{P:List α→Prop}{us:List α}(hl:us.length=3)(h:∀a0 a1 a2,P [a0,a1,a2]):P us:=by cases us with|nil=>cases hl|cons a r=>exact vj (P:=λr=>P (a::r)) (Nat.succ.inj hl) (h a)
abbrev gA(K:PySem.W.Frag)(x:Str)(f:Addr):Prop:=nsIn K mainGlobals x=some (some (.ref f))
abbrev gN(K:PySem.W.Frag)(x:Str):Prop:=nsIn K mainGlobals x=some none
theorem fh{P:Program}{w:World}{K:PySem.W.Frag}{mg:Str→Option Value}{base h:Heap}{k:Nat}{x q:Str}{st:Stmt}{f:Addr}{fd:FuncData}{ps:List Str}{sp:Sp}(X:K.In h)(G:h.Ns mainGlobals mg)(F:Fun K x q st f fd)(a:gA K x f)(b:cp K fd ps [])(O:FnOk P w K mg base CX0 k f fd ps sp):Has P w K mg base k x ps sp:=⟨f,fd,O,mg_of X G a,F.kp,b⟩
theorem fhX{P:Program}{w:World}{K:PySem.W.Frag}{mg:Str→Option Value}{base h:Heap}{k:Nat}{x q:Str}{st:Stmt}{f:Addr}{fd:FuncData}{ps:List Str}{sp:Sp}(X:K.In h)(G:h.Ns mainGlobals mg)(F:Fun K x q st f fd)(a:gA K x f)(b:cp K fd ps [])(O:FnOk P w K mg base (CX1 P w) k f fd ps sp):eV P w K mg base k x ps sp:=⟨f,fd,O,mg_of X G a,F.kp,b⟩
theorem fb1{K:PySem.W.Frag}{x q a0:Str}{st:Stmt}{f:Addr}{fd:FuncData}(F:Fun K x q st f fd)(h:∀(kV doc pm:Value) (an:Option Addr) (cdv ct v0:Value),bindArgs (fnOf x q (cT st) (bg st) (ae st) .none kV doc pm an cdv ct) ⟨[v0],[]⟩=pure (List.zip [a0] [v0]):=by intros;rfl):cp K fd [a0] []:=F.binds λkV doc pm an cdv ct us hl=>vi (P:=λus=>bindArgs _ ⟨us,[]⟩=pure (List.zip _ us)) hl (h kV doc pm an cdv ct)
theorem fb2{K:PySem.W.Frag}{x q a0 a1:Str}{st:Stmt}{f:Addr}{fd:FuncData}(F:Fun K x q st f fd)(h:∀(kV doc pm:Value) (an:Option Addr) (cdv ct v0 v1:Value),bindArgs (fnOf x q (cT st) (bg st) (ae st) .none kV doc pm an cdv ct) ⟨[v0,v1],[]⟩=pure (List.zip [a0,a1] [v0,v1]):=by intros;rfl):cp K fd [a0,a1] []:=F.binds λkV doc pm an cdv ct us hl=>vj (P:=λus=>bindArgs _ ⟨us,[]⟩=pure (List.zip _ us)) hl (h kV doc pm an cdv ct)
theorem fb3{K:PySem.W.Frag}{x q a0 a1 a2:Str}{st:Stmt}{f:Addr}{fd:FuncData}(F:Fun K x q st f fd)(h:∀(kV doc pm:Value) (an:Option Addr) (cdv ct v0 v1 v2:Value),bindArgs (fnOf x q (cT st) (bg st) (ae st) .none kV doc pm an cdv ct) ⟨[v0,v1,v2],[]⟩=pure (List.zip [a0,a1,a2] [v0,v1,v2]):=by intros;rfl):cp K fd [a0,a1,a2] []:=F.binds λkV doc pm an cdv ct us hl=>vK (P:=λus=>bindArgs _ ⟨us,[]⟩=pure (List.zip _ us)) hl (h kV doc pm an cdv ct)
theorem uw{l:PySem.W.OpenLaw}{w:World}{K:PySem.W.Frag}{h:Heap}{mg:Str→Option Value}{fa f1 f2 f3 f4 f5 f6 f7 f8 f9 f10 f11 f12 f13 f14 f15 f16 f17 f18 f19 f20 f21 f22 f23 f24:Addr}(X:K.In h)(G:h.Ns mainGlobals mg)(hfa:mg "law"=some (.ref fa)){d1 d2 d3 d4 d5 d6 d7 d8 d9 d10 d11 d12 d13 d14 d15 d16 d17 d18 d19 d20 d21 d22 d23 d24:FuncData}{t1:Tok}(a1:gA K "numbers_inside" f1)(F1:Fun K "numbers_inside" "numbers_inside" tI f1 d1)(a2:gA K "by_number" f2)(F2:Fun K "by_number" "by_number" tJ f2 d2)(a3:gA K "node_of" f3)(F3:Fun K "node_of" "node_of" tK f3 d3)(a4:gA K "check_folder" f4)(F4:Fun K "check_folder" "check_folder" tL f4 d4)(a5:gA K "path_up" f5)(F5:Fun K "path_up" "path_up" tM f5 d5)(a6:gA K "path_of" f6)(F6:Fun K "path_of" "path_of" tN f6 d6)(a7:gA K "find" f7)(F7:Fun K "find" "find" pO f7 d7)(a8:gA K "below" f8)(F8:Fun K "below" "below" tO f8 d8)(a9:gA K "walked" f9)(F9:Fun K "walked" "walked" rm f9 d9)(a10:gA K "walked_nodes" f10)(F10:Fun K "walked_nodes" "walked_nodes" bA f10 d10)(a11:gA K "named" f11)(F11:Fun K "named" "named" gq f11 d11)(a12:gA K "files_of" f12)(F12:Fun K "files_of" "files_of" cX f12 d12)(a13:gA K "stamped" f13)(F13:Fun K "stamped" "stamped" cN f13 d13)(a14:gA K "by_stamps" f14)(F14:Fun K "by_stamps" "by_stamps" cD f14 d14)(a15:gA K "depth_of" f15)(F15:Fun K "depth_of" "depth_of" dQ f15 d15)(a16:gA K "children" f16)(F16:Fun K "children" "children" bq f16 d16)(a17:gA K "first_of" f17)(F17:Fun K "first_of" "first_of" dR f17 d17)(a18:gA K "first_of_kind" f18)(F18:Fun K "first_of_kind" "first_of_kind" cj f18 d18)(a19:gA K "_law_cell" f19)(F19:Fun K "_law_cell" "_law_cell" pP f19 d19)(a20:gA K "_law_pick" f20)(F20:Fun K "_law_pick" "_law_pick" pQ f20 d20)(a21:gA K "_law_tree" f21)(F21:Fun K "_law_tree" "_law_tree" fu f21 d21)(a22:gA K "_law_book" f22)(F22:Fun K "_law_book" "_law_book" pR f22 d22)(a23:gA K "_law_path" f23)(F23:Fun K "_law_path" "_law_path" lN f23 d23)(a24:gA K "law" f24)(F24:Fun K "law" "law" aW f24 d24)(z1:gN K "isinstance")(z2:gN K "dict")(z3:gN K "len")(z4:gN K "tuple")(z5:gN K "list")(z6:gN K "range")(z7:gN K "sorted")(z8:gN K "reversed")(z9:gN K "ValueError")(z10:gN K "str")(z11:gN K "set")(z12:gN K "max")(z13:gN K "min")(z14:gN K "sum")(z15:gN K "zip")(z16:gN K "enumerate")(z17:gN K "all")(z18:gN K "int")(z19:gN K "bool")(v1t:nsIn K mainGlobals "TOP"=some (some (.int 0 t1))){cC PC:Addr}(kC:d16.code=.ref cC)(eC:codeHdIn K cC PC=true){CN:Addr}(xN:nsIn K mainGlobals "NoNode"=some (some (.ref CN)))(qN:excIn K CN bmV "ValueError.__new__"=true):
  ∃fd:FuncData,(∀(s:Shared)(v:Value),BindsTo s fd ⟨[v],[]⟩ [("_law_script",v)])∧∀base:Heap,K.In base→base.Ns mainGlobals mg→BmB base mg→FnOk l.prog w K mg base CX0 6 fa fd ["_law_script"] (nu PC K):=by
 have e:=hfa.symm.trans (mg_of X G a24);cases e;have T:Txt mg:=⟨mg_none_of X G z1,mg_none_of X G z2,mg_none_of X G z3,mg_none_of X G z4,mg_none_of X G z5,mg_none_of X G z6,mg_none_of X G z7,mg_none_of X G z8,mg_none_of X G z9,mg_none_of X G z10,mg_none_of X G z11,mg_none_of X G z12,mg_none_of X G z13,mg_none_of X G z14,mg_none_of X G z15,mg_none_of X G z16,mg_none_of X G z17,mg_none_of X G z18,mg_none_of X G z19,⟨_,mg_of X G v1t⟩⟩;have MN:mg "NoNode"=some (.ref CN):=mg_of X G xN;have hb:∀(s:Shared)(v:Value),BindsTo s d24 ⟨[v],[]⟩ [("_law_script",v)]:=by
  obtain⟨_,_,_,_,_,_,_,_,_,e,_,_⟩:=F24.ex;subst e;exact λs v=>.of_eq rfl
 have all:∀base:Heap,K.In base→BmB base mg→(Has l.prog w K mg base 3 "_law_tree" ["_law_script","_law_at","_law_most"] (gu K))∧(Has l.prog w K mg base 1 "_law_book" ["_law_tree_here"] jC)∧(Has l.prog w K mg base 1 "named" ["tree","name"] dB)∧(Has l.prog w K mg base 2 "_law_pick" ["_law_script","_law_k","_law_many"] (fJ K))∧(Has l.prog w K mg base 2 "stamped" ["tree","low","high"] iY)∧(Has l.prog w K mg base 2 "by_stamps" ["tree"] li)∧(Has l.prog w K mg base 3 "depth_of" ["tree","number"] iX)∧(Has l.prog w K mg base 1 "_law_path" ["_law_book_here","_law_number"] lO)∧(Has l.prog w K mg base 1 "find" ["tree","path"] fw)∧(eV l.prog w K mg base 2 "path_of" ["tree","number"] (gZ CN))∧(Has l.prog w K mg base 4 "children" ["tree","number"] (iW PC))∧(eV l.prog w K mg base 2 "below" ["tree","number"] (iR CN))∧(Has l.prog w K mg base 4 "first_of_kind" ["tree"] lj):=λbase KB Bm=>by
  let H:=Has l.prog w K mg base
  let HX:=eV l.prog w K mg base
  have ON:uR "NoNode" mg base CN:=uv KB MN qN;have C_numbers_inside:H 1 "numbers_inside" ["nodes","folder"] mX:=fh X G F1 a1 (fb2 F1) (tP F1 T);have C_by_number:H 1 "by_number" ["tree"] gY:=fh X G F2 a2 (fb1 F2) (tQ F2 T);have C_node_of:HX 1 "node_of" ["nodes","number"] (kE CN):=fhX X G F3 a3 (fb2 F3) (tR F3 ON);have C_check_folder:H 2 "check_folder" ["nodes","number"] qj:=fh X G F4 a4 (fb2 F4) (tZ F4 T C_node_of);have C_path_up:H 1 "path_up" ["nodes","number"] na:=fh X G F5 a5 (fb2 F5) (tU F5 T);have C_path_of:HX 2 "path_of" ["tree","number"] (gZ CN):=fhX X G F6 a6 (fb2 F6) (tV F6 C_by_number C_node_of C_path_up);have C_find:H 1 "find" ["tree","path"] fw:=fh X G F7 a7 (fb2 F7) (ro F7 T);have C_below:HX 2 "below" ["tree","number"] (iR CN):=fhX X G F8 a8 (fb2 F8) (tS F8 T C_by_number C_node_of C_numbers_inside);have C_walked:H 2 "walked" ["tree"] qo:=fh X G F9 a9 (fb1 F9) (ui F9 T C_by_number C_path_up);have C_walked_nodes:H 3 "walked_nodes" ["tree"] uk:=fh X G F10 a10 (fb1 F10) (vc F10 C_by_number C_walked);have C_named:H 1 "named" ["tree","name"] dB:=fh X G F11 a11 (fb2 F11) (qk F11);have C_files_of:H 1 "files_of" ["tree"] nh:=fh X G F12 a12 (fb1 F12) (ud F12);have C_files_of_L:H 1 "files_of" ["tree"] lR:=fh X G F12 a12 (fb1 F12) (rM F12);have C_stamped:H 2 "stamped" ["tree","low","high"] iY:=fh X G F13 a13 (fb3 F13) (ue F13 C_files_of);have C_by_stamps:H 2 "by_stamps" ["tree"] li:=fh X G F14 a14 (fb1 F14) (ug F14 T C_files_of);have C_depth_of:H 3 "depth_of" ["tree","number"] iX:=fh X G F15 a15 (fb2 F15) (uc F15 T C_path_of);have C_children:H 4 "children" ["tree","number"] (iW PC):=fh X G F16 a16 (fb2 F16) (ua F16 kC T (codeHd_of_K KB eC) Bm C_by_number C_check_folder);have C_first_of:H 1 "first_of" ["numbers"] ul:=fh X G F17 a17 (fb1 F17) (vd F17);have C_first_of_kind:H 4 "first_of_kind" ["tree"] lj:=fh X G F18 a18 (fb1 F18) (ve F18 C_walked_nodes C_files_of_L C_first_of);have C__law_cell:H 1 "_law_cell" ["_law_script","_law_k"] (lS K):=fh X G F19 a19 (fb2 F19) (rO F19 T);have C__law_pick:H 2 "_law_pick" ["_law_script","_law_k","_law_many"] (fJ K):=fh X G F20 a20 (fb3 F20) (rP F20 T C__law_cell);have C__law_tree:H 3 "_law_tree" ["_law_script","_law_at","_law_most"] (gu K):=fh X G F21 a21 (fb3 F21) (qr F21 T C__law_pick);have C__law_book:H 1 "_law_book" ["_law_tree_here"] jC:=fh X G F22 a22 (fb1 F22) (rn F22 T);have C__law_path:H 1 "_law_path" ["_law_book_here","_law_number"] lO:=fh X G F23 a23 (fb2 F23) (uV F23 T);exact⟨C__law_tree,C__law_book,C_named,C__law_pick,C_stamped,C_by_stamps,C_depth_of,C__law_path,C_find,C_path_of,C_children,C_below,C_first_of_kind⟩
 refine⟨d24,hb,λbase KB _ Bm=>?_⟩;obtain⟨C__law_tree,C__law_book,C_named,C__law_pick,C_stamped,C_by_stamps,C_depth_of,C__law_path,C_find,C_path_of,C_children,C_below,C_first_of_kind⟩:=all base KB Bm;exact uu F24 T C__law_tree C__law_book C_named C__law_pick C_stamped C_by_stamps C_depth_of C__law_path C_find C_path_of C_children C_below C_first_of_kind
theorem walk{l:PySem.W.OpenLaw}{q:Program}{loose:List Str}{XP:(Str→Option Value)→Heap→Prop}{YP:World→Heap→Prop}{d:DefRec}{K:Params→PySem.W.Frag}(PC:Addr)(hn:l.most=some 63)(hdf:d.params.defaults=[])(hY:∀(w:World) (h:Heap),YP w h→(K w.params).In h){ts:List Addr}(hT:∀(w:World) (h:Heap),YP w h→∀t∈ts,h.get? t=some (tabObj #[]))(mC:PC∈ts)(cC:Addr)(eC:∀w:World,codeHdIn (K w.params) cC PC=true)(nC:∀w:World,(K w.params).lookup PC=none)(F:∀(w:World) (mg:Str→Option Value) (fa:Addr) (h:Heap),(K w.params).In h→h.Ns mainGlobals mg→mg d.name=some (.ref fa) →
   ∃fd:FuncData,(∀(s:Shared) (u:Value),BindsTo s fd ⟨[u],[]⟩ [("_law_script",u)])∧∀base:Heap,(K w.params).In base→base.Ns mainGlobals mg→BmB base mg→FnOk l.prog w (K w.params) mg base CX0 6 fa fd ["_law_script"] (nu PC (K w.params))):
  PySem.W.WalkO q loose XP YP l.row.toRowW d [] (λf vs=>PySem.call f vs) :=
 L2.qi (tabs:=[PC]) (n:=63) (k:=6) (x:="_law_script") (sp:=λw=>nu PC (K w.params)) hn (by decide) hdf ⟨rfl,by decide,by decide⟩ hY
  (λw h Y=>List.forall_mem_cons.mpr ⟨hT w h Y _ mC,λ_ h=>nomatch h⟩)
  (λw=>List.forall_mem_cons.mpr ⟨⟨⟨cC,eC w⟩,nC w⟩,λ_ h=>nomatch h⟩)
  F (λw H a ns hl hS hT=>⟨a,ns,rfl,hS,hl,hT PC (by simp),λ_=>rfl⟩)
end TK
end
open PySem PySem.W PyProof.Rows
def PySem.W.Fast.tw9459291408290729349:Unit:=()
def PySem.W.Fast.tw8462186065093664035:Unit:=()
def PySem.W.Fast.tw3297838262035687695:Unit:=()
def PySem.W.Fast.tw5458174609651215873:Unit:=()
def PySem.W.Fast.tw13668923113242849684:Unit:=()
def PySem.W.Fast.tw14628077266203991256:Unit:=()
def PySem.W.Fast.tw2072105272655190593:Unit:=()
def PySem.W.Fast.tw16873304247416137859:Unit:=()
def PySem.W.Fast.tw6429616137206294526:Unit:=()
def PySem.W.Fast.tw1641309162407208822:Unit:=()
set_option maxRecDepth 100000 in
set_option maxHeartbeats 0 in
theorem PySem.Challenge.cw_treewatch_k03_whole_found_holds : PySem.Challenge.rw_treewatch_k03_whole_found.Holds := by
 w_on; o_law; k_head; (case hw=>w_witness2)
 k_fill
 refine TK.walk (l:=PySem.Challenge.rw_treewatch_k03_whole_found) 142 rfl rfl (λw h Y=>PySem.W.km_in_of Y) (λw h Y=>PySem.W.km_tabs_of Y) (by decide) 144 (λw=>by kernel_rfl) (λw=>by kernel_rfl) ?F
 case F =>
  intro w mg fa h KX G hmg
  refine' TK.uw KX G hmg ?a1 ?F1 ?a2 ?F2 ?a3 ?F3 ?a4 ?F4 ?a5 ?F5 ?a6 ?F6 ?a7 ?F7 ?a8 ?F8 ?a9 ?F9 ?a10 ?F10 ?a11 ?F11 ?a12 ?F12 ?a13 ?F13 ?a14 ?F14 ?a15 ?F15 ?a16 ?F16 ?a17 ?F17 ?a18 ?F18 ?a19 ?F19 ?a20 ?F20 ?a21 ?F21 ?a22 ?F22 ?a23 ?F23 ?a24 ?F24 ?z1 ?z2 ?z3 ?z4 ?z5 ?z6 ?z7 ?z8 ?z9 ?z10 ?z11 ?z12 ?z13 ?z14 ?z15 ?z16 ?z17 ?z18 ?z19 ?v1t ?kC ?eC ?xN ?qN
  (case a1|a2|a3|a4|a5|a6|a7|a8|a9|a10|a11|a12|a13|a14|a15|a16|a17|a18|a19|a20|a21|a22|a23|a24=>unfold TK.gA; k_is)
  (case F1|F2|F3|F4|F5|F6|F7|F8|F9|F10|F11|F12|F13|F14|F15|F16|F17|F18|F19|F20|F21|F22|F23|F24=>apply L2.sP <;> k_is)
  (case z1|z2|z3|z4|z5|z6|z7|z8|z9|z10|z11|z12|z13|z14|z15|z16|z17|z18|z19=>unfold TK.gN; k_is)
  (case v1t=>k_is)
  (case kC=>exact rfl)
  (case eC=>kernel_rfl)
  (case xN=>k_is)
  (case qN=>k_exc)
