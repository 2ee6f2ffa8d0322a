import PyProof.Rows.All
import Wide.All
import OpenK.AllK
import Wide.FinOn
import Lean
import PyProof.EqAt
import PyProof.EqKinds
import PyProof.TupleCall
import PyProof.CompFree
import PySem.SetTable
import PyProof.SetScanFacts
import PyProof.TupleKey
import PyProof.SetKind
import PyProof.IsRules
import PyProof.SetRoads
import PyProof.InstSpecial
import PyProof.Rows.SetFrom
import KE.KSortTup
import PyProof.StrWalks
import PyProof.EnumMake
import PyProof.ConsumeWalk
import PyProof.ListRange
import PyProof.NeKinds
import PyProof.ZipIter
import KE.KTryDeep
import OpenK.KOwn
import PyProof.RulesAs
import PyProof.NsDelKeeps
import PyProof.ExcArgsOwn
import PyProof.ExcAttrAll.ValueError
import KE.KIsAll
import OpenK.KNot
import PyProof.IsiH_list
import PyProof.Rows.FStr
import KE.KDictOf
import PyProof.AttrMissHeap
import PyProof.DictIter
import PyProof.DictWalks
import PyProof.Rows.DictUnroll
import KE.KRevIter
import KE.KDictList
import PyProof.CollectIter
import PyProof.TupleOfGen
import KE.KSortKey
import PyProof.FactsAll.NoneType_1
import PyProof.CompUse
import PyProof.Rows.FStrParts
import KE.KLam
import KE.KMinKey
import PyProof.CallType
import PyProof.WalksEnum
import PyProof.Rows.EnumRows
import PyProof.DictDisplay
import KE.KItemsList
import PySem.Challenge.RW_treewatch_k61_whole_itself_again
set_option Elab.async false
set_option linter.all false
set_option maxRecDepth 100000
set_option maxHeartbeats 8000000
open PySem.W (methodObj keepIn fnOf codeIn kat_cons kat_yes KatTups kat_kind kat_lt kat_no kat_lt_int Looks KdlSrc nsIn mg_of mg_none_of)
open PyProof.Rows (boot_tuple lt_str boot_dict boot_sorted boot_max boot_list)
open PySem.F (slot_dict_get entry_dict_get plainAttrs_dict type_dict_get slot_dict_keyiterator_next plain_list_iadd plain_extend_loop called_tuple plainAttrs_list entry_max_loop plain_max_loop slot_dict_items slot_list_pop type_list_pop)
open List (mem_filter mem_range mem_cons_self mem_cons_of_mem mem_cons mem_append mem_append_left getElem_inj mem_filterMap mem_append_right append_nil nodup_cons of_mem_zip length length_take getElem?_append_left getElem?_map take_sublist mem_of_getElem? length_append length_map size_toArray length_drop map_nil map_cons length_singleton find?_cons any_cons length_cons length_nil Pairwise forIn_cons forIn_nil all_eq_true pairwise_iff_getElem pairwise_cons mem_iff_getElem filterMap_cons_none filterMap_cons_some length_range nodup_range append_assoc mem_map map_map toArray find?_some any_map any_eq_true range' length_eq_zero_iff getD_eq_getElem?_getD getElem?_eq_getElem getElem_mem ext_getElem? getElem?_eq_none map_congr_left not_mem_nil take_succ getElem_map nodup_nil map_append take_length not_lt zip_cons_cons length_filter_le filter_append Nodup pairwise_map Sublist eraseIdx_sublist nodup_append map_id mem_singleton filter_map filter_congr getElem?_inj take_zero filter_cons lookup_cons mem_iff_getElem? length_zip getElem?_zip_eq_some mem_flatMap)
open Nat (lt_of_lt_of_le lt_irrefl ne_of_lt le_trans le_of_lt ne_of_gt le_refl zero_le le_succ lt_trans lt_of_le_of_lt lt_succ_of_lt zero_add mod_lt le_add_right)
open Array (length_toList toList getElem?_toList getD_eq_getD_getElem? toList_inj replicate size_map toList_push isEmpty)
open Option (map_some isSome_map)
open Bool (and_eq_true or_eq_true false_eq_true)
open Int (emod_nonneg toNat_natCast toNat lt_asymm)
open PySem.Heap (lt_size SameBut get?_push_of_some get?_push_size get?_update_other size_push get?_update_self get?_update_ne ExtBut)
open PySem.Calls (spliced_nil spliced_cons callWith_builtin evalArgs_plain)
open PySem.SeqAt (EqAt eq_listAt RcNeAt)
open PySem (boot_len)
open PySem.Str (ofString)
open Ne (symm)
noncomputable section
namespace L2
open PySem PySem.Spec PyProof.Rows
abbrev Key:=Sum Int Str
def fA:Key→Value→Bool
 |.inl k,v=>Value.isInt k v
 |.inr x,v=>Value.isStrOf x v
def uD(w:World):Key→Int
 |.inl k=>hashInt k
 |.inr x=>hashStr w x
theorem aB:∀{k:Key}{v:Value},fA k v=true→(∃i t,k=Sum.inl i∧v=Value.int i t)∨(∃x t,k=Sum.inr x∧v=Value.str x t)
 |.inl i,v,h=>by
  obtain⟨t,e⟩:=Value.isInt_shape (k:=i) (v:=v) h;exact .inl ⟨i,t,rfl,e⟩
 |.inr x,v,h=>by
  obtain⟨t,e⟩:=Value.isStrOf_shape (x:=x) (v:=v) h;exact .inr ⟨x,t,rfl,e⟩
theorem lU(i:Int)(t:Tok):fA (.inl i) (.int i t)=true:=by simp[fA,Value.isInt]
theorem lV(x:Str)(t:Tok):fA (.inr x) (.str x t)=true:=by simp[fA,Value.isStrOf]
theorem rC(a b:Int):decide ((Sum.inl a:Key)=Sum.inl b)=(a==b):=by
 by_cases e:a=b
 ·subst e;simp
 ·have h:¬(Sum.inl a:Key)=Sum.inl b:=λq=>e (Sum.inl.inj q);rw[decide_eq_false h];exact(beq_eq_false_iff_ne.mpr e).symm
theorem rD(a b:Str):decide ((Sum.inr a:Key)=Sum.inr b)=decide (a=b):=by
 by_cases e:a=b
 ·subst e;simp
 ·have h:¬(Sum.inr a:Key)=Sum.inr b:=λq=>e (Sum.inr.inj q);rw[decide_eq_false h,decide_eq_false e]
theorem rE(a:Int)(b:Str):decide ((Sum.inl a:Key)=Sum.inr b)=false:=decide_eq_false (λq=>nomatch q)
theorem rF(a:Str)(b:Int):decide ((Sum.inr a:Key)=Sum.inl b)=false:=decide_eq_false (λq=>nomatch q)
def ak(prog:Program)(w:World):PySem.KeyKind prog w Key where
 is:=fA
 hash:=uD w
 inj:=λv a b ha hb=>by
  rcases aB ha with⟨i,t,rfl,rfl⟩|⟨x,t,rfl,rfl⟩
  ·rcases aB hb with⟨j,u,rfl,e⟩|⟨y,u,rfl,e⟩
   ·injection e with e1 _;rw[e1]
   ·exact nomatch e
  ·rcases aB hb with⟨j,u,rfl,e⟩|⟨y,u,rfl,e⟩
   ·exact nomatch e
   ·injection e with e1 _;rw[e1]
 byValue:=λk v h=>by
  rcases aB h with⟨i,t,rfl,rfl⟩|⟨x,t,rfl,rfl⟩<;>rfl
 pyHash:=λhv h=>by
  rcases aB hv with⟨i,t,rfl,rfl⟩|⟨x,t,rfl,rfl⟩
  ·exact wpAny_pyHash_int h
  ·exact wpAny_pyHash_str h
 eqBool:=λhu hv h=>by
  rcases aB hu with⟨i,t,rfl,rfl⟩|⟨x,t,rfl,rfl⟩
  ·rcases aB hv with⟨j,u,rfl,rfl⟩|⟨y,u,rfl,rfl⟩
   ·rw[rC]at h;exact wpAny_eqBool_int h
   ·rw[rE]at h;exact EqAt.int_str i t y u _ _ _ _ h
  ·rcases aB hv with⟨j,u,rfl,rfl⟩|⟨y,u,rfl,rfl⟩
   ·rw[rF]at h;exact EqAt.str_int x t j u _ _ _ _ h
   ·rw[rD]at h;exact wpAny_eqBool_str h
 «strs»:=λk x t v h=>by
  rcases aB h with⟨i,u,rfl,e⟩|⟨y,u,rfl,e⟩
  ·exact nomatch e
  ·injection e with e1 _
   subst e1;cases v<;>rfl
theorem iR(prog:Program)(w:World)(i:Int)(t:Tok):(ak prog w).is (.inl i) (.int i t)=true:=lU i t
theorem iS(prog:Program)(w:World)(x:Str)(t:Tok):(ak prog w).is (.inr x) (.str x t)=true:=lV x t
inductive V where
 |non|bl (b:Bool)|int (i:Int)|str (x:Str)|byt (b:Array UInt8)|flt (b:UInt64)|ref (a:Addr)|ty (n:String)
 deriving DecidableEq
def av:V→Value→Prop
 |.non,u=>u=Value.none
 |.bl b,u=>u=Value.bool b
 |.int i,u=>∃t,u=Value.int i t
 |.str x,u=>∃t,u=Value.str x t
 |.byt b,u=>∃t,u=Value.bytes b t
 |.flt b,u=>∃t,u=Value.float b t
 |.ref a,u=>u=Value.ref a
 |.ty n,u=>u=Value.type n
abbrev aq:List V→List Value→Prop:=Paired av
theorem aq.length{xs:List V}{us:List Value}(r:aq xs us):xs.length=us.length:=Paired.length r
theorem aq.get:∀{xs:List V}{us:List Value}{i:Nat}{x:V},aq xs us→xs[i]?=some x→∃u,us[i]?=some u∧av x u
 |_,_,_,_,.nil,e=>by simp at e
 |_,_,0,_,.cons r _,e=>by simp at e;subst e;exact⟨_,rfl,r⟩
 |_,_,i+1,x,.cons _ t,e=>by
  obtain⟨u,h1,h2⟩:=aq.get (i:=i) (x:=x) t (by simpa using e);exact⟨u,by simpa using h1,h2⟩
theorem aq.append:∀{xs ys:List V}{us ws:List Value},aq xs us→aq ys ws→aq (xs++ys) (us++ws)
 |_,_,_,_,.nil,s=>s
 |_,_,_,_,.cons r t,s=>.cons r (aq.append t s)
theorem aq.take:∀{xs:List V}{us:List Value}(n:Nat),aq xs us→aq (xs.take n) (us.take n)
 |_,_,0,_=>.nil
 |_,_,_+1,.nil=>.nil
 |_,_,n+1,.cons r t=>.cons r (aq.take n t)
theorem aq.drop:∀{xs:List V}{us:List Value}(n:Nat),aq xs us→aq (xs.drop n) (us.drop n)
 |_,_,0,r=>r
 |_,_,_+1,.nil=>.nil
 |_,_,n+1,.cons _ t=>aq.drop n t
def fj:Option V→Option Value→Prop
 |some v,some u=>av v u
 |none,none=>True
 |_,_=>False
def KV{κ:Type}:List (κ×V)→List (κ×Value)→Prop:=Paired λ(p:κ×V) (q:κ×Value)=>p.1=q.1∧av p.2 q.2
def kV:Key→V
 |.inl i=>.int i
 |.inr x=>.str x
inductive HO where
 |lst (xs:List V)
 |tup (xs:List V)
 |dK (kvs:List (Key×V))|dT (kvs:List (List Key×V))
 |set (S:Int→Bool) (n:Nat)
 |ins (C dx:Addr) (fs:List (Str×V))
 |own (x:Addr)
 |xd (fs:List (Str×V))
 |met (f x:Addr)
 |rng (lo hi:Int)
 |frz (o:Obj) (u:HO)
 |tbl (ps:Array Value)
 |ext (φ:Heap→Prop)
abbrev Hp:=Addr→Option HO
def upd(H:Hp)(a:Addr)(o:HO):Hp:=λb=>if b=a then some o else H b
theorem ac{H:Hp}{a:Addr}{o:HO}:upd H a o a=some o:=by unfold upd;rw[if_pos rfl]
theorem ag{H:Hp}{a b:Addr}{o:HO}(h:b≠a):upd H a o b=H b:=by unfold upd;rw[if_neg h]
theorem tI{H:Hp}{a b:Addr}{o u:HO}(h:H a=some o)(h':H b=some u)(d:o≠u):a≠b:=by
 intro e;subst e;rw[h]at h';exact d (Option.some.inj h')
theorem aY{H:Hp}{a b:Addr}{o:HO}(h:H a=some o)(h':H b=none):a≠b:=by
 intro e;subst e;rw[h]at h';cases h'
section
variable(P:Program)(w:World)
def aT(H:Hp)(h:Heap)(a:Addr):HO→Prop
 |.lst xs=>xs.length≤sizeLine∧∃(its:List Value) (n:Nat),aq xs its∧h.get? a=some {cls:=.type "list",data:=.seq its.toArray n}
 |.tup xs=>xs.length≤sizeLine∧∃its:List Value,aq xs its∧IsTup h a its.toArray
 |.dK kvs=>kvs.length≤sizeLine∧(a==sysModules)=false∧∃vs,KV kvs vs∧h.DictOf (ak P w) a vs
 |.dT kvs=>kvs.length≤sizeLine∧(a==sysModules)=false∧∃xs:List (List Key×Addr×Value),
   Paired (λ(p:List Key×V) (q:List Key×Addr×Value)=>p.1=q.1∧H q.2.1=some (.tup (p.1.map kV))∧av p.2 q.2.2) kvs xs ∧
   ∃o es ep,h.get? a=some o∧o.ExactDict∧o.data=.dict es ep∧es.toList=xs.map (entryOfKey (tupleKind (ak P w)))∧(xs.map (·.1)).Nodup
 |.set S n=>h.SetOf (intKind P w) a S n
 |.ins C dx fs=>H dx=some (.own a)∧fs.length≤1000∧dx≠a∧h.get? a=some (PySem.W.instObj C dx) ∧
   ∃mA,h.Ns1 dx mA∧(∀f,fj (fs.lookup f) (mA f))∧PySem.Within mA (fs.map (·.1))
 |.own _=>∃o,h.get? a=some o
 |.xd fs=>∃mA,h.Ns1 a mA∧∀f,fj (fs.lookup f) (mA f)
 |.rng lo hi=>∃t u v,h.get? a=some {cls:=.type "range",data:=.fields #[.int lo t,.int hi u,.int 1 v]}
 |.frz o u=>h.get? a=some o∧aT H h a u
 |.tbl ps=>h.get? a=some {cls:=.none,data:=.fields ps}
 |.met f x=>h.get? a=some (methodObj (.ref f) (.ref x))
 |.ext φ=>φ h∧(∃o,h.get? a=some o)∧∀h1 h2:Heap,φ h1→(∀o,h1.get? a=some o→h2.get? a=some o)→φ h2
def HOk(H:Hp)(h:Heap):Prop:=∀a o,H a=some o→aT P w H h a o
end
section
variable{P:Program}{w:World}{H H':Hp}{h h':Heap}{a:Addr}{o:HO}
theorem aT.lt(x:aT P w H h a o):a<h.objs.size:=by
 cases o with
 |lst xs=>obtain⟨_,_,_,_,e⟩:=x;exact lt_size e
 |tup xs=>obtain⟨_,_,_,p⟩:=x;exact p.lt
 |dK kvs=>obtain⟨_,_,_,_,o,_,_,e,_⟩:=x;exact lt_size e
 |dT kvs=>obtain⟨_,_,_,_,o,_,_,e,_⟩:=x;exact lt_size e
 |set S n=>obtain⟨o,_,_,_,e,_⟩:=x;exact lt_size e
 |ins C dx fs=>obtain⟨_,_,_,e,_⟩:=x;exact lt_size e
 |own y=>obtain⟨_,e⟩:=x;exact lt_size e
 |xd fs=>obtain⟨_,⟨_,_,_,e,_⟩,_⟩:=x;exact lt_size e
 |rng lo hi=>obtain⟨_,_,_,e⟩:=x;exact lt_size e
 |frz ob u=>obtain⟨e,_⟩:=x;exact lt_size e
 |tbl ps=>exact lt_size (show h.get? a=some _ from x)
 |met f y=>exact lt_size (show h.get? a=some _ from x)
 |ext φ=>obtain⟨_,⟨_,e⟩,_⟩:=x;exact lt_size e
theorem Paired.mapP{α β:Type}{F G:α→β→Prop}:∀{l₁:List α}{l₂:List β},Paired F l₁ l₂→(∀a b,F a b→G a b)→Paired G l₁ l₂
 |_,_,.nil,_=>.nil
 |_,_,.cons r t,f=>.cons (f _ _ r) (Paired.mapP t f)
theorem aT.stay(x:aT P w H h a o)(k:∀b u,(b=a∨H b=some (.own a))→h.get? b=some u→h'.get? b=some u)(ho:∀b,H b=some (.own a)→H' b=some (.own a))(ht:∀b xs,H b=some (.tup xs)→H' b=some (.tup xs)):aT P w H' h' a o:=by
 induction o with
 |lst xs=>obtain⟨z,its,n,r,e⟩:=x;exact⟨z,its,n,r,k _ _ (.inl rfl) e⟩
 |tup xs=>obtain⟨z,its,r,ob,e,c⟩:=x;exact⟨z,its,r,ob,k _ _ (.inl rfl) e,c⟩
 |dK kvs=>obtain⟨z,y,vs,r,ob,es,ep,e,c⟩:=x;exact⟨z,y,vs,r,ob,es,ep,k _ _ (.inl rfl) e,c⟩
 |dT kvs =>
  obtain⟨z,y,xs,r,ob,es,ep,e,c⟩:=x;exact⟨z,y,xs,Paired.mapP r λp q z=>⟨z.1,ht _ _ z.2.1,z.2.2⟩,ob,es,ep,k _ _ (.inl rfl) e,c⟩
 |set S n=>obtain⟨ob,es,ep,t,e,c⟩:=x;exact⟨ob,es,ep,t,k _ _ (.inl rfl) e,c⟩
 |ins C dx fs =>
  obtain⟨d,z,ne,e,mA,⟨od,es,ep,e2,c⟩,r⟩:=x;exact⟨ho _ d,z,ne,k _ _ (.inl rfl) e,mA,⟨od,es,ep,k _ _ (.inr d) e2,c⟩,r⟩
 |own y=>obtain⟨ob,e⟩:=x;exact⟨ob,k _ _ (.inl rfl) e⟩
 |xd fs=>obtain⟨mA,⟨od,es,ep,e,c⟩,r⟩:=x;exact⟨mA,⟨od,es,ep,k _ _ (.inl rfl) e,c⟩,r⟩
 |rng lo hi=>obtain⟨t,u,v,e⟩:=x;exact⟨t,u,v,k _ _ (.inl rfl) e⟩
 |frz ob u ih=>obtain⟨e,q⟩:=x;exact⟨k _ _ (.inl rfl) e,ih q⟩
 |tbl ps =>
  have e:h.get? a=some {cls:=.none,data:=.fields ps}:=x;show h'.get? a=some {cls:=.none,data:=.fields ps};exact k a _ (.inl rfl) e
 |met f y =>
  have e:h.get? a=some (methodObj (.ref f) (.ref y)):=x;show h'.get? a=some (methodObj (.ref f) (.ref y));exact k a _ (.inl rfl) e
 |ext φ=>obtain⟨p,⟨o,e⟩,st⟩:=x;exact⟨st _ _ p λo q=>k _ _ (.inl rfl) q,⟨o,k _ _ (.inl rfl) e⟩,st⟩
theorem HOk.lt(x:HOk P w H h)(e:H a=some o):a<h.objs.size:=(x a o e).lt
theorem HOk.fresh(x:HOk P w H h)(e:h.objs.size≤a):H a=none:=by
 cases q:H a with
 |none=>rfl
 |some u=>exact absurd (lt_of_lt_of_le (x.lt q) e) (lt_irrefl _)
theorem HOk.kept(x:HOk P w H h)(k:∀b u,h.get? b=some u→h'.get? b=some u):HOk P w H h':=λa o e =>
 (x a o e).stay (λb u _ q=>k b u q) (λ_ q=>q) λ_ _ q=>q
theorem HOk.laid(x:HOk P w H h)(k:∀b u,h.get? b=some u→h'.get? b=some u)(hp:h.objs.size≤a)(new:aT P w (upd H a o) h' a o):HOk P w (upd H a o) h':=λb u e=>by
 have hn:=x.fresh hp
 by_cases hb:b=a
 ·subst hb;rw[ac]at e;cases e;exact new
 ·rw[ag hb]at e;exact(x b u e).stay (λc v _ q=>k c v q) (λc q=>by rw[ag (aY q hn)];exact q) λc xs q=>by rw[ag (aY q hn)];exact q
end
def Rd(H:Hp)(a:Addr)(u:HO):Prop:=H a=some u∨∃o,H a=some (.frz o u)
theorem Rd.ok{P:Program}{w:World}{H:Hp}{h:Heap}{a:Addr}{u:HO}(r:Rd H a u)(x:HOk P w H h):aT P w H h a u:=by
 rcases r with r|⟨o,r⟩
 ·exact x a u r
 ·obtain⟨_,q⟩:=x a _ r;exact q
def Mut:Option HO→Prop
 |some (.lst _)=>True
 |some (.dK _)=>True
 |some (.dT _)=>True
 |some (.set _ _)=>True
 |some (.ins _ _ _)=>True
 |some (.ext _)=>True
 |_=>False
section
variable{P:Program}{w:World}{H:Hp}{h h':Heap}{x e:Addr}{o':HO}
theorem HOk.write(ok:HOk P w H h)(mu:Mut (H x))(he:e=x∨H e=some (.own x))(k:∀b u,b≠e→h.get? b=some u→h'.get? b=some u)(heo:∃u,h'.get? e=some u)(new:aT P w (upd H x o') h' x o'):HOk P w (upd H x o') h':=λb u q=>by
 have nown:∀c y,H c=some (.own y)→c≠x:=λc y r z=>by subst z;rw[r]at mu;exact mu
 have ntup:∀c xs,H c=some (.tup xs)→c≠x:=λc xs r z=>by subst z;rw[r]at mu;exact mu
 by_cases hb:b=x
 ·subst hb;rw[ac]at q;cases q;exact new
 ·rw[ag hb]at q
  by_cases hbe:b=e
  ·have q':H b=some (.own x):=by
    rcases he with z|z
    ·exact absurd (hbe.trans z) hb
    ·rw[hbe];exact z
   rw[q]at q';cases q';obtain⟨v,hv⟩:=heo;exact⟨v,by rw[hbe];exact hv⟩
  ·refine(ok b u q).stay (λc v hc r=>k c v ?_ r) (λc r=>by rw[ag (nown c b r)];exact r) λc xs r=>by rw[ag (ntup c xs r)];exact r
   rcases hc with rfl|hc
   ·exact hbe
   ·rintro rfl;rcases he with z|z
    ·exact nown c b hc z
    ·rw[hc]at z;cases z;exact hb rfl
end
structure Un(fs ex:List Addr)(H H':Hp)(h h':Heap):Prop where
 keep:∀b o,h.get? b=some o→H b=none→b∉fs→b∉ex→h'.get? b=some o
 slot:∀b o,h.get? b=some o→H b=none→b∈fs→b∉ex→∃sl,h'.get? b=some {o with slots:=sl}
 free:∀b o,h.get? b=some o→H b=none→b∉ex→H' b=none
 there:∀b o,h.get? b=some o→b∉ex→∃o',h'.get? b=some o'
 tups:∀b xs,H b=some (.tup xs)→H' b=some (.tup xs)
 frzs:∀b o u,H b=some (.frz o u)→H' b=some (.frz o u)
 tbls:∀b ps,H b=some (.tbl ps)→∃more,H' b=some (.tbl (ps++more))
section
variable{fs fs' ex ex':List Addr}{H H1 H2:Hp}{h h1 h2 h':Heap}{a x e:Addr}{o:HO}
theorem Un.any(u:Un fs ex H H1 h h1){b:Addr}{ob:Obj}(q:h.get? b=some ob)(n:H b=none)(hx:b∉ex):∃sl,h1.get? b=some {ob with slots:=sl}:=by
 by_cases hb:b∈fs
 ·exact u.slot b ob q n hb hx
 ·exact⟨ob.slots,u.keep b ob q n hb hx⟩
theorem Un.kept(k:∀b u,h.get? b=some u→h'.get? b=some u):Un fs ex H H h h' :=
 ⟨λb ob q _ _ _=>k b ob q,λb ob q _ _ _=>⟨ob.slots,k b ob q⟩,λ_ _ _ n _=>n,λb ob q _=>⟨ob,k b ob q⟩,λ_ _ q=>q,λ_ _ _ q=>q,λ_ ps q=>⟨#[],by rw[q];simp⟩⟩
theorem Un.refl:Un fs ex H H h h:=Un.kept λ_ _ q=>q
theorem Un.laid(k:∀b u,h.get? b=some u→h'.get? b=some u)(hp:h.objs.size≤a)(hn:H a=none):Un fs ex H (upd H a o) h h' where
 keep:=λb u q _ _ _=>k b u q
 slot:=λb u q _ _ _=>⟨u.slots,k b u q⟩
 free:=λb u q n _=>by rw[ag (ne_of_lt (lt_of_lt_of_le (lt_size q) hp))];exact n
 there:=λb u q _=>⟨u,k b u q⟩
 tups:=λb xs q=>by rw[ag (aY q hn)];exact q
 frzs:=λb u xs q=>by rw[ag (aY q hn)];exact q
 tbls:=λb ps q=>⟨#[],by rw[ag (aY q hn),q];simp⟩
theorem Un.write(mu:Mut (H x))(he:e=x∨H e=some (.own x))(k:∀b u,b≠e→h.get? b=some u→h'.get? b=some u)(heo:∃u,h'.get? e=some u):Un fs ex H (upd H x o) h h':=by
 have hx:∀b,H b=none→b≠x:=λb n z=>by subst z;rw[n]at mu;exact mu
 have hb:∀b,H b=none→b≠e:=λb n z=>by
  subst z;rcases he with r|r
  ·exact hx b n r
  ·rw[n]at r;cases r
 have hm:∀b u,H b=some u→¬Mut (some u)→b≠x:=λb u q nm z=>by subst z;rw[q]at mu;exact nm mu
 refine⟨λb u q n _ _=>k b u (hb b n) q,λb u q n _ _=>⟨u.slots,k b u (hb b n) q⟩,λb u q n _=>by rw[ag (hx b n)];exact n,λb u q _=>?_,
  λb xs q=>by rw[ag (hm b _ q λz=>z)];exact q,λb u xs q=>by rw[ag (hm b _ q λz=>z)];exact q,λb ps q=>⟨#[],by rw[ag (hm b _ q λz=>z),q];simp⟩⟩
 by_cases hbe:b=e
 ·subst hbe;exact heo
 ·exact⟨u,k b u hbe q⟩
end
def trk(h:Heap)(H:Hp):List Addr:=(List.range h.objs.size).filter λa=>(H a).isSome
def im(h:Heap)(H:Hp):Heap:=PySem.W.hideAll h (trk h H)
theorem lW(h:Heap)(H:Hp):(im h H).objs.size=h.objs.size:=PySem.W.hideAll_size _ _
theorem nw{h:Heap}{H:Hp}{b:Addr}{o:Obj}(e:h.get? b=some o)(n:H b=none):(im h H).get? b=some o :=
 PySem.W.hideAll_get _ e λhm=>by
  have q:(H b).isSome=true:=(mem_filter.mp hm).2;rw[n]at q;simp at q
theorem pP{h:Heap}{H:Hp}{b:Addr}{o:Obj}(e:(im h H).get? b=some o):h.get? b=some o∧H b=none:=by
 have e':h.get? b=some o:=PySem.W.of_hideAll (trk h H) e;refine⟨e',?_⟩;cases q:H b with
 |none=>rfl
 |some x =>
  have hm:b∈trk h H:=mem_filter.mpr ⟨mem_range.mpr (lt_size e'),by simp[q]⟩;have z:(im h H).get? b=none:=PySem.W.hideAll_none (trk h H) hm;rw[z]at e;cases e
structure Mod(K:PySem.W.Frag)(mg:Str→Option Value)(base:Heap):Prop where
 kin:K.In base
 glob:base.Ns mainGlobals mg
 blt:∃mb,base.Ns builtinsNs mb∧∀x:Str,x≠"__name__"→mb x=bootBuiltins x
 nolimit:base.NoLimit
structure Cx where
 prog:Program
 w:World
 K:PySem.W.Frag
 mg:Str→Option Value
 base:Heap
 A:Around
 N:List Str
 s₀:Shared
 H₀:Hp
 env:Env
 outer:List Env
 stack:List Env
 ex:List Addr
 fn:Str→Bool
 calm:Bool
 pn:List (Addr×Obj)
 xe:Value→Shared→Prop
def frs(l:List Env):List Addr:=l.filterMap (·.frame)
abbrev Cx.fs(X:Cx):List Addr:=frs X.outer
def Vis(sc:Scope)(x:Str):Prop:=sc.names.lookup x=some .local∨sc.names.lookup x=some .cell∨sc.names.lookup x=some .free
def Loc(sc:Scope)(x:Str):Prop:=sc.names.lookup x=some .local∨sc.names.lookup x=some .cell
def uE(env:Env)(h:Heap)(m:Str→Option Value)(x:Str)(u:Value):Prop :=
 (env.kindOf x=some .local∧m x=some u)∨((env.kindOf x=some .cell∨env.kindOf x=some .free)∧∃c,env.cells.lookup x=some c∧h.IsCell c (some u))
structure Cx.Ok(X:Cx):Prop where
 mod:Mod X.K X.mg X.base
 kind:X.env.scope.kind=.function
 glob:X.env.globals=mainGlobals
 blt:X.env.builtins=builtinsNs
 above:X.s₀.heap.objs.size≤X.env.locals
 inj:∀x y c,X.env.cells.lookup x=some c→X.env.cells.lookup y=some c→x=y
 has:∀x,(X.env.kindOf x=some .cell∨X.env.kindOf x=some .free)→∃c,X.env.cells.lookup x=some c
 cab:∀x c,X.fn x=true→X.env.cells.lookup x=some c→X.s₀.heap.objs.size≤c
 hd:X.calm=true→X.A.handled=none
 frames:X.A.frames=some X.stack
 stk:X.stack=X.outer∨(X.stack=X.env::X.outer∧X.env.frame=some X.env.locals)
 exf:∀b∈X.ex,b≠X.env.locals∧∀x c,X.env.cells.lookup x=some c→c≠b
 bs:∀b o,X.base.get? b=some o→X.s₀.heap.get? b=some o∧X.H₀ b=none
 bsz:X.base.objs.size≤X.s₀.heap.objs.size
 noex:∀b o,X.base.get? b=some o→b∉X.ex
 exfs:∀b∈X.ex,b∉X.fs
 funs:X.s₀.heap.FunFrames X.base X.outer
 frf:∀b∈X.fs,X.H₀ b=none
structure Inv(X:Cx)(pins:List (Addr×Obj))(σ:List (Option V))(H:Hp)(s:Shared):Prop where
 ok:X.Ok
 os:s.os=X.s₀.os
 bare:AllBare s.gens
 base:Un X.fs X.ex X.H₀ H X.s₀.heap s.heap
 loc:∃m,s.heap.Ns X.env.locals m∧∀(i:Nat)(x:Str)(v:V),X.N[i]?=some x→σ[i]?=some (some v)→Vis X.env.scope x→∃u,av v u∧uE X.env s.heap m x u
 cell:∀x c,X.env.cells.lookup x=some c→∃v,s.heap.IsCell c v
 free:H X.env.locals=none
 freeC:∀x c,X.env.cells.lookup x=some c→H c=none
 pin:∀p∈X.pn++pins,s.heap.get? p.1=some p.2∧H p.1=none∧p.1≠X.env.locals∧p.1∉X.fs∧∀v,p.2.data≠.cell v
 hok:HOk X.prog X.w H s.heap
 len:σ.length=X.N.length
section
variable{X:Cx}{pins:List (Addr×Obj)}{σ:List (Option V)}{H H':Hp}{s:Shared}{h':Heap}
theorem Cx.Ok.nofr(ok:X.Ok){b:Addr}{o:Obj}(e:X.base.get? b=some o):b∉X.fs:=λhb=>by
 have:=(ok.funs.mem hb).1;rw[e]at this;cases this
theorem Inv.bs(I:Inv X pins σ H s):∀b o,X.base.get? b=some o→s.heap.get? b=some o∧H b=none:=λb o e =>
 ⟨I.base.keep b o (I.ok.bs b o e).1 (I.ok.bs b o e).2 (I.ok.nofr e) (I.ok.noex b o e),I.base.free b o (I.ok.bs b o e).1 (I.ok.bs b o e).2 (I.ok.noex b o e)⟩
theorem Inv.bk(I:Inv X pins σ H s):∀b o,X.base.get? b=some o→s.heap.get? b=some o:=λb o e=>(I.bs b o e).1
theorem Inv.mod(I:Inv X pins σ H s):Mod X.K X.mg X.base:=I.ok.mod
theorem Inv.kIn(I:Inv X pins σ H s):X.K.In s.heap:=I.ok.mod.kin.keeps I.bk
theorem Inv.lt(I:Inv X pins σ H s):X.env.locals<s.heap.objs.size:=let⟨_,hn,_⟩:=I.loc;hn.lt
theorem Inv.sz(I:Inv X pins σ H s):X.s₀.heap.objs.size≤s.heap.objs.size:=le_trans I.ok.above (le_of_lt I.lt)
theorem Inv.nofs(I:Inv X pins σ H s){a:Addr}(h:s.heap.objs.size≤a):a∉X.fs:=λhb=>by
 obtain⟨_,o,ho,_⟩:=I.ok.funs.mem hb;exact absurd (lt_of_lt_of_le (lt_size ho) (le_trans I.sz h)) (lt_irrefl _)
theorem Inv.cne(I:Inv X pins σ H s):∀x c,X.env.cells.lookup x=some c→c≠X.env.locals:=λx c e z=>by
 obtain⟨v,o,ho,hd⟩:=I.cell x c e;obtain⟨m,⟨o',es,ep,ho',hd',_⟩,_⟩:=I.loc;rw[z,ho']at ho;cases ho;rw[hd']at hd;cases hd
theorem Inv.funs(I:Inv X pins σ H s):s.heap.FunFrames X.base X.outer:=by
 have all:∀(l:List Env),(∀b∈frs l,b∈X.fs)→X.s₀.heap.FunFrames X.base l→s.heap.FunFrames X.base l:=by
  intro l
  induction l with
  |nil=>intro _ _;trivial
  |cons env r ih =>
   intro hs hl;obtain⟨hk,⟨L,o,hf,hn,ho,hd⟩,hr⟩:=hl;have hL:L∈X.fs:=hs L (by unfold frs;rw[List.filterMap_cons,hf];exact mem_cons_self);obtain⟨sl,e⟩:=I.base.slot L o ho (I.ok.frf L hL) hL λz=>I.ok.exfs L z hL;exact⟨hk,⟨L,_,hf,hn,e,hd⟩,ih (λb hb=>hs b (by unfold frs;rw[List.filterMap_cons,hf];exact mem_cons_of_mem _ hb)) hr⟩
 exact all X.outer (λ_ hb=>hb) I.ok.funs
theorem Inv.stack(I:Inv X pins σ H s):s.heap.FunFrames X.base X.stack:=by
 rcases I.ok.stk with e|⟨e,hf⟩
 ·rw[e];exact I.funs
 ·rw[e];obtain⟨m,hn,_⟩:=I.loc;refine .cons (by rw[I.ok.kind];decide) hf hn ?_ I.funs;exact Heap.get?_none_of_le (le_trans I.ok.bsz I.ok.above)
theorem Inv.stkSub(I:Inv X pins σ H s):∀b∈frs X.stack,b∈X.env.locals::X.fs:=λb hb=>by
 rcases I.ok.stk with e|⟨e,hf⟩
 ·rw[e]at hb;exact mem_cons_of_mem _ hb
 ·rw[e]at hb;unfold frs at hb;rw[List.filterMap_cons,hf]at hb;exact hb
theorem Inv.stkFree(I:Inv X pins σ H s):∀b∈frs X.stack,H b=none:=λb hb=>by
 rcases mem_cons.mp (I.stkSub b hb)with e|hb
 ·rw[e];exact I.free
 ·obtain⟨_,o,ho,_⟩:=I.ok.funs.mem hb;exact I.base.free b o ho (I.ok.frf b hb) λz=>I.ok.exfs b z hb
theorem Inv.step{g':Array GenState}{t':Nat}{d':Drawn}{ch:List Addr}(I:Inv X pins σ H s)(hch:∀b∈ch,(b∈X.ex∨X.s₀.heap.objs.size≤b)∧b≠X.env.locals∧(∀x c,X.env.cells.lookup x=some c→c≠b)∧∀p∈X.pn++pins,p.1≠b)(keep:∀b o,b≠X.env.locals→b∉X.fs→b∉ch→s.heap.get? b=some o→H b=none→h'.get? b=some o)(slot:∀b o,b≠X.env.locals→b∈X.fs→b∉ch→s.heap.get? b=some o→H b=none→∃sl,h'.get? b=some {o with slots:=sl})(free:∀b o,b∉ch→s.heap.get? b=some o→H b=none→H' b=none)(there:∀b o,b∉ch→s.heap.get? b=some o→∃o',h'.get? b=some o')(tups:∀b xs,H b=some (.tup xs)→H' b=some (.tup xs))(frzs:∀b o u,H b=some (.frz o u)→H' b=some (.frz o u))(tbls:∀b ps,H b=some (.tbl ps)→∃more,H' b=some (.tbl (ps++more)))(ns:∀m,s.heap.Ns X.env.locals m→h'.Ns X.env.locals m)(hok:HOk X.prog X.w H' h')(hg:AllBare g'):
  Inv X pins σ H' {s with heap:=h',gens:=g',drawn:=d',toks:=t'}:=by
 have neL:∀b o,X.s₀.heap.get? b=some o→b≠X.env.locals:=λb o e=>ne_of_lt (lt_of_lt_of_le (lt_size e) I.ok.above);have neC:∀b o,X.s₀.heap.get? b=some o→b∉X.ex→b∉ch:=λb o e hx hb=>by
  rcases (hch b hb).1 with z|z
  ·exact hx z
  ·exact absurd (lt_of_lt_of_le (lt_size e) z) (lt_irrefl _)
 have cellK:∀x c,X.env.cells.lookup x=some c→∀v,s.heap.IsCell c v→h'.IsCell c v:=λx c e v ⟨o,ho,hd⟩=>by
  have nch:c∉ch:=λz=>(hch c z).2.2.1 x c e rfl
  by_cases hc:c∈X.fs
  ·obtain⟨sl,q⟩:=slot c o (I.cne x c e) hc nch ho (I.freeC x c e);exact⟨_,q,hd⟩
  ·exact⟨o,keep c o (I.cne x c e) hc nch ho (I.freeC x c e),hd⟩
 refine⟨I.ok,I.os,hg,⟨λb o e n hb hx=>?_,λb o e n hb hx=>?_,λb o e n hx=>?_,λb o e hx=>?_,λb xs e=>tups b xs (I.base.tups b xs e),λb o xs e=>frzs b o xs (I.base.frzs b o xs e),λb ps e=>?_⟩,?_,λx c e=>?_,?_,λx c e=>?_,λp hp=>?_,hok,I.len⟩
 ·exact keep b o (neL b o e) hb (neC b o e hx) (I.base.keep b o e n hb hx) (I.base.free b o e n hx)
 ·obtain⟨sl,e1⟩:=I.base.slot b o e n hb hx;obtain⟨sl',e2⟩:=slot b _ (neL b o e) hb (neC b o e hx) e1 (I.base.free b o e n hx);exact⟨sl',e2⟩
 ·obtain⟨o',e1⟩:=I.base.there b o e hx;exact free b o' (neC b o e hx) e1 (I.base.free b o e n hx)
 ·obtain⟨o',e1⟩:=I.base.there b o e hx;exact there b o' (neC b o e hx) e1
 ·obtain⟨m1,e1⟩:=I.base.tbls b ps e;obtain⟨m2,e2⟩:=tbls b _ e1;exact⟨m1++m2,by rw[e2,Array.append_assoc]⟩
 ·obtain⟨m,hn,hl⟩:=I.loc;refine⟨m,ns m hn,λi x v e1 e2 e3=>?_⟩;obtain⟨u,r,l⟩:=hl i x v e1 e2 e3;refine⟨u,r,?_⟩;rcases l with l|⟨k,c,e,z⟩
  ·exact .inl l
  ·exact .inr ⟨k,c,e,cellK x c e _ z⟩
 ·obtain⟨v,z⟩:=I.cell x c e;exact⟨v,cellK x c e v z⟩
 ·obtain⟨m,⟨o,_,_,ho,_⟩,_⟩:=I.loc;exact free _ o (λz=>(hch _ z).2.1 rfl) ho I.free
 ·obtain⟨v,o,ho,hd⟩:=I.cell x c e;exact free c o (λz=>(hch c z).2.2.1 x c e rfl) ho (I.freeC x c e)
 ·obtain⟨e,n,ne,nf,d⟩:=I.pin p hp;have nch:p.1∉ch:=λz=>(hch p.1 z).2.2.2 p hp rfl;exact⟨keep p.1 p.2 ne nf nch e n,free p.1 p.2 nch e n,ne,nf,d⟩
theorem Inv.un{t':Nat}(I:Inv X pins σ H s)(u:Un X.fs [] H H' s.heap h')(hok:HOk X.prog X.w H' h'):Inv X pins σ H' {s with heap:=h',toks:=t'}:=by
 obtain⟨m,⟨o,es,ep,ho,r⟩,_⟩:=id I.loc;obtain⟨sl,hL⟩:=u.any ho I.free (by simp);exact I.step (g':=s.gens) (d':=s.drawn) (ch:=[]) (λ_ z=>nomatch z) (λb o _ hb _ e n=>u.keep b o e n hb (by simp)) (λb o _ hb _ e n=>u.slot b o e n hb (by simp)) (λb o _ e n=>u.free b o e n (by simp)) (λb o _ e=>u.there b o e (by simp)) u.tups u.frzs u.tbls (λm' hm=>by
  obtain⟨o',es',ep',ho',r'⟩:=hm;rw[ho]at ho';cases ho';exact⟨_,es',ep',hL,r'⟩) hok I.bare
theorem Inv.call{g':Array GenState}{t':Nat}{d':Drawn}{ch:List Addr}(I:Inv X pins σ H s)(u:Un (frs X.stack) ch H H' s.heap h')(hok:HOk X.prog X.w H' h')(hg:AllBare g')(hch:∀b∈ch,(b∈X.ex∨X.s₀.heap.objs.size≤b)∧b≠X.env.locals∧(∀x c,X.env.cells.lookup x=some c→c≠b)∧∀p∈X.pn++pins,p.1≠b):
  Inv X pins σ H' {s with heap:=h',gens:=g',drawn:=d',toks:=t'}:=by
 obtain⟨m,⟨o,es,ep,ho,r⟩,_⟩:=id I.loc;obtain⟨sl,hL⟩:=u.any ho I.free λz=>(hch _ z).2.1 rfl;exact I.step (ch:=ch) hch (λb o hL hb hc e n=>u.keep b o e n (λz=>(mem_cons.mp (I.stkSub b z)).elim hL hb) hc) (λb o _ _ hc e n=>u.any e n hc) (λb o hc e n=>u.free b o e n hc) (λb o hc e=>u.there b o e hc) u.tups u.frzs u.tbls (λm' hm=>by
  obtain⟨o',es',ep',ho',r'⟩:=hm;rw[ho]at ho';cases ho';exact⟨_,es',ep',hL,r'⟩) hok hg
theorem Inv.turned{t':Nat}{it:Addr}(I:Inv X pins σ H s)(k:∀b o,b≠it→s.heap.get? b=some o→h'.get? b=some o)(hn:H it=none)(hL:it≠X.env.locals)(h1:it∈X.ex∨X.s₀.heap.objs.size≤it)(h2:∀x c,X.env.cells.lookup x=some c→c≠it)(h3:∀p∈X.pn++pins,p.1≠it):Inv X pins σ H {s with heap:=h',toks:=t'}:=by
 have nit:∀b u,H b=some u→b≠it:=λb u e z=>by rw[z,hn]at e;cases e
 refine I.step (g':=s.gens) (d':=s.drawn) (ch:=[it]) (λb hb=>?_) (λb o _ _ hc e _=>k b o (λz=>hc (by simp[z])) e) (λb o _ _ hc e _=>⟨o.slots,k b o (λz=>hc (by simp[z])) e⟩) (λ_ _ _ _ n=>n)
  (λb o hc e=>⟨o,k b o (λz=>hc (by simp[z])) e⟩) (λ_ _ e=>e) (λ_ _ _ e=>e) (λb ps e=>⟨#[],by rw[e];simp⟩) (λm hm=>?_) (λb u e=>?_) I.bare
 ·have e:b=it:=by simpa using hb
  subst e;exact⟨h1,hL,h2,h3⟩
 ·obtain⟨o,es,ep,ho,r⟩:=hm;exact⟨o,es,ep,k _ o (symm hL) ho,r⟩
 ·refine(I.hok b u e).stay (λc v hc q=>k c v ?_ q) (λ_ q=>q) λ_ _ q=>q;rcases hc with z|z
  ·rw[z];exact nit b u e
  ·exact nit c _ z
theorem Inv.tok(I:Inv X pins σ H s)(t:Nat):Inv X pins σ H {s with toks:=t}:=I.un (h':=s.heap) (t':=t) Un.refl I.hok
theorem Inv.kept{t':Nat}(I:Inv X pins σ H s)(k:∀b u,s.heap.get? b=some u→h'.get? b=some u):Inv X pins σ H {s with heap:=h',toks:=t'}:=I.un (Un.kept k) (I.hok.kept k)
theorem Inv.laid{a:Addr}{o:HO}{t':Nat}(I:Inv X pins σ H s)(k:∀b u,s.heap.get? b=some u→h'.get? b=some u)(hp:s.heap.objs.size≤a)(new:aT X.prog X.w (upd H a o) h' a o):
  Inv X pins σ (upd H a o) {s with heap:=h',toks:=t'}:=I.un (Un.laid k hp (I.hok.fresh hp)) (I.hok.laid k hp new)
theorem Inv.write{x e:Addr}{o:HO}{t':Nat}(I:Inv X pins σ H s)(mu:Mut (H x))(he:e=x∨H e=some (.own x))(k:∀b u,b≠e→s.heap.get? b=some u→h'.get? b=some u)(heo:∃u,h'.get? e=some u)(new:aT X.prog X.w (upd H x o) h' x o):Inv X pins σ (upd H x o) {s with heap:=h',toks:=t'}:=I.un (Un.write mu he k heo) (I.hok.write mu he k heo new)
theorem Inv.pins_of{pins':List (Addr×Obj)}(I:Inv X pins σ H s)(h:∀p∈pins',s.heap.get? p.1=some p.2∧H p.1=none∧p.1≠X.env.locals∧p.1∉X.fs∧∀v,p.2.data≠.cell v):Inv X pins' σ H s :=
 ⟨I.ok,I.os,I.bare,I.base,I.loc,I.cell,I.free,I.freeC,λp hp=>(mem_append.mp hp).elim (λz=>I.pin p (mem_append_left _ z)) (h p),I.hok,I.len⟩
theorem iT{N:List Str}(hN:N.Nodup){i j:Nat}{x:Str}(a:N[i]?=some x)(b:N[j]?=some x):i=j:=by
 obtain⟨h1,e1⟩:=List.getElem?_eq_some_iff.mp a;obtain⟨h2,e2⟩:=List.getElem?_eq_some_iff.mp b;exact(getElem_inj hN).mp (e1.trans e2.symm)
theorem lX{M:Model}{A:Around}{E:Value→Shared→Prop}{i:Nat}{x:Str}{v:V}{u:Value}{Q:Unit→Shared→Prop}(I:Inv X pins σ H s)(hN:X.N.Nodup)(hi:X.N[i]?=some x)(hx:Loc X.env.scope x)(r:av v u)(h:∀s',Inv X pins (σ.set i (some v)) H s'→(∃a,SameBut a s.heap s'.heap∧(a=X.env.locals∨X.env.cells.lookup x=some a))→Q () s')(hf:X.fn x=true∨X.env.scope.names.lookup x=some .local:=by first|exact .inl rfl|exact .inr rfl|assumption):wpAny M A (storeName X.env x u) Q E s:=by
 obtain⟨m,hn,hl⟩:=id I.loc;have hcls:(X.env.scope.kind==.class||(X.env.scope.kind==.module&&X.env.locals != X.env.globals))=false:=by rw[I.ok.kind];rfl
 have hiσ:i<σ.length:=by rw[I.len];exact(List.getElem?_eq_some_iff.mp hi).1
 have cne:=I.cne;have tracked:∀{a:Addr}{h':Heap},(∃o,s.heap.get? a=some o∧H a=none)→SameBut a s.heap h'→HOk X.prog X.w H h':=λ{a h'} ha hs b ob e=>by
  obtain⟨_,_,hfree⟩:=ha;refine(I.hok b ob e).stay (λc w' hc q=>(hs.2 c ?_).trans q) (λ_ q=>q) λ_ _ q=>q;rintro rfl;rcases hc with rfl|hc
  ·rw[hfree]at e;cases e
  ·rw[hfree]at hc;cases hc
 rcases hx with hk|hk
 ·refine wpAny_storeName_local hk hn (λh' hn' hs=>?_) hcls;obtain⟨oL,_,_,hoL,_⟩:=id hn;refine h _ ⟨I.ok,I.os,I.bare,⟨λb o e n hb hx=>?_,λb o e n hb hx=>?_,I.base.free,λb o e hx=>?_,I.base.tups,I.base.frzs,I.base.tbls⟩,⟨_,hn',λj y v' e1 e2 e3=>?_⟩,λy c e=>?_,I.free,I.freeC,λp hp=>?_,tracked ⟨oL,hoL,I.free⟩ hs,by simpa using I.len⟩ ⟨_,hs,.inl rfl⟩
  ·exact(hs.2 b (ne_of_lt (lt_of_lt_of_le (lt_size e) I.ok.above))).trans (I.base.keep b o e n hb hx)
  ·obtain⟨sl,e1⟩:=I.base.slot b o e n hb hx;exact⟨sl,(hs.2 b (ne_of_lt (lt_of_lt_of_le (lt_size e) I.ok.above))).trans e1⟩
  ·obtain⟨o',e1⟩:=I.base.there b o e hx;exact⟨o',(hs.2 b (ne_of_lt (lt_of_lt_of_le (lt_size e) I.ok.above))).trans e1⟩
  ·by_cases hj:j=i
   ·subst hj;rw[hi]at e1;cases e1;rw[List.getElem?_set_self hiσ]at e2;cases e2;exact⟨u,r,.inl ⟨hk,by simp⟩⟩
   ·rw[List.getElem?_set_ne (symm hj)]at e2;obtain⟨u',r',q⟩:=hl j y v' e1 e2 e3;refine⟨u',r',?_⟩;rcases q with⟨k,e⟩|⟨k,c,e,z⟩
    ·refine .inl ⟨k,?_⟩;have:y≠x:=λe=>hj (iT hN e1 (e ▸ hi));simp[this,e]
    ·exact .inr ⟨k,c,e,z.sameBut hs (cne y c e)⟩
  ·obtain⟨w',z⟩:=I.cell y c e;exact⟨w',z.sameBut hs (cne y c e)⟩
  ·obtain⟨e,n,ne,nf,d⟩:=I.pin p hp;exact⟨(hs.2 p.1 ne).trans e,n,ne,nf,d⟩
 ·have hfn:X.fn x=true:=by
   rcases hf with z|z
   ·exact z
   ·rw[z]at hk;cases hk
  obtain⟨c,hc⟩:=I.ok.has x (.inl hk);obtain⟨w',z⟩:=I.cell x c hc;refine wpAny_storeName_cell I.ok.kind hk hc z (λh' hc' hs=>?_);obtain⟨oc,hoc,hocd⟩:=id z;refine h {s with heap:=h'} ⟨I.ok,I.os,I.bare,⟨λb o e n hb hx=>?_,λb o e n hb hx=>?_,I.base.free,λb o e hx=>?_,I.base.tups,I.base.frzs,I.base.tbls⟩,⟨m,hn.sameBut hs (symm (cne x c hc)),λj y v' e1 e2 e3=>?_⟩,λy c' e=>?_,I.free,I.freeC,λp hp=>?_,tracked ⟨oc,hoc,I.freeC x c hc⟩ hs,by simpa using I.len⟩ ⟨c,hs,.inr hc⟩
  ·exact(hs.2 b (ne_of_lt (lt_of_lt_of_le (lt_size e) (I.ok.cab x c hfn hc)))).trans (I.base.keep b o e n hb hx)
  ·obtain⟨sl,e1⟩:=I.base.slot b o e n hb hx;exact⟨sl,(hs.2 b (ne_of_lt (lt_of_lt_of_le (lt_size e) (I.ok.cab x c hfn hc)))).trans e1⟩
  ·obtain⟨o',e1⟩:=I.base.there b o e hx;exact⟨o',(hs.2 b (ne_of_lt (lt_of_lt_of_le (lt_size e) (I.ok.cab x c hfn hc)))).trans e1⟩
  ·by_cases hj:j=i
   ·subst hj;rw[hi]at e1;cases e1;rw[List.getElem?_set_self hiσ]at e2;cases e2;exact⟨u,r,.inr ⟨.inl hk,c,hc,hc'⟩⟩
   ·rw[List.getElem?_set_ne (symm hj)]at e2;obtain⟨u',r',q⟩:=hl j y v' e1 e2 e3;refine⟨u',r',?_⟩;rcases q with q|⟨k,c',e,z'⟩
    ·exact .inl q
    ·refine .inr ⟨k,c',e,z'.sameBut hs ?_⟩;rintro rfl;exact hj (iT hN e1 (I.ok.inj _ _ _ e hc ▸ hi))
  ·by_cases hcc:c'=c
   ·subst hcc;exact⟨_,hc'⟩
   ·obtain⟨w2,z2⟩:=I.cell y c' e;exact⟨w2,z2.sameBut hs hcc⟩
  ·obtain⟨e,n,ne,nf,d⟩:=I.pin p hp;refine⟨(hs.2 p.1 ?_).trans e,n,ne,nf,d⟩;intro q;rw[q,hoc]at e;have q':oc=p.2:=Option.some.inj e;exact d w' (by rw[←q'];exact hocd)
theorem fD{M:Model}{A:Around}{E:Value→Shared→Prop}{i:Nat}{x:Str}{v:V}{u:Value}{Q:Unit→Shared→Prop}(I:Inv X pins σ H s)(hN:X.N.Nodup)(hi:X.N[i]?=some x)(hx:Loc X.env.scope x)(r:av v u)(h:∀s',Inv X pins (σ.set i (some v)) H s'→Q () s')(hf:X.fn x=true∨X.env.scope.names.lookup x=some .local:=by first|exact .inl rfl|exact .inr rfl|assumption):wpAny M A (storeName X.env x u) Q E s :=
 lX I hN hi hx r (λs' I' _=>h s' I') hf
theorem Inv.call'{s':Shared}{ch:List Addr}(I:Inv X pins σ H s)(ho:s'.os=s.os)(u:Un (frs X.stack) ch H H' s.heap s'.heap)(hok:HOk X.prog X.w H' s'.heap)(hg:AllBare s'.gens)(hch:∀b∈ch,(b∈X.ex∨X.s₀.heap.objs.size≤b)∧b≠X.env.locals∧(∀x c,X.env.cells.lookup x=some c→c≠b)∧∀p∈X.pn++pins,p.1≠b):Inv X pins σ H' s':=by
 obtain⟨h',g',d',t',o'⟩:=s';have e:o'=s.os:=ho;subst e;exact I.call (g':=g') (t':=t') (d':=d') u hok hg hch
end
abbrev XK:=Value→Option Addr→Hp→Prop
abbrev St:=List (Option V)
abbrev VK:=V→Hp→Prop
abbrev TE:=St→Hp→VK→Prop
abbrev TT:=St→Hp→(Bool→Hp→Prop)→Prop
abbrev TA:=St→Hp→(List V→Hp→Prop)→Prop
structure Ends where
 nx:St→Hp→Prop
 rt:VK
 bk:St→Hp→Prop:=λ_ _=>False
 ct:St→Hp→Prop:=λ_ _=>False
abbrev TS:=Ends→St→Hp→Prop
def EP(X:Cx)(pins:List (Addr×Obj))(σ:St)(Q:VK)(u:Value)(s':Shared):Prop:=∃v H',Inv X pins σ H' s'∧av v u∧Q v H'
def TP(X:Cx)(pins:List (Addr×Obj))(σ:St)(Q:Bool→Hp→Prop)(b:Bool)(s':Shared):Prop:=∃H',Inv X pins σ H' s'∧Q b H'
def AP(X:Cx)(pins:List (Addr×Obj))(σ:St)(Q:List V→Hp→Prop)(us:List Value)(s':Shared):Prop:=∃vs H',Inv X pins σ H' s'∧aq vs us∧Q vs H'
def SP(X:Cx)(pins:List (Addr×Obj))(D:Ends)(f:Flow)(s':Shared):Prop :=
 match f with
 |.next=>∃σ' H',Inv X pins σ' H' s'∧D.nx σ' H'
 |.brk=>∃σ' H',Inv X pins σ' H' s'∧D.bk σ' H'
 |.cont=>∃σ' H',Inv X pins σ' H' s'∧D.ct σ' H'
 |.ret u=>∃v σ' H',Inv X pins σ' H' s'∧av v u∧D.rt v H'
def PE(X:Cx)(e:Expr)(t:TE):Prop :=
 ∀(pins:List (Addr×Obj))(s:Shared)(σ:St)(H:Hp)(Q:VK),Inv X pins σ H s→t σ H Q→wpAny (model X.prog X.w) X.A (eval e X.env) (EP X pins σ Q) X.xe s
def PT(X:Cx)(e:Expr)(t:TT):Prop :=
 ∀(pins:List (Addr×Obj))(s:Shared)(σ:St)(H:Hp)(Q:Bool→Hp→Prop),Inv X pins σ H s→t σ H Q→wpAny (model X.prog X.w) X.A (isTrue e X.env (eval e X.env)) (TP X pins σ Q) X.xe s
def PW(X:Cx)(e:Expr)(t:TT):Prop :=
 ∀(whole:Sem Value)(pins:List (Addr×Obj))(s:Shared)(σ:St)(H:Hp)(Q:Bool→Hp→Prop),Inv X pins σ H s→t σ H Q→wpAny (model X.prog X.w) X.A (isTrue e X.env whole) (TP X pins σ Q) X.xe s
theorem PW.pt{X:Cx}{e:Expr}{t:TT}(h:PW X e t):PT X e t:=h _
def PA(X:Cx)(es:List Expr)(t:TA):Prop :=
 ∀(pos:Pos)(pins:List (Addr×Obj))(s:Shared)(σ:St)(H:Hp)(Q:List V→Hp→Prop),Inv X pins σ H s→t σ H Q→wpAny (model X.prog X.w) X.A (spliced (backTo pos (starEach es X.env))) (AP X pins σ Q) X.xe s
def PS(X:Cx)(st:Stmt)(t:TS):Prop :=
 ∀(pins:List (Addr×Obj))(s:Shared)(σ:St)(H:Hp)(D:Ends),Inv X pins σ H s→t D σ H→wpAny (model X.prog X.w) X.A (exec st X.env) (SP X pins D) X.xe s
def PSs(X:Cx)(st:List Stmt)(t:TS):Prop :=
 ∀(pins:List (Addr×Obj))(s:Shared)(σ:St)(H:Hp)(D:Ends),Inv X pins σ H s→t D σ H→wpAny (model X.prog X.w) X.A (execs st X.env) (SP X pins D) X.xe s
theorem thn{α:Type}{t:Sem α}{Q Q':α→Shared→Prop}{M:Model}{A:Around}{E:Value→Shared→Prop}{s:Shared}(h:wpAny M A t Q E s)(hQ:∀a s,Q a s→Q' a s):wpAny M A t Q' E s:=wpAny_mono h hQ λ_ _ x=>x
section
variable{X:Cx}
def tJ(i:Nat):TE:=λσ H Q=>∃v,σ[i]?=some (some v)∧Q v H
def tC(v:V):TE:=λ_ H Q=>Q v H
theorem rG{i:Nat}{x:Str}{pos:Pos}(hN:X.N[i]?=some x)(hv:Vis X.env.scope x)(hd:(x==("__debug__":Str))=false:=by decide)(hcd:(x==("__classdict__":Str))=false:=by decide):PE X (.Name x pos) (tJ i):=by
 intro pins s σ H Q I h;obtain⟨v,e,h⟩:=h;obtain⟨m,hn,hl⟩:=I.loc;obtain⟨u,r,l⟩:=hl i x v hN e hv;have fin:EP X pins σ Q u s:=⟨v,H,I,r,h⟩;rcases l with⟨hk,hm⟩|⟨hk,c,hc,hcell⟩
 ·exact wpAny_Name (wpAny_loadName_local I.ok.kind hk hn hm fin) hd
 ·rcases hk with hk|hk
  ·exact wpAny_Name (wpAny_loadName_cell I.ok.kind hk hc hcell fin) hd
  ·exact wpAny_Name (wpAny_loadName_free I.ok.kind hk hc hcell fin hcd) hd
theorem ai{i j pos}:PE X (.Constant (.int i) j pos) (tC (.int i)):=λ_ _ _ H _ I h=>wpAny_Constant_int ⟨.int i,H,I.tok _,⟨_,rfl⟩,h⟩
theorem li{b j pos}:PE X (.Constant (.bool b) j pos) (tC (.bl b)):=λ_ _ _ H _ I h=>Constant_bool ⟨.bl b,H,I,rfl,h⟩
theorem fE{j pos}:PE X (.Constant .none j pos) (tC .non):=λ_ _ _ H _ I h=>Constant_none ⟨.non,H,I,rfl,h⟩
theorem io{x j pos}:PE X (.Constant (.str x) j pos) (tC (.str x)):=λ_ _ _ H _ I h=>Calls.Constant_str ⟨.str x,H,I.tok _,⟨_,rfl⟩,h⟩
def Gl(X:Cx)(x:Str):Prop:=X.env.kindOf x=some .globalImplicit
theorem lj{E:Value→Shared→Prop}{pins:List (Addr×Obj)}{s:Shared}{σ:St}{H:Hp}{x:Str}{u:Value}{pos:Pos}{Q:Value→Shared→Prop}(I:Inv X pins σ H s)(hg:Gl X x)(hm:X.mg x=some u)(h:Q u s)(hd:(x==("__debug__":Str))=false:=by decide):wpAny (model X.prog X.w) X.A (eval (.Name x pos) X.env) Q E s :=
 Calls.Name_function_global I.ok.kind hg (Calls.loadGlobal_global (by rw[I.ok.glob];exact I.mod.glob.keeps I.bk) hm h) hd
theorem cI{E:Value→Shared→Prop}{pins:List (Addr×Obj)}{s:Shared}{σ:St}{H:Hp}{x:Str}{u:Value}{pos:Pos}{Q:Value→Shared→Prop}(I:Inv X pins σ H s)(hg:Gl X x)(hm:X.mg x=none)(hv:bootBuiltins x=some u)(h:Q u s)(hn:x≠"__name__":=by decide)(hd:(x==("__debug__":Str))=false:=by decide):wpAny (model X.prog X.w) X.A (eval (.Name x pos) X.env) Q E s:=by
 obtain⟨mb,h1,h2⟩:=I.mod.blt;exact Calls.Name_function_global I.ok.kind hg (Calls.loadGlobal_builtin (by rw[I.ok.glob];exact I.mod.glob.keeps I.bk) hm (by rw[I.ok.blt];exact h1.keeps I.bk) ((h2 x hn).trans hv) h) hd
theorem ip{x:Str}{v:V}{u:Value}{pos:Pos}(hg:Gl X x)(hm:X.mg x=some u)(r:av v u)(hd:(x==("__debug__":Str))=false:=by decide):PE X (.Name x pos) (tC v) :=
 λ_ _ _ H _ I h=>lj I hg hm ⟨v,H,I,r,h⟩ hd
variable{a b:Expr}{ta tb:TE}{pos:Pos}
def PC(X:Cx)(op:CmpOp)(a b:Expr)(t:TE):Prop :=
 ∀(pins:List (Addr×Obj))(s:Shared)(σ:St)(H:Hp)(Q:VK),Inv X pins σ H s→t σ H Q →
  wpAny (model X.prog X.w) X.A (eval a X.env) (λv s₁=>wpAny (model X.prog X.w) X.A (eval b X.env) (λu s₂=>wpAny (model X.prog X.w) X.A (compareOp op v u) (EP X pins σ Q) X.xe s₂) X.xe s₁) X.xe s
def tB(t:TE):TT:=λσ H Q=>t σ H λx H1=>∃c,x=.bl c∧Q c H1
theorem jP{op:CmpOp}{t:TE}(h:PC X op a b t)(h1:behindInMarks op b=false:=by first|exact nobehind _ (by decide) (by decide)|rfl):PT X (.Compare a [op] [b] pos) (tB t):=by
 intro pins s σ H Q I hw;refine wpAny_isTrue_Compare1 (thn (h pins s σ H _ I hw) λv s1 h1=>thn h1 λu s2 h2=>thn h2 λc s3 ⟨x,H1,I1,r1,q1⟩=>?_) h1;obtain⟨d,rfl,q⟩:=q1;cases r1;exact wpAny_truthy_bool ⟨H1,I1,q⟩
variable{tA tB':TT}{rest:List Expr}
def uF(t u:TT):TT:=λσ H Q=>t σ H λc H1=>if c=true then u σ H1 Q else Q false H1
def tOr(t u:TT):TT:=λσ H Q=>t σ H λc H1=>if c=true then Q true H1 else u σ H1 Q
theorem pw_and1(ha:PT X a tA):PW X (.BoolOp .And [a] pos) tA:=by
 intro wh pins s σ H Q I h;refine isTrue_and (thn (ha pins s σ H Q I h) λc s1 e=>?_);cases c with
 |true=>exact isTrue_and_nil e
 |false=>exact e
theorem pw_or1(ha:PT X a tA):PW X (.BoolOp .Or [a] pos) tA:=by
 intro wh pins s σ H Q I h;refine isTrue_or (thn (ha pins s σ H Q I h) λc s1 e=>?_);cases c with
 |false=>exact isTrue_or_nil e
 |true=>exact e
theorem pw_and(ha:PT X a tA)(hb:PW X (.BoolOp .And (b::rest) pos) tB'):PW X (.BoolOp .And (a::b::rest) pos) (uF tA tB'):=by
 intro wh pins s σ H Q I h;refine isTrue_and (thn (ha pins s σ H _ I h) λc s1 hpt=>?_);obtain⟨H1,I1,q1⟩:=hpt;cases c with
 |true=>exact hb wh pins s1 σ H1 Q I1 q1
 |false=>exact⟨H1,I1,q1⟩
theorem pw_or(ha:PT X a tA)(hb:PW X (.BoolOp .Or (b::rest) pos) tB'):PW X (.BoolOp .Or (a::b::rest) pos) (tOr tA tB'):=by
 intro wh pins s σ H Q I h;refine isTrue_or (thn (ha pins s σ H _ I h) λc s1 hpt=>?_);obtain⟨H1,I1,q1⟩:=hpt;cases c with
 |true=>exact⟨H1,I1,q1⟩
 |false=>exact hb wh pins s1 σ H1 Q I1 q1
end
def SqL(K:PySem.W.Frag)(H:Hp)(a:Addr)(xs:List V):Prop :=
 Rd H a (.lst xs) ∨
  ∃(o:Obj) (its:Array Value) (n:Nat),K.lookup a=some o∧o.cls=.type "list"∧o.dict=none∧o.data=.seq its n∧its.size≤sizeLine∧aq xs its.toList
def SqT(K:PySem.W.Frag)(H:Hp)(a:Addr)(xs:List V):Prop :=
 Rd H a (.tup xs) ∨
  ∃(o:Obj) (its:Array Value) (n:Nat),K.lookup a=some o∧o.cls=.type "tuple"∧o.data=.seq its n∧its.size≤sizeLine∧aq xs its.toList
def uG:Value→Option V
 |.none=>some .non
 |.bool b=>some (.bl b)
 |.int i _=>some (.int i)
 |.str x _=>some (.str x)
 |.bytes b _=>some (.byt b)
 |.float b _=>some (.flt b)
 |.ref a=>some (.ref a)
 |.type n=>some (.ty n)
 |_=>none
theorem av.abs{x:V}{u:Value}(r:av x u):uG u=some x:=by
 cases x with
 |non=>cases r;rfl
 |bl _=>cases r;rfl
 |int _=>obtain⟨t,rfl⟩:=r;rfl
 |str _=>obtain⟨t,rfl⟩:=r;rfl
 |byt _=>obtain⟨t,rfl⟩:=r;rfl
 |flt _=>obtain⟨t,rfl⟩:=r;rfl
 |ref _=>cases r;rfl
 |ty _=>cases r;rfl
theorem av.inj{x y:V}{u:Value}(r:av x u)(q:av y u):x=y:=Option.some.inj (r.abs.symm.trans q.abs)
theorem aq.inj:∀{xs ys:List V}{us:List Value},aq xs us→aq ys us→xs=ys
 |_,_,_,.nil,.nil=>rfl
 |_,_,_,.cons r t,.cons r' t'=>by rw[r.inj r',aq.inj t t']
section
variable{X:Cx}{pins:List (Addr×Obj)}{σ:St}{H:Hp}{s:Shared}{a:Addr}{xs ys:List V}
theorem SqL.of{K:PySem.W.Frag}(h:H a=some (.lst xs)):SqL K H a xs:=.inl (.inl h)
theorem SqT.of{K:PySem.W.Frag}(h:H a=some (.tup xs)):SqT K H a xs:=.inl (.inl h)
theorem Inv.list(I:Inv X pins σ H s)(h:SqL X.K H a xs):∃its:List Value,aq xs its∧PlainL s.heap a its.toArray∧xs.length≤sizeLine:=by
 rcases h with h|⟨o,its,n,hk,hc,hd,hs,hz,r⟩
 ·obtain⟨z,its,n,r,e⟩:=h.ok I.hok;exact⟨its,r,⟨_,n,e,rfl,rfl,rfl⟩,z⟩
 ·refine⟨its.toList,r,⟨o,n,I.kIn a o hk,hc,hd,by simpa using hs⟩,?_⟩
  have e:=r.length;simp only[length_toList]at e;omega
theorem Inv.tuple(I:Inv X pins σ H s)(h:SqT X.K H a xs):∃its:List Value,aq xs its∧IsTup s.heap a its.toArray∧xs.length≤sizeLine:=by
 rcases h with h|⟨o,its,n,hk,hc,hs,hz,r⟩
 ·obtain⟨z,its,r,p⟩:=h.ok I.hok;exact⟨its,r,p,z⟩
 ·refine⟨its.toList,r,⟨o,I.kIn a o hk,hc,n,by simpa using hs⟩,?_⟩
  have e:=r.length;simp only[length_toList]at e;omega
theorem Inv.list_inj(I:Inv X pins σ H s)(h:SqL X.K H a xs)(h':SqL X.K H a ys):xs=ys:=by
 obtain⟨its,r,⟨o,n,e,_,_,d⟩,_⟩:=I.list h;obtain⟨its',r',⟨o',n',e',_,_,d'⟩,_⟩:=I.list h';rw[e]at e';cases e';rw[d]at d';injection d' with d1 _
 have:its=its':=by simpa using congrArg toList d1
 subst this;exact r.inj r'
theorem Inv.tuple_inj(I:Inv X pins σ H s)(h:SqT X.K H a xs)(h':SqT X.K H a ys):xs=ys:=by
 obtain⟨its,r,⟨o,e,_,n,d⟩,_⟩:=I.tuple h;obtain⟨its',r',⟨o',e',_,n',d'⟩,_⟩:=I.tuple h';rw[e]at e';cases e';rw[d]at d';injection d' with d1 _
 have:its=its':=by simpa using congrArg toList d1
 subst this;exact r.inj r'
end
abbrev Cx.wish(X:Cx)(E:Value→Shared→Prop):Cx:={X with xe:=E}
abbrev Cx.nox(X:Cx):Cx:=X.wish λ_ _=>False
theorem Cx.Ok.wish{X:Cx}(ok:X.Ok)(E:Value→Shared→Prop):(X.wish E).Ok :=
 ⟨ok.mod,ok.kind,ok.glob,ok.blt,ok.above,ok.inj,ok.has,ok.cab,ok.hd,ok.frames,ok.stk,ok.exf,ok.bs,ok.bsz,ok.noex,ok.exfs,ok.funs,ok.frf⟩
theorem Cx.Ok.unwish{X:Cx}{E:Value→Shared→Prop}(ok:(X.wish E).Ok):X.Ok :=
 ⟨ok.mod,ok.kind,ok.glob,ok.blt,ok.above,ok.inj,ok.has,ok.cab,ok.hd,ok.frames,ok.stk,ok.exf,ok.bs,ok.bsz,ok.noex,ok.exfs,ok.funs,ok.frf⟩
section
variable{X:Cx}{pins:List (Addr×Obj)}{σ:St}{H:Hp}{s:Shared}{E:Value→Shared→Prop}
theorem Inv.wish(I:Inv X pins σ H s)(E:Value→Shared→Prop):Inv (X.wish E) pins σ H s:=⟨I.ok.wish E,I.os,I.bare,I.base,I.loc,I.cell,I.free,I.freeC,I.pin,I.hok,I.len⟩
theorem Inv.unwish(I:Inv (X.wish E) pins σ H s):Inv X pins σ H s:=⟨I.ok.unwish,I.os,I.bare,I.base,I.loc,I.cell,I.free,I.freeC,I.pin,I.hok,I.len⟩
theorem SP.unwish{D:Ends}{f:Flow}{s':Shared}(h:SP (X.wish E) pins D f s'):SP X pins D f s':=by
 cases f with
 |next=>obtain⟨σ',H',I,q⟩:=h;exact⟨σ',H',I.unwish,q⟩
 |brk=>obtain⟨σ',H',I,q⟩:=h;exact⟨σ',H',I.unwish,q⟩
 |cont=>obtain⟨σ',H',I,q⟩:=h;exact⟨σ',H',I.unwish,q⟩
 |ret u=>obtain⟨v,σ',H',I,r,q⟩:=h;exact⟨v,σ',H',I.unwish,r,q⟩
theorem PSs.nox{st:List Stmt}{t:TS}(h:PSs X.nox st t):PSs X st t:=λpins s σ H D I hw =>
 wpAny_mono (h pins s σ H D (I.wish _) hw) (λ_ _ q=>q.unwish) λ_ _ z=>False.elim z
end
section
variable{X:Cx}{st:Stmt}{rest:List Stmt}{t u:TS}{e:Expr}{te:TE}{pos:Pos}
def tK:TS:=λD σ H=>D.nx σ H
def tL(t u:TS):TS:=λD σ H=>t {D with nx:=u D} σ H
theorem bf:PSs X [] tK:=λ_ _ σ H _ I h=>wpAny_execs_nil ⟨σ,H,I,h⟩
theorem ah(h1:PS X st t)(h2:PSs X rest u):PSs X (st::rest) (tL t u):=by
 intro pins s σ H D I h;refine wpAny_execs_cons (thn (h1 pins s σ H {D with nx:=u D} I h) λf s1 q=>?_);cases f with
 |next =>
  obtain⟨σ',H',I',q⟩:=q;exact h2 pins s1 σ' H' D I' q
 |ret v=>exact q
 |brk=>exact q
 |cont=>exact q
theorem al(h1:PS X st t):PSs X [st] t:=by
 intro pins s σ H D I h;refine wpAny_execs_cons (thn (h1 pins s σ H D I h) λf s1 q=>?_);cases f with
 |next=>exact wpAny_execs_nil q
 |ret v=>exact q
 |brk=>exact q
 |cont=>exact q
theorem Inv.quiet{pins:List (Addr×Obj)}{σ:St}{H:Hp}{s:Shared}(I:Inv X pins σ H s):interactive X.env=false:=by simp[interactive,I.ok.kind]
def tM(te:TE):TS:=λD σ H=>te σ H λ_ H1=>D.nx σ H1
theorem de(he:PE X e te)(hs:swapsWith e none pos.line X.env=pure false:=by rfl):PS X (.Expr e pos) (tM te):=by
 intro pins s σ H D I h;exact wpAny_Expr_any (thn (he pins s σ H _ I h) λv s1 ⟨x,H1,I1,r1,q1⟩=>⟨σ,H1,I1,q1⟩) I.quiet hs
def uH(te:TE):TS:=λD σ H=>te σ H D.rt
theorem aH(he:PE X e te):PS X (.Return (some e) pos) (uH te):=by
 intro pins s σ H D I h;exact wpAny_Return_some (thn (he pins s σ H _ I h) λv s1 ⟨x,H1,I1,r1,q1⟩=>⟨x,σ,H1,I1,r1,q1⟩)
def uI(c:TT)(t u:TS):TS:=λD σ H=>c σ H λb H1=>if b=true then t D σ H1 else u D σ H1
theorem cQ{c:Expr}{a b:List Stmt}{tc:TT}(hc:PT X c tc)(ha:PSs X a t)(hb:PSs X b u):PS X (.If c a b pos) (uI tc t u):=by
 intro pins s σ H D I h;refine wpAny_If (thn (hc pins s σ H _ I h) λd s1 hpt=>?_);obtain⟨H1,I1,q1⟩:=hpt;cases d with
 |true=>exact ha pins s1 σ H1 D I1 q1
 |false=>exact hb pins s1 σ H1 D I1 q1
end
abbrev TG:=V→St→Hp→(St→Hp→Prop)→Prop
abbrev TGs:=List V→St→Hp→(St→Hp→Prop)→Prop
def PG(X:Cx)(target:Expr)(t:TG):Prop :=
 ∀(pins:List (Addr×Obj))(s:Shared)(σ:St)(H:Hp)(v:V)(u:Value)(Q:St→Hp→Prop),Inv X pins σ H s→av v u→t v σ H Q →
  wpAny (model X.prog X.w) X.A (assign target X.env u) (λ_ s'=>∃σ' H',Inv X pins σ' H' s'∧Q σ' H') X.xe s
def PGs(X:Cx)(ts:List Expr)(t:TGs):Prop :=
 ∀(pins:List (Addr×Obj))(s:Shared)(σ:St)(H:Hp)(vs:List V)(us:List Value)(Q:St→Hp→Prop),Inv X pins σ H s→aq vs us→t vs σ H Q →
  wpAny (model X.prog X.w) X.A (assignInOrder ((assignEach ts X.env).map (·.2)) us) (λ_ s'=>∃σ' H',Inv X pins σ' H' s'∧Q σ' H') X.xe s
abbrev TIp:=V→V→Hp→VK→Prop
def PIp(X:Cx)(op:Operator)(t:TIp):Prop :=
 ∀(pins:List (Addr×Obj))(s:Shared)(σ:St)(H:Hp)(x y:V)(v u:Value)(Q:VK),Inv X pins σ H s→av x v→av y u→t x y H Q →
  wpAny (model X.prog X.w) X.A (inplaceOp op v u) (EP X pins σ Q) X.xe s
section
variable{X:Cx}{pos:Pos}
def aJ(i:Nat):TG:=λv σ H Q=>Q (σ.set i (some v)) H
theorem ao{i:Nat}{x:Str}(hN:X.N.Nodup)(hi:X.N[i]?=some x)(hx:Loc X.env.scope x)(hf:X.fn x=true∨X.env.scope.names.lookup x=some .local:=by first|exact .inl rfl|exact .inr rfl|assumption):PG X (.Name x pos) (aJ i):=by
 intro pins s σ H v u Q I r h;exact wpAny_assign_Name (fD I hN hi hx r (λs' I'=>⟨_,H,I',h⟩) hf)
def jQ:TGs:=λvs σ H Q=>vs=[]∧Q σ H
def cx(t:TG)(u:TGs):TGs:=λvs σ H Q=>∃v r,vs=v::r∧t v σ H λσ' H'=>u r σ' H' Q
theorem bM:PGs X [] jQ:=by
 intro pins s σ H vs us Q I r h;obtain⟨e,h⟩:=h;subst e;cases r;exact assignInOrder_nil ⟨σ,H,I,h⟩
theorem az{e:Expr}{es:List Expr}{t:TG}{u:TGs}(h1:PG X e t)(h2:PGs X es u)(hs:(assignEach (e::es) X.env).map (·.2)=assign e X.env::(assignEach es X.env).map (·.2):=by rfl):PGs X (e::es) (cx t u):=by
 intro pins s σ H vs us Q I r h;obtain⟨v,vr,e1,h⟩:=h;subst e1;cases r with
 |cons r rr =>
  rw[hs];refine assignInOrder_cons (thn (h1 pins s σ H _ _ _ I r h) λ_ s1 hpt=>?_);obtain⟨σ1,H1,I1,q1⟩:=hpt;exact h2 pins s1 σ1 H1 _ _ Q I1 rr q1
def jR(K:PySem.W.Frag)(n:Nat)(t:TGs):TG:=λv σ H Q=>∃a xs,v=.ref a∧SqT K H a xs∧xs.length=n∧t xs σ H Q
theorem cq{es:List Expr}{k:Nat}{t:TGs}{n:Nat}(hc:X.calm=true)(h:PGs X es t)(hn:(assignEach es X.env).length=n:=by rfl)(hst:(assignEach es X.env).findIdx? (·.1)=none:=by rfl):PG X (.Tuple es k pos) (jR X.K n t):=by
 intro pins s σ H v u Q I r hw;obtain⟨a,xs,e1,hq,hl,hw⟩:=hw;subst e1;cases r;obtain⟨its,rv,ht,hz⟩:=I.tuple hq;refine assign_Tuple_tuple (I.ok.hd hc) ht (by simp[hn,←hl,rv.length]) hst λh' hx=>?_;have I1:Inv X pins σ H {s with heap:=h'}:=I.kept (t':=s.toks) λb o e=>hx b o (ne_of_lt (lt_size e)) e
 exact h pins _ σ H xs _ Q I1 (by simpa using rv) hw
def uJ(te:TE)(g:TG):TS:=λD σ H=>te σ H λx H1=>g x σ H1 D.nx
theorem aw{i:Nat}{x:Str}{e:Expr}{te:TE}{pos':Pos}(hN:X.N.Nodup)(hi:X.N[i]?=some x)(hx:Loc X.env.scope x)(he:PE X e te)(hs:swapsWith e (some (.Name x pos')) pos.line X.env=pure false:=by rfl)(hf:X.fn x=true∨X.env.scope.names.lookup x=some .local:=by first|exact .inl rfl|exact .inr rfl|assumption):
  PS X (.Assign [.Name x pos'] e pos) (uJ te (aJ i)):=by
 intro pins s σ H D I h;refine wpAny_Assign_Name (thn (he pins s σ H _ I h) λv s1 ⟨y,H1,I1,r1,q1⟩=>?_) hs;exact fD I1 hN hi hx r1 (λs2 I2=>⟨_,H1,I2,q1⟩) hf
def uK(i:Nat)(te:TE)(ti:TIp):TS:=λD σ H=>∃x,σ[i]?=some (some x)∧te σ H λy H1=>ti x y H1 λz H2=>D.nx (σ.set i (some z)) H2
theorem rH{i:Nat}{x:Str}{e:Expr}{te:TE}{op:Operator}{ti:TIp}{pos':Pos}(hN:X.N.Nodup)(hi:X.N[i]?=some x)(hx:Loc X.env.scope x)(he:PE X e te)(ho:PIp X op ti)(hf:X.fn x=true∨X.env.scope.names.lookup x=some .local:=by first|exact .inl rfl|exact .inr rfl|assumption):
  PS X (.AugAssign (.Name x pos') op e pos) (uK i te ti):=by
 intro pins s σ H D I h;obtain⟨v,e1,h⟩:=h;obtain⟨m,hn,hl⟩:=I.loc;have vis:Vis X.env.scope x:=by rcases hx with k|k;exact .inl k;exact .inr (.inl k)
 obtain⟨u,r,l⟩:=hl i x v hi e1 vis;refine wpAny_AugAssign_Name ?_;have go:wpAny (model X.prog X.w) X.A (eval e X.env) (λw s₂=>wpAny (model X.prog X.w) X.A (inplaceOp op u w) (λr s₃=>wpAny (model X.prog X.w) X.A (storeName X.env x r) (λ_=>SP X pins D .next) X.xe s₃) X.xe s₂) X.xe s:=by
  refine thn (he pins s σ H _ I h) λw s1 hpt=>?_;obtain⟨y,H1,I1,r1,q1⟩:=hpt;refine thn (ho pins s1 σ H1 v y u w _ I1 r r1 q1) λz s2 hpt=>?_;obtain⟨zv,H2,I2,r2,q2⟩:=hpt;exact fD I2 hN hi hx r2 (λs3 I3=>⟨_,H2,I3,q2⟩) hf
 rcases l with⟨hk,hm⟩|⟨hk,c,hc,hcell⟩
 ·exact wpAny_loadName_local I.ok.kind hk hn hm go
 ·rcases hk with hk|hk
  ·exact wpAny_loadName_cell I.ok.kind hk hc hcell go
  ·rcases hx with k|k
   ·have:X.env.scope.names.lookup x=some .free:=hk;rw[k]at this;cases this
   ·have:X.env.scope.names.lookup x=some .free:=hk;rw[k]at this;cases this
def ny(c:TT)(tb:TS):TS:=λD σ H=>∃W:Nat→St→Hp→Prop,(∃m,W m σ H)∧∀m σ H,W m σ H →
 c σ H λb H1=>if b=true then ∃N:St→Hp→Prop,(∀σ' H',N σ' H'→∃m',m'<m∧W m' σ' H')∧tb {D with nx:=N,ct:=N,bk:=D.nx} σ H1 else D.nx σ H1
theorem nA{c:Expr}{body:List Stmt}{tc:TT}{tb:TS}(hp:PassesOwn (model X.prog X.w) X.A X.env X.xe)(hc:PT X c tc)(hb:PSs X body tb):PS X (.While c body [] pos) (ny tc tb):=by
 intro pins s σ H D I h;obtain⟨W,⟨m0,w0⟩,turn⟩:=h;refine wpAny_While (codeAny_whileLoop (λn s'=>∃σ' H',Inv X pins σ' H' s'∧W n σ' H') ?_ m0 ⟨σ,H,I,w0⟩);rintro n s1 ⟨σ1,H1,I1,w1⟩;refine wpAny_passesOwn hp (thn (hc pins s1 σ1 H1 _ I1 (turn n σ1 H1 w1)) λb s2 hpt=>?_);obtain⟨H2,I2,q2⟩:=hpt;cases b with
 |true =>
  obtain⟨N,hN,q2⟩:=q2;rw[if_pos rfl];refine wpAny_passesOwn hp (thn (hb pins s2 σ1 H2 _ I2 q2) λf s3 q3=>?_);cases f with
  |next =>
   obtain⟨σ3,H3,I3,n3⟩:=q3;obtain⟨m',hm,w3⟩:=hN σ3 H3 n3;exact⟨m',hm,σ3,H3,I3,w3⟩
  |cont =>
   obtain⟨σ3,H3,I3,n3⟩:=q3;obtain⟨m',hm,w3⟩:=hN σ3 H3 n3;exact⟨m',hm,σ3,H3,I3,w3⟩
  |brk=>exact q3
  |ret v=>exact q3
 |false =>
  rw[if_neg Bool.false_ne_true];exact wpAny_execs_nil ⟨σ1,H2,I2,q2⟩
end
structure It where
 go:Nat→Hp→Prop
 yld:Nat→Hp→V→Hp→Prop
 stop:Nat→Hp→Prop
def eI(X:Cx)(pins:List (Addr×Obj))(H:Hp)(b:Addr):Prop :=
 H b=none∧b≠X.env.locals∧b∉X.fs∧(b∈X.ex∨X.s₀.heap.objs.size≤b)∧(∀x c,X.env.cells.lookup x=some c→c≠b)∧∀p∈X.pn++pins,p.1≠b
theorem Inv.fpOk{X:Cx}{pins:List (Addr×Obj)}{σ:St}{H H':Hp}{s:Shared}{b:Addr}(I:Inv X pins σ H s)(hb:s.heap.objs.size≤b)(hn:H' b=none):eI X pins H' b:=by
 refine⟨hn,ne_of_gt (lt_of_lt_of_le I.lt hb),I.nofs hb,.inr (le_trans I.sz hb),λx c e z=>?_,λp hp z=>?_⟩
 ·obtain⟨v,q⟩:=I.cell x c e;exact absurd (lt_of_lt_of_le q.lt (by rw[z];exact hb)) (lt_irrefl _)
 ·exact absurd (lt_of_lt_of_le (lt_size (I.pin p hp).1) (by rw[z];exact hb)) (lt_irrefl _)
structure Turn(P:Program)(w:World)(K:PySem.W.Frag)(tg:Expr)(J:It)(fp:List Addr)(it:Addr)(tn:Nat→Heap→Prop):Prop where
 mem:it∈fp
 obj:∀i h,tn i h→∀b∈fp,∃o,h.get? b=some o∧∀v,o.data≠.cell v
 keep:∀i h h',tn i h→(∀b∈fp,∀o,h.get? b=some o→h'.get? b=some o)→tn i h'
 item:∀(X:Cx),X.prog=P→X.w=w→X.K=K→X.calm=true→∀(i:Nat)(pins:List (Addr×Obj))(s:Shared)(σ:St)(H:Hp)(E:Value→Shared→Prop),Inv X pins σ H s→(∀b∈fp,eI X pins H b)→tn i s.heap→J.go i H →
  wpAny (model P w) X.A (pyNext (.ref it)) (λr s1=>∃u,r=some u ∧
   wpAny (model P w) X.A (letOwnedTupleGo tg (.ref it) u) (λ_ s2=>∃x H',Inv X pins σ H' s2∧av x u∧J.yld i H x H'∧tn (i+1) s2.heap∧∀b∈fp,H' b=none) E s1) E s
 done:∀(X:Cx),X.prog=P→X.w=w→X.K=K→X.calm=true→∀(i:Nat)(pins:List (Addr×Obj))(s:Shared)(σ:St)(H:Hp)(E:Value→Shared→Prop),Inv X pins σ H s→(∀b∈fp,eI X pins H b)→tn i s.heap→J.stop i H →
  wpAny (model P w) X.A (pyNext (.ref it)) (λr s1=>r=none∧Inv X pins σ H s1) E s
 self:∀(A:Around)(i:Nat)(s:Shared)(Q:Value→Shared→Prop)(E:Value→Shared→Prop),tn i s.heap→Q (.ref it) s→wpAny (model P w) A (pyIter (.ref it)) Q E s
abbrev TI:=St→Hp→(It→Hp→Prop)→Prop
def PIE(X:Cx)(pins:List (Addr×Obj))(σ:St)(tg:Expr)(R:It→Hp→Prop)(itv:Value)(s2:Shared):Prop :=
 ∃(it:Addr) (fp:List Addr) (tn:Nat→Heap→Prop) (J:It) (H':Hp),itv=.ref it∧Inv X pins σ H' s2∧Turn X.prog X.w X.K tg J fp it tn∧tn 0 s2.heap∧(∀b∈fp,eI X pins H' b)∧R J H'
def PI(X:Cx)(tg iter:Expr)(wi:TI):Prop :=
 ∀(pins:List (Addr×Obj))(s:Shared)(σ:St)(H:Hp)(R:It→Hp→Prop),Inv X pins σ H s→wi σ H R →
  wpAny (model X.prog X.w) X.A (eval iter X.env) (λv s1=>wpAny (model X.prog X.w) X.A (pyIter v) (PIE X pins σ tg R) X.xe s1) X.xe s
theorem lm{M:Model}{A:Around}{E:Value→Shared→Prop}{s:Shared}{tg:Expr}{it:Addr}{u:Value}{o:Obj}{n:String}{vs:Array Value}{Q:Unit→Shared→Prop}(ho:s.heap.get? it=some o)(hc:o.cls=.type n)(hd:o.data=.fields vs)(hn:["enumerate","zip","dict_itemiterator","dict_reverseitemiterator","odict_iterator","itertools.zip_longest","itertools.pairwise"].contains n=false)(hQ:Q () s):wpAny M A (letOwnedTupleGo tg (.ref it) u) Q E s:=by
 unfold letOwnedTupleGo;cases tg<;>first
  |exact wpAny_pure hQ
  | (cases u<;>first
    |exact wpAny_pure hQ
    | (refine wpAny_bind (wpAny_load ho ?_)
       rw[hc,hd];show wpAny M A (if (["enumerate","zip","dict_itemiterator","dict_reverseitemiterator","odict_iterator","itertools.zip_longest","itertools.pairwise"].contains n&&vs[0]?==some (rawInt _))=true then _ else _) Q E s
       rw[if_neg (by intro h;rw[hn,Bool.false_and]at h;cases h)];exact wpAny_pure hQ))
def Itl(K:PySem.W.Frag)(a:Addr):It :=
 ⟨λi H=>∃xs x,SqL K H a xs∧xs[i]?=some x,λi H x H'=>H'=H∧∀xs,SqL K H a xs→xs[i]?=some x,λi H=>∃xs,SqL K H a xs∧xs.length≤i⟩
def Itt(K:PySem.W.Frag)(a:Addr):It :=
 ⟨λi H=>∃xs x,SqT K H a xs∧xs[i]?=some x,λi H x H'=>H'=H∧∀xs,SqT K H a xs→xs[i]?=some x,λi H=>∃xs,SqT K H a xs∧xs.length≤i⟩
def Itr(lo:Int)(n:Nat):It:=⟨λi _=>i<n,λi H x H'=>H'=H∧x=.int (lo+i),λi _=>n≤i⟩
theorem lY{P:Program}{w:World}{K:PySem.W.Frag}{tg:Expr}(a it:Addr):Turn P w K tg (Itl K a) [it] it (λi h=>h.IsListIter it a i) where
 mem:=by simp
 obj:=λi h st b hb=>by
  have e:b=it:=by simpa using hb
  subst e;obtain⟨o,e,c,d⟩:=st;exact⟨o,e,λv z=>by rw[d]at z;cases z⟩
 keep:=λi h h' st k=>st.at λo e=>k it (by simp) o e
 item:=by
  intro X hP hw hK hc i pins s σ H E I hf st hg;subst hP hw hK;obtain⟨xs,x,hq,hx⟩:=hg;obtain⟨its,rv,p,hz⟩:=I.list hq;obtain⟨u,hu,ru⟩:=rv.get hx;obtain⟨f0,f1,f2,f3,f4,f5⟩:=hf it (by simp);refine wpAny_pyNext_list_item st p.isList (x:=u) (by simpa using hu) λh' st' sb=>?_;have I1:Inv X pins σ H {s with heap:=h'}:=I.turned (t':=s.toks) (λb o hb e=>(sb.2 b hb).trans e) f0 f1 f3 f4 f5
  obtain⟨o,e,c,d⟩:=id st';exact⟨u,rfl,lm (s:={s with heap:=h'}) e c d (by decide) ⟨x,H,I1,ru,⟨rfl,λys hy=>by rw[I.list_inj hy hq];exact hx⟩,st',λb hb=>(hf b hb).1⟩⟩
 done:=by
  intro X hP hw hK hc i pins s σ H E I hf st hg;subst hP hw hK;obtain⟨xs,hq,hx⟩:=hg;obtain⟨its,rv,p,hz⟩:=I.list hq;obtain⟨f0,f1,f2,f3,f4,f5⟩:=hf it (by simp);have hl:=rv.length;exact wpAny_pyNext_list_end (I.ok.hd hc) st p.isList (by simp;omega) λh' eb=>⟨rfl,I.turned (t':=s.toks) (λb o hb e=>eb b o hb e) f0 f1 f3 f4 f5⟩
 self:=λ_ _ _ _ _ st h=>wpAny_pyIter_listiter st h
theorem jS{P:Program}{w:World}{K:PySem.W.Frag}{tg:Expr}(a it:Addr):Turn P w K tg (Itt K a) [it] it (λi h=>h.IsTupleIter it a i) where
 mem:=by simp
 obj:=λi h st b hb=>by
  have e:b=it:=by simpa using hb
  subst e;obtain⟨o,e,c,d⟩:=st;exact⟨o,e,λv z=>by rw[d]at z;cases z⟩
 keep:=λi h h' st k=>st.at λo e=>k it (by simp) o e
 item:=by
  intro X hP hw hK hc i pins s σ H E I hf st hg;subst hP hw hK;obtain⟨xs,x,hq,hx⟩:=hg;obtain⟨its,rv,p,hz⟩:=I.tuple hq;obtain⟨u,hu,ru⟩:=rv.get hx;obtain⟨f0,f1,f2,f3,f4,f5⟩:=hf it (by simp);refine wpAny_pyNext_tuple_item st (show s.heap.IsTuple a its.toArray from p) (x:=u) (by simpa using hu) λh' st' sb=>?_;have I1:Inv X pins σ H {s with heap:=h'}:=I.turned (t':=s.toks) (λb o hb e=>(sb.2 b hb).trans e) f0 f1 f3 f4 f5
  obtain⟨o,e,c,d⟩:=id st';exact⟨u,rfl,lm (s:={s with heap:=h'}) e c d (by decide) ⟨x,H,I1,ru,⟨rfl,λys hy=>by rw[I.tuple_inj hy hq];exact hx⟩,st',λb hb=>(hf b hb).1⟩⟩
 done:=by
  intro X hP hw hK hc i pins s σ H E I hf st hg;subst hP hw hK;obtain⟨xs,hq,hx⟩:=hg;obtain⟨its,rv,p,hz⟩:=I.tuple hq;obtain⟨f0,f1,f2,f3,f4,f5⟩:=hf it (by simp);have hl:=rv.length;exact wpAny_pyNext_tuple_end (I.ok.hd hc) st (show s.heap.IsTuple a its.toArray from p) (by simp;omega) λh' eb=>⟨rfl,I.turned (t':=s.toks) (λb o hb e=>eb b o hb e) f0 f1 f3 f4 f5⟩
 self:=λ_ _ _ _ _ st h=>wpAny_pyIter_tupleiter st h
theorem jT{P:Program}{w:World}{K:PySem.W.Frag}{tg:Expr}(it:Addr)(lo:Int)(n:Nat):Turn P w K tg (Itr lo n) [it] it (λi h=>IsRangeIter h it (lo+(i:Nat)*1) ((n:Int)-(i:Nat)) 1) where
 mem:=by simp
 obj:=λi h st b hb=>by
  have e:b=it:=by simpa using hb
  subst e;exact⟨_,st,λv z=>by
   have z':Data.fields _=Data.cell v:=z;cases z'⟩
 keep:=λi h h' st k=>k it (by simp) _ st
 item:=by
  intro X hP hw hK hc i pins s σ H E I hf st hg;subst hP hw hK;obtain⟨f0,f1,f2,f3,f4,f5⟩:=hf it (by simp);have W:=Walks.range (prog:=X.prog) (w:=X.w) (I.ok.hd hc) it lo 1 n;refine W.item i s _ _ hg st λv h' tk hv st' kk=>?_;obtain⟨t,rfl⟩:=hv;have I1:Inv X pins σ H {s with heap:=h',toks:=tk}:=I.turned (λb o hb e=>kk b o (by simpa using hb) e) f0 f1 f3 f4 f5
  refine⟨_,rfl,lm (s:={s with heap:=h',toks:=tk}) (n:="range_iterator") st' rfl rfl (by decide) ⟨.int (lo+i),H,I1,⟨t,?_⟩,⟨rfl,rfl⟩,st',λb hb=>(hf b hb).1⟩⟩;rw[Int.mul_one]
 done:=by
  intro X hP hw hK hc i pins s σ H E I hf st hg;subst hP hw hK;obtain⟨f0,f1,f2,f3,f4,f5⟩:=hf it (by simp);exact wpAny_pyNext_range_end (I.ok.hd hc) st (by have:n≤i:=hg;omega) λh' eb=>⟨rfl,I.turned (t':=s.toks) (λb o hb e=>eb b o hb e) f0 f1 f3 f4 f5⟩
 self:=λ_ _ _ _ _ st h=>wpAny_pyIter_rangeiter st h
section
variable{X:Cx}{tg:Expr}
def tN(K:PySem.W.Frag)(tl:TE):TI:=λσ H R=>tl σ H λx H1=>∃a,x=.ref a∧(∃xs,SqL K H1 a xs)∧R (Itl K a) H1
def uL(K:PySem.W.Frag)(tl:TE):TI:=λσ H R=>tl σ H λx H1=>∃a,x=.ref a∧(∃xs,SqT K H1 a xs)∧R (Itt K a) H1
theorem bc{l:Expr}{tl:TE}(hl:PE X l tl):PI X tg l (tN X.K tl):=by
 intro pins s σ H R I h;refine thn (hl pins s σ H _ I h) λv s1 hpt=>?_;obtain⟨x,H1,I1,r1,q1⟩:=hpt;obtain⟨a,e,⟨xs,hq⟩,q⟩:=q1;subst e;cases r1;obtain⟨its,rv,p,hz⟩:=I1.list hq;refine wpAny_pyIter_list p.isList ?_;refine⟨s1.heap.objs.size,[s1.heap.objs.size],_,_,H1,rfl,I1.kept (t':=s1.toks) λb o e=>get?_push_of_some _ e,lY a _,⟨_,get?_push_size _ rfl,rfl,rfl⟩,λb hb=>?_,q⟩;have e:b=s1.heap.objs.size:=by simpa using hb
 subst e;exact I1.fpOk (le_refl _) (I1.hok.fresh (le_refl _))
theorem eJ{l:Expr}{tl:TE}(hl:PE X l tl):PI X tg l (uL X.K tl):=by
 intro pins s σ H R I h;refine thn (hl pins s σ H _ I h) λv s1 hpt=>?_;obtain⟨x,H1,I1,r1,q1⟩:=hpt;obtain⟨a,e,⟨xs,hq⟩,q⟩:=q1;subst e;cases r1;obtain⟨its,rv,p,hz⟩:=I1.tuple hq;refine wpAny_pyIter_tuple (show s1.heap.IsTuple a its.toArray from p) ?_;refine⟨s1.heap.objs.size,[s1.heap.objs.size],_,_,H1,rfl,I1.kept (t':=s1.toks) λb o e=>get?_push_of_some _ e,jS a _,⟨_,get?_push_size _ rfl,rfl,rfl⟩,λb hb=>?_,q⟩;have e:b=s1.heap.objs.size:=by simpa using hb
 subst e;exact I1.fpOk (le_refl _) (I1.hok.fresh (le_refl _))
theorem nB{pins:List (Addr×Obj)}{σ:St}{H:Hp}{s:Shared}{R:It→Hp→Prop}{E:Value→Shared→Prop}{lo hi:Int}{t u v:Tok}{tk:Nat}(I:Inv X pins σ H s)(h1:-(2 ^ 62)≤lo)(h2:lo<2 ^ 62)(h3:-(2 ^ 62)≤hi)(h4:hi<2 ^ 62)(q:R (Itr lo (hi-lo).toNat) H):wpAny (model X.prog X.w) X.A (pyIter (.ref s.heap.objs.size)) (PIE X pins σ tg R) E {s with heap:=s.heap.push {cls:=.type "range",data:=.fields #[.int lo t,.int hi u,.int 1 v]},toks:=tk}:=by
 refine wpAny_pyIter_range (IsRange.new ..) (small_one h1 h2 h3 h4) ?_;have I1:Inv X pins σ H {s with heap:=s.heap.push {cls:=.type "range",data:=.fields #[.int lo t,.int hi u,.int 1 v]},toks:=tk}:=I.kept λb o e=>get?_push_of_some _ e
 refine⟨(s.heap.push {cls:=.type "range",data:=.fields #[.int lo t,.int hi u,.int 1 v]}).objs.size,[(s.heap.push {cls:=.type "range",data:=.fields #[.int lo t,.int hi u,.int 1 v]}).objs.size],_,_,H,rfl,
  I1.kept (t':=tk) λb o e=>get?_push_of_some _ e,jT _ lo (hi-lo).toNat,?_,λb hb=>?_,q⟩
 ·have e1:lo+((0:Nat):Int)*1=lo:=by simp
  have e2:(((hi-lo).toNat:Nat):Int)-((0:Nat):Int)=Builtin.Range.rangeSize lo hi 1:=by rw[rangeSize_one];split<;>omega
  show IsRangeIter _ _ (lo+((0:Nat):Int)*1) ((((hi-lo).toNat:Nat):Int)-((0:Nat):Int)) 1;rw[e1,e2];exact get?_push_size _ rfl
 ·have e:b=(s.heap.push {cls:=.type "range",data:=.fields #[.int lo t,.int hi u,.int 1 v]}).objs.size:=by simpa using hb
  subst e;exact I1.fpOk (le_refl _) (I1.hok.fresh (le_refl _))
def tO(ta:TA):TI:=λσ H R=>ta σ H λvs H1=>∃j:Int,vs=[.int j]∧-(2 ^ 62)≤j∧j<2 ^ 62∧R (Itr 0 j.toNat) H1
theorem lZ{a:Expr}{ta:TA}{p pos:Pos}(hg:Gl X "range")(hm:X.mg "range"=none)(ha:PA X [a] ta)(hs:starEach [a] X.env=[(false,eval a X.env)]:=by rfl):PI X tg (.Call (.Name "range" p) [a] [] pos) (tO ta):=by
 intro pins s σ H R I h;refine Call_ (cI I hg hm boot_range (PyProof.Rows.callWith_type1 (thn (ha pos pins s σ H _ I h) λus s1 ⟨vs,H1,I1,r1,q1⟩=>?_) hs rfl));obtain⟨j,e,q1,q2,q⟩:=q1;subst e;cases r1 with
 |cons r rr =>
  cases rr;obtain⟨t,rfl⟩:=r;exact call_range_1 (nB I1 (by omega) (by omega) q1 q2 (by simpa using q))
def uM(wi:TI)(g:TG)(tb:TS):TS:=λD σ H=>wi σ H λJ H1=>∃W:Nat→Nat→St→Hp→Prop,(∃m,W 0 m σ H1)∧∀i m σ H,W i m σ H →
 (J.stop i H∧D.nx σ H)∨(J.go i H∧∃N:St→Hp→Prop,(∀σ' H',N σ' H'→∃m',m'<m∧W (i+1) m' σ' H')∧∀x H',J.yld i H x H'→g x σ H' λσ2 H2=>tb {D with nx:=N,ct:=N,bk:=D.nx} σ2 H2)
def iq(fp:List Addr)(h:Heap):List (Addr×Obj):=fp.filterMap λb=>(h.get? b).map λo=>(b,o)
theorem aZ{fp:List Addr}{h:Heap}{b:Addr}{o:Obj}(hb:b∈fp)(e:h.get? b=some o):(b,o)∈iq fp h:=mem_filterMap.mpr ⟨b,hb,by rw[e];rfl⟩
theorem ma{fp:List Addr}{h:Heap}{p:Addr×Obj}(hp:p∈iq fp h):p.1∈fp∧h.get? p.1=some p.2:=by
 obtain⟨b,hb,e⟩:=mem_filterMap.mp hp;cases q:h.get? b with
 |none=>rw[q]at e;cases e
 |some o =>
  rw[q]at e;have e':(b,o)=p:=Option.some.inj e;subst e';exact⟨hb,q⟩
theorem Inv.pinned{pins:List (Addr×Obj)}{σ:St}{H:Hp}{s:Shared}{fp:List Addr}(I:Inv X pins σ H s)(hf:∀b∈fp,eI X pins H b)(ho:∀b∈fp,∃o,s.heap.get? b=some o∧∀v,o.data≠.cell v):Inv X (pins++iq fp s.heap) σ H s :=
 I.pins_of λp hp=>(mem_append.mp hp).elim (λz=>I.pin p (mem_append_right _ z)) λz=>by
  obtain⟨hb,e⟩:=ma z;obtain⟨f0,f1,f2,_⟩:=hf p.1 hb;obtain⟨o,e',d⟩:=ho p.1 hb;rw[e]at e';cases e';exact⟨e,f0,f1,f2,d⟩
theorem Inv.unpinned{pins pl:List (Addr×Obj)}{σ:St}{H:Hp}{s:Shared}(I:Inv X (pins++pl) σ H s):Inv X pins σ H s:=I.pins_of λp hp=>I.pin p (mem_append_right _ (mem_append_left _ hp))
theorem dn{iter:Expr}{body:List Stmt}{wi:TI}{g:TG}{tb:TS}{pos:Pos}(hp:PassesOwn (model X.prog X.w) X.A X.env X.xe)(hc:X.calm=true)(hi:PI X tg iter wi)(hg:PG X tg g)(hb:PSs X body tb)(hs:∀x,foldedSetIterable iter X.env x=pure x:=by intro _;rfl):PS X (.For tg iter body [] pos) (uM wi g tb):=by
 intro pins s σ H D I h;refine wpAny_For (thn (hi pins s σ H _ I h) λv s1 h1=>thn h1 λitv s2 h2=>?_) hs;obtain⟨it,fp,tn,J,H2,e,I2,T,st2,f2,W,⟨m0,w0⟩,turn⟩:=h2;subst e;have stat:∀{H':Hp},(∀b∈fp,H' b=none)→∀b∈fp,eI X pins H' b:=λhn b hb=>⟨hn b hb,(f2 b hb).2⟩;refine codeAny_forLoop_any (λn s'=>∃i σ' H',Inv X pins σ' H' s'∧tn i s'.heap∧(∀b∈fp,H' b=none)∧W i n σ' H') ?_ m0 ⟨0,σ,H2,I2,st2,λb hb=>(f2 b hb).1,w0⟩;rintro n s3 ⟨i,σ3,H3,I3,st3,fr3,w3⟩;rcases turn i n σ3 H3 w3 with⟨stop,qn⟩|⟨go,N,hN,step⟩
 ·refine wpAny_passesOwn hp (thn (T.done X rfl rfl rfl hc i pins s3 σ3 H3 X.xe I3 (stat fr3) st3 stop) λr s4 hpt=>?_);obtain⟨hr,I4⟩:=hpt;subst hr;exact wpAny_execs_nil ⟨σ3,H3,I4,qn⟩
 ·refine wpAny_passesOwn hp (thn (T.item X rfl rfl rfl hc i pins s3 σ3 H3 X.xe I3 (stat fr3) st3 go) λr s4 hpt=>?_);obtain⟨u,hr,h4⟩:=hpt;subst hr;refine wpAny_passesOwn hp (thn h4 λ_ s5 hpt=>?_);obtain⟨x,H5,I5,r5,y5,st5,fr5⟩:=hpt;have I5':=I5.pinned (stat fr5) (T.obj _ _ st5);refine wpAny_passesOwn hp (thn (hg _ s5 σ3 H5 x u _ I5' r5 (step x H5 y5)) λ_ s6 hpt=>?_);obtain⟨σ6,H6,I6,q6⟩:=hpt;refine wpAny_passesOwn hp (thn (hb _ s6 σ6 H6 _ I6 q6) λf s7 q7=>?_);have again:∀{σ7:St}{H7:Hp},Inv X (pins++iq fp s5.heap) σ7 H7 s7→N σ7 H7→∃m,m<n∧∃i σ' H',Inv X pins σ' H' s7∧tn i s7.heap∧(∀b∈fp,H' b=none)∧W i m σ' H':=λ{σ7 H7} I7 n7=>by
   obtain⟨m',hm,w7⟩:=hN σ7 H7 n7;refine⟨m',hm,i+1,σ7,H7,I7.unpinned,T.keep _ _ _ st5 λb hb o e=>(I7.pin (b,o) (mem_append_right _ (mem_append_right _ (aZ hb e)))).1,λb hb=>?_,w7⟩;obtain⟨o,e,d⟩:=T.obj _ _ st5 b hb;exact(I7.pin (b,o) (mem_append_right _ (mem_append_right _ (aZ hb e)))).2.1
  cases f with
  |next=>obtain⟨σ7,H7,I7,n7⟩:=q7;exact again I7 n7
  |cont=>obtain⟨σ7,H7,I7,n7⟩:=q7;exact again I7 n7
  |brk=>obtain⟨σ7,H7,I7,q7⟩:=q7;exact⟨σ7,H7,I7.unpinned,q7⟩
  |ret v=>obtain⟨x7,σ7,H7,I7,r7,q7⟩:=q7;exact⟨x7,σ7,H7,I7.unpinned,r7,q7⟩
end
theorem dG{K:PySem.W.Frag}{a:Addr}{xs:List V}{g:TG}{tb:TS}{D:Ends}{σ:St}{H:Hp}(Pv:Nat→St→Hp→Prop)(h0:Pv 0 σ H)(hl:∀i σ H,i≤xs.length→Pv i σ H→SqL K H a xs)(hs:∀i x σ H,xs[i]?=some x→Pv i σ H→g x σ H λσ2 H2=>tb {D with nx:=Pv (i+1),ct:=Pv (i+1),bk:=D.nx} σ2 H2)(hd:∀σ H,Pv xs.length σ H→D.nx σ H):
  ∃W:Nat→Nat→St→Hp→Prop,(∃m,W 0 m σ H)∧∀i m σ H,W i m σ H →
   ((Itl K a).stop i H∧D.nx σ H)∨((Itl K a).go i H∧∃N:St→Hp→Prop,(∀σ' H',N σ' H'→∃m',m'<m∧W (i+1) m' σ' H')∧∀x H',(Itl K a).yld i H x H'→g x σ H' λσ2 H2=>tb {D with nx:=N,ct:=N,bk:=D.nx} σ2 H2):=by
 refine⟨λi m σ H=>m=xs.length-i∧i≤xs.length∧Pv i σ H,⟨xs.length,by simp,zero_le _,h0⟩,?_⟩;rintro i m σ H ⟨rfl,hi,p⟩;have q:=hl i σ H hi p
 by_cases hlt:i<xs.length
 ·refine .inr ⟨⟨xs,xs[i],q,by simp[hlt]⟩,Pv (i+1),λσ' H' p'=>⟨xs.length-(i+1),by omega,rfl,hlt,p'⟩,λx H' y=>?_⟩;obtain⟨e,y⟩:=y;subst e;exact hs i x σ _ (y xs q) p
 ·have e:i=xs.length:=by omega
  subst e;exact .inl ⟨⟨xs,q,le_refl _⟩,hd σ H p⟩
theorem md{lo:Int}{n:Nat}{g:TG}{tb:TS}{D:Ends}{σ:St}{H:Hp}(Pv:Nat→St→Hp→Prop)(h0:Pv 0 σ H)(hs:∀i σ H,i<n→Pv i σ H→g (.int (lo+i)) σ H λσ2 H2=>tb {D with nx:=Pv (i+1),ct:=Pv (i+1),bk:=D.nx} σ2 H2)(hd:∀σ H,Pv n σ H→D.nx σ H):
  ∃W:Nat→Nat→St→Hp→Prop,(∃m,W 0 m σ H)∧∀i m σ H,W i m σ H →
   ((Itr lo n).stop i H∧D.nx σ H)∨((Itr lo n).go i H∧∃N:St→Hp→Prop,(∀σ' H',N σ' H'→∃m',m'<m∧W (i+1) m' σ' H')∧∀x H',(Itr lo n).yld i H x H'→g x σ H' λσ2 H2=>tb {D with nx:=N,ct:=N,bk:=D.nx} σ2 H2):=by
 refine⟨λi m σ H=>m=n-i∧i≤n∧Pv i σ H,⟨n,by simp,zero_le _,h0⟩,?_⟩;rintro i m σ H ⟨rfl,hi,p⟩
 by_cases hlt:i<n
 ·refine .inr ⟨hlt,Pv (i+1),λσ' H' p'=>⟨n-(i+1),by omega,rfl,hlt,p'⟩,λx H' y=>?_⟩;obtain⟨e,y⟩:=y;subst e y;exact hs i σ _ hlt p
 ·have e:i=n:=by omega
  subst e;exact .inl ⟨le_refl _,hd σ H p⟩
theorem nC{c:TT}{tb:TS}{D:Ends}{σ:St}{H:Hp}(Pv:St→Hp→Prop)(μ:St→Hp→Nat)(h0:Pv σ H)(hs:∀σ H,Pv σ H→c σ H λb H1=>if b=true then tb {D with nx:=λσ' H'=>Pv σ' H'∧μ σ' H'<μ σ H,ct:=λσ' H'=>Pv σ' H'∧μ σ' H'<μ σ H,bk:=D.nx} σ H1 else D.nx σ H1)(mono:∀σ H Q Q',(∀b H1,Q b H1→Q' b H1)→c σ H Q→c σ H Q'):ny c tb D σ H:=by
 refine⟨λm σ H=>m=μ σ H∧Pv σ H,⟨_,rfl,h0⟩,?_⟩;rintro m σ H ⟨rfl,p⟩;refine mono σ H _ _ (λb H1 q=>?_) (hs σ H p);cases b with
 |true=>exact⟨_,λσ' H' ⟨p',l⟩=>⟨_,l,rfl,p'⟩,q⟩
 |false=>exact q
abbrev R2:=V→V→Hp→VK→Prop
def OpR(X:Cx)(f:Value→Value→Sem Value)(r:R2):Prop :=
 ∀(pins:List (Addr×Obj))(s:Shared)(σ:St)(H:Hp)(x y:V)(v u:Value)(Q:VK),Inv X pins σ H s→av x v→av y u→r x y H Q →
  wpAny (model X.prog X.w) X.A (f v u) (EP X pins σ Q) X.xe s
def bZ(X:Cx)(f:Value)(r:List V→Hp→VK→Prop):Prop :=
 ∀(pins:List (Addr×Obj))(s:Shared)(σ:St)(H:Hp)(xs:List V)(us:List Value)(Q:VK),Inv X pins σ H s→aq xs us→r xs H Q →
  wpAny (model X.prog X.w) X.A (call f us) (EP X pins σ Q) X.xe s
def tOp(r:R2)(ta tb:TE):TE:=λσ H Q=>ta σ H λx H1=>tb σ H1 λy H2=>r x y H2 Q
def rI(C:Int→Int→Prop)(g:Int→Int→V):R2:=λx y H Q=>∃i j,x=.int i∧y=.int j∧C i j∧Q (g i j) H
def rI0(g:Int→Int→V):R2:=λx y H Q=>∃i j,x=.int i∧y=.int j∧Q (g i j) H
section
variable{X:Cx}{a b c:Expr}{ta tb tc:TE}{pos:Pos}
theorem rJ(ha:PE X a ta)(hb:PE X b tb){pins:List (Addr×Obj)}{s:Shared}{σ:St}{H:Hp}{R:V→V→Hp→Prop}(I:Inv X pins σ H s)(h:ta σ H λx H1=>tb σ H1 λy H2=>R x y H2){Q:Value→Shared→Prop}{f:Value→Value→Sem Value}(hf:∀v u s2 x y H2,Inv X pins σ H2 s2→av x v→av y u→R x y H2→wpAny (model X.prog X.w) X.A (f v u) Q X.xe s2):
  wpAny (model X.prog X.w) X.A (eval a X.env) (λv s₁=>wpAny (model X.prog X.w) X.A (eval b X.env) (λu s₂=>wpAny (model X.prog X.w) X.A (f v u) Q X.xe s₂) X.xe s₁) X.xe s:=by
 refine thn (ha pins s σ H _ I h) λv s1 hpt=>?_;obtain⟨x,H1,I1,r1,q1⟩:=hpt;refine thn (hb pins s1 σ H1 _ I1 q1) λu s2 hpt=>?_;obtain⟨y,H2,I2,r2,q2⟩:=hpt;exact hf v u s2 x y H2 I2 r1 r2 q2
theorem aF{op:Operator}{r:R2}(ho:OpR X (binaryOp op) r)(ha:PE X a ta)(hb:PE X b tb):PE X (.BinOp a op b pos) (tOp r ta tb):=by
 intro pins s σ H Q I h;exact wpAny_BinOp (rJ ha hb I h λv u s2 x y H2 I2 rx ry q=>ho pins s2 σ H2 x y v u Q I2 rx ry q)
theorem opI{f:Value→Value→Sem Value}{C:Int→Int→Prop}{g:Int→Int→Int}(rule:∀(i j:Int) (t u:Tok) (s:Shared) (Q:Value→Shared→Prop) (E:Value→Shared→Prop),C i j→Q (.int (g i j) s.toks) {s with toks:=s.toks+1}→wpAny (model X.prog X.w) X.A (f (.int i t) (.int j u)) Q E s):
  OpR X f (rI C λi j=>.int (g i j)):=by
 intro pins s σ H x y v u Q I rx ry h;obtain⟨i,j,rfl,rfl,hc,q⟩:=h;obtain⟨t,rfl⟩:=rx;obtain⟨t',rfl⟩:=ry;exact rule i j t t' s _ _ hc ⟨.int (g i j),H,I.tok _,⟨_,rfl⟩,q⟩
theorem tP{f:Value→Value→Sem Value}{g:Int→Int→Int}(rule:∀(i j:Int) (t u:Tok) (s:Shared) (Q:Value→Shared→Prop) (E:Value→Shared→Prop),Q (.int (g i j) s.toks) {s with toks:=s.toks+1}→wpAny (model X.prog X.w) X.A (f (.int i t) (.int j u)) Q E s):
  OpR X f (rI0 λi j=>.int (g i j)):=by
 intro pins s σ H x y v u Q I rx ry h;obtain⟨i,j,rfl,rfl,q⟩:=h;obtain⟨t,rfl⟩:=rx;obtain⟨t',rfl⟩:=ry;exact rule i j t t' s _ _ ⟨.int (g i j),H,I.tok _,⟨_,rfl⟩,q⟩
theorem tQ{f:Value→Value→Sem Value}{g:Int→Int→Bool}(rule:∀(i j:Int) (t u:Tok) (s:Shared) (Q:Value→Shared→Prop) (E:Value→Shared→Prop),Q (.bool (g i j)) s→wpAny (model X.prog X.w) X.A (f (.int i t) (.int j u)) Q E s):
  OpR X f (rI0 λi j=>.bl (g i j)):=by
 intro pins s σ H x y v u Q I rx ry h;obtain⟨i,j,rfl,rfl,q⟩:=h;obtain⟨t,rfl⟩:=rx;obtain⟨t',rfl⟩:=ry;exact rule i j t t' s _ _ ⟨.bl (g i j),H,I,rfl,q⟩
def uN(i j:Int):Prop:=0<j∧j<1073741824
def rK(i j:Int):Prop:=(-(2 ^ 64)<i∧i<2 ^ 64)∨(-(2 ^ 64)<j∧j<2 ^ 64)
theorem rK.ok{i j:Int}(h:rK i j):IntMulOk i j:=by
 rcases h with⟨h1,h2⟩|⟨h1,h2⟩
 ·exact .of_left (intBits_le_64 h1 h2)
 ·exact .of_right (intBits_le_64 h1 h2)
theorem aW:OpR X (binaryOp .Add) (rI0 λi j=>.int (i+j)):=tP λ_ _ _ _ _ _ _ q=>add_int q
theorem cJ:OpR X (binaryOp .Mult) (rI rK λi j=>.int (i*j)):=opI λ_ _ _ _ _ _ _ hc q=>mul_int q hc.ok
theorem pQ:OpR X (binaryOp .FloorDiv) (rI uN λi j=>.int (i / j)):=opI λi j _ _ _ _ _ hc q=>by
 have h1:(0:Int)<j:=hc.1;have h2:j<1073741824:=hc.2;exact floordiv_int (by omega) (by rw[Int.fdiv_eq_ediv_of_nonneg i (by omega)];exact q) (.inl (PyProof.noPylong_small (by omega)))
theorem ir:OpR X (binaryOp .Mod) (rI (λ_ j=>0<j) λi j=>.int (i % j)):=opI λi j _ _ _ _ _ hc q=>by
 have h1:(0:Int)<j:=hc;exact mod_int' (by omega) (by rw[Int.fmod_eq_emod_of_nonneg i (by omega)];exact q)
theorem pR:OpR X (inplaceOp .Add) (rI0 λi j=>.int (i+j)):=tP λ_ _ _ _ _ _ _ q=>iadd_int q
end
def tR:V→V→Bool
 |.non,.non=>true | .non,.int _=>true | .int _,.non=>true | .non,.bl _=>true | .bl _,.non=>true | .non,.str _=>true | .str _,.non=>true
 |.int _,.int _=>true | .bl _,.bl _=>true | .str _,.str _=>true | .byt _,.byt _=>true
 |.int _,.str _=>true | .str _,.int _=>true | .bl _,.str _=>true | .str _,.bl _=>true
 |_,_=>false
def rEq:R2:=λx y H Q=>tR x y=true∧Q (.bl (decide (x=y))) H
def rNe:R2:=λx y H Q=>tR x y=true∧Q (.bl (!decide (x=y))) H
theorem lr{i j:Int}:decide (V.int i=V.int j)=(i==j):=by
 rw[Bool.eq_iff_iff];simp
theorem nD{i j:Bool}:decide (V.bl i=V.bl j)=(i==j):=by
 rw[Bool.eq_iff_iff];simp
theorem ls{i j:Str}:decide (V.str i=V.str j)=(i==j):=by
 rw[Bool.eq_iff_iff];simp
theorem lu{i j:Array UInt8}:decide (V.byt i=V.byt j)=(i.toList==j.toList):=by
 rw[Bool.eq_iff_iff];cases i;cases j;simp
section
variable{X:Cx}{a b c:Expr}{ta tb tc:TE}{pos:Pos}
theorem ay{pins:List (Addr×Obj)}{σ:St}{H:Hp}{s:Shared}{Q:VK}{k k':Bool}(I:Inv X pins σ H s)(q:Q (.bl k) H)(e:k=k'):EP X pins σ Q (.bool k') s:=by
 subst e;exact⟨.bl k,H,I,rfl,q⟩
theorem ri:OpR X (compareOp .Eq) rEq:=by
 intro pins s σ H x y v u Q I rx ry h;obtain⟨hs,q⟩:=h;cases x with
 |non =>
  cases rx;cases y with
  |non=>cases ry;exact PySem.EqNone.eq_none_none (ay I q (by simp))
  |bl j=>cases ry;exact PySem.EqNone.eq_none_bool (ay I q (by simp))
  |int j=>obtain⟨t',rfl⟩:=ry;exact PySem.EqNone.eq_none_int (ay I q (by simp))
  |str j=>obtain⟨t',rfl⟩:=ry;exact PySem.EqNone.eq_none_str (ay I q (by simp))
  |_=>exact absurd (show false=true from hs) Bool.false_ne_true
 |bl i =>
  cases rx;cases y with
  |non=>cases ry;exact PySem.EqNone.eq_bool_none (ay I q (by simp))
  |bl j=>cases ry;exact eq_bool (ay I q nD)
  |str j=>obtain⟨t',rfl⟩:=ry;exact PySem.EqMixed.eq_bool_str (ay I q (by simp))
  |_=>exact absurd (show false=true from hs) Bool.false_ne_true
 |int i =>
  obtain⟨t,rfl⟩:=rx;cases y with
  |non=>cases ry;exact PySem.EqNone.eq_int_none (ay I q (by simp))
  |int j=>obtain⟨t',rfl⟩:=ry;exact eq_int (ay I q lr)
  |str j=>obtain⟨t',rfl⟩:=ry;exact PySem.EqMixed.eq_int_str (ay I q (by simp))
  |_=>exact absurd (show false=true from hs) Bool.false_ne_true
 |str i =>
  obtain⟨t,rfl⟩:=rx;cases y with
  |non=>cases ry;exact PySem.EqNone.eq_str_none (ay I q (by simp))
  |bl j=>cases ry;exact PySem.EqMixed.eq_str_bool (ay I q (by simp))
  |int j=>obtain⟨t',rfl⟩:=ry;exact PySem.EqMixed.eq_str_int (ay I q (by simp))
  |str j=>obtain⟨t',rfl⟩:=ry;exact eq_str (ay I q ls)
  |_=>exact absurd (show false=true from hs) Bool.false_ne_true
 |byt i =>
  obtain⟨t,rfl⟩:=rx;cases y with
  |byt j=>obtain⟨t',rfl⟩:=ry;exact PySem.W.eq_bytes (ay I q lu)
  |_=>exact absurd (show false=true from hs) Bool.false_ne_true
 |_=>cases y<;>exact absurd (show false=true from hs) Bool.false_ne_true
theorem rj:OpR X (compareOp .NotEq) rNe:=by
 intro pins s σ H x y v u Q I rx ry h;obtain⟨hs,q⟩:=h;cases x with
 |non =>
  cases rx;cases y with
  |non=>cases ry;exact PySem.EqNone.ne_none_none (ay I q (by simp))
  |bl j=>cases ry;exact PySem.EqNone.ne_none_bool (ay I q (by simp))
  |int j=>obtain⟨t',rfl⟩:=ry;exact PySem.EqNone.ne_none_int (ay I q (by simp))
  |str j=>obtain⟨t',rfl⟩:=ry;exact PySem.EqNone.ne_none_str (ay I q (by simp))
  |_=>exact absurd (show false=true from hs) Bool.false_ne_true
 |bl i =>
  cases rx;cases y with
  |non=>cases ry;exact PySem.EqNone.ne_bool_none (ay I q (by simp))
  |bl j=>cases ry;exact ne_bool (ay I q (congrArg not nD))
  |str j=>obtain⟨t',rfl⟩:=ry;exact PySem.EqMixed.ne_bool_str (ay I q (by simp))
  |_=>exact absurd (show false=true from hs) Bool.false_ne_true
 |int i =>
  obtain⟨t,rfl⟩:=rx;cases y with
  |non=>cases ry;exact PySem.EqNone.ne_int_none (ay I q (by simp))
  |int j=>obtain⟨t',rfl⟩:=ry;exact ne_int (ay I q (congrArg not lr))
  |str j=>obtain⟨t',rfl⟩:=ry;exact PySem.EqMixed.ne_int_str (ay I q (by simp))
  |_=>exact absurd (show false=true from hs) Bool.false_ne_true
 |str i =>
  obtain⟨t,rfl⟩:=rx;cases y with
  |non=>cases ry;exact PySem.EqNone.ne_str_none (ay I q (by simp))
  |bl j=>cases ry;exact PySem.EqMixed.ne_str_bool (ay I q (by simp))
  |int j=>obtain⟨t',rfl⟩:=ry;exact PySem.EqMixed.ne_str_int (ay I q (by simp))
  |str j=>obtain⟨t',rfl⟩:=ry;exact ne_str (ay I q (congrArg not ls))
  |_=>exact absurd (show false=true from hs) Bool.false_ne_true
 |byt i =>
  obtain⟨t,rfl⟩:=rx;cases y with
  |byt j=>obtain⟨t',rfl⟩:=ry;exact PySem.W.ne_bytes (ay I q (congrArg not lu))
  |_=>exact absurd (show false=true from hs) Bool.false_ne_true
 |_=>cases y<;>exact absurd (show false=true from hs) Bool.false_ne_true
theorem tS:OpR X (compareOp .Lt) (rI0 λi j=>.bl (decide (i<j))):=tQ λ_ _ _ _ _ _ _ q=>lt_int q
theorem tT:OpR X (compareOp .Gt) (rI0 λi j=>.bl (decide (j<i))):=tQ λ_ _ _ _ _ _ _ q=>gt_int q
theorem jU:OpR X (compareOp .Is) (λx y H Q=>y=.non∧Q (.bl (decide (x=.non))) H):=by
 intro pins s σ H x y v u Q I rx ry h;obtain⟨rfl,q⟩:=h;cases ry;refine is_none_gen (ay I q ?_);cases x<;>first
  |(cases rx;rfl)
  |(obtain⟨t,rfl⟩:=rx;rfl)
theorem pS:OpR X (compareOp .IsNot) (λx y H Q=>y=.non∧Q (.bl (!decide (x=.non))) H):=by
 intro pins s σ H x y v u Q I rx ry h;obtain⟨rfl,q⟩:=h;cases ry;refine isnot_none_gen (ay I q ?_);cases x<;>first
  |(cases rx;rfl)
  |(obtain⟨t,rfl⟩:=rx;rfl)
theorem be(b:Expr){op:CmpOp}(h:op≠.In:=by decide)(h2:op≠.NotIn:=by decide):behindInMarks op b=false:=by
 have e1:(op==CmpOp.In)=false:=by cases op<;>first|rfl|exact absurd rfl h
 have e2:(op==CmpOp.NotIn)=false:=by cases op<;>first|rfl|exact absurd rfl h2
 cases b<;>simp[behindInMarks,e1,e2]
theorem iu{op:CmpOp}{r:R2}(ho:OpR X (compareOp op) r)(ha:PE X a ta)(hb:PE X b tb)(hm:behindInMarks op b=false):PE X (.Compare a [op] [b] pos) (tOp r ta tb):=by
 intro pins s σ H Q I h;exact wpAny_Compare1 (rJ ha hb I h λv u s2 x y H2 I2 rx ry q=>ho pins s2 σ H2 x y v u Q I2 rx ry q) hm
def tU(t:TE):TT:=λσ H Q=>t σ H λx H'=>∃k,x=.bl k∧Q k H'
theorem aX{op:CmpOp}{r:R2}(ho:OpR X (compareOp op) r)(ha:PE X a ta)(hb:PE X b tb)(hm:behindInMarks op b=false):PT X (.Compare a [op] [b] pos) (tU (tOp r ta tb)):=by
 intro pins s σ H Q I h;refine wpAny_isTrue_Compare1 (thn (ha pins s σ H _ I h) λv s1 ⟨x,H1,I1,r1,q1⟩=>thn (hb pins s1 σ H1 _ I1 q1) λu s2 ⟨y,H2,I2,r2,q2⟩ =>
  thn (ho pins s2 σ H2 x y v u _ I2 r1 r2 q2) λc s3 ⟨z,H3,I3,r3,k,e,q3⟩=>?_) hm
 subst e;cases r3;exact wpAny_truthy_bool ⟨H3,I3,q3⟩
theorem jV:(sizeLine:Nat)<2 ^ 63:=by rw[sizeLine_eq];decide
theorem cy{x:V}{us:List Value}(r:aq [x] us):∃u,us=[u]∧av x u:=by
 cases r with
 |cons r1 r2=>cases r2;exact⟨_,rfl,r1⟩
theorem rk{x y:V}{us:List Value}(r:aq [x,y] us):∃u w',us=[u,w']∧av x u∧av y w':=by
 cases r with
 |cons r1 r2 =>
  cases r2 with
  |cons r3 r4=>cases r4;exact⟨_,_,rfl,r1,r3⟩
end
section
variable{prog:Program}{w:World}{A:Around}{E:Value→Shared→Prop}{s:Shared}{K:PySem.W.Frag}{x dx C f:Addr}{mA:Str→Option Value}{name:Str}{v:Value}
end
theorem fj.some_of{v:V}{o:Option Value}(r:fj (some v) o):∃u,o=some u∧av v u:=by
 cases o with
 |none=>exact(show False from r).elim
 |some u=>exact⟨u,rfl,r⟩
section
variable{P:Program}{w:World}{H H':Hp}{h h':Heap}{a C dx:Addr}{fs fs':List (Str×V)}
end
section
variable{X:Cx}{pins:List (Addr×Obj)}{σ:St}{H:Hp}{s:Shared}{a C dx:Addr}{fs:List (Str×V)}{f:Str}{v:V}{A:Around}{E:Value→Shared→Prop}
end
section
variable{X:Cx}{o e value:Expr}{f:Str}{pos pos' tpos:Pos}{ta tv:TE}
end
section
variable{X:Cx}{pins:List (Addr×Obj)}{σ:St}{H:Hp}{s:Shared}{A:Around}{E:Value→Shared→Prop}{Q:Value→Shared→Prop}{c:Value}{b:Bool}
end
structure Room(k:Nat)(A:Around):Prop where
 hd:A.handled=none
 dp:A.depth+3*k+5<recursionLimit
 un:A.units+16*k+200<cLine
 gd:A.guards=some []
theorem Room.mono{j k:Nat}{A:Around}(r:Room k A)(h:j≤k):Room j A:=⟨r.hd,by have:=r.dp;omega,by have:=r.un;omega,r.gd⟩
theorem Room.deeper{k:Nat}{A:Around}(r:Room (k+1) A)(env:Env):Room k (A.deeper env) :=
 ⟨r.hd,by have:=r.dp;show A.depth+1+3*k+5<_;omega,by have:=r.un;show A.units+3+16*k+200<_;omega,r.gd⟩
theorem Room.depth{k:Nat}{A:Around}(r:Room k A):A.depth<recursionLimit:=by have:=r.dp;omega
theorem Room.units{k:Nat}{A:Around}(r:Room k A):A.units+64<cLine:=by have:=r.un;omega
theorem Room.units0{k:Nat}{A:Around}(r:Room k A):A.units<cLine:=by have:=r.un;omega
def rL:TA:=λ_ H Q=>Q [] H
def nE(ta:TE)(tr:TA):TA:=λσ H Q=>ta σ H λx H1=>tr σ H1 λxs H2=>Q (x::xs) H2
section
variable{X:Cx}{e:Expr}{es:List Expr}{te:TE}{t:TA}{pos:Pos}
theorem af:PA X [] rL:=λ_ _ _ _ H Q I h=>spliced_nil ⟨[],H,I,.nil,h⟩
theorem aa(ha:PE X e te)(hr:PA X es t)(hs:starEach (e::es) X.env=(false,eval e X.env)::starEach es X.env:=by rfl):PA X (e::es) (nE te t):=by
 intro pos pins s σ H Q I h;rw[hs];show wpAny _ _ (spliced ((false,eval e X.env)::backTo pos (starEach es X.env))) _ _ s;refine spliced_cons (thn (ha pins s σ H _ I h) λu s1 hpt=>?_);obtain⟨x,H1,I1,r1,q1⟩:=hpt;exact thn (hr pos pins s1 σ H1 _ I1 q1) λus s2 ⟨xs,H2,I2,r2,q2⟩=>⟨x::xs,H2,I2,.cons r1 r2,q2⟩
def uO(t:TA):TE:=λσ H Q=>t σ H λxs H1=>xs.length≤sizeLine∧∀p,H1 p=none→Q (.ref p) (upd H1 p (.tup xs))
def uP(t:TA):TE:=λσ H Q=>t σ H λxs H1=>xs.length≤sizeLine∧∀p,H1 p=none→Q (.ref p) (upd H1 p (.lst xs))
theorem bD{x1}(h:PA X es t):PE X (.Tuple es x1 pos) (uO t):=by
 intro pins s σ H Q I hq;refine wpAny_Tuple_spliced (thn (h pos pins s σ H _ I hq) λus s1 ⟨xs,H1,I1,r,z,q⟩=>⟨by rw[←r.length];exact z,?_⟩);have hf:H1 s1.heap.objs.size=none:=I1.hok.fresh (le_refl _);refine⟨.ref s1.heap.objs.size,upd H1 s1.heap.objs.size (.tup xs),I1.laid (t':=s1.toks) (λb u e=>get?_push_of_some _ e) (le_refl _) ?_,rfl,q _ hf⟩;exact⟨z,us,r,⟨_,get?_push_size _ rfl,rfl,_,rfl⟩⟩
theorem cr(h:PA X es t):PE X (.List es pos) (uP t):=by
 intro pins s σ H Q I hq;refine wpAny_List_spliced (thn (h pos pins s σ H _ I hq) λus s1 ⟨xs,H1,I1,r,z,q⟩=>⟨by rw[←r.length];exact z,?_⟩);have hf:H1 s1.heap.objs.size=none:=I1.hok.fresh (le_refl _);refine⟨.ref s1.heap.objs.size,upd H1 s1.heap.objs.size (.lst xs),I1.laid (t':=s1.toks) (λb u e=>get?_push_of_some _ e) (le_refl _) ?_,rfl,q _ hf⟩;exact⟨z,us,0,r,get?_push_size _ rfl⟩
end
abbrev Sp:=List V→Hp→VK→XK→Prop
abbrev CXT:=List Env→Hp→Shared→XK→Value→Shared→Prop
structure Env0(P:Program)(w:World)(K:PySem.W.Frag)(mg:Str→Option Value)(base:Heap)(A:Around)(outer:List Env)(s:Shared)(H:Hp):Prop where
 frames:A.frames=some outer
 mod:Mod K mg base
 bs:∀b o,base.get? b=some o→s.heap.get? b=some o∧H b=none
 bsz:base.objs.size≤s.heap.objs.size
 funs:s.heap.FunFrames base outer
 frf:∀b∈frs outer,H b=none
 hok:HOk P w H s.heap
 bare:AllBare s.gens
def CE(outer:List Env)(P:Program)(w:World)(H:Hp)(s:Shared)(Q:VK)(u:Value)(s':Shared):Prop :=
 ∃v H',s'.os=s.os∧AllBare s'.gens∧Un (frs outer) [] H H' s.heap s'.heap∧HOk P w H' s'.heap∧av v u∧Q v H'
def CR(CX:CXT)(outer:List Env)(P:Program)(w:World)(H:Hp)(s:Shared)(Q:VK)(E:XK)(r:Result)(s':Shared):Prop :=
 match r with
 |.ok (.ret u)=>CE outer P w H s Q u s'
 |.ok _=>False
 |.error e=>CX outer H s E e s'
structure FnOk(P:Program)(w:World)(K:PySem.W.Frag)(mg:Str→Option Value)(base:Heap)(CX:CXT)(k:Nat)(f:Addr)(fd:FuncData)(ps:List Str)(sp:Sp):Prop where
 len:∀vs H Q E,sp vs H Q E→vs.length=ps.length
 run:∀(A:Around)(outer:List Env)(s:Shared)(H:Hp)(args:Args)(us:List Value)(vs:List V)(Q:VK)(E:XK),Room k A→Env0 P w K mg base A outer s H→BindsTo s fd args (ps.zip us)→aq vs us→sp vs H Q E →
  codeAny (model P w) A (.call (.ref f) args) (CR CX outer P w H s Q E) s
section
variable{X:Cx}{pins:List (Addr×Obj)}{σ:St}{H:Hp}{s s':Shared}
theorem Inv.env0(I:Inv X pins σ H s):Env0 X.prog X.w X.K X.mg X.base X.A X.stack s H :=
 ⟨I.ok.frames,I.ok.mod,I.bs,le_trans I.ok.bsz I.sz,I.stack,I.stkFree,I.hok,I.bare⟩
theorem Inv.after{Q:VK}{u:Value}(I:Inv X pins σ H s)(h:CE X.stack X.prog X.w H s Q u s'):EP X pins σ Q u s':=by
 obtain⟨v,H',os,bare,un,hok,r,q⟩:=h;obtain⟨hh,g,d,t,os'⟩:=s';obtain rfl:os'=s.os:=os;exact⟨v,H',I.call (h':=hh) (g':=g) (d':=d) (t':=t) (ch:=[]) un hok bare (λb z=>absurd z (by simp)),r,q⟩
end
def tV(sp:Sp)(dvs:List V)(E:XK)(t:TA):TE:=λσ H Q=>t σ H λvs H1=>sp (vs++dvs) H1 Q E
def cT(K:PySem.W.Frag)(fd:FuncData)(ps:List Str)(ds:List Value):Prop :=
 ∀(s:Shared)(us:List Value),K.In s.heap→(us++ds).length=ps.length→BindsTo s fd ⟨us,[]⟩ (ps.zip (us++ds))
theorem cT.all{K:PySem.W.Frag}{fd:FuncData}{ps:List Str}(h:∀us:List Value,us.length=ps.length→bindArgs fd ⟨us,[]⟩=pure (ps.zip us)):cT K fd ps []:=λs us _ hl=>by
 rw[append_nil]at hl⊢;exact .of_eq (h us hl)
def jW(CX:CXT)(X:Cx)(E:XK):Prop:=∀(pins:List (Addr×Obj))(σ:St)(H:Hp)(s:Shared)(e:Value)(s':Shared),Inv X pins σ H s→CX X.stack H s E e s'→X.xe e s'
section
variable{X:Cx}{CX:CXT}{k:Nat}{f C:Addr}{fd:FuncData}{ps:List Str}{sp:Sp}{dvs:List V}{ds:List Value}{E:XK}{x m:Str}{p pos apos:Pos}{e o:Expr}{es:List Expr}{ta:TE}{t:TA}
theorem rM{pins:List (Addr×Obj)}{σ:St}{H:Hp}{s:Shared}{Q:VK}{us:List Value}{vs:List V}(F:FnOk X.prog X.w X.K X.mg X.base CX k f fd ps sp)(hr:Room k X.A)(hb:cT X.K fd ps ds)(hd:aq dvs ds)(hx:jW CX X E)(I:Inv X pins σ H s)(r:aq vs us)(h:sp (vs++dvs) H Q E):wpAny (model X.prog X.w) X.A (call (.ref f) us) (EP X pins σ Q) X.xe s:=by
 have r2:aq (vs++dvs) (us++ds):=r.append hd;have hl:(us++ds).length=ps.length:=by rw[←r2.length];exact F.len _ _ _ _ h
 refine wpAny_call (codeAny_mono (F.run X.A X.stack s H ⟨us,[]⟩ (us++ds) (vs++dvs) Q E hr I.env0 (hb s us I.kIn hl) r2 h) λr s' hq=>?_);cases r with
 |error e=>exact hx pins σ H s e s' I hq
 |ok fl =>
  cases fl with
  |ret u=>exact I.after hq
  |next=>exact False.elim hq
  |brk=>exact False.elim hq
  |cont=>exact False.elim hq
theorem am(F:FnOk X.prog X.w X.K X.mg X.base CX k f fd ps sp)(hr:Room k X.A)(hg:Gl X x)(hm:X.mg x=some (.ref f))(hk:keepIn X.K (.ref f)=true)(hb:cT X.K fd ps ds)(hd:aq dvs ds)(hx:jW CX X E)(ha:PA X (e::es) t)(hdb:(x==("__debug__":Str))=false:=by decide)(he:starEach (e::es) X.env=(false,eval e X.env)::starEach es X.env:=by rfl)(hpl:(backTo pos (starEach es X.env)).any (·.1)=false:=by rfl):
  PE X (.Call (.Name x p) (e::es) [] pos) (tV sp dvs E t):=by
 intro pins s σ H Q I h;refine wpAny_Call_Name_kw (lj I hg hm ?_ hdb);refine PySem.W.callWith_K (h₀:=X.base) I.ok.mod.kin hk (thn (ha pos pins s σ H _ I h) λus s1 ⟨vs,H1,I1,r,q⟩=>⟨I1.kIn,?_⟩) he hpl;exact rM F hr hb hd hx I1 r q
end
section
variable{X:Cx}{CX:CXT}{k:Nat}{f C:Addr}{fd:FuncData}{ps ks:List Str}{sp:Sp}{E:XK}{x m:Str}{p pos apos kpos:Pos}{e o:Expr}{es:List Expr}{kws:List Keyword}{te ta:TE}{t tk:TA}{nm:Option Str}
variable{g:List Value→List Value→List Value}{gV:List V→List V→List V}
end
structure FnScope(N P:List Str)(sc:Scope):Prop where
 kind:sc.kind=.function
 co:sc.isCoroutine=false
 gen:sc.isGenerator=false
 nd:N.Nodup
 pre:N.take P.length=P
 par:∀x∈P,sc.names.lookup x=some .local∨sc.names.lookup x=some .cell
 nofree:∀y∈sc.names,y.2≠.free
theorem fsc{N P:List Str}{c:Scope}(a:c.kind=.function:=by rfl)(b:c.isCoroutine=false:=by rfl)(d:c.isGenerator=false:=by rfl)(e:N.Nodup:=by decide +kernel)(f:N.take P.length=P:=by rfl)(g:∀x∈P,c.names.lookup x=some .local∨c.names.lookup x=some .cell:=by decide +kernel)(h:∀y∈c.names,y.2≠.free:=by decide +kernel):FnScope N P c:=⟨a,b,d,e,f,g,h⟩
theorem gL{kindOf:Str→Option NameKind}{x:Str}:∀{binds:List (Str×Value)}{m:Str→Option Value},(∀v,(x,v)∉binds)→bindL kindOf binds m x=m x
 |[],_,_=>rfl
 |(n,v)::r,m,h=>by
  unfold bindL;rw[gL λw hw=>h w (mem_cons_of_mem _ hw)]
  split
  ·have:x≠n:=by rintro rfl;exact h v mem_cons_self
   simp[this]
  ·rfl
theorem gM{kindOf:Str→Option NameKind}{x:Str}:∀{binds:List (Str×Value)}{m:Str→Option Value},(∀v,(x,v)∉binds)→bindC kindOf binds m x=m x
 |[],_,_=>rfl
 |(n,v)::r,m,h=>by
  unfold bindC;rw[gM λw hw=>h w (mem_cons_of_mem _ hw)]
  split
  ·rfl
  ·have:x≠n:=by rintro rfl;exact h v mem_cons_self
   simp[this]
theorem gO{kindOf:Str→Option NameKind}{x:Str}{v:Value}:∀{P:List Str}{vs:List Value}{i:Nat}{m:Str→Option Value},P.Nodup→P[i]?=some x→vs[i]?=some v→kindOf x=some .local →
  bindL kindOf (P.zip vs) m x=some v
 |[],_,_,_,_,h,_,_=>by simp at h
 |_::_,[],_,_,_,_,h,_=>by simp at h
 |p::P,w::vs,0,m,nd,h1,h2,hk=>by
  simp at h1 h2;subst h1;subst h2;show bindL kindOf ((p,w)::P.zip vs) m p=_;unfold bindL;rw[gL λv hv=>(nodup_cons.mp nd).1 (of_mem_zip hv).1,if_pos hk];simp
 |p::P,w::vs,i+1,m,nd,h1,h2,hk=>by
  show bindL kindOf ((p,w)::P.zip vs) m x=_;unfold bindL;exact gO (i:=i) (nodup_cons.mp nd).2 (by simpa using h1) (by simpa using h2) hk
theorem gP{kindOf:Str→Option NameKind}{x:Str}{v:Value}:∀{P:List Str}{vs:List Value}{i:Nat}{m:Str→Option Value},P.Nodup→P[i]?=some x→vs[i]?=some v→kindOf x≠some .local →
  bindC kindOf (P.zip vs) m x=some v
 |[],_,_,_,_,h,_,_=>by simp at h
 |_::_,[],_,_,_,_,h,_=>by simp at h
 |p::P,w::vs,0,m,nd,h1,h2,hk=>by
  simp at h1 h2;subst h1;subst h2;show bindC kindOf ((p,w)::P.zip vs) m p=_;unfold bindC;rw[gM λv hv=>(nodup_cons.mp nd).1 (of_mem_zip hv).1,if_neg hk];simp
 |p::P,w::vs,i+1,m,nd,h1,h2,hk=>by
  show bindC kindOf ((p,w)::P.zip vs) m x=_;unfold bindC;exact gP (i:=i) (nodup_cons.mp nd).2 (by simpa using h1) (by simpa using h2) hk
def start(N:List Str)(vs:List V):St:=vs.map some++List.replicate (N.length-vs.length) none
def iw(CX:CXT)(P:Program)(w:World)(K:PySem.W.Frag)(mg:Str→Option Value)(base:Heap)(N:List Str)(qual:Str)(scope:Scope)(f:Addr)(cd:Value)(A:Around)(outer:List Env)(s:Shared)(H:Hp)(E:XK):Cx where
 prog:=P
 w:=w
 K:=K
 mg:=mg
 base:=base
 A:=A.deeper (envOfC qual scope s.heap.objs.size f cd)
 N:=N
 s₀:=s
 H₀:=H
 env:=envOfC qual scope s.heap.objs.size f cd
 outer:=outer
 stack:=envOfC qual scope s.heap.objs.size f cd::outer
 ex:=[]
 calm:=true
 fn:=λ_=>true
 pn:=[]
 xe:=λe s'=>wpAny (model P w) (A.deeper (envOfC qual scope s.heap.objs.size f cd)) (leaving (envOfC qual scope s.heap.objs.size f cd) e) (λ_ s''=>CX outer H s E e s'') (λe' s''=>CX outer H s E e' s'') s'
theorem iU{sc:Scope}{n:Nat}{x:Str}(h:sc.names.lookup x=some .cell):∃c,(cellsFrom n sc.names []).lookup x=some c:=by
 have q:=PySem.W.cellsFrom_some sc.names n [] (.inl h);exact Option.isSome_iff_exists.mp q
theorem mf{CX:CXT}{P:Program}{w:World}{K:PySem.W.Frag}{mg:Str→Option Value}{base:Heap}{N ps:List Str}{qual:Str}{scope:Scope}{f:Addr}{cd:Value}{A:Around}{outer:List Env}{s s1:Shared}{H:Hp}{E:XK}{us:List Value}{vs:List V}(S:FnScope N ps scope)(hd:A.handled=none)(e0:Env0 P w K mg base A outer s H)(hl:vs.length=ps.length)(r:aq vs us)(x:InCallC s s.heap.objs.size (bindL (envOfC qual scope s.heap.objs.size f cd).kindOf (ps.zip us) λ_=>none) (cellsFrom (s.heap.objs.size+1) scope.names []) (bindC (envOfC qual scope s.heap.objs.size f cd).kindOf (ps.zip us) λ_=>none) s1):
  Inv (iw CX P w K mg base N qual scope f cd A outer s H E) [] (start N vs) H s1:=by
 have hpl:ps.length≤N.length:=by have:=congrArg length S.pre;rw[length_take]at this;omega
 obtain⟨h1,tk,rfl,hk⟩:=x.done;have noA:∀b:Addr,b∉(iw CX P w K mg base N qual scope f cd A outer s H E).ex:=λb z=>absurd (show b∈([]:List Addr)from z) (by simp);refine⟨⟨e0.mod,S.kind,rfl,rfl,le_refl _,λy z c h1 h2=>?_,λy hy=>?_,λy c _ h=>?_,λ_=>hd,Around.frames_deeper e0.frames,.inr ⟨rfl,rfl⟩,λb z=>absurd z (noA b),e0.bs,e0.bsz,λb _ _=>noA b,λb z=>absurd z (noA b),e0.funs,e0.frf⟩,
  rfl,e0.bare,Un.kept hk,⟨_,x.toInCall.ns,λi y v h1 h2 h3=>?_⟩,λy c h=>⟨_,x.cell y c h⟩,e0.hok.fresh (le_refl _),λy c h=>?_,λp hp=>absurd (show p∈([]:List (Addr×Obj))from hp) (by simp),e0.hok.kept hk,?_⟩
 ·exact name_of_addr x.apart (PySem.mem_of_lookup h1) (PySem.mem_of_lookup h2)
 ·have hy:scope.names.lookup y=some .cell∨scope.names.lookup y=some .free:=hy;rcases hy with hy|hy
  ·exact iU hy
  ·exact absurd rfl (S.nofree _ (PySem.mem_of_lookup hy))
 ·exact le_of_lt (x.above y c (PySem.mem_of_lookup h))
 ·have hi:i<vs.length:=by
   unfold start at h2
   by_cases hi:i<vs.length
   ·exact hi
   ·rw[List.getElem?_append_right (by simpa using hi)]at h2;rw[List.getElem?_replicate]at h2
    split at h2<;>cases h2
  have ha:vs[i]?=some v:=by
   unfold start at h2;rw[getElem?_append_left (by simpa using hi),getElem?_map]at h2;cases e:vs[i]? with
   |none=>rw[e]at h2;cases h2
   |some a=>rw[e]at h2;cases h2;rfl
  obtain⟨u,hu,rv⟩:=r.get ha;have hp:ps[i]?=some y:=by
   rw[←S.pre,List.getElem?_take_of_lt (by omega)];exact h1
  have ndP:ps.Nodup:=by rw[←S.pre];exact S.nd.sublist (take_sublist _ _)
  refine⟨u,rv,?_⟩;rcases S.par y (mem_of_getElem? hp)with k|k
  ·exact .inl ⟨k,gO ndP hp hu k⟩
  ·obtain⟨c,e⟩:=iU (n:=s.heap.objs.size+1) k;refine .inr ⟨.inl k,c,e,?_⟩;have q:=x.cell y c e;rw[gP ndP hp hu (by show scope.names.lookup y≠_;rw[k];decide)]at q;exact q
 ·exact e0.hok.fresh (le_of_lt (x.above y c (PySem.mem_of_lookup h)))
 ·unfold start;show _=N.length;rw[length_append,length_map,List.length_replicate];omega
theorem tW{CX:CXT}{P:Program}{w:World}{K:PySem.W.Frag}{mg:Str→Option Value}{base:Heap}{k:Nat}{f:Addr}{name qual:Str}{params:Arguments}{body:List Stmt}{scope:Scope}{dV kV doc pm cdv ct oc:Value}{an od:Option Addr}{osl:Array (Option Value)}{N ps:List Str}{sp:Sp}(lk:K.lookup f=some ⟨oc,od,.func (fnOf name qual params body scope dV kV doc pm an cdv ct),osl⟩)(hcd:codeIn K cdv qual=true)(S:FnScope N ps scope)(len:∀vs H Q E,sp vs H Q E→vs.length=ps.length)(hbody:∀(A:Around) (outer:List Env) (s:Shared) (H:Hp) (vs:List V) (Q:VK) (E:XK),Room k (A.deeper (envOfC qual scope s.heap.objs.size f cdv))→sp vs H Q E →
   ∃t,PSs (iw CX P w K mg base N qual scope f cdv A outer s H E) body t∧t {nx:=λ_ H'=>Q .non H',rt:=Q} (start N vs) H):
  FnOk P w K mg base CX (k+1) f (fnOf name qual params body scope dV kV doc pm an cdv ct) ps sp:=by
 refine⟨len,λA outer s H args us vs Q E hr e0 hb r hsp=>?_⟩;have hl:=len _ _ _ _ hsp;have KX:K.In s.heap:=e0.mod.kin.keeps λb o e=>(e0.bs b o e).1;have lim:s.heap.NoLimit:=e0.mod.nolimit.keeps λb o e=>(e0.bs b o e).1;have hkind:∀y∈ps.zip us,scope.names.lookup y.1=some .local∨(scope.names.lookup y.1=some .cell∧((cellsFrom (s.heap.objs.size+1) scope.names []).lookup y.1).isSome=true):=λ⟨n,v⟩ hy=>by
  rcases S.par n (of_mem_zip hy).1 with q|q
  ·exact .inl q
  ·exact .inr ⟨q,PySem.W.cellsFrom_some _ _ _ (.inl q)⟩
 refine codeAny_call_function hr.depth (KX _ _ lk) rfl S.co S.gen rfl (PySem.W.codeRec_of KX hcd) (hb _ _ _ _ ?_);refine wpAny_newFunctionEnv_cells S.kind hkind λenv he s1 x=>?_;subst he;refine⟨lim.keeps x.toInCall.keep,codeAny_func ?_⟩;obtain⟨t,ht,hq⟩:=hbody A outer s H vs Q E (hr.deeper _) hsp;have I:Inv (iw CX P w K mg base N qual scope f cdv A outer s H E) [] (start N vs) H s1:=mf S hr.hd e0 hl r x;refine wpAny_mono (ht [] s1 (start N vs) H _ I hq) (λfl s' hs=>?_) λe s' hs=>hs;have fin:∀{σ':St}{H':Hp}{v:V}{u:Value},Inv (iw CX P w K mg base N qual scope f cdv A outer s H E) [] σ' H' s'→av v u→Q v H'→CE outer P w H s Q u s' :=
  λ{σ' H' v u} J rv q=>⟨v,H',J.os,J.bare,J.base,J.hok,rv,q⟩
 cases fl with
 |ret u =>
  obtain⟨v,σ',H',J,rv,q⟩:=hs;exact fin J rv q
 |next =>
  obtain⟨σ',H',J,q⟩:=hs;exact fin (v:=V.non) (u:=Value.none) J rfl q
 |brk =>
  obtain⟨_,_,_,q⟩:=hs;exact False.elim q
 |cont =>
  obtain⟨_,_,_,q⟩:=hs;exact False.elim q
section
variable{X:Cx}{x:Str}{p pos:Pos}{e:Expr}{es:List Expr}{t:TA}{id T:String}{r:List V→Hp→VK→Prop}
def tCB(r:List V→Hp→VK→Prop)(t:TA):TE:=λσ H Q=>t σ H λvs H1=>r vs H1 Q
theorem aO(hc:bZ X (.builtin id) r)(hg:Gl X x)(hm:X.mg x=none)(hv:bootBuiltins x=some (.builtin id))(ha:PA X (e::es) t)(hn:x≠"__name__":=by decide)(hdb:(x==("__debug__":Str))=false:=by decide)(he:starEach (e::es) X.env=(false,eval e X.env)::starEach es X.env:=by rfl)(hpl:(backTo pos (starEach es X.env)).any (·.1)=false:=by rfl):PE X (.Call (.Name x p) (e::es) [] pos) (tCB r t):=by
 intro pins s σ H Q I h;refine wpAny_Call_Name_kw (cI I hg hm hv ?_ hn hdb);exact PyProof.Rows.callWith_builtin1 (thn (ha pos pins s σ H _ I h) λus s1 ⟨vs,H1,I1,r1,q1⟩=>hc pins s1 σ H1 vs us Q I1 r1 q1) he hpl
theorem aD(hc:bZ X (.type T) r)(hg:Gl X x)(hm:X.mg x=none)(hv:bootBuiltins x=some (.type T))(ha:PA X (e::es) t)(hn:x≠"__name__":=by decide)(hdb:(x==("__debug__":Str))=false:=by decide)(he:starEach (e::es) X.env=(false,eval e X.env)::starEach es X.env:=by rfl)(hpl:(backTo pos (starEach es X.env)).any (·.1)=false:=by rfl):PE X (.Call (.Name x p) (e::es) [] pos) (tCB r t):=by
 intro pins s σ H Q I h;refine wpAny_Call_Name_kw (cI I hg hm hv ?_ hn hdb);exact PyProof.Rows.callWith_type1 (thn (ha pos pins s σ H _ I h) λus s1 ⟨vs,H1,I1,r1,q1⟩=>hc pins s1 σ H1 vs us Q I1 r1 q1) he hpl
end
end L2
namespace HT
open PySem PyProof.Rows
section
open PySem.SeqAt
open PySem.AutoSeq1 (wpAny_loadPart')
open PySem.MeetsSeq PySem.MeetsSeq2 PySem.MeetsSeq3
end
section
variable{prog:Program}{w:World}{A:Around}{E:Value→Shared→Prop}{s:Shared}
theorem pT{t b:Addr}{vs ws:List Value}{Q:Value→Shared→Prop}(ht:IsTup s.heap t vs.toArray)(hb:IsTup s.heap b ws.toArray)(hv:vs≠[])(h1:ws=[]→Q (.ref t) s)(h2:ws≠[]→Q (.ref s.heap.objs.size) {s with heap:=s.heap.push {cls:=.type "tuple",data:=.seq (vs++ws).toArray}})(hsz:vs.length+ws.length≤sizeLine):wpAny (model prog w) A (binaryOp .Add (.ref t) (.ref b)) Q E s:=by
 obtain⟨⟨cls,dd,data,sl⟩,ho,hc,n,hd⟩:=id ht;obtain⟨⟨cls2,dd2,data2,sl2⟩,ho2,hc2,n2,hd2⟩:=id hb;simp only at hc hd hc2 hd2;subst hc hd hc2 hd2;have e:vs.toArray++ws.toArray=(vs++ws).toArray:=by simp
 by_cases hw:ws=[]
 ·exact concat_meets ⟨_,ho,rfl⟩ ⟨_,ho2,rfl⟩ noFill_tuple_add seq_tuple_add PySem.F.slot_tuple_add PySem.F.entry_tuple_add (PySem.F.args_tuple_add_2 _ _)
   (tuple_addW1 t b vs.toArray ws.toArray n n2 dd dd2 sl sl2 (by simpa using hv) (by simp[hw])) ⟨ho,ho2,h1 hw⟩
 ·refine concat_meets ⟨_,ho,rfl⟩ ⟨_,ho2,rfl⟩ noFill_tuple_add seq_tuple_add PySem.F.slot_tuple_add PySem.F.entry_tuple_add (PySem.F.args_tuple_add_2 _ _)
   (tuple_addW2 t b vs.toArray ws.toArray n n2 dd dd2 sl sl2 (by simpa using hv) (by simpa using hw) (by rw[size_toArray,size_toArray];exact hsz)) ⟨ho,ho2,?_⟩
  rw[e];exact h2 hw
def sIx(n d:Nat):Option Int→Nat
 |none=>d
 |some v=>if v<0 then (v+(n:Int)).toNat else min v.toNat n
theorem rN(n d:Nat)(hd:d≤n)(o:Option Int):sIx n d o≤n:=by
 cases o with
 |none=>exact hd
 |some v =>
  show(if v<0 then (v+(n:Int)).toNat else min v.toNat n)≤n
  by_cases hv:v<0
  ·rw[if_pos hv];omega
  ·rw[if_neg hv];exact Nat.min_le_right _ _
theorem lx(v:Int)(n d:Nat):(if v<0 then max (v+(n:Int)) 0 else min v (n:Int))=((sIx n d (some v):Nat):Int):=by
 show(if v<0 then max (v+(n:Int)) 0 else min v (n:Int))=(((if v<0 then (v+(n:Int)).toNat else min v.toNat n):Nat):Int)
 by_cases hv:v<0
 ·simp only[if_pos hv];omega
 ·simp only[if_neg hv];omega
theorem jX(lo hi:Option Int)(n:Nat):Builtin.Slice.sliceAdjust lo hi 1 (n:Int)=(((sIx n 0 lo:Nat):Int),((sIx n n hi:Nat):Int)):=by
 have h1:¬((1:Int)<0):=by omega
 unfold Builtin.Slice.sliceAdjust;simp only[h1,if_false];refine Prod.ext ?_ ?_
 ·cases lo with
  |none=>rfl
  |some v=>exact lx v n 0
 ·cases hi with
  |none=>rfl
  |some v=>exact lx v n n
theorem jY(i j:Nat):Builtin.Slice.slicePlaces (i:Int) (j:Int) 1=j-i:=by
 unfold Builtin.Slice.slicePlaces;have h1:(1:Int)>0:=by omega
 simp only[h1,if_true,Int.ediv_one]
 split<;>omega
theorem fF{v:Value}{o:Option Int}{Q:Option Int→Shared→Prop}(p:IsPart v o)(h:Q o s):wpAny (model prog w) A (Builtin.Slice.slicePartIndex v) Q E s:=by
 cases p with
 |none=>exact slicePart_none h
 |int i t=>exact slicePart_int h
theorem eK{sl:Addr}{vl vu:Value}{lo hi:Option Int}{n:Nat}{Q:Int×Int×Nat→Shared→Prop}(hs:s.heap.IsSliceOf sl vl vu .none)(pl:IsPart vl lo)(pu:IsPart vu hi)(h:Q (((sIx n 0 lo:Nat):Int),1,sIx n n hi-sIx n 0 lo) s):wpAny (model prog w) A (Builtin.Slice.sliceApplied (.ref sl) (pure (n:Int))) Q E s:=by
 obtain⟨os,hos,hcs,hds⟩:=id hs;unfold Builtin.Slice.sliceApplied Builtin.Slice.sliceFields;refine wpAny_bind (wpAny_bind (wpAny_field hos hds (x:=vl) rfl (wpAny_bind (wpAny_field hos hds (x:=vu) rfl (wpAny_bind (wpAny_field hos hds (x:=.none) rfl (wpAny_pure ?_)))))));refine wpAny_bind (slicePart_none ?_);show wpAny _ _ (if ((1:Int)==0)=true then _ else _) _ _ s
 rw[if_neg (by decide)];refine wpAny_bind (fF pl (wpAny_bind (fF pu (wpAny_bind (wpAny_pure ?_)))));show wpAny _ _ (match Builtin.Slice.sliceAdjust lo hi 1 (n:Int)with|(lo,hi)=>pure (lo,(1:Int),Builtin.Slice.slicePlaces lo hi 1)) _ _ s
 rw[jX lo hi n];show wpAny _ _ (pure (((sIx n 0 lo:Nat):Int),(1:Int),Builtin.Slice.slicePlaces ((sIx n 0 lo:Nat):Int) ((sIx n n hi:Nat):Int) 1)) _ _ s;rw[jY];exact wpAny_pure h
theorem nF(xs:Array Value)(i k:Nat):((List.range k).filterMap λ(m:Nat)=>xs[((i:Int)+(m:Int)*1).toNat]?).toArray=((xs.toList.drop i).take k).toArray:=by
 have e:(λ(m:Nat)=>xs[((i:Int)+(m:Int)*1).toNat]?)=λm=>xs[i+m]?:=by
  funext m
  have:((i:Int)+(m:Int)*1).toNat=i+m:=by omega
  rw[this]
 rw[e];have:=pick_run xs i k;rw[List.filterMap_map]at this;have e2:((λx=>xs[x]?)∘λx=>i+x)=λm=>xs[i+m]?:=rfl;rw[e2]at this;rw[this]
theorem dH{t sl:Addr}{items:Array Value}{vl vu:Value}{lo hi:Option Int}{Q:Value→Shared→Prop}(ht:IsTup s.heap t items)(hs:s.heap.IsSliceOf sl vl vu .none)(pl:IsPart vl lo)(pu:IsPart vu hi)(hw:¬(sIx items.size 0 lo=0∧sIx items.size items.size hi=items.size))(h:Q (.ref s.heap.objs.size) {s with heap:=s.heap.push {cls:=.type "tuple",data:=.seq ((items.toList.drop (sIx items.size 0 lo)).take (sIx items.size items.size hi-sIx items.size 0 lo)).toArray}})(hsz:items.size≤sizeLine):wpAny (model prog w) A (getItem (.ref t) (.ref sl)) Q E s:=by
 have htake:sizeOk (.seq ((items.toList.drop (sIx items.size 0 lo)).take (sIx items.size items.size hi-sIx items.size 0 lo)).toArray):=by
  show((items.toList.drop (sIx items.size 0 lo)).take (sIx items.size items.size hi-sIx items.size 0 lo)).toArray.size≤sizeLine;rw[size_toArray,length_take,length_drop,length_toList];omega
 have hj:sIx items.size items.size hi≤items.size:=rN _ _ (le_refl _) hi;obtain⟨os,hos,hcs,hds⟩:=id hs;have hTs:s.TypeIs (.ref sl) "slice":=⟨os,hos,hcs⟩;unfold getItem
 try with_reducible refine wpAny_holding ?_
 first|refine wpAny_bind (wpAny_pure ?_)|skip
 refine wpAny_bind (wpAny_sequenceKey ht.typeIs (by decide) ?_);refine wpAny_bind (wpAny_callSpecial?_slot (name:=ofString "__getitem__") ht.typeIs PyProof.Rows.slot_tuple_getitem
  (wpAny_call_entry PyProof.Rows.slot_tuple_getitem ht.typeIs entry_tuple_getitem ?_ (args_tuple_getitem _ _)))
 show wpAny _ _ (Builtin.Tuple.tupleItemsOf (.ref t) >>= _) _ _ s;refine wpAny_bind (tupleItemsOf_ ht ?_);refine wpAny_bind (wpAny_typeOf hTs ?_);rw[if_pos (by decide)];refine wpAny_bind (eK hs pl pu ?_);have hno:¬((((sIx items.size 0 lo:Nat):Int)==0&&(1:Int)==1&&(sIx items.size items.size hi-sIx items.size 0 lo)==items.size)=true):=by
  intro q;rw[and_eq_true,and_eq_true]at q;have q1:((sIx items.size 0 lo:Nat):Int)=0:=eq_of_beq q.1.1;have q2:sIx items.size items.size hi-sIx items.size 0 lo=items.size:=eq_of_beq q.2;exact hw ⟨by omega,by omega⟩
 show wpAny _ _ (if (((sIx items.size 0 lo:Nat):Int)==0&&(1:Int)==1&&(sIx items.size items.size hi-sIx items.size 0 lo)==items.size)=true then _ else _) _ _ s
 rw[if_neg hno,nF]
 first
  |exact wpAny_bind (m:=Builtin.Tuple.tupleExact _) (wpAny_newObj_type (wpAny_pure ⟨_,rfl,wpAny_pure h⟩) htake)
  |exact wpAny_bind (m:=Builtin.Tuple.tupleExact _) (wpAny_newObj_type (wpAny_bind (wpAny_pure (wpAny_pure ⟨_,rfl,wpAny_pure h⟩))) htake)
  |exact wpAny_bind (wpAny_bind (m:=Builtin.Tuple.tupleExact _) (wpAny_newObj_type (wpAny_pure (wpAny_pure ⟨_,rfl,wpAny_pure h⟩)) htake))
  |exact wpAny_bind (wpAny_bind (m:=Builtin.Tuple.tupleExact _) (wpAny_newObj_type (wpAny_pure ⟨_,rfl,wpAny_pure h⟩) htake))
end
end HT
namespace L2
open PySem PySem.Spec PyProof.Rows
abbrev TO:=St→Hp→(Option Int→Hp→Prop)→Prop
def PO(X:Cx)(e:Option Expr)(t:TO):Prop :=
 ∀(pins:List (Addr×Obj))(s:Shared)(σ:St)(H:Hp)(Q:Option Int→Hp→Prop),Inv X pins σ H s→t σ H Q →
  wpAny (model X.prog X.w) X.A (evalPart e X.env) (λu s'=>∃o H',Inv X pins σ H' s'∧IsPart u o∧Q o H') X.xe s
def pU:TO:=λ_ H Q=>Q none H
def tX(t:TE):TO:=λσ H Q=>t σ H λx H1=>∃i,x=.int i∧Q (some i) H1
theorem jZ{ns:List Int}:∀{us:List Value},aq (ns.map V.int) us→IntsAre us ns:=by
 induction ns with
 |nil=>intro us r;rw[map_nil]at r;cases r;exact .nil
 |cons n ns ih =>
  intro us r;rw[map_cons]at r;cases r with
  |cons r1 r2 =>
   obtain⟨t,e⟩:=r1;subst e;exact .cons n t (ih r2)
section
variable{X:Cx}{e:Expr}{te:TE}{lo hi:Option Expr}{tl th:TO}{pos p2:Pos}
theorem ix:PO X none pU:=by
 intro pins s σ H Q I h;rw[evalPart_none];exact wpAny_pure ⟨none,H,I,.none,h⟩
theorem dI(h:PE X e te):PO X (some e) (tX te):=by
 intro pins s σ H Q I hw;rw[evalPart_some];refine thn (h pins s σ H _ I hw) λu s1 hpt=>?_;obtain⟨x,H1,I1,r1,q1⟩:=hpt;obtain⟨i,rfl,q⟩:=q1;obtain⟨t,rfl⟩:=r1;exact⟨some i,H1,I1,.int i t,q⟩
def SlR(X:Cx)(r:V→Option Int→Option Int→Hp→VK→Prop):Prop :=
 ∀(pins:List (Addr×Obj))(s:Shared)(σ:St)(H:Hp)(x:V)(v vl vu:Value)(lo hi:Option Int)(sl:Addr)(Q:VK),Inv X pins σ H s→av x v→s.heap.IsSliceOf sl vl vu .none→IsPart vl lo→IsPart vu hi→r x lo hi H Q →
  ∃T id,typeLookup (.type T) "__getitem__"=pure (some (.builtin id))∧s.TypeIs v T∧wpAny (model X.prog X.w) X.A (getItem v (.ref sl)) (EP X pins σ Q) X.xe s
def tSl(r:V→Option Int→Option Int→Hp→VK→Prop)(te:TE)(tl th:TO):TE:=λσ H Q=>te σ H λx H1=>tl σ H1 λl H2=>th σ H2 λu H3=>r x l u H3 Q
theorem dJ{r:V→Option Int→Option Int→Hp→VK→Prop}(hr:SlR X r)(he:PE X e te)(hl:PO X lo tl)(hu:PO X hi th):PE X (.Subscript e (.Slice lo hi none p2) pos) (tSl r te tl th):=by
 intro pins s σ H Q I h;refine Subscript_ (thn (he pins s σ H _ I h) λv s1 hpt=>?_);obtain⟨x,H1,I1,r1,q1⟩:=hpt;refine wpAny_Slice (thn (hl pins s1 σ H1 _ I1 q1) λvl s2 ⟨l,H2,I2,pl,q2⟩=>thn (hu pins s2 σ H2 _ I2 q2) λvu s3 hpt=>?_);obtain⟨u,H3,I3,pu,q3⟩:=hpt;rw[evalPart_none];refine wpAny_pure ?_;have I4:Inv X pins σ H3 {s3 with heap:=s3.heap.push {cls:=.type "slice",data:=.fields #[vl,vu,.none]}}:=I3.kept (t':=s3.toks) λb ob q=>get?_push_of_some _ q
 obtain⟨T,id,hT,ht,hg⟩:=hr pins {s3 with heap:=s3.heap.push {cls:=.type "slice",data:=.fields #[vl,vu,.none]}} σ H3 x v vl vu l u s3.heap.objs.size Q I4 r1 (Heap.IsSliceOf.new ..) pl pu q3
 show wpAny (model X.prog X.w) X.A (subscriptTail e (.Slice lo hi none p2) v (.ref s3.heap.objs.size)) (EP X pins σ Q) X.xe {s3 with heap:=s3.heap.push {cls:=.type "slice",data:=.fields #[vl,vu,.none]}}
 exact tail_any (ops:=[.ref s3.heap.objs.size,v]) ht hT hg (by with_unfolding_all rfl)
def iV(xs:List V)(lo hi:Option Int):List V:=(xs.drop (HT.sIx xs.length 0 lo)).take (HT.sIx xs.length xs.length hi-HT.sIx xs.length 0 lo)
theorem iW(xs:List V)(lo hi:Option Int):(iV xs lo hi).length≤xs.length:=by
 unfold iV;rw[length_take,length_drop];omega
def nG(K:PySem.W.Frag):V→Option Int→Option Int→Hp→VK→Prop:=λx lo hi H Q=>∃a xs,x=.ref a∧SqT K H a xs ∧
 ¬(HT.sIx xs.length 0 lo=0∧HT.sIx xs.length xs.length hi=xs.length)∧∀p,H p=none→Q (.ref p) (upd H p (.tup (iV xs lo hi)))
theorem iy:SlR X (nG X.K):=by
 intro pins s σ H x v vl vu lo hi sl Q I rx hs pl pu h;obtain⟨a,xs,rfl,hx,hw,q⟩:=h;cases rx;obtain⟨its,r,ht,hz⟩:=I.tuple hx;have hlen:its.toArray.size=xs.length:=by rw[size_toArray];exact r.length.symm
 refine⟨"tuple",_,PyProof.Rows.slot_tuple_getitem.lookup,ht.typeIs,?_⟩;refine HT.dH ht hs pl pu (by rw[hlen];exact hw) ?_ (by rw[hlen];exact hz);rw[hlen];refine⟨.ref s.heap.objs.size,_,I.laid (t':=s.toks) (o:=.tup (iV xs lo hi)) (λb ob q=>get?_push_of_some _ q) (le_refl _) ?_,rfl,q _ (I.hok.fresh (le_refl _))⟩;exact⟨le_trans (iW xs lo hi) hz,_,(r.drop (HT.sIx xs.length 0 lo)).take (HT.sIx xs.length xs.length hi-HT.sIx xs.length 0 lo),IsTup.new _ _⟩
def nH(K:PySem.W.Frag):R2:=λx y H Q=>∃a b xs ys,x=.ref a∧y=.ref b∧SqT K H a xs∧SqT K H b ys∧xs≠[]∧xs.length+ys.length≤sizeLine ∧
 (ys=[]→Q (.ref a) H)∧(ys≠[]→∀p,H p=none→Q (.ref p) (upd H p (.tup (xs++ys))))
theorem aq.nil_iff{xs:List V}{us:List Value}(r:aq xs us):us=[]↔xs=[]:=by
 cases r with
 |nil=>simp
 |cons _ _=>simp
theorem ly:OpR X (binaryOp .Add) (nH X.K):=by
 intro pins s σ H x y v u Q I rx ry h;obtain⟨a,b,xs,ys,rfl,rfl,ha,hb,hx,hz,q1,q2⟩:=h;cases rx;cases ry;obtain⟨its,r1,p1,_⟩:=I.tuple ha;obtain⟨its2,r2,p2,_⟩:=I.tuple hb;refine HT.pT p1 p2 (λz=>hx (r1.nil_iff.mp z)) (λz=>⟨.ref a,H,I,rfl,q1 (r2.nil_iff.mp z)⟩) (λz=>?_) (by rw[←r1.length,←r2.length];exact hz);refine⟨.ref s.heap.objs.size,_,I.laid (t':=s.toks) (o:=.tup (xs++ys)) (λb ob q=>get?_push_of_some _ q) (le_refl _) ?_,rfl,q2 (λw=>z (r2.nil_iff.mpr w)) _ (I.hok.fresh (le_refl _))⟩;exact⟨by rw[length_append];exact hz,_,r1.append r2,IsTup.new _ _⟩
end
def ixN(n:Nat)(i:Int):Option Nat:=if 0≤i then (if i<n then some i.toNat else none)else if -(n:Int)≤i then some (i+n).toNat else none
def atI{α:Type}(xs:List α)(i:Int):Option α:=(ixN xs.length i).bind λj=>xs[j]?
theorem lz{n:Nat}{i:Int}{j:Nat}(h:ixN n i=some j):seqIndex? i n=some j∧j<n∧-(n:Int)≤i∧i<n:=by
 unfold ixN at h
 by_cases h0:0≤i
 ·rw[if_pos h0]at h
  by_cases h1:i<n
  ·rw[if_pos h1]at h;have e:i.toNat=j:=Option.some.inj h;exact⟨by rw[seqIndex_of h0 h1,e],by omega,by omega,h1⟩
  ·rw[if_neg h1]at h;cases h
 ·rw[if_neg h0]at h
  by_cases h1:-(n:Int)≤i
  ·rw[if_pos h1]at h;have e:(i+n).toNat=j:=Option.some.inj h;exact⟨by rw[seqIndex_neg (by omega) h1,e],by omega,h1,by omega⟩
  ·rw[if_neg h1]at h;cases h
theorem lA{α:Type}{xs:List α}{i:Int}{v:α}(h:atI xs i=some v):∃j,seqIndex? i xs.length=some j∧xs[j]?=some v∧j<xs.length∧-(xs.length:Int)≤i∧i<xs.length:=by
 unfold atI at h;cases e:ixN xs.length i with
 |none=>rw[e]at h;cases h
 |some j =>
  rw[e]at h;obtain⟨h1,h2,h3,h4⟩:=lz e;exact⟨j,h1,h,h2,h3,h4⟩
theorem lB{α:Type}{xs:List α}{j:Nat}{v:α}(h:xs[j]?=some v):atI xs (j:Int)=some v:=by
 have hj:j<xs.length:=(List.getElem?_eq_some_iff.mp h).1;have e:ixN xs.length (j:Int)=some j:=by
  unfold ixN;rw[if_pos (by omega),if_pos (by omega)];simp
 unfold atI;rw[e];exact h
def pV(b:Expr):Prop:=∀o i,subscripted b false o i=operate [o,i] (getItem o i)
def IxR(X:Cx)(r:R2):Prop :=
 ∀(value slice:Expr)(pins:List (Addr×Obj))(s:Shared)(σ:St)(H:Hp)(x y:V)(v u:Value)(Q:VK),Inv X pins σ H s→av x v→av y u→r x y H Q →
  subscripted slice false v u=operate [v,u] (getItem v u)→wpAny (model X.prog X.w) X.A (subscriptTail value slice v u) (EP X pins σ Q) X.xe s
def MtR(X:Cx)(id:String)(r:V→List V→Hp→VK→Prop):Prop :=
 ∀(pins:List (Addr×Obj))(s:Shared)(σ:St)(H:Hp)(x:V)(xs:List V)(v:Value)(us:List Value)(Q:VK),Inv X pins σ H s→av x v→aq xs us→r x xs H Q →
  wpAny (model X.prog X.w) X.A (call (.builtin id) (v::us)) (EP X pins σ Q) X.xe s
section
variable{X:Cx}{a b:Expr}{ta tb:TE}{pos:Pos}
theorem aK{r:R2}(hr:IxR X r)(ha:PE X a ta)(hb:PE X b tb)(hs:pV b):PE X (.Subscript a b pos) (tOp r ta tb):=by
 intro pins s σ H Q I h;exact Subscript_ (rJ ha hb I h λv u s2 x y H2 I2 rx ry q=>hr a b pins s2 σ H2 x y v u Q I2 rx ry q (hs _ _))
def uQ(K:PySem.W.Frag):R2:=λx y H Q=>∃p xs i v,x=.ref p∧y=.int i∧SqL K H p xs∧atI xs i=some v∧Q v H
def cu(K:PySem.W.Frag):R2:=λx y H Q=>∃p xs i v,x=.ref p∧y=.int i∧SqT K H p xs∧atI xs i=some v∧Q v H
theorem dL:IxR X (uQ X.K):=by
 intro value slice pins s σ H x y v u Q I rx ry h hs;obtain⟨p,xs,i,z,rfl,rfl,hq,he,q⟩:=h;cases rx;obtain⟨t,rfl⟩:=ry;obtain⟨its,r,pl,hz⟩:=I.list hq;obtain⟨j,h1,h2,h3,h4,h5⟩:=lA he;obtain⟨w,ew,rw'⟩:=r.get h2;have hl:=r.length;have hn:=jV;have fin:EP X pins σ Q w s:=⟨z,H,I,rw',q⟩
 by_cases h0:0≤i
 ·have hj:i.toNat=j:=by
   rw[seqIndex_of h0 h5]at h1;exact Option.some.inj h1
  exact item_listR pl.isList h0 (by omega) (by rw[hj];simpa using ew) fin hs
 ·have hj:(i+(its.toArray.size:Int)).toNat=j:=by
   rw[seqIndex_neg (by omega) h4]at h1;rw[size_toArray,←hl];exact Option.some.inj h1
  exact subscriptTail_builtinR (x:=w) pl.isList.typeIs slot_list_getitem.lookup
   (wpAny_getItem_list_neg (Q:=λr s'=>r=w∧EP X pins σ Q r s') pl.isList (by omega) (by rw[size_toArray]<;>omega) (by omega) (by rw[hj];simpa using ew) ⟨rfl,fin⟩) hs
theorem aI:IxR X (cu X.K):=by
 intro value slice pins s σ H x y v u Q I rx ry h hs;obtain⟨p,xs,i,z,rfl,rfl,hq,he,q⟩:=h;cases rx;obtain⟨t,rfl⟩:=ry;obtain⟨its,r,pl,hz⟩:=I.tuple hq;obtain⟨j,h1,h2,h3,h4,h5⟩:=lA he;obtain⟨w,ew,rw'⟩:=r.get h2;have hl:=r.length;have hn:=jV;have fin:EP X pins σ Q w s:=⟨z,H,I,rw',q⟩;exact subscriptTail_builtinR (x:=w) pl.typeIs slot_tuple_getitem.lookup
  (getItem_tuple (j:=j) (Q:=λr s'=>r=w∧EP X pins σ Q r s') pl (by omega) (by omega) (by rw[size_toArray,←hl];exact h1) (by simpa using ew) ⟨rfl,fin⟩) hs
def dM:V→Bool
 |.non=>true
 |.bl _=>true
 |.int _=>true
 |.str _=>true
 |_=>false
def eqV:V→V→Bool
 |.non,.non=>true
 |.bl a,.bl b=>a==b
 |.bl a,.int b=>(if a then 1 else 0)==b
 |.int a,.bl b=>a==(if b then 1 else 0)
 |.int a,.int b=>a==b
 |.str a,.str b=>a==b
 |_,_=>false
theorem ka{A:Around}{s:Shared}{y x:V}{u v:Value}(ry:av y u)(rx:av x v)(fy:dM y=true)(fx:dM x=true):EqAt A s u v (eqV y x):=by
 cases y with
 |non =>
  cases ry;cases x with
  |non=>cases rx;exact EqAt.same _
  |bl b=>cases rx;exact EqAt.none_bool b
  |int b=>obtain⟨t,rfl⟩:=rx;exact EqAt.none_int b t
  |str b=>obtain⟨t,rfl⟩:=rx;exact EqAt.none_str b t
  |_=>exact absurd (show false=true from fx) Bool.false_ne_true
 |bl a =>
  cases ry;cases x with
  |non=>cases rx;exact EqAt.bool_none a
  |bl b=>cases rx;exact EqAt.bool_bool a b
  |int b=>obtain⟨t,rfl⟩:=rx;exact EqAt.bool_int a b t
  |str b=>obtain⟨t,rfl⟩:=rx;exact EqAt.bool_str a b t
  |_=>exact absurd (show false=true from fx) Bool.false_ne_true
 |int a =>
  obtain⟨t',rfl⟩:=ry;cases x with
  |non=>cases rx;exact EqAt.int_none a t'
  |bl b=>cases rx;exact EqAt.int_bool a t' b
  |int b=>obtain⟨t,rfl⟩:=rx;exact EqAt.int_int a t' b t
  |str b=>obtain⟨t,rfl⟩:=rx;exact EqAt.int_str a t' b t
  |_=>exact absurd (show false=true from fx) Bool.false_ne_true
 |str a =>
  obtain⟨t',rfl⟩:=ry;cases x with
  |non=>cases rx;exact EqAt.str_none a t'
  |bl b=>cases rx;exact EqAt.str_bool a t' b
  |int b=>obtain⟨t,rfl⟩:=rx;exact EqAt.str_int a t' b t
  |str b=>obtain⟨t,rfl⟩:=rx;exact EqAt.str_str a t' b t
  |_=>exact absurd (show false=true from fx) Bool.false_ne_true
 |_=>exact absurd (show false=true from fy) Bool.false_ne_true
theorem bo:bZ X (.builtin "len") (λxs H Q=>∃p ys,xs=[.ref p]∧(SqL X.K H p ys∨SqT X.K H p ys)∧Q (.int ys.length) H):=by
 intro pins s σ H xs us Q I r h;obtain⟨p,ys,rfl,hq,q⟩:=h;obtain⟨u,rfl,rx⟩:=cy r;cases rx;have hn:=jV;rcases hq with hq|hq
 ·obtain⟨its,r',pl,hz⟩:=I.list hq;have hlen:=r'.length;exact Calls.call_len_list pl.isList (by simp only[size_toArray]<;>omega) ⟨.int ys.length,H,I.tok _,⟨s.toks+1,by rw[size_toArray,hlen]⟩,q⟩
 ·obtain⟨its,r',pl,hz⟩:=I.tuple hq;have hlen:=r'.length;exact len_tuple pl (by simp only[size_toArray]<;>omega) ⟨.int ys.length,H,I.tok _,⟨s.toks+1,by rw[size_toArray,hlen]⟩,q⟩
theorem bQ:bZ X (.type "tuple") (λxs H Q=>∃p ys,xs=[.ref p]∧((SqL X.K H p ys∧∀l,H l=none→Q (.ref l) (upd H l (.tup ys)))∨(SqT X.K H p ys∧Q (.ref p) H))):=by
 intro pins s σ H xs us Q I r h;obtain⟨p,ys,rfl,h⟩:=h;obtain⟨u,rfl,rx⟩:=cy r;cases rx;rcases h with⟨hq,q⟩|⟨hq,q⟩
 ·obtain⟨its,r',pl,hz⟩:=I.list hq;have hlen:=r'.length;refine call_tuple_list pl.isList (λh' kp=>?_) (by simp only[size_toArray]<;>omega);have I1:Inv X pins σ H {s with heap:=h'}:=I.kept (t':=s.toks) kp
  have I2:Inv X pins σ (upd H h'.objs.size (.tup ys)) {s with heap:=h'.push {cls:=.type "tuple",data:=.seq its.toArray}} :=
   I1.laid (t':=s.toks) (λb o e=>get?_push_of_some _ e) (le_refl _) (show aT X.prog X.w _ _ _ (.tup ys)from⟨hz,its,r',IsTup.new _ _⟩)
  exact⟨.ref h'.objs.size,_,I2,rfl,q _ (I1.hok.fresh (le_refl _))⟩
 ·obtain⟨its,r',pl,hz⟩:=I.tuple hq;exact call_tuple_same pl ⟨.ref p,H,I,rfl,q⟩
def tyV(K:PySem.W.Frag)(T:String)(x:V)(H:Hp):Prop:=match x with
 |.str _=>T="str"
 |.int _=>T="int"
 |.ref p=>(T="list"∧∃xs,SqL K H p xs)∨(T="tuple"∧∃o,K.lookup p=some o∧o.cls=.type "tuple"∧o.dict=none) ∨
   (T="dict"∧((∃kvs,H p=some (.dK kvs))∨∃kvs,H p=some (.dT kvs)))∨(T="set"∧∃S n,H p=some (.set S n))
 |_=>False
theorem rO{pins:List (Addr×Obj)}{σ:St}{H:Hp}{s:Shared}{T:String}{x:V}{v:Value}(I:Inv X pins σ H s)(r:av x v)(ty:tyV X.K T x H):
  s.TypeIs v T∧∀a,v=.ref a→∃ob,s.heap.get? a=some ob∧ob.dict=none:=by
 cases x with
 |str z =>
  obtain⟨t,rfl⟩:=r;cases (show T="str" from ty);exact⟨typeIs_str s z t,λ_ e=>nomatch e⟩
 |int i =>
  obtain⟨t,rfl⟩:=r;cases (show T="int" from ty);exact⟨typeIs_int s i t,λ_ e=>nomatch e⟩
 |ref p =>
  cases r;rcases ty with⟨rfl,xs,hq⟩|⟨rfl,o,hk,hc,hd⟩|⟨rfl,hk⟩|⟨rfl,S,n,hk⟩
  ·obtain⟨its,_,pl,_⟩:=I.list hq;refine⟨pl.isList.typeIs,λa e=>?_⟩;cases e;obtain⟨o,n,e,c,hd,_⟩:=pl;exact⟨o,e,hd⟩
  ·refine⟨⟨o,I.kIn p o hk,hc⟩,λa e=>?_⟩;cases e;exact⟨o,I.kIn _ o hk,hd⟩
  ·have z:∃o,s.heap.get? p=some o∧o.ExactDict:=by
    rcases hk with⟨kvs,hk⟩|⟨kvs,hk⟩
    ·obtain⟨_,_,_,_,o,_,_,e,ex,_⟩:=I.hok p _ hk;exact⟨o,e,ex⟩
    ·obtain⟨_,_,_,_,o,_,_,e,ex,_⟩:=I.hok p _ hk;exact⟨o,e,ex⟩
   obtain⟨o,e,ex⟩:=z;refine⟨⟨o,e,ex.1⟩,λa e2=>?_⟩;cases e2;exact⟨o,e,ex.2.1⟩
  ·obtain⟨o,_,_,_,e,ex,_⟩:=I.hok p _ hk;refine⟨⟨o,e,ex.1⟩,λa e2=>?_⟩;cases e2;exact⟨o,e,ex.2.1⟩
 |_=>exact False.elim ty
def tBM(K:PySem.W.Frag)(T:String)(r:V→List V→Hp→VK→Prop)(to:TE)(t:TA):TE:=λσ H Q=>to σ H λx H1=>tyV K T x H1∧t σ H1 λxs H2=>r x xs H2 Q
variable{o e:Expr}{es:List Expr}{to:TE}{t:TA}{name:Str}{apos cpos:Pos}{T id:String}{r:V→List V→Hp→VK→Prop}
theorem dN(pa:PlainAttrs T)(slot:Slot T name id)(hty:typeOf (.builtin id)=pure (.type "method_descriptor"))(hm:MtR X id r)(ho:PE X o to)(ha:PA X (e::es) t)(hbase:attributeBase o name X.env (eval o X.env)=eval o X.env:=by rfl)(hfew:((backTo cpos (starEach (e::es) X.env)).all (λx=>!x.1)&&(backToKw cpos (keywordEach [] X.env)).all (λx=>x.1.isSome)
   && decide ((e::es).length+([]:List Keyword).length+(if ([]:List Keyword).isEmpty then 0 else 1)<30))=true:=by rfl)(hline:(apos.endLine==cpos.line)=true:=by rfl)(hs:starEach (e::es) X.env=(false,eval e X.env)::starEach es X.env:=by rfl)(hplain:(backTo cpos (starEach es X.env)).any (·.1)=false:=by rfl):
  PE X (.Call (.Attribute o name apos) (e::es) [] cpos) (tBM X.K T r to t):=by
 intro pins s σ H Q I h;refine wpAny_Call_method_late hbase hfew hline rfl (thn (ho pins s σ H _ I h) λv s1 hpt=>?_);obtain⟨x,H1,I1,r1,ty,q1⟩:=hpt;obtain⟨h1,h2⟩:=rO I1 r1 ty;refine⟨T,id,pa,slot,hty,h1,h2,?_⟩;have hA:=ha cpos pins s1 σ H1 _ I1 q1;rw[hs]at hA⊢;refine callWith_builtin (by show(false||(backTo cpos (starEach es X.env)).any (·.1))=false;rw[hplain]<;>rfl) (evalArgs_plain ?_);exact thn hA λus s2 ⟨vs,H2,I2,r2,q2⟩=>hm pins s2 σ H2 x vs v us Q I2 r1 r2 q2
end
def MtM(X:Cx)(id:String)(r:V→List V→Hp→VK→Prop):Prop :=
 ∀(pins:List (Addr×Obj))(s:Shared)(σ:St)(H:Hp)(x:V)(xs:List V)(v:Value)(us:List Value)(Q:VK),Inv X pins σ H s→av x v→aq xs us→r x xs H Q →
  wpAny (model X.prog X.w) X.A (call (.builtin id) (v::us)) (EP X pins σ Q) X.xe s
theorem aq.one:∀{x:V}{us:List Value},aq [x] us→∃u,us=[u]∧av x u
 |_,_,.cons r .nil=>⟨_,rfl,r⟩
theorem aq.two:∀{x y:V}{us:List Value},aq [x,y] us→∃u v,us=[u,v]∧av x u∧av y v
 |_,_,_,.cons r (.cons q .nil)=>⟨_,_,rfl,r,q⟩
theorem aq.eraseIdx:∀{xs:List V}{us:List Value}(i:Nat),aq xs us→aq (xs.eraseIdx i) (us.eraseIdx i)
 |_,_,_,.nil=>.nil
 |_,_,0,.cons _ t=>t
 |_,_,i+1,.cons r t=>.cons r (aq.eraseIdx i t)
theorem aq.reverse{xs:List V}{us:List Value}(h:aq xs us):aq xs.reverse us.reverse:=by
 induction h with
 |nil=>exact .nil
 |cons r t ih=>rw[List.reverse_cons,List.reverse_cons];exact aq.append ih (.cons r .nil)
theorem gQ{α:Type}:∀(l:List α)(i:Nat),(l.eraseIdx i).length≤l.length
 |[],_=>le_refl _
 |_::_,0=>le_succ _
 |_::r,i+1=>Nat.succ_le_succ (gQ r i)
section
variable{X:Cx}{pins:List (Addr×Obj)}{σ:St}{H:Hp}{s:Shared}{l b:Addr}{xs ys zs:List V}
theorem Inv.lset{its its':List Value}{n:Nat}{f:Array Value→Array Value}{t':Nat}(I:Inv X pins σ H s)(hH:H l=some (.lst xs))(e:s.heap.get? l=some {cls:=.type "list",data:=.seq its.toArray n})(hf:f its.toArray=its'.toArray)(hv:aq ys its')(hz:ys.length≤sizeLine):
  Inv X pins σ (upd H l (.lst ys)) {s with heap:=s.heap.update l (Obj.mapSeq f),toks:=t'}:=by
 have q:=PySem.IsL.update e f;rw[hf]at q;refine I.write (x:=l) (e:=l) (by rw[hH];exact trivial) (.inl rfl) (λb' u hb hu=>(get?_update_other s.heap (Obj.mapSeq f) (symm hb)).trans hu) ⟨_,q⟩ ?_;exact⟨hz,its',_,hv,q⟩
theorem Inv.lnew{its:List Value}{t':Nat}(I:Inv X pins σ H s)(hv:aq ys its)(hz:ys.length≤sizeLine):
  Inv X pins σ (upd H s.heap.objs.size (.lst ys)) {s with heap:=s.heap.push {cls:=.type "list",data:=.seq its.toArray},toks:=t'} :=
 I.laid (λ_ _ q=>get?_push_of_some _ q) (le_refl _) ⟨hz,its,0,hv,get?_push_size _ rfl⟩
theorem Inv.fresh(I:Inv X pins σ H s):H s.heap.objs.size=none:=I.hok.fresh (le_refl _)
theorem Inv.lstM(I:Inv X pins σ H s)(hH:H l=some (.lst xs)):xs.length≤sizeLine∧∃(its:List Value) (n:Nat),aq xs its∧xs.length=its.length∧s.heap.get? l=some {cls:=.type "list",data:=.seq its.toArray n}:=by
 obtain⟨z,its,n,r,e⟩:=I.hok l _ hH;exact⟨z,its,n,r,r.length,e⟩
theorem nI{n:Nat}(h:n≤sizeLine):Builtin.List.listTooLong n=false:=by
 unfold Builtin.List.listTooLong;exact decide_eq_false (by omega)
def pW:V→List V→Hp→VK→Prop:=λx vs H Q=>∃l xs y,x=.ref l∧vs=[y]∧H l=some (.lst xs)∧xs.length<sizeLine∧Q .non (upd H l (.lst (xs++[y])))
theorem bE:MtM X "list.append" pW:=by
 intro pins s σ H x vs v us Q I rx rv h;obtain⟨l,xs,y,rfl,rfl,hH,hz,q⟩:=h;cases rx;obtain⟨u,rfl,ru⟩:=rv.one;obtain⟨z,its,n,r,hl,e⟩:=I.lstM hH;refine call_meets F.slot_list_append ⟨_,e,rfl⟩ F.entry_list_append (F.args_list_append_2 _ _) (PySem.list_append l its.toArray n u (by rw[size_toArray];omega)) ⟨e,?_⟩;refine⟨.non,_,I.lset (its':=its++[u]) hH e (by simp) (r.append (.cons ru .nil)) ?_,rfl,q⟩;rw[length_append,length_singleton];omega
def pX:V→List V→Hp→VK→Prop:=λx vs H Q=>∃l b xs zs,x=.ref l∧vs=[.ref b]∧H l=some (.lst xs)∧H b=some (.lst zs)∧xs.length+zs.length≤sizeLine∧Q .non (upd H l (.lst (xs++zs)))
theorem mh:MtM X "list.extend" pX:=by
 intro pins s σ H x vs v us Q I rx rv h;obtain⟨l,b,xs,zs,rfl,rfl,hH,hB,hz,q⟩:=h;cases rx;obtain⟨u,rfl,ru⟩:=rv.one;cases ru;obtain⟨z,its,n,r,hl,e⟩:=I.lstM hH;obtain⟨z2,its2,n2,r2,hl2,e2⟩:=I.lstM hB;have hsz:its.toArray.size+its2.toArray.size≤sizeLine:=by rw[size_toArray,size_toArray];omega
 have hlong:¬(!its.toArray.isEmpty&&Builtin.List.listTooLong (its.toArray.size+its2.toArray.size))=true:=by
  rw[nI hsz,Bool.and_false];exact Bool.false_ne_true
 refine call_meets F.slot_list_extend ⟨_,e,rfl⟩ F.entry_list_extend (F.args_list_extend_2 _ _)
  (AutoSeq1.list_extend_list_list_0 l its.toArray n b its2.toArray n2 hlong (by rw[size_toArray];omega) (by omega)) ⟨e,e2,?_⟩
 refine⟨.non,_,I.lset (its':=its++its2) hH e (by simp) (r.append r2) ?_,rfl,q⟩;rw[length_append];omega
def rP:V→List V→Hp→VK→Prop:=λx vs H Q=>∃l xs i k y,x=.ref l∧vs=[.int i]∧H l=some (.lst xs)∧-(2 ^ 63)≤i∧i<2 ^ 63∧seqIndex? i xs.length=some k∧xs[k]?=some y∧Q y (upd H l (.lst (xs.eraseIdx k)))
theorem iX:MtM X "list.pop" rP:=by
 intro pins s σ H x vs v us Q I rx rv h;obtain⟨l,xs,i,k,y,rfl,rfl,hH,h1,h2,hk,hy,q⟩:=h;cases rx;obtain⟨u,rfl,ru⟩:=rv.one;obtain⟨t,rfl⟩:=ru;obtain⟨z,its,n,r,hl,e⟩:=I.lstM hH;obtain⟨w,hw,rw'⟩:=r.get hy;refine call_meets F.slot_list_pop ⟨_,e,rfl⟩ F.entry_list_pop (F.args_list_pop_2 _ _)
  (MeetsSeq.list_pop_at l its.toArray n i t k w (fitsIndex_both h1 h2) (by rw[size_toArray,←hl];exact hk) (by rw[←getElem?_toList];exact hw) (by rw[size_toArray];omega)) ⟨e,?_⟩
 refine⟨y,_,I.lset (its':=its.eraseIdx k) hH e ?_ (r.eraseIdx k) ?_,rw',q⟩
 ·show its.toArray.eraseIdxIfInBounds k=(its.eraseIdx k).toArray;rw[List.eraseIdxIfInBounds_toArray]
 ·have:=gQ xs k;omega
def uR:R2:=λx y H Q=>∃l b xs zs,x=.ref l∧y=.ref b∧H l=some (.lst xs)∧H b=some (.lst zs)∧xs.length+zs.length≤sizeLine∧∀p,H p=none→Q (.ref p) (upd H p (.lst (xs++zs)))
theorem rQ:OpR X (binaryOp .Add) uR:=by
 intro pins s σ H x y v u Q I rx ry h;obtain⟨l,b,xs,zs,rfl,rfl,hH,hB,hz,q⟩:=h;cases rx;cases ry;obtain⟨z,its,n,r,hl,e⟩:=I.lstM hH;obtain⟨z2,its2,n2,r2,hl2,e2⟩:=I.lstM hB;refine PySem.P.add_list e e2 ?_ (by rw[size_toArray,size_toArray];omega);have ea:its.toArray++its2.toArray=(its++its2).toArray:=by simp
 rw[ea];exact⟨.ref _,_,I.lnew (t':=s.toks) (r.append r2) (by rw[length_append];omega),rfl,q _ I.fresh⟩
end
section
variable{prog:Program}{w:World}{A:Around}{E:Value→Shared→Prop}{s:Shared}
end
section
variable{X:Cx}
end
section
variable{κ:Type}[DecidableEq κ]
def aE(kvs:List (κ×V))(k:κ):Option V:=(kvs.find? λkv=>decide (kv.1=k)).map (·.2)
def cz(kvs:List (κ×V))(k:κ)(v:V):List (κ×V) :=
 if (kvs.any λkv=>decide (kv.1=k))=true then kvs.map (λkv=>if kv.1=k then (kv.1,v)else kv)else kvs++[(k,v)]
theorem aP{p:κ×V}{r:List (κ×V)}{k:κ}(e:p.1=k):aE (p::r) k=some p.2:=by simp[aE,find?_cons,e]
theorem aL{p:κ×V}{r:List (κ×V)}{k:κ}(e:¬p.1=k):aE (p::r) k=aE r k:=by simp[aE,find?_cons,e]
theorem cU(k:κ):∀kvs:List (κ×V),(kvs.any λkv=>decide (kv.1=k))=(aE kvs k).isSome
 |[]=>rfl
 |p::r=>by
  rw[any_cons]
  by_cases e:p.1=k
  ·simp only[aP e,decide_eq_true e,Bool.true_or,Option.isSome_some]
  ·rw[aL e,decide_eq_false e,Bool.false_or];exact cU k r
theorem iY(k j:κ)(y:V):∀kvs:List (κ×V),aE (kvs.map λkv=>if kv.1=k then (kv.1,y)else kv) j=(aE kvs j).map λx=>if j=k then y else x
 |[]=>rfl
 |p::r=>by
  have ih:=iY k j y r;rw[map_cons]
  by_cases h:p.1=k
  ·rw[if_pos h]
   by_cases e:p.1=j
   ·rw[aP (p:=(p.1,y)) e,aP e,map_some,if_pos (e.symm.trans h)]
   ·rw[aL (p:=(p.1,y)) e,aL e,ih]
  ·rw[if_neg h]
   by_cases e:p.1=j
   ·rw[aP (p:=p) e,aP e,map_some,if_neg (λz=>h (e.trans z))]
   ·rw[aL (p:=p) e,aL e,ih]
theorem gR(k j:κ)(y:V):∀kvs:List (κ×V),aE kvs k=none→aE (kvs++[(k,y)]) j=if j=k then some y else aE kvs j
 |[],_=>by
  by_cases e:k=j
  ·rw[if_pos e.symm];exact aP (p:=(k,y)) e
  ·rw[if_neg (λz=>e z.symm)];exact aL (p:=(k,y)) e
 |p::r,hn=>by
  rw[List.cons_append];have hk:¬p.1=k:=λz=>by rw[aP z]at hn;cases hn
  rw[aL hk]at hn;have ih:=gR k j y r hn
  by_cases e:p.1=j
  ·rw[aP e,aP e,if_neg (λz=>hk (e.trans z))]
  ·rw[aL e,aL e,ih]
theorem bV(kvs:List (κ×V))(k j:κ)(y:V):aE (cz kvs k y) j=if j=k then some y else aE kvs j:=by
 unfold cz
 by_cases a:(kvs.any λkv=>decide (kv.1=k))=true
 ·rw[if_pos a,iY];rw[cU]at a
  by_cases e:j=k
  ·obtain⟨x,hx⟩:=Option.isSome_iff_exists.mp a;rw[if_pos e,e,hx,map_some,if_pos rfl]
  ·rw[if_neg e];cases aE kvs j with
   |none=>rfl
   |some x=>rw[map_some,if_neg e]
 ·rw[if_neg a];refine gR k j y kvs ?_;rw[cU]at a;cases q:aE kvs k with
  |none=>rfl
  |some x=>rw[q]at a;exact(a rfl).elim
theorem bj(kvs:List (κ×V))(k:κ)(v:V):(cz kvs k v).length≤kvs.length+1:=by
 unfold cz
 split
 ·rw[length_map];omega
 ·rw[length_append,length_cons,length_nil];omega
theorem nJ{kvs:List (κ×V)}{k:κ}(v:V)(h:aE kvs k=none):cz kvs k v=kvs++[(k,v)]:=by
 unfold cz;rw[cU,h];exact if_neg (by decide)
theorem fj.isSome_eq{o:Option V}{u:Option Value}(r:fj o u):o.isSome=u.isSome:=by
 cases o with
 |none=>cases u with
  |none=>rfl
  |some _=>exact(show False from r).elim
 |some _=>cases u with
  |none=>exact(show False from r).elim
  |some _=>rfl
theorem fj.getD{o:Option V}{u:Option Value}{d:V}{d':Value}(r:fj o u)(rd:av d d'):av (o.getD d) (u.getD d'):=by
 cases o with
 |none=>cases u with
  |none=>exact rd
  |some _=>exact(show False from r).elim
 |some _=>cases u with
  |none=>exact(show False from r).elim
  |some _=>exact r
theorem KV.val{kvs:List (κ×V)}{vs:List (κ×Value)}(r:KV kvs vs)(k:κ):fj (aE kvs k) (valueAt vs k):=by
 unfold KV at r
 induction r with
 |nil=>exact True.intro
 |@cons p q ps qs h t ih =>
  obtain⟨h1,h2⟩:=h
  by_cases e:p.1=k
  ·have e':q.1=k:=h1.symm.trans e;have b:valueAt (q::qs) k=some q.2:=by simp[valueAt,find?_cons,e']
   rw[aP e,b];exact h2
  ·have e':¬q.1=k:=λz=>e (h1.trans z);have b:valueAt (q::qs) k=valueAt qs k:=by simp[valueAt,find?_cons,e']
   rw[aL e,b];exact ih
theorem KV.any{kvs:List (κ×V)}{vs:List (κ×Value)}(r:KV kvs vs)(k:κ):(kvs.any λkv=>decide (kv.1=k))=vs.any λkv=>decide (kv.1=k):=by
 unfold KV at r
 induction r with
 |nil=>rfl
 |cons h t ih=>rw[any_cons,any_cons,ih,h.1]
theorem KV.repl{kvs:List (κ×V)}{vs:List (κ×Value)}(r:KV kvs vs)(k:κ){y:V}{u:Value}(ry:av y u):
  KV (kvs.map λkv=>if kv.1=k then (kv.1,y)else kv) (vs.map λkv=>if kv.1=k then (kv.1,u)else kv):=by
 unfold KV at r⊢
 induction r with
 |nil=>exact .nil
 |@cons p q ps qs h t ih =>
  rw[map_cons,map_cons];refine .cons ?_ ih;obtain⟨h1,h2⟩:=h
  by_cases e:p.1=k
  ·rw[if_pos e,if_pos (h1.symm.trans e)];exact⟨h1,ry⟩
  ·rw[if_neg e,if_neg (λz=>e (h1.trans z))];exact⟨h1,h2⟩
theorem KV.put{kvs:List (κ×V)}{vs:List (κ×Value)}(r:KV kvs vs)(k:κ){y:V}{u:Value}(ry:av y u):KV (cz kvs k y) (stored vs k u):=by
 unfold cz stored;rw[r.any k]
 by_cases e:(vs.any λkv=>decide (kv.1=k))=true
 ·rw[if_pos e,if_pos e];exact r.repl k ry
 ·rw[if_neg e,if_neg e];exact Paired.snoc r ⟨rfl,ry⟩
theorem KV.length{kvs:List (κ×V)}{vs:List (κ×Value)}(r:KV kvs vs):kvs.length=vs.length:=Paired.length r
end
theorem dh{P:Program}{w:World}{k:Key}{u:Value}(r:av (kV k) u):(ak P w).is k u=true:=by
 cases k with
 |inl i=>obtain⟨t,e⟩:=(show ∃t,u=Value.int i t from r);subst e;exact iR P w i t
 |inr x=>obtain⟨t,e⟩:=(show ∃t,u=Value.str x t from r);subst e;exact iS P w x t
theorem rR{a b:Key}(e:kV a=kV b):a=b:=by
 cases a with
 |inl i=>cases b with
  |inl j=>have e':V.int i=V.int j:=e;injection e' with e';rw[e']
  |inr y=>exact nomatch (show V.int i=V.str y from e)
 |inr x=>cases b with
  |inl j=>exact nomatch (show V.str x=V.int j from e)
  |inr y=>have e':V.str x=V.str y:=e;injection e' with e';rw[e']
theorem lC:∀{a b:List Key},a.map kV=b.map kV→a=b
 |[],[],_=>rfl
 |[],_::_,e=>by simp at e
 |_::_,[],e=>by simp at e
 |x::xs,y::ys,e=>by
  rw[map_cons,map_cons]at e;injection e with e1 e2
  rw[rR e1,lC e2]
theorem eL{P:Program}{w:World}:∀{ks:List Key}{us:List Value},aq (ks.map kV) us→ItemsAre (ak P w) ks us
 |[],_,r=>by rw[map_nil]at r;cases r;exact .nil
 |k::ks,_,r=>by
  rw[map_cons]at r;cases r with
  |cons h t=>exact .cons (dh h) (eL t)
abbrev KT(H:Hp):List (List Key×V)→List (List Key×Addr×Value)→Prop:=Paired λp q=>p.1=q.1∧H q.2.1=some (.tup (p.1.map kV))∧av p.2 q.2.2
theorem KT.val{H:Hp}{kvs:List (List Key×V)}{xs:List (List Key×Addr×Value)}(r:KT H kvs xs)(k:List Key):fj (aE kvs k) ((atKey xs k).map (·.2)):=by
 induction r with
 |nil=>exact True.intro
 |@cons p q ps qs h t ih =>
  obtain⟨h1,_,h2⟩:=h
  by_cases e:p.1=k
  ·have e':q.1=k:=h1.symm.trans e;have b:atKey (q::qs) k=some q.2:=by simp[atKey,find?_cons,e']
   rw[aP e,b];exact h2
  ·have e':¬q.1=k:=λz=>e (h1.trans z);have b:atKey (q::qs) k=atKey qs k:=by simp[atKey,find?_cons,e']
   rw[aL e,b];exact ih
theorem KT.repl{H:Hp}{kvs:List (List Key×V)}{xs:List (List Key×Addr×Value)}(r:KT H kvs xs)(k:List Key){y:V}{u:Value}(ry:av y u):
  KT H (kvs.map λkv=>if kv.1=k then (kv.1,y)else kv) (xs.map (putAt k u)):=by
 induction r with
 |nil=>exact .nil
 |@cons p q ps qs h t ih =>
  rw[map_cons,map_cons];refine .cons ?_ ih;obtain⟨h1,h2,h3⟩:=h;unfold putAt
  by_cases e:p.1=k
  ·rw[if_pos e,if_pos (h1.symm.trans e)];exact⟨h1,h2,ry⟩
  ·rw[if_neg e,if_neg (λz=>e (h1.trans z))];exact⟨h1,h2,h3⟩
theorem KT.put{H:Hp}{kvs:List (List Key×V)}{xs:List (List Key×Addr×Value)}(r:KT H kvs xs)(k:List Key){b:Addr}{y:V}{u:Value}(hb:H b=some (.tup (k.map kV)))(ry:av y u):
  KT H (cz kvs k y) (storedH xs k b u):=by
 have e:(kvs.any λkv=>decide (kv.1=k))=(atKey xs k).isSome:=by
  rw[cU,(r.val k).isSome_eq,isSome_map]
 unfold cz storedH;rw[e]
 by_cases q:(atKey xs k).isSome=true
 ·rw[if_pos q,if_pos q];exact r.repl k ry
 ·rw[if_neg q,if_neg q];exact Paired.snoc r ⟨rfl,hb,ry⟩
theorem KT.keeps{H H':Hp}{kvs:List (List Key×V)}{xs:List (List Key×Addr×Value)}(r:KT H kvs xs)(ht:∀b ys,H b=some (.tup ys)→H' b=some (.tup ys)):KT H' kvs xs :=
 Paired.mapP r λ_ _ z=>⟨z.1,ht _ _ z.2.1,z.2.2⟩
section
variable{P:Program}{w:World}{H:Hp}{h:Heap}{a:Addr}
theorem rm{u:HO}(ok:HOk P w H h)(e:Rd H a u):aT P w H h a u:=e.ok ok
theorem eU{kvs:List (Key×V)}(ok:HOk P w H h)(e:Rd H a (.dK kvs)):kvs.length≤sizeLine∧(a==sysModules)=false∧∃vs,KV kvs vs∧h.DictOf (ak P w) a vs :=
 show aT P w H h a (.dK kvs)from rm ok e
theorem nK{kvs:List (Key×V)}(ok:HOk P w H h)(e:H a=some (.dK kvs)):kvs.length≤sizeLine∧(a==sysModules)=false∧∃vs,KV kvs vs∧h.DictOf (ak P w) a vs:=eU ok (.inl e)
theorem dq{ks:List Key}(ok:HOk P w H h)(e:H a=some (.tup (ks.map kV))):(tupleKind (ak P w)).is h ks a:=by
 obtain⟨_,its,r,o,h1,h2,n,h3⟩:=(show aT P w H h a (.tup (ks.map kV))from ok a _ e);exact⟨o,its.toArray,n,h1,h2,h3,by simpa using eL r⟩
theorem eV{kvs:List (List Key×V)}(ok:HOk P w H h)(e:Rd H a (.dT kvs)):kvs.length≤sizeLine∧(a==sysModules)=false ∧
  ∃xs,KT H kvs xs∧h.DictOfH (tupleKind (ak P w)) a xs:=by
 obtain⟨z,y,xs,r,o,es,ep,h1,h2,h3,h4,h5⟩:=(show aT P w H h a (.dT kvs)from rm ok e);refine⟨z,y,xs,r,o,es,ep,h1,h2,h3,h4,λx hx=>?_,h5⟩;have all:∀{l:List (List Key×V)}{m:List (List Key×Addr×Value)},KT H l m→∀x∈m,(tupleKind (ak P w)).is h x.1 x.2.1:=by
  intro l m q
  induction q with
  |nil=>intro x hx;exact nomatch hx
  |@cons p q ps qs hq t ih =>
   intro x hx;rcases mem_cons.mp hx with e|hx
   ·subst e;exact dq ok (by rw[←hq.1];exact hq.2.1)
   ·exact ih x hx
 exact all r x hx
theorem tY{kvs:List (List Key×V)}(ok:HOk P w H h)(e:H a=some (.dT kvs)):kvs.length≤sizeLine∧(a==sysModules)=false ∧
  ∃xs,KT H kvs xs∧h.DictOfH (tupleKind (ak P w)) a xs:=eV ok (.inl e)
end
def bA(H:Hp)(a:Addr)(y:V)(r:Option V):Prop :=
 (∃kvs k,Rd H a (.dK kvs)∧y=kV k∧r=aE kvs k)∨∃kvs k b,Rd H a (.dT kvs)∧y=.ref b∧H b=some (.tup (k.map kV))∧r=aE kvs k
def tZ(H:Hp)(a:Addr)(y v:V)(H':Hp):Prop :=
 (∃kvs k,H a=some (.dK kvs)∧y=kV k∧kvs.length<sizeLine∧H'=upd H a (.dK (cz kvs k v))) ∨
 ∃kvs k b,H a=some (.dT kvs)∧y=.ref b∧H b=some (.tup (k.map kV))∧kvs.length<sizeLine∧H'=upd H a (.dT (cz kvs k v))
theorem bA.k{H:Hp}{a:Addr}{kvs:List (Key×V)}{k:Key}(e:H a=some (.dK kvs)):bA H a (kV k) (aE kvs k):=.inl ⟨kvs,k,.inl e,rfl,rfl⟩
section
variable{X:Cx}{pins:List (Addr×Obj)}{σ:St}{H:Hp}{s:Shared}{a:Addr}{y v:V}{u r:Value}{o:Option V}{A:Around}{E:Value→Shared→Prop}
theorem Inv.big(I:Inv X pins σ H s):sysModules<s.heap.objs.size:=by
 have h:mainGlobals<s.heap.objs.size:=(I.mod.glob.keeps I.bk).lt;exact lt_trans (by decide) h
theorem ml{Q:Value→Shared→Prop}(hu:A.units+1<cLine)(I:Inv X pins σ H s)(g:bA H a y (some v))(ry:av y u)(h:∀w' s',Inv X pins σ H s'→av v w'→Q w' s'):
  wpAny (model X.prog X.w) A (getItem (.ref a) u) Q E s:=by
 rcases g with⟨kvs,k,e,ey,l⟩|⟨kvs,k,b,e,ey,eb,l⟩
 ·subst ey;obtain⟨z,hd,vs,rel,dd⟩:=eU I.hok e;obtain⟨w',hw,rw'⟩:=fj.some_of (v:=v) (o:=valueAt vs k) (by rw[l];exact rel.val k);exact wpAny_getItem_of (dh ry) dd.mapOf hw (h w' _ (I.tok _) rw')
 ·subst ey;cases (show u=Value.ref b from ry);obtain⟨z,hd,xs,rel,dd⟩:=eV I.hok e;obtain⟨w',hw,rw'⟩:=fj.some_of (v:=v) (o:=(atKey xs k).map (·.2)) (by rw[l];exact rel.val k);obtain⟨p,hp,hp2⟩:=Option.map_eq_some_iff.mp hw;refine wpAny_getItem_heap (tupleKind_room_in1 hu) (dq I.hok eb) dd hp ?_;rw[hp2];exact h w' _ (I.tok _) rw'
theorem uS{Q:Value→Shared→Prop}(hu:A.units+1<cLine)(I:Inv X pins σ H s)(g:bA H a y o)(ry:av y u)(h:∀s',Inv X pins σ H s'→Q (.bool o.isSome) s'):
  wpAny (model X.prog X.w) A (compareOp .In u (.ref a)) Q E s:=by
 rcases g with⟨kvs,k,e,ey,l⟩|⟨kvs,k,b,e,ey,eb,l⟩
 ·subst ey;obtain⟨z,hd,vs,rel,dd⟩:=eU I.hok e;refine wpAny_in_of (dh ry) hd dd.mapOf ?_;rw[←(rel.val k).isSome_eq,←l];exact h _ (I.tok _)
 ·subst ey;cases (show u=Value.ref b from ry);obtain⟨z,hd,xs,rel,dd⟩:=eV I.hok e;refine wpAny_in_heap (tupleKind_room_in1 hu) (dq I.hok eb) hd dd ?_;have q:=(rel.val k).isSome_eq;rw[isSome_map]at q;rw[←q,←l];exact h _ (I.tok _)
theorem pY{Q:Value→Shared→Prop}(hu:A.units+1<cLine)(I:Inv X pins σ H s)(g:bA H a y o)(ry:av y u)(h:∀s',Inv X pins σ H s'→Q (.bool (!o.isSome)) s'):
  wpAny (model X.prog X.w) A (compareOp .NotIn u (.ref a)) Q E s:=by
 rcases g with⟨kvs,k,e,ey,l⟩|⟨kvs,k,b,e,ey,eb,l⟩
 ·subst ey;obtain⟨z,hd,vs,rel,dd⟩:=eU I.hok e;refine wpAny_notIn_of (dh ry) hd dd.mapOf ?_;rw[←(rel.val k).isSome_eq,←l];exact h _ (I.tok _)
 ·subst ey;cases (show u=Value.ref b from ry);obtain⟨z,hd,xs,rel,dd⟩:=eV I.hok e;refine wpAny_notIn_heap (tupleKind_room_in1 hu) (dq I.hok eb) hd dd ?_;have q:=(rel.val k).isSome_eq;rw[isSome_map]at q;rw[←q,←l];exact h _ (I.tok _)
theorem fo{h':Heap}{t':Nat}{ob:HO}(I:Inv X pins σ H s)(mu:Mut (H a))(hs:SameBut a s.heap h')(he:∃q,h'.get? a=some q)(new:aT X.prog X.w (upd H a ob) h' a ob):
  Inv X pins σ (upd H a ob) {s with heap:=h',toks:=t'} :=
 I.write (x:=a) (e:=a) mu (.inl rfl) (λb q hb z=>(hs.2 b hb).trans z) he new
theorem iz{P:Program}{w:World}{H':Hp}{h':Heap}{kvs:List (Key×V)}{vs:List (Key×Value)}(z:kvs.length≤sizeLine)(hd:(a==sysModules)=false)(rel:KV kvs vs)(dd:h'.DictOf (ak P w) a vs):
  aT P w H' h' a (.dK kvs):=⟨z,hd,vs,rel,dd⟩
theorem mm{H':Hp}{Q:Unit→Shared→Prop}(hu:A.units+1<cLine)(I:Inv X pins σ H s)(g:tZ H a y v H')(ry:av y u)(rv:av v r)(h:∀s',Inv X pins σ H' s'→Q () s'):
  wpAny (model X.prog X.w) A (setItem (.ref a) u r) Q E s:=by
 rcases g with⟨kvs,k,e,ey,l,eH⟩|⟨kvs,k,b,e,ey,eb,l,eH⟩
 ·subst ey eH;obtain⟨z,hd,vs,rel,dd⟩:=nK I.hok e;have hz:vs.length≤sizeLine:=by rw[←rel.length];exact z
  have hl:(cz kvs k v).length≤sizeLine:=by have:=bj kvs k v;omega
  refine wpAny_setItem_pairs (hsz:=hz) (dh ry) dd λh' dd' hs=>h _ ?_;have he:∃q,h'.get? a=some q:=let⟨q,_,_,hq,_⟩:=dd';⟨q,hq⟩;exact fo I (by rw[e];exact True.intro) hs he (iz hl hd (rel.put k rv) dd')
 ·subst ey eH;cases (show u=Value.ref b from ry);obtain⟨z,hd,xs,rel,dd⟩:=tY I.hok e;have hz:xs.length≤sizeLine:=by rw[←Paired.length rel];exact z
  have hl:(cz kvs k v).length≤sizeLine:=by have:=bj kvs k v;omega
  refine wpAny_setItem_heap (hsz:=hz) (tupleKind_room_in1 hu) (dq I.hok eb) dd λh' dd' hs=>h _ ?_;obtain⟨q,es,ep,hq,h2,h3,h4,_,h5⟩:=dd';refine fo I (by rw[e];exact True.intro) hs ⟨q,hq⟩ ⟨hl,hd,_,(rel.put k eb rv).keeps λc ys ec=>?_,q,es,ep,hq,h2,h3,h4,h5⟩;rw[ag (tI ec e (λz=>nomatch z))];exact ec
end
section
variable{X:Cx}{pins:List (Addr×Obj)}{σ:St}{H:Hp}{s:Shared}{a:Addr}{kvs:List (Key×V)}{k:Key}{u:Value}{A:Around}{E:Value→Shared→Prop}
end
def ua(i:Expr):Prop:=∀ov iv,subscripted i false ov iv=operate [ov,iv] (getItem ov iv)
theorem pZ{prog:Program}{w:World}{A:Around}{E:Value→Shared→Prop}{s:Shared}{env:Env}{value slice:Expr}{pos:Pos}{T id:String}{Q:Value→Shared→Prop}(hl:typeLookup (.type T) "__getitem__"=pure (some (.builtin id)))(hs:ua slice)(h:wpAny (model prog w) A (eval value env) (λo s₁=>wpAny (model prog w) A (eval slice env) (λi s₂=>s₂.TypeIs o T∧wpAny (model prog w) A (getItem o i) Q E s₂) E s₁) E s):
  wpAny (model prog w) A (eval (.Subscript value slice pos) env) Q E s:=by
 refine Subscript_ (wpAny_mono h (λo s₁ h₁=>wpAny_mono h₁ (λi s₂ h₂=>?_) λ_ _ x=>x) λ_ _ x=>x);obtain⟨hT,h₂⟩:=h₂;unfold subscriptTail;refine wpAny_bind ?_;rw[getitemInPython_of_ne hT.not_modules];refine wpAny_bind (wpAny_specialOf hT hl ?_);have fin:wpAny (model prog w) A (subscripted slice false o i) (λr s₃=>wpAny (model prog w) A (letTemporaryGo value o r >>= λ_=>pure r) Q E s₃) E s₂:=by
  rw[hs o i];exact wpAny_operating (wpAny_mono h₂ (λr s₃ h₃=>wpAny_bind (wpAny_letTemporaryGo (wpAny_pure h₃))) λ_ _ x=>x)
 first
  |exact wpAny_pure (wpAny_bind fin)
  |exact wpAny_bind (wpAny_pure (wpAny_bind fin))
  |exact wpAny_bind fin
theorem iZ{X:Cx}{pins:List (Addr×Obj)}{σ:St}{H:Hp}{s:Shared}{a:Addr}{y:V}{o:Option V}(I:Inv X pins σ H s)(g:bA H a y o):s.TypeIs (.ref a) "dict":=by
 rcases g with⟨kvs,k,e,_,_⟩|⟨kvs,k,b,e,_,_,_⟩
 ·obtain⟨_,_,vs,_,dd⟩:=eU I.hok e;exact dd.typeIs
 ·obtain⟨_,_,xs,_,dd⟩:=eV I.hok e;exact dd.typeIs
def ub(td ty:TE):TE:=λσ H Q=>td σ H λx H1=>ty σ H1 λy H2=>∃a v,x=.ref a∧bA H2 a y (some v)∧Q v H2
def uT(ty td:TE):TE:=λσ H Q=>ty σ H λy H1=>td σ H1 λx H2=>∃a o,x=.ref a∧bA H2 a y o∧Q (.bl o.isSome) H2
def qb(ty td:TE):TE:=λσ H Q=>ty σ H λy H1=>td σ H1 λx H2=>∃a o,x=.ref a∧bA H2 a y o∧Q (.bl (!o.isSome)) H2
def uc(td ty tv:TE):TS:=λD σ H=>tv σ H λv H1=>td σ H1 λx H2=>ty σ H2 λy H3=>∃a H4,x=.ref a∧tZ H3 a y v H4∧D.nx σ H4
section
variable{X:Cx}{o i e value:Expr}{pos pos' tpos:Pos}{td ty tv:TE}
theorem ca(hu:X.A.units+1<cLine)(ho:PE X o td)(hi:PE X i ty)(hs:ua i):PE X (.Subscript o i pos) (ub td ty):=by
 intro pins s σ H Q I h;refine pZ PySem.F.slot_dict_getitem.lookup hs (thn (ho pins s σ H _ I h) λu s1 ⟨x,H1,I1,rx,q1⟩=>thn (hi pins s1 σ H1 _ I1 q1) λiv s2 hpt=>?_);obtain⟨y,H2,I2,ry,a,v,ex,g,q2⟩:=hpt;subst ex;obtain rfl:u=Value.ref a:=rx;exact⟨iZ I2 g,ml hu I2 g ry λw' s3 I3 rw'=>⟨v,H2,I3,rw',q2⟩⟩
theorem rS(hu:X.A.units+1<cLine)(hi:PE X i ty)(ho:PE X o td):PC X .In i o (uT ty td):=by
 intro pins s σ H Q I h;refine thn (hi pins s σ H _ I h) λiv s1 ⟨y,H1,I1,ry,q1⟩=>thn (ho pins s1 σ H1 _ I1 q1) λu s2 hpt=>?_;obtain⟨x,H2,I2,rx,a,ov,ex,g,q2⟩:=hpt;subst ex;obtain rfl:u=Value.ref a:=rx;exact uS hu I2 g ry λs3 I3=>⟨.bl ov.isSome,H2,I3,rfl,q2⟩
theorem gT(hu:X.A.units+1<cLine)(hi:PE X i ty)(ho:PE X o td):PC X .NotIn i o (qb ty td):=by
 intro pins s σ H Q I h;refine thn (hi pins s σ H _ I h) λiv s1 ⟨y,H1,I1,ry,q1⟩=>thn (ho pins s1 σ H1 _ I1 q1) λu s2 hpt=>?_;obtain⟨x,H2,I2,rx,a,ov,ex,g,q2⟩:=hpt;subst ex;obtain rfl:u=Value.ref a:=rx;exact pY hu I2 g ry λs3 I3=>⟨.bl (!ov.isSome),H2,I3,rfl,q2⟩
theorem iA(hu:X.A.units+1<cLine)(ho:PE X o td)(hi:PE X i ty)(hv:PE X value tv)(hs:swapsWith value (some (.Subscript o i pos')) pos.line X.env=pure false):
  PS X (.Assign [.Subscript o i pos'] value pos) (uc td ty tv):=by
 intro pins s σ H D I h;refine wpAny_Assign_Subscript (thn (hv pins s σ H _ I h) λr s1 ⟨v,H1,I1,rv,q1⟩=>thn (ho pins s1 σ H1 _ I1 q1) λu s2 ⟨x,H2,I2,rx,q2⟩=>thn (hi pins s2 σ H2 _ I2 q2) λiv s3 ⟨y,H3,I3,ry,a,H4,ex,g,q3⟩=>?_) hs;subst ex;obtain rfl:u=Value.ref a:=rx;exact mm hu I3 g ry rv λs4 I4=>⟨σ,H4,I4,q3⟩
end
theorem ja{P:Program}{w:World}{H:Hp}(h:Heap)(hb:sysModules<h.objs.size):aT P w H (h.push {cls:=.type "dict",data:=.dict #[]}) h.objs.size (.dK []) :=
 ⟨zero_le _,beq_eq_false_iff_ne.mpr (symm (ne_of_lt hb)),[],.nil,Heap.DictOf.new h⟩
def rT:TE:=λ_ H Q=>∀p,H p=none→Q (.ref p) (upd H p (.dK []))
section
variable{X:Cx}{pos:Pos}
theorem nL:PE X (.Dict [] [] pos) rT:=λpins s σ H Q I h =>
 wpAny_Dict_empty ⟨.ref s.heap.objs.size,_,I.laid (a:=s.heap.objs.size) (o:=.dK []) (t':=s.toks) (λ_ _ q=>get?_push_of_some _ q) (le_refl _) (ja s.heap I.big),rfl,h _ (I.hok.fresh (le_refl _))⟩
end
structure M1(X:Cx)(o:Expr)(m:Str)(apos:Pos)(e:Expr)(cpos:Pos):Prop where
 base:attributeBase o m X.env (eval o X.env)=eval o X.env
 few:((backTo cpos (starEach [e] X.env)).all (λx=>!x.1)&&(backToKw cpos (keywordEach [] X.env)).all (λx=>x.1.isSome)
  && decide (([e]:List Expr).length+([]:List Keyword).length+(if ([]:List Keyword).isEmpty then 0 else 1)<30))=true
 line:(apos.endLine==cpos.line)=true
 trees:backTo cpos (starEach [e] X.env)=[(false,eval e X.env)]
structure M2(X:Cx)(o:Expr)(m:Str)(apos:Pos)(e f:Expr)(cpos:Pos):Prop where
 base:attributeBase o m X.env (eval o X.env)=eval o X.env
 few:((backTo cpos (starEach [e,f] X.env)).all (λx=>!x.1)&&(backToKw cpos (keywordEach [] X.env)).all (λx=>x.1.isSome)
  && decide (([e,f]:List Expr).length+([]:List Keyword).length+(if ([]:List Keyword).isEmpty then 0 else 1)<30))=true
 line:(apos.endLine==cpos.line)=true
 trees:backTo cpos (starEach [e,f] X.env)=[(false,eval e X.env),(false,eval f X.env)]
def IsD(H:Hp)(a:Addr):Prop:=(∃kvs,Rd H a (.dK kvs))∨∃kvs,Rd H a (.dT kvs)
theorem nM{X:Cx}{pins:List (Addr×Obj)}{σ:St}{H:Hp}{s:Shared}{a:Addr}(I:Inv X pins σ H s)(d:IsD H a):
  s.TypeIs (.ref a) "dict"∧(∀b,Value.ref a=.ref b→∃ob,s.heap.get? b=some ob∧ob.dict=none)∧(a==sysModules)=false:=by
 rcases d with⟨kvs,e⟩|⟨kvs,e⟩
 ·obtain⟨_,hd,vs,_,dd⟩:=eU I.hok e;refine⟨dd.typeIs,λb q=>?_,hd⟩;cases q;obtain⟨ob,_,_,h1,h2,_⟩:=dd;exact⟨ob,h1,h2.2.1⟩
 ·obtain⟨_,hd,xs,_,dd⟩:=eV I.hok e;refine⟨dd.typeIs,λb q=>?_,hd⟩;cases q;obtain⟨ob,_,_,h1,h2,_⟩:=dd;exact⟨ob,h1,h2.2.1⟩
section
variable{X:Cx}{pins:List (Addr×Obj)}{σ:St}{H:Hp}{s:Shared}{a:Addr}{y d:V}{u r:Value}{o:Option V}{A:Around}{E:Value→Shared→Prop}
theorem rU{Q:Value→Shared→Prop}(hu:A.units+1<cLine)(I:Inv X pins σ H s)(g:bA H a y o)(ry:av y u)(h:∀w' s',Inv X pins σ H s'→av (o.getD .non) w'→Q w' s'):
  wpAny (model X.prog X.w) A (call (.builtin "dict.get") [.ref a,u]) Q E s:=by
 rcases g with⟨kvs,k,e,ey,l⟩|⟨kvs,k,b,e,ey,eb,l⟩
 ·subst ey;obtain⟨z,hd,vs,rel,dd⟩:=eU I.hok e;refine call_meetsIn slot_dict_get dd.typeIs entry_dict_get (PySem.F.args_dict_get_2 _ _) (meets_dict_get (ak X.prog X.w) a (dh ry) hd) ⟨_,dd.mapOf,h _ _ (I.tok _) ?_⟩;rw[l];exact(rel.val k).getD rfl
 ·subst ey;cases (show u=Value.ref b from ry);obtain⟨z,hd,xs,rel,dd⟩:=eV I.hok e;refine call_meetsIn slot_dict_get dd.typeIs entry_dict_get (PySem.F.args_dict_get_2 _ _) (meetsH_dict_get (tupleKind (ak X.prog X.w)) a b hd) ⟨tupleKind_room_in1 hu,k,xs,dq I.hok eb,dd,h _ _ (I.tok _) ?_⟩;rw[l];exact(rel.val k).getD rfl
theorem rV{Q:Value→Shared→Prop}(hu:A.units+1<cLine)(I:Inv X pins σ H s)(g:bA H a y o)(ry:av y u)(rd:av d r)(h:∀w' s',Inv X pins σ H s'→av (o.getD d) w'→Q w' s'):
  wpAny (model X.prog X.w) A (call (.builtin "dict.get") [.ref a,u,r]) Q E s:=by
 rcases g with⟨kvs,k,e,ey,l⟩|⟨kvs,k,b,e,ey,eb,l⟩
 ·subst ey;obtain⟨z,hd,vs,rel,dd⟩:=eU I.hok e;refine call_meetsIn slot_dict_get dd.typeIs entry_dict_get (PySem.F.args_dict_get_3 _ _ _) (meets_dict_get_default (ak X.prog X.w) a (dh ry) hd r) ⟨_,dd.mapOf,h _ _ (I.tok _) ?_⟩;rw[l];exact(rel.val k).getD rd
 ·subst ey;cases (show u=Value.ref b from ry);obtain⟨z,hd,xs,rel,dd⟩:=eV I.hok e;refine call_meetsIn slot_dict_get dd.typeIs entry_dict_get (PySem.F.args_dict_get_3 _ _ _) (meetsH_dict_get_default (tupleKind (ak X.prog X.w)) a b hd r) ⟨tupleKind_room_in1 hu,k,xs,dq I.hok eb,dd,h _ _ (I.tok _) ?_⟩;rw[l];exact(rel.val k).getD rd
end
def rW(td ty:TE):TE:=λσ H Q=>td σ H λx H1=>∃a,x=.ref a∧IsD H1 a∧ty σ H1 λy H2=>∃o,bA H2 a y o∧Q (o.getD .non) H2
def rX(td ty tx:TE):TE:=λσ H Q=>td σ H λx H1=>∃a,x=.ref a∧IsD H1 a∧ty σ H1 λy H2=>tx σ H2 λz H3=>∃o,bA H3 a y o∧Q (o.getD z) H3
section
variable{X:Cx}{o e f:Expr}{apos cpos:Pos}{td ty tx:TE}
theorem jb(hu:X.A.units+1<cLine)(ho:PE X o td)(he:PE X e ty)(m:M1 X o "get" apos e cpos):PE X (.Call (.Attribute o "get" apos) [e] [] cpos) (rW td ty):=by
 intro pins s σ H Q I h;refine wpAny_Call_method m.base m.few m.line plainAttrs_dict slot_dict_get type_dict_get (thn (ho pins s σ H _ I h) λu s1 hpt=>?_);obtain⟨x,H1,I1,rx,a,ex,d,q1⟩:=hpt;subst ex;obtain rfl:u=Value.ref a:=rx;obtain⟨t1,t2,_⟩:=nM I1 d;refine⟨t1,t2,?_⟩;rw[m.trees];refine callWith_builtin rfl (evalArgs_plain (spliced_cons (thn (he pins s1 σ H1 _ I1 q1) λiv s2 ⟨y,H2,I2,ry,ov,g,q2⟩=>spliced_nil ?_)));exact rU hu I2 g ry λw' s3 I3 rw'=>⟨_,H2,I3,rw',q2⟩
theorem nN(hu:X.A.units+1<cLine)(ho:PE X o td)(he:PE X e ty)(hf:PE X f tx)(m:M2 X o "get" apos e f cpos):PE X (.Call (.Attribute o "get" apos) [e,f] [] cpos) (rX td ty tx):=by
 intro pins s σ H Q I h;refine wpAny_Call_method m.base m.few m.line plainAttrs_dict slot_dict_get type_dict_get (thn (ho pins s σ H _ I h) λu s1 hpt=>?_);obtain⟨x,H1,I1,rx,a,ex,d,q1⟩:=hpt;subst ex;obtain rfl:u=Value.ref a:=rx;obtain⟨t1,t2,_⟩:=nM I1 d;refine⟨t1,t2,?_⟩;rw[m.trees];refine callWith_builtin rfl (evalArgs_plain (spliced_cons (thn (he pins s1 σ H1 _ I1 q1) λiv s2 ⟨y,H2,I2,ry,q2⟩ =>
  spliced_cons (thn (hf pins s2 σ H2 _ I2 q2) λfv s3 ⟨z,H3,I3,rz,ov,g,q3⟩=>spliced_nil ?_))))
 exact rV hu I3 g ry rz λw' s4 I4 rw'=>⟨_,H3,I4,rw',q3⟩
end
section
variable{X:Cx}{pins:List (Addr×Obj)}{σ:St}{H:Hp}{s:Shared}{a:Addr}{kvs:List (Key×V)}{A:Around}{E:Value→Shared→Prop}
end
section
variable{X:Cx}{pins:List (Addr×Obj)}{σ:St}{H:Hp}{s:Shared}{a:Addr}{y:V}{u:Value}{A:Around}{E:Value→Shared→Prop}
end
end L2
namespace Att
open PySem PySem.W PySem.Calls PyProof.Rows
theorem fk{P:Params}{h:Heap}:∀(ns:List Int)(vs:List Value),WellAll P h vs (ns.map WData.int)→IntsAre vs ns:=by
 intro ns
 induction ns with
 |nil =>
  intro vs w;rw[map_nil]at w;cases w;exact .nil
 |cons n ns ih =>
  intro vs w;rw[map_cons]at w;cases w with
  |cons a b =>
   cases a;exact .cons _ _ (ih _ b)
theorem mo{l:OpenLaw}{n:Nat}(hn:l.most=some n){P:Params}{h:Heap}{args:List WData}{vals:List Value}(hpre:l.row.toRowW.claim.pre args=true)(hwl:WellAll P h vals args):
  ∃a vs ns,vals=[Value.ref a]∧args=[WData.list (ns.map WData.int)]∧h.get? a=some {cls:=.type "list",data:=.seq vs.toArray}∧IntsAre vs ns∧ns.length≤n:=by
 have hsh:WShape.hasAll [] args [.list .int]=true:=(pre_splitW hpre).1;have hc:l.pre.holds [] {args:=args}=true:=(pre_splitW hpre).2;obtain⟨d,r,rfl,h1,h2⟩:=hasAllW_cons hsh;obtain rfl:=hasAllW_nil h2;obtain⟨xs,rfl,h3⟩:=hasW_list h1;obtain⟨ns,rfl⟩:=items_int h3;have hlen:ns.length≤n:=by
  unfold OpenLaw.pre at hc;have h4:(WTm.not (.lt (.lit (.int (n:Int))) (.len (.arg 0)))).holds [] {args:=[.list (ns.map .int)]}=true:=by
   have h4:=(holds_andW hc).1;rw[hn]at h4;exact h4
  have h5:=condW_of h4 (w_not (w_lt w_lit (w_len_list (w_arg rfl))));rw[length_map]at h5;refine Nat.le_of_not_lt λq=>?_;have q':(n:Int)<((ns.length:Nat):Int):=by omega
  first
   |(rw[decide_eq_true q']at h5;exact absurd h5 (by decide))
   |(simp at h5;omega)
 cases hwl with
 |cons w1 w2 =>
  cases w2;cases w1 with
  |list ho hall=>exact⟨_,_,ns,rfl,rfl,ho,fk ns _ hall,hlen⟩
theorem mq(l:OpenLaw)(args:List WData):l.row.toRowW.claim.post args (.bool true) args=true :=
 postW_of (r:=l.row.toRowW) (X:=(true==true))
  (show WShape.has [] (.bool true) .bool=true by first|rfl|decide|simp[WShape.has,WShape.arms,WShape.armsAll])
  (show(WTm.eq .res (.lit (.bool true))).value [] {args:=args,res:=some (.bool true),after:=args}=some (.bool (true==true))from w_eq_bool (w_res rfl) w_lit) rfl
theorem jc{l:OpenLaw}{n:Nat}{q:Program}{loose:List Str}{XP:(Str→Option Value)→Heap→Prop}{YP:World→Heap→Prop}{d:DefRec}(hn:l.most=some n)(hdf:d.params.defaults=[])(call:∀(w:World) (s₀ s₁:Shared) (mg mb:Str→Option Value) (fa:Addr) (o:Obj) (pm cd doc:Value) (a:Addr) (vs:List Value) (ns:List Int),
   Ground q loose [] XP w s₀ mg mb s₁.heap→YP w s₁.heap →
   s₁.heap.get? fa=some o→o.data=.func (docDef d.name d.params d.body d.scope pm cd doc)→s₁.heap.CodeRec cd d.name→mg d.name=some (.ref fa) →
   s₁.heap.get? a=some {cls:=.type "list",data:=.seq vs.toArray}→IntsAre vs ns→ns.length≤n→s₁.gens=#[] →
   codeAny (model l.prog w) callerA (.call (.ref fa) ⟨[.ref a],[]⟩) (λr s'=>r=.ok (.ret (.bool true))∧OldK s₁.heap s'.heap∧s'.os=s₁.os∧AllBare s'.gens) s₁):
  WalkO q loose XP YP l.row.toRowW d [] (λf vs=>PySem.call f vs):=by
 intro w s₀ s₁ mg mb G Y fa o pm cd doc dV kV ho hd hcd hD hmg hg args vals as hpre hlay hrd hwl hlo;obtain rfl:dV=.none:=Dflts.none hD hdf;obtain rfl:kV=.none:=Dflts.noKw hD;obtain⟨a,vs,ns,rfl,rfl,hobj,hints,hlen⟩:=mo hn hpre hwl;refine enter_call (codeAny_mono (call w s₀ s₁ mg mb fa o pm cd doc a vs ns G Y ho (fd_plain hd) hcd hmg hobj hints hlen hg) λr s' hq=>?_);obtain⟨rfl,h2,h3,h4⟩:=hq;exact⟨.inl ⟨.bool true,.bool true,[],rfl,λ_=>rfl,.bool true,mq l _,λ_=>⟨Pairwise.nil,λ_ hm=>(nomatch hm)⟩⟩,h2,h3,h4⟩
section
variable{prog:Program}{w:World}{A:Around}{E:Value→Shared→Prop}{s:Shared}{K:Frag}
end
end Att
namespace L2
open PySem PySem.Spec PyProof.Rows
theorem gU:∀{vs:List Value}{ns:List Int},IntsAre vs ns→aq (ns.map V.int) vs
 |_,_,.nil=>.nil
 |_,_,.cons n t h=>.cons ⟨t,rfl⟩ (gU h)
def rY(H:Hp):Prop:=∀b,H b=none∨∃o xs,H b=some (.frz o (.lst xs))
theorem nO{P:Program}{w:World}{K:PySem.W.Frag}{mg mb:Str→Option Value}{CX:CXT}{k:Nat}{fa a:Addr}{fd:FuncData}{x:Str}{sp:Sp}{s₁:Shared}{vs:List Value}{ns:List Int}(KX:K.In s₁.heap)(hns:s₁.heap.Ns mainGlobals mg)(hb:s₁.heap.Ns builtinsNs mb)(hbb:∀x:Str,x≠"__name__"→mb x=bootBuiltins x)(hlim:s₁.heap.NoLimit)(hg:s₁.gens=#[])(ha:s₁.heap.get? a=some {cls:=.type "list",data:=.seq vs.toArray})(hi:IntsAre vs ns)(hl:ns.length≤sizeLine)(hr:Room k callerA)(F:∀base:Heap,K.In base→base.Ns mainGlobals mg→FnOk P w K mg base CX k fa fd [x] sp)(hbind:∀(s:Shared) (u:Value),BindsTo s fd ⟨[u],[]⟩ [(x,u)])(hsp:∀H:Hp,rY H→SqL K H a (ns.map V.int)→sp [.ref a] H (λv _=>v=.bl true) λ_ _ _=>False)(hCX:∀H e s',CX [] H s₁ (λ_ _ _=>False) e s'→False):
  codeAny (model P w) callerA (.call (.ref fa) ⟨[.ref a],[]⟩) (λr s'=>r=.ok (.ret (.bool true))∧OldK s₁.heap s'.heap∧s'.os=s₁.os∧AllBare s'.gens) s₁:=by
 have rv:=gU hi;have lenV:=hi.length;have core:∀H:Hp,rY H→SqL K H a (ns.map V.int)→HOk P w H s₁.heap→(∀b,H b≠none→b=a)→(H a≠none→K.lookup a=none) →
   codeAny (model P w) callerA (.call (.ref fa) ⟨[.ref a],[]⟩) (λr s'=>r=.ok (.ret (.bool true))∧OldK s₁.heap s'.heap∧s'.os=s₁.os∧AllBare s'.gens) s₁:=by
  intro H hO hS hok hA hK;have base_of:∀{b:Addr}{o:Obj},s₁.heap.get? b=some o→H b=none→(im s₁.heap H).get? b=some o:=λe n=>nw e n;have noA:∀{b:Addr}{o:Obj}{es:Array DictEntry}{ep:Nat},s₁.heap.get? b=some o→o.data=.dict es ep→H b=none:=λ{b o es ep} e d=>by
   cases q:H b with
   |none=>rfl
   |some u =>
    have e':b=a:=hA b (by rw[q];simp);subst e';rw[ha]at e;cases e;have d':Data.seq vs.toArray _=Data.dict es ep:=d;cases d'
  have nsK:∀{b:Addr}{m:Str→Option Value},s₁.heap.Ns b m→(im s₁.heap H).Ns b m:=λ{b m} ⟨o,es,ep,e,d,r⟩=>⟨o,es,ep,base_of e (noA e d),d,r⟩;have hKb:K.In (im s₁.heap H):=λb o e=>base_of (KX b o e) (by
   cases q:H b with
   |none=>rfl
   |some u =>
    have e':b=a:=hA b (by rw[q];simp);subst e';rw[hK (by rw[q];simp)]at e;cases e)
  have hM:Mod K mg (im s₁.heap H):=⟨hKb,nsK hns,⟨mb,nsK hb,hbb⟩,let⟨mc,h1,h2⟩:=hlim;⟨mc,nsK h1,h2⟩⟩;have e0:Env0 P w K mg (im s₁.heap H) callerA [] s₁ H:=⟨rfl,hM,λb o e=>pP e,Nat.le_of_eq (lW _ _),trivial,λb hb=>absurd (show b∈([]:List Addr)from hb) (by simp),hok,.of_eq hg⟩;refine codeAny_mono ((F _ hKb (nsK hns)).run callerA [] s₁ H ⟨[.ref a],[]⟩ [.ref a] [.ref a] _ _ hr e0 (hbind s₁ (.ref a)) (.cons rfl .nil) (hsp H hO hS)) λr s' h=>?_;cases r with
  |error e=>exact(hCX H e s' h).elim
  |ok fl =>
   cases fl with
   |next=>exact False.elim h
   |brk=>exact False.elim h
   |cont=>exact False.elim h
   |ret u =>
    obtain⟨v,H',os,bare,un,hok',r',q⟩:=h;have q':v=.bl true:=q;subst q';obtain rfl:u=Value.bool true:=r';refine⟨rfl,OldK.of_keep λb o e=>?_,os,bare⟩;cases q:H b with
    |none=>exact un.keep b o e q (by intro z;exact absurd (show b∈([]:List Addr)from z) (by simp)) (by simp)
    |some u =>
     rcases hO b with z|⟨ob,xs,z⟩
     ·rw[q]at z;cases z
     ·have z2:=un.frzs b ob _ z;obtain⟨e1,_⟩:=hok b _ z;obtain⟨e2,_⟩:=hok' b _ z2;rw[e]at e1;cases e1;exact e2
 cases hk:K.lookup a with
 |some o =>
  have e:=KX a o hk;rw[ha]at e;cases e;refine core (λ_=>none) (λ_=>.inl rfl) (.inr ⟨_,vs.toArray,_,hk,rfl,rfl,rfl,by rw[size_toArray,lenV];exact hl,by simpa using rv⟩) (λb u z=>by have z':(none:Option HO)=some u:=z;cases z') (λb z=>absurd rfl z) λz=>absurd rfl z
 |none =>
  refine core (λb=>if b=a then some (.frz {cls:=.type "list",data:=.seq vs.toArray} (.lst (ns.map V.int)))else none) (λb=>?_) (.inl (.inr ⟨{cls:=.type "list",data:=.seq vs.toArray},if_pos rfl⟩)) (λb u z=>?_) (λb z=>?_) λ_=>hk
  ·by_cases hb:b=a
   ·exact .inr ⟨_,_,if_pos hb⟩
   ·exact .inl (if_neg hb)
  ·by_cases hb:b=a
   ·have z':=(if_pos hb).symm.trans z;cases z';subst hb;exact⟨ha,by rw[length_map];exact hl,vs,_,rv,ha⟩
   ·have z':=(if_neg hb).symm.trans z;cases z'
  ·by_cases hb:b=a
   ·exact hb
   ·exact absurd (if_neg hb) z
theorem qc{l:PySem.W.OpenLaw}{n k:Nat}{q:Program}{loose:List Str}{XP:(Str→Option Value)→Heap→Prop}{YP:World→Heap→Prop}{d:DefRec}{K:Params→PySem.W.Frag}{CX:World→CXT}{sp:World→Sp}{x:Str}(hn:l.most=some n)(hn2:n≤sizeLine)(hdf:d.params.defaults=[])(hr:Room k callerA)(hY:∀(w:World) (h:Heap),YP w h→(K w.params).In h)(F:∀(w:World) (mg:Str→Option Value) (fa:Addr) (h:Heap),(K w.params).In h→h.Ns mainGlobals mg→mg d.name=some (.ref fa) →
   ∃fd:FuncData,(∀(s:Shared) (u:Value),BindsTo s fd ⟨[u],[]⟩ [(x,u)]) ∧
    ∀base:Heap,(K w.params).In base→base.Ns mainGlobals mg→FnOk l.prog w (K w.params) mg base (CX w) k fa fd [x] (sp w))(hsp:∀(w:World) (H:Hp) (a:Addr) (ns:List Int),ns.length≤n→rY H→SqL (K w.params) H a (ns.map V.int)→sp w [.ref a] H (λv _=>v=.bl true) λ_ _ _=>False)(hCX:∀(w:World) (H:Hp) (s:Shared) (e:Value) (s':Shared),CX w [] H s (λ_ _ _=>False) e s'→False):
  PySem.W.WalkO q loose XP YP l.row.toRowW d [] (λf vs=>PySem.call f vs):=by
 refine Att.jc hn hdf λw s₀ s₁ mg mb fa o pm cd doc a vs ns G Y ho hd hcd hmg hobj hints hlen hg=>?_;have KX:=hY w _ Y;obtain⟨fd,hb,hF⟩:=F w mg fa _ KX G.T.g hmg;exact nO KX G.T.g G.T.b G.T.builtins G.T.nolimit hg hobj hints (le_trans hlen hn2) hr hF hb (λH hO hS=>hsp w H a ns hlen hO hS) λH e s'=>hCX w H s₁ e s'
def cK(s:Stmt):Arguments:=match s with
 |.FunctionDef _ a _ _ _ _ _ _ _ _=>a
 |_=>{posonlyargs:=[],args:=[],vararg:=none,kwonlyargs:=[],kw_defaults:=[],kwarg:=none,defaults:=[]}
def bp(s:Stmt):List Stmt:=match s with
 |.FunctionDef _ _ b _ _ _ _ _ _ _=>b
 |_=>[]
def aj(s:Stmt):Scope:=match s with
 |.FunctionDef _ _ _ _ _ _ sc _ _ _=>sc
 |_=>{kind:=.function,names:=[],isGenerator:=false,isCoroutine:=false}
abbrev CX0:CXT:=λ_ _ _ _ _ _=>False
abbrev E0:XK:=λ_ _ _=>False
theorem aC{X:Cx}:jW CX0 X E0:=λ_ _ _ _ _ _ _ h=>h.elim
structure Fun(K:PySem.W.Frag)(x qual:Str)(st:Stmt)(f:Addr)(fd:FuncData):Prop where
 ex:∃(oc:Value) (od:Option Addr) (kV doc pm:Value) (an:Option Addr) (cdv ct:Value) (osl:Array (Option Value)),
  fd=fnOf x qual (cK st) (bp st) (aj st) .none kV doc pm an cdv ct∧K.lookup f=some ⟨oc,od,.func fd,osl⟩∧codeIn K cdv qual=true
 kp:keepIn K (.ref f)=true
section
variable{P:Program}{w:World}{K:PySem.W.Frag}{mg:Str→Option Value}{base:Heap}
theorem Fun.ok{x qual:Str}{st:Stmt}{f:Addr}{fd:FuncData}{N ps:List Str}{k:Nat}{sp:Sp}(F:Fun K x qual st f fd)(S:FnScope N ps (aj st))(len:∀vs H Q E,sp vs H Q E→vs.length=ps.length)(hbody:∀(cdv:Value) (A:Around) (outer:List Env) (s:Shared) (H:Hp) (vs:List V) (Q:VK) (E:XK),Room k (A.deeper (envOfC qual (aj st) s.heap.objs.size f cdv))→sp vs H Q E →
   ∃t,PSs (iw CX0 P w K mg base N qual (aj st) f cdv A outer s H E).nox (bp st) t∧t {nx:=λ_ H'=>Q .non H',rt:=Q} (start N vs) H):FnOk P w K mg base CX0 (k+1) f fd ps sp:=by
 obtain⟨oc,od,kV,doc,pm,an,cdv,ct,osl,rfl,lk,hcd⟩:=F.ex;refine tW lk hcd S len λA outer s H vs Q E hr hsp=>?_;obtain⟨t,h,q⟩:=hbody cdv A outer s H vs Q E hr hsp;exact⟨t,h.nox,q⟩
theorem Fun.binds{x qual:Str}{st:Stmt}{f:Addr}{fd:FuncData}{ps:List Str}(F:Fun K x qual st f fd)(h:∀(kV doc pm:Value) (an:Option Addr) (cdv ct:Value) (us:List Value),us.length=ps.length→bindArgs (fnOf x qual (cK st) (bp st) (aj st) .none kV doc pm an cdv ct) ⟨us,[]⟩=pure (ps.zip us)):cT K fd ps []:=by
 obtain⟨oc,od,kV,doc,pm,an,cdv,ct,osl,rfl,lk,hcd⟩:=F.ex;exact .all (h kV doc pm an cdv ct)
theorem rZ{x qual:Str}{st:Stmt}{f:Addr}{oc:Value}{od an:Option Addr}{osl:Array (Option Value)}{kV doc pm cdv ct:Value}(l:K.lookup f=some ⟨oc,od,.func (fnOf x qual (cK st) (bp st) (aj st) .none kV doc pm an cdv ct),osl⟩)(c:codeIn K cdv qual=true)(k:keepIn K (.ref f)=true):Fun K x qual st f (fnOf x qual (cK st) (bp st) (aj st) .none kV doc pm an cdv ct):=⟨⟨oc,od,kV,doc,pm,an,cdv,ct,osl,rfl,l,c⟩,k⟩
end
theorem bn{A:Around}{k:Nat}(hr:Room k A):A.units+1<cLine:=lt_of_le_of_lt (Nat.add_le_add_left (by decide:1≤64) _) hr.units
theorem ap{n:Nat}(h:n≤1000):n<sizeLine:=lt_of_le_of_lt h (by decide)
section
variable{X:Cx}
theorem pv(i:Nat){x:Str}{pos:Pos}(hN:X.N[i]?=some x:=by rfl)(hv:Vis X.env.scope x:=by first|exact Or.inl rfl|exact Or.inr (Or.inl rfl)|exact Or.inr (Or.inr rfl))(hd:(x==("__debug__":Str))=false:=by decide)(hcd:(x==("__classdict__":Str))=false:=by decide):PE X (.Name x pos) (tJ i):=rG hN hv hd hcd
end
theorem cV{A B:Prop}(h:B):if false=true then A else B:=by
 rw[if_neg Bool.false_ne_true];exact h
theorem gB{A B:Prop}(h:A):if true=true then A else B:=by
 rw[if_pos rfl];exact h
theorem uU{c A B:Prop}[Decidable c](h1:c→A)(h2:¬c→B):if c then A else B:=by
 by_cases h:c
 ·rw[if_pos h];exact h1 h
 ·rw[if_neg h];exact h2 h
def Same(H H':Hp):Prop:=∀b o,H b=some o→H' b=some o
theorem Same.refl(H:Hp):Same H H:=λ_ _ h=>h
theorem Same.trans{H H1 H2:Hp}(a:Same H H1)(b:Same H1 H2):Same H H2:=λc o h=>b c o (a c o h)
theorem Same.free{H H':Hp}(e:Same H H'){l:Addr}(h:H' l=Option.none):H l=Option.none:=by
 cases q:H l with
 |none=>rfl
 |some o =>
  rw[e l o q]at h;cases h
theorem Same.seq{K:PySem.W.Frag}{H H':Hp}{a:Addr}{xs:List V}(e:Same H H')(h:SqL K H a xs):SqL K H' a xs:=by
 rcases h with (h|⟨o,h⟩)|h
 ·exact .inl (.inl (e _ _ h))
 ·exact .inl (.inr ⟨o,e _ _ h⟩)
 ·exact .inr h
section
variable{κ:Type}[DecidableEq κ]
end
structure LcOk(X:Cx)(scope:Scope)(cl:List (Str×Addr)):Prop where
 kind:scope.kind=.function
 clos:closureFor scope X.env=pure cl
 names:∀x∈scope.names,x.2=.local→scope.names.lookup x.1=some .local
 nocell:∀x∈scope.names,x.2≠.cell
 cells:∀x c,cl.lookup x=some c→X.env.cells.lookup x=some c
 has:∀x,((relabel scope X.env).names.lookup x=some .cell∨(relabel scope X.env).names.lookup x=some .free)→∃c,cl.lookup x=some c
abbrev cR(X:Cx)(N:List Str)(scope:Scope)(cl:List (Str×Addr))(s:Shared)(H:Hp)(ex:List Addr):Cx :=
 {X with N:=N,s₀:=s,H₀:=H,env:=compEnvC scope cl s.heap.objs.size X.env,outer:=X.stack,stack:=X.stack,ex:=ex,fn:=λ_=>false,pn:=[],xe:=λ_ _=>False}
section
variable{X:Cx}{pins:List (Addr×Obj)}{σ:St}{H:Hp}{s:Shared}{N:List Str}{scope:Scope}{cl:List (Str×Addr)}{fp:List Addr}
theorem nP(I:Inv X pins σ H s)(L:LcOk X scope cl)(hf:∀b∈fp,eI X pins H b)(ho:∀b∈fp,b<s.heap.objs.size):(cR X N scope cl s H fp).Ok where
 mod:=I.ok.mod
 kind:=L.kind
 glob:=I.ok.glob
 blt:=I.ok.blt
 above:=le_refl _
 inj:=λx y c h1 h2=>I.ok.inj x y c (L.cells x c h1) (L.cells y c h2)
 has:=λx hx=>L.has x hx
 cab:=λx c h _=>absurd h (by simp)
 hd:=I.ok.hd
 frames:=I.ok.frames
 stk:=.inl rfl
 exf:=λb hb=>⟨ne_of_lt (ho b hb),λx c h=>(hf b hb).2.2.2.2.1 x c (L.cells x c h)⟩
 bs:=I.bs
 bsz:=le_trans I.ok.bsz I.sz
 noex:=λb o e hb=>by
  rcases (hf b hb).2.2.2.1 with z|z
  ·exact I.ok.noex b o e z
  ·exact absurd (lt_of_lt_of_le (lt_size e) (le_trans I.ok.bsz z)) (lt_irrefl _)
 exfs:=λb hb hs=>by
  rcases mem_cons.mp (I.stkSub b hs)with z|z
  ·exact(hf b hb).2.1 z
  ·exact(hf b hb).2.2.1 z
 funs:=I.stack
 frf:=I.stkFree
def bg(k:Nat)(js:List Nat)(σ:St):St:=List.replicate k none++js.map λj=>(σ[j]?).getD none
theorem jd{h₁:Heap}{tk:Nat}{k:Nat}{js:List Nat}(I:Inv X pins σ H s)(L:LcOk X scope cl)(hf:∀b∈fp,eI X pins H b)(ho:∀b∈fp,b<s.heap.objs.size)(hns:∃m,h₁.Ns s.heap.objs.size m)(hk:∀b o,s.heap.get? b=some o→h₁.get? b=some o)(hN:N.length=k+js.length)(hj:∀(i j:Nat) x,js[i]?=some j→N[k+i]?=some x→X.N[j]?=some x∧Vis X.env.scope x∧X.env.scope.names.lookup x≠some .local∧((relabel scope X.env).names.lookup x=some .cell∨(relabel scope X.env).names.lookup x=some .free)):
  Inv (cR X N scope cl s H fp) [] (bg k js σ) H {s with heap:=h₁,toks:=tk}:=by
 obtain⟨m,hm⟩:=hns;have cellK:∀c v,s.heap.IsCell c v→h₁.IsCell c v:=λc v ⟨o,e,d⟩=>⟨o,hk c o e,d⟩;refine⟨nP I L hf ho,rfl,I.bare,Un.kept hk,⟨m,hm,λi x v e1 e2 e3=>?_⟩,λx c e=>?_,I.hok.fresh (le_refl _),λx c e=>I.freeC x c (L.cells x c e),λp hp=>absurd (show p∈([]:List (Addr×Obj))from hp) (by simp),I.hok.kept hk,?_⟩
 ·unfold bg at e2
  by_cases hi:i<k
  ·rw[getElem?_append_left (by simpa using hi),List.getElem?_replicate]at e2
   split at e2<;>cases e2
  ·obtain⟨i',rfl⟩:∃i',i=k+i':=⟨i-k,by omega⟩;rw[List.getElem?_append_right (by simp),List.length_replicate,Nat.add_sub_cancel_left,getElem?_map]at e2;cases ej:js[i']? with
   |none=>rw[ej]at e2;cases e2
   |some j =>
    rw[ej]at e2;have e2':(σ[j]?).getD none=some v:=Option.some.inj e2;obtain⟨h1,h2,h3,h4⟩:=hj i' j x ej e1;have e4:σ[j]?=some (some v):=by
     cases q:σ[j]? with
     |none=>rw[q]at e2';cases e2'
     |some y=>rw[q]at e2';exact congrArg some e2'
    obtain⟨m0,_,hl⟩:=I.loc;obtain⟨u,r,lk⟩:=hl j x v h1 e4 h2;refine⟨u,r,.inr ⟨h4,?_⟩⟩;rcases lk with⟨q,_⟩|⟨_,c,e5,e6⟩
    ·exact absurd q h3
    ·obtain⟨c',e7⟩:=L.has x h4;have:c'=c:=Option.some.inj ((L.cells x c' e7).symm.trans e5);subst this;exact⟨c',e7,cellK c' _ e6⟩
 ·obtain⟨v,e1⟩:=I.cell x c (L.cells x c e);exact⟨v,cellK c v e1⟩
 ·unfold bg;rw[length_append,List.length_replicate,length_map];exact hN.symm
theorem nQ{H':Hp}{σ':St}{s':Shared}{h':Heap}(I:Inv X pins σ H s)(hf:∀b∈fp,eI X pins H b)(J:Inv (cR X N scope cl s H fp) [] σ' H' s')(hs:SameBut s.heap.objs.size s'.heap h'):Inv X pins σ H' {s' with heap:=h'}:=by
 have ne:∀b o,s.heap.get? b=some o→b≠s.heap.objs.size:=λb o e=>ne_of_lt (lt_size e);have u:=J.base;have u':Un (frs X.stack) fp H H' s.heap h' :=
  ⟨λb o e n hb hx=>(hs.2 b (ne b o e)).trans (u.keep b o e n hb hx),λb o e n hb hx=>by
   obtain⟨sl,q⟩:=u.slot b o e n hb hx;exact⟨sl,(hs.2 b (ne b o e)).trans q⟩,u.free,λb o e hx=>by
   obtain⟨o',q⟩:=u.there b o e hx;exact⟨o',(hs.2 b (ne b o e)).trans q⟩,u.tups,u.frzs,u.tbls⟩
 have nt:∀b o,H' b=some o→b≠s.heap.objs.size:=λb o e z=>by
  have:=J.free;rw[show(cR X N scope cl s H fp).env.locals=s.heap.objs.size from rfl,←z,e]at this;cases this
 refine I.call' (s':={s' with heap:=h'}) J.os u' (λb o e=>?_) J.bare λb hb=>?_
 ·refine(J.hok b o e).stay (λc v hc q=>(hs.2 c ?_).trans q) (λ_ q=>q) λ_ _ q=>q;rcases hc with z|z
  ·rw[z];exact nt b o e
  ·exact nt c _ z
 ·obtain⟨f0,f1,f2,f3,f4,f5⟩:=hf b hb;exact⟨f3,f1,f4,f5⟩
end
section
variable{prog:Program}{w:World}{A:Around}{R:Result→Shared→Prop}{s:Shared}
theorem qd{elt target iter:Expr}{scope:Scope}{pos:Pos}{it acc:Value}{env:Env}(I:Nat→Shared→Prop)(turn:∀n s,I n s→wpAny (model prog w) A (pyNext it) (λr s₁=>match r with
   |none=>R (.ok .next) s₁
   | some v=>wpAny (model prog w) A (letOwnedTupleGo target it v) (λ_ s₂=>wpAny (model prog w) A (assign target env v) (λ_ s₃=>wpAny (model prog w) A (eval elt env) (λx s₄ =>
     wpAny (model prog w) A (call (.builtin "list.append") [acc,x]) (λ_ s₅=>∃m,m<n∧I m s₅) (λ_ _=>False) s₄) (λ_ _=>False) s₃) (λ_ _=>False) s₂) (λ_ _=>False) s₁) (λ_ _=>False) s)(n:Nat)(h:I n s):codeAny (model prog w) A (.compLoop (.ListComp elt [⟨target,iter,[],0⟩] scope pos) 0 it acc env) R s:=by
 refine codeAny_loop rfl I (λn s hI=>?_) n h;show wpAny _ _ ((compTurn (.ListComp elt [⟨target,iter,[],0⟩] scope pos) 0 it acc env).onRaise (λx=>do noteFrame x env;theTreesLotGoes x)) _ _ s;refine wpAny_noted ?_;rw[compTurn_list1];refine wpAny_bind (wpAny_standAt (wpAny_bind (wpAny_mono (turn n s hI) (λr s₁ h₁=>?_) λ_ _ h'=>h'.elim)));cases r with
 |none=>exact wpAny_pure h₁
 |some v =>
  refine wpAny_bind (wpAny_mono h₁ (λ_ s₂ h₂=>?_) λ_ _ h'=>h'.elim);exact wpAny_bind (wpAny_mono h₂ (λ_ s₂ h₂=>wpAny_bind (wpAny_bind (wpAny_mono h₂ (λx s₃ h₃=>wpAny_bind (wpAny_mono h₃
   (λ_ s₄ h₄=>wpAny_pure (wpAny_pure ⟨rfl,h₄⟩)) λ_ _ h'=>h'.elim)) λ_ _ h'=>h'.elim))) λ_ _ h'=>h'.elim)
theorem fH(elt target iter c:Expr)(scope:Scope)(pos:Pos)(it acc:Value)(env:Env):
  compTurn (.ListComp elt [⟨target,iter,[c],0⟩] scope pos) 0 it acc env=(standAt iter.pos >>= λ_=>pyNext it >>= λr=>match r with
   |none=>pure (.done .next)
   |some v=>letOwnedTupleGo target it v >>= λ_=>assign target env v >>= λ_ =>
    (forIn [c] true λc r=>if r=true then do let ok ← isTrue c env (eval c env);pure (ForInStep.yield ok)else pure (ForInStep.yield r)) >>= λok =>
    if ok=true then (eval elt env >>= λx=>call (.builtin "list.append") [acc,x] >>= λ_=>pure ()) >>= λ_ =>
     again (.compLoop (.ListComp elt [⟨target,iter,[c],0⟩] scope pos) 0 it acc env)
    else again (.compLoop (.ListComp elt [⟨target,iter,[c],0⟩] scope pos) 0 it acc env)):=by rfl
theorem nR{elt target iter c:Expr}{scope:Scope}{pos:Pos}{it acc:Value}{env:Env}(I:Nat→Shared→Prop)(turn:∀n s,I n s→wpAny (model prog w) A (pyNext it) (λr s₁=>match r with
   |none=>R (.ok .next) s₁
   | some v=>wpAny (model prog w) A (letOwnedTupleGo target it v) (λ_ s₂=>wpAny (model prog w) A (assign target env v) (λ_ s₃=>wpAny (model prog w) A (isTrue c env (eval c env)) (λok s₃ =>
     if ok=true then wpAny (model prog w) A (eval elt env) (λx s₄ =>
      wpAny (model prog w) A (call (.builtin "list.append") [acc,x]) (λ_ s₅=>∃m,m<n∧I m s₅) (λ_ _=>False) s₄) (λ_ _=>False) s₃
     else ∃m,m<n∧I m s₃) (λ_ _=>False) s₃) (λ_ _=>False) s₂) (λ_ _=>False) s₁) (λ_ _=>False) s)(n:Nat)(h:I n s):codeAny (model prog w) A (.compLoop (.ListComp elt [⟨target,iter,[c],0⟩] scope pos) 0 it acc env) R s:=by
 refine codeAny_loop rfl I (λn s hI=>?_) n h;show wpAny _ _ ((compTurn (.ListComp elt [⟨target,iter,[c],0⟩] scope pos) 0 it acc env).onRaise (λx=>do noteFrame x env;theTreesLotGoes x)) _ _ s;refine wpAny_noted ?_;rw[fH];refine wpAny_bind (wpAny_standAt (wpAny_bind (wpAny_mono (turn n s hI) (λr s₁ h₁=>?_) λ_ _ h'=>h'.elim)));cases r with
 |none=>exact wpAny_pure h₁
 |some v =>
  refine wpAny_bind (wpAny_mono h₁ (λ_ s₂ h₂=>?_) λ_ _ h'=>h'.elim);refine wpAny_bind (wpAny_mono h₂ (λ_ s₃ h₃=>?_) λ_ _ h'=>h'.elim);rw[forIn_cons];simp only[if_true];refine wpAny_bind (wpAny_bind (wpAny_bind (wpAny_mono h₃ (λok s₄ h₄=>wpAny_pure ?_) λ_ _ h'=>h'.elim)));simp only[forIn_nil];refine wpAny_pure ?_;cases ok with
  |true =>
   rw[if_pos rfl]at h₄⊢;exact wpAny_bind (wpAny_bind (wpAny_mono h₄ (λx s₃ h₃=>wpAny_bind (wpAny_mono h₃ (λ_ s₄ h₄=>wpAny_pure (wpAny_pure ⟨rfl,h₄⟩)) λ_ _ h'=>h'.elim)) λ_ _ h'=>h'.elim))
  |false =>
   rw[if_neg (by simp)]at h₄⊢;exact wpAny_pure ⟨rfl,h₄⟩
end
def LcW(k:Nat)(js:List Nat)(g:TG)(te:TE)(σ:St)(Q:VK)(J:It)(H1:Hp)(p:Addr):Prop:=∃W:Nat→Nat→List V→St→Hp→Prop,
 (∃m,W 0 m [] (bg k js σ) (upd H1 p (.lst [])))∧∀i m ys σ' H',W i m ys σ' H'→(J.stop i H'∧Q (.ref p) H') ∨
  (J.go i H'∧ys.length<sizeLine∧∀x H2,J.yld i H' x H2→g x σ' H2 λσ2 H3=>te σ2 H3 λy H4=>H4 p=some (.lst ys)∧∃m',m'<m∧W (i+1) m' (ys++[y]) σ2 (upd H4 p (.lst (ys++[y]))))
def tLc(k:Nat)(js:List Nat)(wi:TI)(g:TG)(te:TE):TE:=λσ H Q=>wi σ H λJ H1=>∀p,H1 p=none→LcW k js g te σ Q J H1 p
def ud(k:Nat)(js:List Nat)(g:TG)(tc:TT)(te:TE)(σ:St)(Q:VK)(J:It)(H1:Hp)(p:Addr):Prop:=∃W:Nat→Nat→List V→St→Hp→Prop,
 (∃m,W 0 m [] (bg k js σ) (upd H1 p (.lst [])))∧∀i m ys σ' H',W i m ys σ' H'→(J.stop i H'∧Q (.ref p) H') ∨
  (J.go i H'∧ys.length<sizeLine∧∀x H2,J.yld i H' x H2→g x σ' H2 λσ2 H3=>tc σ2 H3 λb H4=>if b=true then te σ2 H4 λy H5=>H5 p=some (.lst ys)∧∃m',m'<m∧W (i+1) m' (ys++[y]) σ2 (upd H5 p (.lst (ys++[y])))
   else ∃m',m'<m∧W (i+1) m' ys σ2 H4)
def uV(k:Nat)(js:List Nat)(wi:TI)(g:TG)(tc:TT)(te:TE):TE:=λσ H Q=>wi σ H λJ H1=>∀p,H1 p=none→ud k js g tc te σ Q J H1 p
section
variable{X:Cx}{N:List Str}{scope:Scope}{cl:List (Str×Addr)}{k:Nat}{js:List Nat}
theorem cg{elt tg iter:Expr}{pos:Pos}{wi:TI}{g:TG}{te:TE}(hc:X.calm=true)(L:LcOk X scope cl)(hN:N.length=k+js.length)(hj:∀(i j:Nat) x,js[i]?=some j→N[k+i]?=some x→X.N[j]?=some x∧Vis X.env.scope x∧X.env.scope.names.lookup x≠some .local∧((relabel scope X.env).names.lookup x=some .cell∨(relabel scope X.env).names.lookup x=some .free))(hi:PI X tg iter wi)(hg:∀s H fp,PG (cR X N scope cl s H fp) tg g)(he:∀s H fp,PE (cR X N scope cl s H fp) elt te)(hs:∀x,foldedSetIterable iter X.env x=pure x:=by intro _;rfl):PE X (.ListComp elt [⟨tg,iter,[],0⟩] scope pos) (tLc k js wi g te):=by
 intro pins s σ H Q I h;rw[eval_ListComp];refine wpAny_comprehension_free (use:=none) rfl hs L.clos L.kind L.names ?_;refine thn (hi pins s σ H _ I h) λv s1 h1=>thn h1 λitv s2 h2=>?_;obtain⟨it,fp,tn,J,H2,e,I2,T,st2,f2,hW⟩:=h2;subst e;have hfp:∀b∈fp,b<s2.heap.objs.size:=λb hb=>by
  obtain⟨o,e,_⟩:=T.obj _ _ st2 b hb;exact lt_size e
 refine wpAny_newObj_type (wpAny_newFunctionEnv L.nocell (by intro y hy;simp at hy) (λh₁ hns hsb=>?_) L.kind);dsimp only at hns hsb⊢;obtain⟨W,⟨m0,w0⟩,turn⟩:=hW s2.heap.objs.size (I2.hok.fresh (le_refl _));have I3:Inv X pins σ (upd H2 s2.heap.objs.size (.lst [])) {s2 with heap:=s2.heap.push {cls:=.type "list",dict:=none,data:=.seq ([]:List Value).toArray}}:=I2.lnew (t':=s2.toks) .nil (zero_le _)
 generalize hA:s2.heap.push {cls:=.type "list",dict:=none,data:=.seq ([]:List Value).toArray}=hpA at hns hsb I3⊢;have hszA:hpA.objs.size=s2.heap.objs.size+1:=by rw[←hA,size_push]
 have keepA:∀b o,s2.heap.get? b=some o→hpA.get? b=some o:=λb o e=>by rw[←hA];exact get?_push_of_some _ e
 have f3:∀b∈fp,eI X pins (upd H2 s2.heap.objs.size (.lst [])) b:=λb hb=>⟨by rw[ag (ne_of_lt (hfp b hb))];exact(f2 b hb).1,(f2 b hb).2⟩;have hfp3:∀b∈fp,b<hpA.objs.size:=λb hb=>by rw[hszA];exact lt_succ_of_lt (hfp b hb)
 have keep1:∀b o,hpA.get? b=some o→h₁.get? b=some o:=λb o e=>hsb.extBut b o (ne_of_lt (lt_size e)) (get?_push_of_some _ e);have J0:=jd (N:=N) (k:=k) (js:=js) (tk:=s2.toks+([]:List (Str×Value)).length) I3 L f3 hfp3 ⟨_,hns⟩ keep1 hN hj;have st1:tn 0 h₁:=T.keep _ _ _ st2 λb hb o e=>keep1 b o (keepA b o e);have stat:∀{H':Hp},(∀b∈fp,H' b=none)→∀b∈fp,eI (cR X N scope cl {s2 with heap:=hpA} (upd H2 s2.heap.objs.size (.lst [])) fp) [] H' b:=λhn b hb =>
  ⟨hn b hb,ne_of_lt (hfp3 b hb),(nP (N:=N) I3 L f3 hfp3).exfs b hb,.inl hb,λx c h=>(f3 b hb).2.2.2.2.1 x c (L.cells x c h),λp hp=>absurd (show p∈([]:List (Addr×Obj))from hp) (by simp)⟩
 have loop:codeAny (model X.prog X.w) X.A (.compLoop (.ListComp elt [⟨tg,iter,[],0⟩] scope pos) 0 (.ref it) (.ref s2.heap.objs.size) (compEnvC scope cl hpA.objs.size X.env))
   (compPost (model X.prog X.w) X.A X.xe none (EP X pins σ Q) (.ref s2.heap.objs.size) hpA.objs.size) {s2 with heap:=h₁,toks:=s2.toks+([]:List (Str×Value)).length}:=by
  refine qd (λn s'=>∃i ys σ' H',Inv (cR X N scope cl {s2 with heap:=hpA} (upd H2 s2.heap.objs.size (.lst [])) fp) [] σ' H' s'∧tn i s'.heap∧(∀b∈fp,H' b=none)∧W i n ys σ' H') ?_ m0 ⟨0,[],_,_,J0,st1,λb hb=>(f3 b hb).1,w0⟩
  rintro n s3 ⟨i,ys,σ3,H3,J3,st3,fr3,w3⟩;rcases turn i n ys σ3 H3 w3 with⟨stop,qn⟩|⟨go,hlen,step⟩
  ·refine thn (T.done (cR X N scope cl {s2 with heap:=hpA} (upd H2 s2.heap.objs.size (.lst [])) fp) rfl rfl rfl hc i [] s3 σ3 H3 (λ_ _=>False) J3 (stat fr3) st3 stop) λr s4 hpt=>?_
   obtain⟨hr,J4⟩:=hpt;subst hr;obtain⟨m,hm,_⟩:=J4.loc;exact⟨m,hm,λh' hs'=>⟨.ref s2.heap.objs.size,H3,nQ I3 f3 J4 hs',rfl,qn⟩⟩
  ·refine thn (T.item (cR X N scope cl {s2 with heap:=hpA} (upd H2 s2.heap.objs.size (.lst [])) fp) rfl rfl rfl hc i [] s3 σ3 H3 (λ_ _=>False) J3 (stat fr3) st3 go) λr s4 hpt=>?_
   obtain⟨u,hr,h4⟩:=hpt;subst hr;refine thn h4 λ_ s5 hpt=>?_;obtain⟨x,H5,J5,r5,y5,st5,fr5⟩:=hpt;have J5':=J5.pinned (stat fr5) (T.obj _ _ st5);refine thn (hg _ _ _ _ s5 σ3 H5 x u _ J5' r5 (step x H5 y5)) λ_ s6 hpt=>?_;obtain⟨σ6,H6,J6,q6⟩:=hpt;refine thn (he _ _ _ _ s6 σ6 H6 _ J6 q6) λy s7 hpt=>?_;obtain⟨vy,H7,J7,r7,q7,m',hm',w7⟩:=hpt;refine thn (bE _ s7 σ6 H7 (.ref s2.heap.objs.size) [vy] _ _ (λ_ H8=>H8=upd H7 s2.heap.objs.size (.lst (ys++[vy]))) J7 rfl (.cons r7 .nil) ⟨_,ys,vy,rfl,rfl,q7,hlen,rfl⟩) λ_ s8 hpt=>?_;obtain⟨_,H8,J8,_,e8⟩:=hpt;subst e8;refine⟨m',hm',i+1,ys++[vy],σ6,_,J8.unpinned,T.keep _ _ _ st5 λb hb o e=>(J8.pin (b,o) (mem_append_right _ (mem_append_right _ (aZ hb e)))).1,λb hb=>?_,w7⟩;obtain⟨o,e,d⟩:=T.obj _ _ st5 b hb;exact(J8.pin (b,o) (mem_append_right _ (mem_append_right _ (aZ hb e)))).2.1
 exact codeAny_compStart_list loop (T.self _ 0 _ _ _ st1 loop)
theorem se{elt tg iter c:Expr}{pos:Pos}{wi:TI}{g:TG}{tc:TT}{te:TE}(hc:X.calm=true)(L:LcOk X scope cl)(hN:N.length=k+js.length)(hj:∀(i j:Nat) x,js[i]?=some j→N[k+i]?=some x→X.N[j]?=some x∧Vis X.env.scope x∧X.env.scope.names.lookup x≠some .local∧((relabel scope X.env).names.lookup x=some .cell∨(relabel scope X.env).names.lookup x=some .free))(hi:PI X tg iter wi)(hg:∀s H fp,PG (cR X N scope cl s H fp) tg g)(ht:∀s H fp,PT (cR X N scope cl s H fp) c tc)(he:∀s H fp,PE (cR X N scope cl s H fp) elt te)(hs:∀x,foldedSetIterable iter X.env x=pure x:=by intro _;rfl):PE X (.ListComp elt [⟨tg,iter,[c],0⟩] scope pos) (uV k js wi g tc te):=by
 intro pins s σ H Q I h;rw[eval_ListComp];refine wpAny_comprehension_free (use:=none) rfl hs L.clos L.kind L.names ?_;refine thn (hi pins s σ H _ I h) λv s1 h1=>thn h1 λitv s2 h2=>?_;obtain⟨it,fp,tn,J,H2,e,I2,T,st2,f2,hW⟩:=h2;subst e;have hfp:∀b∈fp,b<s2.heap.objs.size:=λb hb=>by
  obtain⟨o,e,_⟩:=T.obj _ _ st2 b hb;exact lt_size e
 refine wpAny_newObj_type (wpAny_newFunctionEnv L.nocell (by intro y hy;simp at hy) (λh₁ hns hsb=>?_) L.kind);dsimp only at hns hsb⊢;obtain⟨W,⟨m0,w0⟩,turn⟩:=hW s2.heap.objs.size (I2.hok.fresh (le_refl _));have I3:Inv X pins σ (upd H2 s2.heap.objs.size (.lst [])) {s2 with heap:=s2.heap.push {cls:=.type "list",dict:=none,data:=.seq ([]:List Value).toArray}}:=I2.lnew (t':=s2.toks) .nil (zero_le _)
 generalize hA:s2.heap.push {cls:=.type "list",dict:=none,data:=.seq ([]:List Value).toArray}=hpA at hns hsb I3⊢;have hszA:hpA.objs.size=s2.heap.objs.size+1:=by rw[←hA,size_push]
 have keepA:∀b o,s2.heap.get? b=some o→hpA.get? b=some o:=λb o e=>by rw[←hA];exact get?_push_of_some _ e
 have f3:∀b∈fp,eI X pins (upd H2 s2.heap.objs.size (.lst [])) b:=λb hb=>⟨by rw[ag (ne_of_lt (hfp b hb))];exact(f2 b hb).1,(f2 b hb).2⟩;have hfp3:∀b∈fp,b<hpA.objs.size:=λb hb=>by rw[hszA];exact lt_succ_of_lt (hfp b hb)
 have keep1:∀b o,hpA.get? b=some o→h₁.get? b=some o:=λb o e=>hsb.extBut b o (ne_of_lt (lt_size e)) (get?_push_of_some _ e);have J0:=jd (N:=N) (k:=k) (js:=js) (tk:=s2.toks+([]:List (Str×Value)).length) I3 L f3 hfp3 ⟨_,hns⟩ keep1 hN hj;have st1:tn 0 h₁:=T.keep _ _ _ st2 λb hb o e=>keep1 b o (keepA b o e);have stat:∀{H':Hp},(∀b∈fp,H' b=none)→∀b∈fp,eI (cR X N scope cl {s2 with heap:=hpA} (upd H2 s2.heap.objs.size (.lst [])) fp) [] H' b:=λhn b hb =>
  ⟨hn b hb,ne_of_lt (hfp3 b hb),(nP (N:=N) I3 L f3 hfp3).exfs b hb,.inl hb,λx c h=>(f3 b hb).2.2.2.2.1 x c (L.cells x c h),λp hp=>absurd (show p∈([]:List (Addr×Obj))from hp) (by simp)⟩
 have loop:codeAny (model X.prog X.w) X.A (.compLoop (.ListComp elt [⟨tg,iter,[c],0⟩] scope pos) 0 (.ref it) (.ref s2.heap.objs.size) (compEnvC scope cl hpA.objs.size X.env))
   (compPost (model X.prog X.w) X.A X.xe none (EP X pins σ Q) (.ref s2.heap.objs.size) hpA.objs.size) {s2 with heap:=h₁,toks:=s2.toks+([]:List (Str×Value)).length}:=by
  refine nR (λn s'=>∃i ys σ' H',Inv (cR X N scope cl {s2 with heap:=hpA} (upd H2 s2.heap.objs.size (.lst [])) fp) [] σ' H' s'∧tn i s'.heap∧(∀b∈fp,H' b=none)∧W i n ys σ' H') ?_ m0 ⟨0,[],_,_,J0,st1,λb hb=>(f3 b hb).1,w0⟩
  rintro n s3 ⟨i,ys,σ3,H3,J3,st3,fr3,w3⟩;rcases turn i n ys σ3 H3 w3 with⟨stop,qn⟩|⟨go,hlen,step⟩
  ·refine thn (T.done (cR X N scope cl {s2 with heap:=hpA} (upd H2 s2.heap.objs.size (.lst [])) fp) rfl rfl rfl hc i [] s3 σ3 H3 (λ_ _=>False) J3 (stat fr3) st3 stop) λr s4 hpt=>?_
   obtain⟨hr,J4⟩:=hpt;subst hr;obtain⟨m,hm,_⟩:=J4.loc;exact⟨m,hm,λh' hs'=>⟨.ref s2.heap.objs.size,H3,nQ I3 f3 J4 hs',rfl,qn⟩⟩
  ·refine thn (T.item (cR X N scope cl {s2 with heap:=hpA} (upd H2 s2.heap.objs.size (.lst [])) fp) rfl rfl rfl hc i [] s3 σ3 H3 (λ_ _=>False) J3 (stat fr3) st3 go) λr s4 hpt=>?_
   obtain⟨u,hr,h4⟩:=hpt;subst hr;refine thn h4 λ_ s5 hpt=>?_;obtain⟨x,H5,J5,r5,y5,st5,fr5⟩:=hpt;have J5':=J5.pinned (stat fr5) (T.obj _ _ st5);refine thn (hg _ _ _ _ s5 σ3 H5 x u _ J5' r5 (step x H5 y5)) λ_ s6 hpt=>?_;obtain⟨σ6,H6,J6,q6⟩:=hpt;refine thn (ht _ _ _ _ s6 σ6 H6 _ J6 q6) λb s6 hpt=>?_;obtain⟨H6,J6,q6⟩:=hpt;cases b with
   |true =>
    rw[if_pos rfl]at q6⊢;refine thn (he _ _ _ _ s6 σ6 H6 _ J6 q6) λy s7 hpt=>?_;obtain⟨vy,H7,J7,r7,q7,m',hm',w7⟩:=hpt;refine thn (bE _ s7 σ6 H7 (.ref s2.heap.objs.size) [vy] _ _ (λ_ H8=>H8=upd H7 s2.heap.objs.size (.lst (ys++[vy]))) J7 rfl (.cons r7 .nil) ⟨_,ys,vy,rfl,rfl,q7,hlen,rfl⟩) λ_ s8 hpt=>?_;obtain⟨_,H8,J8,_,e8⟩:=hpt;subst e8;refine⟨m',hm',i+1,ys++[vy],σ6,_,J8.unpinned,T.keep _ _ _ st5 λb hb o e=>(J8.pin (b,o) (mem_append_right _ (mem_append_right _ (aZ hb e)))).1,λb hb=>?_,w7⟩;obtain⟨o,e,d⟩:=T.obj _ _ st5 b hb;exact(J8.pin (b,o) (mem_append_right _ (mem_append_right _ (aZ hb e)))).2.1
   |false =>
    rw[if_neg (by simp)]at q6⊢;obtain⟨m',hm',w7⟩:=q6;refine⟨m',hm',i+1,ys,σ6,_,J6.unpinned,T.keep _ _ _ st5 λb hb o e=>(J6.pin (b,o) (mem_append_right _ (mem_append_right _ (aZ hb e)))).1,λb hb=>?_,w7⟩;obtain⟨o,e,d⟩:=T.obj _ _ st5 b hb;exact(J6.pin (b,o) (mem_append_right _ (mem_append_right _ (aZ hb e)))).2.1
 exact codeAny_compStart_list loop (T.self _ 0 _ _ _ st1 loop)
end
end L2
namespace TB
open PySem PySem.SetTable
def adv(mask:Nat)(p:Probe):Probe :=
 if p.more>0 then {p with j:=p.j+1,more:=p.more-1} else
 {p with j:=(leap mask p.i p.perturb).1,more:=runEnd mask (leap mask p.i p.perturb).1-(leap mask p.i p.perturb).1,i:=(leap mask p.i p.perturb).1,perturb:=(leap mask p.i p.perturb).2}
theorem kb(t:SetTable)(p:Probe):advance t p=adv t.mask p:=rfl
def lvP(mask:Nat)(x:Nat×Nat):Probe:={j:=x.1,more:=runEnd mask x.1-x.1,i:=x.1,perturb:=x.2,dummy:=none}
def st(mask:Nat)(h:Int):Probe:=lvP mask (bits h % (mask+1),bits h)
def nth(mask:Nat):Probe→Nat→Probe
 |p,0=>p
 |p,n+1=>nth mask (adv mask p) n
theorem dO(mask:Nat):∀(a b:Nat)(p:Probe),nth mask p (a+b)=nth mask (nth mask p a) b
 |0,b,p=>by rw[zero_add];rfl
 |a+1,b,p=>by
  rw[show a+1+b=(a+b)+1 by omega];show nth mask (adv mask p) (a+b)=nth mask (nth mask (adv mask p) a) b;exact dO mask a b _
theorem nT(mask:Nat)(p:Probe)(n:Nat):nth mask p (n+1)=adv mask (nth mask p n):=by
 rw[dO];rfl
def pos(mask:Nat)(h:Int)(n:Nat):Nat:=(nth mask (st mask h) n).j
theorem gW(mask:Nat):∀(m:Nat)(p:Probe),p.more=m→nth mask p m={p with j:=p.j+m,more:=0}
 |0,p,h=>by
  show p=_;cases p;simp at h;subst h;rfl
 |m+1,p,h=>by
  show nth mask (adv mask p) m=_;have e:adv mask p={p with j:=p.j+1,more:=m}:=by
   unfold adv;rw[if_pos (by omega),h];rfl
  rw[e,gW mask m _ rfl];simp only[Probe.mk.injEq,and_true];omega
theorem je(mask:Nat):∀(m:Nat)(p:Probe),m≤p.more→nth mask p m={p with j:=p.j+m,more:=p.more-m}
 |0,p,h=>by
  show p=_;cases p;rfl
 |m+1,p,h=>by
  show nth mask (adv mask p) m=_;have e:adv mask p={p with j:=p.j+1,more:=p.more-1}:=by
   unfold adv;rw[if_pos (by omega)]
  rw[e,je mask m _ (by show m≤p.more-1;omega)];simp only[Probe.mk.injEq,and_true];omega
theorem dw(mask:Nat)(x:Nat×Nat):nth mask (lvP mask x) (runEnd mask x.1-x.1+1)=lvP mask (leap mask x.1 x.2):=by
 have e:=gW mask (runEnd mask x.1-x.1) (lvP mask x) rfl;rw[nT,e];unfold adv;rw[if_neg (by simp)];rfl
theorem sf(mask i:Nat):runEnd mask i-i≤9:=by unfold runEnd;split<;>omega
def lv(mask:Nat):Nat→Nat×Nat→Nat×Nat
 |0,x=>x
 |k+1,x=>lv mask k (leap mask x.1 x.2)
theorem kd(mask:Nat):∀(a b:Nat)(x:Nat×Nat),lv mask (a+b) x=lv mask b (lv mask a x)
 |0,b,x=>by rw[zero_add];rfl
 |a+1,b,x=>by
  rw[show a+1+b=(a+b)+1 by omega];exact kd mask a b _
theorem jf(mask:Nat):∀(k:Nat)(x:Nat×Nat),∃n,n≤10*k∧nth mask (lvP mask x) n=lvP mask (lv mask k x)
 |0,x=>⟨0,by omega,rfl⟩
 |k+1,x=>by
  obtain⟨n,hn,e⟩:=jf mask k (leap mask x.1 x.2);refine⟨(runEnd mask x.1-x.1+1)+n,?_,?_⟩
  ·have:=sf mask x.1;omega
  ·rw[dO,dw];exact e
theorem dy(mask:Nat):∀(k:Nat)(x:Nat×Nat),(lv mask k x).2=x.2 / 32 ^ k
 |0,x=>by simp[lv]
 |k+1,x=>by
  show(lv mask k (leap mask x.1 x.2)).2=_;rw[dy mask k];show x.2 / 32 / 32 ^ k=_;rw[Nat.div_div_eq_div_mul,Nat.pow_succ,Nat.mul_comm 32]
theorem lD(mask:Nat):∀(k:Nat)(x:Nat×Nat),x.1≤mask→(lv mask k x).1≤mask
 |0,x,h=>h
 |k+1,x,h=>lD mask k _ (by show(x.1*5+1+x.2 / 32) % (mask+1)≤mask;have:=mod_lt (x.1*5+1+x.2 / 32) (show 0<mask+1 by omega);omega)
theorem lE(h:Int):bits h<2 ^ 64:=by
 unfold bits;have h1:=emod_nonneg h (b:=2 ^ 64) (by decide);have h2:=Int.emod_lt_of_pos h (b:=2 ^ 64) (by decide);omega
def dP(mask:Nat):Nat→Nat→Nat
 |0,i=>i
 |k+1,i=>dP mask k ((i*5+1) % (mask+1))
theorem fI(mask:Nat):∀(k i:Nat),lv mask k (i,0)=(dP mask k i,0)
 |0,i=>rfl
 |k+1,i=>by
  show lv mask k ((i*5+1+0 / 32) % (mask+1),0 / 32)=_;simp only[Nat.zero_div,Nat.add_zero];exact fI mask k _
def Cyc(mask:Nat):Prop:=∀i,i≤mask→∀j,j≤mask→∃k,k≤mask∧dP mask k i=j
theorem df(mask:Nat):∀(a b i:Nat),dP mask (a+b) i=dP mask b (dP mask a i)
 |0,b,i=>by rw[zero_add];rfl
 |a+1,b,i=>by
  rw[show a+1+b=(a+b)+1 by omega];exact df mask a b _
def qe(mask:Nat):Nat→Nat→List Nat
 |0,_=>[]
 |n+1,i=>i::qe mask n ((i*5+1) % (mask+1))
theorem jg{mask j:Nat}:∀{n i:Nat},j∈qe mask n i→∃k,k<n∧dP mask k i=j
 |0,_,h=>by simp[qe]at h
 |n+1,i,h=>by
  rcases mem_cons.mp h with e|e
  ·exact⟨0,by omega,e.symm⟩
  ·obtain⟨k,hk,e'⟩:=jg e;exact⟨k+1,by omega,e'⟩
theorem nU{mask:Nat}(h0:dP mask (mask+1) 0=0)(h:(List.range (mask+1)).all (λj=>(qe mask (mask+1) 0).contains j)=true):Cyc mask:=by
 have all:∀j,j≤mask→∃k,k≤mask∧dP mask k 0=j:=λj hj=>by
  rw[all_eq_true]at h;have h1:=h j (mem_range.mpr (by omega));rw[List.contains_iff_mem]at h1;obtain⟨k,hk,e⟩:=jg h1;exact⟨k,by omega,e⟩
 intro i hi j hj;obtain⟨a,ha,ea⟩:=all i hi;obtain⟨b,hb,eb⟩:=all j hj
 by_cases hab:a≤b
 ·refine⟨b-a,by omega,?_⟩;rw[←ea,←df,show a+(b-a)=b by omega];exact eb
 ·refine⟨mask+1-a+b,by omega,?_⟩;rw[←ea,←df,show a+(mask+1-a+b)=(mask+1)+b by omega,df,h0];exact eb
def Mk(m:Nat):Prop:=m=7∨m=15∨m=31∨m=63∨m=127∨m=255
theorem Mk.cyc{m:Nat}(h:Mk m):Cyc m:=by
 rcases h with e|e|e|e|e|e<;>subst e<;>exact nU (by decide +kernel) (by decide +kernel)
theorem Mk.ge{m:Nat}(h:Mk m):7≤m∧m≤255:=by rcases h with e|e|e|e|e|e<;>subst e<;>omega
def mkB(m:Nat):Bool:=m==7||m==15||m==31||m==63||m==127||m==255
theorem sg:(List.range 256).all (λw=>mkB (sizeAbove w-1)&&decide (w≤sizeAbove w-1)&&decide (sizeAbove w≤256))=true:=by decide +kernel
theorem fJ{w:Nat}(h:w≤255):Mk (sizeAbove w-1)∧w≤sizeAbove w-1∧sizeAbove w≤256:=by
 have h1:=(all_eq_true.mp sg) w (mem_range.mpr (by omega));rw[and_eq_true,and_eq_true,decide_eq_true_eq,decide_eq_true_eq]at h1;refine⟨?_,h1.1.2,h1.2⟩;have h2:=h1.1.1;unfold mkB at h2;rw[or_eq_true,or_eq_true,or_eq_true,or_eq_true,or_eq_true,beq_iff_eq,beq_iff_eq,beq_iff_eq,beq_iff_eq,beq_iff_eq,beq_iff_eq]at h2;rcases h2 with ((((h|h)|h)|h)|h)|h
 ·exact .inl h
 ·exact .inr (.inl h)
 ·exact .inr (.inr (.inl h))
 ·exact .inr (.inr (.inr (.inl h)))
 ·exact .inr (.inr (.inr (.inr (.inl h))))
 ·exact .inr (.inr (.inr (.inr (.inr h))))
theorem ue{mask:Nat}(c:Cyc mask)(h:Int){j:Nat}(hj:j≤mask):∃n,n<10*turns mask∧pos mask h n=j:=by
 have h0:(lv mask 13 (bits h % (mask+1),bits h)).2=0:=by
  rw[dy];have:=lE h;exact Nat.div_eq_of_lt (by have e:(32:Nat) ^ 13=36893488147419103232:=(by decide);rw[e];show bits h<_;omega)
 have h1:(lv mask 13 (bits h % (mask+1),bits h)).1≤mask:=lD mask _ _ (by have:=mod_lt (bits h) (show 0<mask+1 by omega);show bits h % (mask+1)≤mask;omega);obtain⟨k,hk,e⟩:=c _ h1 j hj;obtain⟨n,hn,en⟩:=jf mask (13+k) (bits h % (mask+1),bits h);refine⟨n,by unfold turns;omega,?_⟩;unfold pos st;rw[en,kd];have ex:lv mask 13 (bits h % (mask+1),bits h)=((lv mask 13 (bits h % (mask+1),bits h)).1,0):=by rw[←h0]
 rw[ex,fI];exact e
def InT(mask:Nat)(p:Probe):Prop:=p.j+p.more≤mask
theorem eM{mask i:Nat}(h:i≤mask):runEnd mask i≤mask∧i≤runEnd mask i:=by unfold runEnd;split<;>omega
theorem qf{mask:Nat}{p:Probe}(h:InT mask p):InT mask (adv mask p):=by
 unfold adv InT at *
 split
 ·show p.j+1+(p.more-1)≤mask;omega
 ·have hl:(leap mask p.i p.perturb).1≤mask:=by
   show(p.i*5+1+p.perturb / 32) % (mask+1)≤mask;have:=mod_lt (p.i*5+1+p.perturb / 32) (show 0<mask+1 by omega);omega
  have:=eM hl;show(leap mask p.i p.perturb).1+(runEnd mask (leap mask p.i p.perturb).1-(leap mask p.i p.perturb).1)≤mask;omega
theorem lF{mask:Nat}:∀(n:Nat){p:Probe},InT mask p→InT mask (nth mask p n)
 |0,_,h=>h
 |n+1,_,h=>lF n (qf h)
theorem sh{mask:Nat}{x:Nat×Nat}(h:x.1≤mask):InT mask (lvP mask x):=by
 have:=eM h;show x.1+(runEnd mask x.1-x.1)≤mask;omega
theorem fL(mask:Nat)(h:Int)(n:Nat):pos mask h n≤mask:=by
 have:InT mask (nth mask (st mask h) n):=lF n (sh (by have:=mod_lt (bits h) (show 0<mask+1 by omega);show bits h % (mask+1)≤mask;omega));unfold InT at this;unfold pos;omega
theorem nV(E:Nat→Prop):∀N,E N→∃n,n≤N∧E n∧∀m,m<n→¬E m
 |N,h=>by
  induction N using Nat.strongRecOn with
  |_ N ih =>
   by_cases z:∃m,m<N∧E m
   ·obtain⟨m,hm,e⟩:=z;obtain⟨n,hn,e',no⟩:=ih m hm e;exact⟨n,by omega,e',no⟩
   ·exact⟨N,le_refl _,h,λm hm e=>z ⟨m,hm,e⟩⟩
theorem gX(mask:Nat):∀(n:Nat)(p:Probe),(nth mask p n).dummy=p.dummy
 |0,_=>rfl
 |n+1,p=>by
  show(nth mask (adv mask p) n).dummy=_;rw[gX mask n];unfold adv
  split<;>rfl
theorem jh(t:SetTable)(ha:Nat→Int)(h:Int):∀(n:Nat)(p:Probe)(fuel:Nat),n<fuel →
  (∀m,m<n→∃i,t.slot (nth t.mask p m).j=.live i∧(ha i==h)=false)→t.slot (nth t.mask p n).j=.empty →
  probe.go t ha h fuel p=some (.empty (nth t.mask p n).j p.dummy)
 |0,p,fuel+1,_,_,e=>by
  have e':t.slot p.j=.empty:=e;unfold probe.go;rw[e'];rfl
 |n+1,p,fuel+1,hf,hl,e=>by
  obtain⟨i,h1,h2⟩:=hl 0 (by omega);have h1':t.slot p.j=.live i:=h1;unfold probe.go;rw[h1'];simp only[h2,false_eq_true,if_false,kb];rw[jh t ha h n (adv t.mask p) fuel (by omega) (λm hm=>hl (m+1) (by omega)) e]
  congr 2
  exact gX t.mask 1 p
theorem fM(xs:Array Nat)(j:Nat)(hs:∀a b,a<b→b<xs.size→xs.getD a 0<xs.getD b 0):∀(fuel lo hi:Nat),hi-lo≤fuel→lo≤hi→hi≤xs.size →
  (∀k,k<lo→xs.getD k 0<j)→(∀k,hi≤k→k<xs.size→j≤xs.getD k 0) →
  below.go xs j fuel lo hi≤xs.size∧(∀k,k<below.go xs j fuel lo hi→xs.getD k 0<j)∧(∀k,below.go xs j fuel lo hi≤k→k<xs.size→j≤xs.getD k 0)
 |0,lo,hi,hf,hl,hh,h1,h2=>by
  have e:lo=hi:=by omega
  subst e;exact⟨hh,h1,h2⟩
 |fuel+1,lo,hi,hf,hl,hh,h1,h2=>by
  unfold below.go
  by_cases hlt:lo<hi
  ·rw[if_pos hlt];have hm:(lo+hi) / 2<hi:=by omega
   have hm2:lo≤(lo+hi) / 2:=by omega
   have eg:xs.getD ((lo+hi) / 2) j=xs.getD ((lo+hi) / 2) 0:=by
    rw[getD_eq_getD_getElem?,getD_eq_getD_getElem?,Array.getElem?_eq_getElem (by omega)];rfl
   simp only[eg]
   split
   ·rename_i hc
    refine fM xs j hs fuel _ hi (by omega) (by omega) hh (λk hk=>?_) h2
    by_cases e:k=(lo+hi) / 2
    ·rw[e];exact hc
    ·have:=hs k ((lo+hi) / 2) (by omega) (by omega);omega
   ·rename_i hc
    refine fM xs j hs fuel lo _ (by omega) (by omega) (by omega) h1 (λk hk hk2=>?_)
    by_cases e:k=(lo+hi) / 2
    ·rw[e];omega
    ·have:=hs ((lo+hi) / 2) k (by omega) hk2;omega
  ·rw[if_neg hlt];have e:lo=hi:=by omega
   subst e;exact⟨hh,h1,h2⟩
def Up(l:List Nat):Prop:=l.Pairwise (· < ·)
theorem sk{l:List Nat}(h:Up l){a b:Nat}(hab:a<b)(hb:b<l.length):l.toArray.getD a 0<l.toArray.getD b 0:=by
 unfold Up at h;have:=pairwise_iff_getElem.mp h a b (by omega) hb hab;simp[getD_eq_getD_getElem?,show a<l.length by omega,hb];exact this
theorem bF{l:List Nat}(h:Up l)(j:Nat):below l.toArray j≤l.length∧(∀k (hk:k<l.length),k<below l.toArray j→l[k]<j)∧(∀k (hk:k<l.length),below l.toArray j≤k→j≤l[k]):=by
 have:=fM l.toArray j (λa b hab hb=>sk h hab (by simpa using hb)) l.toArray.size 0 l.toArray.size (by omega) (by omega) (le_refl _) (by intro k hk;omega) (by intro k hk hk2;omega);unfold below;refine⟨by simpa using this.1,λk hk h1=>?_,λk hk h1=>?_⟩
 ·have:=this.2.1 k h1;simpa [getD_eq_getD_getElem?,hk]using this
 ·have:=this.2.2 k h1 (by simpa using hk);simpa [getD_eq_getD_getElem?,hk]using this
structure Tb(t:SetTable)(l:List Nat):Prop where
 pl:t.place=l.toArray
 nd:t.dummies=#[]
 up:Up l
 le:∀j∈l,j≤t.mask
theorem lG(j:Nat):has #[] j=false:=by
 unfold has;simp
theorem qg{t:SetTable}{l:List Nat}(T:Tb t l){i j:Nat}(h:l[i]?=some j):t.slot j=.live i:=by
 obtain⟨hi,e⟩:=List.getElem?_eq_some_iff.mp h;obtain⟨b1,b2,b3⟩:=bF T.up j;have eb:below l.toArray j=i:=by
  rcases Nat.lt_trichotomy (below l.toArray j) i with z|z|z
  ·have:=b3 (below l.toArray j) (by omega) (le_refl _);have:=pairwise_iff_getElem.mp T.up (below l.toArray j) i (by omega) hi z;omega
  ·exact z
  ·have:=b2 i hi z;omega
 unfold SetTable.slot;rw[T.pl,eb];simp[h]
theorem nW{t:SetTable}{l:List Nat}(T:Tb t l){j:Nat}(h:j∉l):t.slot j=.empty:=by
 unfold SetTable.slot;rw[T.pl,T.nd,lG];have:¬(l.toArray[below l.toArray j]?==some j)=true:=by
  intro z;have z':l[below l.toArray j]?=some j:=by simpa using z
  exact h (mem_of_getElem? z')
 simp only[this,false_eq_true,if_false]
theorem mr{l:List Nat}(h:Up l){j:Nat}(hj:j∉l):Up (l.take (below l.toArray j)++j::l.drop (below l.toArray j)):=by
 obtain⟨b1,b2,b3⟩:=bF h j;unfold Up;rw[List.pairwise_append,pairwise_cons];have hsub1:(l.take (below l.toArray j)).Pairwise (· < ·):=Pairwise.sublist (take_sublist _ _) h;have hsub2:(l.drop (below l.toArray j)).Pairwise (· < ·):=Pairwise.sublist (List.drop_sublist _ _) h;have h1:∀a∈l.take (below l.toArray j),a<j:=by
  intro a ha;obtain⟨k,hk,e⟩:=mem_iff_getElem.mp ha;rw[length_take]at hk;rw[List.getElem_take]at e;rw[←e];exact b2 k (by omega) (by omega)
 have h2:∀a∈l.drop (below l.toArray j),j<a:=by
  intro a ha;have hne:a≠j:=λe=>hj (e ▸ List.mem_of_mem_drop ha);obtain⟨k,hk,e⟩:=mem_iff_getElem.mp ha;rw[length_drop]at hk;rw[List.getElem_drop]at e;have:=b3 (below l.toArray j+k) (by omega) (by omega);omega
 refine⟨hsub1,⟨h2,hsub2⟩,λa ha b hb=>?_⟩;rcases mem_cons.mp hb with rfl|hb
 ·exact h1 a ha
 ·have:=h1 a ha;have:=h2 b hb;omega
theorem sm{t:SetTable}{l:List Nat}(T:Tb t l){j:Nat}(hj:j∉l)(hm:j≤t.mask):Tb (t.put j).1 (l.take (below l.toArray j)++j::l.drop (below l.toArray j))∧(t.put j).2=below l.toArray j∧(t.put j).1.mask=t.mask:=by
 refine⟨⟨?_,?_,mr T.up hj,?_⟩,?_,rfl⟩
 ·show insertAt t.place (below t.place j) j=_;rw[T.pl];apply toList_inj.mp;rw[SetTable.toList_insertAt]
 ·show(if has t.dummies j=true then _ else t.dummies)=#[];rw[T.nd,lG];rfl
 ·intro a ha;rcases mem_append.mp ha with h|h
  ·exact T.le a (List.mem_of_mem_take h)
  ·rcases mem_cons.mp h with rfl|h
   ·exact hm
   ·exact T.le a (List.mem_of_mem_drop h)
 ·show below t.place j=_;rw[T.pl]
def uf(mask:Nat)(zs:List (Nat×Int)):Prop:=∀z∈zs,∃n,pos mask z.2 n=z.1∧∀m,m<n→pos mask z.2 m∈zs.map (·.1)
def emp(owner:Array (Option Nat))(j:Nat):Bool:=(owner.getD j (some 0)).isNone
theorem gY(mask:Nat)(owner:Array (Option Nat)):∀(fuel:Nat)(x:Nat×Nat),x.1≤mask→(∃k,k<fuel∧emp owner (lv mask k x).1=true) →
  ∃j n,layClean.free mask owner fuel x.1 x.2=some j∧(nth mask (lvP mask x) n).j=j∧emp owner j=true∧∀m,m<n→emp owner (nth mask (lvP mask x) m).j=false
 |0,x,_,h=>by obtain⟨k,hk,_⟩:=h;omega
 |fuel+1,x,hx,h=>by
  unfold layClean.free;have hr:=eM hx;have hpart:∀m,m≤runEnd mask x.1-x.1→(nth mask (lvP mask x) m).j=x.1+m:=λm hm=>by
   rw[je mask m (lvP mask x) hm];rfl
  cases e:(List.range (runEnd mask x.1+1-x.1)).find? (λk=>(owner.getD (x.1+k) (some 0)).isNone)with
  |some k =>
   rw[List.find?_range_eq_some]at e;obtain⟨e1,e2,e3⟩:=e;have hk:k≤runEnd mask x.1-x.1:=by have:=mem_range.mp e2;omega
   refine⟨x.1+k,k,rfl,hpart k hk,e1,λm hm=>?_⟩;rw[hpart m (by omega)];have:=e3 m hm;simpa [emp]using this
  |none =>
   rw[List.find?_range_eq_none]at e;obtain⟨k,hk,h1⟩:=h;have hk0:k≠0:=by
    rintro rfl;have:=e 0 (by omega);have h1':(owner.getD x.1 (some 0)).isNone=true:=h1;rw[Nat.add_zero,h1']at this;simp at this
   obtain⟨k',rfl⟩:∃k',k=k'+1:=⟨k-1,by omega⟩;have hl:(leap mask x.1 x.2).1≤mask:=lD mask 1 x hx;obtain⟨j,n,f1,f2,f3,f4⟩:=gY mask owner fuel (leap mask x.1 x.2) hl ⟨k',by omega,h1⟩;refine⟨j,(runEnd mask x.1-x.1+1)+n,f1,?_,f3,λm hm=>?_⟩
   ·rw[dO,dw];exact f2
   ·by_cases hm2:m≤runEnd mask x.1-x.1
    ·rw[hpart m hm2];have:=e m (by omega);simpa [emp]using this
    ·obtain⟨m',rfl⟩:∃m',m=(runEnd mask x.1-x.1+1)+m':=⟨m-(runEnd mask x.1-x.1+1),by omega⟩;rw[dO,dw];exact f4 m' (by omega)
theorem qh{mask:Nat}(c:Cyc mask)(owner:Array (Option Nat))(h:Int){j₀:Nat}(hj:j₀≤mask)(he:emp owner j₀=true):
  ∃j n,layClean.free mask owner (turns mask) (bits h % (mask+1)) (bits h)=some j∧pos mask h n=j∧emp owner j=true∧∀m,m<n→emp owner (pos mask h m)=false:=by
 have h0:(lv mask 13 (bits h % (mask+1),bits h)).2=0:=by
  rw[dy];have:=lE h;exact Nat.div_eq_of_lt (by have e:(32:Nat) ^ 13=36893488147419103232:=(by decide);rw[e];show bits h<_;omega)
 have hx:bits h % (mask+1)≤mask:=by have:=mod_lt (bits h) (show 0<mask+1 by omega);omega
 have h1:(lv mask 13 (bits h % (mask+1),bits h)).1≤mask:=lD mask _ _ hx;obtain⟨k,hk,e⟩:=c _ h1 j₀ hj;refine gY mask owner (turns mask) (bits h % (mask+1),bits h) hx ⟨13+k,by unfold turns;omega,?_⟩;rw[kd];have ex:lv mask 13 (bits h % (mask+1),bits h)=((lv mask 13 (bits h % (mask+1),bits h)).1,0):=by rw[←h0]
 rw[ex,fI,e];exact he
def live(mask:Nat)(owner:Array (Option Nat)):List (Nat×Nat):=(List.range (mask+1)).filterMap λj=>(owner.getD j none).map (j,·)
theorem cW{α β:Type}{f g:α→Option β}:∀{l:List α},(∀x∈l,g x=f x)→l.filterMap g=l.filterMap f
 |[],_=>rfl
 |x::l,h=>by
  have ih:=cW (l:=l) λy hy=>h y (mem_cons_of_mem _ hy);have hx:=h x mem_cons_self;cases e:f x with
  |none=>rw[filterMap_cons_none e,filterMap_cons_none (hx.trans e),ih]
  |some b=>rw[filterMap_cons_some e,filterMap_cons_some (hx.trans e),ih]
theorem di{α β:Type}(f g:α→Option β)(a:α)(v:β)(hf:f a=none)(hg:g a=some v)(hne:∀x,x≠a→g x=f x):∀(l:List α),l.Nodup→a∈l →
  (l.filterMap g).Perm (v::l.filterMap f)
 |[],_,h=>by simp at h
 |x::l,hn,h=>by
  obtain⟨h1,h2⟩:=nodup_cons.mp hn
  by_cases e:x=a
  ·subst e;rw[filterMap_cons_some hg,filterMap_cons_none hf];have:l.filterMap g=l.filterMap f:=cW λy hy=>hne y (λe=>h1 (e ▸ hy));rw[this]
  ·have ha:a∈l:=by
    rcases mem_cons.mp h with z|z
    ·exact absurd z.symm e
    ·exact z
   have ih:=di f g a v hf hg hne l h2 ha;cases ef:f x with
   |none =>
    rw[filterMap_cons_none ef,filterMap_cons_none (by rw[hne x e,ef])];exact ih
   |some b =>
    rw[filterMap_cons_some ef,filterMap_cons_some (by rw[hne x e,ef])];exact(ih.cons b).trans (List.Perm.swap _ _ _)
structure Lay(mask:Nat)(owner:Array (Option Nat))(hs:List Int):Prop where
 size:owner.size=mask+1
 perm:((live mask owner).map (·.2)).Perm (List.range hs.length)
 path:∀j i,owner.getD j none=some i→∃h,hs[i]?=some h∧∃n,pos mask h n=j∧∀m,m<n→emp owner (pos mask h m)=false
theorem dQ{mask:Nat}{owner:Array (Option Nat)}(hs:owner.size=mask+1){j:Nat}(hj:j≤mask):emp owner j=(owner.getD j none).isNone:=by
 unfold emp;rw[getD_eq_getD_getElem?,getD_eq_getD_getElem?,Array.getElem?_eq_getElem (by omega)];rfl
theorem qi(mask:Nat):Lay mask (replicate (mask+1) none) []:=by
 have e:∀j,(replicate (mask+1) (none:Option Nat)).getD j none=none:=λj=>by
  rw[getD_eq_getD_getElem?,Array.getElem?_replicate]
  split<;>rfl
 refine⟨by simp,?_,λj i h=>?_⟩
 ·have:live mask (replicate (mask+1) none)=[]:=by
   unfold live;rw[List.filterMap_eq_nil_iff];intro j _;rw[e];rfl
  rw[this];simp
 ·rw[e]at h;cases h
theorem nX{mask:Nat}{owner:Array (Option Nat)}{hs:List Int}(L:Lay mask owner hs)(hl:hs.length≤mask):∃j,j≤mask∧emp owner j=true:=by
 by_cases h:∃j,j≤mask∧emp owner j=true
 ·exact h
 ·exfalso
  have all:∀j,j≤mask→∃i,owner.getD j none=some i:=λj hj=>by
   cases e:owner.getD j none with
   |some i=>exact⟨i,rfl⟩
   |none=>exact(h ⟨j,hj,by rw[dQ L.size hj,e];rfl⟩).elim
  have len:(live mask owner).length=mask+1:=by
   have key:∀l:List Nat,(∀j∈l,j≤mask)→(l.filterMap λj=>(owner.getD j none).map (j,·)).length=l.length:=by
    intro l
    induction l with
    |nil=>intro _;rfl
    |cons x l ih =>
     intro hl;obtain⟨i,e⟩:=all x (hl x (by simp));rw[filterMap_cons_some (by rw[e];rfl),length_cons,length_cons,ih λj hj=>hl j (by simp[hj])]
   unfold live;rw[key _ (λj hj=>by have:=mem_range.mp hj;omega),length_range]
  have:=L.perm.length_eq;rw[length_map,length_range,len]at this;omega
theorem dR{owner:Array (Option Nat)}{j k:Nat}{v:Option Nat}(hj:j<owner.size):(owner.setIfInBounds j v).getD k none=if k=j then v else owner.getD k none:=by
 rw[getD_eq_getD_getElem?,getD_eq_getD_getElem?,Array.getElem?_setIfInBounds]
 by_cases e:j=k
 ·subst e;simp[hj]
 ·rw[if_neg e,if_neg (λz=>e z.symm)]
theorem lH{mask:Nat}{owner:Array (Option Nat)}{j k i:Nat}(hs:owner.size=mask+1)(hj:j≤mask)(hk:k≤mask)(h:emp owner k=false):emp (owner.setIfInBounds j (some i)) k=false:=by
 rw[dQ (by simpa using hs) hk,dR (by omega)];rw[dQ hs hk]at h
 split
 ·rfl
 ·exact h
theorem nY{mask:Nat}(c:Cyc mask){owner:Array (Option Nat)}{hs:List Int}(L:Lay mask owner hs)(hl:hs.length≤mask)(h:Int):
  ∃j,layClean.free mask owner (turns mask) (bits h % (mask+1)) (bits h)=some j∧Lay mask (owner.setIfInBounds j (some hs.length)) (hs++[h]):=by
 obtain⟨j₀,hj₀,e₀⟩:=nX L hl;obtain⟨j,n,e1,e2,e3,e4⟩:=qh c owner h hj₀ e₀;have hj:j≤mask:=by rw[←e2];exact fL mask h n
 have hjn:owner.getD j none=none:=by
  rw[dQ L.size hj]at e3;exact Option.isNone_iff_eq_none.mp e3
 refine⟨j,e1,by simpa using L.size,?_,λk i hk=>?_⟩
 ·have p:=di (λk=>(owner.getD k none).map (k,·)) (λk=>((owner.setIfInBounds j (some hs.length)).getD k none).map (k,·)) j (j,hs.length) (by simp[hjn])
   (by show((owner.setIfInBounds j (some hs.length)).getD j none).map (j,·)=_;rw[dR (by rw[L.size];omega),if_pos rfl];rfl) (λx hx=>by show((owner.setIfInBounds j (some hs.length)).getD x none).map (x,·)=(owner.getD x none).map (x,·);rw[dR (by rw[L.size];omega),if_neg hx]) (List.range (mask+1)) nodup_range (mem_range.mpr (by omega))
  have p2:((live mask (owner.setIfInBounds j (some hs.length))).map (·.2)).Perm (hs.length::(live mask owner).map (·.2)):=p.map (·.2);rw[length_append,length_singleton,List.range_succ];exact p2.trans ((L.perm.cons _).trans (List.perm_append_singleton _ _).symm)
 ·rw[dR (by rw[L.size];omega)]at hk
  by_cases e:k=j
  ·subst e;rw[if_pos rfl]at hk;cases hk;exact⟨h,by simp,n,e2,λm hm=>lH L.size hj (fL _ _ _) (e4 m hm)⟩
  ·rw[if_neg e]at hk;obtain⟨h',a1,n',a2,a3⟩:=L.path k i hk;have hi:i<hs.length:=(List.getElem?_eq_some_iff.mp a1).1;exact⟨h',by rw[getElem?_append_left hi];exact a1,n',a2,λm hm=>lH L.size hj (fL _ _ _) (a3 m hm)⟩
theorem eW{mask:Nat}(c:Cyc mask)(hashes:Array Int)(hl:hashes.size≤mask+1):∃owner,layClean mask hashes=some owner∧Lay mask owner hashes.toList:=by
 have key:∀(r hs:List Int)(owner:Array (Option Nat)),Lay mask owner hs→hs.length+r.length≤mask+1 →
   ∃owner',r.foldl (λacc h=>do
    let(owner,k) ← acc
    let j ← layClean.free mask owner (turns mask) (bits h % (mask+1)) (bits h)
    pure (owner.setIfInBounds j (some k),k+1)) (some (owner,hs.length))=some (owner',hs.length+r.length)∧Lay mask owner' (hs++r):=by
  intro r
  induction r with
  |nil=>intro hs owner L _;exact⟨owner,rfl,by simpa using L⟩
  |cons h r ih =>
   intro hs owner L hle;rw[length_cons]at hle;obtain⟨j,e,L'⟩:=nY c L (by omega) h;obtain⟨owner',e',L''⟩:=ih (hs++[h]) _ L' (by rw[length_append,length_singleton];omega);refine⟨owner',?_,by rw[append_assoc]at L'';exact L''⟩;rw[List.foldl_cons];have eb:(do
    let(owner,k) ← some (owner,hs.length)
    let j ← layClean.free mask owner (turns mask) (bits h % (mask+1)) (bits h)
    pure (owner.setIfInBounds j (some k),k+1))=some (owner.setIfInBounds j (some hs.length),hs.length+1):=by
    show(layClean.free mask owner (turns mask) (bits h % (mask+1)) (bits h)).bind _=_;rw[e];rfl
   rw[eb];rw[length_append,length_singleton]at e';rw[e',length_cons]
   congr 2
   omega
 obtain⟨owner',e,L⟩:=key hashes.toList [] _ (qi mask) (by simpa using hl);refine⟨owner',?_,by simpa using L⟩
 unfold layClean;rw[←Array.foldl_toList];have e2:(0:Nat)=([]:List Int).length:=rfl;rw[e2,e];rfl
theorem gZ{t:SetTable}{hashes:Array Int}{wanted:Nat}(c:Cyc (sizeAbove wanted-1))(hl:hashes.size≤sizeAbove wanted-1+1):
  ∃(t':SetTable) (zs:List (Nat×Nat)),t.relaid hashes wanted=some (t',(zs.map (·.2)).toArray)∧t'.mask=sizeAbove wanted-1∧t'.led=t.led∧t'.plain=t.plain ∧
   Tb t' (zs.map (·.1))∧(zs.map (·.2)).Perm (List.range hashes.size)∧uf t'.mask (zs.map λz=>(z.1,hashes.getD z.2 0)):=by
 obtain⟨owner,e,L⟩:=eW c hashes hl;refine⟨{mask:=sizeAbove wanted-1,place:=((live (sizeAbove wanted-1) owner).map (·.1)).toArray,dummies:=#[],finger:=t.finger,led:=t.led,moves:=t.movedTo (sizeAbove wanted-1),plain:=t.plain},live (sizeAbove wanted-1) owner,?_,rfl,rfl,rfl,⟨rfl,rfl,?_,?_⟩,?_,?_⟩
 ·unfold relaid laid;rw[e];rfl
 ·unfold Up live;rw[List.map_filterMap];have e1:((List.range (sizeAbove wanted-1+1)).filterMap λj=>((owner.getD j none).map (j,·)).map (·.1))=(List.range (sizeAbove wanted-1+1)).filter λj=>(owner.getD j none).isSome:=by
   generalize List.range (sizeAbove wanted-1+1)=l
   induction l with
   |nil=>rfl
   |cons x l ih =>
    cases ex:owner.getD x none with
    |none=>rw[filterMap_cons_none (by rw[ex];rfl),List.filter_cons_of_neg (by simp[ex])];exact ih
    |some i=>rw[filterMap_cons_some (b:=x) (by rw[ex];rfl),List.filter_cons_of_pos (by simp[ex]),ih]
  rw[e1];exact Pairwise.sublist List.filter_sublist List.pairwise_lt_range
 ·intro j hj;obtain⟨z,hz,rfl⟩:=mem_map.mp hj;unfold live at hz;obtain⟨k,hk,e1⟩:=mem_filterMap.mp hz;cases ex:owner.getD k none with
  |none=>rw[ex]at e1;cases e1
  |some i =>
   rw[ex]at e1;have e2:(k,i)=z:=Option.some.inj e1;subst e2;have:=mem_range.mp hk;show k≤sizeAbove wanted-1;omega
 ·have:=L.perm;rw[length_toList]at this;exact this
 ·intro y hy;obtain⟨z,hz,rfl⟩:=mem_map.mp hy;have key:∀z:Nat×Nat,z∈live (sizeAbove wanted-1) owner↔z.1≤sizeAbove wanted-1∧owner.getD z.1 none=some z.2:=by
   intro z;unfold live;rw[mem_filterMap];constructor
   ·rintro⟨k,hk,e1⟩;cases ex:owner.getD k none with
    |none=>rw[ex]at e1;cases e1
    |some i =>
     rw[ex]at e1;have e2:(k,i)=z:=Option.some.inj e1;subst e2;have:=mem_range.mp hk;exact⟨by omega,ex⟩
   ·rintro⟨h1,h2⟩;exact⟨z.1,mem_range.mpr (by omega),by rw[h2];rfl⟩
  obtain⟨z1,z2⟩:=(key z).mp hz;obtain⟨h,a1,n,a2,a3⟩:=L.path _ _ z2;have eh:hashes.getD z.2 0=h:=by
   have a1':hashes[z.2]?=some h:=by simpa using a1
   rw[getD_eq_getD_getElem?,a1'];rfl
  refine⟨n,by rw[eh];exact a2,λm hm=>?_⟩;have:=a3 m hm;have hle:=fL (sizeAbove wanted-1) h m;rw[dQ L.size hle]at this;cases ex:owner.getD (pos (sizeAbove wanted-1) h m) none with
  |none=>rw[ex]at this;cases this
  |some i =>
   rw[map_map];show pos (sizeAbove wanted-1) (hashes.getD z.2 0) m∈_;rw[eh];exact mem_map.mpr ⟨(pos (sizeAbove wanted-1) h m,i),(key _).mpr ⟨hle,ex⟩,rfl⟩
section
variable{prog:Program}{w:World}{K:Type}[DecidableEq K]{knd:KeyKind prog w K}{A:Around}{E:Value→Shared→Prop}{s:Shared}
end
section
variable{prog:Program}{w:World}{K:Type}[DecidableEq K](knd:KeyKind prog w K)
variable{knd}
variable{A:Around}{E:Value→Shared→Prop}{s:Shared}
theorem dS{t:SetTable}{l:List Nat}(T:Tb t l):t.fill=l.length:=by
 unfold SetTable.fill;rw[T.pl,T.nd];simp
theorem iB{t:SetTable}{l:List Nat}(T:Tb t l){n:Nat}(hn:l.length=n)(hf:n≤t.mask):t.fits n=true:=by
 unfold SetTable.fits;rw[dS T,T.pl];simp[hn,hf]
end
theorem lI:∀(n:Nat)(l:List Nat),(∀j,j<n→j∈l)→n≤l.length
 |0,_,_=>zero_le _
 |n+1,l,h=>by
  have hn:=h n (by omega);have ih:=lI n (l.erase n) λj hj=>(List.mem_erase_of_ne (by omega)).mpr (h j (by omega));rw[List.length_erase_of_mem hn]at ih;have:0<l.length:=List.length_pos_of_mem hn;omega
theorem kg(n:Nat)(l:List Nat)(h:l.length≤n):∃j,j≤n∧j∉l:=by
 by_cases z:∃j,j≤n∧j∉l
 ·exact z
 ·exfalso
  have:=lI (n+1) l λj hj=>by
   by_cases e:j∈l
   ·exact e
   ·exact(z ⟨j,by omega,e⟩).elim
  omega
section
variable{prog:Program}{w:World}{K:Type}[DecidableEq K]{knd:KeyKind prog w K}{A:Around}{E:Value→Shared→Prop}{s:Shared}
theorem stored{a:Addr}{o:Obj}{es:Array (Int×Value)}{ep:Nat}{t:SetTable}(ho:s.heap.get? a=some o)(hd:o.data=.set es ep t)(es':Array (Int×Value))(t':SetTable):
  (s.heap.update a (Obj.putSet es' t')).get? a=some {o with data:=.set es' (ep+1) t'}:=by
 have:=get?_update_self (Obj.putSet es' t') ho (by rw[putSet_of es' t' hd];rfl);rw[putSet_of es' t' hd]at this;exact this
theorem nZ{n:Nat}(h:n≤64):n≤sizeLine:=by rw[sizeLine_eq];omega
end
section
variable{prog:Program}{w:World}{K:Type}[DecidableEq K]{knd:KeyKind prog w K}{A:Around}{R:Result→Shared→Prop}{I:Addr}{fp wr:List Addr}{G:Array GenState→Array GenState→Prop}{n:Nat}{P:Nat→Value→Prop}{St:Nat→Shared→Prop}
end
section
variable{prog:Program}{w:World}{K:Type}[DecidableEq K]{knd:KeyKind prog w K}{A:Around}{E:Value→Shared→Prop}{s:Shared}
end
end TB
namespace SRT
open PySem PySem.W PyProof.Rows
def run{α:Type}(f:Nat→Nat→Bool):KasT α→α
 |.ret a=>a
 |.ask i j k=>run f (k (f i j))
theorem cA{α β:Type}(f:Nat→Nat→Bool)(g:α→KasT β):∀t:KasT α,run f (t.bind g)=run f (g (run f t))
 |.ret a=>rfl
 |.ask i j k=>cA f g (k (f i j))
def path{α:Type}(f:Nat→Nat→Bool)(n:Nat):KasT α→Prop
 |.ret _=>True
 |.ask i j k=>i<n∧j<n∧path f n (k (f i j))
theorem cc{α β:Type}{f:Nat→Nat→Bool}{n:Nat}{g:α→KasT β}:∀{t:KasT α},path f n t→path f n (g (run f t))→path f n (t.bind g)
 |.ret a,_,h=>h
 |.ask i j k,h,h'=>⟨h.1,h.2.1,cc (t:=k (f i j)) h.2.2 h'⟩
theorem lJ{α:Type}{f:Nat→Nat→Bool}{n:Nat}{cmp:Nat→Nat→(Bool→Shared→Prop)→Shared→Prop}{s:Shared}(hc:∀i j C,i<n→j<n→C (f i j) s→cmp i j C s)(Q:α→Shared→Prop):∀t:KasT α,path f n t→Q (run f t) s→t.kasWp cmp Q s
 |.ret a,_,h=>h
 |.ask i j k,p,h=>hc i j _ p.1 p.2.1 (lJ hc Q (k (f i j)) p.2.2 h)
structure Ord(f:Nat→Nat→Bool)(n:Nat):Prop where
 irr:∀i,i<n→f i i=false
 tr:∀i j k,i<n→j<n→k<n→f i j=true→f j k=true→f i k=true
 tot:∀i j,i<n→j<n→i≠j→f i j=true∨f j i=true
section
variable{f:Nat→Nat→Bool}{n:Nat}
structure Row(n:Nat)(p:Array Nat):Prop where
 perm:p.toList.Perm (List.range n)
theorem Row.size{p:Array Nat}(r:Row n p):p.size=n:=by have:=r.perm.length_eq;simpa using this
theorem Row.lt{p:Array Nat}(r:Row n p){i:Nat}(hi:i<n):p.getD i 0<n:=by
 have hs:=r.size;have:p.getD i 0∈p.toList:=by
  rw[getD_eq_getD_getElem?,Array.getElem?_eq_getElem (by omega)];exact Array.getElem_mem_toList (by omega)
 exact mem_range.mp (r.perm.mem_iff.mp this)
theorem Row.ne{p:Array Nat}(r:Row n p){i j:Nat}(hi:i<n)(hj:j<n)(hij:i≠j):p.getD i 0≠p.getD j 0:=by
 have hs:=r.size;have nd:p.toList.Nodup:=r.perm.nodup_iff.mpr nodup_range;rw[getD_eq_getD_getElem?,getD_eq_getD_getElem?,Array.getElem?_eq_getElem (by omega),Array.getElem?_eq_getElem (by omega)];intro e;have e':p.toList[i]'(by simpa using (by omega:i<p.size))=p.toList[j]'(by simpa using (by omega:j<p.size)):=by simpa using e
 exact hij ((getElem_inj nd).mp e')
theorem Row.rev{p:Array Nat}(r:Row n p)(i j:Nat):Row n (kas_rev p i j):=⟨(Array.perm_iff_toList_perm.mp (mirror_perm p i j _)).trans r.perm⟩
theorem Row.bub{p:Array Nat}(r:Row n p)(i j:Nat):Row n (bubble p i j):=⟨(Array.perm_iff_toList_perm.mp (bubble_perm p i j)).trans r.perm⟩
def Up(f:Nat→Nat→Bool)(p:Array Nat)(m:Nat):Prop:=∀i j,i<j→j<m→f (p.getD i 0) (p.getD j 0)=true
theorem qj(O:Ord f n){p:Array Nat}(r:Row n p){m:Nat}(hm:m<n)(h1:1≤m)(u:Up f p m)(h:f (p.getD m 0) (p.getD (m-1) 0)=false):Up f p (m+1):=by
 have hl:f (p.getD (m-1) 0) (p.getD m 0)=true:=by
  rcases O.tot _ _ (r.lt (i:=m) hm) (r.lt (i:=m-1) (by omega)) (r.ne hm (by omega) (by omega))with z|z
  ·rw[h]at z;cases z
  ·exact z
 intro i j hij hj
 by_cases e:j=m
 ·subst e
  by_cases e2:i=j-1
  ·rw[e2];exact hl
  ·exact O.tr _ _ _ (r.lt (by omega)) (r.lt (by omega)) (r.lt hm) (u i (j-1) (by omega) (by omega)) hl
 ·exact u i j hij (by omega)
theorem iC(O:Ord f n){p:Array Nat}(r:Row n p):∀(fuel m:Nat),1≤m→m+fuel≤n→Up f p m →
  m≤run f (kas_asc p fuel m)∧run f (kas_asc p fuel m)≤m+fuel∧Up f p (run f (kas_asc p fuel m))∧(run f (kas_asc p fuel m)<m+fuel→f (p.getD (run f (kas_asc p fuel m)) 0) (p.getD (run f (kas_asc p fuel m)-1) 0)=true)
 |0,m,_,_,u=>⟨le_refl _,le_refl _,u,λh=>absurd h (by simp[kas_asc,run])⟩
 |fuel+1,m,h1,hm,u=>by
  cases e:f (p.getD m 0) (p.getD (m-1) 0)with
  |true =>
   have er:run f (kas_asc p (fuel+1) m)=m:=by
    show run f (if f (p.getD m 0) (p.getD (m-1) 0)=true then KasT.ret m else kas_asc p fuel (m+1))=m
    rw[e,if_pos rfl];rfl
   rw[er];exact⟨le_refl _,by omega,u,λ_=>e⟩
  |false =>
   have er:run f (kas_asc p (fuel+1) m)=run f (kas_asc p fuel (m+1)):=by
    show run f (if f (p.getD m 0) (p.getD (m-1) 0)=true then KasT.ret m else kas_asc p fuel (m+1))=_
    rw[e,if_neg (by simp)]
   rw[er];obtain⟨a1,a2,a3,a4⟩:=iC O r fuel (m+1) (by omega) (by omega) (qj O r (by omega) h1 u e);exact⟨by omega,by omega,a3,λh=>a4 (by omega)⟩
def so(f:Nat→Nat→Bool)(p:Array Nat)(m:Nat):Prop:=∀i j,i<j→j<m→f (p.getD j 0) (p.getD i 0)=true
theorem iD(O:Ord f n){p:Array Nat}(r:Row n p):∀(fuel m:Nat),1≤m→m+fuel≤n→so f p m →
  ∃m',run f (kas_desc fuel p m 0)=(p,m',0)∧m≤m'∧m'≤m+fuel∧so f p m'
 |0,m,_,_,u=>⟨m,rfl,le_refl _,le_refl _,u⟩
 |fuel+1,m,h1,hm,u=>by
  cases e:f (p.getD m 0) (p.getD (m-1) 0)with
  |true =>
   have er:run f (kas_desc (fuel+1) p m 0)=run f (kas_desc fuel p (m+1) 0):=by
    show run f (if f (p.getD m 0) (p.getD (m-1) 0)=true then (if 0>0 then _ else kas_desc fuel p (m+1) 0)else _)=_
    rw[e,if_pos rfl,if_neg (by omega)]
   rw[er];obtain⟨m',a1,a2,a3,a4⟩:=iD O r fuel (m+1) (by omega) (by omega) (by
    intro i j hij hj
    by_cases ej:j=m
    ·subst ej
     by_cases e2:i=j-1
     ·rw[e2];exact e
     ·exact O.tr _ _ _ (r.lt (by omega)) (r.lt (i:=j-1) (by omega)) (r.lt (by omega)) e (u i (j-1) (by omega) (by omega))
    ·exact u i j hij (by omega))
   exact⟨m',a1,by omega,by omega,a4⟩
  |false =>
   have e2:f (p.getD (m-1) 0) (p.getD m 0)=true:=by
    rcases O.tot _ _ (r.lt (i:=m) (by omega)) (r.lt (i:=m-1) (by omega)) (r.ne (by omega) (by omega) (by omega))with z|z
    ·rw[e]at z;cases z
    ·exact z
   have er:run f (kas_desc (fuel+1) p m 0)=(p,m,0):=by
    show run f (if f (p.getD m 0) (p.getD (m-1) 0)=true then _ else KasT.ask (p.getD (m-1) 0) (p.getD m 0) λd=>if d=true then .ret (p,m,0)else kas_desc fuel p (m+1) (0+1))=_
    rw[e,if_neg (by simp)];show run f (if f (p.getD (m-1) 0) (p.getD m 0)=true then KasT.ret (p,m,0)else kas_desc fuel p (m+1) (0+1))=_
    rw[e2,if_pos rfl];rfl
   exact⟨m,er,le_refl _,by omega,u⟩
theorem lK{p:Array Nat}{m:Nat}(hm:m≤p.size)(k:Nat)(hk:k<m):(kas_rev p 0 m).getD k 0=p.getD (m-1-k) 0:=by
 unfold kas_rev;rw[getD_eq_getD_getElem?,getElem?_mirror_all hm k,if_pos ⟨by omega,hk⟩,getD_eq_getD_getElem?]
 congr 2
 omega
theorem sq{p:Array Nat}{m:Nat}(hm:m≤p.size)(d:so f p m):Up f (kas_rev p 0 m) m:=by
 intro i j hij hj;rw[lK hm i (by omega),lK hm j hj];exact d _ _ (by omega) (by omega)
theorem ji(O:Ord f n){p:Array Nat}(r:Row n p)(h2:1≤n):∃m p',run f (kas_count n p)=(m,p')∧1≤m∧m≤n∧Row n p'∧Up f p' m:=by
 obtain⟨a1,a2,a3,a4⟩:=iC O r (n-1) 1 (by omega) (by omega) (by intro i j hij hj;omega);have er:run f (kas_count n p)=run f (if (run f (kas_asc p (n-1) 1)==n)=true then KasT.ret (run f (kas_asc p (n-1) 1),p)else if run f (kas_asc p (n-1) 1)>1 then .ask (p.getD 0 0) (p.getD (run f (kas_asc p (n-1) 1)-1) 0) λc=>if c=true then .ret (run f (kas_asc p (n-1) 1),p)else kas_descPart (run f (kas_asc p (n-1) 1)) n (kas_rev p 0 (run f (kas_asc p (n-1) 1)))
  else kas_descPart (run f (kas_asc p (n-1) 1)) n p):=by
  unfold kas_count;rw[cA]
 rw[er];generalize run f (kas_asc p (n-1) 1)=m at a1 a2 a3 a4⊢
 by_cases e:m=n
 ·rw[if_pos (by simp[e])];exact⟨m,p,rfl,a1,by omega,r,a3⟩
 ·rw[if_neg (by simpa using e)]
  by_cases e1:m>1
  ·rw[if_pos e1];refine⟨m,p,?_,a1,by omega,r,a3⟩;show run f (if f (p.getD 0 0) (p.getD (m-1) 0)=true then KasT.ret (m,p)else _)=_
   rw[a3 0 (m-1) (by omega) (by omega),if_pos rfl];rfl
  ·rw[if_neg e1];have em:m=1:=by omega
   subst em;have hd:=a4 (by omega);unfold kas_descPart;obtain⟨m',b1,b2,b3,b4⟩:=iD O r (n-(1+1)) (1+1) (by omega) (by omega) (by
    intro i j hij hj;have:i=0∧j=1:=by omega
    rw[this.1,this.2];exact hd)
   rw[cA,b1];dsimp only;rw[if_neg (by omega)];unfold kas_tail3;have hs:=r.size;have ur:=sq (f:=f) (by omega:m'≤p.size) b4;obtain⟨c1,c2,c3,c4⟩:=iC O (r.rev 0 m') (n-m') m' (by omega) (by omega) ur;rw[cA];exact⟨_,_,rfl,by omega,by omega,r.rev 0 m',c3⟩
theorem dU(O:Ord f n){p:Array Nat}(r:Row n p){k:Nat}(hk:k<n)(u:Up f p k):∀(fuel l r':Nat),r'-l≤fuel→l≤r'→r'≤k →
  (∀i,i<l→f (p.getD i 0) (p.getD k 0)=true)→(∀i,r'≤i→i<k→f (p.getD k 0) (p.getD i 0)=true) →
  run f (kas_place p k fuel l r')≤k∧(∀i,i<run f (kas_place p k fuel l r')→f (p.getD i 0) (p.getD k 0)=true)∧(∀i,run f (kas_place p k fuel l r')≤i→i<k→f (p.getD k 0) (p.getD i 0)=true)
 |0,l,r',h1,h2,h3,h4,h5=>by
  have:l=r':=by omega
  subst this;exact⟨h3,h4,h5⟩
 |fuel+1,l,r',h1,h2,h3,h4,h5=>by
  unfold kas_place
  by_cases e:l≥r'
  ·rw[if_pos e];have:l=r':=by omega
   subst this;exact⟨h3,h4,h5⟩
  ·rw[if_neg e];have hmid:(l+r') / 2<k:=by omega
   cases c:f (p.getD k 0) (p.getD ((l+r') / 2) 0)with
   |true =>
    have er:run f (KasT.ask (p.getD k 0) (p.getD ((l+r') / 2) 0) λc=>if c=true then kas_place p k fuel l ((l+r') / 2)else kas_place p k fuel ((l+r') / 2+1) r')=run f (kas_place p k fuel l ((l+r') / 2)):=by
     show run f (if f (p.getD k 0) (p.getD ((l+r') / 2) 0)=true then _ else _)=_
     rw[c,if_pos rfl]
    rw[er];refine dU O r hk u fuel l _ (by omega) (by omega) (by omega) h4 (λi hi hik=>?_)
    by_cases ei:i=(l+r') / 2
    ·rw[ei];exact c
    ·exact O.tr _ _ _ (r.lt hk) (r.lt (i:=(l+r') / 2) (by omega)) (r.lt (by omega)) c (u _ _ (by omega) hik)
   |false =>
    have er:run f (KasT.ask (p.getD k 0) (p.getD ((l+r') / 2) 0) λc=>if c=true then kas_place p k fuel l ((l+r') / 2)else kas_place p k fuel ((l+r') / 2+1) r')=run f (kas_place p k fuel ((l+r') / 2+1) r'):=by
     show run f (if f (p.getD k 0) (p.getD ((l+r') / 2) 0)=true then _ else _)=_
     rw[c,if_neg (by simp)]
    rw[er];have c':f (p.getD ((l+r') / 2) 0) (p.getD k 0)=true:=by
     rcases O.tot _ _ (r.lt (i:=k) hk) (r.lt (i:=(l+r') / 2) (by omega)) (r.ne hk (by omega) (by omega))with z|z
     ·rw[c]at z;cases z
     ·exact z
    refine dU O r hk u fuel _ r' (by omega) (by omega) h3 (λi hi=>?_) h5
    by_cases ei:i=(l+r') / 2
    ·rw[ei];exact c'
    ·exact O.tr _ _ _ (r.lt (by omega)) (r.lt (i:=(l+r') / 2) (by omega)) (r.lt hk) (u i _ (by omega) (by omega)) c'
theorem fq{p:Array Nat}{k l:Nat}(hk:k<p.size)(hl:l≤k)(i:Nat):(bubble p k (k-l)).getD i 0=if i=l then p.getD k 0 else if l<i∧i≤k then p.getD (i-1) 0 else p.getD i 0:=by
 simp only[getD_eq_getD_getElem?];rw[getElem?_bubble hk (k-l) (by omega) i];have e:k-(k-l)=l:=by omega
 rw[e]
 by_cases h1:i=l
 ·rw[if_pos h1,if_pos h1]
 ·rw[if_neg h1,if_neg h1]
  by_cases h2:l<i∧i≤k
  ·rw[if_pos h2,if_pos h2]
  ·rw[if_neg h2,if_neg h2]
theorem oe(O:Ord f n):∀(fuel:Nat)(p:Array Nat)(k:Nat),Row n p→k+fuel=n→Up f p k→Row n (run f (kas_bin fuel p k))∧Up f (run f (kas_bin fuel p k)) n
 |0,p,k,r,hk,u=>by
  have:k=n:=by omega
  subst this;exact⟨r,u⟩
 |fuel+1,p,k,r,hk,u=>by
  have hkn:k<n:=by omega
  obtain⟨a1,a2,a3⟩:=dU O r hkn u k 0 k (by omega) (by omega) (le_refl _) (λi hi=>by omega) (λi h1 h2=>by omega);have er:run f (kas_bin (fuel+1) p k)=run f (kas_bin fuel (bubble p k (k-run f (kas_place p k k 0 k))) (k+1)):=by
   show run f ((kas_place p k k 0 k).bind λl=>kas_bin fuel (bubble p k (k-l)) (k+1))=_;rw[cA]
  rw[er];generalize run f (kas_place p k k 0 k)=l at a1 a2 a3⊢;have hs:=r.size;refine oe O fuel _ (k+1) (r.bub _ _) (by omega) ?_;intro i j hij hj;rw[fq (by omega) a1 i,fq (by omega) a1 j]
  by_cases ei:i=l
  ·rw[if_pos ei,if_neg (by omega),if_pos ⟨by omega,by omega⟩];exact a3 (j-1) (by omega) (by omega)
  ·rw[if_neg ei]
   by_cases ej:j=l
   ·rw[if_pos ej,if_neg (by omega)];exact a2 i (by omega)
   ·rw[if_neg ej]
    by_cases hi2:l<i∧i≤k
    ·rw[if_pos hi2,if_pos ⟨by omega,by omega⟩];exact u _ _ (by omega) (by omega)
    ·rw[if_neg hi2]
     by_cases hj2:l<j∧j≤k
     ·rw[if_pos hj2]
      by_cases e3:i=j-1
      ·omega
      ·exact u i (j-1) (by omega) (by omega)
     ·rw[if_neg hj2];exact u i j hij (by omega)
theorem fQ{p:Array Nat}(r:Row n p):∀(fuel m:Nat),1≤m→m+fuel≤n→path f n (kas_asc p fuel m)
 |0,m,_,_=>trivial
 |fuel+1,m,h1,hm=>by
  refine⟨r.lt (by omega),r.lt (by omega),?_⟩;show path f n (if f (p.getD m 0) (p.getD (m-1) 0)=true then KasT.ret m else kas_asc p fuel (m+1))
  split
  ·exact trivial
  ·exact fQ r fuel (m+1) (by omega) (by omega)
theorem hJ(O:Ord f n){p:Array Nat}(r:Row n p):∀(fuel m:Nat),1≤m→m+fuel≤n→path f n (kas_desc fuel p m 0)
 |0,m,_,_=>trivial
 |fuel+1,m,h1,hm=>by
  refine⟨r.lt (by omega),r.lt (by omega),?_⟩;show path f n (if f (p.getD m 0) (p.getD (m-1) 0)=true then (if 0>0 then _ else kas_desc fuel p (m+1) 0)else KasT.ask (p.getD (m-1) 0) (p.getD m 0) λd=>if d=true then .ret (p,m,0)else kas_desc fuel p (m+1) (0+1))
  cases e:f (p.getD m 0) (p.getD (m-1) 0)with
  |true =>
   rw[if_pos rfl,if_neg (by omega)];exact hJ O r fuel (m+1) (by omega) (by omega)
  |false =>
   rw[if_neg (by simp)];have e2:f (p.getD (m-1) 0) (p.getD m 0)=true:=by
    rcases O.tot _ _ (r.lt (i:=m) (by omega)) (r.lt (i:=m-1) (by omega)) (r.ne (by omega) (by omega) (by omega))with z|z
    ·rw[e]at z;cases z
    ·exact z
   refine⟨r.lt (by omega),r.lt (by omega),?_⟩;dsimp only;rw[e2,if_pos rfl];exact trivial
theorem kh(O:Ord f n){p:Array Nat}(r:Row n p)(h2:1≤n):path f n (kas_count n p):=by
 obtain⟨a1,a2,a3,a4⟩:=iC O r (n-1) 1 (by omega) (by omega) (by intro i j hij hj;omega);unfold kas_count;refine cc (fQ r _ _ (by omega) (by omega)) ?_;generalize run f (kas_asc p (n-1) 1)=m at a1 a2 a3 a4⊢
 by_cases e:m=n
 ·rw[if_pos (by simp[e])];exact trivial
 ·rw[if_neg (by simpa using e)]
  by_cases e1:m>1
  ·rw[if_pos e1];refine⟨r.lt (by omega),r.lt (by omega),?_⟩;dsimp only;rw[a3 0 (m-1) (by omega) (by omega),if_pos rfl];exact trivial
  ·rw[if_neg e1];have em:m=1:=by omega
   subst em;have hd:=a4 (by omega);unfold kas_descPart;refine cc (hJ O r _ _ (by omega) (by omega)) ?_;obtain⟨m',b1,b2,b3,b4⟩:=iD O r (n-(1+1)) (1+1) (by omega) (by omega) (by
    intro i j hij hj;have:i=0∧j=1:=by omega
    rw[this.1,this.2];exact hd)
   rw[b1];dsimp only;rw[if_neg (by omega)];unfold kas_tail3;exact cc (fQ (r.rev 0 m') _ _ (by omega) (by omega)) trivial
theorem dz{p:Array Nat}(r:Row n p){k:Nat}(hk:k<n):∀(fuel l r':Nat),r'≤k→path f n (kas_place p k fuel l r')
 |0,l,r',_=>trivial
 |fuel+1,l,r',h=>by
  unfold kas_place
  by_cases e:l≥r'
  ·rw[if_pos e];exact trivial
  ·rw[if_neg e];refine⟨r.lt hk,r.lt (by omega),?_⟩;dsimp only
   split
   ·exact dz r hk fuel _ _ (by omega)
   ·exact dz r hk fuel _ _ h
theorem jj(O:Ord f n):∀(fuel:Nat)(p:Array Nat)(k:Nat),Row n p→k+fuel=n→Up f p k→path f n (kas_bin fuel p k)
 |0,p,k,r,hk,u=>trivial
 |fuel+1,p,k,r,hk,u=>by
  have hkn:k<n:=by omega
  show path f n ((kas_place p k k 0 k).bind λl=>kas_bin fuel (bubble p k (k-l)) (k+1));refine cc (dz r hkn _ _ _ (le_refl _)) ?_;obtain⟨a1,a2,a3⟩:=dU O r hkn u k 0 k (by omega) (by omega) (le_refl _) (λi hi=>by omega) (λi h1 h2=>by omega);generalize run f (kas_place p k k 0 k)=l at a1 a2 a3⊢;have hs:=r.size;refine jj O fuel _ (k+1) (r.bub _ _) (by omega) ?_;intro i j hij hj;rw[fq (by omega) a1 i,fq (by omega) a1 j]
  by_cases ei:i=l
  ·rw[if_pos ei,if_neg (by omega),if_pos ⟨by omega,by omega⟩];exact a3 (j-1) (by omega) (by omega)
  ·rw[if_neg ei]
   by_cases ej:j=l
   ·rw[if_pos ej,if_neg (by omega)];exact a2 i (by omega)
   ·rw[if_neg ej]
    by_cases hi2:l<i∧i≤k
    ·rw[if_pos hi2,if_pos ⟨by omega,by omega⟩];exact u _ _ (by omega) (by omega)
    ·rw[if_neg hi2]
     by_cases hj2:l<j∧j≤k
     ·rw[if_pos hj2]
      by_cases e3:i=j-1
      ·omega
      ·exact u i (j-1) (by omega) (by omega)
     ·rw[if_neg hj2];exact u i j hij (by omega)
theorem mv(O:Ord f n)(h:1≤n):path f n (kas_sort n):=by
 have r0:Row n (toArray (List.range n)):=⟨by simp⟩;obtain⟨m,p',e,h1,h2,r,u⟩:=ji O r0 h;unfold kas_sort;refine cc (kh O r0 h) ?_;rw[e];dsimp only
 by_cases hm:m<n
 ·rw[if_pos hm];have:max m 1=m:=by omega
  rw[this];exact jj O (n-m) p' m r (by omega) u
 ·rw[if_neg hm];exact trivial
theorem qk(O:Ord f n)(h:1≤n):Row n (run f (kas_sort n))∧Up f (run f (kas_sort n)) n:=by
 have r0:Row n (toArray (List.range n)):=⟨by simp⟩;obtain⟨m,p',e,h1,h2,r,u⟩:=ji O r0 h;unfold kas_sort;rw[cA,e];dsimp only
 by_cases hm:m<n
 ·rw[if_pos hm];have:max m 1=m:=by omega
  rw[this];exact oe O (n-m) p' m r (by omega) u
 ·rw[if_neg hm];have:m=n:=by omega
  subst this;exact⟨r,u⟩
end
section
variable{prog:Program}{w:World}{A:Around}{E:Value→Shared→Prop}{s:Shared}
theorem ql{vs:List Value}(h:vs.length<2):((vs.toArray.zip vs.toArray).map (·.2)).toList=(toArray ((toArray (List.range vs.length)).toList.map λi=>vs.getD i Value.none)).toList:=by
 cases vs with
 |nil=>simp
 |cons v r =>
  cases r with
  |nil=>simp
  |cons u r=>exact absurd h (by simp)
theorem dW{f:Nat→Nat→Bool}{a:Addr}{vs:List Value}{n:Nat}{κ:SortKind}{P:PySem.Fin→Shared→Prop}(O:Ord f vs.length)(ho:s.heap.get? a=some (seqObj "list" vs.toArray n))(h64:vs.length<64)(hk:∀s':Shared,(∀b o,b≠a→s.heap.get? b=some o→s'.heap.get? b=some o)→∀Q:SortKind→Shared→Prop,2≤vs.length→Q κ s'→wpAny (model prog w) A (keyKind' vs.toArray) Q (λ_ _=>False) s')(hlt:∀s':Shared,(∀b o,b≠a→s.heap.get? b=some o→s'.heap.get? b=some o)→∀(i j:Nat) (C:Bool→Shared→Prop),i<vs.length→j<vs.length→C (f i j) s'→wpAny (model prog w) A (keyLt' κ (vs.getD i Value.none) (vs.getD j Value.none)) C (λ_ _=>False) s')(h:∀p:Array Nat,Row vs.length p→Up f p vs.length→P (.done (.ret .none)) {s with heap:=sortedHeap s.heap a vs (toArray (p.toList.map λi=>vs.getD i Value.none))}):
  wpAny (model prog w) A (Builtin.«list.sort» ⟨[.ref a],[]⟩) P E s:=by
 have ha:a<s.heap.objs.size:=lt_size ho;have s1:=SameBut.update s.heap a (Obj.mapSeq λ_=>(#[]:Array Value));obtain⟨e1,ho1⟩:∃e1,(s.heap.update a (Obj.mapSeq λ_=>(#[]:Array Value))).get? a=some (seqObj "list" #[] e1):=⟨_,get?_update_seq ho λ_=>#[]⟩;rw[list_sort_plain];refine wpAny_bind (listItems_at ho rfl ?_);refine wpAny_bind (listUpdate_at ho rfl ?_ (by rw[size_toArray,sizeLine_eq];omega) (zero_le _));refine wpAny_bind (seqEpoch_at ho1 rfl ?_);refine wpAny_bind (wpAny_newTuple ?_ (by show vs.length≤_;rw[sizeLine_eq];omega));refine wpAny_bind (wpAny_newList ?_ (zero_le _));refine wpAny_holding ?_;have ho6:(((s.heap.update a (Obj.mapSeq λ_=>(#[]:Array Value))).push (seqObj "tuple" vs.toArray 0)).push (seqObj "list" #[] 0)).get? a=some (seqObj "list" #[] e1):=get?_push_of_some _ (get?_push_of_some _ ho1);have keep:∀b o,b≠a→s.heap.get? b=some o→(((s.heap.update a (Obj.mapSeq λ_=>(#[]:Array Value))).push (seqObj "tuple" vs.toArray 0)).push (seqObj "list" #[] 0)).get? b=some o:=λb o hb e =>
  get?_push_of_some _ (get?_push_of_some _ ((s1.2 b hb).trans e))
 show wpAny (model prog w) A _ P E {s with heap:=((s.heap.update a (Obj.mapSeq λ_=>(#[]:Array Value))).push (seqObj "tuple" vs.toArray 0)).push (seqObj "list" #[] 0)}
 dsimp only
 by_cases hn2:vs.toArray.size<2
 ·rw[if_pos hn2,if_pos hn2];refine wpAny_bind (wpAny_pure ?_);rw[StateT.run_pure];refine wpAny_bind (wpAny_pure ?_);dsimp only;have hn2':vs.length<2:=by simpa using hn2
  have hr:Row vs.length (toArray (List.range vs.length)):=⟨by simp⟩;have hu:Up f (toArray (List.range vs.length)) vs.length:=λi j hij hj=>by omega
  have e2:(arrOf (SortSt.mk' general' (vs.toArray.zip vs.toArray) #[] 7 none)).map (·.2)=toArray ((toArray (List.range vs.length)).toList.map λi=>vs.getD i Value.none):=by
   show(vs.toArray.zip vs.toArray).map (·.2)=_;apply toList_inj.mp;exact ql hn2'
  refine wpAny_bind (seqEpoch_at ho6 rfl ?_);rw[e2];refine wpAny_bind (listUpdate_at ho6 rfl ?_ (zero_le _) (by rw[size_toArray,length_map,length_toList,hr.size,sizeLine_eq];omega));show wpAny _ _ (if (e1 != e1)=true then _ else _) _ _ _
  simp only[bne_self_eq_false,false_eq_true,if_false];exact wpAny_pure (h _ hr hu)
 ·have hn2':2≤vs.length:=by rw[size_toArray]at hn2;omega
  rw[if_neg hn2,if_neg hn2];refine wpAny_bind (wpAny_mono (hk {s with heap:=((s.heap.update a (Obj.mapSeq λ_=>(#[]:Array Value))).push (seqObj "tuple" vs.toArray 0)).push (seqObj "list" #[] 0)} keep (λk' s'=>k'=κ∧s'={s with heap:=((s.heap.update a (Obj.mapSeq λ_=>(#[]:Array Value))).push (seqObj "tuple" vs.toArray 0)).push (seqObj "list" #[] 0)}) hn2' ⟨rfl,rfl⟩) (λκ' s0 hes=>?_) λ_ _ x=>x.elim)
  obtain⟨ek,es⟩:=hes;subst ek es;obtain⟨hrow,hup⟩:=qk O (by omega:1≤vs.length);refine wpAny_bind (wpAny_mono (kat_run (Q:=λst' s'=>∃p:Array Nat,p.size=vs.length∧arrOf st'=p.map (kas_item (vs.toArray.zip vs.toArray))∧failedOf st'=none∧p=run f (kas_sort vs.length)∧s'={s with heap:=((s.heap.update a (Obj.mapSeq λ_=>(#[]:Array Value))).push (seqObj "tuple" vs.toArray 0)).push (seqObj "list" #[] 0)})
   rfl hn2' h64 (λp' st' s' a1 a2 a3 a4=>⟨p',a1,a2,a3,a4⟩) (lJ (n:=vs.length) (λi j C hi hj hC=>hlt _ keep i j C hi hj hC) (λp s'=>p=run f (kas_sort vs.length)∧s'={s with heap:=((s.heap.update a (Obj.mapSeq λ_=>(#[]:Array Value))).push (seqObj "tuple" vs.toArray 0)).push (seqObj "list" #[] 0)}) _ (mv O (by omega)) ⟨rfl,rfl⟩)) ?_ λ_ _ e=>e)
  rintro⟨⟨⟩,st'⟩ s' ⟨p,hp,har,hf,ep,es⟩;subst es;dsimp only;have hout:=kat_snds (ks:=vs) rfl har;refine wpAny_bind (seqEpoch_at ho6 rfl ?_);rw[hout];refine wpAny_bind (listUpdate_at ho6 rfl ?_ (zero_le _) (by rw[size_toArray,length_map,length_toList,hp,sizeLine_eq];omega));rw[hf];simp only[bne_self_eq_false,false_eq_true,if_false];rw[ep];exact wpAny_pure (h _ hrow hup)
theorem jk{l:Addr}{vs:List Value}{Q:List Value→Shared→Prop}(hl:IsTup s.heap l vs.toArray)(h:Q vs {s with heap:=(s.heap.push (seqObj "list" #[] 0)).update s.heap.objs.size (Obj.mapSeq (· ++ vs.toArray))})(hsz:vs.length≤sizeLine):
  wpAny (model prog w) A (collect (.ref l)) Q E s:=by
 obtain⟨o,ho,hc,n,hd⟩:=id hl;unfold collect;refine wpAny_bind (wpAny_runValue (codeAny_builtin entry_proto_collect' ?_));show wpAny _ _ (do again (.builtin "list.__iadd__" ⟨[←newList [],.ref l],[]⟩)) _ _ s
 refine wpAny_bind (wpAny_newList (wpAny_pure ⟨Code.quiet_builtin _ (by decide +kernel),codeAny_builtin entry_list_iadd' ?_⟩));show wpAny _ _ (Builtin.List.listExtendWith (.ref s.heap.objs.size) (.ref l) (.ref s.heap.objs.size)) _ _ {s with heap:=s.heap.push (seqObj "list" #[] 0)}
 unfold Builtin.List.listExtendWith;have ho':(s.heap.push (seqObj "list" #[] 0)).get? l=some o:=get?_push_of_some _ ho;refine wpAny_bind (wpAny_typeOf (T:="tuple") ⟨o,ho',hc⟩ ?_);have ht:(Value.type "tuple"==Value.type "tuple")=true:=by rfl
 rw[if_pos (by rw[ht];simp)];refine wpAny_bind (listItems_at ho' hd ?_);refine wpAny_bind (listItems_at (xs:=#[]) (n:=0) (get?_push_size _ rfl) rfl ?_);rw[if_neg (by simp)];refine wpAny_bind (listUpdate_at (xs:=#[]) (n:=0) (get?_push_size _ rfl) rfl ?_ (zero_le _) (by show(#[]++vs.toArray).size≤sizeLine+1;simp only[Array.size_append,size_toArray,length_nil];omega));refine wpAny_pure ?_;show wpAny (model prog w) A (do
   let o ← load s.heap.objs.size
   match o.data with
   |.seq xs _=>pure xs.toList
   | _=>unsupported "internal:collect") Q E {s with heap:=(s.heap.push (seqObj "list" #[] 0)).update s.heap.objs.size (Obj.mapSeq (· ++ vs.toArray))}
 refine wpAny_bind (wpAny_load (get?_update_seq (get?_push_size _ rfl) _) ?_);show wpAny _ _ (pure ((#[]:Array Value)++vs.toArray).toList) Q E _;rw[show((#[]:Array Value)++vs.toArray).toList=vs by simp];exact wpAny_pure h
theorem jl{l:Addr}{vs:List Value}{Q:List Value→Shared→Prop}(hl:s.heap.IsList l vs.toArray∨IsTup s.heap l vs.toArray)(h:Q vs {s with heap:=(s.heap.push (seqObj "list" #[] 0)).update s.heap.objs.size (Obj.mapSeq (· ++ vs.toArray))})(hsz:vs.length≤sizeLine):
  wpAny (model prog w) A (collect (.ref l)) Q E s:=by
 rcases hl with hl|hl
 ·exact collect_list hl h hsz
 ·exact jk hl h hsz
theorem fT{f:Nat→Nat→Bool}{l:Addr}{vs:List Value}{κ:SortKind}{Q:Value→Shared→Prop}(O:Ord f vs.length)(hl:s.heap.IsList l vs.toArray∨IsTup s.heap l vs.toArray)(h64:vs.length<64)(hk:∀(A':Around) (s':Shared),A'.units≤A.units+2→(∀b o,s.heap.get? b=some o→s'.heap.get? b=some o)→∀Q:SortKind→Shared→Prop,2≤vs.length→Q κ s'→wpAny (model prog w) A' (keyKind' vs.toArray) Q (λ_ _=>False) s')(hlt:∀(A':Around) (s':Shared),A'.units≤A.units+2→(∀b o,s.heap.get? b=some o→s'.heap.get? b=some o)→∀(i j:Nat) (C:Bool→Shared→Prop),i<vs.length→j<vs.length→C (f i j) s'→wpAny (model prog w) A' (keyLt' κ (vs.getD i Value.none) (vs.getD j Value.none)) C (λ_ _=>False) s')(h:∀(p:Array Nat) (h':Heap),Row vs.length p→Up f p vs.length→(∀b o,s.heap.get? b=some o→h'.get? b=some o)→s.heap.objs.size≤s.heap.objs.size+1→(∃k,h'.get? (s.heap.objs.size+1)=some (seqObj "list" (toArray (p.toList.map λi=>vs.getD i Value.none)) k))→Q (.ref (s.heap.objs.size+1)) {s with heap:=h'}):
  wpAny (model prog w) A (call (.builtin "sorted") [.ref l]) Q E s:=by
 refine Calls.call_function_entry kind_sorted plain_sorted entry_sorted (args_sorted1 _) ?_;unfold Builtin.«sorted»;refine wpAny_bind (m:=checkCount "sorted" 1 1 _) (wpAny_pure ?_);refine wpAny_bind (jl hl ?_ (by rw[sizeLine_eq];omega));refine wpAny_bind (wpAny_newList ?_ (by rw[sizeLine_eq];omega));have hsz:((s.heap.push (seqObj "list" #[] 0)).update s.heap.objs.size (Obj.mapSeq (· ++ vs.toArray))).objs.size=s.heap.objs.size+1:=by
  rw[Heap.size_update,size_push']
 have hoL:(((s.heap.push (seqObj "list" #[] 0)).update s.heap.objs.size (Obj.mapSeq (· ++ vs.toArray))).push (seqObj "list" vs.toArray 0)).get? (s.heap.objs.size+1)=some (seqObj "list" vs.toArray 0):=by
  rw[←hsz];exact get?_push_size _ rfl
 have keep:∀b o,s.heap.get? b=some o→(((s.heap.push (seqObj "list" #[] 0)).update s.heap.objs.size (Obj.mapSeq (· ++ vs.toArray))).push (seqObj "list" vs.toArray 0)).get? b=some o:=λb o q=>by
  have hlt:b<s.heap.objs.size:=lt_size q;rw[Heap.get?_push_ne _ _ _ (by rw[hsz];exact ne_of_lt (lt_succ_of_lt hlt)),get?_update_ne _ _ _ _ (ne_of_lt hlt),Heap.get?_push_ne _ _ _ (ne_of_lt hlt)];exact q
 have neD:∀b o,s.heap.get? b=some o→b≠s.heap.objs.size+1:=λb o q=>ne_of_lt (lt_succ_of_lt (lt_size q));show wpAny _ _ _ _ _ {s with heap:=((s.heap.push (seqObj "list" #[] 0)).update s.heap.objs.size (Obj.mapSeq (· ++ vs.toArray))).push (seqObj "list" vs.toArray 0)}
 rw[hsz];refine wpAny_bind (wpAny_holding (wpAny_call_entry slot_list_sort ⟨_,hoL,rfl⟩ entry_list_sort (dW (κ:=κ) (s:={s with heap:=((s.heap.push (seqObj "list" #[] 0)).update s.heap.objs.size (Obj.mapSeq (· ++ vs.toArray))).push (seqObj "list" vs.toArray 0)}) O hoL h64 ?_ ?_ λp hr hu=>⟨_,rfl,?_⟩) (args_list_sort _)))
 ·intro s' hs' Q' h2 hq;exact hk _ s' (by simp[Around.in1_units]) (λb o e=>hs' b o (neD b o e) (keep b o e)) Q' h2 hq
 ·intro s' hs' i j C hi hj hC;exact hlt _ s' (by simp[Around.in1_units]) (λb o e=>hs' b o (neD b o e) (keep b o e)) i j C hi hj hC
 ·refine wpAny_pure ⟨_,rfl,h p _ hr hu (λb o e=>?_) (le_succ _) ?_⟩
  ·unfold sortedHeap;rw[get?_update_ne _ _ _ _ (neD b o e)];refine get?_push_of_some _ (get?_push_of_some _ ?_);rw[get?_update_ne _ _ _ _ (neD b o e)];exact keep b o e
  ·unfold sortedHeap;obtain⟨e1,ho1⟩:∃e1,((((s.heap.push (seqObj "list" #[] 0)).update s.heap.objs.size (Obj.mapSeq (· ++ vs.toArray))).push (seqObj "list" vs.toArray 0)).update (s.heap.objs.size+1) (Obj.mapSeq λ_=>(#[]:Array Value))).get? (s.heap.objs.size+1)=some (seqObj "list" #[] e1):=⟨_,get?_update_seq hoL λ_=>#[]⟩;exact⟨_,get?_update_seq (get?_push_of_some _ (get?_push_of_some _ ho1)) _⟩
theorem mw{f:Nat→Nat→Bool}{l:Addr}{vs:List Value}{κ:SortKind}{Q:Value→Shared→Prop}(O:Ord f vs.length)(hl:s.heap.IsList l vs.toArray)(h64:vs.length<64)(hk:∀(A':Around) (s':Shared),A'.units≤A.units+2→(∀b o,s.heap.get? b=some o→s'.heap.get? b=some o)→∀Q:SortKind→Shared→Prop,2≤vs.length→Q κ s'→wpAny (model prog w) A' (keyKind' vs.toArray) Q (λ_ _=>False) s')(hlt:∀(A':Around) (s':Shared),A'.units≤A.units+2→(∀b o,s.heap.get? b=some o→s'.heap.get? b=some o)→∀(i j:Nat) (C:Bool→Shared→Prop),i<vs.length→j<vs.length→C (f i j) s'→wpAny (model prog w) A' (keyLt' κ (vs.getD i Value.none) (vs.getD j Value.none)) C (λ_ _=>False) s')(h:∀(p:Array Nat) (h':Heap),Row vs.length p→Up f p vs.length→(∀b o,s.heap.get? b=some o→h'.get? b=some o)→s.heap.objs.size≤s.heap.objs.size+1→(∃k,h'.get? (s.heap.objs.size+1)=some (seqObj "list" (toArray (p.toList.map λi=>vs.getD i Value.none)) k))→Q (.ref (s.heap.objs.size+1)) {s with heap:=h'}):
  wpAny (model prog w) A (call (.builtin "sorted") [.ref l]) Q E s:=fT O (.inl hl) h64 hk hlt h
end
end SRT
namespace L2
open PySem PySem.Spec PyProof.Rows
section
variable{X:Cx}{tg:Expr}
theorem og{pins:List (Addr×Obj)}{σ:St}{H:Hp}{s:Shared}{a:Addr}{ks:List Key}(I:Inv X pins σ H s)(h:H a=some (.tup (ks.map kV)))(P:Program)(w:World):IsTupleKey (ak P w) s.heap ks a:=by
 obtain⟨_,its,r,o,e,c,n,d⟩:=I.hok a _ h;exact⟨o,its.toArray,n,e,c,d,by simpa using eL r⟩
theorem cB:∀{as:List Addr}{us:List Value},aq (as.map V.ref) us→us=as.map Value.ref
 |[],_,.nil=>rfl
 |b::bs,_,.cons r t=>by
  have e:_=Value.ref b:=r;rw[e,cB t];rfl
theorem gC(hu:X.A.units+1<cLine):OpR X (compareOp .NotIn) (λx y H Q=>∃a p ks,∃kss:List (Addr×List Key),x=.ref a∧H a=some (.tup (ks.map kV))∧y=.ref p∧SqL X.K H p ((kss.map (·.1)).map V.ref) ∧
  (∀z∈kss,H z.1=some (.tup (z.2.map kV)))∧Q (.bl (!(kss.any λz=>decide (z.2=ks)))) H):=by
 intro pins s σ H x y v u Q I rx ry h;obtain⟨a,p,ks,kss,rfl,ha,rfl,hq,hk,q⟩:=h;cases rx;cases ry;obtain⟨its,rv,pl,hz⟩:=I.list hq;have e:=cB rv;subst e
 let e:Value→Bool:=λv=>match v with | .ref b=>((kss.find? λz=>z.1==b).map λz=>decide (z.2=ks)).getD false | _=>false
 have he:∀z∈kss,e (.ref z.1)=decide (z.2=ks):=λz hz'=>by
  show((kss.find? λy=>y.1==z.1).map λz=>decide (z.2=ks)).getD false=_;cases ef:kss.find? λy=>y.1==z.1 with
  |none=>have:=List.find?_eq_none.mp ef z hz';simp at this
  |some y =>
   have h1:=find?_some ef;have h2:=List.mem_of_find?_eq_some ef;have e1:y.1=z.1:=by simpa using h1
   have e2:=hk y h2;rw[e1,hk z hz']at e2;have e3:z.2.map kV=y.2.map kV:=by injection (Option.some.inj e2)
   rw[lC e3];rfl
 refine SeqAt.notIn_listAt e pl.isList (λy hy=>?_) ⟨.bl _,H,I,rfl,?_⟩
 ·have hy':y∈(kss.map (·.1)).map Value.ref:=by simpa using hy
  obtain⟨b,hb,rfl⟩:=mem_map.mp hy';obtain⟨z,hz',rfl⟩:=mem_map.mp hb;rw[he z hz'];intro prog w E' Q' hQ;exact wpAny_eqBool_tuple (knd:=ak prog w) (by simp;exact hu) (og I (hk z hz') prog w) (og I ha prog w) hQ
 ·have e1:(((kss.map (·.1)).map Value.ref).toArray.any e)=kss.any λz=>decide (z.2=ks):=by
   rw[List.any_toArray,any_map,any_map];apply Bool.eq_iff_iff.mpr;rw[any_eq_true,any_eq_true];constructor
   ·rintro⟨z,hz',h1⟩;exact⟨z,hz',by rw[←he z hz'];exact h1⟩
   ·rintro⟨z,hz',h1⟩;exact⟨z,hz',by show e (.ref z.1)=true;rw[he z hz'];exact h1⟩
  rw[e1];exact q
def qm:V→List V→Hp→VK→Prop:=λx vs H Q=>∃d kvs k y,x=.ref d∧vs=[kV k,y]∧H d=some (.dK kvs)∧kvs.length<sizeLine∧(∀v,aE kvs k=some v→Q v H)∧(aE kvs k=none→Q y (upd H d (.dK (cz kvs k y))))
theorem gD:MtM X "dict.setdefault" qm:=by
 intro pins s σ H x vs v us Q I rx rv h;obtain⟨d,kvs,k,y,rfl,rfl,hd,hz,q1,q2⟩:=h;cases rx;obtain⟨u,u',rfl,ru,ru'⟩:=rv.two;obtain⟨z,hs,ws,rel,dd⟩:=nK I.hok hd;have hzw:ws.length≤sizeLine:=by rw[←rel.length];exact z
 refine call_meetsIn F.slot_dict_setdefault dd.typeIs F.entry_dict_setdefault (F.args_dict_setdefault_3 _ _ _) (kt_meets_setdefault (ak X.prog X.w) d (dh ru) hs u') ⟨ws,dd,hzw,λw' hw=>?_,λhw h' dd' sb=>?_⟩
 ·have:=rel.val k;rw[hw]at this;cases e:aE kvs k with
  |none=>rw[e]at this;cases this
  |some v =>
   rw[e]at this;exact⟨v,H,I.tok _,this,q1 v e⟩
 ·have:=rel.val k;rw[hw]at this;cases e:aE kvs k with
  |some v=>rw[e]at this;cases this
  |none =>
   have he:∃q,h'.get? d=some q:=let⟨q,_,_,hq,_⟩:=dd';⟨q,hq⟩;have hl:(cz kvs k y).length≤sizeLine:=by have:=bj kvs k y;omega
   exact⟨y,_,fo I (by rw[hd];exact True.intro) sb he (iz hl hs (rel.put k ru') dd'),ru',q2 e⟩
theorem hV:bZ X (.type "range") (λxs H Q=>∃i j,xs=[.int i,.int j]∧∀p,H p=none→Q (.ref p) (upd H p (.rng i j))):=by
 intro pins s σ H xs us Q I r h;obtain⟨i,j,rfl,q⟩:=h;obtain⟨u,u',rfl,⟨t,rfl⟩,⟨t',rfl⟩⟩:=rk r;refine call_range_2 ⟨.ref s.heap.objs.size,_,I.laid (t':=s.toks+1) (o:=.rng i j) (λb ob q=>get?_push_of_some _ q) (le_refl _) ?_,rfl,q _ (I.hok.fresh (le_refl _))⟩;exact⟨t,t',_,get?_push_size _ rfl⟩
theorem km{lo:Int}{n:Nat}{acc:Array Value}(h:ItemsOf (λi v=>∃t,v=.int (lo+i*1) t) acc n):aq ((List.range n).map λk=>V.int (lo+(k:Nat))) acc.toList:=by
 obtain⟨h1,h2⟩:=h;have key:∀(l:List Value)(k:Nat),(∀(i:Nat)(v:Value),l[i]?=some v→∃t,v=Value.int (lo+(k+i:Nat)) t)→aq ((range' k l.length).map λk=>V.int (lo+(k:Nat))) l:=by
  intro l
  induction l with
  |nil=>intro k _;exact .nil
  |cons v l ih =>
   intro k hv;rw[length_cons,List.range'_succ,map_cons];refine .cons ?_ (ih (k+1) λi w hw=>?_)
   ·obtain⟨t,e⟩:=hv 0 v rfl;exact⟨t,e⟩
   ·obtain⟨t,e⟩:=hv (i+1) w hw;exact⟨t,by rw[e,show k+(i+1)=k+1+i by omega]⟩
 have hl:acc.toList.length=n:=by simpa using h1
 have:=key acc.toList 0 λi v hv=>by
  have hv':acc[i]?=some v:=by simpa using hv
  obtain⟨t,e⟩:=h2 i v hv';exact⟨t,by rw[e,Int.mul_one,zero_add]⟩
 rw[hl]at this;rw[List.range_eq_range'];exact this
theorem dj(hc:X.calm=true):bZ X (.type "list") (λxs H Q=>∃p i j,xs=[.ref p]∧H p=some (.rng i j)∧(-(2 ^ 62)≤i∧i<2 ^ 62∧-(2 ^ 62)≤j∧j<2 ^ 62)∧(j-i).toNat≤1000 ∧
  ∀l,H l=none→Q (.ref l) (upd H l (.lst ((List.range (j-i).toNat).map λk=>V.int (i+(k:Nat)))))):=by
 intro pins s σ H xs us Q I r h;obtain⟨p,i,j,rfl,hp,⟨b1,b2,b3,b4⟩,hn,q⟩:=h;obtain⟨u,rfl,rx⟩:=cy r;cases rx;obtain⟨t,t',t'',e⟩:=(show aT X.prog X.w H s.heap p (.rng i j)from I.hok p _ hp);have hsz:Builtin.Range.rangeSize i j 1=((j-i).toNat:Nat):=by rw[rangeSize_one];split<;>omega
 refine call_list_range (n:=(j-i).toNat) (I.ok.hd hc) e (small_one b1 b2 b3 b4) hsz (by omega) λh' tk acc c' kp hg hi=>?_;refine⟨.ref s.heap.objs.size,_,I.laid (t':=tk) kp (le_refl _) (show aT X.prog X.w _ h' _ (.lst _)from⟨?_,acc.toList,c',km hi,by simpa using hg⟩),rfl,q _ (I.hok.fresh (le_refl _))⟩
 rw[length_map,length_range,sizeLine_eq];omega
theorem ko(hu:X.A.units<cLine):OpR X (compareOp .Eq) (λx y H Q=>∃a b xs,x=.ref a∧y=.ref b∧SqL X.K H a xs∧SqL X.K H b []∧Q (.bl (decide (xs=[]))) H):=by
 intro pins s σ H x y v u Q I rx ry h;obtain⟨a,b,xs,rfl,rfl,ha,hb,q⟩:=h;cases rx;cases ry;obtain⟨its,r1,ht,_⟩:=I.list ha;obtain⟨its2,r2,hb',_⟩:=I.list hb;cases r2
 by_cases e:xs=[]
 ·subst e;cases r1;refine eq_listAt (e:=λ_=>true) ht.isList hb'.isList rfl hu (λj h1 h2=>absurd h2 (by simp)) ⟨.bl _,H,I,?_,q⟩;rfl
 ·have e2:its≠[]:=λz=>e (r1.nil_iff.mp z);have e3:its.length≠0:=λz=>e2 (length_eq_zero_iff.mp z);refine SeqAt.eq_list_lengthsAt ht.isList hb'.isList (by simp[e3]) hu ⟨.bl _,H,I,?_,q⟩;show _=Value.bool _;simp[e]
end
end L2
namespace ZT
open PySem PySem.SeqAt
section
variable{prog:Program}{w:World}{A:Around}{E:Value→Shared→Prop}{s:Shared}
theorem kq{it t:Addr}{i:Nat}{items:Array Value}{x:Value}{Q:Value→Shared→Prop}(hi:s.heap.IsTupleIter it t i)(ht:s.heap.IsTuple t items)(hx:items[i]?=some x)(q:∀g,g.IsTupleIter it t (i+1)→SameBut it s.heap g→Q x {s with heap:=g}):wpAny (model prog w) A (Builtin.SmallTypes.nextOf (.ref it)) Q E s:=by
 obtain⟨oi,e1,e2,e3⟩:=id hi;obtain⟨ot,e4,_,k,e5⟩:=ht;unfold Builtin.SmallTypes.nextOf;refine wpAny_bind (wpAny_callSpecial?_slot (name:=ofString "__next__") hi.typeIs F.slot_tuple_iterator_next (wpAny_call_entry F.slot_tuple_iterator_next hi.typeIs F.entry_tuple_iterator_next ?body (F.args_tuple_iterator_next_1 _)))
 case body =>
  refine wpAny_bind (m:=field (.ref it) 0) (wpAny_field e1 e3 (x:=.ref t) rfl ?_);rw[if_neg (show ¬((Value.ref t==Value.none)=true)by simp)];refine wpAny_bind (m:=field (.ref it) 1) (wpAny_field e1 e3 (x:=.int i 0) rfl ?_);refine wpAny_bind (m:=seqItems? (.ref t)) (wpAny_seqItems e4 e5 ?_);simp only[toNat_natCast,hx];have up:(Obj.mapFields (·.setIfInBounds 1 (rawInt ((i:Int)+1))) oi).data=.fields #[.ref t,.int ((i+1:Nat):Int) 0]:=by rw[Obj.data_mapFields e3];simp[rawInt]
  exact wpAny_bind (wpAny_setField e1 e3 (by simp) (wpAny_pure ⟨x,rfl,wpAny_pure (q _ ⟨_,get?_update_self _ e1 (Obj.isFreed_of_fields (Obj.data_mapFields e3 _)),(Obj.cls_mapFields ..).trans e2,up⟩ (SameBut.update ..))⟩))
theorem my{it t:Addr}{i:Nat}{items:Array Value}{Q:Value→Shared→Prop}(hh:A.handled=none)(hi:s.heap.IsTupleIter it t i)(ht:s.heap.IsTuple t items)(hx:items[i]?=none)(q:∀g e,ExtBut it s.heap g→(∃o,g.get? e=some o∧o.cls=.type "StopIteration")→E (.ref e) {s with heap:=g}):wpAny (model prog w) A (Builtin.SmallTypes.nextOf (.ref it)) Q E s:=by
 obtain⟨oi,e1,e2,e3⟩:=id hi;obtain⟨ot,e4,_,k,e5⟩:=ht;unfold Builtin.SmallTypes.nextOf;refine wpAny_bind (wpAny_callSpecial?_slot (name:=ofString "__next__") hi.typeIs F.slot_tuple_iterator_next (wpAny_call_entry F.slot_tuple_iterator_next hi.typeIs F.entry_tuple_iterator_next ?body (F.args_tuple_iterator_next_1 _)))
 case body =>
  refine wpAny_bind (m:=field (.ref it) 0) (wpAny_field e1 e3 (x:=.ref t) rfl ?_);rw[if_neg (show ¬((Value.ref t==Value.none)=true)by simp)];refine wpAny_bind (m:=field (.ref it) 1) (wpAny_field e1 e3 (x:=.int i 0) rfl ?_);refine wpAny_bind (m:=seqItems? (.ref t)) (wpAny_seqItems e4 e5 ?_);simp only[toNat_natCast,hx];refine wpAny_bind (wpAny_rule (wpAny_bind (wpAny_setField e1 e3 (by simp) ?_)));refine wpAny_bind (m:=newExc (.type "StopIteration") []) ?_;unfold newExc newTuple;refine wpAny_bind (wpAny_newObj_type (hd:=by size_fits) ?_);refine wpAny_bind (m:=firstArgMember _ _) (wpAny_of_eq (a:=Value.none) (by first|rfl|(unfold firstArgMember;rfl)) (wpAny_newObj_type (hd:=by size_fits) ?_))
  unfold raiseNew;refine wpAny_bind (wpAny_handled ?_)
  first|rw[show A.in1.handled=none from hh]|rw[hh]
  exact wpAny_bind (wpAny_pure (wpAny_throw (q _ _ (((SameBut.update ..).extBut.push _).push _) ⟨_,get?_push_size _ rfl,rfl⟩)))
end
end ZT
namespace L2
open PySem PySem.Spec PyProof.Rows
section
variable{X:Cx}{tg:Expr}
abbrev eN:=Addr×Int×List V
def numAt(zs:List eN)(i:Nat):Int:=(zs.getD i (0,0,[])).2.1
theorem oh{zs:List eN}(h:(zs.map (·.2.1)).Nodup):SRT.Ord (λi j=>decide (numAt zs i<numAt zs j)) zs.length:=by
 refine⟨λi _=>by simp,λi j k _ _ _ h1 h2=>?_,λi j hi hj hij=>?_⟩
 ·simp only[decide_eq_true_eq]at *;omega
 ·simp only[decide_eq_true_eq];have:numAt zs i≠numAt zs j:=by
   unfold numAt;rw[getD_eq_getElem?_getD,getD_eq_getElem?_getD,getElem?_eq_getElem hi,getElem?_eq_getElem hj];intro e;have e':(zs.map (·.2.1))[i]'(by simpa using hi)=(zs.map (·.2.1))[j]'(by simpa using hj):=by simpa using e
   exact hij ((getElem_inj h).mp e')
  omega
theorem jm{prog:Program}{w:World}{A:Around}{s:Shared}{b:Bool}{Q:Bool→Shared→Prop}(h:Q false s):∀(l:List Value)(i:Nat),PySem.W.KatLex prog w A b false Q (l.zip l) i s
 |[],i=>h
 |v::l,i=>kat_cons (EqAt.same v prog w _ _ (kat_yes (jm h l (i+1))))
theorem bq:bZ X (.builtin "sorted") (λxs H Q=>∃l,∃zs:List eN,xs=[.ref l]∧(SqL X.K H l ((zs.map (·.1)).map V.ref)∨SqT X.K H l ((zs.map (·.1)).map V.ref))∧(∀z∈zs,H z.1=some (.tup (.int z.2.1::z.2.2)))∧(zs.map (·.2.1)).Nodup∧zs.length<64 ∧
  ∀zs':List eN,zs'.Perm zs→zs'.Pairwise (λa b=>a.2.1<b.2.1)→∀p,H p=none→Q (.ref p) (upd H p (.lst ((zs'.map (·.1)).map V.ref)))):=by
 intro pins s σ H xs us Q I r h;obtain⟨l,zs,rfl,hq,hk,hnd,h64,q⟩:=h;obtain⟨u,rfl,ru⟩:=cy r;cases ru;obtain⟨its,rv,pl⟩:∃its,aq ((zs.map (·.1)).map V.ref) its∧(s.heap.IsList l its.toArray∨IsTup s.heap l its.toArray):=by
  rcases hq with hq|hq
  ·obtain⟨its,rv,pl,hz⟩:=I.list hq;exact⟨its,rv,.inl pl.isList⟩
  ·obtain⟨its,rv,pl,hz⟩:=I.tuple hq;exact⟨its,rv,.inr pl⟩
 have e:=cB rv;subst e;have hlen:((zs.map (·.1)).map Value.ref).length=zs.length:=by simp
 have hobj:∀z∈zs,∃o its n t,s.heap.get? z.1=some o∧o.cls=.type "tuple"∧o.data=.seq its n∧its.toList=.int z.2.1 t::its.toList.drop 1:=λz hz'=>by
  obtain⟨_,its,rr,o,e1,e2,n,e3⟩:=I.hok z.1 _ (hk z hz');cases rr with
  |cons r1 r2 =>
   obtain⟨t,rfl⟩:=r1;exact⟨o,_,n,t,e1,e2,e3,by simp⟩
 have hget:∀i,i<zs.length→((zs.map (·.1)).map Value.ref).getD i Value.none=.ref (zs.getD i (0,0,[])).1∧zs.getD i (0,0,[])∈zs:=λi hi=>by
  rw[getD_eq_getElem?_getD,getD_eq_getElem?_getD,getElem?_map,getElem?_map,getElem?_eq_getElem hi];exact⟨rfl,getElem_mem hi⟩
 refine SRT.fT (κ:=tuples' true) (f:=λi j=>decide (numAt zs i<numAt zs j)) (by rw[hlen];exact oh hnd) pl (by rw[hlen];exact h64) ?kind ?less ?fin
 case kind =>
  intro A' s' _ kp Q' h2 hQ';have key:∀ys:List eN,(∀z∈ys,z∈zs)→∃fs:List Value,KatTups s'.heap ((ys.map (·.1)).map Value.ref) fs∧fs.length=ys.length∧∀v∈fs,∃i t,v=Value.int i t:=by
   intro ys
   induction ys with
   |nil=>intro _;exact⟨[],KatTups.nil,rfl,λv hv=>by simp at hv⟩
   |cons z ys ih =>
    intro hm;obtain⟨fs,h1,h2',h3⟩:=ih λy hy=>hm y (by simp[hy]);obtain⟨o,its,n,t,e1,e2,e3,e4⟩:=hobj z (hm z (by simp));refine⟨.int z.2.1 t::fs,KatTups.cons (kp _ _ e1) e2 e3 ?_ h1,by simp[h2'],λv hv=>?_⟩
    ·rw[←getElem?_toList,e4];rfl
    ·rcases mem_cons.mp hv with rfl|hv
     ·exact⟨_,_,rfl⟩
     ·exact h3 v hv
  obtain⟨fs,h1,h2',h3⟩:=key zs λz hz'=>hz';refine kat_kind (T:=.type "int") h1 (by rw[h2'];rw[hlen]at h2;omega) (λv hv=>?_) (by rfl) hQ';obtain⟨i,t,rfl⟩:=h3 v hv;exact .now
 case less =>
  intro A' s' _ kp i j C hi hj hC;rw[hlen]at hi hj;obtain⟨gi,mi⟩:=hget i hi;obtain⟨gj,mj⟩:=hget j hj;rw[gi,gj];obtain⟨oi,ii,ni,ti,a1,a2,a3,a4⟩:=hobj _ mi;obtain⟨oj,ij,nj,tj,b1,b2,b3,b4⟩:=hobj _ mj;refine kat_lt (kp _ _ a1) a3 (kp _ _ b1) b3 ?_
  by_cases hij:i=j
  ·subst hij;rw[a1]at b1;cases b1;rw[a3]at b3;cases b3;have:C false s':=by simpa using hC
   have e2:decide (ii.size<ii.size)=false:=by simp
   rw[e2];exact jm this _ _
  ·have hne:numAt zs i≠numAt zs j:=by
    rcases (oh hnd).tot i j hi hj hij with h1|h1<;>simp only[decide_eq_true_eq]at h1<;>omega
   rw[a4,b4];refine kat_cons (wpAny_eqBool_int ?_);have e2:((zs.getD i (0,0,[])).2.1==(zs.getD j (0,0,[])).2.1)=false:=beq_eq_false_iff_ne.mpr hne;rw[e2];refine kat_no ?_;exact kat_lt_int hC
 case fin =>
  intro p h' hrow hup kp _ hg;obtain⟨c,hg⟩:=hg;rw[hlen]at hrow hup;obtain⟨zs',hzs'⟩:∃zs',zs'=p.toList.map λi=>zs.getD i (0,0,[]):=⟨_,rfl⟩;have hperm:zs'.Perm zs:=by
   rw[hzs'];refine(hrow.perm.map _).trans ?_;have:(List.range zs.length).map (λi=>zs.getD i (0,0,[]))=zs:=by
    apply ext_getElem?;intro i;rw[getElem?_map]
    by_cases hi:i<zs.length
    ·rw[List.getElem?_range hi,getElem?_eq_getElem hi];show some (zs.getD i (0,0,[]))=_;rw[getD_eq_getElem?_getD,getElem?_eq_getElem hi];rfl
    ·rw[getElem?_eq_none (by rw[length_range];omega),getElem?_eq_none (by omega)];rfl
   rw[this]
  have hpl:p.size=zs.length:=hrow.size;have hpw:zs'.Pairwise (λa b=>a.2.1<b.2.1):=by
   rw[pairwise_iff_getElem];intro i j hi hj hij;have hi':i<p.size:=by rw[hzs',length_map,length_toList]at hi;exact hi
   have hj':j<p.size:=by rw[hzs',length_map,length_toList]at hj;exact hj
   have:=hup i j hij (by omega);simp only[decide_eq_true_eq,numAt]at this;rw[getD_eq_getD_getElem?,getD_eq_getD_getElem?,Array.getElem?_eq_getElem hi',Array.getElem?_eq_getElem hj']at this;simpa [hzs']using this
  have hout:(toArray (p.toList.map λi=>((zs.map (·.1)).map Value.ref).getD i Value.none))=((zs'.map (·.1)).map Value.ref).toArray:=by
   congr 1
   rw[hzs'];simp only[map_map];apply map_congr_left;intro i hi;have hi':i<zs.length:=mem_range.mp (hrow.perm.mem_iff.mp hi);have:=(hget i hi').1;simp only[map_map]at this;exact this
  rw[hout]at hg;have hv:aq ((zs'.map (·.1)).map V.ref) ((zs'.map (·.1)).map Value.ref):=by
   generalize zs'.map (·.1)=as
   induction as with
   |nil=>exact .nil
   |cons a as ih=>exact .cons rfl ih
  refine⟨.ref (s.heap.objs.size+1),_,I.laid (t':=s.toks) (o:=.lst ((zs'.map (·.1)).map V.ref)) kp (le_succ _) ⟨?_,_,c,hv,hg⟩,rfl,q zs' hperm hpw _ (I.hok.fresh (le_succ _))⟩;rw[length_map,length_map,hperm.length_eq,sizeLine_eq];omega
theorem bH:bZ X (.builtin "sorted") (λxs H Q=>∃l,∃zs:List eN,xs=[.ref l]∧SqL X.K H l ((zs.map (·.1)).map V.ref)∧(∀z∈zs,H z.1=some (.tup (.int z.2.1::z.2.2)))∧(zs.map (·.2.1)).Nodup∧zs.length<64 ∧
  ∀zs':List eN,zs'.Perm zs→zs'.Pairwise (λa b=>a.2.1<b.2.1)→∀p,H p=none→Q (.ref p) (upd H p (.lst ((zs'.map (·.1)).map V.ref)))) :=
 λpins s σ H xs us Q I r ⟨l,zs,e,hq,h⟩=>bq pins s σ H xs us Q I r ⟨l,zs,e,.inl hq,h⟩
end
theorem iE{scope:Scope}{env:Env}(h:∀y∈scope.names,y.2≠.free):relabel scope env=scope:=by
 unfold relabel;rw[map_eq_self (l:=scope.names) (λx hx=>by
  obtain⟨n,k⟩:=x;have:(k==NameKind.free)=false:=by simpa using h _ hx
  simp[this])]
theorem ci{X:Cx}{scope:Scope}(hk:scope.kind=.function)(hf:∀y∈scope.names,y.2≠.free)(hc:∀y∈scope.names,y.2≠.cell)(hn:∀x∈scope.names,x.2=.local→scope.names.lookup x.1=some .local):LcOk X scope [] :=
 ⟨hk,closureFor_none hf,hn,hc,λx c h=>by simp at h,λx h=>by
  rw[iE hf]at h;rcases h with h|h
  ·exact absurd rfl (hc _ (PySem.mem_of_lookup h))
  ·exact absurd rfl (hf _ (PySem.mem_of_lookup h))⟩
theorem rn{k:Nat}{js:List Nat}{J:It}{g:TG}{te:TE}{σ:St}{H1:Hp}{Q:VK}{p:Addr}(n:Nat)(hn:n≤1000)(Pv:Nat→List V→St→Hp→Prop)(h0:Pv 0 [] (bg k js σ) (upd H1 p (.lst [])))(hy:∀i ys σ' H',Pv i ys σ' H'→ys.length≤i)(go:∀i ys σ' H',i<n→Pv i ys σ' H'→J.go i H')(stop:∀ys σ' H',Pv n ys σ' H'→J.stop n H'∧Q (.ref p) H')(step:∀i ys σ' H',i<n→Pv i ys σ' H'→∀x H2,J.yld i H' x H2→g x σ' H2 λσ2 H3=>te σ2 H3 λy H4=>H4 p=some (.lst ys)∧Pv (i+1) (ys++[y]) σ2 (upd H4 p (.lst (ys++[y]))))(mg:∀x σ H (Q Q':St→Hp→Prop),(∀σ H,Q σ H→Q' σ H)→g x σ H Q→g x σ H Q')(me:∀σ H (Q Q':VK),(∀y H,Q y H→Q' y H)→te σ H Q→te σ H Q'):
  LcW k js g te σ Q J H1 p:=by
 refine⟨λi m ys σ' H'=>m=n-i∧i≤n∧Pv i ys σ' H',⟨n,by simp,zero_le _,h0⟩,?_⟩;rintro i m ys σ' H' ⟨rfl,hi,hp⟩
 by_cases hlt:i<n
 ·refine .inr ⟨go i ys σ' H' hlt hp,?_,λx H2 y=>?_⟩
  ·have:=hy i ys σ' H' hp;exact lt_of_le_of_lt this (ap (by omega))
  ·refine mg _ _ _ _ _ (λσ2 H3 h3=>me _ _ _ _ (λz H4 h4=>⟨h4.1,n-(i+1),by omega,rfl,hlt,h4.2⟩) h3) (step i ys σ' H' hlt hp x H2 y)
 ·have e:i=n:=by omega
  subst e;exact .inl (stop ys σ' H' hp)
theorem ae{H:Hp}{p:Addr}{o:HO}(h:H p=none):Same H (upd H p o):=λb u e=>by rw[ag (aY e h)];exact e
theorem bX{H:Hp}{p a:Addr}{o u:HO}(h:H p=none)(e:H a=some u):upd H p o a=some u:=by rw[ag (aY e h)];exact e
theorem ar{H0 H:Hp}{p:Addr}{o:HO}(h0:H0 p=none)(s:Same H0 H):Same H0 (upd H p o):=λb u e=>by
 rw[ag (aY e h0)];exact s b u e
structure Fly(P:Program)(w:World)(outer:List Env)(H:Hp)(s:Shared)(H':Hp)(ea C:Addr)(s':Shared):Prop where
 os:s'.os=s.os
 bare:AllBare s'.gens
 un:Un (frs outer) [] H H' s.heap s'.heap
 new:H' ea=none
 fly:∃B a0,Heap.FlyingW B outer ea (.ref C) a0 s'.heap∧HOk P w H' B∧(∀b o,s.heap.get? b=some o→H b=none→b∉frs outer→B.get? b=some o) ∧
  ∀b o,s.heap.get? b=some o→b∉frs outer→∃o',B.get? b=some o'
def CX1(P:Program)(w:World):CXT:=λouter H s E e s'=>∃ea C H',e=.ref ea∧Fly P w outer H s H' ea C s'∧E (.ref C) none H'
section
variable{P:Program}{w:World}{l:List Env}{H H':Hp}{h1 h2 h3 B:Heap}{ea:Addr}{cls a0:Value}
end
section
variable{X:Cx}{pins:List (Addr×Obj)}{σ:St}{H H':Hp}{s s':Shared}{ea C:Addr}{E:XK}
end
end L2
namespace XI
open PySem PySem.Spec PySem.W
section
variable{prog:Program}{w:World}{A:Around}{E:Value→Shared→Prop}{h:Heap}{g:Array GenState}{d:Drawn}{t:Nat}{os:OsState}{a:Addr}{o:Obj}{vs:Array Value}{nm q:Str}{C N:Addr}{bs bm:List Value}{hdct:Bool}{sn:List Str}{sub:List Value}{ab:Bool}{col:Option Bool}{dd:Option Addr}{k0 k1 k2 k3 k5:Option Value}{newId:String}
end
end XI
namespace L2
open PySem PySem.Spec PyProof.Rows
section
variable{X:Cx}{pins:List (Addr×Obj)}{σ:St}{H:Hp}{s:Shared}
end
end L2
namespace DL
open PySem PySem.Spec PyProof.Rows
theorem fV:entryFor table "dict.update.loop"=some Builtin.«dict.update.loop»:=entryFor_of_tree (by kernel_rfl)
theorem cL:plainId "dict.update.loop"=true:=by decide +kernel
theorem iF:typeLookup (.type "list") "keys"=pure none:=by rw[typeLookup_type,builtinLookup_eq_fast];kernel_rfl
section
variable{prog:Program}{w:World}{A:Around}{E:Value→Shared→Prop}{s:Shared}
theorem qo{a:Addr}{xs:Array Value}{k:Nat}{sl:Array (Option Value)}{u:Tok}{Q:Value→Shared→Prop}(hx:s.heap.get? a=some {cls:=.type "list",dict:=none,data:=.seq xs k,slots:=sl})(hA:A.handled=none)(h:∀h' tk e,Heap.NewExcOf s.heap h' e "AttributeError"→E (.ref e) {s with heap:=h',toks:=tk}):
  wpAny (model prog w) A (getAttrBy (.ref a) (.str "keys" u) false) Q E s:=by
 obtain⟨hp,g,d,tk,os⟩:=s;have hT:∀tk',(⟨hp,g,d,tk',os⟩:Shared).TypeIs (.ref a) "list":=λ_=>⟨_,hx,rfl⟩;have f1:=sub_AttributeError;have f3:=F.slot_list_getattribute.lookup;have f4:=F.slot_list_getattribute.bind (.ref a);have f5:=am_list_getattr_none;unfold getAttrBy
 repeat (any_goals (first|assumption|exact hT _|((with_reducible show wpAny _ _ (call (Value.builtin "list.__getattribute__") _ _) _ _ _);refine call_meets F.slot_list_getattribute (hT _) am_entry_list_getattribute (F.args_list_getattribute_2 _ _) (meets_getattribute_miss_list a xs k sl "keys" _ iF (by decide) (by size_fits)) ⟨hx,hA,λh' tk' e hx'=>?_⟩)|wp_step))
 obtain⟨t',u',he⟩:=hx'.there;show wpAny _ _ (getattributeRaised _ _ _ _ _ _ _) _ _ _;unfold getattributeRaised
 repeat (any_goals (first|assumption|wp_step))
 exact h _ _ _ hx'.of
theorem qp{a:Addr}{xs:Array Value}{k:Nat}{sl:Array (Option Value)}{Q:Option Value→Shared→Prop}(hx:s.heap.get? a=some {cls:=.type "list",dict:=none,data:=.seq xs k,slots:=sl})(hA:A.handled=none)(h:∀h' tk,(∀b o,s.heap.get? b=some o→h'.get? b=some o)→Q none {s with heap:=h',toks:=tk}):
  wpAny (model prog w) A (getAttr? (.ref a) "keys") Q E s:=by
 obtain⟨hp,g,d,tk,os⟩:=s;have f1:=sub_AttributeError;unfold getAttr? getAttrBy?
 repeat (any_goals (first|assumption|((with_reducible show wpAny _ _ (getAttrBy _ _ false) _ _ _);refine qo (s:=⟨hp,g,d,_,os⟩) hx hA λh' tk' e hx'=>?_)|wp_step))
 obtain⟨⟨oc,od,odt,osl⟩,vs,he,hc,_,_⟩:=hx'.there;simp only at hc;subst hc
 repeat (any_goals (first|assumption|with_reducible refine wpAny_loadPart_at he ?_|wp_step))
 exact h h' tk' λb o e=>hx'.keeps b o e
end
section
variable{prog:Program}{w:World}{A:Around}{E:Value→Shared→Prop}{R:Result→Shared→Prop}{I:Addr}{fp wr:List Addr}{G:Array GenState→Array GenState→Prop}{n:Nat}{P:Nat→Value→Prop}{St:Nat→Shared→Prop}
theorem mD(W:WalksS prog w A.in1 I fp wr G n P St)(d:Addr)(hdf:d∉fp)(ad:Nat→Addr)(kk vv:Nat→Value)(hval:∀i v,P i v→v=.ref (ad i))(had:∀i,i<n→ad i∉d::wr)(D:Nat→Heap→Prop)(hD:∀i (h h':Heap),D i h→(∀b o,b∉wr→h.get? b=some o→h'.get? b=some o)→D i h')(step:∀i (s:Shared) (E:Value→Shared→Prop) (Q:Unit→Shared→Prop),i<n→D i s.heap→(∀h' tk,s.toks≤tk→SameBut d s.heap h'→D (i+1) h'→Q () {s with heap:=h',toks:=tk})→wpAny (model prog w) A.in1 (dictSet d (kk i) (vv i)) Q E s):
  ∀(k i:Nat)(s:Shared)(tk:Tok),n-i=k→i≤n→St i s→D i s.heap→(∀j,j<n→IsTup s.heap (ad j) #[kk j,vv j]) →
   (∀s',Moved (d::wr) G s s'→D n s'.heap→R (.ok (.ret .none)) s') →
   codeAny (model prog w) A (.builtin "dict.update.loop" ⟨[.ref d,.ref I,.int i tk,.none],[]⟩) R s:=by
 have hdw:d∉wr:=λh=>hdf (W.sub _ h);have hsub:∀b∈wr,b∈d::wr:=λb hb=>mem_cons_of_mem _ hb;have hadw:∀i,i<n→ad i∉wr:=λi hi h=>had i hi (mem_cons_of_mem _ h);have hadd:∀i,i<n→ad i≠d:=λi hi h=>had i hi (by rw[h];exact mem_cons_self);intro k
 induction k with
 |zero =>
  intro i s tk hk hi hst hDi htp hR;have hin:i=n:=by omega
  subst hin;refine codeAny_builtin fV ?_;rw[Around.under_plainId cL _];show wpAny _ A.in1 (pyNext (.ref I) >>= _) _ _ s;refine wpAny_bind (W.done s _ _ hst λs' hm=>?_);show wpAny _ A.in1 (Builtin.Dict.addKeywords d [] >>= λ_=>ret Value.none) _ _ s';exact wpAny_bind (wpAny_pure (wpAny_pure (hR s' (hm.mono hsub) (hD _ _ _ hDi hm.heap))))
 |succ k ih =>
  intro i s tk hk hi hst hDi htp hR;have hlt:i<n:=by omega
  refine codeAny_builtin fV ?_;rw[Around.under_plainId cL _];show wpAny _ A.in1 (pyNext (.ref I) >>= _) _ _ s;refine wpAny_bind (W.item i s _ _ hlt hst λv s' hP hst' hm=>?_);have hv:=hval i v hP;subst hv;have hDi':D i s'.heap:=hD _ _ _ hDi hm.heap;have htp':∀j,j<n→IsTup s'.heap (ad j) #[kk j,vv j]:=λj hj=>by
   obtain⟨o,ho,r⟩:=htp j hj;exact⟨o,hm.heap _ o (hadw j hj) ho,r⟩
  obtain⟨ot,hot,hct,nt,hdt⟩:=htp' i hlt;have hT:s'.TypeIs (.ref (ad i)) "tuple":=⟨ot,hot,hct⟩;refine wpAny_bind (wpAny_holding ?_);refine wpAny_bind (wpAny_tryCatch ?_);unfold Builtin.Dict.pairItems;refine wpAny_bind (wpAny_typeOf hT ?_);rw[if_pos (by decide)];generalize hDS:dictSet=DS;obtain⟨hp,g,dr,t,os⟩:=s';obtain⟨ocls,odict,odata,oslots⟩:=ot;simp only at hct hdt;subst hct hdt
  repeat (any_goals (first|assumption|with_reducible refine wpAny_loadPart_at hot ?_|wp_step))
  subst hDS;refine step i _ _ _ hlt hDi' λh' tk' htk hsb hD'=>?_;have hsb':SameBut d hp h':=hsb;have hkeep:∀b o,b∉d::wr→hp.get? b=some o→h'.get? b=some o:=λb o hb e=>by
   rw[hsb'.2 b (λz:b=d=>hb (by rw[z];exact mem_cons_self))];exact e
  refine wpAny_pure ⟨plainId_quiet cL _,?_⟩;refine ih (i+1) _ _ (by omega) hlt (W.frame _ _ _ _ hst' htk λb hb o e=>?_) hD' (λj hj=>?_) λs'' hm'' hD''=>?_
  ·rw[hsb'.2 b (λh:b=d=>hdf (by rw[←h];exact hb))];exact e
  ·obtain⟨o,ho,r⟩:=htp' j hj;exact⟨o,hkeep _ o (had j hj) ho,r⟩
  ·exact hR s'' (Moved.trans W.gtrans ((hm.mono hsub).then_heap htk λb o hb e=>hkeep b o hb e) hm'') hD''
end
section
variable{prog:Program}{w:World}{A:Around}{E:Value→Shared→Prop}{s:Shared}
theorem cX{l:Addr}{items:Array Value}{nl:Nat}{sl:Array (Option Value)}{Q:Value→Shared→Prop}(hh:A.handled=none)(hl:s.heap.get? l=some {cls:=.type "list",dict:=none,data:=.seq items nl,slots:=sl})(ad:Nat→Addr)(kk vv:Nat→Value)(hi:∀(i:Nat) (v:Value),items[i]?=some v→v=Value.ref (ad i))(ht:∀i,i<items.size→IsTup s.heap (ad i) #[kk i,vv i])(D:Nat→Heap→Prop)(hD0:∀h',h'.get? s.heap.objs.size=some {cls:=.type "dict",data:=.dict #[]}→(∀b o,s.heap.get? b=some o→h'.get? b=some o)→D 0 h')(hD:∀i (h h':Heap),D i h→(∀b o,b≤s.heap.objs.size→h.get? b=some o→h'.get? b=some o)→D i h')(step:∀i (s':Shared) (E:Value→Shared→Prop) (Q:Unit→Shared→Prop),i<items.size→D i s'.heap→(∀h' tk,s'.toks≤tk→SameBut s.heap.objs.size s'.heap h'→D (i+1) h'→Q () {s' with heap:=h',toks:=tk}) →
   wpAny (model prog w) A.in1.in1 (dictSet s.heap.objs.size (kk i) (vv i)) Q E s')(h:∀h' tk,D items.size h'→(∀b o,s.heap.get? b=some o→h'.get? b=some o)→Q (.ref s.heap.objs.size) {s with heap:=h',toks:=tk}):
  wpAny (model prog w) A (call (.type "dict") [.ref l]) Q E s:=by
 refine callType_codes (Q₁:=λobj s₁=>obj=.ref s.heap.objs.size∧s₁={s with heap:=s.heap.push {cls:=.type "dict",data:=.dict #[]}}) F.kt_called_dict (F.kt_typeCall_dict_1 _) F.entry_dict_init (kt_code_dict_new _ ⟨rfl,rfl⟩) ?_;rintro obj s₁ ⟨rfl,rfl⟩;have hnew:(s.heap.push {cls:=.type "dict",data:=.dict #[]}).get? s.heap.objs.size=some {cls:=.type "dict",data:=.dict #[]}:=get?_push_size _ rfl;have hTd:Shared.TypeIs {s with heap:=s.heap.push {cls:=.type "dict",data:=.dict #[]}} (.ref s.heap.objs.size) "dict":=⟨_,hnew,rfl⟩
 have hl':(s.heap.push {cls:=.type "dict",data:=.dict #[]}).get? l=some {cls:=.type "list",dict:=none,data:=.seq items nl,slots:=sl}:=get?_push_of_some _ hl;have hTl:Shared.TypeIs {s with heap:=s.heap.push {cls:=.type "dict",data:=.dict #[]}} (.ref l) "list":=⟨_,hl',rfl⟩
 refine⟨hTd,F.args_dict_init_2 _ _,?_⟩;unfold Builtin.«dict.__init__»;refine wpAny_bind ?_;unfold Builtin.Dict.selfAndRest;refine wpAny_bind (wpAny_notOrdered_dict hTd ?_);show wpAny _ _ (pure (s.heap.objs.size,[Value.ref l])) _ _ _;refine wpAny_pure ?_;show wpAny _ _ (Builtin.Dict.updateFrom "dict.__init__" s.heap.objs.size (.ref l) [] .none) _ _ _;unfold Builtin.Dict.updateFrom;refine wpAny_bind (wpAny_typeOf hTl ?_);rw[if_pos (by decide)];refine wpAny_bind (qp (s:={s with heap:=s.heap.push {cls:=.type "dict",data:=.dict #[]}}) hl' (show A.in1.in1.handled=none by simp[hh]) λh1 tk1 hk1=>?_);have hk1':∀b o,(s.heap.push {cls:=.type "dict",data:=.dict #[]}).get? b=some o→h1.get? b=some o:=hk1;have hL1:h1.IsList l items:=⟨_,hk1' _ _ hl',rfl,nl,rfl⟩;rw[if_pos (show(none:Option Value).isNone=true from rfl)];refine wpAny_bind (wpAny_rule ?_);refine wpAny_bind (wpAny_pyIter_list hL1 ?_);have hlS:l<s.heap.objs.size:=lt_size hl;have hS1:s.heap.objs.size<h1.objs.size:=lt_size (hk1' _ _ hnew);have k0:∀b o,s.heap.get? b=some o→h1.get? b=some o:=λb o e=>hk1' b o (get?_push_of_some _ e);have hadlt:∀i,i<items.size→ad i<s.heap.objs.size:=λi hi'=>by
  obtain⟨o,ho,_⟩:=ht i hi';exact lt_size ho
 refine wpAny_pure ⟨plainId_quiet cL _,mD (A:=A.in1) ((Walks.list (show A.in1.in1.handled=none by simp[hh]) h1.objs.size l (ne_of_lt (lt_trans hlS hS1)) items).toS) s.heap.objs.size ?hdf ad kk vv hi ?had D ?hD' (λi s' E Q hi' hDi hq=>step i s' E Q hi' hDi hq)
  (items.size-0) 0 _ 0 (by omega) (zero_le _) ⟨⟨_,get?_push_size _ rfl,rfl,rfl⟩,hL1.push _⟩ ?hD0' ?ht' λs' hm hDn=>?_⟩
 case hdf =>
  simp only[mem_cons,not_mem_nil,or_false,not_or];exact⟨ne_of_lt hS1,ne_of_gt hlS⟩
 case had =>
  intro i hi';simp only[mem_cons,not_mem_nil,or_false,not_or];exact⟨ne_of_lt (hadlt i hi'),ne_of_lt (lt_trans (hadlt i hi') hS1)⟩
 case hD' =>
  intro i g g' hDi hk;refine hD i g g' hDi λb o hb e=>hk b o ?_ e;simp only[mem_cons,not_mem_nil,or_false];exact ne_of_lt (lt_of_le_of_lt hb hS1)
 case hD0' =>
  exact hD0 _ (get?_push_of_some _ (hk1' _ _ hnew)) λb o e=>get?_push_of_some _ (k0 b o e)
 case ht' =>
  intro j hj;obtain⟨o,ho,r⟩:=ht j hj;exact⟨o,get?_push_of_some _ (k0 _ _ ho),r⟩
 obtain⟨h',g',d',tk',os'⟩:=s';have eg:g'=s.gens:=hm.gens;have ed:d'=s.drawn:=hm.drawn;have eo:os'=s.os:=hm.os;subst eg;subst ed;subst eo;refine⟨rfl,h h' tk' hDn λb o e=>?_⟩;have hb:b<s.heap.objs.size:=lt_size e;refine hm.heap b o ?_ (get?_push_of_some _ (k0 b o e));simp only[mem_cons,not_mem_nil,or_false,not_or];exact⟨ne_of_lt hb,ne_of_lt (lt_trans hb hS1)⟩
end
end DL
namespace L2
open PySem PySem.Spec PyProof.Rows
section
variable{X:Cx}
theorem ol{pins:List (Addr×Obj)}{σ:St}{H:Hp}{s:Shared}(I:Inv X pins σ H s){a:Addr}{x y:V}(h:H a=some (.tup [x,y])):∃u v,av x u∧av y v∧IsTup s.heap a #[u,v]:=by
 obtain⟨_,its,r,ht⟩:=I.hok a _ h;cases r with
 |cons r1 r =>
  cases r with
  |cons r2 r=>cases r;exact⟨_,_,r1,r2,by simpa using ht⟩
theorem jn{κ:Type}{pins:List (Addr×Obj)}{σ:St}{H:Hp}{s:Shared}(I:Inv X pins σ H s){zs:List (Addr×κ×V)}(kf:Addr×κ×V→V)(hk:∀z∈zs,H z.1=some (.tup [kf z,z.2.2])):
  ∃f:Addr×κ×V→Value×Value,∀z∈zs,av (kf z) (f z).1∧av z.2.2 (f z).2∧IsTup s.heap z.1 #[(f z).1,(f z).2]:=by
 have hch:∀z:Addr×κ×V,∃p:Value×Value,z∈zs→av (kf z) p.1∧av z.2.2 p.2∧IsTup s.heap z.1 #[p.1,p.2]:=λz=>by
  by_cases hz':z∈zs
  ·obtain⟨u,v,a,b,c⟩:=ol I (hk z hz');exact⟨(u,v),λ_=>⟨a,b,c⟩⟩
  ·exact⟨(.none,.none),λh=>absurd h hz'⟩
 exact⟨λz=>Classical.choose (hch z),λz hz=>Classical.choose_spec (hch z) hz⟩
theorem aQ{α:Type}{l:List α}{i:Nat}{d:α}(h:i<l.length):l.getD i d∈l∧l[i]?=some (l.getD i d):=by
 rw[getD_eq_getElem?_getD,getElem?_eq_getElem h];exact⟨getElem_mem h,rfl⟩
theorem hX{κ:Type}{zs:List (Addr×κ×V)}{d:Addr×κ×V}{i:Nat}{v:Value}(h:(((zs.map (·.1)).map Value.ref).toArray)[i]?=some v):v=Value.ref (zs.getD i d).1:=by
 have h':((zs.map (·.1)).map Value.ref)[i]?=some v:=by simpa using h
 rw[getElem?_map,getElem?_map]at h';rw[getD_eq_getElem?_getD];cases e:zs[i]? with
 |none=>rw[e]at h';cases h'
 |some z=>rw[e]at h';exact(Option.some.inj h').symm
theorem ax{α:Type}{l:List α}{i:Nat}{x:α}(h:l[i]?=some x):l.take (i+1)=l.take i++[x]:=by rw[take_succ,h];rfl
theorem hZ{α κ:Type}{l:List α}{f:α→κ}{i:Nat}{x:α}(hn:(l.map f).Nodup)(h:l[i]?=some x):f x∉(l.take i).map f:=by
 intro hm;obtain⟨y,hy,e⟩:=mem_map.mp hm;obtain⟨j,hj,e2⟩:=mem_iff_getElem.mp hy;have hj':j<i:=by rw[length_take]at hj;omega
 have hi:i<l.length:=(List.getElem?_eq_some_iff.mp h).1;have e3:(l.map f)[j]'(by rw[length_map];omega)=(l.map f)[i]'(by rw[length_map];omega):=by
  rw[getElem_map,getElem_map];rw[List.getElem_take]at e2;rw[e2,e,(List.getElem?_eq_some_iff.mp h).2]
 have:=(getElem_inj hn).mp e3;omega
theorem eX(hc:X.calm=true):bZ X (.type "dict") (λxs H Q=>∃l,∃zs:List (Addr×Key×V),xs=[.ref l]∧H l=some (.lst ((zs.map (·.1)).map V.ref))∧(∀z∈zs,H z.1=some (.tup [kV z.2.1,z.2.2]))∧zs.length≤1000 ∧
  (zs.map (·.2.1)).Nodup∧((∀d o,H d=none→Q (.ref d) (upd H d (.frz o (.dK (zs.map (·.2))))))∨∀d,H d=none→Q (.ref d) (upd H d (.dK (zs.map (·.2)))))):=by
 intro pins s σ H xs us Q I r h;obtain⟨l,zs,rfl,hl,hk,hz,hnd,q⟩:=h;obtain⟨u,rfl,ru⟩:=cy r;cases ru;obtain⟨_,its,nl,rv,ho⟩:=I.hok l _ hl;have e:=cB rv;subst e;obtain⟨f,hf⟩:=jn I (λz=>kV z.2.1) hk;have hsz:(((zs.map (·.1)).map Value.ref).toArray).size=zs.length:=by simp
 refine DL.cX (s:=s) (I.ok.hd hc) ho (λi=>(zs.getD i (0,.inl 0,.non)).1) (λi=>(f (zs.getD i (0,.inl 0,.non))).1) (λi=>(f (zs.getD i (0,.inl 0,.non))).2) (λi v hv=>hX hv) (λi hi=>?_)
  (λi h'=>h'.DictOf (ak X.prog X.w) s.heap.objs.size ((zs.take i).map λz=>(z.2.1,(f z).2))) (λh' hg _=>?_) (λi g g' hd hk=>?_) (λi s' E Q hi hd hq=>?_) λh' tk hd hkeep=>?_
 ·rw[hsz]at hi;exact(hf _ (aQ hi).1).2.2
 ·exact⟨_,#[],0,hg,⟨rfl,rfl,rfl⟩,rfl,λ_ he=>by simp at he,Pairs.nil,nodup_nil⟩
 ·obtain⟨o,es,ep,ho,r⟩:=hd;exact⟨o,es,ep,hk _ o (le_refl _) ho,r⟩
 ·rw[hsz]at hi;obtain⟨hm,hg⟩:=aQ (d:=((0,.inl 0,.non):Addr×Key×V)) hi;refine wpAny_dictSet_pairs (hsz:=by rw[length_map,length_take];have:=ap hz;omega) (k:=(zs.getD i (0,.inl 0,.non)).2.1) (dh (hf _ hm).1) hd λh' hd' hs=>hq h' _ (le_succ _) hs ?_;have e1:=ax hg;have e2:=hZ hnd hg;rw[e1,map_append];unfold stored at hd';rw[if_neg]at hd'
  ·exact hd'
  ·intro ha;obtain⟨p,hp,he⟩:=any_eq_true.mp ha;obtain⟨z,hz',rfl⟩:=mem_map.mp hp;exact e2 (mem_map.mpr ⟨z,hz',of_decide_eq_true he⟩)
 ·rw[hsz,take_length]at hd;obtain⟨ob,hob⟩:∃ob,h'.get? s.heap.objs.size=some ob:=let⟨o,_,_,ho,_⟩:=hd;⟨o,ho⟩;have hrel:KV (zs.map (·.2)) (zs.map λz=>(z.2.1,(f z).2)):=by
   have:∀ys:List (Addr×Key×V),(∀z∈ys,z∈zs)→KV (ys.map (·.2)) (ys.map λz=>(z.2.1,(f z).2)):=by
    intro ys
    induction ys with
    |nil=>intro _;exact .nil
    |cons z ys ih=>intro hm;exact .cons ⟨rfl,(hf z (hm z (by simp))).2.1⟩ (ih λy hy=>hm y (by simp[hy]))
   exact this zs λz hz=>hz
  have hdk:∀H':Hp,aT X.prog X.w H' h' s.heap.objs.size (.dK (zs.map (·.2))):=λH'=>iz (le_of_lt (ap (by rw[length_map];exact hz))) (beq_eq_false_iff_ne.mpr (symm (ne_of_lt I.big))) hrel hd;rcases q with q|q
  ·exact⟨.ref s.heap.objs.size,_,I.laid (t':=tk) (o:=.frz ob (.dK (zs.map (·.2)))) hkeep (le_refl _) ⟨hob,hdk _⟩,rfl,q _ ob (I.hok.fresh (le_refl _))⟩
  ·exact⟨.ref s.heap.objs.size,_,I.laid (t':=tk) (o:=.dK (zs.map (·.2))) hkeep (le_refl _) (hdk _),rfl,q _ (I.hok.fresh (le_refl _))⟩
theorem kr(hc:X.calm=true):bZ X (.type "dict") (λxs H Q=>∃l,∃zs:List (Addr×Key×V),xs=[.ref l]∧H l=some (.lst ((zs.map (·.1)).map V.ref))∧(∀z∈zs,H z.1=some (.tup [kV z.2.1,z.2.2]))∧zs.length≤1000∧(zs.map (·.2.1)).Nodup∧∀d o,H d=none→Q (.ref d) (upd H d (.frz o (.dK (zs.map (·.2)))))) :=
 λpins s σ H xs us Q I r ⟨l,zs,h1,h2,h3,h4,h5,q⟩=>eX hc pins s σ H xs us Q I r ⟨l,zs,h1,h2,h3,h4,h5,.inl q⟩
theorem cY(hc:X.calm=true):bZ X (.type "dict") (λxs H Q=>∃l,∃zs:List (Addr×Key×V),xs=[.ref l]∧H l=some (.lst ((zs.map (·.1)).map V.ref))∧(∀z∈zs,H z.1=some (.tup [kV z.2.1,z.2.2]))∧zs.length≤1000∧(zs.map (·.2.1)).Nodup∧∀d,H d=none→Q (.ref d) (upd H d (.dK (zs.map (·.2))))) :=
 λpins s σ H xs us Q I r ⟨l,zs,h1,h2,h3,h4,h5,q⟩=>eX hc pins s σ H xs us Q I r ⟨l,zs,h1,h2,h3,h4,h5,.inr q⟩
theorem ku(hc:X.calm=true)(hu:X.A.units+4<cLine):bZ X (.type "dict") (λxs H Q=>∃l,∃zs:List (Addr×(Addr×List Key)×V),xs=[.ref l]∧H l=some (.lst ((zs.map (·.1)).map V.ref))∧(∀z∈zs,H z.1=some (.tup [.ref z.2.1.1,z.2.2])∧H z.2.1.1=some (.tup (z.2.1.2.map kV)))∧zs.length≤1000 ∧
  (zs.map (·.2.1.2)).Nodup∧∀d o,H d=none→Q (.ref d) (upd H d (.frz o (.dT (zs.map λz=>(z.2.1.2,z.2.2)))))):=by
 intro pins s σ H xs us Q I r h;obtain⟨l,zs,rfl,hl,hk,hz,hnd,q⟩:=h;obtain⟨u,rfl,ru⟩:=cy r;cases ru;obtain⟨_,its,nl,rv,ho⟩:=I.hok l _ hl;have e:=cB rv;subst e;obtain⟨f,hf⟩:=jn I (λz=>V.ref z.2.1.1) (λz hz=>(hk z hz).1);have hsz:(((zs.map (·.1)).map Value.ref).toArray).size=zs.length:=by simp
 have hkey:∀z∈zs,z.2.1.1<s.heap.objs.size:=λz hz=>I.hok.lt (hk z hz).2;have hkk:∀z∈zs,IsTupleKey (ak X.prog X.w) s.heap z.2.1.2 z.2.1.1:=λz hz=>og I (hk z hz).2 _ _;have hmove:∀(h':Heap)(z:Addr×(Addr×List Key)×V),z∈zs→(∀b o,b<s.heap.objs.size→s.heap.get? b=some o→h'.get? b=some o)→IsTupleKey (ak X.prog X.w) h' z.2.1.2 z.2.1.1:=λh' z hz hk=>by
  obtain⟨o,items,n,ho,r⟩:=hkk z hz;exact⟨o,items,n,hk _ o (lt_size ho) ho,r⟩
 refine DL.cX (s:=s) (I.ok.hd hc) ho (λi=>(zs.getD i (0,(0,[]),.non)).1) (λi=>(f (zs.getD i (0,(0,[]),.non))).1) (λi=>(f (zs.getD i (0,(0,[]),.non))).2) (λi v hv=>hX hv) (λi hi=>?_)
  (λi h'=>h'.DictOfH (tupleKind (ak X.prog X.w)) s.heap.objs.size ((zs.take i).map λz=>(z.2.1.2,z.2.1.1,(f z).2))∧∀b o,b<s.heap.objs.size→s.heap.get? b=some o→h'.get? b=some o) (λh' hg hk0=>?_) (λi g g' hd hk=>?_) (λi s' E Q hi hd hq=>?_) λh' tk hd hkeep=>?_
 ·rw[hsz]at hi;exact(hf _ (aQ hi).1).2.2
 ·exact⟨⟨_,#[],0,hg,⟨rfl,rfl,rfl⟩,rfl,rfl,λ_ hx=>by simp at hx,nodup_nil⟩,λb o _ e=>hk0 b o e⟩
 ·obtain⟨⟨o,es,ep,ho,r1,r2,r3,r4,r5⟩,hb⟩:=hd;have hb':∀b o,b<s.heap.objs.size→s.heap.get? b=some o→g'.get? b=some o:=λb o hlt e=>hk b o (le_of_lt hlt) (hb b o hlt e);refine⟨⟨o,es,ep,hk _ o (le_refl _) ho,r1,r2,r3,λx hx=>?_,r5⟩,hb'⟩;obtain⟨z,hz',rfl⟩:=mem_map.mp hx;exact hmove g' z (List.mem_of_mem_take hz') hb'
 ·rw[hsz]at hi;obtain⟨hm,hg⟩:=aQ (d:=((0,(0,[]),.non):Addr×(Addr×List Key)×V)) hi;obtain⟨hd1,hd2⟩:=hd;have ek:(f (zs.getD i (0,(0,[]),.non))).1=.ref (zs.getD i (0,(0,[]),.non)).2.1.1:=(hf _ hm).1;rw[ek];refine wpAny_dictSet_heap (hsz:=by rw[length_map,length_take];have:=ap hz;omega) (k:=(zs.getD i (0,(0,[]),.non)).2.1.2) (by show X.A.in1.in1.units<cLine;simp[Around.in1_units];omega) (hmove _ _ hm hd2) hd1 λh' hd' hs=>hq h' _ (le_add_right _ _) hs ⟨?_,λb o hlt e=>?_⟩
  ·have e1:=ax hg;have e2:=hZ (f:=λz:Addr×(Addr×List Key)×V=>z.2.1.2) hnd hg;rw[e1,map_append];rw[storedH_new]at hd'
   ·exact hd'
   ·refine atKey_none_of_get λj p hj=>e2 ?_;obtain⟨z,hz',ez⟩:=mem_map.mp (mem_of_getElem? hj);exact mem_map.mpr ⟨z,hz',congrArg Prod.fst ez⟩
  ·rw[hs.2 b (ne_of_lt hlt)];exact hd2 b o hlt e
 ·obtain⟨hd1,_⟩:=hd;rw[hsz,take_length]at hd1;obtain⟨o,es,ep,ho2,r1,r2,r3,r4,r5⟩:=hd1;refine⟨.ref s.heap.objs.size,_,I.laid (t':=tk) (o:=.frz o (.dT (zs.map λz=>(z.2.1.2,z.2.2)))) hkeep (le_refl _) ⟨ho2,le_of_lt (ap (by rw[length_map];exact hz)),beq_eq_false_iff_ne.mpr (symm (ne_of_lt I.big)),_,?_,o,es,ep,ho2,r1,r2,r3,r5⟩,rfl,q _ o (I.hok.fresh (le_refl _))⟩;have:∀ys:List (Addr×(Addr×List Key)×V),(∀z∈ys,z∈zs)→Paired (λ(p:List Key×V) (q:List Key×Addr×Value)=>p.1=q.1∧upd H s.heap.objs.size (.frz o (.dT (zs.map λz=>(z.2.1.2,z.2.2)))) q.2.1=some (.tup (p.1.map kV))∧av p.2 q.2.2) (ys.map λz=>(z.2.1.2,z.2.2)) (ys.map λz=>(z.2.1.2,z.2.1.1,(f z).2)):=by
   intro ys
   induction ys with
   |nil=>intro _;exact .nil
   |cons z ys ih =>
    intro hm;refine .cons ⟨rfl,?_,(hf z (hm z (by simp))).2.1⟩ (ih λy hy=>hm y (by simp[hy]));show upd H _ _ z.2.1.1=_;rw[ag (ne_of_lt (hkey z (hm z (by simp))))];exact(hk z (hm z (by simp))).2
  exact this zs λz hz=>hz
end
def sr(h:Heap)(d:Addr)(es:Array DictEntry)(ep:Nat):Prop:=∃o,h.get? d=some o∧o.ExactDict∧o.data=.dict es ep
section
variable{prog:Program}{w:World}{A:Around}{E:Value→Shared→Prop}{s:Shared}
theorem om{d:Addr}{es:Array DictEntry}{ep:Nat}{Q:Value→Shared→Prop}(hd:(d==sysModules)=false)(hm:sr s.heap d es ep)(hQ:Q (.ref s.heap.objs.size) {s with heap:=s.heap.push {cls:=.type "dict_keyiterator",data:=.fields #[.ref d,.int 0 0,.int es.size 0,.int ep 0]}}):
  wpAny (model prog w) A (pyIter (.ref d)) Q E s:=by
 obtain⟨o,ho,hc,hdat⟩:=id hm;have hT:s.TypeIs (.ref d) "dict":=⟨o,ho,hc.1⟩;refine wpAny_pyIter_slot hT PySem.F.slot_dict_iter (wpAny_call_entry PySem.F.slot_dict_iter hT PySem.F.entry_dict_iter ?_ (PySem.F.args_dict_iter_1 _));unfold Builtin.«dict.__iter__»;refine wpAny_bind ?_;unfold Builtin.Dict.dictSlotNone;refine wpAny_bind (wpAny_notOrdered_dict hT ?_);show wpAny _ _ (pure (Value.ref d)) _ _ s;refine wpAny_pure ?_;show wpAny _ _ (Builtin.Dict.showsAll d >>= _) _ _ s;unfold Builtin.Dict.showsAll;rw[if_neg (by rw[hd];exact Bool.false_ne_true)];refine wpAny_bind (wpAny_pure ?_);refine wpAny_bind (wpAny_dictEntries ho hdat ?_);refine wpAny_bind (wpAny_dictEpoch ho hdat ?_);refine wpAny_bind (wpAny_newObj_type (wpAny_pure ⟨_,rfl,"dict_keyiterator",_,⟨_,get?_push_size _ rfl,rfl⟩,slot_dict_keyiterator_next.lookup,?_⟩));simpa [rawInt]using hQ
theorem on{it d:Addr}{i ep:Nat}{es:Array DictEntry}{e:DictEntry}{Q:Option Value→Shared→Prop}(hit:s.heap.IsKeyIter it d i es.size ep)(hm:sr s.heap d es ep)(hx:es[i]?=some e)(hQ:∀h',h'.IsKeyIter it d (i+1) es.size ep→SameBut it s.heap h'→Q (some e.key) {s with heap:=h'}):
  wpAny (model prog w) A (pyNext (.ref it)) Q E s:=by
 obtain⟨o,ho,hc,hd⟩:=id hit;obtain⟨od,hod,hcd,hdd⟩:=id hm;unfold pyNext;refine wpAny_bind (wpAny_attempt (wpAny_callSpecial?_slot (name:=ofString "__next__") hit.typeIs slot_dict_keyiterator_next
  (wpAny_call_entry slot_dict_keyiterator_next hit.typeIs PySem.F.entry_dict_keyiterator_next ?_ (PySem.F.args_dict_keyiterator_next_1 _))))
 refine wpAny_bind (wpAny_pure ?_);refine wpAny_bind ?_;refine wpAny_bind ?_
 first|refine wpAny_bind (wpAny_typeNameOfWhole_keyiter hit.typeIs (wpAny_pure ?_))|refine wpAny_bind (wpAny_typeNameOf_keyiter hit.typeIs (wpAny_pure ?_))
 refine wpAny_bind (wpAny_fieldsOf ho hd ?_);have hown:Builtin.Dict_items.ownsTuple "dict_keyiterator"=false:=by decide
 simp only[hown,false_eq_true,if_false];show wpAny _ _ (if (Value.ref d==Value.none)=true then _ else _) _ _ s
 rw[if_neg (show ¬((Value.ref d==Value.none)=true)from Bool.false_ne_true)];refine wpAny_bind (wpAny_pure ?_);refine wpAny_bind (wpAny_dictEntries hod hdd ?_);rw[if_neg (by simp)];refine wpAny_bind (wpAny_pure ?_);refine wpAny_bind (wpAny_dictEpoch hod hdd ?_);rw[if_neg (by simp)];refine wpAny_pure ?_;have hlt':i<es.size:=(Array.getElem?_eq_some_iff.mp hx).1;have he:es[i]=e:=(Array.getElem?_eq_some_iff.mp hx).2;simp only[show ¬((i:Int)<0)from by omega,if_false,toNat_natCast,Array.getElem?_eq_getElem hlt'];refine wpAny_bind ?_
 first|refine wpAny_bind (wpAny_typeNameOfWhole_keyiter hit.typeIs (wpAny_pure ?_))|refine wpAny_bind (wpAny_typeNameOf_keyiter hit.typeIs (wpAny_pure ?_))
 refine wpAny_bind (wpAny_isOneOf_keyiter hit.typeIs ?_);show wpAny _ _ (setField (.ref it) 1 (rawInt ((i:Int)+1)) >>= _) _ _ s;refine wpAny_bind (wpAny_setField ho hd (by simp) ?_);have hit':(s.heap.update it (Obj.mapFields (·.setIfInBounds 1 (rawInt ((i:Int)+1))))).IsKeyIter it d (i+1) es.size ep :=
  ⟨_,get?_update_self _ ho (Obj.isFreed_of_fields (Obj.data_mapFields hd _)),(Obj.cls_mapFields ..).trans hc,by rw[Obj.data_mapFields hd];simp[rawInt]⟩
 refine wpAny_bind (wpAny_holding ?_);refine wpAny_bind (wpAny_isOneOf_keyiter (s:={s with heap:=s.heap.update it (Obj.mapFields (·.setIfInBounds 1 (rawInt ((i:Int)+1))))}) hit'.typeIs ?_)
 show wpAny _ _ (pure es[i].key) _ _ _;rw[he];exact wpAny_pure (wpAny_pure ⟨_,rfl,wpAny_pure (hQ _ hit' (SameBut.update ..))⟩)
theorem qq{it d:Addr}{i ep:Nat}{es:Array DictEntry}{Q:Option Value→Shared→Prop}(hh:A.handled=none)(hit:s.heap.IsKeyIter it d i es.size ep)(hm:sr s.heap d es ep)(hge:es.size≤i)(hQ:∀h',ExtBut it s.heap h'→Q none {s with heap:=h'}):wpAny (model prog w) A (pyNext (.ref it)) Q E s:=by
 obtain⟨o,ho,hc,hd⟩:=id hit;obtain⟨od,hod,hcd,hdd⟩:=id hm;unfold pyNext;refine wpAny_bind (wpAny_attempt (wpAny_callSpecial?_slot (name:=ofString "__next__") hit.typeIs slot_dict_keyiterator_next
  (wpAny_call_entry slot_dict_keyiterator_next hit.typeIs PySem.F.entry_dict_keyiterator_next ?_ (PySem.F.args_dict_keyiterator_next_1 _))))
 refine wpAny_bind (wpAny_pure ?_);refine wpAny_bind ?_;refine wpAny_bind ?_
 first|refine wpAny_bind (wpAny_typeNameOfWhole_keyiter hit.typeIs (wpAny_pure ?_))|refine wpAny_bind (wpAny_typeNameOf_keyiter hit.typeIs (wpAny_pure ?_))
 refine wpAny_bind (wpAny_fieldsOf ho hd ?_);have hown:Builtin.Dict_items.ownsTuple "dict_keyiterator"=false:=by decide
 simp only[hown,false_eq_true,if_false];show wpAny _ _ (if (Value.ref d==Value.none)=true then _ else _) _ _ s
 rw[if_neg (show ¬((Value.ref d==Value.none)=true)from Bool.false_ne_true)];refine wpAny_bind (wpAny_pure ?_);refine wpAny_bind (wpAny_dictEntries hod hdd ?_);rw[if_neg (by simp)];refine wpAny_bind (wpAny_pure ?_);refine wpAny_bind (wpAny_dictEpoch hod hdd ?_);rw[if_neg (by simp)];refine wpAny_pure ?_;simp only[show ¬((i:Int)<0)from by omega,if_false,toNat_natCast,Array.getElem?_eq_none hge];refine wpAny_bind ?_
 first|refine wpAny_bind (wpAny_typeNameOfWhole_keyiter hit.typeIs (wpAny_pure ?_))|refine wpAny_bind (wpAny_typeNameOf_keyiter hit.typeIs (wpAny_pure ?_))
 show wpAny _ _ (setField (.ref it) 0 .none >>= _) _ _ s;refine wpAny_bind (wpAny_setField ho hd (by simp) ?_);show wpAny _ _ (newExc (.type "StopIteration") [] >>= _) _ _ _;refine wpAny_bind ?_;simp only[newExc,newTuple];refine wpAny_bind (wpAny_newObj_type ?_ (by size_fits));refine wpAny_bind (m:=firstArgMember _ _) (wpAny_of_eq (a:=Value.none) (by first|rfl|(simp only[firstArgMember];rfl)) ?_)
 refine wpAny_newObj_type ?_ (by size_fits);simp only[raiseNew];refine wpAny_bind (wpAny_handled ?_);rw[show A.in1.handled=none from hh];refine wpAny_bind (wpAny_pure (wpAny_throw ?_));refine wpAny_bind (wpAny_isInstance (T:="StopIteration") (b:=true) ⟨_,get?_push_size _ rfl,rfl⟩ isSubtype_stop ?_);exact wpAny_pure (hQ _ (((SameBut.update ..).extBut.push _).push _))
end
def Itk(d:Addr)(o:Obj)(u:HO)(ks:List V):It:=⟨λi H=>H d=some (.frz o u)∧i<ks.length,λi H x H'=>H'=H∧ks[i]?=some x,λi H=>H d=some (.frz o u)∧ks.length≤i⟩
theorem mE{P:Program}{w:World}{K:PySem.W.Frag}{tg:Expr}{d it:Addr}{o:Obj}{u:HO}{es:Array DictEntry}{ep:Nat}{ks:List V}(hx:o.ExactDict)(hd:o.data=.dict es ep)(hv:aq ks (es.toList.map (·.key))):
  Turn P w K tg (Itk d o u ks) [it] it (λi h=>h.IsKeyIter it d i es.size ep) where
 mem:=by simp
 obj:=λi h st b hb=>by
  have e:b=it:=by simpa using hb
  subst e;obtain⟨o,e,c,d⟩:=st;exact⟨o,e,λv z=>by rw[d]at z;cases z⟩
 keep:=λi h h' st k=>st.at λo e=>k it (by simp) o e
 item:=by
  intro X hP hw hK hc i pins s σ H E I hf st hg;subst hP hw hK;obtain⟨hH,hi⟩:=hg;have ho:=(I.hok d _ hH).1;have hl:ks.length=es.size:=by rw[hv.length,length_map,length_toList]
  have hi':i<es.size:=by omega
  obtain⟨v,hv1,hv2⟩:=hv.get (getElem?_eq_getElem hi);obtain⟨f0,f1,f2,f3,f4,f5⟩:=hf it (by simp);have ev:v=es[i].key:=by
   rw[getElem?_map,getElem?_toList,Array.getElem?_eq_getElem hi']at hv1;exact(Option.some.inj hv1).symm
  refine on st ⟨o,ho,hx,hd⟩ (Array.getElem?_eq_getElem hi') λh' st' sb=>?_;have I1:Inv X pins σ H {s with heap:=h'}:=I.turned (t':=s.toks) (λb o hb e=>(sb.2 b hb).trans e) f0 f1 f3 f4 f5
  obtain⟨oi,e,c,dd⟩:=id st';exact⟨_,rfl,lm (s:={s with heap:=h'}) e c dd (by decide) ⟨ks[i],H,I1,ev ▸ hv2,⟨rfl,getElem?_eq_getElem hi⟩,st',λb hb=>(hf b hb).1⟩⟩
 done:=by
  intro X hP hw hK hc i pins s σ H E I hf st hg;subst hP hw hK;obtain⟨hH,hi⟩:=hg;have ho:=(I.hok d _ hH).1;have hl:ks.length=es.size:=by rw[hv.length,length_map,length_toList]
  obtain⟨f0,f1,f2,f3,f4,f5⟩:=hf it (by simp);exact qq (I.ok.hd hc) st ⟨o,ho,hx,hd⟩ (by omega) λh' eb=>⟨rfl,I.turned (t':=s.toks) (λb o hb e=>eb b o hb e) f0 f1 f3 f4 f5⟩
 self:=λ_ _ _ _ _ st h=>wpAny_pyIter_keyiter st h
section
variable{X:Cx}{tg:Expr}
def iDF(td:TE):TI:=λσ H R=>td σ H λv H1=>∃d o kvs,v=.ref d∧H1 d=some (.frz o (.dK kvs))∧R (Itk d o (.dK kvs) (kvs.map λp=>kV p.1)) H1
theorem ug{l:Expr}{tl:TE}(hl:PE X l tl):PI X tg l (iDF tl):=by
 intro pins s σ H R I h;refine thn (hl pins s σ H _ I h) λv s1 hpt=>?_;obtain⟨x,H1,I1,r1,q1⟩:=hpt;obtain⟨d,o,kvs,e,hH,q⟩:=q1;subst e;cases r1;obtain⟨ho,_,hsm,vs,rel,o',es,ep,ho',hx,hd,hk,hp,hn⟩:=I1.hok d _ hH;rw[ho]at ho';cases ho';refine om hsm ⟨o,ho,hx,hd⟩ ?_;refine⟨s1.heap.objs.size,[s1.heap.objs.size],_,_,H1,rfl,I1.kept (t':=s1.toks) λb o e=>get?_push_of_some _ e,mE hx hd ?_,⟨_,get?_push_size _ rfl,rfl,rfl⟩,λb hb=>?_,q⟩
 ·have key:∀(es:List DictEntry)(vs:List (Key×Value))(kvs:List (Key×V)),Pairs (ak X.prog X.w) es vs→KV kvs vs→aq (kvs.map λp=>kV p.1) (es.map (·.key)):=by
   intro es vs kvs hp
   induction hp generalizing kvs with
   |nil=>intro r;cases r;exact .nil
   |cons h1 h2 _ ih =>
    intro r;cases r with
    |cons r1 r2 =>
     refine .cons ?_ (ih _ r2);dsimp only;rw[r1.1];rcases aB h1 with⟨i,t,e1,e2⟩|⟨x,t,e1,e2⟩
     ·rw[e1,e2];exact⟨t,rfl⟩
     ·rw[e1,e2];exact⟨t,rfl⟩
  exact key _ _ _ hp rel
 ·have e:b=s1.heap.objs.size:=by simpa using hb
  subst e;exact I1.fpOk (le_refl _) (I1.hok.fresh (le_refl _))
end
theorem mF:typeLookup (.type "list_reverseiterator") "__len__"=pure none:=by rw[typeLookup_type,builtinLookup_eq_fast];kernel_rfl
theorem oo:typeLookup (.type "list_reverseiterator") "__length_hint__"=pure (some (.builtin "list_reverseiterator.__length_hint__")):=by rw[typeLookup_type,builtinLookup_eq_fast];kernel_rfl
theorem qr:isSubtype (.type "list_reverseiterator") (.type "list_reverseiterator")=pure true:=by rw[isSubtype_type];kernel_rfl
section
variable{prog:Program}{w:World}{A:Around}{E:Value→Shared→Prop}{s:Shared}
theorem jo{I l:Addr}{items:Array Value}{Q:List Value→Shared→Prop}(hh:A.handled=none)(hI:s.heap.IsRevIter I l ((items.size:Int)-1))(hl:s.heap.IsList l items)(hne:l≠I)(hn:items.size≤sizeLine)(hQ:∀h' tk acc,(∀b o,b≠I→s.heap.get? b=some o→h'.get? b=some o)→acc=items.toList.reverse→Q acc {s with heap:=h',toks:=tk}):wpAny (model prog w) A (collect (.ref I)) Q E s:=by
 have W:=(Walks.listRev (prog:=prog) (w:=w) (show A.in1.handled=none by simp[hh]) I l hne items).toS;obtain⟨oI,hoI,_⟩:=id hI;obtain⟨oL,hoL,_⟩:=id hl;have ltI:I<s.heap.objs.size:=lt_size hoI;have ltL:l<s.heap.objs.size:=lt_size hoL;have hSf:s.heap.objs.size∉[I,l]:=by
  simp only[mem_cons,not_mem_nil,or_false,not_or];exact⟨ne_of_gt ltI,ne_of_gt ltL⟩
 have hSI:s.heap.objs.size≠I:=ne_of_gt ltI;have key:∀(s':Shared)(acc:Array Value),Moved [I] (λa b=>b=a) s s'→ItemsOf (λi v=>items[items.size-1-i]?=some v) acc items.size→Q acc.toList s':=by
  intro s' acc hm hacc;obtain⟨h',g',d',tk',os'⟩:=s';have eg:g'=s.gens:=hm.gens;have ed:d'=s.drawn:=hm.drawn;have eo:os'=s.os:=hm.os;subst eg;subst ed;subst eo;refine hQ h' tk' acc.toList (λb o hb e=>hm.heap b o (by simpa using hb) e) ?_;apply ext_getElem?;intro i;rw[getElem?_toList]
  by_cases hi:i<items.size
  ·have hi':i<acc.size:=by rw[hacc.1];exact hi
   have ha:acc[i]?=some acc[i]:=Array.getElem?_eq_getElem hi';rw[List.getElem?_reverse (by simpa using hi),ha,length_toList,getElem?_toList];exact(hacc.2 i _ ha).symm
  ·rw[Array.getElem?_eq_none (by rw[hacc.1];omega),getElem?_eq_none (by simp;omega)]
 have st0:∀o,(λ(i:Nat) (h:Heap)=>i≤items.size∧h.IsRevIter I l ((items.size:Int)-1-(i:Int))∧h.IsList l items) 0 (s.heap.push o):=λo=>by
  refine⟨zero_le _,?_,?_⟩
  ·rw[show(items.size:Int)-1-((0:Nat):Int)=(items.size:Int)-1 by omega];exact hI.at λo' e=>get?_push_of_some _ e
  ·exact hl.push _
 unfold collect;refine wpAny_bind (wpAny_runValue (codeAny_builtin PySem.F.entry_proto_collect ?_));rw[Around.under_plainId PySem.F.plain_proto_collect _];show wpAny _ A.in1 (newList [] >>= λl=>again (.builtin "list.__iadd__" ⟨[l,.ref I],[]⟩)) _ _ s;refine wpAny_bind (wpAny_newObj_type (wpAny_pure ⟨plainId_quiet plain_list_iadd _,codeAny_builtin PySem.F.entry_list_iadd ?_⟩));rw[Around.under_plainId plain_list_iadd _];have hTI:Shared.TypeIs {s with heap:=s.heap.push {cls:=.type "list",data:=.seq ([]:List Value).toArray}} (.ref I) "list_reverseiterator":=((st0 _).2.1).typeIs
 have h1:Builtin.List.listSameRef (.ref s.heap.objs.size) (.ref I)=false:=by simp[Builtin.List.listSameRef,hSI]
 show wpAny _ A.in1 (Builtin.List.listExtendWith (.ref s.heap.objs.size) (.ref I) (.ref s.heap.objs.size)) _ _ _;unfold Builtin.List.listExtendWith;refine wpAny_bind (wpAny_typeOf hTI ?_);rw[if_neg (by rw[h1];decide)];refine wpAny_bind (W.self 0 _ _ _ (st0 _) (wpAny_bind (wpAny_holding ?_)));unfold Builtin.List.listLengthHint;refine wpAny_bind (wpAny_specialOf hTI mF ?_);show wpAny _ A.in1 (specialOf (Value.ref I) (ofString "__length_hint__") >>= _) _ _ _;refine wpAny_bind (wpAny_specialOf hTI oo ?_);generalize hid:("list_reverseiterator.__length_hint__":String)=id0
 wp_delta
 rw[show splitId id0=some ("list_reverseiterator","__length_hint__")from by subst hid;decide +kernel];subst hid;refine wpAny_bind (wpAny_isInstance (b:=true) hTI qr (wpAny_pure ?_));rw[if_neg (by decide)];have hS:(s.heap.push {cls:=.type "list",data:=.seq ([]:List Value).toArray}).get? s.heap.objs.size=some {cls:=.type "list",data:=.seq ([]:List Value).toArray}:=get?_push_size _ rfl;refine wpAny_pure ⟨plainId_quiet plain_extend_loop _,codeAny_extend_loopS W hn _ hSf _ items.size 0 _ _ _ rfl (zero_le _) (st0 _) hS (ItemsOf.nil _) λs' acc c hm hS' hacc=>?_⟩;show wpAny _ A (load s.heap.objs.size >>= _) _ _ s';exact wpAny_bind (wpAny_load hS' (wpAny_pure (key s' acc (Moved.drop_new (o:={cls:=.type "list",data:=.seq ([]:List Value).toArray}) (tk:=s.toks) hm (le_refl _)) hacc)))
theorem fX{I l:Addr}{items:Array Value}{Q:Value→Shared→Prop}(hh:A.handled=none)(hI:s.heap.IsRevIter I l ((items.size:Int)-1))(hl:s.heap.IsList l items)(hne:l≠I)(hn:items.size≤sizeLine)(hQ:∀(h':Heap) (tk:Nat),(∀b o,b≠I→s.heap.get? b=some o→h'.get? b=some o)→Q (.ref h'.objs.size) {s with heap:=h'.push {cls:=.type "tuple",data:=.seq items.toList.reverse.toArray},toks:=tk}):
  wpAny (model prog w) A (call (.type "tuple") [.ref I]) Q E s:=by
 refine callType_codes (Q₁:=λobj s₁=>s₁.TypeIs obj "tuple"∧Q obj s₁) called_tuple (PySem.F.typeCall_tuple_1 _) PySem.F.entry_object_init ?_ λobj s₁ h₁=>?_
 ·refine codeAny_of_tree ?_;show wpAny _ A.in1.in1 (do checkBuiltinCall "tuple.__new__" ⟨[.type "tuple",.ref I],[]⟩;again (.builtin "tuple.__new__" ⟨[.type "tuple",.ref I],[]⟩)) _ _ s
  refine wpAny_bind (wpAny_of_eq (PySem.F.newCall_tuple_1 _) (wpAny_pure ⟨plainId_quiet PySem.F.plain_tuple_new _,codeAny_builtin PySem.F.entry_tuple_new ?_⟩));rw[Around.under_plainId PySem.F.plain_tuple_new _];have hsub:=sub_tuple_self;have hinit:=init_tuple_lookup;have hmh:=madeHere_tuple;have hTI:s.TypeIs (.ref I) "list_reverseiterator":=hI.typeIs
  wp_walk using wpAny_typeOf hTI,jo (show A.in1.in1.handled=none by simp[hh]) hI hl hne hn
  intro h' tk acc hk hacc;subst hacc;refine wpAny_bind (wpAny_pure ?_);show wpAny _ _ (Builtin.Tuple.tupleExact items.toList.reverse.toArray >>= λv=>ret v) _ _ _;unfold Builtin.Tuple.tupleExact;have hsz:items.toList.reverse.toArray.size≤sizeLine:=by simpa using hn
  exact wpAny_bind (wpAny_newObj_type (wpAny_pure ⟨⟨_,get?_push_size _ rfl,rfl⟩,hQ h' tk hk⟩) hsz)
 ·exact⟨h₁.1,PySem.F.args_object_init_2 obj _,object_init_meets called_tuple.init.lookup called_tuple.made (by decide) prog w A.in1 _ s₁ ⟨h₁.1,rfl,h₁.2⟩⟩
end
section
variable{X:Cx}
def qt(te:TE):TE:=λσ H Q=>nE te rL σ H λvs H1=>∃l ys,vs=[.ref l]∧H1 l=some (.lst ys)∧∀p,H1 p=none→Q (.ref p) (upd H1 p (.tup ys.reverse))
theorem mH{e:Expr}{te:TE}{q1 q2 p1 p2:Pos}(hc:X.calm=true)(hg:Gl X "tuple")(hm:X.mg "tuple"=none)(hg':Gl X "reversed")(hm':X.mg "reversed"=none)(he:PE X e te)(s1:starEach [e] X.env=[(false,eval e X.env)]:=by rfl)(s2:starEach [.Call (.Name "reversed" q1) [e] [] p1] X.env=[(false,eval (.Call (.Name "reversed" q1) [e] [] p1) X.env)]:=by rfl):
  PE X (.Call (.Name "tuple" q2) [.Call (.Name "reversed" q1) [e] [] p1] [] p2) (qt te):=by
 intro pins s σ H Q I h;refine wpAny_Call_Name_kw (cI I hg hm boot_tuple ?_ (by decide) (by decide));refine PyProof.Rows.callWith_type1 ?_ s2 rfl;rw[s2];refine spliced_cons ?_;refine wpAny_Call_Name_kw (cI I hg' hm' PyProof.Rows.boot_reversed ?_ (by decide) (by decide));have hA:PA X [e] (nE te rL):=aa he af s1;refine PyProof.Rows.callWith_type1 (thn (hA p1 pins s σ H _ I h) λus s3 ⟨vs,H1,I1,r1,q1⟩=>?_) s1 rfl;obtain⟨l,ys,rfl,hl,q⟩:=q1;obtain⟨u,rfl,ru⟩:=cy r1;cases ru;obtain⟨hz,its,n,rv,ho⟩:=I1.hok l _ hl;have hL:s3.heap.IsList l its.toArray:=⟨_,ho,rfl,n,rfl⟩;have hlen:its.toArray.size≤sizeLine:=by rw[size_toArray,←rv.length];exact hz
 refine call_reversed_list hL (spliced_nil ?_);have ltl:l<s3.heap.objs.size:=lt_size ho;refine fX (s:={s3 with heap:=s3.heap.push (revObj l ((its.toArray.size:Int)-1))}) (items:=its.toArray) (I.ok.hd hc) ⟨_,get?_push_size _ rfl,rfl,rfl⟩ (hL.push _) (ne_of_lt ltl) hlen λh' tk hk=>?_
 have k0:∀b o,s3.heap.get? b=some o→h'.get? b=some o:=λb o e=>hk b o (ne_of_lt (lt_size e)) (get?_push_of_some _ e);have I2:Inv X pins σ H1 {s3 with heap:=h',toks:=tk}:=I1.kept (t':=tk) k0
 have er:its.toArray.toList.reverse.toArray=its.reverse.toArray:=by simp
 rw[er];have I3:Inv X pins σ (upd H1 h'.objs.size (.tup ys.reverse)) {s3 with heap:=h'.push {cls:=.type "tuple",data:=.seq its.reverse.toArray},toks:=tk} :=
  I2.laid (t':=tk) (λb o e=>get?_push_of_some _ e) (le_refl _) (show aT X.prog X.w _ _ _ (.tup ys.reverse)from⟨by rw[List.length_reverse];exact hz,its.reverse,rv.reverse,IsTup.new _ _⟩)
 exact⟨.ref h'.objs.size,_,I3,rfl,q _ (I2.hok.fresh (le_refl _))⟩
end
end L2
namespace HT
open PySem PyProof.Rows
def cZ(x y:Str):Bool:=decide (x.cps.toList<y.cps.toList)
def bi:List Str→List Str→Bool
 |[],[]=>false
 |[],_::_=>true
 |_::_,[]=>false
 |x::xs,y::ys=>if x=y then bi xs ys else cZ x y
theorem cC(x y:Str)(xs ys:List Str):bi (x::xs) (y::ys)=if x=y then bi xs ys else cZ x y:=rfl
theorem iG:bi [] []=false:=rfl
theorem gE(y:Str)(ys:List Str):bi [] (y::ys)=true:=rfl
theorem gF(x:Str)(xs:List Str):bi (x::xs) []=false:=rfl
theorem qu{x y:Str}(h:x.cps.toList=y.cps.toList):x=y:=by
 obtain⟨x⟩:=x;obtain⟨y⟩:=y
 congr
 exact toList_inj.mp h
theorem mI(x:Str):cZ x x=false:=decide_eq_false (List.lt_irrefl _)
theorem oq{x y z:Str}(h1:cZ x y=true)(h2:cZ y z=true):cZ x z=true:=by
 unfold cZ at *;rw[decide_eq_true_eq]at *;exact List.lt_trans h1 h2
theorem mJ{x y:Str}(h:x≠y):cZ x y=true∨cZ y x=true:=by
 unfold cZ;rw[decide_eq_true_eq,decide_eq_true_eq];rcases Decidable.em (x.cps.toList<y.cps.toList)with a|a
 ·exact .inl a
 ·refine .inr ?_;have hle:y.cps.toList≤x.cps.toList:=not_lt.mp a;rcases Decidable.em (y.cps.toList<x.cps.toList)with b|b
  ·exact b
  ·have hle2:x.cps.toList≤y.cps.toList:=not_lt.mp b;exact absurd (qu (List.le_antisymm hle2 hle)) h
theorem ba:∀p:List Str,bi p p=false
 |[]=>rfl
 |x::p=>by rw[cC,if_pos rfl];exact ba p
theorem ft:∀{p q r:List Str},bi p q=true→bi q r=true→bi p r=true
 |[],[],_,h,_=>by cases h
 |[],_::_,[],_,h=>by cases h
 |[],_::_,_::_,_,_=>rfl
 |_::_,[],_,h,_=>by cases h
 |_::_,_::_,[],_,h=>by cases h
 |x::p,y::q,z::r,h1,h2=>by
  rw[cC]at h1 h2⊢
  by_cases a:x=y
  ·subst a;rw[if_pos rfl]at h1
   by_cases b:x=z
   ·rw[if_pos b]at h2⊢;exact ft h1 h2
   ·rw[if_neg b]at h2⊢;exact h2
  ·rw[if_neg a]at h1
   by_cases b:y=z
   ·subst b;rw[if_neg a];exact h1
   ·rw[if_neg b]at h2;have h3:=oq h1 h2;have c:x≠z:=λe=>by
     subst e;rw[mI]at h3;cases h3
    rw[if_neg c];exact h3
theorem jp:∀{p q:List Str},p≠q→bi p q=true∨bi q p=true
 |[],[],h=>absurd rfl h
 |[],_::_,_=>.inl rfl
 |_::_,[],_=>.inr rfl
 |x::p,y::q,h=>by
  rw[cC,cC]
  by_cases a:x=y
  ·subst a;rw[if_pos rfl,if_pos rfl];exact jp λe=>h (by rw[e])
  ·rw[if_neg a,if_neg (symm a)];exact mJ a
theorem ou(A:Around)(s:Shared)(a:Str)(t:Tok)(c:Str)(u:Tok):∃e,EqAt A s (.str a t) (.str c u) e∧(e=true↔a=c) :=
 ⟨decide (a=c),λprog w E Q h=>wpAny_eqBool_str h,by simp⟩
theorem ow(A:Around)(s:Shared)(a:Str)(t:Tok)(c:Str)(u:Tok)(prog:Program)(w:World)(E:Value→Shared→Prop)(Q:Value→Shared→Prop)(h:Q (.bool (cZ a c)) s):
  wpAny (model prog w) A (richCompare .Lt (.str a t) (.str c u)) Q E s :=
 (lt_str h:wpAny (model prog w) A (compareOp .Lt (.str a t) (.str c u)) Q E s)
section
open PySem.SeqAt
open PySem.AutoSeq1 (wpAny_loadPart')
open PySem.MeetsSeq PySem.MeetsSeq2 PySem.MeetsSeq3
theorem gG(l b:Addr)(items items2:Array Value)(n n2:Nat)(dd dd2:Option Addr)(sl sl2:Array (Option Value))(ns ms:List Str)(hi:StrsAre items.toList ns)(hj:StrsAre items2.toList ms):
  Meets (Builtin.«tuple.__lt__» ⟨[.ref l,.ref b],[]⟩)
   (λ_ R s=>s.heap.get? l=some {cls:=.type "tuple",dict:=dd,data:=.seq items n,slots:=sl}∧s.heap.get? b=some {cls:=.type "tuple",dict:=dd2,data:=.seq items2 n2,slots:=sl2} ∧
    R (.ok (.ret (.bool (bi ns ms)))) s) :=
 .of_wp λprog w A R s h=>by
  obtain⟨hp,g,d,tk,os⟩:=s;obtain⟨hl,hb,h⟩:=h;have f2:=AutoSeq1.sub_tuple_tuple;have z1:items.size=ns.length:=by rw[←hi.length];simp
  have z2:items2.size=ms.length:=by rw[←hj.length];simp
  wp_walk using wpAny_loadPart' hl,wpAny_loadPart' hb,wpAny_forIn_list _ (λrest b s'=>b.1=none∧s'=⟨hp,g,d,tk,os⟩∧∃(vs ws:List Value) (ns' ms':List Str),rest=vs.zip ws ∧
   StrsAre vs ns'∧StrsAre ws ms'∧ns'.length+items2.size=ms'.length+items.size∧R (.ok (.ret (.bool (bi ns' ms')))) ⟨hp,g,d,tk,os⟩) _
  case turn =>
   rintro⟨y,x⟩ rest b s' ⟨hb',rfl,vs,ws,ns',ms',hz,hvi,hwi,hlen,hR⟩;cases hvi with
   |nil=>rw[List.zip_nil_left]at hz;cases hz
   |cons a t hvi' =>
    cases hwi with
    |nil=>rw[List.zip_nil_right]at hz;cases hz
    |cons c u hwi' =>
     rw[zip_cons_cons]at hz;injection hz with hyx hrest
     injection hyx with hy hx
     subst hy hx;rw[cC]at hR;simp only[length_cons]at hlen;obtain⟨e,he,hiff⟩:=ou A.in1 ⟨hp,g,d,tk,os⟩ a t c u;refine wpAny_bind (he prog w _ _ ?_);cases e with
     |true =>
      rw[if_pos (hiff.mp rfl)]at hR
      wp_walk
      exact⟨rfl,rfl,_,_,_,_,hrest,hvi',hwi',by omega,hR⟩
     |false =>
      rw[if_neg (λq=>absurd (hiff.mpr q) Bool.false_ne_true)]at hR;have hri:=ow A.in1 ⟨hp,g,d,tk,os⟩ a t c u prog w
      wp_walk using hri
      exact⟨_,rfl,by simpa using hR⟩
  case fin =>
   rintro⟨b1,b2⟩ s' ⟨hb',rfl,vs,ws,ns',ms',hz,hvi,hwi,hlen,hR⟩;simp only at hb';subst hb';have hv:bi ns' ms'=decide (items.size<items2.size):=by
    cases hvi with
    |nil =>
     cases hwi with
     |nil =>
      simp only[length_nil]at hlen;rw[iG];exact(decide_eq_false (by omega)).symm
     |cons c u hw =>
      simp only[length_nil,length_cons]at hlen;rw[gE];exact(decide_eq_true (by omega)).symm
    |cons a t hv =>
     cases hwi with
     |nil =>
      simp only[length_nil,length_cons]at hlen;rw[gF];exact(decide_eq_false (by omega)).symm
     |cons c u hw =>
      rw[zip_cons_cons]at hz;cases hz
   rw[hv]at hR
   wp_walk
   exact⟨_,rfl,by simpa [Builtin.Tuple.tupleCompareSizes]using hR⟩
  case h =>
   exact⟨rfl,rfl,items.toList,items2.toList,ns,ms,rfl,hi,hj,by omega,h⟩
end
section
variable{prog:Program}{w:World}{A:Around}{E:Value→Shared→Prop}{s:Shared}
theorem kx{l b:Addr}{items items2:Array Value}{ns ms:List Str}{Q:Value→Shared→Prop}(hl:IsTup s.heap l items)(hb:IsTup s.heap b items2)(hi:StrsAre items.toList ns)(hj:StrsAre items2.toList ms)(hu:A.units<cLine)(h:Q (.bool (bi ns ms)) s):wpAny (model prog w) A (compareOp .Lt (.ref l) (.ref b)) Q E s:=by
 obtain⟨⟨cls,dd,data,sl⟩,ho,hc,n,hd⟩:=id hl;obtain⟨⟨cls2,dd2,data2,sl2⟩,ho2,hc2,n2,hd2⟩:=id hb;simp only at hc hd hc2 hd2;subst hc hd hc2 hd2;exact richCompare_meets_room (op:=.Lt) ⟨_,ho,rfl⟩ ⟨_,ho2,rfl⟩ PySem.F.slot_tuple_lt PySem.F.entry_tuple_lt (PySem.F.args_tuple_lt_2 _ _) (gG l b items items2 n n2 dd dd2 sl sl2 ns ms hi hj)
  ⟨ho,ho2,show Value.bool (bi ns ms)≠Value.notImplemented∧Q (.bool (bi ns ms)) s from⟨(λx=>nomatch x),h⟩⟩ hu
end
end HT
namespace L2
open PySem PySem.Spec PyProof.Rows
section
variable{X:Cx}
theorem oz{α β:Type}{l:List α}{f:α→β}{d:α}{e:β}{i:Nat}(h:i<l.length):(l.map f).getD i e=f (l.getD i d):=by
 rw[getD_eq_getElem?_getD,getD_eq_getElem?_getD,getElem?_map,getElem?_eq_getElem h];rfl
theorem ia{α:Type}{zs:List α}{val:α→V}{d:α}:∀{us:List Value},aq (zs.map val) us→∀(ps:List Nat),(∀i∈ps,i<zs.length)→aq ((ps.map λi=>zs.getD i d).map val) (ps.map λi=>us.getD i Value.none):=by
 intro us rv ps
 induction ps with
 |nil=>intro _;exact .nil
 |cons i ps ih =>
  intro h;refine .cons ?_ (ih λj hj=>h j (by simp[hj]));have hi:=h i (by simp);obtain⟨u,hu,r⟩:=rv.get (i:=i) (x:=val (zs.getD i d)) (by rw[getElem?_map,(aQ (d:=d) hi).2];rfl);have:us.getD i Value.none=u:=by rw[getD_eq_getElem?_getD,hu];rfl
  show av (val (zs.getD i d)) (us.getD i Value.none);rw[this];exact r
theorem eY{α:Type}{zs:List α}{val:α→V}{d:α}{us:List Value}{f:α→α→Bool}{l:Addr}{pins:List (Addr×Obj)}{σ:St}{H:Hp}{s:Shared}{Q:VK}{κ:SortKind}{E:Value→Shared→Prop}(I:Inv X pins σ H s)(rv:aq (zs.map val) us)(O:SRT.Ord (λi j=>f (zs.getD i d) (zs.getD j d)) zs.length)(pl:s.heap.IsList l us.toArray)(h64:zs.length<64)(hk:∀(A':Around) (s':Shared),A'.units≤X.A.units+2→(∀b o,s.heap.get? b=some o→s'.heap.get? b=some o)→∀Q:SortKind→Shared→Prop,2≤zs.length→Q κ s'→wpAny (model X.prog X.w) A' (keyKind' us.toArray) Q (λ_ _=>False) s')(hlt:∀(A':Around) (s':Shared),A'.units≤X.A.units+2→(∀b o,s.heap.get? b=some o→s'.heap.get? b=some o)→∀(i j:Nat) (C:Bool→Shared→Prop),i<zs.length→j<zs.length→C (f (zs.getD i d) (zs.getD j d)) s'→wpAny (model X.prog X.w) A' (keyLt' κ (us.getD i Value.none) (us.getD j Value.none)) C (λ_ _=>False) s')(q:∀zs':List α,zs'.Perm zs→zs'.Pairwise (λa b=>f a b=true)→∀p,H p=none→Q (.ref p) (upd H p (.lst (zs'.map val)))):wpAny (model X.prog X.w) X.A (call (.builtin "sorted") [.ref l]) (EP X pins σ Q) E s:=by
 have hlen:us.length=zs.length:=by rw[←rv.length,length_map]
 refine SRT.mw (κ:=κ) (f:=λi j=>f (zs.getD i d) (zs.getD j d)) (by rw[hlen];exact O) pl (by rw[hlen];exact h64) (λA' s' h1 h2 Q' h3=>hk A' s' h1 h2 Q' (by omega)) (λA' s' h1 h2 i j C hi hj=>hlt A' s' h1 h2 i j C (by omega) (by omega)) ?_;intro p h' hrow hup kp _ hg;obtain⟨c,hg⟩:=hg;rw[hlen]at hrow hup;have hin:∀i∈p.toList,i<zs.length:=λi hi=>mem_range.mp (hrow.perm.mem_iff.mp hi);have hperm:(p.toList.map λi=>zs.getD i d).Perm zs:=by
  refine(hrow.perm.map _).trans ?_;have:(List.range zs.length).map (λi=>zs.getD i d)=zs:=by
   apply ext_getElem?;intro i;rw[getElem?_map]
   by_cases hi:i<zs.length
   ·rw[List.getElem?_range hi,(aQ (d:=d) hi).2];rfl
   ·rw[getElem?_eq_none (by rw[length_range];omega),getElem?_eq_none (by omega)];rfl
  rw[this]
 have hpl:p.size=zs.length:=hrow.size;have hpw:(p.toList.map λi=>zs.getD i d).Pairwise (λa b=>f a b=true):=by
  rw[pairwise_iff_getElem];intro i j hi hj hij;have hi':i<p.size:=by rw[length_map,length_toList]at hi;exact hi
  have hj':j<p.size:=by rw[length_map,length_toList]at hj;exact hj
  have:=hup i j hij (by omega);simp only[]at this;rw[getD_eq_getD_getElem?,getD_eq_getD_getElem?,Array.getElem?_eq_getElem hi',Array.getElem?_eq_getElem hj']at this;simpa using this
 refine⟨.ref (s.heap.objs.size+1),_,I.laid (t':=s.toks) (o:=.lst ((p.toList.map λi=>zs.getD i d).map val)) kp (le_succ _) ⟨?_,_,c,ia rv p.toList hin,hg⟩,rfl,q _ hperm hpw _ (I.hok.fresh (le_succ _))⟩;rw[length_map,hperm.length_eq,sizeLine_eq];omega
theorem lL{ns:List Int}{us:List Value}(r:aq (ns.map V.int) us):IntsAre us ns:=jZ r
theorem eO:bZ X (.builtin "sorted") (λxs H Q=>∃l,∃ns:List Int,xs=[.ref l]∧H l=some (.lst (ns.map V.int))∧ns.Nodup∧ns.length<64 ∧
  ∀ms:List Int,ms.Perm ns→ms.Pairwise (λa b=>a<b)→∀p,H p=none→Q (.ref p) (upd H p (.lst (ms.map V.int)))):=by
 intro pins s σ H xs us Q I r h;obtain⟨l,ns,rfl,hl,hnd,h64,q⟩:=h;obtain⟨u,rfl,ru⟩:=cy r;cases ru;obtain⟨_,its,n,rv,ho⟩:=I.hok l _ hl;have hI:=lL rv;have hlen:its.length=ns.length:=by rw[←rv.length,length_map]
 refine eY (val:=V.int) (d:=(0:Int)) (f:=λa b=>decide (a<b)) (κ:=oneType') I rv ⟨λi _=>by simp,λi j k _ _ _ h1 h2=>?_,λi j hi hj hij=>?_⟩ ⟨_,ho,rfl,n,rfl⟩ h64 (λA' s' _ _ Q' h2 hQ=>?_) (λA' s' _ _ i j C hi hj hC=>?_) λzs' h1 h2 p hp=>q zs' h1 (h2.imp λh=>by simpa using h) p hp
 ·simp only[decide_eq_true_eq]at *;omega
 ·simp only[decide_eq_true_eq];have:ns.getD i 0≠ns.getD j 0:=by
   rw[getD_eq_getElem?_getD,getD_eq_getElem?_getD,getElem?_eq_getElem hi,getElem?_eq_getElem hj];exact λe=>hij ((getElem_inj hnd).mp e)
  omega
 ·rw[ksk_kind (keys:=its.toArray) (kz:=ns) (by simpa using hI) (by rw[size_toArray];omega)];exact wpAny_pure hQ
 ·have gi:∀i,i<ns.length→∃t,its.getD i Value.none=.int (ns.getD i 0) t:=λi hi=>by
   obtain⟨v,hv,r⟩:=rv.get (i:=i) (x:=.int (ns.getD i 0)) (by rw[getElem?_map,(aQ (d:=(0:Int)) hi).2];rfl);obtain⟨t,rfl⟩:=r;exact⟨t,by rw[getD_eq_getElem?_getD,hv];rfl⟩
  obtain⟨t,e1⟩:=gi i hi;obtain⟨t',e2⟩:=gi j hj;rw[e1,e2];exact kat_lt_int hC
structure Cp where
 a:Addr
 t:Addr
 p:List Str
 n:Int
def ky(H:Hp)(z:Cp):Prop:=H z.a=some (.tup [.ref z.t,.int z.n])∧H z.t=some (.tup (z.p.map V.str))
theorem lM:∀{ps:List Str}{us:List Value},aq (ps.map V.str) us→StrsAre us ps
 |[],_,.nil=>.nil
 |p::ps,_,.cons ⟨t,e⟩ r=>by subst e;exact .cons p t (lM r)
theorem fm(hu:X.A.units+8<cLine):bZ X (.builtin "sorted") (λxs H Q=>∃l,∃zs:List Cp,xs=[.ref l]∧H l=some (.lst (zs.map λz=>V.ref z.a))∧(∀z∈zs,ky H z)∧(zs.map (·.p)).Nodup∧zs.length<64 ∧
  ∀zs':List Cp,zs'.Perm zs→zs'.Pairwise (λa b=>HT.bi a.p b.p=true)→∀p,H p=none→Q (.ref p) (upd H p (.lst (zs'.map λz=>V.ref z.a)))):=by
 intro pins s σ H xs us Q I r h;obtain⟨l,zs,rfl,hl,hk,hnd,h64,q⟩:=h;obtain⟨u,rfl,ru⟩:=cy r;cases ru;obtain⟨_,its,n,rv,ho⟩:=I.hok l _ hl
 let d:Cp:=⟨0,0,[],0⟩
 have hlen:its.length=zs.length:=by rw[←rv.length,length_map]
 have gi:∀i,i<zs.length→its.getD i Value.none=.ref (zs.getD i d).a:=λi hi=>by
  obtain⟨v,hv,r⟩:=rv.get (i:=i) (x:=.ref (zs.getD i d).a) (by rw[getElem?_map,(aQ (d:=d) hi).2];rfl);cases r;rw[getD_eq_getElem?_getD,hv];rfl
 have eits:its=zs.map λz=>Value.ref z.a:=by
  have key:∀(l:List Cp)(us:List Value),aq (l.map λz=>V.ref z.a) us→us=l.map λz=>Value.ref z.a:=by
   intro l
   induction l with
   |nil=>intro us r;cases r;rfl
   |cons z l ih =>
    intro us r;cases r with
    |cons r1 r2 =>
     rw[ih _ r2];cases r1;rfl
  exact key zs its rv
 have hobj:∀z∈zs,∃t',IsTup s.heap z.a #[.ref z.t,.int z.n t']:=λz hz=>by
  obtain⟨u,v,r1,r2,ht⟩:=ol I (hk z hz).1;cases r1;obtain⟨t',rfl⟩:=r2;exact⟨t',ht⟩
 have htup:∀z∈zs,∃ws:List Value,StrsAre ws z.p∧IsTup s.heap z.t ws.toArray:=λz hz=>by
  obtain⟨_,ws,r1,ht⟩:=I.hok z.t _ (hk z hz).2;exact⟨ws,lM r1,ht⟩
 have kept:∀{s':Shared}{a:Addr}{xs:Array Value},(∀b o,s.heap.get? b=some o→s'.heap.get? b=some o)→IsTup s.heap a xs→IsTup s'.heap a xs:=λk ⟨o,e,r⟩=>⟨o,k _ o e,r⟩;refine eY (val:=λz:Cp=>V.ref z.a) (d:=d) (f:=λa b=>HT.bi a.p b.p) (κ:=tuples' false) I rv ⟨λi _=>HT.ba _,λi j k _ _ _ h1 h2=>HT.ft h1 h2,λi j hi hj hij=>HT.jp ?_⟩ ⟨_,ho,rfl,n,rfl⟩ h64 (λA' s' _ kp Q' h2 hQ=>?_) (λA' s' hA kp i j C hi hj hC=>?_) q
 ·intro e;have e':(zs.map (·.p))[i]'(by simpa using hi)=(zs.map (·.p))[j]'(by simpa using hj):=by
   have h1:=(aQ (d:=d) hi).2;have h2:=(aQ (d:=d) hj).2;rw[getElem_map,getElem_map,(List.getElem?_eq_some_iff.mp h1).2,(List.getElem?_eq_some_iff.mp h2).2];exact e
  exact hij ((getElem_inj hnd).mp e')
 ·have key:∀ys:List Cp,(∀z∈ys,z∈zs)→KatTups s'.heap (ys.map λz=>Value.ref z.a) (ys.map λz=>Value.ref z.t):=by
   intro ys
   induction ys with
   |nil=>intro _;exact KatTups.nil
   |cons z ys ih =>
    intro hm;obtain⟨t',o,e1,e2,n',e3⟩:=hobj z (hm z (by simp));exact KatTups.cons (kp _ _ e1) e2 e3 rfl (ih λy hy=>hm y (by simp[hy]))
  rw[eits];refine kat_kind (T:=.type "tuple") (key zs λz hz=>hz) (by rw[length_map];omega) (λv hv=>?_) (by rfl) hQ;obtain⟨z,hz,rfl⟩:=mem_map.mp hv;obtain⟨ws,_,o,e1,e2,_⟩:=htup z hz;exact e2 ▸ (Looks.ld (kp _ _ e1)).andThen .now
 ·rw[gi i hi,gi j hj];have mi:=(aQ (d:=d) hi).1;have mj:=(aQ (d:=d) hj).1;generalize zs.getD i d=zi at mi hC⊢;generalize zs.getD j d=zj at mj hC⊢;obtain⟨ti,oi,a1,a2,ni,a3⟩:=hobj zi mi;obtain⟨tj,oj,b1,b2,nj,b3⟩:=hobj zj mj;refine kat_lt (kp _ _ a1) a3 (kp _ _ b1) b3 ?_;obtain⟨wi,si,pi⟩:=htup zi mi;obtain⟨wj,sj,pj⟩:=htup zj mj;have hu1:A'.units<cLine:=by omega
  have ki:IsTupleKey (ak X.prog X.w) s'.heap (zi.p.map Sum.inr) zi.t:=by
   obtain⟨o,its',n',ho',r⟩:=og (ks:=zi.p.map Sum.inr) I (by rw[map_map];exact(hk zi mi).2) X.prog X.w;exact⟨o,its',n',kp _ _ ho',r⟩
  have kj:IsTupleKey (ak X.prog X.w) s'.heap (zj.p.map Sum.inr) zj.t:=by
   obtain⟨o,its',n',ho',r⟩:=og (ks:=zj.p.map Sum.inr) I (by rw[map_map];exact(hk zj mj).2) X.prog X.w;exact⟨o,its',n',kp _ _ ho',r⟩
  refine kat_cons (wpAny_eqBool_tuple (knd:=ak X.prog X.w) hu1 ki kj ?_)
  by_cases e:zi.p=zj.p
  ·rw[e,decide_eq_true rfl];have hC':C false s':=by rw[e,HT.ba]at hC;exact hC
   have en:zi=zj:=by
    obtain⟨x,hx,ex⟩:=mem_iff_getElem.mp mi;obtain⟨y,hy,ey⟩:=mem_iff_getElem.mp mj;have e':(zs.map (·.p))[x]'(by simpa using hx)=(zs.map (·.p))[y]'(by simpa using hy):=by rw[getElem_map,getElem_map,ex,ey];exact e
    have:=(getElem_inj hnd).mp e';subst this;rw[←ex,←ey]
   subst en;refine kat_yes (kat_cons (wpAny_eqBool_int ?_));rw[beq_self_eq_true];exact kat_yes (PySem.W.kat_nil (by simpa using hC'))
  ·have hne:¬(zi.p.map Sum.inr:List Key)=zj.p.map Sum.inr:=λz=>e (by
    have:=congrArg (List.map λk:Key=>match k with | .inr x=>x | .inl _=>Str.empty) z;simpa [map_map,Function.comp_def]using this)
   rw[decide_eq_false hne];refine kat_no (PySem.W.kat_one _ _ ?_);exact HT.kx (kept kp pi) (kept kp pj) (by simpa using si) (by simpa using sj) hu1 hC
end
def jq(H:Hp):Nat→V→V→Prop
 |0,x,y=>x=y∧dM x=true
 |n+1,x,y=>(x=y∧dM x=true)∨∃a b xs ys,x=.ref a∧y=.ref b∧H a=some (.tup xs)∧H b=some (.tup ys)∧xs.length=ys.length∧∀(i:Nat) x' y',xs[i]?=some x'→ys[i]?=some y'→jq H n x' y'
theorem jr{x:V}(f:dM x=true):eqV x x=true:=by
 cases x<;>first|rfl|(simp[eqV];done) | (exact absurd (show false=true from f) Bool.false_ne_true)
theorem cj{H:Hp}{n:Nat}{x y:V}(h:x=y∧dM x=true):jq H n x y:=by
 cases n with
 |zero=>exact h
 |succ n=>exact .inl h
section
variable{X:Cx}{pins:List (Addr×Obj)}{σ:St}{H:Hp}{s:Shared}
theorem oA(I:Inv X pins σ H s):∀(n:Nat){A:Around}{x y:V}{u v:Value},av x u→av y v→jq H n x y→A.units+n<cLine→EqAt A s u v true:=by
 intro n
 induction n with
 |zero =>
  intro A x y u v ru rv h hu;obtain⟨e,f⟩:=h;subst e;have:=ka (A:=A) (s:=s) ru rv f f;rw[jr f]at this;exact this
 |succ n ih =>
  intro A x y u v ru rv h hu;rcases h with⟨e,f⟩|⟨a,b,xs,ys,rfl,rfl,ha,hb,hl,hx⟩
  ·subst e;have:=ka (A:=A) (s:=s) ru rv f f;rw[jr f]at this;exact this
  ·cases ru;cases rv
   by_cases hab:a=b
   ·subst hab;exact EqAt.same _
   ·obtain⟨_,us,r1,t1⟩:=I.hok a _ ha;obtain⟨_,ws,r2,t2⟩:=I.hok b _ hb;have l1:=r1.length;have l2:=r2.length;have:=SeqAt.RcAt.tuples (A:=A) (s:=s) (e:=λ_=>true) t1 t2 (by omega) (λj h1 h2=>by
     have h1':j<xs.length:=by rw[l1];simpa using h1
     have h2':j<ys.length:=by rw[l2];simpa using h2
     obtain⟨u',hu1,hu2⟩:=r1.get (getElem?_eq_getElem h1');obtain⟨v',hv1,hv2⟩:=r2.get (getElem?_eq_getElem h2');have e1:us.toArray[j]=u':=by
      have:us[j]?=some us.toArray[j]:=by rw[getElem?_eq_getElem (by simpa using h1)];simp
      rw[hu1]at this;exact(Option.some.inj this).symm
     have e2:ws.toArray[j]=v':=by
      have:ws[j]?=some ws.toArray[j]:=by rw[getElem?_eq_getElem (by simpa using h2)];simp
      rw[hv1]at this;exact(Option.some.inj this).symm
     rw[e1,e2];exact ih hu2 hv2 (hx j _ _ (getElem?_eq_getElem h1') (getElem?_eq_getElem h2')) (by simp[Around.in1_units];omega))
    have e3:((List.range (min us.toArray.size ws.toArray.size)).all (λ_=>true)&&us.toArray.size==ws.toArray.size)=true:=by
     have:us.toArray.size=ws.toArray.size:=by simp only[size_toArray];omega
     simp[this]
    rw[e3]at this;exact EqAt.of_refs hab this
def ck(H:Hp)(xs ys:List V):Prop:=xs.length=ys.length∧∀(i:Nat) x y,xs[i]?=some x→ys[i]?=some y→jq H 3 x y
theorem dX{pins:List (Addr×Obj)}{σ:St}{H:Hp}{s:Shared}(I:Inv X pins σ H s){xs ys:List V}{us ws:List Value}(r1:aq xs us)(r2:aq ys ws)(h:ck H xs ys){A:Around}(hu:A.units+3<cLine):
  ∀j (h1:j<us.toArray.size) (h2:j<ws.toArray.size),EqAt A s us.toArray[j] ws.toArray[j] true:=λj h1 h2=>by
 have h1':j<xs.length:=by rw[r1.length];simpa using h1
 have h2':j<ys.length:=by rw[r2.length];simpa using h2
 obtain⟨u',hu1,hu2⟩:=r1.get (getElem?_eq_getElem h1');obtain⟨v',hv1,hv2⟩:=r2.get (getElem?_eq_getElem h2');have e1:us.toArray[j]=u':=by
  have:us[j]?=some us.toArray[j]:=by rw[getElem?_eq_getElem (by simpa using h1)];simp
  rw[hu1]at this;exact(Option.some.inj this).symm
 have e2:ws.toArray[j]=v':=by
  have:ws[j]?=some ws.toArray[j]:=by rw[getElem?_eq_getElem (by simpa using h2)];simp
  rw[hv1]at this;exact(Option.some.inj this).symm
 rw[e1,e2];exact oA I 3 hu2 hv2 (h.2 j _ _ (getElem?_eq_getElem h1') (getElem?_eq_getElem h2')) hu
theorem fY(hu:X.A.units+4<cLine):OpR X (compareOp .NotEq) (λx y H Q=>rNe x y H Q∨(∃a b xs ys,x=.ref a∧y=.ref b∧ck H xs ys∧((H a=some (.lst xs)∧H b=some (.lst ys))∨(H a=some (.tup xs)∧H b=some (.tup ys)))∧Q (.bl false) H)):=by
 intro pins s σ H x y v u Q I rx ry h;rcases h with h|⟨a,b,xs,ys,rfl,rfl,hx,h,q⟩
 ·exact rj pins s σ H x y v u Q I rx ry h
 ·cases rx;cases ry;rcases h with⟨ha,hb⟩|⟨ha,hb⟩
  ·obtain⟨_,us,n1,r1,o1⟩:=I.hok a _ ha;obtain⟨_,ws,n2,r2,o2⟩:=I.hok b _ hb;have hl:=hx.1;have l1:=r1.length;have l2:=r2.length;refine RcNeAt.lists (e:=λ_=>true) ⟨_,o1,rfl,n1,rfl⟩ ⟨_,o2,rfl,n2,rfl⟩ (by simp only[size_toArray];omega) (by omega) (dX I r1 r2 hx (by simp[Around.in1_units];omega)) _ _ _ _ ⟨.bl false,H,I,?_,q⟩;show _=Value.bool false;simp
  ·obtain⟨_,us,r1,t1⟩:=I.hok a _ ha;obtain⟨_,ws,r2,t2⟩:=I.hok b _ hb;have hl:=hx.1;have l1:=r1.length;have l2:=r2.length;refine RcNeAt.tuples (e:=λ_=>true) t1 t2 (by omega) (dX I r1 r2 hx (by simp[Around.in1_units];omega)) _ _ _ _ ⟨.bl false,H,I,?_,q⟩;show _=Value.bool false;have:us.toArray.size=ws.toArray.size:=by simp only[size_toArray];omega
   simp[this]
end
section
variable{prog:Program}{w:World}{A:Around}{E:Value→Shared→Prop}{s:Shared}
end
section
variable{P:Program}{w:World}
end
section
variable{X:Cx}{o e:Expr}{td ty:TE}{apos cpos:Pos}
end
def Ext(p:Addr)(H H':Hp):Prop:=∀b o,b≠p→H b=some o→H' b=some o
theorem Ext.of{p:Addr}{H H':Hp}(s:Same H H'):Ext p H H':=λb o _ e=>s b o e
theorem Ext.upd{p:Addr}{H:Hp}{o:HO}:Ext p H (upd H p o):=λb u hb e=>by rw[ag hb];exact e
theorem Ext.trans{p:Addr}{H H1 H2:Hp}(a:Ext p H H1)(b:Ext p H1 H2):Ext p H H2:=λc o hc e=>b c o hc (a c o hc e)
def uh(te:TE):Prop:=∀σ H (Q Q':VK),(∀y H,Q y H→Q' y H)→te σ H Q→te σ H Q'
theorem kA{js:List Nat}{J:It}{te:TE}{σ:St}{H1:Hp}{Q:VK}{p:Addr}{fr:List (Option V)}(n:Nat)(hn:n≤1000)(hp:H1 p=none)(hfr:bg 1 js σ=none::fr)(R:Nat→V→Hp→Prop)(hR:∀i y H H',R i y H→Ext p H H'→R i y H')(go:∀i H',i<n→Same H1 H'→J.go i H')(stop:∀H',Same H1 H'→J.stop n H')(me:uh te)(step:∀i H' x H2,i<n→Same H1 H'→(∃ys,H' p=some (.lst ys))→J.yld i H' x H2→H2=H'∧te (some x::fr) H' λy H4=>Same H' H4∧R i y H4)(fin:∀ys H',Same H1 H'→H' p=some (.lst ys)→ys.length=n→(∀(j:Nat) y,ys[j]?=some y→R j y H')→Q (.ref p) H'):LcW 1 js (aJ 0) te σ Q J H1 p:=by
 refine rn (k:=1) (js:=js) (J:=J) (p:=p) n hn (λi ys σ' H'=>(∃o,σ'=o::fr)∧Same H1 H'∧H' p=some (.lst ys)∧ys.length=i∧∀(j:Nat) y,ys[j]?=some y→R j y H') ⟨⟨none,hfr⟩,ae hp,ac,rfl,λj y h=>by simp at h⟩
  (λi ys σ' H' h=>by have:=h.2.2.2.1;omega) (λi ys σ' H' hi h=>go i H' hi h.2.1) (λys σ' H' h=>⟨stop H' h.2.1,fin ys H' h.2.1 h.2.2.1 h.2.2.2.1 h.2.2.2.2⟩) (λi ys σ' H' hi h x H2 hy=>?_) ?_ me
 ·obtain⟨⟨o,rfl⟩,s1,hl,hlen,hrs⟩:=h;obtain⟨rfl,ht⟩:=step i H' x H2 hi s1 ⟨ys,hl⟩ hy;refine me _ _ _ _ (λy H4 h4=>?_) ht;obtain⟨s4,r4⟩:=h4;refine⟨s4 _ _ hl,⟨some x,rfl⟩,ar hp (s1.trans s4),ac,by rw[length_append,hlen];rfl,λj z hz=>?_⟩;have ex:Ext p H2 (upd H4 p (.lst (ys++[y]))):=(Ext.of s4).trans Ext.upd
  by_cases hj:j<ys.length
  ·rw[getElem?_append_left hj]at hz;exact hR _ _ _ _ (hrs j z hz) ex
  ·rw[List.getElem?_append_right (by omega)]at hz;have hj':j-ys.length=0:=by
    cases e:j-ys.length with
    |zero=>rfl
    |succ m=>rw[e]at hz;simp at hz
   rw[hj']at hz;have ez:y=z:=by simpa using hz
   subst ez;have ej:j=i:=by omega
   subst ej;exact hR _ _ _ _ r4 Ext.upd
 ·intro _ _ _ _ _ m q;exact m _ _ q
theorem db{H:Hp}{p q:Addr}(hp:∃ys,H p=some (.lst ys))(hq:H q=none):q≠p:=λe=>by
 obtain⟨ys,h⟩:=hp;rw[←e,hq]at h;cases h
section
variable{X:Cx}{N:List Str}{scope:Scope}{cl:List (Str×Addr)}{k:Nat}{js:List Nat}
end
section
variable{X:Cx}{tg:Expr}
theorem ss(hu:X.A.units+4<cLine):OpR X (compareOp .Eq) (λx y H Q=>rEq x y H Q∨(∃a b xs ys,x=.ref a∧y=.ref b∧ck H xs ys∧((H a=some (.lst xs)∧H b=some (.lst ys))∨(H a=some (.tup xs)∧H b=some (.tup ys)))∧Q (.bl true) H)):=by
 intro pins s σ H x y v u Q I rx ry h;rcases h with h|⟨a,b,xs,ys,rfl,rfl,hx,h,q⟩
 ·exact ri pins s σ H x y v u Q I rx ry h
 ·cases rx;cases ry;rcases h with⟨ha,hb⟩|⟨ha,hb⟩
  ·obtain⟨_,us,n1,r1,o1⟩:=I.hok a _ ha;obtain⟨_,ws,n2,r2,o2⟩:=I.hok b _ hb;have hl:=hx.1;have l1:=r1.length;have l2:=r2.length;refine eq_listAt (e:=λ_=>true) ⟨_,o1,rfl,n1,rfl⟩ ⟨_,o2,rfl,n2,rfl⟩ (by simp only[size_toArray];omega) (by omega) (dX I r1 r2 hx (by simp[Around.in1_units];omega)) ⟨.bl true,H,I,?_,q⟩;show _=Value.bool true;simp
  ·obtain⟨_,us,r1,t1⟩:=I.hok a _ ha;obtain⟨_,ws,r2,t2⟩:=I.hok b _ hb;have hl:=hx.1;have l1:=r1.length;have l2:=r2.length;refine SeqAt.eq_tupleAt (e:=λ_=>true) t1 t2 (by omega) (dX I r1 r2 hx (by simp[Around.in1_units];omega)) ⟨.bl true,H,I,?_,q⟩;show _=Value.bool true;have:us.toArray.size=ws.toArray.size:=by simp only[size_toArray];omega
   simp[this]
end
theorem Same.seqT{K:PySem.W.Frag}{H H':Hp}{a:Addr}{xs:List V}(e:Same H H')(h:SqT K H a xs):SqT K H' a xs:=by
 rcases h with (h|⟨o,h⟩)|h
 ·exact .inl (.inl (e _ _ h))
 ·exact .inl (.inr ⟨o,e _ _ h⟩)
 ·exact .inr h
structure Src(J:It)(H1:Hp)(xs:List V):Prop where
 go:∀i H',i<xs.length→Same H1 H'→J.go i H'
 stop:∀H',Same H1 H'→J.stop xs.length H'
 yl:∀i H' x H2,i<xs.length→Same H1 H'→J.yld i H' x H2→H2=H'∧xs[i]?=some x
theorem fu{K:PySem.W.Frag}{a:Addr}{xs:List V}{H1:Hp}(h:SqT K H1 a xs):Src (Itt K a) H1 xs :=
 ⟨λi H' hi s=>⟨xs,xs[i],s.seqT h,getElem?_eq_getElem hi⟩,λH' s=>⟨xs,s.seqT h,le_refl _⟩,λi H' x H2 _ s ⟨e,y⟩=>⟨e,y xs (by subst e;exact s.seqT h)⟩⟩
theorem cn{K:PySem.W.Frag}{a:Addr}{xs:List V}{H1:Hp}(h:SqL K H1 a xs):Src (Itl K a) H1 xs :=
 ⟨λi H' hi s=>⟨xs,xs[i],s.seq h,getElem?_eq_getElem hi⟩,λH' s=>⟨xs,s.seq h,le_refl _⟩,λi H' x H2 _ s ⟨e,y⟩=>⟨e,y xs (by subst e;exact s.seq h)⟩⟩
theorem Paired.snoc{α β:Type}{R:α→β→Prop}:∀{as:List α}{bs:List β}{a:α}{b:β},Paired R as bs→R a b→Paired R (as++[a]) (bs++[b])
 |_,_,_,_,.nil,h=>.cons h .nil
 |_,_,_,_,.cons r t,h=>.cons r (Paired.snoc t h)
theorem su{α:Type}{js:List Nat}{J:It}{tc:TT}{te:TE}{σ:St}{H1:Hp}{Q:VK}{p:Addr}{fr:List (Option V)}(zs:List α)(val:α→V)(hn:zs.length≤1000)(hp:H1 p=none)(S:Src J H1 (zs.map val))(hfr:bg 1 js σ=none::fr)(g:α→Bool)(R:α→V→Hp→Prop)(hR:∀z y H H',R z y H→Ext p H H'→R z y H')(cond:∀z H' (k:Bool→Hp→Prop),z∈zs→Same H1 H'→(∃ys,H' p=some (.lst ys))→(∀H4,Same H' H4→k (g z) H4)→tc (some (val z)::fr) H' k)(elt:∀z H' (k:VK),z∈zs→g z=true→Same H1 H'→(∃ys,H' p=some (.lst ys))→(∀y H4,Same H' H4→R z y H4→k y H4)→te (some (val z)::fr) H' k)(fin:∀ys H',Same H1 H'→H' p=some (.lst ys)→Paired (λz y=>R z y H') (zs.filter g) ys→Q (.ref p) H'):ud 1 js (aJ 0) tc te σ Q J H1 p:=by
 have grow:∀{as:List α}{ys:List V}{H H':Hp},Ext p H H'→Paired (λz y=>R z y H) as ys→Paired (λz y=>R z y H') as ys:=λex r=>Paired.mapP r λa b h=>hR a b _ _ h ex;have hlen:∀{as:List α}{ys:List V}{H:Hp},Paired (λz y=>R z y H) as ys→ys.length=as.length:=λr=>(Paired.length r).symm;refine⟨λi m ys σ' H'=>m=zs.length-i∧i≤zs.length∧(∃o,σ'=o::fr)∧Same H1 H'∧H' p=some (.lst ys)∧Paired (λz y=>R z y H') ((zs.take i).filter g) ys,⟨zs.length,by simp,zero_le _,⟨none,hfr⟩,ae hp,ac,.nil⟩,?_⟩;rintro i m ys σ' H' ⟨rfl,hi,⟨o,rfl⟩,s1,hl,hys⟩
 by_cases hlt:i<zs.length
 ·have hlt':i<(zs.map val).length:=by rw[length_map];exact hlt
  refine .inr ⟨S.go i H' hlt' s1,?_,λx H2 hy=>?_⟩
  ·have h1:ys.length≤zs.length:=by
    rw[hlen hys];exact le_trans (length_filter_le _ _) (by rw[length_take];omega)
   exact lt_of_le_of_lt h1 (ap hn)
  ·obtain⟨rfl,hx⟩:=S.yl i H' x H2 hlt' s1 hy;have gz:zs[i]?=some zs[i]:=getElem?_eq_getElem hlt;have mz:=mem_of_getElem? gz;rw[getElem?_map,gz]at hx;have ex:val zs[i]=x:=Option.some.inj hx;have et:zs.take (i+1)=zs.take i++[zs[i]]:=ax gz;subst ex;generalize zs[i]=z at gz mz et⊢;refine cond z H2 _ mz s1 ⟨ys,hl⟩ λH4 s4=>?_;cases hb:g z with
   |true =>
    rw[if_pos rfl];refine elt z H4 _ mz hb (s1.trans s4) ⟨ys,s4 _ _ hl⟩ λy H5 s5 r5=>⟨s5 _ _ (s4 _ _ hl),zs.length-(i+1),by omega,rfl,hlt,⟨_,rfl⟩,ar hp ((s1.trans s4).trans s5),ac,?_⟩;rw[et,filter_append,List.filter_cons_of_pos hb];exact Paired.snoc (grow ((Ext.of (s4.trans s5)).trans Ext.upd) hys) (hR _ _ _ _ r5 Ext.upd)
   |false =>
    rw[if_neg (by simp)];refine⟨zs.length-(i+1),by omega,rfl,hlt,⟨_,rfl⟩,s1.trans s4,s4 _ _ hl,?_⟩;rw[et,filter_append,List.filter_cons_of_neg (by simp[hb]),List.filter_nil,append_nil];exact grow (Ext.of s4) hys
 ·have e:i=zs.length:=by omega
  subst e;have st:=S.stop H' s1;rw[length_map]at st;refine .inl ⟨st,fin ys H' s1 hl ?_⟩;rw[take_length]at hys;exact hys
theorem cM{α:Type}{js:List Nat}{J:It}{te:TE}{σ:St}{H1:Hp}{Q:VK}{p:Addr}{fr:List (Option V)}(zs:List α)(val:α→V)(hn:zs.length≤1000)(hp:H1 p=none)(S:Src J H1 (zs.map val))(hfr:bg 1 js σ=none::fr)(R:α→V→Hp→Prop)(hR:∀z y H H',R z y H→Ext p H H'→R z y H')(elt:∀z H' (k:VK),z∈zs→Same H1 H'→(∃ys,H' p=some (.lst ys))→(∀y H4,Same H' H4→R z y H4→k y H4)→te (some (val z)::fr) H' k)(fin:∀ys H',Same H1 H'→H' p=some (.lst ys)→Paired (λz y=>R z y H') zs ys→Q (.ref p) H'):LcW 1 js (aJ 0) te σ Q J H1 p:=by
 have grow:∀{as:List α}{ys:List V}{H H':Hp},Ext p H H'→Paired (λz y=>R z y H) as ys→Paired (λz y=>R z y H') as ys:=λex r=>Paired.mapP r λa b h=>hR a b _ _ h ex;have hlen:∀{as:List α}{ys:List V}{H:Hp},Paired (λz y=>R z y H) as ys→ys.length=as.length:=λr=>(Paired.length r).symm;refine⟨λi m ys σ' H'=>m=zs.length-i∧i≤zs.length∧(∃o,σ'=o::fr)∧Same H1 H'∧H' p=some (.lst ys)∧Paired (λz y=>R z y H') (zs.take i) ys,⟨zs.length,by simp,zero_le _,⟨none,hfr⟩,ae hp,ac,.nil⟩,?_⟩;rintro i m ys σ' H' ⟨rfl,hi,⟨o,rfl⟩,s1,hl,hys⟩
 by_cases hlt:i<zs.length
 ·have hlt':i<(zs.map val).length:=by rw[length_map];exact hlt
  refine .inr ⟨S.go i H' hlt' s1,?_,λx H2 hy=>?_⟩
  ·have h1:ys.length≤zs.length:=by
    rw[hlen hys,length_take];omega
   exact lt_of_le_of_lt h1 (ap hn)
  ·obtain⟨rfl,hx⟩:=S.yl i H' x H2 hlt' s1 hy;have gz:zs[i]?=some zs[i]:=getElem?_eq_getElem hlt;have mz:=mem_of_getElem? gz;rw[getElem?_map,gz]at hx;have ex:val zs[i]=x:=Option.some.inj hx;have et:zs.take (i+1)=zs.take i++[zs[i]]:=ax gz;subst ex;generalize zs[i]=z at gz mz et⊢;refine elt z H2 _ mz s1 ⟨ys,hl⟩ λy H5 s5 r5=>⟨s5 _ _ hl,zs.length-(i+1),by omega,rfl,hlt,⟨_,rfl⟩,ar hp (s1.trans s5),ac,?_⟩;rw[et];exact Paired.snoc (grow ((Ext.of s5).trans Ext.upd) hys) (hR _ _ _ _ r5 Ext.upd)
 ·have e:i=zs.length:=by omega
  subst e;have st:=S.stop H' s1;rw[length_map]at st;refine .inl ⟨st,fin ys H' s1 hl ?_⟩;rw[take_length]at hys;exact hys
theorem ce{α β:Type}{R:α→V→Prop}{val:β→V}{S:α→β→Prop}{zs:List α}{ys:List V}(h:Paired R zs ys)(f:∀z y,z∈zs→R z y→∃b,y=val b∧S z b):
  ∃bs:List (α×β),bs.map (·.1)=zs∧ys=bs.map (λx=>val x.2)∧∀x∈bs,S x.1 x.2:=by
 induction h with
 |nil=>exact⟨[],rfl,rfl,by simp⟩
 |@cons a y as bs r _ ih =>
  obtain⟨cs,e1,e2,e3⟩:=ih λz y hz=>f z y (by simp[hz]);obtain⟨b,e,s⟩:=f _ _ (by simp) r;refine⟨(a,b)::cs,by rw[map_cons,e1],by rw[map_cons,←e2,e],λx hx=>?_⟩;rcases mem_cons.mp hx with rfl|hx
  ·exact s
  ·exact e3 x hx
theorem bI{α:Type}{R:α→V→Prop}{f:α→V}{zs:List α}{ys:List V}(h:Paired R zs ys)(hf:∀z y,z∈zs→R z y→y=f z):ys=zs.map f:=by
 induction h with
 |nil=>rfl
 |cons r _ ih=>rw[map_cons,←ih λz y hz=>hf z y (by simp[hz]),hf _ _ (by simp) r]
end L2
namespace TW
structure Nd(S:Type) where
 num:Int
 par:Int
 nm:S
 st:Option Int
section
variable{S:Type}
inductive Reach(ns:List (Nd S))(f:Int):Nd S→Prop where
 |base {n:Nd S}:n∈ns→n.par=f→Reach ns f n
 |step {m n:Nd S}:Reach ns f m→m.st=none→n∈ns→n.par=m.num→Reach ns f n
theorem Reach.mem{ns:List (Nd S)}{f:Int}{n:Nd S}(h:Reach ns f n):n∈ns:=by
 cases h<;>assumption
theorem Reach.mono{ns ms:List (Nd S)}{f:Int}{n:Nd S}(h:Reach ns f n)(hs:∀x∈ns,x∈ms):Reach ms f n:=by
 induction h with
 |base hm hp=>exact .base (hs _ hm) hp
 |step _ hf hm hp ih=>exact .step ih hf (hs _ hm) hp
def aS(l:List (Nd S)):List Int:=(l.filter λn=>n.st.isNone).map (·.num)
theorem jt{l:List (Nd S)}{k:Int}:k∈aS l↔∃m∈l,m.st=none∧m.num=k:=by
 unfold aS;rw[mem_map];constructor
 ·rintro⟨m,hm,e⟩;rw[mem_filter]at hm;exact⟨m,hm.1,by simpa using hm.2,e⟩
 ·rintro⟨m,hm,h,e⟩;exact⟨m,mem_filter.mpr ⟨hm,by simp[h]⟩,e⟩
theorem ju(l:List (Nd S)):(aS l).length≤l.length:=by
 unfold aS;rw[length_map];exact length_filter_le _ _
def cD(ns:List (Nd S)):Prop:=ns.Pairwise λa b=>a.num<b.num
def cN(ns:List (Nd S)):Prop:=(ns.map λn=>(n.par,n.nm)).Nodup
structure Tree(ns:List (Nd S)):Prop where
 rise:cD ns
 own:cN ns
 down:∀n∈ns,Reach ns 0 n
inductive Built:List (Nd S)→Prop where
 |nil:Built []
 |snoc {l:List (Nd S)} {n:Nd S}:Built l→(n.par=0∨∃m∈l,m.st=none∧m.num=n.par)→Built (l++[n])
theorem Built.down{l:List (Nd S)}(b:Built l):∀n∈l,Reach l 0 n:=by
 induction b with
 |nil=>simp
 |@snoc l n b h ih =>
  intro x hx;have up:∀y∈l,y∈l++[n]:=λy hy=>mem_append_left _ hy;rcases mem_append.mp hx with hx|hx
  ·exact(ih x hx).mono up
  ·have e:x=n:=by simpa using hx
   subst e;rcases h with h|⟨m,hm,hf,he⟩
   ·exact .base (by simp) h
   ·exact .step ((ih m hm).mono up) hf (by simp) he.symm
theorem qv{l t:List (Nd S)}(b:Built l)(p:t.Perm l)(hr:t.Pairwise λa b=>a.num≤b.num)(hn:(l.map (·.num)).Nodup)(ho:cN l):Tree t:=by
 refine⟨?_,?_,λn hn'=>?_⟩
 ·have hn':(t.map (·.num)).Nodup:=((p.map _).nodup_iff).mpr hn;unfold Nodup at hn';rw[pairwise_map]at hn';unfold cD;exact hr.imp₂ (λa b h1 h2=>by omega) hn'
 ·unfold cN;exact((p.map _).nodup_iff).mpr ho
 ·exact(b.down n (p.mem_iff.mp hn')).mono λx hx=>p.mem_iff.mpr hx
theorem oB{t:List (Nd S)}(h:cD t){a b:Nd S}(ha:a∈t)(hb:b∈t)(e:a.num=b.num):a=b:=by
 unfold cD at h
 induction t with
 |nil=>simp at ha
 |cons x r ih =>
  rw[pairwise_cons]at h;rcases mem_cons.mp ha with ea|ha'
  ·rcases mem_cons.mp hb with eb|hb'
   ·rw[ea,eb]
   ·have:=h.1 b hb';rw[←ea]at this;omega
  ·rcases mem_cons.mp hb with eb|hb'
   ·have:=h.1 a ha';rw[←eb]at this;omega
   ·exact ih h.2 ha' hb'
end
end TW
namespace TW
section
variable{S:Type}
inductive PathTo(ns:List (Nd S)):Int→List S→Prop where
 |top:PathTo ns 0 []
 |node {n:Nd S} {p:List S}:n∈ns→PathTo ns n.par p→PathTo ns n.num (p++[n.nm])
structure Tree1(ns:List (Nd S)):Prop extends Tree ns where
 pos:∀n∈ns,1≤n.num
theorem Tree1.inj{ns:List (Nd S)}(T:Tree1 ns){a b:Nd S}(ha:a∈ns)(hb:b∈ns)(e:a.num=b.num):a=b:=oB T.rise ha hb e
theorem PathTo.zero{ns:List (Nd S)}(T:Tree1 ns){k:Int}{p:List S}(h:PathTo ns k p)(e:k=0):p=[]:=by
 cases h with
 |top=>rfl
 |@node n p hm _=>have:=T.pos n hm;omega
theorem PathTo.inv{ns:List (Nd S)}(T:Tree1 ns){k:Int}{p:List S}(h:PathTo ns k p){n:Nd S}(hn:n∈ns)(e:k=n.num):∃q,p=q++[n.nm]∧PathTo ns n.par q:=by
 cases h with
 |top=>have:=T.pos n hn;omega
 |@node m q hm hq =>
  have:m=n:=T.inj hm hn e;subst this;exact⟨q,rfl,hq⟩
theorem PathTo.uniq{ns:List (Nd S)}(T:Tree1 ns){k:Int}{p:List S}(h:PathTo ns k p):∀{q:List S},PathTo ns k q→p=q:=by
 induction h with
 |top=>intro q hq;exact(hq.zero T rfl).symm
 |@node n p hm _ ih =>
  intro q hq;obtain⟨q',e,hq'⟩:=hq.inv T hm rfl;rw[e,ih hq']
theorem PathTo.ex{ns:List (Nd S)}(T:Tree1 ns){n:Nd S}(hn:n∈ns):∃p,PathTo ns n.num p:=by
 have key:∀x,Reach ns 0 x→∃p,PathTo ns x.num p:=by
  intro x r
  induction r with
  |base hm hp=>exact⟨_,.node hm (by rw[hp];exact .top)⟩
  |step _ _ hm hp ih =>
   obtain⟨p,h⟩:=ih;exact⟨_,.node hm (by rw[hp];exact h)⟩
 exact key n (T.down n hn)
theorem PathTo.key{ns:List (Nd S)}(T:Tree1 ns):∀{p:List S}{k j:Int},PathTo ns k p→PathTo ns j p→k=j:=by
 have main:∀(m:Nat){p:List S}{k j:Int},p.length=m→PathTo ns k p→PathTo ns j p→k=j:=by
  intro m
  induction m with
  |zero =>
   intro p k j hl h1 h2;have e:p=[]:=length_eq_zero_iff.mp hl;subst e;have z:∀{k:Int}{q:List S},PathTo ns k q→q=[]→k=0:=by
    intro k q h e;cases h with
    |top=>rfl
    |node _ _=>simp at e
   rw[z h1 rfl,z h2 rfl]
  |succ m ih =>
   intro p k j hl h1 h2;have z:∀{k:Int}{q:List S},PathTo ns k q→q=p→∃n q',n∈ns∧n.num=k∧p=q'++[n.nm]∧PathTo ns n.par q':=by
    intro k q h e;cases h with
    |top=>rw[←e]at hl;simp at hl
    |@node n q' hm hq'=>exact⟨n,q',hm,rfl,e.symm,hq'⟩
   obtain⟨n,q,hn,e1,e2,hq⟩:=z h1 rfl;obtain⟨n',q',hn',e1',e2',hq'⟩:=z h2 rfl;have e3:q++[n.nm]=q'++[n'.nm]:=e2.symm.trans e2';obtain⟨e4,e5⟩:=List.append_inj' e3 rfl;subst e4;have e6:n.nm=n'.nm:=by simpa using e5
   have e7:n.par=n'.par:=ih (by rw[e2]at hl;simpa using hl) hq hq';have ho:=T.own;have:n=n':=by
    unfold cN at ho;obtain⟨i,hi,gi⟩:=mem_iff_getElem.mp hn;obtain⟨j',hj,gj⟩:=mem_iff_getElem.mp hn';have:(ns.map λn=>(n.par,n.nm))[i]'(by simpa using hi)=(ns.map λn=>(n.par,n.nm))[j']'(by simpa using hj):=by
     rw[getElem_map,getElem_map,gi,gj,e6,e7]
    have hij:=(getElem_inj ho).mp this;subst hij;rw[←gi,←gj]
   rw[←e1,←e1',this]
 intro p k j h1 h2;exact main p.length rfl h1 h2
theorem PathTo.chain{ns:List (Nd S)}(T:Tree1 ns){k:Int}{p:List S}(h:PathTo ns k p):∃l:List Int,l.length=p.length∧l.Nodup∧∀x∈l,x∈ns.map (·.num)∧∃q,PathTo ns x q∧q.length≤p.length:=by
 induction h with
 |top=>exact⟨[],rfl,nodup_nil,by simp⟩
 |@node n p hm hp ih =>
  obtain⟨l,e,nd,hx⟩:=ih;refine⟨n.num::l,by simp[e],nodup_cons.mpr ⟨λhin=>?_,nd⟩,λx hx'=>?_⟩
  ·obtain⟨_,q,hq,hl⟩:=hx _ hin;have:=hq.uniq T (.node hm hp);rw[this]at hl;simp at hl;omega
  ·rcases mem_cons.mp hx' with e'|h'
   ·rw[e'];exact⟨mem_map.mpr ⟨n,hm,rfl⟩,_,.node hm hp,le_refl _⟩
   ·obtain⟨a,q,b,c⟩:=hx x h';exact⟨a,q,b,by simp;omega⟩
theorem PathTo.len{ns:List (Nd S)}(T:Tree1 ns){k:Int}{p:List S}(h:PathTo ns k p):p.length≤ns.length:=by
 obtain⟨l,e,nd,hx⟩:=h.chain T;rw[←e];have:=Nodup.length_le_of_subset nd (λx hx'=>(hx x hx').1);rw[length_map]at this;exact this
end
end TW
namespace TW
section
variable{S:Type}
end
end TW
namespace TW
section
variable{S:Type}
end
end TW
namespace TW
section
variable{S:Type}
end
end TW
namespace L2
open PySem PySem.Spec PyProof.Rows
section
variable{P:Program}{w:World}{K:PySem.W.Frag}{mg:Str→Option Value}{base:Heap}
theorem LcOk.mk'{X:Cx}{scope:Scope}{cl:List (Str×Addr)}(fs:List Str)(hk:scope.kind=.function)(hc:closureFor scope X.env=pure cl)(hn:∀x∈scope.names,x.2=.local→scope.names.lookup x.1=some .local)(hnc:∀x∈scope.names,x.2≠.cell)(hcl:∀y∈cl,X.env.cells.lookup y.1=some y.2)(hfs:cl.map (·.1)=fs)(hall:scope.names.all (λy=>!(y.2==.free)||fs.contains y.1)=true):LcOk X scope cl:=by
 refine⟨hk,hc,hn,hnc,λx c h=>hcl (x,c) (PySem.mem_of_lookup h),λx h=>?_⟩;have hm:∃k,(x,k)∈(relabel scope X.env).names∧(k=.cell∨k=.free):=by
  rcases h with h|h
  ·exact⟨_,PySem.mem_of_lookup h,.inl rfl⟩
  ·exact⟨_,PySem.mem_of_lookup h,.inr rfl⟩
 obtain⟨k,hm,hk'⟩:=hm;unfold relabel at hm;obtain⟨⟨y,k0⟩,hy,e⟩:=mem_map.mp hm;have hfree:x=y∧k0=.free:=by
  cases k0 with
  |free =>
   simp only at e
   split at e
   ·injection e with e1 e2;exact⟨e1.symm,rfl⟩
   ·injection e with e1 e2;exact⟨e1.symm,rfl⟩
  |cell=>exact absurd rfl (hnc _ hy)
  |_ =>
   exfalso
   have e2:k=_:=(congrArg Prod.snd e).symm;simp at e2;rcases hk' with z|z<;>rw[z]at e2<;>cases e2
 obtain⟨rfl,rfl⟩:=hfree;have:=all_eq_true.mp hall _ hy;have hin:fs.contains x=true:=by simpa using this
 rw[←hfs]at hin;have hmem:x∈cl.map (·.1):=List.contains_iff_mem.mp hin;cases e:cl.lookup x with
 |some c=>exact⟨c,rfl⟩
 |none =>
  exfalso
  obtain⟨y,hy,ey⟩:=mem_map.mp hmem;have:=List.lookup_eq_none_iff.mp e y hy;rw[ey]at this;simp at this
end
end L2
namespace TK
open PySem L2
abbrev Nd:=TW.Nd Str
def stV:Option Int→V
 |none=>.non
 |some i=>.int i
def vals(n:Nd):List V:=[.int n.num,.int n.par,.str n.nm,stV n.st]
abbrev ZN:=List (Addr×Nd)
def aU(zs:ZN):List V:=(zs.map (·.1)).map V.ref
def nds(zs:ZN):List Nd:=zs.map (·.2)
def At(H:Hp)(zs:ZN):Prop:=∀z∈zs,H z.1=some (.tup (vals z.2))
theorem At.same{H H':Hp}{zs:ZN}(h:At H zs)(s:Same H H'):At H' zs:=λz hz=>s _ _ (h z hz)
theorem cm(zs:ZN):(aU zs).length=zs.length:=by simp[aU]
theorem aM(zs:ZN):(nds zs).length=zs.length:=by simp[nds]
theorem cE{zs:ZN}{i:Nat}{x:V}(h:(aU zs)[i]?=some x):∃z,zs[i]?=some z∧x=.ref z.1:=by
 unfold aU at h;rw[getElem?_map,getElem?_map]at h;cases e:zs[i]? with
 |none=>rw[e]at h;cases h
 |some z=>rw[e]at h;exact⟨z,rfl,(Option.some.inj h).symm⟩
theorem fZ{zs:ZN}{i:Nat}{z:Addr×Nd}(h:zs[i]?=some z):(aU zs)[i]?=some (.ref z.1):=by
 unfold aU;rw[getElem?_map,getElem?_map,h];rfl
theorem at0(n:Nd):atI (vals n) 0=some (.int n.num):=rfl
theorem at1(n:Nd):atI (vals n) 1=some (.int n.par):=rfl
theorem at2(n:Nd):atI (vals n) 2=some (.str n.nm):=rfl
theorem at3(n:Nd):atI (vals n) 3=some (stV n.st):=rfl
theorem sv{σ:St}(h:σ.length=2):∃a b,σ=[a,b]:=by
 match σ,h with
 |[a,b],_=>exact⟨a,b,rfl⟩
theorem sw{σ:St}(h:σ.length=1):∃a,σ=[a]:=by
 match σ,h with
 |[a],_=>exact⟨a,rfl⟩
theorem bh{n:Nat}(h:n≤1000):n≤sizeLine:=le_of_lt (ap h)
theorem le2:2≤sizeLine:=bh (by decide)
theorem dA{A:Around}{k:Nat}(hr:Room k A):A.units+4<cLine:=lt_of_le_of_lt (Nat.add_le_add_left (by decide:4≤64) _) hr.units
def plK(n:Nd):List Key:=[.inl n.par,.inr n.nm]
theorem mL(zs:ZN)(z:Addr×Nd):aU (zs++[z])=aU zs++[.ref z.1]:=by simp[aU]
def jv(H:Hp)(p:Addr):Nat:=match H p with
 |some (.lst xs)=>xs.length
 |_=>0
theorem jw{H:Hp}{p:Addr}{xs:List V}(h:H p=some (.lst xs)):jv H p=xs.length:=by unfold jv;rw[h]
def eZ(K:PySem.W.Frag)(H:Hp)(a:Addr):Prop:=∃ns:List Int,SqL K H a (ns.map V.int)
theorem eZ.same{K:PySem.W.Frag}{H H':Hp}{a:Addr}(h:eZ K H a)(s:Same H H'):eZ K H' a:=let⟨ns,e⟩:=h;⟨ns,s.seq e⟩
theorem jx{ns:List Int}{i:Int}(h0:0≤i)(h1:i<ns.length):∃j,atI (ns.map V.int) i=some (.int j):=by
 refine⟨ns[i.toNat]'(by omega),?_⟩;have:=lB (xs:=ns.map V.int) (j:=i.toNat) (v:=.int (ns[i.toNat]'(by omega))) (by rw[getElem?_map,getElem?_eq_getElem (by omega)];rfl);rw[show((i.toNat:Nat):Int)=i by omega]at this;exact this
def Has(P:Program)(w:World)(K:PySem.W.Frag)(mg:Str→Option Value)(base:Heap)(k:Nat)(x:Str)(ps:List Str)(sp:Sp):Prop:=∃f fd,FnOk P w K mg base CX0 k f fd ps sp∧mg x=some (.ref f)∧keepIn K (.ref f)=true∧cT K fd ps []
def ui(n:Nd):Prop:=1≤n.num∧n.num≤12∧(n.nm="a"∨n.nm="b"∨n.nm="c"∨n.nm="abcde")∧(n.st=none∨n.st=some 0∨n.st=some 1∨n.st=some 2∨n.st=some 999)
structure Bd(zs:ZN)(lf:List Int):Prop where
 built:TW.Built (nds zs)
 nd:((nds zs).map (·.num)++lf).Nodup
 rng:∀x∈lf,1≤x∧x≤12
 own:TW.cN (nds zs)
 ok:∀z∈zs,ui z.2
theorem Bd.skip{zs:ZN}{lf:List Int}(b:Bd zs lf)(i:Nat):Bd zs (lf.eraseIdx i) :=
 ⟨b.built,Nodup.sublist (Sublist.append (Sublist.refl _) (eraseIdx_sublist lf i)) b.nd,λx hx=>b.rng x ((eraseIdx_sublist lf i).mem hx),b.own,b.ok⟩
theorem gf:∀{l:List Int}{i:Nat}{x:Int},l[i]?=some x→(x::l.eraseIdx i).Perm l
 |a::l,0,x,h=>by
  have:a=x:=by simpa using h
  subst this;exact List.Perm.refl _
 |a::l,i+1,x,h=>by
  have h':l[i]?=some x:=by simpa using h
  exact(List.Perm.swap a x _).trans (List.Perm.cons a (gf h'))
 |[],i,x,h=>by simp at h
theorem Bd.add{zs:ZN}{lf:List Int}{i:Nat}{q:Addr}{n:Nd}(b:Bd zs lf)(hi:lf[i]?=some n.num)(hp:n.par∈(0:Int)::TW.aS (nds zs))(ho:∀z∈zs,¬(z.2.par=n.par∧z.2.nm=n.nm))(h3:n.nm="a"∨n.nm="b"∨n.nm="c"∨n.nm="abcde")(h4:n.st=none∨n.st=some 0∨n.st=some 1∨n.st=some 2∨n.st=some 999):Bd (zs++[(q,n)]) (lf.eraseIdx i):=by
 have e:nds (zs++[(q,n)])=nds zs++[n]:=by simp[nds]
 have pm:=gf hi;refine⟨?_,?_,λx hx=>b.rng x ((eraseIdx_sublist lf i).mem hx),?_,λz hz=>?_⟩
 ·rw[e];refine .snoc b.built ?_;rcases mem_cons.mp hp with h|h
  ·exact .inl h
  ·exact .inr (TW.jt.mp h)
 ·rw[e,map_append,append_assoc];exact((List.Perm.append_left _ pm).nodup_iff).mpr b.nd
 ·rw[e];unfold TW.cN;rw[map_append,nodup_append];refine⟨b.own,by simp,λx hx y hy=>?_⟩;have ey:y=(n.par,n.nm):=by simpa using hy
  subst ey;obtain⟨m,hm,rfl⟩:=mem_map.mp hx;obtain⟨z,hz,rfl⟩:=mem_map.mp hm;intro h;injection h with h1 h2
  exact ho z hz ⟨h1,h2⟩
 ·rcases mem_append.mp hz with h|h
  ·exact b.ok z h
  ·have ez:z=(q,n):=by simpa using h
   subst ez;have:=b.rng n.num (mem_of_getElem? hi);exact⟨this.1,this.2,h3,h4⟩
def tp(z:Addr×Nd):eN:=(z.1,z.2.num,[.int z.2.par,.str z.2.nm,stV z.2.st])
def un(t:eN):Addr×Nd:=(t.1,match t.2.2 with
 |[.int p,.str s,.int i]=>⟨t.2.1,p,s,some i⟩
 |[.int p,.str s,_]=>⟨t.2.1,p,s,none⟩
 | _=>⟨0,0,"",none⟩)
theorem ro(z:Addr×Nd):un (tp z)=z:=by
 obtain⟨a,⟨n,p,s,st⟩⟩:=z;cases st<;>rfl
theorem uj{zs:ZN}{ts:List eN}(h:ts.Perm (zs.map tp)):(ts.map un).Perm zs∧(ts.map un).map tp=ts:=by
 constructor
 ·have:=h.map un;rw[map_map]at this;have e:zs.map (un∘tp)=zs.map id:=map_congr_left λz _=>ro z;rw[e,map_id]at this;exact this
 ·rw[map_map,map_congr_left (g:=id)]
  ·simp
  ·intro t ht;obtain⟨z,_,rfl⟩:=mem_map.mp (h.mem_iff.mp ht);show tp (un (tp z))=tp z;rw[ro]
theorem fw(zs:ZN):((zs.map tp).map (·.1)).map V.ref=aU zs:=by
 unfold aU;simp only[map_map];rfl
theorem oC{n:Nat}{j:Int}(h0:0≤j)(h1:j<n):seqIndex? j n=some j.toNat:=(lz (by unfold ixN;rw[if_pos h0,if_pos h1])).1
theorem eP:∀(l:List Int)(i:Nat),(l.map V.int).eraseIdx i=(l.eraseIdx i).map V.int
 |[],i=>by simp
 |a::l,0=>rfl
 |a::l,i+1=>by
  show V.int a::(l.map V.int).eraseIdx i=V.int a::(l.eraseIdx i).map V.int;rw[eP l i]
theorem qw{ns:List Int}{i:Int}(h0:0≤i)(h1:i<ns.length):∃x∈ns,atI (ns.map V.int) i=some (.int x):=by
 refine⟨ns[i.toNat]'(by omega),getElem_mem _,?_⟩;have:=lB (xs:=ns.map V.int) (j:=i.toNat) (v:=.int (ns[i.toNat]'(by omega))) (by rw[getElem?_map,getElem?_eq_getElem (by omega)];rfl);rw[show((i.toNat:Nat):Int)=i by omega]at this;exact this
theorem qx{j:Int}(h0:0≤j)(h1:j<4):∃x:Str,(x="a"∨x="b"∨x="c"∨x="abcde")∧atI [V.str "a",.str "b",.str "c",.str "abcde"] j=some (.str x):=by
 obtain rfl|rfl|rfl|rfl:j=0∨j=1∨j=2∨j=3:=by omega
 ·exact⟨"a",.inl rfl,rfl⟩
 ·exact⟨"b",.inr (.inl rfl),rfl⟩
 ·exact⟨"c",.inr (.inr (.inl rfl)),rfl⟩
 ·exact⟨"abcde",.inr (.inr (.inr rfl)),rfl⟩
theorem qy{j:Int}(h0:0≤j)(h1:j<4):∃i:Int,(some i=none∨some i=some (0:Int)∨some i=some 1∨some i=some 2∨some i=some 999)∧atI [V.int 0,.int 1,.int 2,.int 999] j=some (.int i):=by
 obtain rfl|rfl|rfl|rfl:j=0∨j=1∨j=2∨j=3:=by omega
 ·exact⟨0,.inr (.inl rfl),rfl⟩
 ·exact⟨1,.inr (.inr (.inl rfl)),rfl⟩
 ·exact⟨2,.inr (.inr (.inr (.inl rfl))),rfl⟩
 ·exact⟨999,.inr (.inr (.inr (.inr rfl))),rfl⟩
structure Sta(H:Hp)(pl pf pn:Addr)(Hx:Hp)(lf fs:List Int)(zs:ZN):Prop where
 same:Same H Hx
 l:Hx pl=some (.lst (lf.map V.int))
 f:Hx pf=some (.lst (fs.map V.int))
 n:Hx pn=some (.lst (aU zs))
 nd:At Hx zs
 l0:H pl=none
 f0:H pf=none
 n0:H pn=none
 lf':pl≠pf
 ln':pl≠pn
 fn':pf≠pn
theorem Sta.grow{H Hx Hy:Hp}{pl pf pn:Addr}{lf fs:List Int}{zs:ZN}(a:Sta H pl pf pn Hx lf fs zs)(s:Same Hx Hy):Sta H pl pf pn Hy lf fs zs :=
 ⟨a.same.trans s,s _ _ a.l,s _ _ a.f,s _ _ a.n,a.nd.same s,a.l0,a.f0,a.n0,a.lf',a.ln',a.fn'⟩
theorem At.over{H:Hp}{p:Addr}{xs:List V}{o:HO}{zs:ZN}(h:At H zs)(hp:H p=some (.lst xs)):At (upd H p o) zs:=λz hz=>by
 rw[ag]
 ·exact h z hz
 ·intro e;have:=h z hz;rw[e,hp]at this;cases this
theorem Sta.pop{H Hx:Hp}{pl pf pn:Addr}{lf fs:List Int}{zs:ZN}(a:Sta H pl pf pn Hx lf fs zs)(lf2:List Int):Sta H pl pf pn (upd Hx pl (.lst (lf2.map V.int))) lf2 fs zs :=
 ⟨ar a.l0 a.same,ac,by rw[ag (symm a.lf')];exact a.f,by rw[ag (symm a.ln')];exact a.n,a.nd.over a.l,a.l0,a.f0,a.n0,a.lf',a.ln',a.fn'⟩
theorem Sta.fold{H Hx:Hp}{pl pf pn:Addr}{lf fs:List Int}{zs:ZN}(a:Sta H pl pf pn Hx lf fs zs)(x:Int):Sta H pl pf pn (upd Hx pf (.lst (fs.map V.int++[.int x]))) lf (fs++[x]) zs :=
 ⟨ar a.f0 a.same,by rw[ag a.lf'];exact a.l,by rw[ac];simp,by rw[ag (symm a.fn')];exact a.n,a.nd.over a.f,a.l0,a.f0,a.n0,a.lf',a.ln',a.fn'⟩
theorem Sta.node{H Hx:Hp}{pl pf pn q:Addr}{lf fs:List Int}{zs:ZN}{n:Nd}(a:Sta H pl pf pn Hx lf fs zs)(hq:Hx q=some (.tup (vals n))):Sta H pl pf pn (upd Hx pn (.lst (aU zs++[.ref q]))) lf fs (zs++[(q,n)]) :=
 ⟨ar a.n0 a.same,by rw[ag a.ln'];exact a.l,by rw[ag a.fn'];exact a.f,by rw[ac,mL],(λz hz=>by
  rcases mem_append.mp hz with h|h
  ·exact a.nd.over a.n z h
  ·have ez:z=(q,n):=by simpa using h
   subst ez;rw[ag]
   ·exact hq
   ·intro e;have e':q=pn:=e;rw[e',a.n]at hq;cases hq),a.l0,a.f0,a.n0,a.lf',a.ln',a.fn'⟩
def lf0(m:Int):List Int:=(List.range (m+4-1).toNat).map λk=>(1:Int)+(k:Nat)
theorem qz{m:Int}(h:0≤m):((lf0 m).length:Int)=m+3:=by unfold lf0;rw[length_map,length_range];omega
theorem qA{m:Int}(h:m≤9):∀x∈lf0 m,1≤x∧x≤12:=λx hx=>by
 unfold lf0 at hx;obtain⟨k,hk,rfl⟩:=mem_map.mp hx;have:=mem_range.mp hk;omega
theorem sx(m:Int):(lf0 m).Nodup:=by
 unfold lf0 Nodup;rw[pairwise_map];exact nodup_range.imp λh e=>h (by omega)
theorem Bd.zero{m:Int}(h:m≤9):Bd [] (lf0 m):=⟨.nil,by show(([]:List Int)++lf0 m).Nodup;rw[List.nil_append];exact sx m,qA h,by unfold TW.cN nds;simp,by simp⟩
def cO(zs:ZN):List (Key×V):=zs.map λz=>((Sum.inl z.2.num:Key),V.ref z.1)
theorem iH{zs:ZN}(hn:((nds zs).map (·.num)).Nodup){z:Addr×Nd}(hz:z∈zs):aE (cO zs) (Sum.inl z.2.num:Key)=some (.ref z.1):=by
 induction zs with
 |nil=>simp at hz
 |cons y zs ih =>
  have hn':y.2.num∉(nds zs).map (·.num)∧((nds zs).map (·.num)).Nodup:=by simpa [nds]using hn
  show aE (((Sum.inl y.2.num:Key),V.ref y.1)::cO zs) _=_;rcases mem_cons.mp hz with e|hz'
  ·subst e;exact aP rfl
  ·rw[aL]
   ·exact ih hn'.2 hz'
   ·intro e;injection e with e
    exact hn'.1 (mem_map.mpr ⟨z.2,mem_map.mpr ⟨z,hz',rfl⟩,e.symm⟩)
def kD(H:Hp)(d:Addr)(zs:ZN):Prop:=∃o,H d=some (.frz o (.dK (cO zs)))
theorem kD.same{H H':Hp}{d:Addr}{zs:ZN}(h:kD H d zs)(s:Same H H'):kD H' d zs:=let⟨o,e⟩:=h;⟨o,s _ _ e⟩
theorem kD.get{H:Hp}{d:Addr}{zs:ZN}(h:kD H d zs)(hn:((nds zs).map (·.num)).Nodup){z:Addr×Nd}(hz:z∈zs):bA H d (.int z.2.num) (some (.ref z.1)):=by
 obtain⟨o,e⟩:=h;exact .inl ⟨cO zs,Sum.inl z.2.num,.inr ⟨o,e⟩,rfl,(iH hn hz).symm⟩
theorem cb{ns:List Nd}(T:TW.Tree1 ns):(ns.map (·.num)).Nodup:=by
 have h:=T.rise;unfold TW.cD at h;unfold Nodup;rw[pairwise_map];exact h.imp λh e=>by omega
theorem qB{ys:List V}{zs:ZN}{H:Hp}{p:Addr}{g:Addr×Nd→List V}(hlen:ys.length=zs.length)(h:∀(i:Nat) y,ys[i]?=some y→∃q z,zs[i]?=some z∧y=.ref q∧q≠p∧H q=some (.tup (g z))):
  ∃as:List (Addr×(Addr×Nd)),as.map (·.2)=zs∧ys=(as.map (·.1)).map V.ref∧∀a∈as,a.1≠p∧H a.1=some (.tup (g a.2)):=by
 induction ys generalizing zs with
 |nil =>
  have:zs=[]:=length_eq_zero_iff.mp hlen.symm;subst this;exact⟨[],rfl,rfl,by simp⟩
 |cons y ys ih =>
  cases zs with
  |nil=>simp at hlen
  |cons z zs =>
   obtain⟨as,e1,e2,e3⟩:=ih (zs:=zs) (by simpa using hlen) λi x hx=>by simpa using h (i+1) x (by simpa using hx)
   obtain⟨q,z',f1,f2,f3,f4⟩:=h 0 y rfl;have:z=z':=by simpa using f1
   subst this;refine⟨(q,z)::as,by simp[e1],by simp[e2,f2],λa ha=>?_⟩;rcases mem_cons.mp ha with rfl|ha
   ·exact⟨f3,f4⟩
   ·exact e3 a ha
theorem oD{κ:Type}[DecidableEq κ]{kvs:List (κ×V)}(hn:(kvs.map (·.1)).Nodup){k:κ}{v:V}(h:(k,v)∈kvs):aE kvs k=some v:=by
 induction kvs with
 |nil=>simp at h
 |cons y kvs ih =>
  have hn':y.1∉kvs.map (·.1)∧(kvs.map (·.1)).Nodup:=by simpa using hn
  rcases mem_cons.mp h with e|h'
  ·subst e;exact aP rfl
  ·rw[aL]
   ·exact ih hn'.2 h'
   ·intro e;exact hn'.1 (mem_map.mpr ⟨_,h',e.symm⟩)
theorem qC{κ:Type}[DecidableEq κ]{kvs:List (κ×V)}{k:κ}(h:k∉kvs.map (·.1)):aE kvs k=none:=by
 induction kvs with
 |nil=>rfl
 |cons y kvs ih =>
  have h':¬k=y.1∧k∉kvs.map (·.1):=by simpa using h
  rw[aL (λe=>h'.1 e.symm)];exact ih h'.2
theorem qD{zs:ZN}{k:Int}{q:List Str}(T:TW.Tree1 (nds zs))(h:TW.PathTo (nds zs) k q)(hk:k≠0):∃z∈zs,z.2.num=k∧∃q',q=q'++[z.2.nm]∧TW.PathTo (nds zs) z.2.par q':=by
 cases h with
 |top=>exact absurd rfl hk
 |@node n q' hm hq' =>
  obtain⟨z,hz,rfl⟩:=mem_map.mp hm;exact⟨z,hz,rfl,q',rfl,hq'⟩
def uW(P:Program)(w:World)(K:PySem.W.Frag)(mg:Str→Option Value)(base:Heap)(k:Nat)(x:Str)(ps:List Str)(sp:Sp):Prop:=∃f fd,FnOk P w K mg base (CX1 P w) k f fd ps sp∧mg x=some (.ref f)∧keepIn K (.ref f)=true∧cT K fd ps []
structure Tre(H:Hp)(t:Addr)(zs:ZN):Prop where
 tup:H t=some (.tup (aU zs))
 nod:At H zs
 tr:TW.Tree1 (nds zs)
 len:zs.length≤30
theorem Tre.same{H H':Hp}{t:Addr}{zs:ZN}(h:Tre H t zs)(s:Same H H'):Tre H' t zs:=⟨s _ _ h.tup,h.nod.same s,h.tr,h.len⟩
theorem _root_.L2.Same.rd{H H':Hp}(s:Same H H'){a:Addr}{u:HO}(r:Rd H a u):Rd H' a u:=by
 rcases r with r|⟨o,r⟩
 ·exact .inl (s _ _ r)
 ·exact .inr ⟨o,s _ _ r⟩
def dk(as:List (Addr×(Addr×Nd))):List (Key×V):=as.map λa=>((Sum.inl a.2.2.num:Key),V.ref a.1)
def aV(n:Nd):List V:=[.int n.par,.str n.nm,stV n.st]
structure Book(H:Hp)(d:Addr)(as:List (Addr×(Addr×Nd)))(zs:ZN):Prop where
 dict:Rd H d (.dK (dk as))
 of:as.map (·.2)=zs
 at':∀a∈as,H a.1=some (.tup (aV a.2.2))
theorem Book.same{H H':Hp}{d:Addr}{as:List (Addr×(Addr×Nd))}{zs:ZN}(b:Book H d as zs)(s:Same H H'):Book H' d as zs:=⟨s.rd b.dict,b.of,λa ha=>s _ _ (b.at' a ha)⟩
theorem dB{as:List (Addr×(Addr×Nd))}{zs:ZN}(h:as.map (·.2)=zs):(dk as).map (·.1)=((nds zs).map (·.num)).map (Sum.inl:Int→Key):=by
 rw[←h];unfold dk nds;simp only[map_map];rfl
theorem oE{as:List (Addr×(Addr×Nd))}{zs:ZN}(h:as.map (·.2)=zs)(hn:((nds zs).map (·.num)).Nodup):((dk as).map (·.1)).Nodup:=by
 rw[dB h];unfold Nodup at hn⊢;rw[pairwise_map];exact hn.imp λh e=>h (by injection e)
theorem Book.get{H:Hp}{d:Addr}{as:List (Addr×(Addr×Nd))}{zs:ZN}(b:Book H d as zs)(hn:((nds zs).map (·.num)).Nodup){z:Addr×Nd}(hz:z∈zs):∃q,bA H d (.int z.2.num) (some (.ref q))∧H q=some (.tup (aV z.2)):=by
 have:z∈as.map (·.2):=by rw[b.of];exact hz
 obtain⟨a,ha,rfl⟩:=mem_map.mp this;refine⟨a.1,.inl ⟨dk as,Sum.inl a.2.2.num,b.dict,rfl,?_⟩,b.at' a ha⟩;exact(oD (oE b.of hn) (mem_map.mpr ⟨a,ha,rfl⟩)).symm
theorem Book.not{H:Hp}{d:Addr}{as:List (Addr×(Addr×Nd))}{zs:ZN}(b:Book H d as zs){k:Int}(hk:∀z∈zs,z.2.num≠k):bA H d (.int k) none:=by
 refine .inl ⟨dk as,Sum.inl k,b.dict,rfl,(qC λhm=>?_).symm⟩;rw[dB b.of]at hm;obtain⟨i,hi,e⟩:=mem_map.mp hm;obtain⟨n,hn,rfl⟩:=mem_map.mp hi;obtain⟨z,hz,rfl⟩:=mem_map.mp hn;injection e with e
 exact hk z hz e
theorem cF(zs:ZN):zs.map (λz=>V.ref z.1)=aU zs:=by simp[aU]
theorem fb{K:PySem.W.Frag}{H:Hp}{l:Addr}{zs:ZN}{Q:VK}(hl:SqL K H l (aU zs)∨SqT K H l (aU zs))(hA:At H zs)(hn:((nds zs).map (·.num)).Nodup)(h64:zs.length<64)(q:∀us t' H',Same H H'→H' t'=some (.tup (aU us))→At H' us→us.Perm zs→TW.cD (nds us)→Q (.ref t') H'):
  ∃l',∃ts:List eN,[V.ref l]=[V.ref l']∧(SqL K H l' ((ts.map (·.1)).map V.ref)∨SqT K H l' ((ts.map (·.1)).map V.ref))∧(∀z∈ts,H z.1=some (.tup (.int z.2.1::z.2.2)))∧(ts.map (·.2.1)).Nodup∧ts.length<64 ∧
   ∀ts':List eN,ts'.Perm ts→ts'.Pairwise (λa b=>a.2.1<b.2.1)→∀p,H p=none→∃p' ys,[V.ref p]=[V.ref p']∧((SqL K (upd H p (.lst ((ts'.map (·.1)).map V.ref))) p' ys∧∀l,upd H p (.lst ((ts'.map (·.1)).map V.ref)) l=none→Q (.ref l) (upd (upd H p (.lst ((ts'.map (·.1)).map V.ref))) l (.tup ys))) ∨
    (SqT K (upd H p (.lst ((ts'.map (·.1)).map V.ref))) p' ys∧Q (.ref p') (upd H p (.lst ((ts'.map (·.1)).map V.ref))))):=by
 have hnum:(zs.map tp).map (·.2.1)=(nds zs).map (·.num):=by
  unfold nds;simp only[map_map];rfl
 refine⟨l,zs.map tp,rfl,by rw[fw];exact hl,λz hz=>?_,by rw[hnum];exact hn,by rw[length_map];exact h64,λts pm up p hp=>?_⟩
 ·obtain⟨y,hy,rfl⟩:=mem_map.mp hz;exact hA y hy
 ·obtain⟨pm2,eb⟩:=uj pm;have er:(ts.map (·.1)).map V.ref=aU (ts.map un):=by rw[←fw,eb]
  rw[er];refine⟨p,_,rfl,.inl ⟨SqL.of ac,λl hl=>?_⟩⟩;refine q (ts.map un) l _ ((ae hp).trans (ae hl)) ac ?_ pm2 ?_
  ·intro z hz;exact((ae hp).trans (ae hl)) _ _ (hA z (pm2.mem_iff.mp hz))
  ·unfold nds TW.cD;rw[pairwise_map];have up2:((ts.map un).map tp).Pairwise (λa b=>a.2.1<b.2.1):=by rw[eb];exact up
   rw[pairwise_map]at up2;exact up2
theorem bT{zs:ZN}{z:Addr×Nd}(h:z∈zs):z.2∈nds zs:=mem_map.mpr ⟨z,h,rfl⟩
theorem bY{zs:ZN}{n:Nd}(h:n∈nds zs):∃z∈zs,z.2=n:=mem_map.mp h
def top(i:Nat):Stmt:=PySem.Challenge.pw_treewatch_k61_whole_itself_again.main.body.getD i (.Pass ⟨0,0,0,0⟩)
abbrev sy:Stmt:=top 2
abbrev sA:Stmt:=top 3
abbrev qE:Stmt:=top 4
abbrev br:Stmt:=top 5
abbrev bu:Stmt:=top 6
abbrev bv:Stmt:=top 7
abbrev bJ:Stmt:=top 9
abbrev bw:Stmt:=top 10
abbrev bx:Stmt:=top 11
abbrev cv:Stmt:=top 12
abbrev cP:Stmt:=top 13
abbrev bz:Stmt:=top 15
abbrev bL:Stmt:=top 16
abbrev aA:Stmt:=top 17
abbrev oF:Stmt:=top 19
abbrev oG:Stmt:=top 20
abbrev eQ:Stmt:=top 21
abbrev aN:Stmt:=top 22
abbrev gH:Stmt:=top 23
structure Txt(mg:Str→Option Value):Prop where
 isin:mg "isinstance"=none
 dict:mg "dict"=none
 len:mg "len"=none
 tuple:mg "tuple"=none
 list:mg "list"=none
 range:mg "range"=none
 sorted:mg "sorted"=none
 reversed:mg "reversed"=none
 ValueError:mg "ValueError"=none
 str:mg "str"=none
 set:mg "set"=none
 max:mg "max"=none
 min:mg "min"=none
 sum:mg "sum"=none
 zip:mg "zip"=none
 enumerate:mg "enumerate"=none
 all:mg "all"=none
 int:mg "int"=none
 bool:mg "bool"=none
 top:∃t,mg "TOP"=some (.int 0 t)
end TK
namespace TB
open PySem PySem.SetTable
theorem mM{t:SetTable}{l:List Nat}(T:Tb t l)(mk:Mk t.mask)(hl:l.length≤t.mask)(h:Int):∃j,t.freeSlot h=some (j,false)∧j∉l∧j≤t.mask:=by
 obtain⟨j₀,hj₀,hj₀'⟩:=kg t.mask l hl;obtain⟨n₀,hn₀,en₀⟩:=ue mk.cyc h hj₀;obtain⟨N,hNle,hN,hNno⟩:=nV (λm=>pos t.mask h m∉l) n₀ (by rw[en₀];exact hj₀');have hp:=jh t (λ_=>h+1) h N (st t.mask h) (10*turns t.mask) (by omega) (λm hm=>by
  have hin:pos t.mask h m∈l:=by
   by_cases z:pos t.mask h m∈l
   ·exact z
   ·exact(hNno m hm z).elim
  obtain⟨i,hi,e⟩:=mem_iff_getElem.mp hin;exact⟨i,qg T (by show l[i]?=some (pos t.mask h m);rw[getElem?_eq_getElem hi,e]),by rw[beq_eq_false_iff_ne];omega⟩) (nW T hN)
 refine⟨pos t.mask h N,?_,hN,fL _ _ _⟩;unfold SetTable.freeSlot;have hp':t.probe (λ_=>h+1) h (t.probeStart h)=some (.empty (pos t.mask h N) none):=hp;rw[hp'];rfl
theorem qF{t:SetTable}{l:List Nat}(T:Tb t l)(mk:Mk t.mask)(hl:l.length+1≤t.mask)(es:Array (Int×Value))(hes:es.size=l.length)(h:Int)(x:Value):
  ∃p t' l',layNew t es h x=(insertAt es p (h,x),t',false,false)∧Tb t' l'∧l'.length=l.length+1∧t'.mask=t.mask∧t'.plain=t.plain∧t'.led=t.led:=by
 obtain⟨j,hf,hj,hjm⟩:=mM T mk (by omega) h;obtain⟨T1,hp1,hm1⟩:=sm T hj hjm;have hlen:(l.take (below l.toArray j)++j::l.drop (below l.toArray j)).length=l.length+1:=by
  rw[length_append,length_cons,length_take,length_drop];have:=(bF T.up j).1;omega
 have hsz:(insertAt es (t.put j).2 (h,x)).size=l.length+1:=by
  rw[←length_toList,SetTable.toList_insertAt,length_append,length_cons,length_take,length_drop,length_toList,hes,hp1];have:=(bF T.up j).1;omega
 have hfit:(t.put j).1.fits (insertAt es (t.put j).2 (h,x)).size=true:=iB T1 (by rw[hlen,hsz]) (by rw[hsz,hm1];exact hl);refine⟨(t.put j).2,(t.put j).1,_,?_,T1,hlen,hm1,rfl,rfl⟩;unfold layNew;rw[hf];show(insertAt es (t.put j).2 (h,x),(t.put j).1.orStandIn (insertAt es (t.put j).2 (h,x)).size,false,!((t.put j).1.fits (insertAt es (t.put j).2 (h,x)).size))=_;rw[hfit];unfold SetTable.orStandIn;rw[if_pos hfit];rfl
theorem mQ{t:SetTable}(es:Array (Int×Value))(h0:0<es.size)(h60:es.size≤60):
  ∃es' t' l',relayAll t es (grown es.size)=(es',t',false)∧es'.toList.Perm es.toList∧Tb t' l'∧l'.length=es.size∧Mk t'.mask∧es.size*5<t'.mask*3∧t'.plain=t.plain∧t'.led=t.led:=by
 have hw:grown es.size=es.size*4:=by unfold SetTable.grown;rw[if_neg (by omega)]
 obtain⟨hmk,hle,h256⟩:=fJ (w:=es.size*4) (by omega);rw[hw];obtain⟨t',zs,e,hm,hled,hpl,T,hperm,_⟩:=gZ (t:=t) (hashes:=es.map (·.1)) (wanted:=es.size*4) hmk.cyc (by rw[size_map];omega);rw[size_map]at hperm;have hlen:zs.length=es.size:=by
  have:=hperm.length_eq;rw[length_map,length_range]at this;exact this
 have hp:(((zs.map (·.2)).toArray).filterMap (λi=>es[i]?)).toList.Perm es.toList:=by
  rw[Array.toList_filterMap];exact(hperm.filterMap _).trans (by rw[filterMap_getElem?_range])
 have hsz:(((zs.map (·.2)).toArray).filterMap (λi=>es[i]?)).size=es.size:=by
  rw[←length_toList,hp.length_eq,length_toList]
 have hfit:t'.fits (((zs.map (·.2)).toArray).filterMap (λi=>es[i]?)).size=true:=iB T (by rw[hsz,length_map,hlen]) (by rw[hsz,hm];omega);have hcov:coversAll (zs.map (·.2)).toArray es.size=true:=by
  unfold coversAll;exact List.isPerm_iff.mpr hperm
 refine⟨((zs.map (·.2)).toArray).filterMap (λi=>es[i]?),t',zs.map (·.1),?_,hp,T,by rw[length_map,hlen],by rw[hm];exact hmk,by rw[hm];omega,hpl,hled⟩;unfold relayAll;rw[e];dsimp only;rw[hcov,hfit];rfl
def bt(w:World):Bool:=w.params.followText "set-order"
def dY(tk:Int→Tok)(n:Int):Int×Value:=(hashInt n,.int n (tk n))
structure ISt(w:World)(es:Array (Int×Value))(t:SetTable)(ns:List Int):Prop where
 ent:∃tk,es.toList=ns.map (dY tk)
 nd:ns.Nodup
 tb:∃l,Tb t l∧l.length=ns.length
 mkm:Mk t.mask
 room:ns.length*5<t.mask*3
 pl:t.plain=true
 led:bt w=false→t.led=true
def IS(w:World)(h:Heap)(a:Addr)(ns:List Int):Prop:=∃o es ep t,h.get? a=some o∧o.ExactSet∧o.data=.set es ep t∧ISt w es t ns
theorem ISt.size{w:World}{es:Array (Int×Value)}{t:SetTable}{ns:List Int}(h:ISt w es t ns):es.size=ns.length:=by
 obtain⟨tk,e⟩:=h.ent;rw[←length_toList,e,length_map]
theorem ISt.fits{w:World}{es:Array (Int×Value)}{t:SetTable}{ns:List Int}(h:ISt w es t ns):t.fits es.size=true:=by
 obtain⟨l,T,hl⟩:=h.tb;have:=h.mkm.ge;have:=h.room;exact iB T (by rw[hl,h.size]) (by rw[h.size];omega)
theorem ISt.elems{prog:Program}{w:World}{es:Array (Int×Value)}{t:SetTable}{ns:List Int}(h:ISt w es t ns):ElemsOf (intKind prog w) es.toList:=by
 obtain⟨tk,e⟩:=h.ent;rw[e];intro z hz;obtain⟨n,hn,rfl⟩:=mem_map.mp hz;exact⟨⟨n,intKind_is _ _ _ _,rfl⟩,rfl⟩
theorem cf{es':List (Int×Value)}:∀{l:List (Int×Value)},es'.Perm l→∀{tk:Int→Tok}{ns:List Int},l=ns.map (dY tk)→∃ns':List Int,ns'.Perm ns∧es'=ns'.map (dY tk):=by
 intro l p tk ns e;have hall:∀z∈es',∃n,z=dY tk n:=λz hz=>by
  have:=p.mem_iff.mp hz;rw[e]at this;obtain⟨n,hn,e⟩:=mem_map.mp this;exact⟨n,e.symm⟩
 obtain⟨ns',e'⟩:∃ns':List Int,es'=ns'.map (dY tk):=by
  clear p e
  induction es' with
  |nil=>exact⟨[],rfl⟩
  |cons z es' ih =>
   obtain⟨n,hn⟩:=hall z mem_cons_self;obtain⟨ns',e⟩:=ih λy hy=>hall y (mem_cons_of_mem _ hy);exact⟨n::ns',by rw[hn,e];rfl⟩
 refine⟨ns',?_,e'⟩;have hv:∀m:List Int,(m.map (dY tk)).map (λz=>match z.2 with | .int n _=>n | _=>0)=m:=λm=>by
  rw[map_map]
  induction m with
  |nil=>rfl
  |cons x m ih=>rw[map_cons,ih];rfl
 have:=p.map (λz=>match z.2 with | .int n _=>n | _=>0);rw[e',e,hv,hv]at this;exact this
theorem oH{tk:Int→Tok}{ns:List Int}{n:Int}{t:Tok}(hn:n∉ns):∃tk',(dY tk' n=(hashInt n,Value.int n t))∧ns.map (dY tk')=ns.map (dY tk):=by
 refine⟨λm=>if m=n then t else tk m,by show(hashInt n,Value.int n (if n=n then t else tk n))=_;rw[if_pos rfl],?_⟩
 apply map_congr_left;intro m hm;show(hashInt m,Value.int m (if m=n then t else tk m))=_;rw[if_neg (by rintro rfl;exact hn hm)];rfl
section
variable{prog:Program}{w:World}{A:Around}{E:Value→Shared→Prop}{s:Shared}
theorem add_int{a:Addr}{ns:List Int}{n:Int}{t0:Tok}{Q:Bool→Shared→Prop}(hS:IS w s.heap a ns)(hroom:ns.length<60)(h:∀r h' ns',SameBut a s.heap h'→IS w h' a ns'→((n∈ns∧ns'=ns)∨(n∉ns∧ns'.Perm (n::ns)))→Q r {s with heap:=h'}):
  wpAny (model prog w) A (setAddHashed a (.int n t0) (hashInt n)) Q E s:=by
 obtain⟨o,es,ep,t,ho,hex,hd,S⟩:=id hS;have hsz:=S.size;have hf:=S.fits;have hel:ElemsOf (intKind prog w) es.toList:=S.elems;have hkey:(intKind prog w).is n (.int n t0)=true:=intKind_is _ _ _ _;have hb:es.size<scanBound:=by unfold scanBound;omega
 have hge:=S.mkm.ge;have hrm:=S.room;unfold setAddHashed setAddHashedIn;refine wpAny_holding (wpAny_bind (wpAny_setState_of ho hd hf ?_));dsimp only;rw[byScan_of (knd:=intKind prog w) (x:=.int n t0) rfl hb hel];simp only[↓reduceIte];unfold setAddByScan;refine wpAny_bind ?_;refine wpAny_bind (wpAny_rule ?_);refine wpAny_bind (wpAny_setScan_of (knd:=intKind prog w) (k:=n) hkey ho hd hf hel ?_);obtain⟨tk,hent⟩:=S.ent;cases hr:List.findIdx? (λe=>(intKind prog w).is n e.2) es.toList with
 |some j =>
  dsimp only;obtain⟨hj,hpj,_⟩:=List.findIdx?_eq_some_iff_getElem.mp hr;have hin:n∈ns:=by
   have hm:es.toList[j]∈es.toList:=getElem_mem hj;generalize es.toList[j]=z at hm hpj;rw[hent]at hm;obtain⟨m,hm1,rfl⟩:=mem_map.mp hm;have:=(intKind prog w).inj _ n m hpj (intKind_is _ _ _ _);rw[this];exact hm1
  refine wpAny_pure (wpAny_pure ?_);have e:s={s with heap:=s.heap}:=by cases s;rfl
  have:=h false s.heap ns (SameBut.refl a s.heap) hS (.inl ⟨hin,rfl⟩);rw[e];exact this
 |none =>
  dsimp only;have hnin:n∉ns:=λhin=>by
   have:=List.findIdx?_eq_none_iff.mp hr (dY tk n) (by rw[hent];exact mem_map.mpr ⟨n,hin,rfl⟩);have h2:(intKind prog w).is n (dY tk n).2=true:=intKind_is _ _ _ _;rw[h2]at this;cases this
  obtain⟨l,T,hl⟩:=S.tb;obtain⟨p,t1,l1,e1,T1,hl1,hm1,hp1,hled1⟩:=qF T S.mkm (by omega) es (by omega) (hashInt n) (.int n t0);rw[e1];dsimp only;obtain⟨tk',htk1,htk2⟩:=oH (tk:=tk) (t:=t0) hnin;obtain⟨ns1,hns1,hes1⟩:=cf (es':=(insertAt es p (hashInt n,Value.int n t0)).toList) (l:=(n::ns).map (dY tk')) (tk:=tk') (ns:=n::ns) (by
   refine(SetTable.insertAt_perm es p _).trans ?_;rw[toList_push,hent,←htk2,map_cons,htk1];exact List.perm_append_singleton _ _) rfl
  have hn1:ns1.length=ns.length+1:=by rw[hns1.length_eq,length_cons]
  have hnd1:ns1.Nodup:=hns1.nodup_iff.mpr (nodup_cons.mpr ⟨hnin,S.nd⟩);have hsz1:(insertAt es p (hashInt n,Value.int n t0)).size=ns1.length:=by rw[←length_toList,hes1,length_map]
  refine wpAny_bind (wpAny_pure ?_);rw[hp1,S.pl];simp only[if_true];refine wpAny_bind ?_;rw[hashByValue_scannable 8 (x:=.int n t0) rfl];refine wpAny_pure ?_;simp only[plainKind,if_true];refine wpAny_bind (wpAny_storeSet_of ho hd ?_ (by rw[hsz1];exact nZ (by omega)));have ho1:=stored ho hd (insertAt es p (hashInt n,Value.int n t0)) t1;have hsb1:=SameBut.update s.heap a (Obj.putSet (insertAt es p (hashInt n,Value.int n t0)) t1);have hfill:t1.fill=ns1.length:=by rw[dS T1,hl1,hl,hn1]
  by_cases hfull:t1.tooFull=true
  ·rw[hfull];simp only[Bool.not_false,Bool.and_self,if_true];obtain⟨es2,t2,l2,e2,p2,T2,hl2,hmk2,hrm2,hp2,hled2⟩:=mQ (t:=t1) (insertAt es p (hashInt n,Value.int n t0)) (by omega) (by omega);rw[e2];dsimp only;obtain⟨ns2,hns2,hes2⟩:=cf p2 hes1;have hn2:ns2.length=ns1.length:=hns2.length_eq;have hsz2:es2.size=ns2.length:=by rw[←length_toList,hes2,length_map]
   refine wpAny_bind (wpAny_pure ?_);refine wpAny_bind (wpAny_storeSet_of ho1 rfl ?_ (by rw[hsz2];exact nZ (by omega)));have ho2:=stored (s:={s with heap:=s.heap.update a (Obj.putSet (insertAt es p (hashInt n,Value.int n t0)) t1)}) ho1 rfl es2 t2
   refine wpAny_pure (wpAny_pure (h true _ ns2 (hsb1.trans (SameBut.update _ a _)) ⟨_,es2,_,t2,ho2,hex,rfl,⟨⟨tk',hes2⟩,hns2.nodup_iff.mpr hnd1,⟨l2,T2,by omega⟩,hmk2,by rw[hn2,←hsz1];exact hrm2,by rw[hp2,hp1];exact S.pl,λz=>by rw[hled2,hled1];exact S.led z⟩⟩ (.inr ⟨hnin,hns2.trans hns1⟩)))
  ·have hnf:t1.tooFull=false:=by simpa using hfull
   rw[hnf];simp only[Bool.and_false,false_eq_true,if_false];refine wpAny_pure (wpAny_pure (h true _ ns1 hsb1 ⟨_,_,_,t1,ho1,hex,rfl,⟨⟨tk',hes1⟩,hnd1,⟨l1,T1,by omega⟩,by rw[hm1];exact S.mkm,?_,by rw[hp1];exact S.pl,λz=>by rw[hled1];exact S.led z⟩⟩ (.inr ⟨hnin,hns1⟩)));unfold SetTable.tooFull at hnf;rw[decide_eq_false_iff_not,hfill]at hnf;omega
end
theorem gg:entryFor table "set.__iter__"=some Builtin.«frozenset.__iter__» :=
 entryFor_alias (id':="frozenset.__iter__") (by kernel_rfl) rfl (by decide +kernel) (by kernel_rfl)
theorem bd:Slot "set_iterator" "__next__" "set_iterator.__next__" :=
 .of (owner:="set_iterator") (n:="__next__") (by rw[typeLookup_type,builtinLookup_eq_fast];kernel_rfl) (by decide +kernel) (by decide +kernel) (by decide +kernel)
  (by first|exact .inl (by decide +kernel)|exact .inr (by decide +kernel)) (by rw[isSubtype_type];kernel_rfl)
theorem dZ:Slot "set_iterator" "__iter__" "set_iterator.__iter__" :=
 .of (owner:="set_iterator") (n:="__iter__") (by rw[typeLookup_type,builtinLookup_eq_fast];kernel_rfl) (by decide +kernel) (by decide +kernel) (by decide +kernel)
  (by first|exact .inl (by decide +kernel)|exact .inr (by decide +kernel)) (by rw[isSubtype_type];kernel_rfl)
theorem dm:entryFor table "set_iterator.__next__"=some Builtin.«set_iterator.__next__»:=entryFor_of_tree (by kernel_rfl)
theorem jy:Manifest.owners.lookup (String.ofList ['r','o','t','a','r','e','t','i','_','t','e','s'].reverse)=some Manifest.sig_set_iterator:=by kernel_rfl
theorem eA(a:Value):argsOk "set_iterator.__next__" ⟨[a],[]⟩:=by
 unfold argsOk;rw[signature?_of (id:="set_iterator.__next__") (n:=['_','_','t','x','e','n','_','_']) (o:=['r','o','t','a','r','e','t','i','_','t','e','s']) (by kernel_rfl) jy];kernel_rfl
theorem iI(a:Value):argsOk "set_iterator.__iter__" ⟨[a],[]⟩:=by
 unfold argsOk;rw[signature?_of (id:="set_iterator.__iter__") (n:=['_','_','r','e','t','i','_','_']) (o:=['r','o','t','a','r','e','t','i','_','t','e','s']) (by kernel_rfl) jy];kernel_rfl
theorem gJ:∃b,entryFor table "set_iterator.__iter__"=some b∧b=Builtin.«dict_keyiterator.__iter__» :=
 ⟨_,entryFor_alias (id':="dict_keyiterator.__iter__") (by kernel_rfl) rfl (by decide +kernel) (by kernel_rfl),rfl⟩
theorem ib{α:Type}(next:Nat→Nat):∀(fuel k:Nat)(left:List α)(out:Array α),left.length=fuel→(pickOrder.go next fuel k left out).toList.Perm (out.toList++left)
 |0,k,left,out,h=>by
  have:left=[]:=length_eq_zero_iff.mp h;subst this;rw[append_nil];exact .rfl
 |fuel+1,k,left,out,h=>by
  unfold pickOrder.go;have hlt:next k % left.length<left.length:=mod_lt _ (by omega);rw[getElem?_eq_getElem hlt];dsimp only;refine(ib next fuel (k+1) _ _ (by rw[List.length_eraseIdx,if_pos hlt];omega)).trans ?_;rw[toList_push,append_assoc];refine List.Perm.append_left _ ?_;rw[List.singleton_append];rw[List.eraseIdx_eq_take_drop_succ];refine List.perm_middle.symm.trans ?_;rw[List.getElem_cons_drop,List.take_append_drop]
def dc(w:World)(a:Addr)(ep:Nat)(es:Array (Int×Value)):Array (Int×Value):=if bt w then pickOrder (w.params.setOrder a ep) es else es
theorem gh(w:World)(a:Addr)(ep:Nat)(es:Array (Int×Value)):(dc w a ep es).toList.Perm es.toList:=by
 unfold dc
 split
 ·exact ib _ _ _ _ _ rfl
 ·exact .rfl
theorem jz(w:World)(a:Addr)(ep:Nat)(es:Array (Int×Value)):(dc w a ep es).size=es.size:=by
 rw[←length_toList,(gh w a ep es).length_eq,length_toList]
def kE(w:World)(t:SetTable)(h:Heap)(I a:Addr)(n ep i:Nat):Prop :=
 ∃o slot,h.get? I=some o∧o.cls=.type "set_iterator"∧o.data=.fields #[.int (slot:Nat) 0,.int (i:Nat) 0,.ref a,.int (n:Nat) 0,.int (ep:Nat) 0]∧(bt w=false→below t.place slot=i)
theorem kE.typeIs{w:World}{t:SetTable}{s:Shared}{I a:Addr}{n ep i:Nat}(x:kE w t s.heap I a n ep i):s.TypeIs (.ref I) "set_iterator":=let⟨o,_,ho,hc,_⟩:=x;⟨o,ho,hc⟩
section
variable{prog:Program}{w:World}{A:Around}{E:Value→Shared→Prop}{s:Shared}
theorem eR{es:Array (Int×Value)}{t:SetTable}{ns:List Int}(S:ISt w es t ns):(!t.plain&&decide (es.size>1))=false:=by rw[S.pl];rfl
theorem oJ{a:Addr}{o:Obj}{es:Array (Int×Value)}{ep:Nat}{t:SetTable}{ns:List Int}{Q:Value→Shared→Prop}(S:ISt w es t ns)(ho:s.heap.get? a=some o)(hex:o.ExactSet)(hd:o.data=.set es ep t)(hQ:Q (.ref s.heap.objs.size) {s with heap:=s.heap.push {cls:=.type "set_iterator",data:=.fields #[.int 0 0,.int 0 0,.ref a,.int es.size 0,.int ep 0]}}):wpAny (model prog w) A (pyIter (.ref a)) Q E s:=by
 have hT:s.TypeIs (.ref a) "set":=⟨o,ho,hex.1⟩;refine wpAny_pyIter_slot hT F.slot_set_iter (wpAny_call_entry F.slot_set_iter hT gg ?_ (F.args_set_iter_1 _));unfold Builtin.«frozenset.__iter__» Builtin.Frozenset.slot0;refine wpAny_bind ?_;show wpAny _ _ (pure a) _ _ s;refine wpAny_pure ?_;unfold Builtin.Frozenset.sizeOf;refine wpAny_bind (wpAny_bind (wpAny_setEntries_of ho hd S.fits (wpAny_pure ?_)));refine wpAny_bind ?_;unfold setDrawn;refine wpAny_bind (wpAny_setState_of ho hd S.fits ?_);unfold setsByText;refine wpAny_bind (wpAny_bind (wpAny_askSetting (wpAny_pure ?_)));refine wpAny_pure ?_;have hdr:(!(model prog w).w.params.followText "set-order"&&(!t.plain&&decide (es.size>1)))=false:=by rw[eR S,Bool.and_false]
 show wpAny _ _ (if (!(model prog w).w.params.followText "set-order"&&(!t.plain&&decide (es.size>1)))=true then _ else _) _ _ _
 rw[hdr];simp only[false_eq_true,if_false];refine wpAny_bind (wpAny_pure ?_);refine wpAny_bind (wpAny_setEpoch_of ho hd S.fits ?_);refine wpAny_bind (wpAny_newObj_type (wpAny_pure ⟨_,rfl,"set_iterator",_,⟨_,get?_push_size _ rfl,rfl⟩,bd.lookup,?_⟩));simpa [rawInt]using hQ
theorem jA{a:Addr}{o:Obj}{es:Array (Int×Value)}{ep slot i:Nat}{t:SetTable}{ns:List Int}{Q:Option (Value×Nat)→Shared→Prop}(S:ISt w es t ns)(ho:s.heap.get? a=some o)(hd:o.data=.set es ep t)(hs:bt w=false→below t.place slot=i)(h1:∀v slot',(dc w a ep es)[i]?.map (·.2)=some v→(bt w=false→below t.place slot'=i+1)→Q (some (v,slot')) s)(h2:(dc w a ep es)[i]?=none→Q none s):wpAny (model prog w) A (setNext a slot i ep) Q E s:=by
 unfold setNext;refine wpAny_bind (wpAny_setState_of ho hd S.fits ?_);unfold setsByText;refine wpAny_bind (wpAny_bind (wpAny_askSetting (wpAny_pure ?_)));show wpAny _ _ (if bt w=true then _ else _) _ _ _;cases hb:bt w with
 |true =>
  simp only[if_true,bne_self_eq_false,false_eq_true,if_false];refine wpAny_bind ?_;unfold setWalk;refine wpAny_bind (wpAny_setState_of ho hd S.fits ?_);unfold setsByText;refine wpAny_bind (wpAny_bind (wpAny_askSetting (wpAny_pure ?_)));show wpAny _ _ (if bt w=true then _ else _) _ _ _;rw[hb];simp only[if_true];refine wpAny_bind (wpAny_askSetting (wpAny_pure ?_));have e:dc w a ep es=pickOrder (w.params.setOrder a ep) es:=by unfold dc;rw[hb];rfl
  rw[e]at h1 h2;show wpAny _ _ (pure (((pickOrder (w.params.setOrder a ep) es)[i]?).map λe=>(e.2,slot))) _ _ _;cases hx:(pickOrder (w.params.setOrder a ep) es)[i]? with
  |none=>exact wpAny_pure (h2 hx)
  |some x=>exact wpAny_pure (h1 x.2 slot (by rw[hx];rfl) (λz=>absurd (hb.symm.trans z) (by decide)))
 |false =>
  simp only[false_eq_true,if_false];have e:dc w a ep es=es:=by unfold dc;rw[hb];rfl
  rw[e]at h1 h2;show wpAny _ _ (if (!t.plain&&decide (es.size>1))=true then _ else _) _ _ _
  rw[eR S];simp only[false_eq_true,if_false];refine wpAny_bind ?_;show wpAny _ _ (if (!t.led && !es.isEmpty)=true then _ else _) _ _ _
  rw[S.led hb];simp only[Bool.not_true,Bool.false_and,false_eq_true,if_false];refine wpAny_pure ?_;have hsl:=hs hb;obtain⟨l,T,hl⟩:=S.tb;have hlen:l.length=es.size:=by rw[hl,S.size]
  rw[hsl]
  by_cases hi:i<es.size
  ·have e1:es[i]?=some es[i]:=Array.getElem?_eq_getElem hi;have e2:t.place[i]?=some (l[i]'(by omega)):=by rw[T.pl,List.getElem?_toArray,getElem?_eq_getElem (by omega)]
   rw[e1,e2];refine wpAny_pure (h1 _ _ (by rw[e1];rfl) λ_=>?_);obtain⟨b1,b2,b3⟩:=bF T.up (l[i]'(by omega)+1);rw[T.pl];rcases Nat.lt_trichotomy (below l.toArray (l[i]'(by omega)+1)) (i+1)with z|z|z
   ·have:=b3 i (by omega) (by omega);omega
   ·exact z
   ·have hi2:i+1<l.length:=by omega
    have q1:=b2 (i+1) hi2 z;have q2:=pairwise_iff_getElem.mp T.up i (i+1) (by omega) hi2 (by omega);omega
  ·have e1:es[i]?=none:=Array.getElem?_eq_none (by omega);rw[e1];exact wpAny_pure (h2 e1)
theorem qG{I a:Addr}{o:Obj}{es:Array (Int×Value)}{ep i:Nat}{t:SetTable}{ns:List Int}{Q:Option Value→Shared→Prop}(S:ISt w es t ns)(hi:i<es.size)(hit:kE w t s.heap I a es.size ep i)(ho:s.heap.get? a=some o)(hd:o.data=.set es ep t)(hne:a≠I)(hQ:∀v h',(dc w a ep es)[i]?.map (·.2)=some v→kE w t h' I a es.size ep (i+1)→SameBut I s.heap h'→Q (some v) {s with heap:=h'}):wpAny (model prog w) A (pyNext (.ref I)) Q E s:=by
 obtain⟨oi,slot,hoi,hci,hdi,hsl⟩:=id hit;unfold pyNext;refine wpAny_bind (wpAny_attempt (wpAny_callSpecial?_slot (name:=ofString "__next__") hit.typeIs bd
  (wpAny_call_entry bd hit.typeIs dm ?_ (eA _))))
 unfold Builtin.«set_iterator.__next__»;refine wpAny_bind (wpAny_pure ?_);refine wpAny_bind (wpAny_fieldsOf hoi hdi ?_);dsimp only;refine wpAny_bind (wpAny_setEntries_of ho hd S.fits ?_);rw[if_neg (by simp)];show wpAny _ _ (setNext a (toNat (slot:Int)) (toNat (i:Int)) (toNat (ep:Int)) >>= _) _ _ _;rw[toNat_natCast,toNat_natCast,toNat_natCast];refine wpAny_bind (jA S ho hd hsl (λv slot' hv hs'=>?_) λhn=>?_)
 ·dsimp only;refine wpAny_bind (wpAny_setField hoi hdi (by simp) ?_);have h1:(s.heap.update I (Obj.mapFields (·.setIfInBounds 0 (rawInt (slot':Nat))))).get? I=some _:=get?_update_self _ hoi (Obj.isFreed_of_fields (Obj.data_mapFields hdi _));refine wpAny_bind (wpAny_setField h1 (Obj.data_mapFields hdi _) (by simp) ?_);have h2:=get?_update_self (Obj.mapFields (·.setIfInBounds 1 (rawInt ((i:Int)+1)))) h1 (Obj.isFreed_of_fields (Obj.data_mapFields (Obj.data_mapFields hdi _) _));refine wpAny_pure ⟨_,rfl,wpAny_pure (hQ v _ hv ⟨_,slot',h2,?_,?_,hs'⟩ ((SameBut.update ..).trans (SameBut.update ..)))⟩
  ·rw[Obj.cls_mapFields,Obj.cls_mapFields];exact hci
  ·rw[Obj.data_mapFields (Obj.data_mapFields hdi _)];simp[rawInt]
 ·exfalso
  rw[Array.getElem?_eq_none_iff,jz]at hn;omega
theorem sC{I a:Addr}{o:Obj}{es:Array (Int×Value)}{ep:Nat}{t:SetTable}{ns:List Int}{Q:Option Value→Shared→Prop}(hh:A.handled=none)(S:ISt w es t ns)(hit:kE w t s.heap I a es.size ep es.size)(ho:s.heap.get? a=some o)(hd:o.data=.set es ep t)(hQ:∀h',ExtBut I s.heap h'→Q none {s with heap:=h'}):wpAny (model prog w) A (pyNext (.ref I)) Q E s:=by
 obtain⟨oi,slot,hoi,hci,hdi,hsl⟩:=id hit;unfold pyNext;refine wpAny_bind (wpAny_attempt (wpAny_callSpecial?_slot (name:=ofString "__next__") hit.typeIs bd
  (wpAny_call_entry bd hit.typeIs dm ?_ (eA _))))
 unfold Builtin.«set_iterator.__next__»;refine wpAny_bind (wpAny_pure ?_);refine wpAny_bind (wpAny_fieldsOf hoi hdi ?_);dsimp only;refine wpAny_bind (wpAny_setEntries_of ho hd S.fits ?_);rw[if_neg (by simp)];show wpAny _ _ (setNext a (toNat (slot:Int)) (toNat (es.size:Int)) (toNat (ep:Int)) >>= _) _ _ _;rw[toNat_natCast,toNat_natCast,toNat_natCast];refine wpAny_bind (jA S ho hd hsl (λv slot' hv hs'=>?_) λhn=>?_)
 ·exfalso
  have:(dc w a ep es)[es.size]?=none:=Array.getElem?_eq_none (by rw[jz];exact le_refl _);rw[this]at hv;cases hv
 ·dsimp only;refine wpAny_bind (wpAny_setField hoi hdi (by simp) ?_);show wpAny _ _ (newExc (.type "StopIteration") [] >>= _) _ _ _;refine wpAny_bind ?_;simp only[newExc,newTuple];refine wpAny_bind (wpAny_newObj_type ?_ (by size_fits));refine wpAny_bind (m:=firstArgMember _ _) (wpAny_of_eq (a:=Value.none) (by first|rfl|(simp only[firstArgMember];rfl)) ?_)
  refine wpAny_newObj_type ?_ (by size_fits);simp only[raiseNew];refine wpAny_bind (wpAny_handled ?_);rw[show A.in1.handled=none from hh];refine wpAny_bind (wpAny_pure (wpAny_throw ?_));refine wpAny_bind (wpAny_isInstance (T:="StopIteration") (b:=true) ⟨_,get?_push_size _ rfl,rfl⟩ isSubtype_stop ?_);exact wpAny_pure (hQ _ (((SameBut.update ..).extBut.push _).push _))
theorem qH{I a:Addr}{n ep i:Nat}{t:SetTable}{Q:Value→Shared→Prop}(hit:kE w t s.heap I a n ep i)(h:Q (.ref I) s):wpAny (model prog w) A (pyIter (.ref I)) Q E s:=by
 obtain⟨b,hb,e⟩:=gJ;subst e;refine wpAny_pyIter_slot hit.typeIs dZ (wpAny_call_entry dZ hit.typeIs hb ?_ (iI _));show wpAny _ _ (ret (.ref I)) _ _ s;exact wpAny_pure ⟨_,rfl,"set_iterator",_,hit.typeIs,bd.lookup,h⟩
theorem mT{es:Array (Int×Value)}{t:SetTable}{ns:List Int}{ep:Nat}(S:ISt w es t ns)(hh:A.handled=none)(I a:Addr)(hne:a≠I)(o:Obj)(hd:o.data=.set es ep t):
  Walks prog w A I [I,a] [I] es.size (λi v=>(dc w a ep es)[i]?.map (·.2)=some v) (λi h=>kE w t h I a es.size ep i∧h.get? a=some o) where
 sub:=λb hb=>by simp at hb;simp[hb]
 frame:=λi h h' st hk=>by
  obtain⟨⟨oi,slot,h1,h2⟩,h3⟩:=st;exact⟨⟨oi,slot,hk I (by simp) _ h1,h2⟩,hk a (by simp) _ h3⟩
 item:=λi s Q E hi st hQ=>by
  refine qG S hi st.1 st.2 hd hne λv h' hv hit' hs'=>?_;exact hQ v h' s.toks hv ⟨hit',hs'.extBut a o hne st.2⟩ λb o hb e=>hs'.extBut b o (λh=>hb (by simp[h])) e
 done:=λs Q E st hQ=>sC hh S st.1 st.2 hd λh' he'=>hQ h' s.toks λb o hb e=>he' b o (λh=>hb (by simp[h])) e
 self:=λ_ _ _ _ st hQ=>qH st.1 hQ
theorem oK{r:Addr}{Q:Bool→Shared→Prop}(hT:s.TypeIs (.ref r) "set")(h:Q false s):wpAny (model prog w) A (Builtin.List.listLengthHint (.ref r)) Q E s:=by
 unfold Builtin.List.listLengthHint;refine wpAny_bind (wpAny_specialOf hT PySem.F.slot_set_len.lookup ?_);generalize hid:("set.__len__":String)=id0
 wp_delta
 rw[show splitId id0=some ("set","__len__")from by subst hid;decide +kernel];subst hid;refine wpAny_bind (wpAny_isInstance (T:="set") (b:=true) hT (by rw[isSubtype_type];kernel_rfl) ?_);refine wpAny_ite_split (λhab=>absurd hab (by decide)) (λ_=>?_);refine wpAny_ite_split (λ_=>?_) (λhab=>absurd (by decide +kernel) hab);refine wpAny_bind (wpAny_typeOf hT ?_);exact wpAny_pure h
theorem qI{es:Array (Int×Value)}{t:SetTable}{ns:List Int}{ep:Nat}{a:Addr}{o:Obj}(S:ISt w es t ns)(hex:o.ExactSet)(hd:o.data=.set es ep t):
  KdlSrc prog w "set" a a es.size (λi v=>(dc w a ep es)[i]?.map (·.2)=some v) (λh=>h.get? a=some o) where
 type:=λ_ hm=>⟨o,hm,hex.1⟩
 there:=λ_ hm=>⟨lt_size hm,lt_size hm⟩
 keep:=λ_ _ hm hk=>hk a (.inl rfl) o hm
 notList:=by decide
 notTuple:=by decide
 hint:=λ_ _ _ _ hm hq=>oK ⟨o,hm,hex.1⟩ hq
 iter:=λA s hh hm=>⟨{cls:=.type "set_iterator",data:=.fields #[.int 0 0,.int 0 0,.ref a,.int es.size 0,.int ep 0]},_,(λ_ _ hq=>oJ S hm hex hd hq),mT S hh _ a (ne_of_lt (lt_size hm)) o hd,
  ⟨⟨_,0,get?_push_size _ rfl,rfl,rfl,λ_=>by
   obtain⟨l,T,hl⟩:=S.tb;obtain⟨b1,b2,b3⟩:=bF T.up 0;rw[T.pl];rcases Nat.eq_zero_or_pos (below l.toArray 0)with z|z
   ·exact z
   ·have:=b2 0 (by omega) z;omega⟩,get?_push_of_some _ hm⟩⟩
end
theorem IS.at{w:World}{h h':Heap}{S:Addr}{ns:List Int}(x:IS w h S ns)(k:∀o,h.get? S=some o→h'.get? S=some o):IS w h' S ns:=by
 obtain⟨o,es,ep,t,ho,r⟩:=x;exact⟨o,es,ep,t,k o ho,r⟩
theorem jB{w:World}{h:Heap}{a:Addr}(ho:h.get? a=some {cls:=.type "set",dict:=none,data:=.set #[] 0 (.fresh 0 0 (!bt w))}):IS w h a [] :=
 ⟨_,#[],0,_,ho,⟨rfl,rfl,rfl⟩,rfl,⟨⟨λ_=>0,rfl⟩,nodup_nil,⟨[],⟨rfl,rfl,Pairwise.nil,λ_ h=>by simp at h⟩,rfl⟩,Or.inl rfl,(by show 0<21;decide),rfl,λz=>by show(!bt w)=true;rw[z];rfl⟩⟩
section
variable{prog:Program}{w:World}{A:Around}{R:Result→Shared→Prop}{I:Addr}{fp wr:List Addr}{G:Array GenState→Array GenState→Prop}{n:Nat}{P:Nat→Value→Prop}{St:Nat→Shared→Prop}
end
section
variable{prog:Program}{w:World}{A:Around}{E:Value→Shared→Prop}{s:Shared}
theorem gK(a:Value){Q₁:Value→Shared→Prop}(h:Q₁ (.ref s.heap.objs.size) {s with heap:=s.heap.push {cls:=.type "set",dict:=none,data:=.set #[] 0 (.fresh 0 0 (!bt w))}}):
  codeAny (model prog w) A (.call (.builtin "set.__new__") ⟨[.type "set",a],[]⟩) (wants Q₁ E) s:=by
 refine codeAny_of_tree ?_;show wpAny _ A.in1 (do checkBuiltinCall "set.__new__" ⟨[.type "set",a],[]⟩;again (.builtin "set.__new__" ⟨[.type "set",a],[]⟩)) _ _ s
 refine wpAny_bind (wpAny_of_eq (F.newCall_set_1 a) (wpAny_pure ⟨plainId_quiet F.plain_set_new _,codeAny_builtin F.entry_set_new ?_⟩));rw[Around.under_plainId F.plain_set_new _];unfold Builtin.«set.__new__» Builtin.Frozenset.newClass;have hsub:=sub_set_self;obtain⟨hp,g,d,tk,os⟩:=s;dsimp only
 wp_walk
 refine wpAny_askSetting (wpAny_pure ?_);dsimp only;simp only[newObj];refine wpAny_bind (wpAny_alloc (wpAny_pure ?_));exact wpAny_pure h
set_option maxRecDepth 100000 in
set_option maxHeartbeats 3200000 in
theorem iJ{x:Value}{Q:Value→Shared→Prop}(h:wpAny (model prog w) A.in1.in1 (Builtin.«set.__init__» ⟨[.ref s.heap.objs.size,x],[]⟩)
   (λfin s'=>match fin with | .done f=>wants (λr s₂=>r=.none∧Q (.ref s.heap.objs.size) s₂) E (.ok f) s' | .again c'=>c'.quiet=true∧codeAny (model prog w) A.in1 c' (wants (λr s₂=>r=.none∧Q (.ref s.heap.objs.size) s₂) E) s')
   (λe s'=>wants (λr s₂=>r=.none∧Q (.ref s.heap.objs.size) s₂) E (.error e) s') {s with heap:=s.heap.push {cls:=.type "set",dict:=none,data:=.set #[] 0 (.fresh 0 0 (!bt w))}}):
  wpAny (model prog w) A (call (.type "set") [x]) Q E s:=by
 obtain⟨c,tl,hmro⟩:=F.called_set.mro;have hmade:=F.called_set.made;have hsub:=F.called_set.sub;refine wpAny_call (codeAny_of_tree ?_);show wpAny _ _ (callAny (.type "set") _) _ _ _;refine wpAny_pure ⟨Code.quiet_builtin _ (by decide +kernel),codeAny_builtin F.entry_type_call ?_⟩;rw[Around.under_plain (weight_type_call_type "set" [x] []) rfl];have h1:=F.called_set.notType;have h2:=F.called_set.canCreate;have hct:=F.typeCall_set_1 x
 repeat (any_goals (first|assumption|wp_step))
 refine codeAny_mono (gK x (E:=E) (Q₁:=λobj s₁=>obj=.ref s.heap.objs.size∧s₁={s with heap:=s.heap.push {cls:=.type "set",dict:=none,data:=.set #[] 0 (.fresh 0 0 (!bt w))}}) ⟨rfl,rfl⟩) λr s₁ hr=>?_
 cases r with
 |error e=>exact hr
 |ok fl =>
  cases fl with
  |ret obj =>
   obtain⟨rfl,rfl⟩:=hr;have hS:(s.heap.push {cls:=.type "set",dict:=none,data:=.set #[] 0 (.fresh 0 0 (!bt w))}).get? s.heap.objs.size=some {cls:=.type "set",dict:=none,data:=.set #[] 0 (.fresh 0 0 (!bt w))}:=get?_push_size _ rfl;have hT:Shared.TypeIs {s with heap:=s.heap.push {cls:=.type "set",dict:=none,data:=.set #[] 0 (.fresh 0 0 (!bt w))}} (.ref s.heap.objs.size) "set":=⟨_,hS,rfl⟩
   have hli:=F.called_set.init.lookup;have hbi:=F.called_set.init.bind (.ref s.heap.objs.size)
   repeat (any_goals (first|assumption|wp_step))
   refine codeAny_mono (codeAny_call_builtin (R:=wants (λr s₂=>r=.none∧Q (.ref s.heap.objs.size) s₂) E) F.called_set.init.plain F.entry_set_init (check_set_init_1 hT ?_)) λr₂ s₂ hr₂=>?_
   ·exact h
   ·cases r₂ with
    |error e=>exact hr₂
    |ok fl₂ =>
     cases fl₂ with
     |ret r =>
      obtain⟨rfl,hq⟩:=hr₂
      repeat (any_goals (first|assumption|wp_step))
     |_=>exact hr₂.elim
  |_=>exact hr.elim
end
end TB
namespace SRT
open PySem PySem.W PyProof.Rows
section
variable{prog:Program}{w:World}{A:Around}{E:Value→Shared→Prop}{s:Shared}
theorem jC{f:Nat→Nat→Bool}{vs:List Value}{κ:SortKind}{Q:Value→Shared→Prop}(O:Ord f vs.length)(h64:vs.length<64)(hk:∀(A':Around) (s':Shared),A'.units≤A.units+1→(∀b o,s.heap.get? b=some o→s'.heap.get? b=some o)→∀Q:SortKind→Shared→Prop,2≤vs.length→Q κ s'→wpAny (model prog w) A' (keyKind' vs.toArray) Q (λ_ _=>False) s')(hlt:∀(A':Around) (s':Shared),A'.units≤A.units+1→(∀b o,s.heap.get? b=some o→s'.heap.get? b=some o)→∀(i j:Nat) (C:Bool→Shared→Prop),i<vs.length→j<vs.length→C (f i j) s'→wpAny (model prog w) A' (keyLt' κ (vs.getD i Value.none) (vs.getD j Value.none)) C (λ_ _=>False) s')(h:∀(p:Array Nat) (h':Heap),Row vs.length p→Up f p vs.length→(∀b o,s.heap.get? b=some o→h'.get? b=some o)→(∃k,h'.get? s.heap.objs.size=some (seqObj "list" (toArray (p.toList.map λi=>vs.getD i Value.none)) k))→Q (.ref s.heap.objs.size) {s with heap:=h'}):
  wpAny (model prog w) A (do
   let l ← newList vs
   let _ ← holding [l] (call (.builtin "list.sort") [l] [])
   ret l) (λfin s'=>∃v,fin=.done (.ret v)∧Q v s') E s:=by
 refine wpAny_bind (wpAny_newList ?_ (by rw[sizeLine_eq];omega));have hoL:(s.heap.push (seqObj "list" vs.toArray 0)).get? s.heap.objs.size=some (seqObj "list" vs.toArray 0):=get?_push_size _ rfl;have keep:∀b o,s.heap.get? b=some o→(s.heap.push (seqObj "list" vs.toArray 0)).get? b=some o:=λb o q=>get?_push_of_some _ q;have neD:∀b o,s.heap.get? b=some o→b≠s.heap.objs.size:=λb o q=>ne_of_lt (lt_size q);show wpAny _ _ _ _ _ {s with heap:=s.heap.push (seqObj "list" vs.toArray 0)}
 refine wpAny_bind (wpAny_holding (wpAny_call_entry slot_list_sort ⟨_,hoL,rfl⟩ entry_list_sort (dW (κ:=κ) (s:={s with heap:=s.heap.push (seqObj "list" vs.toArray 0)}) O hoL h64 ?_ ?_ λp hr hu=>⟨_,rfl,?_⟩) (args_list_sort _)))
 ·intro s' hs' Q' h2 hq;exact hk _ s' (by simp[Around.in1_units]) (λb o e=>hs' b o (neD b o e) (keep b o e)) Q' h2 hq
 ·intro s' hs' i j C hi hj hC;exact hlt _ s' (by simp[Around.in1_units]) (λb o e=>hs' b o (neD b o e) (keep b o e)) i j C hi hj hC
 ·refine wpAny_pure ⟨_,rfl,h p _ hr hu (λb o e=>?_) ?_⟩
  ·unfold sortedHeap;rw[get?_update_ne _ _ _ _ (neD b o e)];refine get?_push_of_some _ (get?_push_of_some _ ?_);rw[get?_update_ne _ _ _ _ (neD b o e)];exact keep b o e
  ·unfold sortedHeap;obtain⟨e1,ho1⟩:∃e1,((s.heap.push (seqObj "list" vs.toArray 0)).update s.heap.objs.size (Obj.mapSeq λ_=>(#[]:Array Value))).get? s.heap.objs.size=some (seqObj "list" #[] e1):=⟨_,get?_update_seq hoL λ_=>#[]⟩;exact⟨_,get?_update_seq (get?_push_of_some _ (get?_push_of_some _ ho1)) _⟩
theorem jD{T:String}{r d:Addr}{n:Nat}{P:Nat→Value→Prop}{OK:Heap→Prop}{Q:List Value→Shared→Prop}(K:KdlSrc prog w T r d n P OK)(hh:A.handled=none)(hok:OK s.heap)(hn:n≤sizeLine)(hQ:∀h' tk acc,(∀b o,s.heap.get? b=some o→h'.get? b=some o)→s.heap.objs.size<h'.objs.size→ItemsOf P acc n→Q acc.toList {s with heap:=h',toks:=tk}):wpAny (model prog w) A (collect (.ref r)) Q E s:=by
 unfold collect;refine wpAny_bind (wpAny_runValue (codeAny_builtin entry_proto_collect' ?_));show wpAny _ _ (do again (.builtin "list.__iadd__" ⟨[←newList [],.ref r],[]⟩)) _ _ s
 refine wpAny_bind (wpAny_newList (wpAny_pure ⟨Code.quiet_builtin _ (by decide +kernel),codeAny_builtin entry_list_iadd' ?_⟩));rw[Around.under_plainId plain_list_iadd _];show wpAny _ _ (Builtin.List.listExtendWith (.ref s.heap.objs.size) (.ref r) (.ref s.heap.objs.size)) _ _ {s with heap:=s.heap.push (seqObj "list" #[] 0)}
 have hlt:=K.there _ hok;have hS:(s.heap.push (seqObj "list" #[] 0)).get? s.heap.objs.size=some (seqObj "list" #[] 0):=get?_push_size _ rfl;have key:=PySem.W.kdl_extend (A:=A) (s:={s with heap:=s.heap.push (seqObj "list" #[] 0)}) (R:=λr s'=>∃h' tk acc c',r=.ok (.ret (.ref s.heap.objs.size))∧s'={s with heap:=h',toks:=tk}∧(∀b o,s.heap.get? b=some o→h'.get? b=some o)∧h'.get? s.heap.objs.size=some {cls:=.type "list",dict:=none,data:=.seq acc c',slots:=#[]}∧ItemsOf P acc n)
  K hh (K.keep _ _ hok λb _ o e=>get?_push_of_some _ e) s.heap.objs.size (ne_of_gt hlt.1) (ne_of_gt hlt.2) (.ref s.heap.objs.size) 0 hS (λh' tk acc' c' hk hS' hacc=>⟨h',tk,acc',c',rfl,rfl,λb o e=>hk b o (ne_of_lt (lt_size e)) (get?_push_of_some _ e),hS',hacc⟩) hn
 have fin:∀(h':Heap)(tk:Nat)(acc:Array Value)(c':Nat),(∀b o,s.heap.get? b=some o→h'.get? b=some o)→h'.get? s.heap.objs.size=some {cls:=.type "list",dict:=none,data:=.seq acc c',slots:=#[]}→ItemsOf P acc n→wpAny (model prog w) A (do
   let o ← load s.heap.objs.size
   match o.data with
   |.seq xs _=>pure xs.toList
   | _=>unsupported "internal:collect") Q E {s with heap:=h',toks:=tk}:=λh' tk acc c' hk hS' hacc=>by
  refine wpAny_bind (wpAny_load hS' ?_);exact wpAny_pure (hQ h' tk acc hk (lt_size hS') hacc)
 refine wpAny_mono key (λfn s' hf=>?_) λe s' hf=>?_
 ·cases fn with
  |done f =>
   obtain⟨h',tk,acc,c',e1,e2,hk,hS',hacc⟩:=hf;cases e1;subst e2;exact fin h' tk acc c' hk hS' hacc
  |again c =>
   refine⟨hf.1,codeAny_mono hf.2 λr s' hr=>?_⟩;obtain⟨h',tk,acc,c',e1,e2,hk,hS',hacc⟩:=hr;subst e1 e2;exact fin h' tk acc c' hk hS' hacc
 ·obtain⟨h',tk,acc,c',e1,_⟩:=hf;cases e1
theorem kF{T:String}{r d:Addr}{n:Nat}{P:Nat→Value→Prop}{OK:Heap→Prop}{κ:SortKind}{Q:Value→Shared→Prop}(K:KdlSrc prog w T r d n P OK)(hh:A.handled=none)(hok:OK s.heap)(hn:n≤sizeLine)(hQ:∀(h1:Heap) (tk:Nat) (vs:List Value),(∀b o,s.heap.get? b=some o→h1.get? b=some o)→s.heap.objs.size<h1.objs.size→ItemsOf P vs.toArray n→∃f:Nat→Nat→Bool,Ord f vs.length∧vs.length<64 ∧
   (∀(A':Around) (s':Shared),A'.units≤A.units+2→(∀b o,s.heap.get? b=some o→s'.heap.get? b=some o)→∀Q:SortKind→Shared→Prop,2≤vs.length→Q κ s'→wpAny (model prog w) A' (keyKind' vs.toArray) Q (λ_ _=>False) s') ∧
   (∀(A':Around) (s':Shared),A'.units≤A.units+2→(∀b o,s.heap.get? b=some o→s'.heap.get? b=some o)→∀(i j:Nat) (C:Bool→Shared→Prop),i<vs.length→j<vs.length→C (f i j) s'→wpAny (model prog w) A' (keyLt' κ (vs.getD i Value.none) (vs.getD j Value.none)) C (λ_ _=>False) s') ∧
   ∀(p:Array Nat) (h':Heap),Row vs.length p→Up f p vs.length→(∀b o,s.heap.get? b=some o→h'.get? b=some o)→(∃k,h'.get? h1.objs.size=some (seqObj "list" (toArray (p.toList.map λi=>vs.getD i Value.none)) k))→Q (.ref h1.objs.size) {s with heap:=h',toks:=tk}):
  wpAny (model prog w) A (call (.builtin "sorted") [.ref r]) Q E s:=by
 refine Calls.call_function_entry kind_sorted plain_sorted entry_sorted (args_sorted1 _) ?_;unfold Builtin.«sorted»;refine wpAny_bind (m:=checkCount "sorted" 1 1 _) (wpAny_pure ?_);refine wpAny_bind (jD K hh hok hn λh1 tk acc hk hlt hacc=>?_);obtain⟨f,O,h64,hkk,hltt,hq⟩:=hQ h1 tk acc.toList hk hlt (by rw[Array.toArray_toList];exact hacc);exact jC (s:={s with heap:=h1,toks:=tk}) O h64 (λA' s' hu hk'=>hkk A' s' (by have:=hu;simp only[Around.in1_units]at this;omega) λb o e=>hk' b o (hk b o e)) (λA' s' hu hk'=>hltt A' s' (by have:=hu;simp only[Around.in1_units]at this;omega) λb o e=>hk' b o (hk b o e))
  λp h' hr hu' hk' hg=>hq p h' hr hu' (λb o e=>hk' b o (hk b o e)) hg
end
end SRT
namespace L2
open PySem PySem.Spec PyProof.Rows
section
variable{X:Cx}
def cS(w:World)(a:Addr)(ns:List Int):HO:=.ext λh=>TB.IS w h a ns
theorem Inv.intS{pins:List (Addr×Obj)}{σ:St}{H:Hp}{s:Shared}(I:Inv X pins σ H s){a:Addr}{ns:List Int}(h:H a=some (cS X.w a ns)):TB.IS X.w s.heap a ns:=(I.hok a _ h).1
theorem Inv.layS{pins:List (Addr×Obj)}{σ:St}{H:Hp}{s:Shared}(I:Inv X pins σ H s){h':Heap}{t':Nat}{a:Addr}{ns:List Int}(k:∀b u,s.heap.get? b=some u→h'.get? b=some u)(hp:s.heap.objs.size≤a)(hS:TB.IS X.w h' a ns):
  Inv X pins σ (upd H a (cS X.w a ns)) {s with heap:=h',toks:=t'}:=by
 obtain⟨o,es,ep,t,ho,r⟩:=id hS;exact I.laid k hp ⟨hS,⟨o,ho⟩,λh1 h2 hI hh=>hI.at hh⟩
theorem gl(hc:X.calm=true):bZ X (.builtin "sorted") (λxs H Q=>∃l,∃ns:List Int,xs=[.ref l]∧H l=some (cS X.w l ns)∧ns.length≤60 ∧
  ∀ms:List Int,ms.Perm ns→ms.Pairwise (λa b=>a<b)→∀p,H p=none→Q (.ref p) (upd H p (.lst (ms.map V.int)))):=by
 intro pins s σ H xs us Q I r h;obtain⟨l,ns,rfl,hl,h60,q⟩:=h;obtain⟨u,rfl,ru⟩:=cy r;cases ru;obtain⟨o,es,ep,t,ho,hex,hd,S⟩:=I.intS hl;obtain⟨tk0,hent⟩:=S.ent;obtain⟨ns',hperm,hord⟩:=TB.cf (TB.gh X.w l ep es) hent;have hnd':ns'.Nodup:=hperm.nodup_iff.mpr S.nd;have hl':ns'.length=ns.length:=hperm.length_eq;refine SRT.kF (κ:=oneType') (TB.qI S hex hd) (I.ok.hd hc) ho (by rw[S.size,sizeLine_eq];omega) λh1 tk vs hk1 hlt1 hit=>?_;have evs:vs=ns'.map λn=>Value.int n (tk0 n):=by
  apply ext_getElem?;intro i;have hvl:vs.length=es.size:=by have:=hit.1;rw[size_toArray]at this;exact this
  by_cases hi:i<vs.length
  ·have:Option.map (λx=>x.2) (TB.dc X.w l ep es)[i]?=some vs[i]:=hit.2 i vs[i] (by rw[List.getElem?_toArray];exact getElem?_eq_getElem hi);rw[getElem?_eq_getElem hi,getElem?_map];rw[←getElem?_toList,hord,getElem?_map]at this;cases e:ns'[i]? with
   |none=>rw[e]at this;cases this
   |some n =>
    rw[e]at this;have e2:(TB.dY tk0 n).2=vs[i]:=Option.some.inj this;show some vs[i]=some (Value.int n (tk0 n));rw[←e2];rfl
  ·rw[getElem?_eq_none (by omega),getElem?_eq_none (by rw[length_map,hl',←S.size];omega)]
 have hvl:vs.length=ns'.length:=by rw[evs,length_map]
 have gd:∀i,i<ns'.length→vs.getD i Value.none=.int (ns'.getD i 0) (tk0 (ns'.getD i 0)):=λi hi=>by
  rw[evs,oz (d:=(0:Int)) hi]
 have rv:aq (ns'.map V.int) vs:=by
  rw[evs];clear hperm hord hnd' hl' evs hvl gd hit
  induction ns' with
  |nil=>exact .nil
  |cons n ns' ih=>exact .cons ⟨_,rfl⟩ ih
 refine⟨λi j=>decide (ns'.getD i 0<ns'.getD j 0),⟨λi _=>by simp,λi j k _ _ _ h1 h2=>?_,λi j hi hj hij=>?_⟩,by omega,λA' s' _ _ Q' h2 hQ=>?_,λA' s' _ _ i j C hi hj hC=>?_,λp h' hrow hup kp hg=>?_⟩
 ·simp only[decide_eq_true_eq]at *;omega
 ·simp only[decide_eq_true_eq];have:ns'.getD i 0≠ns'.getD j 0:=by
   rw[getD_eq_getElem?_getD,getD_eq_getElem?_getD,getElem?_eq_getElem (by omega),getElem?_eq_getElem (by omega)];exact λe=>hij ((getElem_inj hnd').mp e)
  omega
 ·rw[ksk_kind (keys:=vs.toArray) (kz:=ns') (by simpa using lL rv) (by rw[size_toArray];omega)];exact wpAny_pure hQ
 ·rw[gd i (by omega),gd j (by omega)];exact kat_lt_int hC
 ·obtain⟨c,hg⟩:=hg;rw[hvl]at hrow hup;have hin:∀i∈p.toList,i<ns'.length:=λi hi=>mem_range.mp (hrow.perm.mem_iff.mp hi);have hperm2:(p.toList.map λi=>ns'.getD i 0).Perm ns':=by
   refine(hrow.perm.map _).trans ?_;have:(List.range ns'.length).map (λi=>ns'.getD i 0)=ns':=by
    apply ext_getElem?;intro i;rw[getElem?_map]
    by_cases hi:i<ns'.length
    ·rw[List.getElem?_range hi,(aQ (d:=(0:Int)) hi).2];rfl
    ·rw[getElem?_eq_none (by rw[length_range];omega),getElem?_eq_none (by omega)];rfl
   rw[this]
  have hpl:p.size=ns'.length:=hrow.size;have hpw:(p.toList.map λi=>ns'.getD i 0).Pairwise (λa b=>a<b):=by
   rw[pairwise_iff_getElem];intro i j hi hj hij;have hi':i<p.size:=by rw[length_map,length_toList]at hi;exact hi
   have hj':j<p.size:=by rw[length_map,length_toList]at hj;exact hj
   have:=hup i j hij (by omega);simp only[]at this;rw[getD_eq_getD_getElem?,getD_eq_getD_getElem?,Array.getElem?_eq_getElem hi',Array.getElem?_eq_getElem hj']at this;simpa using this
  refine⟨.ref h1.objs.size,_,I.laid (t':=tk) (o:=.lst ((p.toList.map λi=>ns'.getD i 0).map V.int)) kp (le_of_lt hlt1) ⟨?_,_,c,ia rv p.toList hin,hg⟩,rfl,q _ (hperm2.trans hperm) hpw _ (I.hok.fresh (le_of_lt hlt1))⟩;rw[length_map,hperm2.length_eq,sizeLine_eq];omega
end
end L2
namespace TB
open PySem PySem.SetTable
theorem qJ{mask finger moves:Nat}{led plain:Bool}{hashes:Array Int}(c:Cyc mask)(hl:hashes.size≤mask+1):
  ∃(t':SetTable) (zs:List (Nat×Nat)),SetTable.laid mask finger moves led plain hashes=some (t',(zs.map (·.2)).toArray)∧t'.mask=mask∧t'.led=led∧t'.plain=plain ∧
   Tb t' (zs.map (·.1))∧(zs.map (·.2)).Perm (List.range hashes.size):=by
 obtain⟨owner,e,L⟩:=eW c hashes hl;refine⟨{mask:=mask,place:=((live mask owner).map (·.1)).toArray,dummies:=#[],finger:=finger,led:=led,moves:=moves,plain:=plain},live mask owner,?_,rfl,rfl,rfl,⟨rfl,rfl,?_,?_⟩,?_⟩
 ·unfold laid;rw[e];rfl
 ·unfold Up live;rw[List.map_filterMap];have e1:((List.range (mask+1)).filterMap λj=>((owner.getD j none).map (j,·)).map (·.1))=(List.range (mask+1)).filter λj=>(owner.getD j none).isSome:=by
   generalize List.range (mask+1)=l
   induction l with
   |nil=>rfl
   |cons x l ih =>
    cases ex:owner.getD x none with
    |none=>rw[filterMap_cons_none (by rw[ex];rfl),List.filter_cons_of_neg (by simp[ex])];exact ih
    |some i=>rw[filterMap_cons_some (b:=x) (by rw[ex];rfl),List.filter_cons_of_pos (by simp[ex]),ih]
  rw[e1];exact Pairwise.sublist List.filter_sublist List.pairwise_lt_range
 ·intro j hj;obtain⟨z,hz,rfl⟩:=mem_map.mp hj;unfold live at hz;obtain⟨k,hk,e1⟩:=mem_filterMap.mp hz;cases ex:owner.getD k none with
  |none=>rw[ex]at e1;cases e1
  |some i =>
   rw[ex]at e1;have e2:(k,i)=z:=Option.some.inj e1;subst e2;have:=mem_range.mp hk;show k≤mask;omega
 ·have:=L.perm;rw[length_toList]at this;exact this
theorem jE{es:Array (Int×Value)}{zs:List (Nat×Nat)}(h:(zs.map (·.2)).Perm (List.range es.size)):(((zs.map (·.2)).toArray).filterMap (λi=>es[i]?)).toList.Perm es.toList:=by
 rw[Array.toList_filterMap];exact(h.filterMap _).trans (by rw[filterMap_getElem?_range])
section
variable{prog:Program}{w:World}{A:Around}{E:Value→Shared→Prop}{s:Shared}
theorem oM{a:Addr}{ns:List Int}{wanted:Nat}{Q:Unit→Shared→Prop}(hS:IS w s.heap a ns)(hw:wanted≤255)(hroom:ns.length*5<(sizeAbove wanted-1)*3)(h:∀h' ns' o es ep t,SameBut a s.heap h'→h'.get? a=some o→o.ExactSet→o.data=.set es ep t→ISt w es t ns'→ns'.Perm ns→t.mask=sizeAbove wanted-1→Q () {s with heap:=h'}):wpAny (model prog w) A (setRelay a wanted) Q E s:=by
 obtain⟨o,es,ep,t,ho,hex,hd,S⟩:=hS;obtain⟨hmk,hle,h256⟩:=fJ hw;have hsz:=S.size;have hge:=hmk.ge;unfold setRelay;refine wpAny_bind (wpAny_setState_of ho hd S.fits ?_);dsimp only;rw[if_neg (by rw[sizeLine_eq];omega)];obtain⟨t',zs,e,hm,hled,hpl,T,hperm,_⟩:=gZ (t:=t) (hashes:=es.map (·.1)) (wanted:=wanted) hmk.cyc (by rw[size_map];omega);rw[size_map]at hperm;have hp:=jE hperm;have hsz2:(((zs.map (·.2)).toArray).filterMap (λi=>es[i]?)).size=es.size:=by rw[←length_toList,hp.length_eq,length_toList]
 obtain⟨tk,hent⟩:=S.ent;obtain⟨ns',hns',hes'⟩:=cf hp hent;have hzl:zs.length=es.size:=by
  have:=hperm.length_eq;rw[length_map,length_range]at this;exact this
 have hnl:ns'.length=ns.length:=hns'.length_eq;refine wpAny_bind ?_;rw[e];show wpAny _ _ (@ite _ _ _ _ _) _ _ _;rw[if_neg (by rw[hsz2];simp)];refine wpAny_pure ?_;dsimp only;refine wpAny_storeSet_of ho hd ?_ (by rw[hsz2,sizeLine_eq];omega);exact h _ ns' _ _ _ t' (SameBut.update s.heap a _) (stored ho hd _ t') hex rfl ⟨⟨tk,hes'⟩,hns'.nodup_iff.mpr S.nd,⟨_,T,by rw[length_map];omega⟩,by rw[hm];exact hmk,by rw[hm,hnl];exact hroom,by rw[hpl];exact S.pl,λz=>by rw[hled];exact S.led z⟩ hns' hm
theorem iK{a:Addr}{ns:List Int}{more:Nat}{Q:Unit→Shared→Prop}(hS:IS w s.heap a ns)(hw:ns.length+more≤120)(h:∀h' ns' o es ep t,SameBut a s.heap h'→h'.get? a=some o→o.ExactSet→o.data=.set es ep t→ISt w es t ns'→ns'.Perm ns→(ns.length+more)*5<t.mask*3→Q () {s with heap:=h'}):wpAny (model prog w) A (setRoomFor a more) Q E s:=by
 obtain⟨o,es,ep,t,ho,hex,hd,S⟩:=id hS;obtain⟨l,T,hl⟩:=S.tb;have hfill:t.fill=ns.length:=by rw[dS T,hl]
 have hpl:t.place.size=ns.length:=by rw[T.pl,size_toArray,hl]
 unfold setRoomFor;refine wpAny_bind (wpAny_setState_of ho hd S.fits ?_);dsimp only
 by_cases hc:(t.fill+more)*5≥t.mask*3
 ·have e:t.roomFor more=some ((t.place.size+more)*2):=by unfold SetTable.roomFor;rw[if_pos hc]
  rw[e];dsimp only;rw[hpl];obtain⟨hmk,hle,_⟩:=fJ (w:=(ns.length+more)*2) (by omega);have hge:=hmk.ge;have hge2:=S.mkm.ge;refine oM hS (by omega) (by omega) λh' ns' o' es' ep' t' hsb ho' hex' hd' S' hp hm=>h h' ns' o' es' ep' t' hsb ho' hex' hd' S' hp ?_;rw[hm];omega
 ·have e:t.roomFor more=none:=by unfold SetTable.roomFor;rw[if_neg hc]
  rw[e];dsimp only;have es':s={s with heap:=s.heap}:=by cases s;rfl
  rw[es'];exact wpAny_pure (h s.heap ns o es ep t (SameBut.refl a s.heap) ho hex hd S (.refl _) (by rw[hfill]at hc;omega))
theorem ic{a b:Addr}{ns:List Int}{each:Sem Unit}{Q:Unit→Shared→Prop}(hab:a≠b)(ha:IS w s.heap a [])(hb:IS w s.heap b ns)(hn:ns.length≤60)(h:∀h' ns',SameBut a s.heap h'→IS w h' a ns'→ns'.Perm ns→Q () {s with heap:=h'}):wpAny (model prog w) A (setMerge a b each) Q E s:=by
 obtain⟨ob,eb,epb,tb,hob,hexb,hdb,Sb⟩:=id hb;unfold setMerge;have hne:(a==b)=false:=by simpa using hab
 rw[hne];simp only[false_eq_true,if_false];refine wpAny_bind (wpAny_setState_of hob hdb Sb.fits ?_);dsimp only;have es':s={s with heap:=s.heap}:=by cases s;rfl
 by_cases he:eb.isEmpty=true
 ·rw[he];simp only[if_true];have hz:ns=[]:=by
   have:=Sb.size;have h0:eb.size=0:=by simpa [isEmpty]using he
   exact length_eq_zero_iff.mp (by omega)
  subst hz;rw[es'];exact wpAny_pure (h s.heap [] (SameBut.refl a s.heap) ha (.refl _))
 ·have he':eb.isEmpty=false:=by simpa using he
  rw[he'];simp only[false_eq_true,if_false];have hsb:=Sb.size;refine wpAny_bind (iK ha (by rw[length_nil];omega) λh1 ns1 o1 es1 ep1 t1 hs1 ho1 hex1 hd1 S1 hp1 hrm1=>?_);have e1:ns1=[]:=hp1.eq_nil;subst e1;rw[length_nil,zero_add]at hrm1;have hob1:h1.get? b=some ob:=(hs1.2 b (symm hab)).trans hob;refine wpAny_bind (wpAny_setState_of (s:={s with heap:=h1}) ho1 hd1 S1.fits ?_);dsimp only;obtain⟨l1,T1,hl1⟩:=S1.tb;have hfill1:t1.fill=0:=by rw[dS T1,hl1];rfl
  obtain⟨lb,Tb1,hlb⟩:=Sb.tb;obtain⟨tk,hent⟩:=Sb.ent;have hge1:=S1.mkm.ge;cases hr:t1.road tb with
  |slotForSlot =>
   dsimp only;refine wpAny_storeSet_of (s:={s with heap:=h1}) ho1 hd1 ?_ (by rw[hsb,sizeLine_eq];omega);refine h _ ns (hs1.trans (SameBut.update ..)) ⟨_,_,_,_,stored (s:={s with heap:=h1}) ho1 hd1 _ _,hex1,rfl,⟨⟨tk,hent⟩,Sb.nd,⟨lb,⟨Tb1.pl,Tb1.nd,Tb1.up,Tb1.le⟩,hlb⟩,Sb.mkm,Sb.room,by show(t1.plain&&tb.plain)=true;rw[S1.pl,Sb.pl];rfl,λz=>by show(t1.led&&tb.led)=true;rw[S1.led z,Sb.led z];rfl⟩⟩ (.refl _)
  |clean =>
   dsimp only;obtain⟨t',zs,e,hm,hled,hpl,T,hperm⟩:=qJ (mask:=t1.mask) (finger:=t1.finger) (moves:=t1.moves) (led:=t1.led&&tb.led) (plain:=t1.plain&&tb.plain) (hashes:=eb.map (·.1)) S1.mkm.cyc (by rw[size_map];omega);rw[size_map]at hperm;have hp:=jE hperm;have hsz2:(((zs.map (·.2)).toArray).filterMap (λi=>eb[i]?)).size=eb.size:=by rw[←length_toList,hp.length_eq,length_toList]
   obtain⟨ns',hns',hes'⟩:=cf hp hent;have hzl:zs.length=eb.size:=by
    have:=hperm.length_eq;rw[length_map,length_range]at this;exact this
   have hnl:ns'.length=ns.length:=hns'.length_eq;refine wpAny_bind ?_;rw[e];show wpAny _ _ (@ite _ _ _ _ _) _ _ _;rw[if_neg (by rw[hsz2];simp)];refine wpAny_pure ?_;dsimp only;refine wpAny_storeSet_of (s:={s with heap:=h1}) ho1 hd1 ?_ (by rw[hsz2,hsb,sizeLine_eq];omega);exact h _ ns' (hs1.trans (SameBut.update ..)) ⟨_,_,_,_,stored (s:={s with heap:=h1}) ho1 hd1 _ _,hex1,rfl,⟨⟨tk,hes'⟩,hns'.nodup_iff.mpr Sb.nd,⟨_,T,by rw[length_map];omega⟩,by rw[hm];exact S1.mkm,by rw[hm,hnl,←hsb];exact hrm1,by rw[hpl,S1.pl,Sb.pl];rfl,λz=>by rw[hled,S1.led z,Sb.led z];rfl⟩⟩ hns'
  |oneByOne =>
   exfalso
   unfold SetTable.road at hr;rw[hfill1]at hr;simp only[bne_self_eq_false,false_eq_true,if_false]at hr
   split at hr<;>cases hr
theorem qK{b:Addr}{o:Obj}{es:Array (Int×Value)}{ep:Nat}{t:SetTable}{ns:List Int}{Q:Array (Int×Value)→Shared→Prop}(S:ISt w es t ns)(ho:s.heap.get? b=some o)(hd:o.data=.set es ep t)(h:Q (dc w b ep es) s):wpAny (model prog w) A (setWalk b) Q E s:=by
 unfold setWalk;refine wpAny_bind (wpAny_setState_of ho hd S.fits ?_);unfold setsByText;refine wpAny_bind (wpAny_bind (wpAny_askSetting (wpAny_pure ?_)));show wpAny _ _ (if bt w=true then _ else _) _ _ _;unfold dc at h;cases hb:bt w with
 |true =>
  rw[hb]at h;simp only[if_true]at h⊢;exact wpAny_bind (wpAny_askSetting (wpAny_pure h))
 |false =>
  rw[hb]at h;simp only[false_eq_true,if_false]at h⊢;show wpAny _ _ (if (!t.plain&&decide (es.size>1))=true then _ else _) _ _ _
  rw[eR S];simp only[false_eq_true,if_false];refine wpAny_bind ?_;show wpAny _ _ (if (!t.led&&decide (es.size>1))=true then _ else _) _ _ _
  rw[S.led hb];simp only[Bool.not_true,Bool.false_and,false_eq_true,if_false];exact wpAny_pure (wpAny_pure h)
theorem jF{b:Addr}{os:List Addr}{f:Option Addr}{o:Obj}{es:Array (Int×Value)}{ep:Nat}{t:SetTable}{ns:List Int}{Q:Array (Int×Value)→Shared→Prop}(S:ISt w es t ns)(ho:s.heap.get? b=some o)(hd:o.data=.set es ep t)(h:Q (dc w b ep es) s):wpAny (model prog w) A (setWalkUnseen b os f) Q E s:=by
 unfold setWalkUnseen;refine wpAny_bind (wpAny_setState_of ho hd S.fits ?_);dsimp only;refine wpAny_bind ?_;unfold setsByText;refine wpAny_bind (wpAny_askSetting (wpAny_pure ?_));have hc:((model prog w).w.params.followText "set-order"||t.led&&t.plain||decide (es.size≤1))=true:=by
  cases hb:bt w with
  |true =>
   have:(model prog w).w.params.followText "set-order"=true:=hb;rw[this];rfl
  |false=>rw[S.led hb,S.pl];simp
 show wpAny _ _ (if ((model prog w).w.params.followText "set-order"||t.led&&t.plain||decide (es.size≤1))=true then _ else _) _ _ _
 rw[hc];simp only[if_true];exact qK S ho hd h
theorem oN{a b:Addr}{ms ns:List Int}{each:Sem Unit}{Q:Unit→Shared→Prop}(hab:a≠b)(ha:IS w s.heap a ms)(hb:IS w s.heap b ns)(hn:ms.length+ns.length≤60)(hE:∀(h':Heap) (Q':Unit→Shared→Prop),SameBut a s.heap h'→Q' () {s with heap:=h'}→wpAny (model prog w) A each Q' E {s with heap:=h'})(h:∀h' us,SameBut a s.heap h'→IS w h' a us→(∀x,x∈us↔x∈ms∨x∈ns)→Q () {s with heap:=h'}):wpAny (model prog w) A (setMerge a b each) Q E s:=by
 by_cases hms:ms=[]
 ·subst hms;exact ic hab ha hb (by omega) λh' ns' hsb hS hp=>h h' ns' hsb hS λx=>by rw[hp.mem_iff];simp
 ·obtain⟨ob,eb,epb,tb,hob,hexb,hdb,Sb⟩:=id hb;have hml:0<ms.length:=List.length_pos_iff.mpr hms;unfold setMerge;have hne:(a==b)=false:=by simpa using hab
  rw[hne];simp only[false_eq_true,if_false];refine wpAny_bind (wpAny_setState_of hob hdb Sb.fits ?_);dsimp only;have es':s={s with heap:=s.heap}:=by cases s;rfl
  by_cases he:eb.isEmpty=true
  ·rw[he];simp only[if_true];have hz:ns=[]:=by
    have:=Sb.size;have h0:eb.size=0:=by simpa [isEmpty]using he
    exact length_eq_zero_iff.mp (by omega)
   subst hz;rw[es'];exact wpAny_pure (h s.heap ms (SameBut.refl a s.heap) ha λx=>by simp)
  ·have he':eb.isEmpty=false:=by simpa using he
   rw[he'];simp only[false_eq_true,if_false];have hsb:=Sb.size;refine wpAny_bind (iK ha (by omega) λh1 ns1 o1 es1 ep1 t1 hs1 ho1 hex1 hd1 S1 hp1 hrm1=>?_);have hob1:h1.get? b=some ob:=(hs1.2 b (symm hab)).trans hob;refine wpAny_bind (wpAny_setState_of (s:={s with heap:=h1}) ho1 hd1 S1.fits ?_);dsimp only;obtain⟨l1,T1,hl1⟩:=S1.tb;have hfill1:t1.fill≠0:=by rw[dS T1,hl1,hp1.length_eq];omega
   have hroad:t1.road tb=.oneByOne:=by
    unfold SetTable.road;rw[if_pos (by simpa using hfill1)]
   rw[hroad];dsimp only;refine wpAny_bind (jF (s:={s with heap:=h1}) Sb hob1 hdb ?_);obtain⟨tk,hent⟩:=Sb.ent;obtain⟨ns',hns',hord⟩:=cf (gh w b epb eb) hent;have hnl:ns'.length=ns.length:=hns'.length_eq;rw[←Array.forIn_toList,hord];refine wpAny_bind ?_;refine wpAny_forIn_list _ (λrest _ s'=>∃h' us i,s'={s with heap:=h'}∧rest=(ns'.drop i).map (dY tk)∧SameBut a s.heap h'∧IS w h' a us∧(∀x,x∈us↔x∈ms∨x∈ns'.take i)∧us.length≤ms.length+i∧i≤ns'.length) _ ?_ ?_ _ _
    ⟨h1,ns1,0,rfl,rfl,hs1,⟨o1,es1,ep1,t1,ho1,hex1,hd1,S1⟩,λx=>by rw[hp1.mem_iff];simp,by rw[hp1.length_eq];omega,zero_le _⟩
   ·rintro⟨hh,xx⟩ rest bb s' ⟨h',us,i,rfl,hr,hsb',hS',hmem,hlen,hi⟩;have hlt:i<ns'.length:=by
     rcases Nat.lt_or_ge i ns'.length with z|z
     ·exact z
     ·rw[List.drop_of_length_le z]at hr;cases hr
    rw[List.drop_eq_getElem_cons hlt,map_cons]at hr;injection hr with hr1 hr2
    have hr3:hh=hashInt ns'[i]∧xx=Value.int ns'[i] (tk ns'[i]):=by
     have:(hh,xx)=(hashInt ns'[i],Value.int ns'[i] (tk ns'[i])):=hr1;injection this with q1 q2
     exact⟨q1,q2⟩
    obtain⟨rfl,rfl⟩:=hr3;refine wpAny_bind (wpAny_holding (add_int (s:={s with heap:=h'}) hS' (by omega) λr h2 us2 hsb2 hS2 hor=>?_));refine wpAny_bind (hE h2 _ (hsb'.trans hsb2) ?_);have hob2:h2.get? b=some ob:=((hsb'.trans hsb2).2 b (symm hab)).trans hob;refine wpAny_bind (wpAny_setState_of (s:={s with heap:=h2}) hob2 hdb Sb.fits ?_);rw[if_neg (by simp)];refine wpAny_pure ⟨h2,us2,i+1,rfl,hr2,hsb'.trans hsb2,hS2,λx=>?_,?_,hlt⟩
    ·have ht:ns'.take (i+1)=ns'.take i++[ns'[i]]:=by rw[take_succ,getElem?_eq_getElem hlt];rfl
     rw[ht,mem_append,mem_singleton];rcases hor with⟨hin,e⟩|⟨_,e⟩
     ·rw[e,hmem x];constructor
      ·rintro(z|z)
       ·exact .inl z
       ·exact .inr (.inl z)
      ·rintro(z|z|z)
       ·exact .inl z
       ·exact .inr z
       ·rw[z];exact(hmem _).mp hin
     ·rw[e.mem_iff,mem_cons,hmem x];constructor
      ·rintro(z|z|z)
       ·exact .inr (.inr z)
       ·exact .inl z
       ·exact .inr (.inl z)
      ·rintro(z|z|z)
       ·exact .inr (.inl z)
       ·exact .inr (.inr z)
       ·exact .inl z
    ·rcases hor with⟨_,e⟩|⟨_,e⟩
     ·rw[e];omega
     ·have:=e.length_eq;rw[length_cons]at this;omega
   ·rintro bb s' ⟨h',us,i,rfl,hr,hsb',hS',hmem,hlen,hi⟩;have hie:ns'.drop i=[]:=by simpa using hr.symm
    have hin:i=ns'.length:=by
     have:=congrArg length hie;rw[length_drop,length_nil]at this;omega
    refine wpAny_pure (h h' us hsb' hS' λx=>?_);rw[hmem x,hin,take_length,hns'.mem_iff]
end
theorem iL:entryFor table "set.__or__"=some Builtin.«frozenset.__or__» :=
 entryFor_alias (id':="frozenset.__or__") (by kernel_rfl) rfl (by decide +kernel) (by kernel_rfl)
section
variable{prog:Program}{w:World}{A:Around}{E:Value→Shared→Prop}{s:Shared}
theorem sD{Q:Value→Shared→Prop}(h:∀h',(∀b o,s.heap.get? b=some o→h'.get? b=some o)→IS w h' s.heap.objs.size []→Q (.ref s.heap.objs.size) {s with heap:=h'}):wpAny (model prog w) A (newSet (.type "set")) Q E s:=by
 unfold newSet setsByText;refine wpAny_bind (wpAny_bind (wpAny_askSetting (wpAny_pure ?_)));dsimp only;simp only[newObj];exact wpAny_bind (wpAny_alloc (wpAny_pure (h _ (λb o e=>get?_push_of_some _ e) (jB (get?_push_size _ rfl)))))
theorem iM{a:Addr}{Q:Bool→Shared→Prop}(hT:s.TypeIs (.ref a) "set")(h:Q true s):wpAny (model prog w) A (Builtin.Frozenset.isAnySet (.ref a)) Q E s:=by
 unfold Builtin.Frozenset.isAnySet;refine wpAny_bind (wpAny_isInstance (b:=true) hT sub_set_self ?_);exact wpAny_pure h
theorem qL{a:Addr}{ns:List Int}{Q:Value→Shared→Prop}(ha:IS w s.heap a ns)(hn:ns.length≤60)(h:∀h' us,(∀b o,s.heap.get? b=some o→h'.get? b=some o)→IS w h' s.heap.objs.size us→us.Perm ns→Q (.ref s.heap.objs.size) {s with heap:=h'}):wpAny (model prog w) A (Builtin.Frozenset.copyOf a) Q E s:=by
 obtain⟨o,es,ep,t,ho,hex,hd,S⟩:=id ha;have hT:s.TypeIs (.ref a) "set":=⟨o,ho,hex.1⟩;unfold Builtin.Frozenset.copyOf Builtin.Frozenset.baseOf;refine wpAny_bind ?_;refine wpAny_bind (wpAny_isInstance (b:=true) hT sub_set_self ?_);refine wpAny_pure ?_;simp only[if_true];refine wpAny_bind (sD λh1 hk hS=>?_);refine wpAny_bind ?_;show wpAny _ _ (pure s.heap.objs.size) _ _ _;refine wpAny_pure ?_;have hlt:a<s.heap.objs.size:=lt_size ho;refine wpAny_bind (ic (s:={s with heap:=h1}) (ne_of_gt hlt) hS (ha.at λo e=>hk a o e) hn λh' us hsb hS' hp=>?_);refine wpAny_pure (h h' us (λb o e=>?_) hS' hp);rw[hsb.2 b (ne_of_lt (lt_size e))];exact hk b o e
theorem oO{a b:Addr}{ms ns:List Int}{Q:Value→Shared→Prop}(hab:a≠b)(ha:IS w s.heap a ms)(hb:IS w s.heap b ns)(hn:ms.length+ns.length≤60)(h:∀h' us,(∀b o,s.heap.get? b=some o→h'.get? b=some o)→IS w h' s.heap.objs.size us→(∀x,x∈us↔x∈ms∨x∈ns)→Q (.ref s.heap.objs.size) {s with heap:=h'}):wpAny (model prog w) A (binaryOp .BitOr (.ref a) (.ref b)) Q E s:=by
 obtain⟨oa,ea,epa,ta,hoa,hexa,hda,Sa⟩:=id ha;obtain⟨ob,eb,epb,tb,hob,hexb,hdb,Sb⟩:=id hb;have hTa:s.TypeIs (.ref a) "set":=⟨oa,hoa,hexa.1⟩;have hTb:s.TypeIs (.ref b) "set":=⟨ob,hob,hexb.1⟩;refine wpAny_binaryOp_same hTa hTb F.fills_set_or F.slot_set_or (wpAny_call_entry F.slot_set_or hTa iL ?_ (F.args_set_or_2 _ _));unfold Builtin.«frozenset.__or__»;refine wpAny_bind ?_;unfold Builtin.Frozenset.slot1;refine wpAny_bind (wpAny_pure (wpAny_pure ?_));dsimp only;simp only[false_eq_true,if_false];refine wpAny_bind ?_;refine wpAny_bind (iM hTa ?_);show wpAny _ _ (Builtin.Frozenset.isAnySet (.ref b)) _ _ _;refine iM hTb ?_;simp only[Bool.not_true,false_eq_true,if_false];refine wpAny_bind ?_;show wpAny _ _ (pure a) _ _ _;refine wpAny_pure ?_;refine wpAny_bind ?_;refine wpAny_bind (qL ha (by omega) λh1 us hk hS hp=>?_);have hne:(Value.ref b != Value.ref a)=true:=by
  rw[bne_iff_ne];intro e;injection e with e
  exact hab e.symm
 rw[hne];simp only[if_true];refine wpAny_bind ?_;show wpAny _ _ (pure s.heap.objs.size) _ _ _;refine wpAny_pure ?_;refine wpAny_bind ?_;refine wpAny_holding ?_;unfold Builtin.Frozenset.updateFrom;have hob1:h1.get? b=some ob:=hk b ob hob;have hTb1:Shared.TypeIs {s with heap:=h1} (.ref b) "set":=⟨ob,hob1,hexb.1⟩
 refine wpAny_bind (iM hTb1 ?_);simp only[if_true];refine wpAny_bind ?_;show wpAny _ _ (pure b) _ _ _;refine wpAny_pure ?_;unfold Builtin.Frozenset.merge;refine wpAny_bind (wpAny_setEpoch_of (s:={s with heap:=h1}) hob1 hdb Sb.fits ?_);have hbn:s.heap.objs.size≠b:=ne_of_gt (lt_size hob);refine oN (s:={s with heap:=h1}) hbn hS (hb.at λo e=>hk b o e) (by rw[hp.length_eq];exact hn) (λh' Q' hsb hq=>?_) λh' vs hsb hS' hmem=>?_
 ·unfold Builtin.Frozenset.unchanged;have hob2:h'.get? b=some ob:=(hsb.2 b (symm hbn)).trans hob1;refine wpAny_bind (wpAny_setEpoch_of (s:={s with heap:=h'}) hob2 hdb Sb.fits ?_);rw[if_neg (by simp)];exact wpAny_pure hq
 ·refine wpAny_pure (wpAny_pure ⟨_,rfl,(λe=>nomatch e),h h' vs (λc o e=>?_) hS' λx=>by rw[hmem x,hp.mem_iff]⟩);rw[hsb.2 c (ne_of_lt (lt_size e))];exact hk c o e
theorem oP{d:Addr}{od:Obj}{ed:Array DictEntry}{epd:Nat}{ks:List Int}{Q:Value→Shared→Prop}(hod:s.heap.get? d=some od)(hexd:od.ExactDict)(hdd:od.data=.dict ed epd)(hsm:(d==sysModules)=false)(hk:∀(i:Nat) (e:DictEntry),ed[i]?=some e→∃k t,ks[i]?=some k∧e.key=.int k t∧e.hash=hashInt k)(hlen:ed.size=ks.length)(hn:ks.length≤60)(h:∀h' us,(∀b o,s.heap.get? b=some o→h'.get? b=some o)→IS w h' s.heap.objs.size us→(∀x,x∈us↔x∈ks)→Q (.ref s.heap.objs.size) {s with heap:=h'}):wpAny (model prog w) A (call (.type "set") [.ref d]) Q E s:=by
 refine iJ ?_;have hS:(s.heap.push {cls:=.type "set",dict:=none,data:=.set #[] 0 (.fresh 0 0 (!bt w))}).get? s.heap.objs.size=some {cls:=.type "set",dict:=none,data:=.set #[] 0 (.fresh 0 0 (!bt w))}:=get?_push_size _ rfl;have hI:IS w (s.heap.push {cls:=.type "set",dict:=none,data:=.set #[] 0 (.fresh 0 0 (!bt w))}) s.heap.objs.size []:=jB hS;have hod1:(s.heap.push {cls:=.type "set",dict:=none,data:=.set #[] 0 (.fresh 0 0 (!bt w))}).get? d=some od:=get?_push_of_some _ hod;have hkeep:∀b o,s.heap.get? b=some o→(s.heap.push {cls:=.type "set",dict:=none,data:=.set #[] 0 (.fresh 0 0 (!bt w))}).get? b=some o:=λb o e=>get?_push_of_some _ e;have hdS:s.heap.objs.size≠d:=ne_of_gt (lt_size hod);generalize (s.heap.push {cls:=.type "set",dict:=none,data:=.set #[] 0 (.fresh 0 0 (!bt w))})=h0 at hS hI hod1 hkeep⊢;have hT:Shared.TypeIs {s with heap:=h0} (.ref d) "dict":=⟨od,hod1,hexd.1⟩
 have hTS:Shared.TypeIs {s with heap:=h0} (.ref s.heap.objs.size) "set":=⟨_,hS,rfl⟩
 have h1:isSubtype (.type "dict") (.type "set")=pure false:=by rw[isSubtype_type];kernel_rfl
 have h2:isSubtype (.type "dict") (.type "frozenset")=pure false:=by rw[isSubtype_type];kernel_rfl
 generalize hU:@Builtin.Frozenset.updateFrom=U;unfold Builtin.«set.__init__» noKeywords
 wp_walk
 rw[hdd];refine wpAny_pure ?_;refine wpAny_bind (wpAny_dictEntries (s:={s with heap:=h0}) hod1 hdd ?_);refine wpAny_bind (iK (s:={s with heap:=h0}) hI (by rw[length_nil];omega) λh3 ns3 o3 es3 ep3 t3 hs3 ho3 hex3 hd3 S3 hp3 _=>?_);have e3:ns3=[]:=hp3.eq_nil;subst e3;have hod3:h3.get? d=some od:=(hs3.2 d (symm hdS)).trans hod1;refine wpAny_bind (wpAny_dictEntries (s:={s with heap:=h3}) hod3 hdd ?_);refine wpAny_bind ?_;rw[Std.Legacy.Range.forIn_eq_forIn_range'];simp only[Std.Legacy.Range.size,Nat.sub_zero,Nat.add_sub_cancel,Nat.div_one];refine wpAny_forIn_list _ (λrest _ s'=>∃h' us i,s'={s with heap:=h'}∧rest=range' i (ed.size-i)∧i≤ed.size∧SameBut s.heap.objs.size h0 h'∧IS w h' s.heap.objs.size us∧(∀x,x∈us↔x∈ks.take i)∧us.length≤i) _ ?_ ?_ _ _
  ⟨h3,[],0,rfl,by simp,zero_le _,hs3,⟨o3,es3,ep3,t3,ho3,hex3,hd3,S3⟩,λx=>by simp,le_refl _⟩
 ·rintro x rest b s' ⟨h',us,i,rfl,hr,hi,hsb,hS',hmem,hl⟩;have hlt:i<ed.size:=by
   rcases Nat.lt_or_ge i ed.size with h|h
   ·exact h
   ·rw[Nat.sub_eq_zero_of_le h]at hr;simp at hr
  obtain⟨rfl,hrest⟩:x=i∧rest=range' (i+1) (ed.size-(i+1)):=by
   have e:ed.size-i=(ed.size-(i+1))+1:=by omega
   rw[e,List.range'_succ]at hr;injection hr with h1 h2
   exact⟨h1,h2⟩
  have hod':h'.get? d=some od:=(hsb.2 d (symm hdS)).trans hod1;refine wpAny_bind (wpAny_dictEntries (s:={s with heap:=h'}) hod' hdd ?_);have hx:ed[x]?=some ed[x]:=Array.getElem?_eq_getElem hlt;obtain⟨k,kt,hk1,hk2,hk3⟩:=hk x _ hx;rw[hx];show wpAny _ _ (holding [ed[x].key] (setAddHashed s.heap.objs.size ed[x].key ed[x].hash) >>= _) _ _ _;rw[hk2,hk3];refine wpAny_bind (wpAny_holding (add_int (s:={s with heap:=h'}) hS' (by omega) λr h2 us2 hsb2 hS2 hor=>?_));have hod2:h2.get? d=some od:=(hsb2.2 d (symm hdS)).trans hod';refine wpAny_bind (wpAny_dictEpoch (s:={s with heap:=h2}) hod2 hdd ?_);rw[if_neg (by simp)];refine wpAny_pure ⟨h2,us2,x+1,rfl,hrest,hlt,hsb.trans hsb2,hS2,λy=>?_,?_⟩
  ·have ht:ks.take (x+1)=ks.take x++[k]:=by rw[take_succ,hk1];rfl
   rw[ht,mem_append,mem_singleton];rcases hor with⟨hin,e⟩|⟨_,e⟩
   ·rw[e,hmem y];constructor
    ·exact .inl
    ·rintro(z|z)
     ·exact z
     ·rw[z];exact(hmem _).mp hin
   ·rw[e.mem_iff,mem_cons,hmem y];exact Or.comm
  ·rcases hor with⟨_,e⟩|⟨_,e⟩
   ·rw[e];omega
   ·have:=e.length_eq;rw[length_cons]at this;omega
 ·rintro b s' ⟨h',us,i,rfl,hr,hi,hsb,hS',hmem,hl⟩;have hin:i=ed.size:=by
   have:=congrArg length hr;rw[length_nil,List.length_range']at this;omega
  refine wpAny_pure (wpAny_pure ⟨rfl,h h' us (λc o e=>?_) hS' λx=>?_⟩)
  ·rw[hsb.2 c (ne_of_lt (lt_size e))];exact hkeep c o e
  ·rw[hmem x,hin,hlen,take_length]
end
end TB
namespace L2
open PySem PySem.Spec PyProof.Rows
section
variable{X:Cx}
theorem Inv.dK{pins:List (Addr×Obj)}{σ:St}{H:Hp}{s:Shared}(I:Inv X pins σ H s){a:Addr}{kvs:List (Key×V)}(h:Rd H a (.dK kvs)):
  kvs.length≤sizeLine∧(a==sysModules)=false∧∃vs,KV kvs vs∧s.heap.DictOf (ak X.prog X.w) a vs:=by
 rcases h with h|⟨o,h⟩
 ·obtain⟨hz,hsm,vs,rel,dd⟩:=I.hok a _ h;exact⟨hz,hsm,vs,rel,dd⟩
 ·obtain⟨_,hz,hsm,vs,rel,dd⟩:=I.hok a _ h;exact⟨hz,hsm,vs,rel,dd⟩
def ie:V→Bool
 |.non=>true
 |.int _=>true
 |.str _=>true
 |_=>false
theorem gm{x:V}(h:ie x=true):dM x=true:=by cases x<;>first|rfl|cases h
theorem oQ{x y:V}(hx:ie x=true)(hy:ie y=true):eqV x y=decide (x=y):=by
 cases x<;>cases y<;>simp_all [eqV,ie]<;>rw[Bool.eq_iff_iff]<;>simp
def OT(H:Hp)(x:V)(o:Option (List V)):Prop:=(x=.non∧o=none)∨∃a xs,x=.ref a∧H a=some (.tup xs)∧o=some xs∧∀v∈xs,ie v=true
theorem sE{xs ys:List V}(hl:xs.length=ys.length):((List.range xs.length).all λi=>decide (xs.getD i .non=ys.getD i .non))=decide (xs=ys):=by
 rw[Bool.eq_iff_iff,all_eq_true,decide_eq_true_eq];constructor
 ·intro h;apply ext_getElem?;intro i
  by_cases hi:i<xs.length
  ·have:=h i (mem_range.mpr hi);rw[decide_eq_true_eq,getD_eq_getElem?_getD,getD_eq_getElem?_getD,getElem?_eq_getElem hi,getElem?_eq_getElem (by omega)]at this;rw[getElem?_eq_getElem hi,getElem?_eq_getElem (by omega)];exact congrArg some this
  ·rw[getElem?_eq_none (by omega),getElem?_eq_none (by omega)]
 ·intro h i hi;rw[h];simp
theorem sF(hu:X.A.units+1<cLine):OpR X (compareOp .NotEq) (λx y H Q=>∃ox oy,OT H x ox∧OT H y oy∧Q (.bl (!decide (ox=oy))) H):=by
 intro pins s σ H x y v u Q I rx ry h;obtain⟨ox,oy,hx,hy,q⟩:=h;have hu0:X.A.units<cLine:=by omega
 rcases hx with⟨rfl,rfl⟩|⟨a,xs,rfl,ha,rfl,fx⟩<;>rcases hy with⟨rfl,rfl⟩|⟨b,ys,rfl,hb,rfl,fy⟩<;>cases rx<;>cases ry
 ·exact RcNeAt.none_none _ _ _ _ ⟨.bl false,H,I,rfl,q⟩
 ·obtain⟨_,ws,r2,t2⟩:=I.hok b _ hb;exact RcNeAt.none_tuple t2 hu0 _ _ _ _ ⟨.bl true,H,I,rfl,q⟩
 ·obtain⟨_,us,r1,t1⟩:=I.hok a _ ha;exact RcNeAt.tuple_none t1 hu0 _ _ _ _ ⟨.bl true,H,I,rfl,q⟩
 ·obtain⟨_,us,r1,t1⟩:=I.hok a _ ha;obtain⟨_,ws,r2,t2⟩:=I.hok b _ hb;have l1:=r1.length;have l2:=r2.length;refine RcNeAt.tuples (e:=λi=>decide (xs.getD i .non=ys.getD i .non)) t1 t2 hu0 (λj h1 h2=>?_) _ _ _ _ ⟨.bl _,H,I,rfl,?_⟩
  ·have h1':j<xs.length:=by rw[l1];simpa using h1
   have h2':j<ys.length:=by rw[l2];simpa using h2
   obtain⟨u',hu1,hu2⟩:=r1.get (getElem?_eq_getElem h1');obtain⟨v',hv1,hv2⟩:=r2.get (getElem?_eq_getElem h2');have e1:us.toArray[j]=u':=by
    have:us[j]?=some us.toArray[j]:=by rw[getElem?_eq_getElem (by simpa using h1)];simp
    rw[hu1]at this;exact(Option.some.inj this).symm
   have e2:ws.toArray[j]=v':=by
    have:ws[j]?=some ws.toArray[j]:=by rw[getElem?_eq_getElem (by simpa using h2)];simp
    rw[hv1]at this;exact(Option.some.inj this).symm
   rw[e1,e2,getD_eq_getElem?_getD,getD_eq_getElem?_getD,getElem?_eq_getElem h1',getElem?_eq_getElem h2'];have f1:=fx _ (getElem_mem h1');have f2:=fy _ (getElem_mem h2');show EqAt _ _ _ _ (decide (xs[j]=ys[j]));rw[←oQ f1 f2];exact ka hu2 hv2 (gm f1) (gm f2)
  ·have e:((List.range (min us.toArray.size ws.toArray.size)).all (λi=>decide (xs.getD i .non=ys.getD i .non))&&us.toArray.size==ws.toArray.size)=decide (some xs=some ys):=by
    simp only[size_toArray,←l1,←l2]
    by_cases hl:xs.length=ys.length
    ·rw[←hl,Nat.min_self,sE hl];simp
    ·have:(xs.length==ys.length)=false:=by simpa using hl
     rw[this,Bool.and_false];refine(decide_eq_false ?_).symm;intro e;injection e with e
     exact hl (by rw[e])
   rw[e];exact q
end
theorem eB{α:Type}[DecidableEq α]:∀{l m:List α},l.Nodup→(∀x∈l,x∈m)→l.length≤m.length
 |[],_,_,_=>zero_le _
 |x::l,m,hn,h=>by
  obtain⟨h1,h2⟩:=nodup_cons.mp hn;have hx:=h x mem_cons_self;have ih:=eB (l:=l) (m:=m.erase x) h2 λy hy=>(List.mem_erase_of_ne (by rintro rfl;exact h1 hy)).mpr (h y (mem_cons_of_mem _ hy));rw[List.length_erase_of_mem hx]at ih;have:=List.length_pos_of_mem hx;rw[length_cons];omega
section
variable{X:Cx}
theorem fc:bZ X (.type "set") (λxs H Q=>∃d kvs,∃ks:List Int,xs=[.ref d]∧Rd H d (.dK kvs)∧kvs.map (·.1)=ks.map (Sum.inl:Int→Key)∧ks.length≤60 ∧
  ∀ms:List Int,ms.Nodup→(∀x,x∈ms↔x∈ks)→∀q,H q=none→Q (.ref q) (upd H q (cS X.w q ms))):=by
 intro pins s σ H xs us Q I r h;obtain⟨d,kvs,ks,rfl,hH,hks,hl,q⟩:=h;obtain⟨u,rfl,ru⟩:=cy r;cases ru;obtain⟨hz,hsm,vs,rel,o,es,ep,ho,hx,hd,hk,hp,hn⟩:=I.dK hH;have hlen:es.size=ks.length:=by
  have e1:=hp.length;have e2:=rel.length;have e3:=congrArg length hks;rw[length_map,length_map]at e3;rw[length_toList]at e1;omega
 have key:∀(es:List DictEntry)(vs:List (Key×Value))(kvs:List (Key×V))(ks:List Int),Pairs (ak X.prog X.w) es vs→KV kvs vs→kvs.map (·.1)=ks.map (Sum.inl:Int→Key)→(∀e∈es,∃k,(ak X.prog X.w).is k e.key=true∧e.hash=(ak X.prog X.w).hash k) →
   ∀(i:Nat)(e:DictEntry),es[i]?=some e→∃k t,ks[i]?=some k∧e.key=.int k t∧e.hash=hashInt k:=by
  intro es vs kvs ks hp
  induction hp generalizing kvs ks with
  |nil=>intro _ _ _ i e he;simp at he
  |@cons e0 kv0 es0 kvs0 h1 h2 _ ih =>
   intro r hks hk i e he;cases r with
   |@cons p _ kvs1 _ r1 r2 =>
    cases ks with
    |nil=>simp at hks
    |cons k ks =>
     rw[map_cons,map_cons]at hks;injection hks with g1 g2
     cases i with
     |zero =>
      have ee:e0=e:=by simpa using he
      subst ee;have g3:kv0.1=Sum.inl k:=r1.1.symm.trans g1;rw[g3]at h1;obtain⟨k',hk1,hk2⟩:=hk _ mem_cons_self;have g4:k'=Sum.inl k:=(ak X.prog X.w).inj _ _ _ hk1 h1;subst g4;have h1':fA (Sum.inl k) e0.key=true:=h1;rcases aB h1' with⟨j,t,e1,e2⟩|⟨y,t,e1,e2⟩
      ·injection e1 with e1
       subst e1;exact⟨k,t,rfl,e2,hk2⟩
      ·cases e1
     |succ i=>exact ih _ ks r2 g2 (λe he=>hk e (mem_cons_of_mem _ he)) i e (by simpa using he)
 refine TB.oP (ks:=ks) ho hx hd hsm (λi e he=>?_) hlen hl λh' us hkeep hS hmem=>?_
 ·exact key es.toList vs kvs ks hp rel hks (λe he=>hk e (by simpa using he)) i e (by rw[getElem?_toList];exact he)
 ·have hnd:us.Nodup:=by obtain⟨_,_,_,_,_,_,_,S⟩:=hS;exact S.nd
  exact⟨.ref s.heap.objs.size,_,I.layS (t':=s.toks) hkeep (le_refl _) hS,rfl,q us hnd hmem _ (I.hok.fresh (le_refl _))⟩
theorem oR:OpR X (binaryOp .BitOr) (λx y H Q=>∃a b,∃ms ns:List Int,x=.ref a∧y=.ref b∧a≠b∧H a=some (cS X.w a ms)∧H b=some (cS X.w b ns)∧ms.length+ns.length≤60 ∧
  ∀us:List Int,us.Nodup→(∀x,x∈us↔x∈ms∨x∈ns)→∀q,H q=none→Q (.ref q) (upd H q (cS X.w q us))):=by
 intro pins s σ H x y v u Q I rx ry h;obtain⟨a,b,ms,ns,rfl,rfl,hab,ha,hb,hl,q⟩:=h;cases rx;cases ry;refine TB.oO hab (I.intS ha) (I.intS hb) hl λh' us hkeep hS hmem=>?_;have hnd:us.Nodup:=by obtain⟨_,_,_,_,_,_,_,S⟩:=hS;exact S.nd
 exact⟨.ref s.heap.objs.size,_,I.layS (t':=s.toks) hkeep (le_refl _) hS,rfl,q us hnd hmem _ (I.hok.fresh (le_refl _))⟩
end
end L2
namespace TW
section
variable{S:Type}
def aR(t:List (Nd S))(k:Int):Option (Nd S):=t.find? λn=>n.num==k
theorem kH{t:List (Nd S)}(T:Tree1 t){m:Nd S}(hm:m∈t){k:Int}(e:m.num=k):aR t k=some m:=by
 subst e;unfold aR;cases h:t.find? λn=>n.num==m.num with
 |none=>have:=List.find?_eq_none.mp h m hm;simp at this
 |some y =>
  have h1:=find?_some h;have h2:=List.mem_of_find?_eq_some h;have h3:y.num=m.num:=by simpa using h1
  rw[T.inj h2 hm h3]
theorem kI{t:List (Nd S)}{k:Int}(h:∀m∈t,m.num≠k):aR t k=none:=by
 unfold aR;rw[List.find?_eq_none];intro m hm;simpa using h m hm
end
end TW
namespace TW
section
variable{S:Type}
structure Row(S:Type) where
 k:Int
 o:Option (Nd S)
 n:Option (Nd S)
structure Chg(t u:List (Nd S))(rs:List (Row S)):Prop where
 up:rs.Pairwise λa b=>a.k<b.k
 mem:∀r,r∈rs↔r.o=aR t r.k∧r.n=aR u r.k∧r.o≠r.n
theorem eS{t:List (Nd S)}{k:Int}{m:Nd S}(h:aR t k=some m):m∈t∧m.num=k:=by
 unfold aR at h;have h1:=find?_some h;have h2:=List.mem_of_find?_eq_some h;exact⟨h2,by simpa using h1⟩
def eC(t u:List (Nd S))(k:Int):Row S:=⟨k,aR t k,aR u k⟩
theorem sG[DecidableEq (Nd S)]{t u:List (Nd S)}{ns:List Int}(hu:ns.Pairwise (· < ·))(hm:∀k,aR t k≠none∨aR u k≠none→k∈ns∨aR t k=aR u k):Chg t u ((ns.map (eC t u)).filter λr=>decide (r.o≠r.n)):=by
 refine⟨?_,λr=>?_⟩
 ·refine Pairwise.filter _ ?_;rw[pairwise_map];exact hu
 ·rw[mem_filter,mem_map,decide_eq_true_eq];constructor
  ·rintro⟨⟨k,hk,rfl⟩,hne⟩;exact⟨rfl,rfl,hne⟩
  ·rintro⟨h1,h2,h3⟩;refine⟨⟨r.k,?_,?_⟩,h3⟩
   ·have h4:aR t r.k≠aR u r.k:=by rw[←h1,←h2];exact h3
    have h5:aR t r.k≠none∨aR u r.k≠none:=by
     by_cases z:aR t r.k=none
     ·exact .inr λz2=>h4 (z.trans z2.symm)
     ·exact .inl z
    rcases hm r.k h5 with z|z
    ·exact z
    ·exact absurd z h4
   ·show(⟨r.k,aR t r.k,aR u r.k⟩:Row S)=r;rw[←h1,←h2]
end
end TW
namespace L2
open PySem PySem.Spec PyProof.Rows
theorem oS{α:Type}{k:Nat}{js:List Nat}{J:It}{g:TG}{te:TE}{σ:St}{H1:Hp}{Q:VK}{p:Addr}{fr:List (Option V)}(zs:List α)(val:α→V)(hn:zs.length≤1000)(hp:H1 p=none)(S:Src J H1 (zs.map val))(hfr:∃σ0:St,σ0.length=k∧bg k js σ=σ0++fr)(R:α→V→Hp→Prop)(hR:∀z y H H',R z y H→Ext p H H'→R z y H')(elt:∀z (σ0:St) H' (kk:St→VK),σ0.length=k→z∈zs→Same H1 H'→(∃ys,H' p=some (.lst ys))→(∀σ2 y H4,(∃σ0':St,σ0'.length=k∧σ2=σ0'++fr)→Same H' H4→R z y H4→kk σ2 y H4)→g (val z) (σ0++fr) H' λσ2 H3=>te σ2 H3 (kk σ2))(fin:∀ys H',Same H1 H'→H' p=some (.lst ys)→Paired (λz y=>R z y H') zs ys→Q (.ref p) H'):LcW k js g te σ Q J H1 p:=by
 have grow:∀{as:List α}{ys:List V}{H H':Hp},Ext p H H'→Paired (λz y=>R z y H) as ys→Paired (λz y=>R z y H') as ys:=λex r=>Paired.mapP r λa b h=>hR a b _ _ h ex;have hlen:∀{as:List α}{ys:List V}{H:Hp},Paired (λz y=>R z y H) as ys→ys.length=as.length:=λr=>(Paired.length r).symm;refine⟨λi m ys σ' H'=>m=zs.length-i∧i≤zs.length∧(∃σ0:St,σ0.length=k∧σ'=σ0++fr)∧Same H1 H'∧H' p=some (.lst ys)∧Paired (λz y=>R z y H') (zs.take i) ys,⟨zs.length,by simp,zero_le _,hfr,ae hp,ac,.nil⟩,?_⟩;rintro i m ys σ' H' ⟨rfl,hi,⟨σ0,hσ0,rfl⟩,s1,hl,hys⟩
 by_cases hlt:i<zs.length
 ·have hlt':i<(zs.map val).length:=by rw[length_map];exact hlt
  refine .inr ⟨S.go i H' hlt' s1,?_,λx H2 hy=>?_⟩
  ·have h1:ys.length≤zs.length:=by
    rw[hlen hys,length_take];omega
   exact lt_of_le_of_lt h1 (ap hn)
  ·obtain⟨rfl,hx⟩:=S.yl i H' x H2 hlt' s1 hy;have gz:zs[i]?=some zs[i]:=getElem?_eq_getElem hlt;have mz:=mem_of_getElem? gz;rw[getElem?_map,gz]at hx;have ex:val zs[i]=x:=Option.some.inj hx;have et:zs.take (i+1)=zs.take i++[zs[i]]:=ax gz;subst ex;generalize zs[i]=z at gz mz et⊢;refine elt z σ0 H2 _ hσ0 mz s1 ⟨ys,hl⟩ λσ2 y H5 hσ2 s5 r5=>⟨s5 _ _ hl,zs.length-(i+1),by omega,rfl,hlt,hσ2,ar hp (s1.trans s5),ac,?_⟩;rw[et];exact Paired.snoc (grow ((Ext.of s5).trans Ext.upd) hys) (hR _ _ _ _ r5 Ext.upd)
 ·have e:i=zs.length:=by omega
  subst e;have st:=S.stop H' s1;rw[length_map]at st;refine .inl ⟨st,fin ys H' s1 hl ?_⟩;rw[take_length]at hys;exact hys
end L2
namespace TK
open PySem L2
instance decNd:DecidableEq (TW.Nd Str):=λa b=>Classical.propDecidable _
abbrev Row:=TW.Row Str
def eT(H:Hp)(v:V)(o:Option Nd):Prop:=(v=.non∧o=none)∨∃q n,v=.ref q∧H q=some (.tup (aV n))∧o=some n
theorem eT.same{H H':Hp}{v:V}{o:Option Nd}(h:eT H v o)(s:Same H H'):eT H' v o:=by
 rcases h with h|⟨q,n,e,h,e2⟩
 ·exact .inl h
 ·exact .inr ⟨q,n,e,s _ _ h,e2⟩
theorem kJ(n:Nd):∀v∈aV n,ie v=true:=λv hv=>by
 unfold aV at hv;simp only[mem_cons,not_mem_nil,or_false]at hv;rcases hv with rfl|rfl|rfl
 ·rfl
 ·rfl
 ·cases n.st<;>rfl
theorem eT.ot{H:Hp}{v:V}{o:Option Nd}(h:eT H v o):OT H v (o.map aV):=by
 rcases h with⟨e,e2⟩|⟨q,n,e,h,e2⟩
 ·exact .inl ⟨e,by rw[e2];rfl⟩
 ·exact .inr ⟨q,aV n,e,h,by rw[e2];rfl,kJ n⟩
theorem mV{a b:Nd}(h:aV a=aV b)(e:a.num=b.num):a=b:=by
 obtain⟨n1,p1,m1,s1⟩:=a;obtain⟨n2,p2,m2,s2⟩:=b;unfold aV at h;simp only[List.cons.injEq,V.int.injEq,V.str.injEq,and_true]at h;obtain⟨h1,h2,h3⟩:=h;have h4:s1=s2:=by
  cases s1<;>cases s2<;>simp_all [stV]
 simp only at e;subst e h1 h2 h4;rfl
def qM(r:Row):Prop:=(∀n,r.o=some n→n.num=r.k)∧∀n,r.n=some n→n.num=r.k
theorem qM.eq{r:Row}(h:qM r):r.o.map aV=r.n.map aV↔r.o=r.n:=by
 obtain⟨k,o,n⟩:=r;constructor
 ·intro e;cases o with
  |none=>cases n with
   |none=>rfl
   |some b=>cases e
  |some a=>cases n with
   |none=>cases e
   |some b =>
    have e2:aV a=aV b:=Option.some.inj e;exact congrArg some (mV e2 ((h.1 a rfl).trans (h.2 b rfl).symm))
 ·intro e;show o.map aV=n.map aV;have:o=n:=e;rw[this]
structure RowAt(H:Hp)(e:Addr)(r:Row):Prop where
 at':∃vo vn,H e=some (.tup [.int r.k,vo,vn])∧eT H vo r.o∧eT H vn r.n
 ok:qM r
theorem RowAt.same{H H':Hp}{e:Addr}{r:Row}(h:RowAt H e r)(s:Same H H'):RowAt H' e r:=by
 obtain⟨⟨vo,vn,h1,h2,h3⟩,hk⟩:=h;exact⟨⟨vo,vn,s _ _ h1,h2.same s,h3.same s⟩,hk⟩
abbrev ZR:=List (Addr×Row)
def oT(es:ZR):List V:=es.map λe=>V.ref e.1
def gp(es:ZR):List Row:=es.map (·.2)
structure ChgAt(H:Hp)(c:Addr)(es:ZR):Prop where
 tup:H c=some (.tup (oT es))
 at':∀e∈es,RowAt H e.1 e.2
 len:es.length≤60
theorem oU{t u:List Nd}(k:Int):qM (TW.eC t u k):=⟨λn h=>(TW.eS h).2,λn h=>(TW.eS h).2⟩
theorem Book.optV{H:Hp}{d:Addr}{as:List (Addr×(Addr×Nd))}{zs:ZN}(b:Book H d as zs)(T:TW.Tree1 (nds zs))(k:Int):∃r,bA H d (.int k) r∧eT H (r.getD .non) (TW.aR (nds zs) k):=by
 by_cases hk:∃z∈zs,z.2.num=k
 ·obtain⟨z,hz,rfl⟩:=hk;obtain⟨q,hq1,hq2⟩:=b.get (cb T) hz;refine⟨_,hq1,?_⟩;rw[TW.kH T (bT hz) rfl];exact .inr ⟨q,z.2,rfl,hq2,rfl⟩
 ·refine⟨none,b.not λz hz e=>hk ⟨z,hz,e⟩,?_⟩;rw[TW.kI λm hm e=>?_]
  ·exact .inl ⟨rfl,rfl⟩
  ·obtain⟨z,hz,rfl⟩:=bY hm;exact hk ⟨z,hz,e⟩
theorem gq{as:List (Addr×(Addr×Nd))}{zs:ZN}(h:as.map (·.2)=zs):(dk as).map (·.1)=((nds zs).map (·.num)).map (Sum.inl:Int→Key):=dB h
theorem jG{es:ZR}{t u:List Nd}{ns:List Int}(h:gp es=ns.map (TW.eC t u)):gp (es.filter λe=>!decide (e.2.o=e.2.n))=(ns.map (TW.eC t u)).filter λr=>decide (r.o≠r.n):=by
 rw[←h];unfold gp;rw[filter_map]
 congr 1
 apply filter_congr;intro e _;show(!decide (e.2.o=e.2.n))=decide (e.2.o≠e.2.n)
 by_cases z:e.2.o=e.2.n<;>simp[z]
theorem ig{t:List Nd}{k:Int}(h:TW.aR t k≠none):k∈t.map (·.num):=by
 cases e:TW.aR t k with
 |none=>exact absurd e h
 |some m =>
  obtain⟨h1,h2⟩:=TW.eS e;exact mem_map.mpr ⟨m,h1,h2⟩
end TK
namespace L2
open PySem PySem.Spec PyProof.Rows
end L2
namespace TW
section
variable{S:Type}[DecidableEq S]
end
section
variable{S:Type}{ns:List (Nd S)}
variable[DecidableEq S]
end
end TW
namespace TW
section
variable{S:Type}
end
end TW
namespace TW
section
variable{S:Type}
end
end TW
namespace TW
section
variable{S:Type}
section
variable{q:S→Bool}{t:List (Nd S)}
end
end
end TW
namespace TW
section
variable{S:Type}
section
variable{t u:List (Nd S)}{k g:Int}
theorem oV{t:List (Nd S)}(T:Tree1 t){n:Nd S}(hn:n∈t):n.par=0∨∃m∈t,m.num=n.par:=by
 have:=T.down n hn;cases this with
 |base _ e=>exact .inl e
 |@step m _ hr _ _ e=>exact .inr ⟨m,hr.mem,e.symm⟩
end
def reG(g:Int→Int)(n:Nd S):Nd S:=⟨g n.num,g n.par,n.nm,n.st⟩
section
variable{t u:List (Nd S)}{g:Int→Int}
theorem qN(h0:g 0=0)(hu:∀n∈t,reG g n∈u){x:Int}{p:List S}(h:PathTo t x p):PathTo u (g x) p:=by
 induction h with
 |top=>rw[h0];exact .top
 |@node n p hm _ ih=>exact PathTo.node (n:=reG g n) (hu n hm) ih
theorem iN(T:Tree1 t)(h0:g 0=0)(h1:∀n∈t,1≤g n.num)(inj:∀a∈t,∀b∈t,g a.num=g b.num→a.num=b.num)(hu:∀n,n∈u↔∃m∈t,n=reG g m)(hl:u.Perm (t.map (reG g)))(hr:cD u):Tree1 u:=by
 refine⟨⟨hr,?_,λn hn=>?_⟩,λn hn=>?_⟩
 ·unfold cN;rw[(hl.map _).nodup_iff,map_map];have own:=T.own;unfold cN Nodup at own;unfold Nodup;rw[pairwise_map]at own⊢;refine own.imp_of_mem λ{a b} ha hb hab e=>hab ?_;have e1:g a.par=g b.par:=congrArg Prod.fst e;have e2:a.nm=b.nm:=congrArg Prod.snd e;have ep:a.par=b.par:=by
   rcases oV T ha with za|⟨x,hx,ex⟩<;>rcases oV T hb with zb|⟨y,hy,ey⟩
   ·rw[za,zb]
   ·rw[za,h0,←ey]at e1;have:=h1 y hy;omega
   ·rw[zb,h0,←ex]at e1;have:=h1 x hx;omega
   ·rw[←ex,←ey]at e1⊢;exact inj x hx y hy e1
  show(a.par,a.nm)=(b.par,b.nm);rw[ep,e2]
 ·obtain⟨m,hm,rfl⟩:=(hu n).mp hn;have h:=T.down m hm;clear hn hm
  induction h with
  |@base n hm hp=>exact .base ((hu _).mpr ⟨n,hm,rfl⟩) (by show g n.par=0;rw[hp,h0])
  |@step m n hr hf hm hp ih=>exact .step ih hf ((hu _).mpr ⟨n,hm,rfl⟩) (by show g n.par=g m.num;rw[hp])
 ·obtain⟨m,hm,rfl⟩:=(hu n).mp hn;exact h1 m hm
end
end
end TW
namespace TK
open PySem L2
abbrev Wt:=List Str×Nd
structure Wk(t:List Nd)(ws:List Wt):Prop where
 up:ws.Pairwise (λa b=>HT.bi a.1 b.1=true)
 mem:∀p n,(p,n)∈ws↔n∈t∧TW.PathTo t n.num p
theorem mX{α:Type}{R:α→α→Prop}(irr:∀a,¬R a a)(asy:∀a b,R a b→¬R b a):∀{l m:List α},l.Pairwise R→m.Pairwise R→(∀x,x∈l↔x∈m)→l=m
 |[],[],_,_,_=>rfl
 |[],b::m,_,_,h=>absurd ((h b).mpr mem_cons_self) not_mem_nil
 |a::l,[],_,_,h=>absurd ((h a).mp mem_cons_self) not_mem_nil
 |a::l,b::m,h1,h2,h=>by
  obtain⟨a1,a2⟩:=pairwise_cons.mp h1;obtain⟨b1,b2⟩:=pairwise_cons.mp h2;have e:a=b:=by
   rcases mem_cons.mp ((h a).mp mem_cons_self)with e|ha
   ·exact e
   ·rcases mem_cons.mp ((h b).mpr mem_cons_self)with e|hb
    ·exact e.symm
    ·exact absurd (a1 b hb) (asy b a (b1 a ha))
  subst e;rw[mX irr asy a2 b2 λx=>?_];have hx:=h x;rw[mem_cons,mem_cons]at hx;constructor
  ·intro hl;rcases hx.mp (.inr hl)with e|hm
   ·subst e;exact absurd (a1 x hl) (irr x)
   ·exact hm
  ·intro hm;rcases hx.mpr (.inr hm)with e|hl
   ·subst e;exact absurd (b1 x hm) (irr x)
   ·exact hl
section
variable{t u:List Nd}{ws vs:List Wt}
theorem qO(a:Wt):¬HT.bi a.1 a.1=true:=by rw[HT.ba];simp
theorem qP(a b:Wt)(h1:HT.bi a.1 b.1=true):¬HT.bi b.1 a.1=true:=λh2=>by
 have:=HT.ft h1 h2;rw[HT.ba]at this;cases this
theorem Wk.one(h:Wk t ws)(h':Wk t vs):ws=vs:=mX (R:=λa b:Wt=>HT.bi a.1 b.1=true) qO qP h.up h'.up λx=>by rw[show x=(x.1,x.2)from rfl,h.mem,h'.mem]
theorem Wk.node(T:TW.Tree1 t)(h:Wk t ws){a b:Wt}(ha:a∈ws)(hb:b∈ws)(e:a.2.num=b.2.num):a=b:=by
 obtain⟨a1,a2⟩:=(h.mem a.1 a.2).mp ha;obtain⟨b1,b2⟩:=(h.mem b.1 b.2).mp hb;have e1:=T.inj a1 b1 e;rw[e1]at a2;exact Prod.ext (a2.uniq T b2) e1
theorem Wk.path(h:Wk t ws){a b:Wt}(ha:a∈ws)(hb:b∈ws)(e:a.1=b.1):a=b:=by
 have key:∀{l:List Wt},l.Pairwise (λa b=>HT.bi a.1 b.1=true)→∀{a b:Wt},a∈l→b∈l→a.1=b.1→a=b:=by
  intro l hl
  induction hl with
  |nil=>intro a b ha;exact(not_mem_nil ha).elim
  |@cons x l hx _ ih =>
   intro a b ha hb e;rcases mem_cons.mp ha with ea|ha<;>rcases mem_cons.mp hb with eb|hb
   ·rw[ea,eb]
   ·have:=hx b hb;rw[←ea,e,HT.ba]at this;cases this
   ·have:=hx a ha;rw[←eb,←e,HT.ba]at this;cases this
   ·exact ih ha hb e
 exact key h.up ha hb e
theorem Wk.nums(T:TW.Tree1 t)(h:Wk t ws):(ws.map (·.2.num)).Nodup:=by
 unfold Nodup;rw[pairwise_map];refine Pairwise.imp_of_mem (R:=λa b=>HT.bi a.1 b.1=true) (λ{a b} ha hb hab e=>?_) h.up;have:=h.node T ha hb e;rw[this,HT.ba]at hab;cases hab
theorem Wk.has(T:TW.Tree1 t)(h:Wk t ws){n:Nd}(hn:n∈t):∃p,(p,n)∈ws:=by
 obtain⟨p,hp⟩:=TW.PathTo.ex T hn;exact⟨p,(h.mem p n).mpr ⟨hn,hp⟩⟩
end
def Kp(wo wn:List Wt)(b a:Int):Prop:=∃p n m,(p,n)∈wo∧(p,m)∈wn∧(n.st=none↔m.st=none)∧n.num=b∧m.num=a
open Classical in
def wtS(ws:List Wt)(out:Int→Prop)(s:Int):List Int:=(ws.filter λw=>decide (w.2.st=some s∧¬out w.2.num)).map (·.2.num)
def Ks(wo wn:List Wt)(b a:Int):Prop:=∃(s:Int) (i:Nat),(wtS wo (λx=>∃y,Kp wo wn x y) s)[i]?=some b∧(wtS wn (λy=>∃x,Kp wo wn x y) s)[i]?=some a
def Kn(wo wn:List Wt)(b a:Int):Prop:=Kp wo wn b a∨Ks wo wn b a
section
variable{t u:List Nd}{wo wn:List Wt}
theorem Kp.symm{b a:Int}:Kp wo wn b a↔Kp wn wo a b:=⟨λ⟨p,n,m,h1,h2,h3,h4,h5⟩=>⟨p,m,n,h2,h1,h3.symm,h5,h4⟩,λ⟨p,n,m,h1,h2,h3,h4,h5⟩=>⟨p,m,n,h2,h1,h3.symm,h5,h4⟩⟩
theorem Kn.symm{b a:Int}:Kn wo wn b a↔Kn wn wo a b:=by
 unfold Kn Ks;have e1:(λx=>∃y,Kp wo wn x y)=λx=>∃y,Kp wn wo y x:=funext λx=>propext ⟨λ⟨y,h⟩=>⟨y,Kp.symm.mp h⟩,λ⟨y,h⟩=>⟨y,Kp.symm.mpr h⟩⟩;have e2:(λy=>∃x,Kp wo wn x y)=λy=>∃x,Kp wn wo y x:=funext λx=>propext ⟨λ⟨y,h⟩=>⟨y,Kp.symm.mp h⟩,λ⟨y,h⟩=>⟨y,Kp.symm.mpr h⟩⟩;rw[Kp.symm,e1,e2];constructor
 ·rintro(h|⟨s,i,h1,h2⟩)
  ·exact .inl h
  ·exact .inr ⟨s,i,h2,h1⟩
 ·rintro(h|⟨s,i,h1,h2⟩)
  ·exact .inl h
  ·exact .inr ⟨s,i,h2,h1⟩
theorem Kp.fn(T:TW.Tree1 t)(ho:Wk t wo)(hn:Wk u wn){b a a':Int}(h:Kp wo wn b a)(h':Kp wo wn b a'):a=a':=by
 obtain⟨p,n,m,h1,h2,_,h4,h5⟩:=h;obtain⟨p',n',m',g1,g2,_,g4,g5⟩:=h';have e:=ho.node T h1 g1 (h4.trans g4.symm);have e1:p=p':=congrArg Prod.fst e;have e2:=hn.path h2 g2 e1;have e3:=congrArg Prod.snd e2;have e4:m=m':=e3;rw[←h5,←g5,e4]
open Classical in
theorem cw{ws:List Wt}{out:Int→Prop}{s k:Int}(h:k∈wtS ws out s):∃w∈ws,w.2.num=k∧w.2.st=some s∧¬out k:=by
 unfold wtS at h;obtain⟨w,hw,e⟩:=mem_map.mp h;obtain⟨h1,h2⟩:=mem_filter.mp hw;have h3:=of_decide_eq_true h2;exact⟨w,h1,e,h3.1,by rw[←e];exact h3.2⟩
theorem rp{ws:List Wt}(nd:(ws.map (·.2.num)).Nodup){out:Int→Prop}{s:Int}:(wtS ws out s).Nodup:=nd.sublist (List.filter_sublist.map _)
theorem Kn.fn(T:TW.Tree1 t)(ho:Wk t wo)(hn:Wk u wn){b a a':Int}(h:Kn wo wn b a)(h':Kn wo wn b a'):a=a':=by
 rcases h with h|⟨s,i,h1,h2⟩<;>rcases h' with h'|⟨s',i',g1,g2⟩
 ·exact h.fn T ho hn h'
 ·obtain⟨w,_,_,_,no⟩:=cw (mem_of_getElem? g1);exact absurd ⟨a,h⟩ no
 ·obtain⟨w,_,_,_,no⟩:=cw (mem_of_getElem? h1);exact absurd ⟨a',h'⟩ no
 ·obtain⟨w,hw,e1,e2,_⟩:=cw (mem_of_getElem? h1);obtain⟨w',hw',e1',e2',_⟩:=cw (mem_of_getElem? g1);have e:=ho.node T hw hw' (e1.trans e1'.symm);subst e;have es:s=s':=Option.some.inj (e2.symm.trans e2');subst es;have ei:i=i':=(getElem?_inj (List.getElem?_eq_some_iff.mp h1).1 (rp (ho.nums T))).mp (h1.trans g1.symm);subst ei;rw[h2]at g2;exact Option.some.inj g2
theorem Kn.inj(U:TW.Tree1 u)(ho:Wk t wo)(hn:Wk u wn){b b' a:Int}(h:Kn wo wn b a)(h':Kn wo wn b' a):b=b':=Kn.fn U hn ho (Kn.symm.mp h) (Kn.symm.mp h')
theorem Kn.has{b a:Int}(h:Kn wo wn b a):(∃w∈wo,w.2.num=b)∧∃w∈wn,w.2.num=a:=by
 rcases h with⟨p,n,m,h1,h2,_,h4,h5⟩|⟨s,i,h1,h2⟩
 ·exact⟨⟨_,h1,h4⟩,⟨_,h2,h5⟩⟩
 ·obtain⟨w,hw,e1,_⟩:=cw (mem_of_getElem? h1);obtain⟨w',hw',e1',_⟩:=cw (mem_of_getElem? h2);exact⟨⟨w,hw,e1⟩,⟨w',hw',e1'⟩⟩
end
def reW(g:Int→Int)(ws:List Wt):List Wt:=ws.map λw=>(w.1,TW.reG g w.2)
section
variable{t u:List Nd}{wo wn:List Wt}{g:Int→Int}
theorem Wk.re(T:TW.Tree1 t)(h:Wk t wn)(h0:g 0=0)(inj:∀a∈t,∀b∈t,g a.num=g b.num→a.num=b.num)(h1:∀n∈t,1≤g n.num)(hp:u.Perm (t.map (TW.reG g)))(hr:TW.cD u):Wk u (reW g wn):=by
 have mem:∀n,n∈u↔∃m∈t,n=TW.reG g m:=λn=>by
  rw[hp.mem_iff,mem_map];exact⟨λ⟨m,h,e⟩=>⟨m,h,e.symm⟩,λ⟨m,h,e⟩=>⟨m,h,e.symm⟩⟩
 have U:=TW.iN T h0 h1 inj mem hp hr;refine⟨?_,λp n=>?_⟩
 ·unfold reW;rw[pairwise_map];exact h.up
 ·have pth:∀{m:Nd}{p:List Str},m∈t→TW.PathTo t m.num p→TW.PathTo u (g m.num) p:=λhm hq=>TW.qN h0 (λn hn=>(mem _).mpr ⟨n,hn,rfl⟩) hq;constructor
  ·intro hx;obtain⟨w,hw,e⟩:=mem_map.mp hx;obtain⟨w1,w2⟩:=(h.mem w.1 w.2).mp hw;injection e with e1 e2
   subst e1 e2;exact⟨(mem _).mpr ⟨w.2,w1,rfl⟩,pth w1 w2⟩
  ·rintro⟨h1',h2'⟩;obtain⟨m,hm,rfl⟩:=(mem n).mp h1';obtain⟨q,hq⟩:=TW.PathTo.ex T hm;have:=(pth hm hq).uniq U h2';subst this;exact mem_map.mpr ⟨(q,m),(h.mem q m).mpr ⟨hm,hq⟩,rfl⟩
theorem oW{p:List Str}{m:Nd}:(p,m)∈reW g wn↔∃n,(p,n)∈wn∧m=TW.reG g n:=by
 unfold reW;rw[mem_map];constructor
 ·rintro⟨w,hw,e⟩;injection e with e1 e2
  exact⟨w.2,by rw[←e1];exact hw,e2.symm⟩
 ·rintro⟨n,hn,rfl⟩;exact⟨(p,n),hn,rfl⟩
theorem Kp.re{b a':Int}:Kp wo (reW g wn) b a'↔∃a,a'=g a∧Kp wo wn b a:=by
 constructor
 ·rintro⟨p,n,m,h1,h2,h3,h4,h5⟩;obtain⟨m0,hm0,rfl⟩:=oW.mp h2;exact⟨m0.num,h5.symm,p,n,m0,h1,hm0,h3,h4,rfl⟩
 ·rintro⟨a,rfl,p,n,m,h1,h2,h3,h4,h5⟩;exact⟨p,n,TW.reG g m,h1,oW.mpr ⟨m,h2,rfl⟩,h3,h4,by rw[←h5];rfl⟩
open Classical in
theorem uk{out out':Int→Prop}(ho:∀w∈wn,out' (g w.2.num)↔out w.2.num){s:Int}:wtS (reW g wn) out' s=(wtS wn out s).map g:=by
 unfold wtS reW;rw[filter_map,map_map,map_map];have:wn.filter ((λw:Wt=>decide (w.2.st=some s∧¬out' w.2.num))∘λw=>(w.1,TW.reG g w.2))=wn.filter λw=>decide (w.2.st=some s∧¬out w.2.num):=filter_congr λw hw=>by
  show decide (w.2.st=some s∧¬out' (g w.2.num))=_;exact decide_eq_decide.mpr (by rw[ho w hw])
 rw[this];rfl
theorem Kn.re(inj:∀a∈wn,∀b∈wn,g a.2.num=g b.2.num→a.2.num=b.2.num){b a':Int}:Kn wo (reW g wn) b a'↔∃a,a'=g a∧Kn wo wn b a:=by
 have e1:(λx=>∃y,Kp wo (reW g wn) x y)=λx=>∃y,Kp wo wn x y:=funext λx=>propext ⟨λ⟨y,h⟩=>let⟨a,_,h2⟩:=Kp.re.mp h;⟨a,h2⟩,λ⟨y,h⟩=>⟨g y,Kp.re.mpr ⟨y,rfl,h⟩⟩⟩;have e2:∀s,wtS (reW g wn) (λy=>∃x,Kp wo (reW g wn) x y) s=(wtS wn (λy=>∃x,Kp wo wn x y) s).map g:=λs=>uk λw hw=>by
  constructor
  ·rintro⟨x,hx⟩;obtain⟨a,ea,h2⟩:=Kp.re.mp hx;obtain⟨p,n,m,h3,h4,h5,h6,h7⟩:=id h2;have:=inj w hw _ h4 (ea.trans (by rw[←h7]));refine⟨x,?_⟩;rw[this];show Kp wo wn x m.num;rw[h7];exact h2
  ·rintro⟨x,hx⟩;exact⟨x,Kp.re.mpr ⟨_,rfl,hx⟩⟩
 unfold Kn Ks;rw[e1];constructor
 ·rintro(h|⟨s,i,h1,h2⟩)
  ·obtain⟨a,ea,h⟩:=Kp.re.mp h;exact⟨a,ea,.inl h⟩
  ·rw[e2,getElem?_map]at h2;cases e:(wtS wn (λy=>∃x,Kp wo wn x y) s)[i]? with
   |none=>rw[e]at h2;cases h2
   |some a=>rw[e]at h2;exact⟨a,(Option.some.inj h2).symm,.inr ⟨s,i,h1,e⟩⟩
 ·rintro⟨a,rfl,h|⟨s,i,h1,h2⟩⟩
  ·exact .inl (Kp.re.mpr ⟨a,rfl,h⟩)
  ·exact .inr ⟨s,i,h1,by rw[e2,getElem?_map,h2];rfl⟩
theorem Kn.whole(T:TW.Tree1 t)(ho:Wk t wo)(inj:∀a∈wo,∀b∈wo,g a.2.num=g b.2.num→a.2.num=b.2.num){b a:Int}:Kn wo (reW g wo) b a↔(∃w∈wo,w.2.num=b)∧a=g b:=by
 rw[Kn.re inj];have self:∀w∈wo,Kn wo wo w.2.num w.2.num:=λw hw=>.inl ⟨w.1,w.2,w.2,hw,hw,Iff.rfl,rfl,rfl⟩;constructor
 ·rintro⟨a0,rfl,h⟩;obtain⟨⟨w,hw,e⟩,_⟩:=h.has;refine⟨⟨w,hw,e⟩,?_⟩;have:=self w hw;rw[e]at this;rw[h.fn T ho ho this]
 ·rintro⟨⟨w,hw,e⟩,rfl⟩;exact⟨b,rfl,by rw[←e];exact self w hw⟩
end
section
variable{P:Program}{w:World}{K:PySem.W.Frag}{mg:Str→Option Value}{base:Heap}
def lN:Sp:=λvs H Q _=>∃t zs,vs=[.ref t]∧H t=some (.tup (aU zs))∧At H zs∧zs.length≤100∧((nds zs).map (·.num)).Nodup∧∀d H',Same H H'→kD H' d zs→Q (.ref d) H'
theorem ul:FnScope ["tree"] ["tree"] (aj sy):=fsc
theorem sI{f:Addr}{fd:FuncData}(F:Fun K "by_number" "by_number" sy f fd)(T:Txt mg):FnOk P w K mg base CX0 1 f fd ["tree"] lN:=by
 refine F.ok ul (λvs H Q E h=>?_) (λcdv A outer s H vs Q E hr h=>?_)
 ·obtain⟨t,zs,rfl,_⟩:=h;rfl
 ·obtain⟨t,zs,rfl,ht,hA,hl,hnd,k⟩:=h;refine⟨_,al (aH (aD (kr rfl) rfl T.dict boot_dict (aa (cg (N:=["node"]) (k:=1) (js:=[]) (g:=aJ 0) rfl (ci rfl (by decide +kernel) (by decide +kernel) (by decide +kernel)) rfl (λi j x h=>by simp at h)
   (eJ (pv 0)) (λs H fp=>ao (i:=0) (show(["node"]:List Str).Nodup by decide +kernel) rfl (Or.inl rfl) (Or.inr rfl))
   (λs H fp=>bD (aa (aK (r:=cu K) aI (pv 0) ai (λ_ _=>rfl)) (aa (pv 0) af)))) af))),?_⟩
  refine⟨_,rfl,t,rfl,⟨_,SqT.of ht⟩,λp hp=>?_⟩;refine kA (fr:=[]) zs.length (by omega) hp rfl (λi y H'=>∃q z,zs[i]?=some z∧y=.ref q∧q≠p∧H' q=some (.tup [.int z.2.num,.ref z.1])) (λi y H1 H2 h ex=>?_) (λi H' hi s1=>?_) (λH' s1=>?_) ?_ (λi H' x H2 hi s1 hpl hy=>?_) (λys H' s1 hp' hlen hys=>?_)
  ·obtain⟨q,z,e1,e2,e3,e4⟩:=h;exact⟨q,z,e1,e2,e3,ex q _ e3 e4⟩
  ·exact⟨_,_,SqT.of (s1 _ _ ht),fZ (getElem?_eq_getElem hi)⟩
  ·exact⟨_,SqT.of (s1 _ _ ht),by rw[cm];exact le_refl _⟩
  ·rintro _ _ _ _ m ⟨v1,b1,p1,xs,i1,v2,c1,c2,c3,c4,v3,b3,hz,q⟩;exact⟨v1,b1,p1,xs,i1,v2,c1,c2,c3,c4,v3,b3,hz,λl hl=>m _ _ (q l hl)⟩
  ·obtain⟨rfl,hx⟩:=hy;obtain⟨z,gz,rfl⟩:=cE (hx _ (SqT.of (s1 _ _ ht)));have mz:=mem_of_getElem? gz;refine⟨rfl,_,rfl,z.1,_,_,_,rfl,rfl,SqT.of (s1 _ _ (hA z mz)),at0 z.2,_,rfl,le2,λq hq=>⟨ae hq,q,z,gz,rfl,db hpl hq,ac⟩⟩
  ·obtain⟨as,e1,e2,e3⟩:=qB (g:=λz=>[.int z.2.num,.ref z.1]) hlen hys;have e4:as.length=zs.length:=by rw[←e1,length_map]
   have e5:(as.map λa=>((Sum.inl a.2.2.num:Key),V.ref a.2.1))=cO zs:=by rw[←e1];unfold cO;rw[map_map];rfl
   refine⟨p,as.map λa=>(a.1,(Sum.inl a.2.2.num:Key),V.ref a.2.1),rfl,?_,?_,?_,?_,λd o hd=>?_⟩
   ·rw[hp',e2,map_map,map_map,map_map];rfl
   ·intro z hz;obtain⟨a,ha,rfl⟩:=mem_map.mp hz;exact(e3 a ha).2
   ·rw[length_map];omega
   ·rw[map_map];have:(as.map ((λx:Addr×Key×V=>x.2.1)∘λa=>(a.1,(Sum.inl a.2.2.num:Key),V.ref a.2.1)))=((nds zs).map (·.num)).map (Sum.inl:Int→Key):=by
     rw[←e1];unfold nds;simp only[map_map];rfl
    rw[this];unfold Nodup at hnd⊢;rw[pairwise_map];exact hnd.imp λh e=>h (by injection e)
   ·refine k d _ (s1.trans (ae hd)) ⟨o,?_⟩;rw[ac,map_map];exact congrArg (λx=>some (HO.frz o (.dK x))) e5
def oX:Sp:=λvs H Q _=>∃d k zs p,vs=[.ref d,.int k]∧kD H d zs∧At H zs∧TW.Tree1 (nds zs)∧zs.length≤100∧TW.PathTo (nds zs) k p∧∀t H',Same H H'→H' t=some (.tup (p.map V.str))→Q (.ref t) H'
theorem lO:FnScope ["nodes","number","names","at"] ["nodes","number"] (aj sA):=fsc
theorem sJ{f:Addr}{fd:FuncData}(F:Fun K "path_up" "path_up" sA f fd)(T:Txt mg):FnOk P w K mg base CX0 1 f fd ["nodes","number"] oX:=by
 obtain⟨tt,hT⟩:=T.top;refine F.ok lO (λvs H Q E h=>?_) (λcdv A outer s H vs Q E hr h=>?_)
 ·obtain⟨d,k,zs,p,rfl,_⟩:=h;rfl
 ·obtain⟨d,k,zs,p,rfl,hd,hA,hTr,hl,hp,q⟩:=h;have hnd:=cb hTr;have hpl:p.length≤100:=by have:=hp.len hTr;rw[aM]at this;omega
  refine⟨_,ah (aw (i:=2) lO.nd rfl (Or.inl rfl) (cr af)) (ah (aw (i:=3) lO.nd rfl (Or.inl rfl) (pv 1))
   (ah (nA PassesOwn.never (aX rj (pv 3) (ip (v:=.int 0) rfl hT ⟨_,rfl⟩) (be _))
    (ah (de (dN plainAttrs_list PySem.F.slot_list_append PySem.F.type_list_append bE (pv 2) (aa (aK aI (ca (bn hr) (pv 0) (pv 3) (λ_ _=>rfl)) ai (λ_ _=>rfl)) af)))
    (al (aw (i:=3) lO.nd rfl (Or.inl rfl) (aK aI (ca (bn hr) (pv 0) (pv 3) (λ_ _=>rfl)) ai (λ_ _=>rfl))))))
   (al (aH (mH rfl rfl T.tuple rfl T.reversed (pv 2)))))),?_⟩
  refine⟨zero_le _,λpn hpn=>⟨_,rfl,?_⟩⟩;dsimp only[aJ,tL];refine nC (λσ H'=>∃at' q' r,σ=[some (.ref d),some (.int k),some (.ref pn),some (.int at')]∧TW.PathTo (nds zs) at' q'∧p=q'++r∧H' pn=some (.lst (r.reverse.map V.str))∧Same H H')
   (λσ H'=>p.length-jv H' pn) ⟨k,p,[],rfl,hp,by simp,ac,ae hpn⟩ (λσ H' h=>?_) ?_
  ·obtain⟨at',q',r,rfl,hq',ep,en,s1⟩:=h;refine⟨_,rfl,rfl,_,rfl,?_⟩
   by_cases h0:at'=0
   ·subst h0;have e0:q'=[]:=hq'.zero hTr rfl;subst e0;refine cV ⟨_,rfl,pn,_,rfl,en,λt ht=>q t _ (s1.trans (ae ht)) ?_⟩;rw[ac,ep,List.nil_append,←List.map_reverse,List.reverse_reverse]
   ·have hne:decide (V.int at'=V.int 0)=false:=by simp[h0]
    rw[hne];refine gB ?_;obtain⟨z,hz,e1,q'',e2,hq''⟩:=qD hTr hq' h0;subst e1;have hdz:=(hd.same s1).get hnd hz;have hat:=s1 _ _ (hA z hz);have hrl:r.length<100:=by
     have:=congrArg length ep;rw[e2]at this;simp at this;omega
    refine⟨_,rfl,.inl ⟨rfl,_,SqL.of en⟩,_,rfl,_,rfl,d,_,rfl,hdz,z.1,_,_,_,rfl,rfl,SqT.of hat,at2 z.2,pn,_,_,rfl,rfl,en,ap (by rw[length_map,List.length_reverse];omega),?_⟩;have hpnd:pn≠d:=λe=>by
     obtain⟨o,e'⟩:=hd.same s1;rw[←e,en]at e';cases e'
    have hpnz:z.1≠pn:=λe=>by rw[e,en]at hat;cases hat
    have s2:Same H (upd H' pn (.lst (r.reverse.map V.str++[.str z.2.nm]))):=ar hpn s1;refine⟨_,rfl,_,rfl,d,_,rfl,(hd.same s2).get hnd hz,z.1,_,_,_,rfl,rfl,SqT.of (s2 _ _ (hA z hz)),at1 z.2,?_⟩;refine⟨⟨z.2.par,q'',z.2.nm::r,rfl,hq'',by rw[ep,e2];simp,by rw[ac];simp,s2⟩,?_⟩;show p.length-jv _ pn<p.length-jv H' pn;rw[jw ac,jw en,ep,e2];simp;omega
  ·rintro σ H1 Q1 Q2 m ⟨v,e,h2,b,e3,q⟩;exact⟨v,e,h2,b,e3,m _ _ q⟩
theorem sK{A:Around}{k:Nat}(hr:Room k A):A.units+8<cLine:=lt_of_le_of_lt (Nat.add_le_add_left (by decide:8≤64) _) hr.units
structure Wl(H:Hp)(zs:ZN)(cs:List Cp):Prop where
 at':∀c∈cs,ky H c
 up:cs.Pairwise (λa b=>HT.bi a.p b.p=true)
 mem:∀p n,(∃c∈cs,c.p=p∧c.n=n)↔∃z∈zs,z.2.num=n∧TW.PathTo (nds zs) n p
structure Cps(H:Hp)(zs:ZN)(cs:List Cp):Prop where
 at':∀c∈cs,ky H c
 nums:cs.map (·.n)=(nds zs).map (·.num)
 path:∀c∈cs,TW.PathTo (nds zs) c.n c.p
theorem sL{H:Hp}{p:Addr}{zs:ZN}{ys:List V}(hlen:ys.length=zs.length)(h:∀(i:Nat) y,ys[i]?=some y→∃q t z pa,zs[i]?=some z∧y=.ref q∧q≠p∧t≠p∧H q=some (.tup [.ref t,.int z.2.num])∧H t=some (.tup (pa.map V.str))∧TW.PathTo (nds zs) z.2.num pa):
  ∃cs:List Cp,ys=cs.map (λc=>V.ref c.a)∧Cps H zs cs∧∀c∈cs,c.a≠p∧c.t≠p:=by
 have main:∀(ys:List V)(xs:ZN),ys.length=xs.length→(∀(i:Nat) y,ys[i]?=some y→∃q t z pa,xs[i]?=some z∧y=.ref q∧q≠p∧t≠p∧H q=some (.tup [.ref t,.int z.2.num])∧H t=some (.tup (pa.map V.str))∧TW.PathTo (nds zs) z.2.num pa) →
   ∃cs:List Cp,ys=cs.map (λc=>V.ref c.a)∧(∀c∈cs,ky H c∧TW.PathTo (nds zs) c.n c.p∧c.a≠p∧c.t≠p)∧cs.map (·.n)=(nds xs).map (·.num):=by
  intro ys
  induction ys with
  |nil =>
   intro xs hl _;have:xs=[]:=length_eq_zero_iff.mp hl.symm;subst this;exact⟨[],rfl,by simp,rfl⟩
  |cons y ys ih =>
   intro xs hl h;cases xs with
   |nil=>simp at hl
   |cons x xs =>
    obtain⟨cs,e1,e2,e3⟩:=ih xs (by simpa using hl) λi y hy=>by simpa using h (i+1) y (by simpa using hy)
    obtain⟨q,t,z,pa,f1,f2,f3,f4,f5,f6,f7⟩:=h 0 y rfl;have:x=z:=by simpa using f1
    subst this;refine⟨⟨q,t,pa,x.2.num⟩::cs,by simp[e1,f2],λc hc=>?_,by simp[nds]at e3⊢;exact e3⟩;rcases mem_cons.mp hc with rfl|hc
    ·exact⟨⟨f5,f6⟩,f7,f3,f4⟩
    ·exact e2 c hc
 obtain⟨cs,e1,e2,e3⟩:=main ys zs hlen h;exact⟨cs,e1,⟨λc hc=>(e2 c hc).1,e3,λc hc=>(e2 c hc).2.1⟩,λc hc=>(e2 c hc).2.2⟩
theorem Cps.paths_nd{H:Hp}{zs:ZN}{cs:List Cp}(h:Cps H zs cs)(T:TW.Tree1 (nds zs)):(cs.map (·.p)).Nodup:=by
 have hn:(cs.map (·.n)).Nodup:=by rw[h.nums];exact cb T
 unfold Nodup at hn⊢;rw[pairwise_map]at hn⊢;have hp:=h.path;clear h
 induction cs with
 |nil=>exact .nil
 |cons c cs ih =>
  rw[pairwise_cons]at hn⊢;refine⟨λd hd e=>hn.1 d hd ?_,ih hn.2 λx hx=>hp x (by simp[hx])⟩;have h1:=hp c (by simp);have h2:=hp d (by simp[hd]);rw[←e]at h2;exact h1.key T h2
theorem Cps.wl{H:Hp}{zs:ZN}{cs cs':List Cp}(h:Cps H zs cs)(T:TW.Tree1 (nds zs))(hp:cs'.Perm cs)(hs:cs'.Pairwise (λa b=>HT.bi a.p b.p=true)):Wl H zs cs':=by
 refine⟨λc hc=>h.at' c (hp.mem_iff.mp hc),hs,λp n=>?_⟩;constructor
 ·rintro⟨c,hc,rfl,rfl⟩;have hc':=hp.mem_iff.mp hc;have:c.n∈(nds zs).map (·.num):=by rw[←h.nums];exact mem_map.mpr ⟨c,hc',rfl⟩
  obtain⟨n,hn,e⟩:=mem_map.mp this;obtain⟨z,hz,rfl⟩:=mem_map.mp hn;exact⟨z,hz,e,h.path c hc'⟩
 ·rintro⟨z,hz,rfl,hpa⟩;have:z.2.num∈cs.map (·.n):=by rw[h.nums];exact mem_map.mpr ⟨z.2,mem_map.mpr ⟨z,hz,rfl⟩,rfl⟩
  obtain⟨c,hc,e⟩:=mem_map.mp this;refine⟨c,hp.mem_iff.mpr hc,?_,e⟩;have:=h.path c hc;rw[e]at this;exact this.uniq T hpa
def ik:Sp:=λvs H Q _=>∃t zs,vs=[.ref t]∧Tre H t zs∧∀cs l H',Same H H'→Wl H' zs cs→cs.length=zs.length→H' l=some (.lst (cs.map λc=>V.ref c.a))→Q (.ref l) H'
theorem rq:FnScope ["tree","nodes"] ["tree"] (aj qE):=fsc
theorem sM{f:Addr}{fd:FuncData}(F:Fun K "walked" "walked" qE f fd)(T:Txt mg)(CB:Has P w K mg base 1 "by_number" ["tree"] lN)(CU:Has P w K mg base 1 "path_up" ["nodes","number"] oX):
  FnOk P w K mg base CX0 2 f fd ["tree"] ik:=by
 obtain⟨fB,fdB,GB,mB,kB,bB⟩:=CB;obtain⟨fU,fdU,GU,mU,kU,bU⟩:=CU;refine F.ok rq (λvs H Q E h=>?_) (λcdv A outer s H vs Q E hr h=>?_)
 ·obtain⟨t,zs,rfl,_⟩:=h;rfl
 ·obtain⟨t,zs,rfl,tr,k⟩:=h;have hnd:=cb tr.tr;have hl:=tr.len;refine⟨_,ah (aw (i:=1) rq.nd rfl (Or.inr rfl) (am GB hr rfl mB kB bB .nil aC (aa (pv 0) af)))
   (al (aH (aO (fm (sK hr)) rfl T.sorted boot_sorted (aa (cg (N:=["number","nodes"]) (cl:=[("nodes",s.heap.objs.size+1)]) (k:=1) (js:=[1]) (g:=aJ 0) rfl
     (LcOk.mk' ["nodes"] rfl rfl (by decide +kernel) (by decide +kernel) ?hcl rfl (by decide +kernel)) rfl ?hj
    (ug (pv 1)) (λs H fp=>ao (i:=0) (show(["number","nodes"]:List Str).Nodup by decide +kernel) rfl (Or.inl rfl) (Or.inr rfl))
    (λs H fp=>bD (aa (am (X:=cR _ _ _ _ _ _ _) GU hr rfl mU kU bU .nil aC (aa (pv 1) (aa (pv 0) af))) (aa (pv 0) af)))) af)))),?_⟩
  case hcl =>
   intro y hy;rcases mem_cons.mp hy with e|hy
   ·rw[e];rfl
   ·cases hy
  case hj =>
   intro i j x h1 h2
   match i,h1,h2 with
   |0,h1,h2 =>
    cases h1;cases h2;exact⟨rfl,Or.inr (Or.inl rfl),(show((aj qE).names.lookup ("nodes":Str)≠some NameKind.local)by decide +kernel),by first|exact Or.inl rfl|exact Or.inr rfl⟩
   |i+1,h1,h2=>simp at h1
  refine⟨_,rfl,t,zs,rfl,tr.tup,tr.nod,by omega,hnd,λd H1 s1 nd1=>?_⟩;obtain⟨o,ho⟩:=id nd1;have tr1:=tr.same s1;refine⟨_,rfl,d,o,_,rfl,ho,λp hp=>?_⟩;refine kA (fr:=[some (.ref d)]) zs.length (by omega) hp rfl (λi y H'=>∃q t z pa,zs[i]?=some z∧y=.ref q∧q≠p∧t≠p∧H' q=some (.tup [.ref t,.int z.2.num])∧H' t=some (.tup (pa.map V.str))∧TW.PathTo (nds zs) z.2.num pa) (λi y H1 H2 h ex=>?_) (λi H' hi s2=>?_) (λH' s2=>?_) ?_ (λi H' x H2 hi s2 hpl hy=>?_) (λys H' s2 hp' hlen hys=>?_)
  ·obtain⟨q,t,z,pa,e1,e2,e3,e4,e5,e6,e7⟩:=h;exact⟨q,t,z,pa,e1,e2,e3,e4,ex q _ e3 e5,ex t _ e4 e6,e7⟩
  ·exact⟨s2 _ _ ho,by simpa [cO]using hi⟩
  ·exact⟨s2 _ _ ho,by simp[cO]⟩
  ·rintro _ _ _ _ m ⟨v1,b1,v2,b2,d',k',zs',pa,c1,c2,c3,c4,c5,c6,q⟩;refine⟨v1,b1,v2,b2,d',k',zs',pa,c1,c2,c3,c4,c5,c6,λt' H' st ht=>?_⟩;obtain⟨v3,b3,hz,q'⟩:=q t' H' st ht;exact⟨v3,b3,hz,λl hl=>m _ _ (q' l hl)⟩
  ·obtain⟨rfl,hx⟩:=hy;have gz:zs[i]?=some zs[i]:=getElem?_eq_getElem hi;have ex:x=.int zs[i].2.num:=by
    unfold cO at hx;rw[getElem?_map,getElem?_map,gz]at hx;exact(Option.some.inj hx).symm
   subst ex;have mz:=mem_of_getElem? gz;generalize zs[i]=z at gz mz⊢;obtain⟨pa,hpa⟩:=TW.PathTo.ex tr.tr (mem_map.mpr ⟨z,mz,rfl⟩:z.2∈nds zs);have s12:=s1.trans s2;refine⟨rfl,_,rfl,_,rfl,d,_,zs,pa,rfl,nd1.same s2,tr.nod.same s12,tr.tr,by omega,hpa,λt' H4 s4 ht'=>?_⟩;have hpl4:∃ys,H4 p=some (.lst ys):=let⟨ys,e⟩:=hpl;⟨ys,s4 _ _ e⟩;have htp:t'≠p:=λe=>by obtain⟨ys,e'⟩:=hpl4;rw[←e,ht']at e';cases e'
   refine⟨_,rfl,le2,λq hq=>⟨s4.trans (ae hq),q,t',z,pa,gz,rfl,db hpl4 hq,htp,ac,bX hq ht',hpa⟩⟩
  ·obtain⟨cs,e1,e2,e3⟩:=sL (p:=p) hlen hys;subst e1;have hcl:cs.length=zs.length:=by rw[←hlen,length_map]
   refine⟨p,cs,rfl,hp',e2.at',e2.paths_nd tr.tr,by omega,λcs' hpm hup q hq=>?_⟩;have s3:=ae (o:=.lst (cs'.map λc=>V.ref c.a)) hq;have wl:=e2.wl tr.tr hpm hup;refine k cs' q _ ((s1.trans s2).trans s3) ⟨λc hc=>?_,wl.up,wl.mem⟩ (hpm.length_eq.trans hcl) ac;obtain⟨g1,g2⟩:=wl.at' c hc;exact⟨s3 _ _ g1,s3 _ _ g2⟩
end
structure Pq where
 a:Addr
 t:Addr
 p:List Str
 z:Addr×Nd
def mY(H:Hp)(x:Pq):Prop:=H x.a=some (.tup [.ref x.t,.ref x.z.1])∧H x.t=some (.tup (x.p.map V.str))
def wtQ(xs:List Pq):List Wt:=xs.map λx=>(x.p,x.z.2)
section
variable{P:Program}{w:World}{K:PySem.W.Frag}{mg:Str→Option Value}{base:Heap}
def qQ:Sp:=λvs H Q _=>∃t zs,vs=[.ref t]∧Tre H t zs∧∀(xs:List Pq)(l:Addr)(H':Hp),Same H H'→(∀x∈xs,mY H' x∧x.z∈zs)→Wk (nds zs) (wtQ xs)→xs.length≤60→H' l=some (.lst (xs.map λx=>V.ref x.a))→Q (.ref l) H'
theorem um:FnScope ["tree","nodes"] ["tree"] (aj br):=fsc
theorem uo{f:Addr}{fd:FuncData}(F:Fun K "walked_nodes" "walked_nodes" br f fd)(CB:Has P w K mg base 1 "by_number" ["tree"] lN)(CW:Has P w K mg base 2 "walked" ["tree"] ik):FnOk P w K mg base CX0 3 f fd ["tree"] qQ:=by
 obtain⟨fB,fdB,GB,mB,kB,bB⟩:=CB;obtain⟨fW,fdW,GW,mW,kW,bW⟩:=CW;refine F.ok um (λvs H Q E h=>?_) (λcdv A outer s H vs Q E hr h=>?_)
 ·obtain⟨t,zs,rfl,_⟩:=h;rfl
 ·obtain⟨t,zs,rfl,tr,q⟩:=h;have hr1:Room 1 _:=hr.mono (by decide);refine⟨_,ah (aw (i:=1) um.nd rfl (Or.inr rfl) (am GB hr1 rfl mB kB bB .nil aC (aa (pv 0) af)))
   (al (aH (cg (N:=["path","number","nodes"]) (cl:=[("nodes",s.heap.objs.size+1)]) (k:=2) (js:=[1]) (g:=jR K 2 (cx (aJ 0) (cx (aJ 1) jQ))) rfl
    (LcOk.mk' ["nodes"] rfl rfl (by decide +kernel) (by decide +kernel) ?hcl rfl (by decide +kernel)) rfl ?hj
    (bc (am GW hr rfl mW kW bW .nil aC (aa (pv 0) af)))
    (λs H fp=>cq (n:=2) rfl (az (ao (i:=0) (show(["path","number","nodes"]:List Str).Nodup by decide +kernel) rfl (Or.inl rfl) (Or.inr rfl)) (az (ao (i:=1) (show(["path","number","nodes"]:List Str).Nodup by decide +kernel) rfl (Or.inl rfl) (Or.inr rfl)) bM)))
    (λs H fp=>bD (aa (pv 0) (aa (ca (bn hr) (pv 2) (pv 1) (λ_ _=>rfl)) af)))))),?_⟩
  case hcl =>
   intro y hy;rcases mem_cons.mp hy with e|hy
   ·rw[e];rfl
   ·cases hy
  case hj =>
   intro i j x h1 h2
   match i,h1,h2 with
   |0,h1,h2 =>
    cases h1;cases h2;exact⟨rfl,Or.inr (Or.inl rfl),(show((aj br).names.lookup ("nodes":Str)≠some NameKind.local)by decide +kernel),by first|exact Or.inl rfl|exact Or.inr rfl⟩
   |i+1,h1,h2=>simp at h1
  have hl:=tr.len;have hnd:=cb tr.tr;refine⟨_,rfl,t,zs,rfl,tr.tup,tr.nod,by omega,hnd,λd H1 s1 nd1=>?_⟩;have tr1:=tr.same s1;refine⟨_,rfl,t,zs,rfl,tr1,λcs l H2 s2 wl hcl0 hl2=>?_⟩;have nd2:=nd1.same s2;have hcl:cs.length≤60:=by omega
  refine⟨l,rfl,⟨_,SqL.of hl2⟩,λp hp=>?_⟩;refine oS (fr:=[some (.ref d)]) cs (λc=>V.ref c.a) (by omega) hp (cn (SqL.of hl2)) ⟨[none,none],rfl,rfl⟩ (λc y H'=>∃q z,y=.ref q∧q≠p∧z∈zs∧z.2.num=c.n∧H' q=some (.tup [.ref c.t,.ref z.1])) (λc y H H' h ex=>?_) (λc σ0 H' kk hσ mc s3 hpl hk=>?_) (λys H' s3 hp' hys=>?_)
  ·obtain⟨q,z,e1,ne,h1,h2,h3⟩:=h;exact⟨q,z,e1,ne,h1,h2,ex q _ ne h3⟩
  ·obtain⟨x0,x1,rfl⟩:=sv hσ;obtain⟨h1,h2⟩:=wl.at' c mc;obtain⟨z,hz,ez,_⟩:=(wl.mem c.p c.n).mp ⟨c,mc,rfl,rfl⟩;refine⟨c.a,_,rfl,SqT.of (s3 _ _ h1),rfl,_,_,rfl,_,_,rfl,rfl,?_⟩;have hg:=(nd2.same s3).get hnd hz;rw[ez]at hg;refine⟨_,rfl,_,rfl,_,rfl,d,_,rfl,hg,le2,λq hq=>?_⟩;exact hk _ _ _ ⟨[some (.ref c.t),some (.int c.n)],rfl,rfl⟩ (ae hq) ⟨q,z,rfl,db hpl hq,hz,ez,ac⟩
  ·obtain⟨bs,e1,e2,e3⟩:=ce (val:=λx:Pq=>V.ref x.a) (S:=λ(c:Cp) (x:Pq)=>mY H' x∧x.z∈zs∧x.z.2.num=c.n∧x.p=c.p) hys (λc y mc ⟨q,z,e,_,hz,ez,h⟩=>⟨⟨q,c.t,c.p,z⟩,e,⟨h,s3 _ _ (wl.at' c mc).2⟩,hz,ez,rfl⟩);have eb:∀b∈bs,b.2.z.2.num=b.1.n∧b.2.p=b.1.p:=λb hb=>⟨(e3 b hb).2.2.1,(e3 b hb).2.2.2⟩;refine q (bs.map (·.2)) p H' ((s1.trans s2).trans s3) (λx hx=>?_) ⟨?_,λp n=>?_⟩ (by rw[length_map];have:=congrArg length e1;rw[length_map]at this;omega) (by rw[hp',e2,map_map];rfl)
   ·obtain⟨b,hb,rfl⟩:=mem_map.mp hx;exact⟨(e3 b hb).1,(e3 b hb).2.1⟩
   ·unfold wtQ;rw[map_map,pairwise_map];have:=wl.up;rw[←e1,pairwise_map]at this;exact Pairwise.imp_of_mem (λ{a b} ha hb h=>by show HT.bi a.2.p b.2.p=true;rw[(eb a ha).2,(eb b hb).2];exact h) this
   ·unfold wtQ;rw[map_map,mem_map];constructor
    ·rintro⟨b,hb,e⟩;injection e with ea eb'
     have ec:b.1∈cs:=by rw[←e1];exact mem_map.mpr ⟨b,hb,rfl⟩
     obtain⟨z,hz,ez,hpt⟩:=(wl.mem b.1.p b.1.n).mp ⟨b.1,ec,rfl,rfl⟩;have h1:=(e3 b hb).2.1;refine⟨by rw[←eb'];exact bT h1,?_⟩;rw[←ea,←eb',(eb b hb).1,(eb b hb).2];exact hpt
    ·rintro⟨hn,hpt⟩;obtain⟨z,hz,rfl⟩:=bY hn;obtain⟨c,hc,ep,en⟩:=(wl.mem p z.2.num).mpr ⟨z,hz,rfl,hpt⟩;rw[←e1]at hc;obtain⟨b,hb,rfl⟩:=mem_map.mp hc;refine⟨b,hb,?_⟩;have h2:=tr.tr.inj (bT (e3 b hb).2.1) (bT hz) ((eb b hb).1.trans en);show(b.2.p,b.2.z.2)=(p,z.2);rw[(eb b hb).2,ep,h2]
end
end TK
namespace L2
open PySem PySem.Spec PyProof.Rows
section
variable{X:Cx}
end
end L2
namespace TK
open PySem L2
theorem qR(o:Option Int):dM (stV o)=true:=by cases o<;>rfl
theorem kL(H:Hp)(n:Nd)(k:Nat):∀(i:Nat) x y,(vals n)[i]?=some x→(vals n)[i]?=some y→jq H k x y:=λi x y h1 h2=>by
 have e:x=y:=Option.some.inj (h1.symm.trans h2);subst e;refine cj ⟨rfl,?_⟩
 match i,h1 with
 |0,h=>cases h;rfl
 |1,h=>cases h;rfl
 |2,h=>cases h;rfl
 |3,h=>cases h;exact qR _
 |i+4,h=>simp[vals]at h
theorem fe{H:Hp}{us ws:ZN}(h:nds us=nds ws)(hu:At H us)(hw:At H ws):ck H (aU us) (aU ws):=by
 refine⟨by rw[cm,cm,←aM us,←aM ws,h],λi x y hx hy=>?_⟩;obtain⟨a,ga,rfl⟩:=cE hx;obtain⟨b,gb,rfl⟩:=cE hy;have e:a.2=b.2:=by
  have h1:(nds us)[i]?=some a.2:=by unfold nds;rw[getElem?_map,ga];rfl
  have h2:(nds ws)[i]?=some b.2:=by unfold nds;rw[getElem?_map,gb];rfl
  rw[h,h2]at h1;exact(Option.some.inj h1).symm
 refine .inr ⟨a.1,b.1,_,_,rfl,rfl,hu a (mem_of_getElem? ga),hw b (mem_of_getElem? gb),rfl,?_⟩;rw[e];exact kL H b.2 2
end TK
namespace L2
open PySem PySem.Spec PyProof.Rows
section
variable{X:Cx}{tg:Expr}
end
end L2
namespace L2
open PySem PyProof PyProof.Rows
section
variable{X:Cx}{pos:Pos}
end
end L2
namespace L2
open PySem PySem.Spec PyProof.Rows
section
variable{CX:CXT}{P:Program}{w:World}{K:PySem.W.Frag}{mg:Str→Option Value}{base:Heap}{k:Nat}{f c:Addr}{name qual:Str}{params:Arguments}{body:Expr}{scope:Scope}{cl:List (Str×Addr)}{pm ctv:Value}{ps fs:List Str}{fv:List V}{sp:Sp}
end
section
variable{X:Cx}{pins:List (Addr×Obj)}{σ:St}{H:Hp}{s:Shared}
end
section
variable{CX:CXT}{P:Program}{w:World}{K:PySem.W.Frag}{mg:Str→Option Value}{base:Heap}{k:Nat}{f c:Addr}{name qual:Str}{params:Arguments}{body:Expr}{scope:Scope}{cl:List (Str×Addr)}{pm ctv:Value}{ps fs:List Str}{fv:List V}{sp:Sp}
end
section
variable{P:Program}{w:World}{H:Hp}{fs:List Addr}{s s1:Shared}
variable{K:PySem.W.Frag}{mg:Str→Option Value}{base:Heap}{A:Around}{outer:List Env}{k:Nat}{f:Addr}{fd:FuncData}{y:Str}{spK:Sp}{key:V→Str}
end
section
variable{X:Cx}
end
section
variable{P:Program}{w:World}{H:Hp}{s s1:Shared}{K:PySem.W.Frag}{mg:Str→Option Value}{base:Heap}{A:Around}{outer:List Env}{k:Nat}{f:Addr}{fd:FuncData}{y:Str}{spK:Sp}{key:V→Int}
end
section
variable{X:Cx}
end
theorem mZ(a d:Value):argsOk "max" ⟨[a],[(ofString "default",d)]⟩:=by unfold argsOk;kernel_rfl
def GrI(ns:List Int)(n:Nat)(b:Int):Prop:=(∃i,i<n∧ns[i]?=some b)∧∀(j:Nat) x,j<n→ns[j]?=some x→x≤b
section
variable{P:Program}{w:World}{A:Around}{s:Shared}{l I S:Addr}{ns:List Int}{its:List Value}
theorem na(hh:A.handled=none)(hl:s.heap.IsList l its.toArray)(rv:aq (ns.map V.int) its)(hlI:l≠I)(hI:s.heap.objs.size≤I)(hS:s.heap.objs.size≤S)(hSI:S≠I){kw:List (Str×Value)}{R:Result→Shared→Prop}(hR:∀b t h tk,GrI ns ns.length b→(∀x o,s.heap.get? x=some o→h.get? x=some o)→R (.ok (.ret (.int b t))) {s with heap:=h,toks:=tk}):
  ∀(r j:Nat)(h:Heap)(tk:Nat)(b:Int)(tb:Tok)(c:Nat),ns.length-(j+1)=r→j+1≤ns.length→(∀x o,s.heap.get? x=some o→h.get? x=some o)→h.get? S=some (seqObj "list" #[.int b tb,.int b tb] c)→h.IsListIter I l (j+1)→GrI ns (j+1) b →
   codeAny (model P w) A (.builtin "max.loop" ⟨[.ref I,.none,.ref S],kw⟩) R {s with heap:=h,toks:=tk}:=by
 have hname:(toString "max"++toString ".loop":String)="max.loop":=by decide
 have hlen:its.length=ns.length:=by rw[←rv.length,length_map]
 have hsz:its.toArray.size=ns.length:=by rw[size_toArray];exact hlen
 have old:∀{h h':Heap},(∀x o,s.heap.get? x=some o→h.get? x=some o)→(∀b o,b∉[I]→h.get? b=some o→h'.get? b=some o)→∀x o,s.heap.get? x=some o→h'.get? x=some o:=λk k' x o e=>k' x o (by simpa using ne_of_lt (lt_of_lt_of_le (lt_size e) hI)) (k x o e)
 have oldS:∀{h:Heap}{g:Array Value→Array Value},(∀x o,s.heap.get? x=some o→h.get? x=some o)→∀x o,s.heap.get? x=some o→(h.update S (Obj.mapSeq g)).get? x=some o:=λ{h g} k x o e=>((SameBut.update h S (Obj.mapSeq g)).2 x (ne_of_lt (lt_of_lt_of_le (lt_size e) hS))).trans (k x o e);have hls:∀{h:Heap},(∀x o,s.heap.get? x=some o→h.get? x=some o)→h.IsList l its.toArray:=λk=>let⟨o,e,r⟩:=hl;⟨o,k _ _ e,r⟩;intro r
 induction r with
 |zero =>
  intro j h tk b tb c hr' hj kp nS hit hb;have hin:j+1=ns.length:=by omega
  have W:=Walks.list (prog:=P) (w:=w) (A:=A.in1) hh I l hlI its.toArray;refine codeAny_builtin entry_max_loop ?_;rw[Around.under_plainId plain_max_loop _];show wpAny _ A.in1 (seqItems? (.ref S) >>= _) _ _ _;refine wpAny_bind (wpAny_seqItems nS rfl ?_);show wpAny _ A.in1 (tryCatch (pyNext (.ref I)) _ >>= _) _ _ _;refine wpAny_bind (wpAny_tryCatch (W.done _ _ _ ⟨by rw[hsz,←hin];exact hit,hls kp⟩ λh' tk' hk'=>?_));have hS':=hk' S _ (by simpa using hSI) nS;show wpAny _ A.in1 (updateSeq S (λ_=>#[]) >>= _) _ _ _;refine wpAny_bind ?_;refine wpAny_updateSeq hS' rfl (wpAny_bind (wpAny_letGo (wpAny_pure ?_)));exact hR b tb _ _ (by rw[←hin];exact hb) (oldS (old kp hk'))
 |succ r ih =>
  intro j h tk b tb c hr' hj kp nS hit hb;have hlt:j+1<ns.length:=by omega
  have W:=Walks.list (prog:=P) (w:=w) (A:=A.in1) hh I l hlI its.toArray;refine codeAny_builtin entry_max_loop ?_;rw[Around.under_plainId plain_max_loop _];show wpAny _ A.in1 (seqItems? (.ref S) >>= _) _ _ _;refine wpAny_bind (wpAny_seqItems nS rfl ?_);show wpAny _ A.in1 (tryCatch (pyNext (.ref I)) _ >>= _) _ _ _;refine wpAny_bind (wpAny_tryCatch (W.item (j+1) _ _ _ (by rw[hsz];exact hlt) ⟨hit,hls kp⟩ λv h' tk' hP hst' hk'=>?_));have hv:its[j+1]?=some v:=by simpa using hP
  have hxj:ns[j+1]?=some ns[j+1]:=getElem?_eq_getElem hlt;obtain⟨v',hv',t2,ev'⟩:=rv.get (i:=j+1) (x:=.int ns[j+1]) (by rw[getElem?_map,hxj];rfl);have ev:v=.int ns[j+1] t2:=by rw[hv]at hv';rw[←ev'];exact Option.some.inj hv'
  subst ev;generalize ns[j+1]=x' at hxj;obtain⟨oI',hoI',hoc,hod⟩:=id hst'.1;have hS':=hk' S _ (by simpa using hSI) nS;have kp':=old kp hk';show wpAny _ A.in1 ((pure (Value.int x' t2):Sem Value) >>= _) _ _ _;refine wpAny_bind (wpAny_pure ?_);show wpAny _ A.in1 (tryCatch (holding [.int x' t2,.int x' t2] (richCompare .Gt (.int x' t2) (.int b tb) >>= _)) _ >>= _) _ _ _;refine wpAny_bind (wpAny_tryCatch (wpAny_holding (wpAny_bind (CmpOf.ints_gt (prog:=P) (w:=w) (A:=A.in1) (P:=λi v=>∃t,v=.int (if i=0 then x' else b) t) (λi=>if i=0 then x' else b) (λi v h=>h) 0 1 _ _ _ _ _ ⟨t2,rfl⟩ ⟨tb,rfl⟩ ?_))));refine wpAny_bind (wpAny_holding (wpAny_truthy_bool ?_));refine wpAny_bind (wpAny_letGo (wpAny_pure ?_))
  by_cases hb':x'>b
  ·have s1':=SameBut.update h' S (Obj.mapSeq λ_=>#[.int x' t2,.int x' t2]);obtain⟨c2,hc2⟩:∃c2,(h'.update S (Obj.mapSeq λ_=>#[.int x' t2,.int x' t2])).get? S=some (seqObj "list" #[.int x' t2,.int x' t2] c2):=⟨_,get?_update_seq hS' λ_=>#[.int x' t2,.int x' t2]⟩;have hif:((λi j:Nat=>decide ((if i=0 then x' else b)>(if j=0 then x' else b))) 0 1)=true:=decide_eq_true (by simpa using hb');rw[if_pos hif];refine wpAny_bind ?_;refine wpAny_updateSeq hS' rfl (wpAny_bind (wpAny_letGo ?_));rw[hname];refine wpAny_pure ⟨plainId_quiet plain_max_loop _,ih (j+1) _ _ x' t2 c2 (by omega) hlt (oldS kp') hc2 ⟨oI',(s1'.2 I hSI.symm).trans hoI',hoc,hod⟩ ⟨⟨j+1,by omega,hxj⟩,λj' x hj' hx=>?_⟩⟩
   by_cases e:j'=j+1
   ·subst e;rw[hxj]at hx;cases hx;exact Int.le_refl _
   ·have:=hb.2 j' x (by omega) hx;omega
  ·have hif:¬((λi j:Nat=>decide ((if i=0 then x' else b)>(if j=0 then x' else b))) 0 1)=true:=by
    rw[show((λi j:Nat=>decide ((if i=0 then x' else b)>(if j=0 then x' else b))) 0 1)=false from decide_eq_false (by simpa using hb')];simp
   rw[if_neg hif];refine wpAny_bind (wpAny_letGo ?_);rw[hname];obtain⟨⟨i,hi,hbi⟩,hmax⟩:=hb;refine wpAny_pure ⟨plainId_quiet plain_max_loop _,ih (j+1) _ _ b tb c (by omega) hlt kp' hS' ⟨oI',hoI',hoc,hod⟩ ⟨⟨i,by omega,hbi⟩,λj' x hj' hx=>?_⟩⟩
   by_cases e:j'=j+1
   ·subst e;rw[hxj]at hx;cases hx;omega
   ·exact hmax j' x (by omega) hx
end
def rA(td:TE)(σ:St)(Q:VK):List V→Hp→Prop
 |[v],H1=>∃l,∃ns:List Int,v=.ref l∧H1 l=some (.lst (ns.map V.int))∧td σ H1 λdv H2=>H2 l=some (.lst (ns.map V.int))∧(ns=[]→Q dv H2)∧∀b,GrI ns ns.length b→Q (.int b) H2
 |_,_=>False
def uq(te td:TE):TE:=λσ H Q=>te σ H λv H1=>rA td σ Q [v] H1
section
variable{X:Cx}
theorem qS{p dpos pos:Pos}{e ed:Expr}{te td:TE}(hcm:X.calm=true)(hg:Gl X "max")(hm:X.mg "max"=none)(he:PE X e te)(hd:PE X ed td)(hse:starEach [e] X.env=(false,eval e X.env)::starEach [] X.env:=by rfl)(hpl:(backTo pos (starEach [e] X.env)).any (·.1)=false:=by rfl):
  PE X (.Call (.Name "max" p) [e] [⟨some "default",ed,dpos⟩] pos) (uq te td):=by
 intro pins s σ H Q I h;refine wpAny_Call_Name_kw (cI I hg hm boot_max ?_ (by decide) (by decide));refine PyProof.Rows.callWith_kw ?_ (by rw[hse];rfl) hpl rfl rfl;refine thn (aa he af hse pos pins s σ H (rA td σ Q) I h) λus s1 hpt=>?_;obtain⟨vs,H1,I1,r,q0⟩:=hpt;obtain⟨v,rfl⟩:∃v,vs=[v]:=by
  match vs,q0 with
  |[v],_=>exact⟨v,rfl⟩
 obtain⟨l,ns,rfl,hl,q⟩:=q0;obtain⟨u,rfl,ru⟩:=cy r;cases ru;show wpAny _ _ (evalAll [(do let v ← eval ed X.env;standAt pos;pure v)]) _ _ s1;refine wpAny_evalAll_cons (wpAny_bind (thn (hd _ s1 σ H1 _ I1 q) λdu s3 ⟨dv,H2,J3,rd,hl2,q1,q2⟩=>wpAny_bind (wpAny_standAt (wpAny_pure (wpAny_evalAll_nil ?_)))));show wpAny _ _ (call (.builtin "max") [.ref l] [("default",du)]) _ _ s3;have hname:(toString "max"++toString ".loop":String)="max.loop":=by decide
 have hh:=J3.ok.hd hcm;obtain⟨_,its,n,rv,hol⟩:=J3.hok l _ hl2;have hls:s3.heap.IsList l its.toArray:=⟨_,hol,rfl,n,rfl⟩;have hll:l<s3.heap.objs.size:=lt_size hol;refine kmk_tree PySem.F.kind_max PySem.F.plain_max PySem.F.entry_max (mZ _ _) ?_;show wpAny _ X.A.in1 (Builtin.Builtins.bindParams "max" ["key","default"] 0 ⟨[],[(ofString "default",du)]⟩ >>= _) _ _ s3;refine wpAny_bind (wpAny_of_eq (show Builtin.Builtins.bindParams "max" ["key","default"] 0 ⟨[],[(ofString "default",du)]⟩=pure [none,some du]from rfl) ?_);refine wpAny_bind (wpAny_pure ?_);refine wpAny_bind (wpAny_pyIter_list hls ?_);refine wpAny_bind (wpAny_newList ?_ (zero_le _));rw[hname];have hS:(s3.heap.push {cls:=.type "list_iterator",data:=.fields #[.ref l,.int 0 0]}).objs.size=s3.heap.objs.size+1:=size_push' ..;rw[hS];have gI:((s3.heap.push {cls:=.type "list_iterator",data:=.fields #[.ref l,.int 0 0]}).push (seqObj "list" #[] 0)).get? s3.heap.objs.size=some {cls:=.type "list_iterator",data:=.fields #[.ref l,.int 0 0]} :=
  get?_push_of_some _ (get?_push_size _ rfl)
 have gS:((s3.heap.push {cls:=.type "list_iterator",data:=.fields #[.ref l,.int 0 0]}).push (seqObj "list" #[] 0)).get? (s3.heap.objs.size+1)=some (seqObj "list" #[] 0):=by
  rw[←hS];exact get?_push_size _ rfl
 have kp0:∀b o,s3.heap.get? b=some o→((s3.heap.push {cls:=.type "list_iterator",data:=.fields #[.ref l,.int 0 0]}).push (seqObj "list" #[] 0)).get? b=some o:=λb o e=>get?_push_of_some _ (get?_push_of_some _ e);have hlI:l≠s3.heap.objs.size:=ne_of_lt hll;have hSI:s3.heap.objs.size+1≠s3.heap.objs.size:=ne_of_gt (Nat.lt_succ_self _);refine wpAny_pure ⟨plainId_quiet plain_max_loop _,?_⟩;have W:=Walks.list (prog:=X.prog) (w:=X.w) (A:=X.A.in1) hh s3.heap.objs.size l hlI its.toArray;have hlen:its.length=ns.length:=by rw[←rv.length,length_map]
 have hsz':its.toArray.size=ns.length:=by rw[size_toArray];exact hlen
 refine codeAny_builtin entry_max_loop ?_;rw[Around.under_plainId plain_max_loop _];show wpAny _ X.A.in1 (seqItems? (.ref _) >>= _) _ _ _;refine wpAny_bind (wpAny_seqItems gS rfl ?_);show wpAny _ X.A.in1 (tryCatch (pyNext (.ref s3.heap.objs.size)) _ >>= _) _ _ _;have hst:((s3.heap.push {cls:=.type "list_iterator",data:=.fields #[.ref l,.int 0 0]}).push (seqObj "list" #[] 0)).IsListIter s3.heap.objs.size l 0∧((s3.heap.push {cls:=.type "list_iterator",data:=.fields #[.ref l,.int 0 0]}).push (seqObj "list" #[] 0)).IsList l its.toArray:=⟨⟨_,gI,rfl,rfl⟩,(hls.push _).push _⟩;have low:∀{h':Heap},(∀b o,b∉[s3.heap.objs.size]→((s3.heap.push {cls:=.type "list_iterator",data:=.fields #[.ref l,.int 0 0]}).push (seqObj "list" #[] 0)).get? b=some o→h'.get? b=some o)→∀b o,s3.heap.get? b=some o→h'.get? b=some o:=λk b o e=>k b o (by simpa using ne_of_lt (lt_size e)) (kp0 b o e)
 cases ns with
 |nil =>
  have hz:its.toArray.size=0:=hsz';refine wpAny_bind (wpAny_tryCatch (W.done _ _ _ (by rw[hz];exact hst) λh' tk' hk'=>?_));refine wpAny_bind (wpAny_rule (wpAny_pure ?_));exact⟨dv,H2,J3.kept (t':=tk') (low hk'),rd,q1 rfl⟩
 |cons x0 xr =>
  refine wpAny_bind (wpAny_tryCatch (W.item 0 _ _ _ (by rw[hsz'];simp) hst λv h' tk' hP hst' hk'=>?_));have hv:its[0]?=some v:=by simpa using hP
  obtain⟨v',hv',t2,ev'⟩:=rv.get (i:=0) (x:=.int x0) rfl;have ev:v=.int x0 t2:=by rw[hv]at hv';rw[←ev'];exact Option.some.inj hv'
  subst ev;obtain⟨oI',hoI',hoc,hod⟩:=id hst'.1;have hS':=hk' (s3.heap.objs.size+1) _ (by simpa using hSI) gS;show wpAny _ X.A.in1 ((pure (Value.int x0 t2):Sem Value) >>= _) _ _ _;refine wpAny_bind (wpAny_pure ?_);have s1':=SameBut.update h' (s3.heap.objs.size+1) (Obj.mapSeq λ_=>#[.int x0 t2,.int x0 t2]);obtain⟨c2,hc2⟩:∃c2,(h'.update (s3.heap.objs.size+1) (Obj.mapSeq λ_=>#[.int x0 t2,.int x0 t2])).get? (s3.heap.objs.size+1)=some (seqObj "list" #[.int x0 t2,.int x0 t2] c2):=⟨_,get?_update_seq hS' λ_=>#[.int x0 t2,.int x0 t2]⟩;show wpAny _ X.A.in1 (updateSeq (s3.heap.objs.size+1) (λ_=>#[.int x0 t2,.int x0 t2]) >>= _) _ _ _;refine wpAny_bind ?_;refine wpAny_updateSeq hS' rfl ?_;rw[hname];refine wpAny_pure ⟨plainId_quiet plain_max_loop _,na (s:=s3) hh hls rv hlI (le_refl _) (le_succ _) hSI (λb t h tk hb kp=>⟨.int b,H2,J3.kept (t':=tk) kp,⟨t,rfl⟩,q2 b hb⟩) _ 0 _ _ x0 t2 c2 rfl (by simp) (λb o e=>(s1'.2 b (ne_of_lt (lt_succ_of_lt (lt_size e)))).trans (low hk' b o e)) hc2 ⟨oI',(s1'.2 _ hSI.symm).trans hoI',hoc,hod⟩ ⟨⟨0,Nat.zero_lt_succ _,rfl⟩,λj' x hj' hx=>?_⟩⟩;have e:j'=0:=by omega
  subst e;cases hx;exact Int.le_refl _
end
end L2
namespace PySem
open Sem (wp)
open AutoSeq1 (wpAny_loadPart')
open AutoSeq1 (wpAny_loadPart')
section
variable{prog:Program}{w:World}{A:Around}{E:Value→Shared→Prop}{s:Shared}
end
end PySem
namespace L2
open PySem PySem.Spec PyProof.Rows
section
variable{X:Cx}{tg:Expr}
end
end L2
namespace TK
open PySem L2
def nums(zs:ZN):List Int:=zs.map λz=>z.2.num
section
variable{P:Program}{w:World}{K:PySem.W.Frag}{mg:Str→Option Value}{base:Heap}
def oY:Sp:=λvs H Q _=>∃t zs,vs=[.ref t]∧H t=some (.tup (aU zs))∧At H zs∧zs.length≤60∧∀b H',Same H H'→((zs=[]∧b=0)∨GrI (nums zs) (nums zs).length b)→Q (.int b) H'
theorem ut:FnScope ["tree"] ["tree"] (aj bu):=fsc
theorem sN{f:Addr}{fd:FuncData}(F:Fun K "greatest_number" "greatest_number" bu f fd)(T:Txt mg):FnOk P w K mg base CX0 1 f fd ["tree"] oY:=by
 refine F.ok ut (λvs H Q E h=>?_) (λcdv A outer s H vs Q E hr h=>?_)
 ·obtain⟨t,zs,rfl,_⟩:=h;rfl
 ·obtain⟨t,zs,rfl,ht,hA,hl,q⟩:=h;refine⟨_,al (aH (qS rfl rfl T.max (cg (N:=["node"]) (cl:=[]) (k:=1) (js:=[]) (g:=aJ 0) rfl (ci rfl (by decide +kernel) (by decide +kernel) (by decide +kernel)) rfl (λi j x h=>by simp at h) (eJ (pv 0)) (λs H fp=>ao (i:=0) (show(["node"]:List Str).Nodup by decide +kernel) rfl (Or.inl rfl) (Or.inr rfl))
    (λs H fp=>aK (r:=cu K) aI (pv 0) ai (λ_ _=>rfl))) ai)),?_⟩
  refine⟨_,rfl,t,rfl,⟨_,SqT.of ht⟩,λp hp=>?_⟩;refine cM (fr:=[]) zs (λz=>V.ref z.1) (by omega) hp (fu (by rw[cF];exact SqT.of ht)) rfl (λz y _=>y=.int z.2.num) (λ_ _ _ _ h _=>h) (λz H' kk mz s1 _ hk=>?_) (λys H1 s1 hp1 hys=>?_)
  ·exact⟨_,rfl,z.1,_,_,_,rfl,rfl,SqT.of (s1 _ _ (hA z mz)),at0 z.2,hk _ H' (Same.refl _) rfl⟩
  ·have ey:=bI (f:=λz:Addr×Nd=>V.int z.2.num) hys (λz y _ h=>h);have e:ys=(nums zs).map V.int:=by rw[ey];unfold nums;rw[map_map];rfl
   rw[e]at hp1;refine⟨p,nums zs,rfl,hp1,hp1,λh0=>q 0 H1 s1 (.inl ⟨List.map_eq_nil_iff.mp h0,rfl⟩),λb hb=>q b H1 s1 (.inr hb)⟩
end
def reN(g:Int→Int)(n:Nd):Nd:=⟨g n.num,g n.par,n.nm,n.st⟩
section
variable{P:Program}{w:World}{K:PySem.W.Frag}{mg:Str→Option Value}{base:Heap}
def oZ:Sp:=λvs H Q _=>∃t d zs kvs g,vs=[.ref t,.ref d]∧H t=some (.tup (aU zs))∧At H zs∧zs.length≤60∧H d=some (.dK kvs)∧(∀z∈zs,aE kvs (Sum.inl z.2.num:Key)=some (.int (g z.2.num))∧aE kvs (Sum.inl z.2.par:Key)=some (.int (g z.2.par)))∧(zs.map λz=>g z.2.num).Nodup ∧
 ∀us t' H',Same H H'→H' t'=some (.tup (aU us))→At H' us→(nds us).Perm ((nds zs).map (reN g))→TW.cD (nds us)→Q (.ref t') H'
theorem uu:FnScope ["tree","numbers"] ["tree","numbers"] (aj bv):=fsc
theorem sO{f:Addr}{fd:FuncData}(F:Fun K "with_numbers" "with_numbers" bv f fd)(T:Txt mg):FnOk P w K mg base CX0 1 f fd ["tree","numbers"] oZ:=by
 refine F.ok uu (λvs H Q E h=>?_) (λcdv A outer s H vs Q E hr h=>?_)
 ·obtain⟨t,d,zs,kvs,g,rfl,_⟩:=h;rfl
 ·obtain⟨t,d,zs,kvs,g,rfl,ht,hA,hl,hd,hg,hnd,q⟩:=h;refine⟨_,al (aH (aD bQ rfl T.tuple rfl (aa (aO bq rfl T.sorted boot_sorted (aa (cg (N:=["node","numbers"]) (cl:=[("numbers",s.heap.objs.size+1)]) (k:=1) (js:=[1]) (g:=aJ 0) rfl
    (LcOk.mk' ["numbers"] rfl rfl (by decide +kernel) (by decide +kernel) ?hcl rfl (by decide +kernel)) rfl ?hj (eJ (pv 0)) (λs H fp=>ao (i:=0) (show(["node","numbers"]:List Str).Nodup by decide +kernel) rfl (Or.inl rfl) (Or.inr rfl))
    (λs H fp=>aF (r:=nH K) ly (bD (aa (ca (bn hr) (pv 1) (aK (r:=cu K) aI (pv 0) ai (λ_ _=>rfl)) (λ_ _=>rfl)) (aa (ca (bn hr) (pv 1) (aK (r:=cu K) aI (pv 0) ai (λ_ _=>rfl)) (λ_ _=>rfl)) af))) (dJ (r:=nG K) iy (pv 0) (dI ai) ix))) af)) af))),?_⟩
  case hcl =>
   intro y hy;rcases mem_cons.mp hy with e|hy
   ·rw[e];rfl
   ·cases hy
  case hj =>
   intro i j x h1 h2
   match i,h1,h2 with
   |0,h1,h2 =>
    cases h1;cases h2;exact⟨rfl,Or.inr (Or.inl rfl),(show((aj bv).names.lookup ("numbers":Str)≠some NameKind.local)by decide +kernel),by first|exact Or.inl rfl|exact Or.inr rfl⟩
   |i+1,h1,h2=>simp at h1
  refine⟨_,rfl,t,rfl,⟨_,SqT.of ht⟩,λp hp=>?_⟩;refine cM (fr:=[some (.ref d)]) zs (λz=>V.ref z.1) (by omega) hp (fu (by rw[cF];exact SqT.of ht)) rfl (λz y H'=>∃q,y=.ref q∧q≠p∧H' q=some (.tup (vals (reN g z.2)))) (λz y H H' ⟨q,e,ne,h⟩ ex=>⟨q,e,ne,ex q _ ne h⟩) (λz H' k mz s1 hpl hk=>?_) (λys H' s1 hp' hys=>?_)
  ·obtain⟨g1,g2⟩:=hg z mz;have hd1:=s1 _ _ hd;have hz1:=s1 _ _ (hA z mz);have d1:bA H' d (.int z.2.num) (some (.int (g z.2.num))):=by rw[←g1];exact bA.k (k:=Sum.inl z.2.num) hd1
   have d2:bA H' d (.int z.2.par) (some (.int (g z.2.par))):=by rw[←g2];exact bA.k (k:=Sum.inl z.2.par) hd1
   refine⟨_,rfl,_,rfl,z.1,_,_,_,rfl,rfl,SqT.of hz1,at0 z.2,d,_,rfl,d1,?_⟩;refine⟨_,rfl,_,rfl,z.1,_,_,_,rfl,rfl,SqT.of hz1,at1 z.2,d,_,rfl,d2,le2,λc hc=>?_⟩;have s2:=ae (o:=.tup [.int (g z.2.num),.int (g z.2.par)]) hc;have ecut:iV (vals z.2) (some 2) none=[.str z.2.nm,stV z.2.st]:=rfl;refine⟨_,rfl,_,rfl,z.1,_,rfl,SqT.of (s2 _ _ hz1),(by intro h;exact absurd h.1 (show ¬HT.sIx 4 0 (some 2)=0 by decide)),λt' ht'=>?_⟩;rw[ecut];have s3:=s2.trans (ae (o:=.tup [.str z.2.nm,stV z.2.st]) ht');refine⟨c,t',_,_,rfl,rfl,SqT.of (bX ht' ac),SqT.of ac,by simp,(show 4≤sizeLine from bh (by decide)),λh=>absurd h (List.cons_ne_nil _ _),λ_ q hq=>?_⟩;have hpl3:∃ys,upd (upd H' c (.tup [.int (g z.2.num),.int (g z.2.par)])) t' (.tup [.str z.2.nm,stV z.2.st]) p=some (.lst ys):=let⟨ys,e⟩:=hpl;⟨ys,s3 _ _ e⟩;exact hk _ _ (s3.trans (ae hq)) ⟨q,rfl,db hpl3 hq,ac⟩
  ·obtain⟨cs,e1,e2,e3⟩:=ce (val:=V.ref) (S:=λ(z:Addr×Nd) (q:Addr)=>H' q=some (.tup (vals (reN g z.2)))) hys (λz y _ ⟨q,e,_,h⟩=>⟨q,e,h⟩);have er:ys=aU (cs.map λx=>(x.2,reN g x.1.2)):=by rw[e2,←cF,map_map];rfl
   have en:nds (cs.map λx=>(x.2,reN g x.1.2))=(nds zs).map (reN g):=by rw[←e1];unfold nds;rw[map_map,map_map,map_map];rfl
   have hcl:cs.length=zs.length:=by rw[←e1,length_map]
   have hsq:SqL K H' p (aU (cs.map λx=>(x.2,reN g x.1.2))):=SqL.of (by rw[hp',er]);refine fb (K:=K) (H:=H') (l:=p) (zs:=cs.map λx=>(x.2,reN g x.1.2)) (Q:=Q) (.inl hsq) (λz hz=>?_) ?_ (by rw[length_map];omega) (λus t' H2 s2 ht' hA' hpm hrise=>?_)
   ·obtain⟨x,hx,rfl⟩:=mem_map.mp hz;exact e3 x hx
   ·rw[en,map_map];unfold nds;rw[map_map];exact hnd
   ·refine q us t' H2 (s1.trans s2) ht' hA' ?_ hrise;have:(nds us).Perm (nds (cs.map λx=>(x.2,reN g x.1.2))):=hpm.map _;rw[en]at this;exact this
end
end TK
namespace L2
open PySem PySem.Spec PyProof.Rows
section
variable{X:Cx}
def sP(x:Int)(tv:TE):TE:=λσ H Q=>∀p,H p=none→tv σ (upd H p (.dK [])) λv H1=>H1 p=some (.dK [])∧Q (.ref p) (upd H1 p (.dK [((Sum.inl x:Key),v)]))
theorem jH{x:Int}{ke ve:Expr}{tv:TE}{pos:Pos}(hk:PE X ke (tC (.int x)))(hv:PE X ve tv):PE X (.Dict [some ke] [ve] pos) (sP x tv):=by
 intro pins s σ H Q I h;refine wpAny_Dict_pairs (knd:=ak X.prog X.w) (pairs:=[(eval ke X.env,do let x ← eval ve X.env;standAt pos;pure x)]) rfl (by simp) (by show 1≤15;decide) ?_;have I0:Inv X pins σ (upd H s.heap.objs.size (.dK [])) {s with heap:=s.heap.push {cls:=.type "dict",data:=.dict #[]}}:=I.laid (a:=s.heap.objs.size) (o:=.dK []) (t':=s.toks) (λ_ _ q=>get?_push_of_some _ q) (le_refl _) (ja s.heap I.big)
 have h0:=h _ (I.hok.fresh (le_refl _));refine evalPairs_cons (thn (hk pins _ σ _ (λy H1=>y=.int x∧H1=upd H s.heap.objs.size (.dK [])) I0 ⟨rfl,rfl⟩) λkv s1 hpt=>?_);obtain⟨y,H1,I1,ry,q1⟩:=hpt;obtain⟨rfl,rfl⟩:=q1;refine wpAny_bind (thn (hv pins s1 σ _ _ I1 h0) λvv s2 ⟨v,H2,I2,rv,e2,q⟩=>wpAny_bind (wpAny_standAt (wpAny_pure (evalPairs_nil ?_))));obtain⟨z,hd,vs,rel,dd⟩:=nK I2.hok e2;cases rel;refine⟨[((Sum.inl x:Key),vv)],⟨dh (k:=(Sum.inl x:Key)) ry,rfl,trivial⟩,dd,λh' dd' hs=>⟨.ref s.heap.objs.size,_,?_,rfl,q⟩⟩;have he:∃q,h'.get? s.heap.objs.size=some q:=let⟨q,_,_,hq,_⟩:=dd';⟨q,hq⟩;have hl:(cz ([]:List (Key×V)) (Sum.inl x:Key) v).length≤sizeLine:=le_of_lt (ap (show 1≤1000 by decide));exact fo I2 (by rw[e2];exact True.intro) hs he (iz hl hd (KV.put (kvs:=[]) (vs:=[]) .nil (Sum.inl x:Key) rv) dd')
end
end L2
namespace PySem
open Sem (wp)
open AutoSeq1 (wpAny_loadPart')
theorem ET.new(l:Addr)(items:Array Value)(n:Nat)(dct:Option Addr)(sl:Array (Option Value)):
  Meets (Builtin.«enumerate.__new__» ⟨[.type "enumerate",.ref l],[]⟩) (λ_ R s=>s.heap.get? l=some {cls:=.type "tuple",dict:=dct,data:=.seq items n,slots:=sl} ∧
   R (.ok (.ret (.ref (s.heap.push {cls:=.type "tuple_iterator",data:=.fields #[.ref l,.int 0 0]}).objs.size)))
    {s with heap:=(s.heap.push {cls:=.type "tuple_iterator",data:=.fields #[.ref l,.int 0 0]}).push {cls:=.type "enumerate",data:=.fields #[.none,.bool false,.ref s.heap.objs.size,rawInt 0,.none,.none]}}) :=
 .of_wp λprog w A R s h=>by
  obtain⟨hp,g,d,tk,os⟩:=s;obtain⟨hl,h⟩:=h;have hsub:=sub_enumerate;have hL:Heap.IsTuple (Shared.heap ⟨hp,g,d,tk,os⟩) l items:=⟨_,hl,rfl,n,rfl⟩
  wp_walk using wpAny_loadPart' hl
  refine wpAny_stack_any λst=>wpAny_pure ?_
  split
  ·rename_i c _ _ _ _ _
   cases (c==Value.type "enumerate")
   ·wp_walk using wpAny_loadPart' hl,wpAny_pyIter_tuple hL
    exact⟨_,rfl,h⟩
   ·wp_walk using wpAny_loadPart' hl,wpAny_pyIter_tuple hL
    exact⟨_,rfl,h⟩
  ·wp_walk using wpAny_loadPart' hl,wpAny_pyIter_tuple hL
   exact⟨_,rfl,h⟩
theorem ET.call{prog:Program}{w:World}{A:Around}{E:Value→Shared→Prop}{s:Shared}{l:Addr}{items:Array Value}{Q:Value→Shared→Prop}(hL:s.heap.IsTuple l items)(h:∀h',IsEnum h' (s.heap.objs.size+1) s.heap.objs.size 0 .none→h'.IsTupleIter s.heap.objs.size l 0→h'.objs.size=s.heap.objs.size+2 →
   (∀b o,s.heap.get? b=some o→h'.get? b=some o)→Q (.ref (s.heap.objs.size+1)) {s with heap:=h'}):
  wpAny (model prog w) A (call (.type "enumerate") [.ref l]) Q E s:=by
 obtain⟨⟨c,dct,dt,sl⟩,hl,hc,n,hd⟩:=hL
 replace hc:c=.type "tuple":=hc
 replace hd:dt=.seq items n:=hd
 subst hc hd;refine callType_new F.called_enumerate (by decide) (F.typeCall_enumerate_1 _) (F.newCall_enumerate_1 _) (λobj=>F.args_object_init_2 obj _) F.entry_enumerate_new
  (ET.new l items n dct sl) ⟨hl,?_⟩
 have hz:(s.heap.push {cls:=.type "tuple_iterator",data:=.fields #[.ref l,.int 0 0]}).objs.size=s.heap.objs.size+1:=size_push ..;show _∧_;rw[hz];have he:IsEnum ((s.heap.push {cls:=.type "tuple_iterator",data:=.fields #[.ref l,.int 0 0]}).push
   {cls:=.type "enumerate",data:=.fields #[.none,.bool false,.ref s.heap.objs.size,rawInt 0,.none,.none]}) (s.heap.objs.size+1) s.heap.objs.size 0 .none:=by
  have:=get?_push_size (s.heap.push {cls:=.type "tuple_iterator",data:=.fields #[.ref l,.int 0 0]})
   (o:={cls:=.type "enumerate",data:=.fields #[.none,.bool false,.ref s.heap.objs.size,rawInt 0,.none,.none]}) rfl
  rw[hz]at this;exact this
 exact⟨⟨_,he,rfl⟩,h _ he ⟨_,get?_push_of_some _ (get?_push_size _ rfl),rfl,rfl⟩ (by rw[size_push,hz]) λb o x=>get?_push_of_some _ (get?_push_of_some _ x)⟩
section
variable{prog:Program}{w:World}{A:Around}{E:Value→Shared→Prop}{s:Shared}
theorem ET.next{e it l:Addr}{i:Nat}{c:Int}{items:Array Value}{x old:Value}{Q:Option Value→Shared→Prop}(he:IsEnum s.heap e it c old)(hit:s.heap.IsTupleIter it l i)(hl:s.heap.IsTuple l items)(hx:items[i]?=some x)(hne:e≠it)(hQ:∀h',IsEnumOut h' e it (c+1) x s.heap.objs.size→h'.IsTupleIter it l (i+1) →
   h'.get? s.heap.objs.size=some {cls:=.type "tuple",data:=.seq #[.int c s.toks,x]}→h'.objs.size=s.heap.objs.size+1 →
   (∀b o,b≠e→b≠it→s.heap.get? b=some o→h'.get? b=some o)→Q (some (.ref s.heap.objs.size)) {s with heap:=h',toks:=s.toks+1}):
  wpAny (model prog w) A (pyNext (.ref e)) Q E s:=by
 have hT:s.TypeIs (.ref e) "enumerate":=⟨_,he,rfl⟩;unfold pyNext;refine wpAny_bind (wpAny_attempt (wpAny_callSpecial?_slot (name:=ofString "__next__") hT F.slot_enumerate_next (wpAny_call_entry F.slot_enumerate_next hT F.entry_enumerate_next ?_ (F.args_enumerate_next_1 _))));obtain⟨hp,g,d,tk,os⟩:=s;show wpAny _ _ (field (.ref e) 2 >>= _) _ _ _;refine wpAny_bind (wpAny_field he rfl (x:=.ref it) rfl (wpAny_bind (ZT.kq hit hl hx λh1 it1 sb1=>?_)))
 replace sb1:SameBut it hp h1:=sb1
 have e1:IsEnum h1 e it c old:=(sb1.2 e hne).trans he;show wpAny _ _ (field (.ref e) 3 >>= _) _ _ ⟨h1,g,d,tk,os⟩;refine wpAny_bind (wpAny_field e1 rfl (x:=rawInt c) rfl ?_);show wpAny _ _ (field (.ref e) 4 >>= _) _ _ ⟨h1,g,d,tk,os⟩;refine wpAny_bind (wpAny_field e1 rfl (x:=.none) rfl ?_);show wpAny _ _ (mkInt c >>= _) _ _ ⟨h1,g,d,tk,os⟩;refine wpAny_bind (wpAny_mkInt ?_);show wpAny _ _ (setField (.ref e) 3 (rawInt (c+1)) >>= _) _ _ ⟨h1,g,d,tk+1,os⟩;refine wpAny_bind (wpAny_setField_rec e1 (by simp) λh2 e2 sb2=>?_)
 replace sb2:SameBut e h1 h2:=sb2
 replace e2:IsEnum h2 e it (c+1) old:=e2
 show wpAny _ _ (setField (.ref e) 4 .none >>= _) _ _ ⟨h2,g,d,tk+1,os⟩;refine wpAny_bind (wpAny_setField_rec e2 (by simp) λh3 e3 sb3=>?_)
 replace sb3:SameBut e h2 h3:=sb3
 replace e3:IsEnum h3 e it (c+1) old:=e3
 have z3:h3.objs.size=hp.objs.size:=by rw[sb3.1,sb2.1,sb1.1]
 have it3:h3.IsTupleIter it l (i+1):=(it1.extBut sb2.extBut (symm hne)).extBut sb3.extBut (symm hne);have k3:∀b o,b≠e→b≠it→hp.get? b=some o→h3.get? b=some o:=λb o n1 n2 hb=>sb3.extBut b o n1 (sb2.extBut b o n1 (sb1.extBut b o n2 hb));show wpAny _ _ (newTuple [.int c tk,x] >>= _) _ _ ⟨h3,g,d,tk+1,os⟩;refine wpAny_bind (wpAny_newTuple ?_);have e4:IsEnum (h3.push {cls:=.type "tuple",data:=.seq #[.int c tk,x]}) e it (c+1) old:=get?_push_of_some _ e3;have t4:(h3.push {cls:=.type "tuple",data:=.seq #[.int c tk,x]}).get? hp.objs.size=some {cls:=.type "tuple",data:=.seq #[.int c tk,x]}:=by rw[←z3];exact get?_push_size _ rfl
 have z4:(h3.push {cls:=.type "tuple",data:=.seq #[.int c tk,x]}).objs.size=hp.objs.size+1:=by rw[size_push,z3]
 have k4:∀b o,h3.get? b=some o→(h3.push {cls:=.type "tuple",data:=.seq #[.int c tk,x]}).get? b=some o:=λb o hb=>get?_push_of_some _ hb;rw[z3];generalize h3.push {cls:=.type "tuple",data:=.seq #[.int c tk,x]}=h4 at e4 t4 z4 k4⊢;have ne4:hp.objs.size≠e:=ne_of_gt (lt_size he);show wpAny _ _ (Builtin.SmallTypes.ownedTupleIsFree (.ref e) >>= _) _ _ ⟨h4,g,d,tk+1,os⟩;refine wpAny_bind ?_;unfold Builtin.SmallTypes.ownedTupleIsFree;refine wpAny_bind (wpAny_field e4 rfl (x:=.none) rfl (wpAny_pure ?_));simp only[if_true];refine wpAny_bind (wpAny_rule (wpAny_bind (wpAny_field e4 rfl (x:=old) rfl (wpAny_bind (wpAny_setField_rec e4 (by simp) λh5 e5 sb5=>?_)))))
 replace sb5:SameBut e h4 h5:=sb5
 replace e5:IsEnum h5 e it (c+1) x:=e5
 show wpAny _ _ (Builtin.SmallTypes.ownedTupleHandOut (.ref e) (.ref hp.objs.size) >>= _) _ _ ⟨h5,g,d,tk+1,os⟩;refine wpAny_bind ?_;unfold Builtin.SmallTypes.ownedTupleHandOut;refine wpAny_bind (wpAny_setField_rec e5 (by simp) λh6 e6 sb6=>?_)
 replace sb6:SameBut e h5 h6:=sb6
 replace e6:IsEnumOut h6 e it (c+1) x hp.objs.size:=e6
 refine wpAny_setField_rec e6 (by simp) λh7 e7 sb7=>?_
 replace sb7:SameBut e h6 h7:=sb7
 replace e7:IsEnumOut h7 e it (c+1) x hp.objs.size:=e7
 have up:∀b o,b≠e→h4.get? b=some o→h7.get? b=some o:=λb o n hb=>sb7.extBut b o n (sb6.extBut b o n (sb5.extBut b o n hb));refine wpAny_bind (wpAny_letGo (wpAny_pure ⟨_,rfl,wpAny_pure (hQ h7 e7 ?_ (up _ _ ne4 t4) (by rw[sb7.1,sb6.1,sb5.1,z4]) λb o n1 n2 hb=>up b o n1 (k4 b o (k3 b o n1 n2 hb)))⟩));obtain⟨o,ho,r⟩:=it3;exact⟨o,up _ _ (symm hne) (k4 _ _ ho),r⟩
theorem ET.stop{e it l:Addr}{i:Nat}{c:Int}{items:Array Value}{old:Value}{Q:Option Value→Shared→Prop}(hh:A.handled=none)(he:IsEnum s.heap e it c old)(hit:s.heap.IsTupleIter it l i)(hl:s.heap.IsTuple l items)(hx:items[i]?=none)(hQ:∀h',ExtBut it s.heap h'→Q none {s with heap:=h'}):wpAny (model prog w) A (pyNext (.ref e)) Q E s:=by
 have hT:s.TypeIs (.ref e) "enumerate":=⟨_,he,rfl⟩;unfold pyNext;refine wpAny_bind (wpAny_attempt (wpAny_callSpecial?_slot (name:=ofString "__next__") hT F.slot_enumerate_next (wpAny_call_entry F.slot_enumerate_next hT F.entry_enumerate_next ?_ (F.args_enumerate_next_1 _))));show wpAny _ _ (field (.ref e) 2 >>= _) _ _ _;refine wpAny_bind (wpAny_field he rfl (x:=.ref it) rfl (wpAny_bind (ZT.my hh hit hl hx λh' x he' hpt=>?_)));obtain⟨o,ho,hc⟩:=hpt;exact wpAny_bind (wpAny_isInstance (T:="StopIteration") (b:=true) ⟨o,ho,hc⟩ isSubtype_stop (wpAny_pure (hQ _ he')))
end
end PySem
namespace L2
open PySem PySem.Spec PyProof.Rows
section
variable{X:Cx}{tg:Expr}
def Itn(K:PySem.W.Frag)(a:Addr)(c0:Int):It :=
 ⟨λi H=>∃xs x,SqT K H a xs∧xs[i]?=some x,λi H v H'=>∃p x,H p=none∧v=.ref p∧(∀xs,SqT K H a xs→xs[i]?=some x)∧H'=upd H p (.tup [.int (c0+i),x]),λi H=>∃xs,SqT K H a xs∧xs.length≤i⟩
theorem kM{P:Program}{w:World}{K:PySem.W.Frag}{es:List Expr}{k:Nat}{p0:Pos}(e it a:Addr)(c0:Int)(nei:e≠it):
  Turn P w K (.Tuple es k p0) (Itn K a c0) [e,it] e (λi h=>(∃old,IsEnum h e it (c0+i) old)∧h.IsTupleIter it a i) where
 mem:=by simp
 obj:=λi h R c hc=>by
  obtain⟨⟨old,z1⟩,o2,z2,_,z2'⟩:=R;simp only[mem_cons,not_mem_nil,or_false]at hc;rcases hc with rfl|rfl
  ·exact⟨_,z1,λv z=>nomatch z⟩
  ·exact⟨_,z2,λv z=>by rw[z2']at z;cases z⟩
 keep:=λi h h' R kp=>by
  obtain⟨⟨old,z1⟩,o2,z2,r2⟩:=R;exact⟨⟨old,kp _ (by simp) _ z1⟩,o2,kp _ (by simp) _ z2,r2⟩
 item:=by
  intro X hP hw hK hc i pins s σ H E I hf st hg;subst hP hw hK;obtain⟨xs,x,hq,hx⟩:=hg;obtain⟨its,rv,k1,_⟩:=I.tuple hq;obtain⟨u1,hu1,ru1⟩:=rv.get hx;obtain⟨⟨old,he⟩,hit⟩:=st;refine ET.next he hit k1 (x:=u1) (by simpa using hu1) nei λg ho hit' new hsz kp=>⟨_,rfl,?_⟩;refine wpAny_letOwnedTupleGo_enum ho λg' z' sb=>?_;have nz:s.heap.objs.size≠e:=ne_of_gt (lt_size he);have kpO:∀c o,c∉[e,it]→s.heap.get? c=some o→g'.get? c=some o:=λc o hn q=>(sb.2 c λz=>hn (by simp[z])).trans (kp c o (λz=>hn (by simp[z])) (λz=>hn (by simp[z])) q);have hnot:∀c o,H c=some o→c∉[e,it]:=λc o q hm=>by rw[(hf c hm).1]at q;cases q
  have nsz:∀c o,s.heap.get? c=some o→c≠s.heap.objs.size:=λc o q=>ne_of_lt (lt_size q);have trk:∀c o,H c=some o→c≠s.heap.objs.size:=λc o q=>ne_of_lt (I.hok.lt q);have new':g'.get? s.heap.objs.size=some {cls:=.type "tuple",data:=.seq #[.int (c0+i) s.toks,u1]}:=(sb.2 _ nz).trans new;have R2:(∃old,IsEnum g' e it (c0+((i+1:Nat):Int)) old)∧g'.IsTupleIter it a (i+1):=by
   refine⟨⟨u1,?_⟩,?_⟩
   ·have:c0+((i+1:Nat):Int)=c0+i+1:=by omega
    rw[this];exact z'
   ·obtain⟨o,h1,h2⟩:=hit';exact⟨o,(sb.2 it (symm nei)).trans h1,h2⟩
  have okH:HOk X.prog X.w (upd H s.heap.objs.size (.tup [.int (c0+i),x])) g':=λc o q=>by
   by_cases ec:c=s.heap.objs.size
   ·subst ec;rw[ac]at q;cases q;exact⟨by show 2≤sizeLine;rw[sizeLine_eq];decide,[.int (c0+i) s.toks,u1],.cons ⟨_,rfl⟩ (.cons ru1 .nil),⟨_,new',rfl,0,rfl⟩⟩
   ·rw[ag ec]at q;refine(I.hok c o q).stay (λd v hd q'=>kpO d v ?_ q') (λd q'=>by rw[ag (trk d _ q')];exact q') λd zs q'=>by rw[ag (trk d _ q')];exact q'
    rcases hd with rfl|hd
    ·exact hnot _ _ q
    ·exact hnot _ _ hd
  have I2:Inv X pins σ (upd H s.heap.objs.size (.tup [.int (c0+i),x])) {s with heap:=g',toks:=s.toks+1}:=by
   refine I.step (g':=s.gens) (t':=s.toks+1) (d':=s.drawn) (ch:=[e,it]) (λc hc'=>?_) (λc o _ _ hn q _=>kpO c o hn q) (λc o _ _ hn q _=>⟨o.slots,kpO c o hn q⟩) (λc o _ q n=>by rw[ag (nsz c o q)];exact n) (λc o hn q=>⟨o,kpO c o hn q⟩)
    (λc zs q=>by rw[ag (trk c _ q)];exact q) (λc o u q=>by rw[ag (trk c _ q)];exact q) (λc ps q=>⟨#[],by rw[ag (trk c _ q),q];simp⟩) (λm hm=>?_) okH I.bare
   ·obtain⟨f0,f1,f2,f3,f4,f5⟩:=hf c hc';exact⟨f3,f1,f4,f5⟩
   ·obtain⟨o,es',ep,ho',r⟩:=hm;exact⟨o,es',ep,kpO _ o (λhm'=>(hf _ hm').2.1 rfl) ho',r⟩
  refine⟨.ref s.heap.objs.size,_,I2,rfl,⟨s.heap.objs.size,x,I.hok.fresh (le_refl _),rfl,λzs hz=>?_,rfl⟩,R2,λc hc'=>?_⟩
  ·rw[I.tuple_inj hz hq];exact hx
  ·obtain⟨o,q⟩:∃o,s.heap.get? c=some o:=by
    simp only[mem_cons,not_mem_nil,or_false]at hc';rcases hc' with rfl|rfl
    ·exact⟨_,he⟩
    ·obtain⟨o,h1,_⟩:=hit;exact⟨o,h1⟩
   rw[ag (nsz c o q)];exact(hf c hc').1
 done:=by
  intro X hP hw hK hc i pins s σ H E I hf st hg;subst hP hw hK;obtain⟨xs,hq,hle⟩:=hg;obtain⟨its,rv,k1,_⟩:=I.tuple hq;have e1:=rv.length;obtain⟨⟨old,he⟩,hit⟩:=st;refine ET.stop (I.ok.hd hc) he hit k1 (Array.getElem?_eq_none (by simp;omega)) λg kp=>⟨rfl,?_⟩;have kpO:∀c o,c∉[e,it]→s.heap.get? c=some o→g.get? c=some o:=λc o hn q=>kp c o (λz=>hn (by simp[z])) q;have hnot:∀c o,H c=some o→c∉[e,it]:=λc o q hm=>by rw[(hf c hm).1]at q;cases q
  refine I.step (g':=s.gens) (t':=s.toks) (d':=s.drawn) (ch:=[e,it]) (λc hc'=>?_) (λc o _ _ hn q _=>kpO c o hn q) (λc o _ _ hn q _=>⟨o.slots,kpO c o hn q⟩) (λc o _ q n=>n) (λc o hn q=>⟨o,kpO c o hn q⟩)
   (λc zs q=>q) (λc o u q=>q) (λc ps q=>⟨#[],by rw[q];simp⟩) (λm hm=>?_) (λc o q=>?_) I.bare
  ·obtain⟨f0,f1,f2,f3,f4,f5⟩:=hf c hc';exact⟨f3,f1,f4,f5⟩
  ·obtain⟨o,es',ep,ho',r⟩:=hm;exact⟨o,es',ep,kpO _ o (λhm'=>(hf _ hm').2.1 rfl) ho',r⟩
  ·refine(I.hok c o q).stay (λd v hd q'=>kpO d v ?_ q') (λd q'=>q') λd zs q'=>q';rcases hd with rfl|hd
   ·exact hnot _ _ q
   ·exact hnot _ _ hd
 self:=λA i s Q E ⟨⟨old,he⟩,_⟩ hq=>wpAny_pyIter_enum he hq
theorem pb{es:List Expr}{k:Nat}{p0:Pos}{p pos:Pos}{e:Expr}{ta:TA}(hg:Gl X "enumerate")(hm:X.mg "enumerate"=none)(ha:PA X [e] ta)(hse:starEach [e] X.env=(false,eval e X.env)::starEach [] X.env:=by rfl):
  PI X (.Tuple es k p0) (.Call (.Name "enumerate" p) [e] [] pos) (λσ H R=>ta σ H λvs H1=>∃t xs,vs=[.ref t]∧SqT X.K H1 t xs∧R (Itn X.K t 0) H1):=by
 intro pins s σ H R I h;refine Call_ (cI I hg hm PyProof.Rows.boot_enumerate (PyProof.Rows.callWith_type1 (thn (ha pos pins s σ H _ I h) λus s1 ⟨vs,H1,I1,r1,q1⟩=>?_) hse rfl));obtain⟨t,xs,e,ht,q⟩:=q1;subst e;obtain⟨u,rfl,ru⟩:=cy r1;cases ru;obtain⟨its,rv,k1,_⟩:=I1.tuple ht;refine ET.call k1 λh' hE hI hsz kp=>?_;refine wpAny_pyIter_enum hE ?_;refine⟨s1.heap.objs.size+1,[s1.heap.objs.size+1,s1.heap.objs.size],_,Itn X.K t 0,H1,rfl,I1.kept (t':=s1.toks) kp,kM _ _ t 0 (Nat.succ_ne_self _),⟨⟨_,by rw[show(0:Int)+((0:Nat):Int)=0 by omega];exact hE⟩,hI⟩,λb hb=>?_,q⟩;have hle:s1.heap.objs.size≤b:=by
  simp only[mem_cons,not_mem_nil,or_false]at hb;rcases hb with rfl|rfl
  ·exact le_add_right _ _
  ·exact le_refl _
 exact I1.fpOk hle (I1.hok.fresh hle)
end
theorem nb{K:PySem.W.Frag}{a:Addr}{c:Int}{xs:List V}{g:TG}{tb:TS}{D:Ends}{σ:St}{H:Hp}(Pv:Nat→St→Hp→Prop)(h0:Pv 0 σ H)(hl:∀i σ H,i≤xs.length→Pv i σ H→SqT K H a xs)(hs:∀i x σ H p,xs[i]?=some x→Pv i σ H→H p=none→g (.ref p) σ (upd H p (.tup [.int (c+i),x])) λσ2 H2=>tb {D with nx:=Pv (i+1),ct:=Pv (i+1),bk:=D.nx} σ2 H2)(hd:∀σ H,Pv xs.length σ H→D.nx σ H):
  ∃W:Nat→Nat→St→Hp→Prop,(∃m,W 0 m σ H)∧∀i m σ H,W i m σ H →
   ((Itn K a c).stop i H∧D.nx σ H)∨((Itn K a c).go i H∧∃N:St→Hp→Prop,(∀σ' H',N σ' H'→∃m',m'<m∧W (i+1) m' σ' H')∧∀x H',(Itn K a c).yld i H x H'→g x σ H' λσ2 H2=>tb {D with nx:=N,ct:=N,bk:=D.nx} σ2 H2):=by
 refine⟨λi m σ H=>m=xs.length-i∧i≤xs.length∧Pv i σ H,⟨xs.length,by simp,zero_le _,h0⟩,?_⟩;rintro i m σ H ⟨rfl,hi,p⟩;have q:=hl i σ H hi p
 by_cases hlt:i<xs.length
 ·refine .inr ⟨⟨xs,xs[i],q,by simp[hlt]⟩,Pv (i+1),λσ' H' p'=>⟨xs.length-(i+1),by omega,rfl,hlt,p'⟩,λv H' y=>?_⟩;obtain⟨pp,x,hp,rfl,hx,rfl⟩:=y;exact hs i x σ H pp (hx xs q) p hp
 ·have e:i=xs.length:=by omega
  subst e;exact .inl ⟨⟨xs,q,le_refl _⟩,hd σ H p⟩
end L2
namespace TK
open PySem L2
section
variable{P:Program}{w:World}{K:PySem.W.Frag}{mg:Str→Option Value}{base:Heap}
def kQ(K:PySem.W.Frag):Sp:=λvs H Q _=>∃a k,vs=[.ref a,.int k]∧0≤k∧eZ K H a∧∀r H',Same H H'→Q (.int r) H'
theorem sQ:FnScope ["_law_script","_law_k"] ["_law_script","_law_k"] (aj oF):=fsc
theorem qT{f:Addr}{fd:FuncData}(F:Fun K "_law_cell" "_law_cell" oF f fd)(T:Txt mg):FnOk P w K mg base CX0 1 f fd ["_law_script","_law_k"] (kQ K):=by
 refine F.ok sQ (λvs H Q E h=>?_) (λcdv A outer s H vs Q E hr h=>?_)
 ·obtain⟨a,k,rfl,_⟩:=h;rfl
 ·obtain⟨a,k,rfl,hk,⟨ns,ea⟩,q⟩:=h;refine⟨_,ah (cQ (aX tS (pv 1) (aO bo rfl T.len boot_len (aa (pv 0) af)) (be _)) (al (aH (aK dL (pv 0) (pv 1) (λ_ _=>rfl)))) bf)
   (ah (cQ (aX (ko hr.units0) (pv 0) (cr af) (be _)) (al (aH ai)) bf)
   (al (aH (aF aW (aF cJ (aK dL (pv 0) (aF ir (pv 1) (aO bo rfl T.len boot_len (aa (pv 0) af))) (λ_ _=>rfl)) ai) (pv 1))))),?_⟩
  refine⟨_,rfl,_,rfl,a,_,rfl,.inl (ea),_,_,rfl,rfl,_,rfl,?_⟩;rw[length_map]
  by_cases h:k<(ns.length:Int)
  ·rw[decide_eq_true h];obtain⟨j,ej⟩:=jx hk h;exact gB ⟨_,rfl,_,rfl,a,_,_,_,rfl,rfl,ea,ej,q _ _ (Same.refl _)⟩
  ·rw[decide_eq_false h];refine cV ⟨_,rfl,zero_le _,λp hp=>⟨a,p,_,rfl,rfl,((ae hp).seq ea),SqL.of ac,_,rfl,?_⟩⟩
   by_cases h0:ns=[]
   ·subst h0;exact gB (q _ _ (ae hp))
   ·have hne:¬ns.map V.int=[]:=by simpa using h0
    rw[decide_eq_false hne];have hpos:0<ns.length:=List.length_pos_iff.mpr h0;have hm1:0≤k % (ns.length:Int):=emod_nonneg _ (by omega);have hm2:k % (ns.length:Int)<ns.length:=Int.emod_lt_of_pos _ (by omega);obtain⟨j,ej⟩:=jx hm1 hm2;have ej':atI (ns.map V.int) (k % ((ns.map V.int).length:Int))=some (.int j):=by rw[length_map];exact ej
    exact cV ⟨_,rfl,_,rfl,_,rfl,a,_,rfl,.inl (((ae hp).seq ea)),_,_,rfl,rfl,by rw[length_map];omega,a,_,_,_,rfl,rfl,((ae hp).seq ea),ej',_,_,rfl,rfl,.inr ⟨by decide,by decide⟩,_,rfl,_,_,rfl,rfl,q _ _ (ae hp)⟩
def iO(K:PySem.W.Frag):Sp:=λvs H Q _=>∃a k m,vs=[.ref a,.int k,.int m]∧0≤k∧0<m∧eZ K H a∧∀r H',0≤r→r<m→Same H H'→Q (.int r) H'
theorem pc:FnScope ["_law_script","_law_k","_law_many","_law_drawn"] ["_law_script","_law_k","_law_many"] (aj oG):=fsc
theorem qU{f:Addr}{fd:FuncData}(F:Fun K "_law_pick" "_law_pick" oG f fd)(T:Txt mg)(C:Has P w K mg base 1 "_law_cell" ["_law_script","_law_k"] (kQ K)):FnOk P w K mg base CX0 2 f fd ["_law_script","_law_k","_law_many"] (iO K):=by
 obtain⟨fC,fdC,GC,mC,kC,bC⟩:=C;refine F.ok pc (λvs H Q E h=>?_) (λcdv A outer s H vs Q E hr h=>?_)
 ·obtain⟨a,k,m,rfl,_⟩:=h;rfl
 ·obtain⟨a,k,m,rfl,hk,hm,hS,q⟩:=h;refine⟨_,(ah (aw (i:=3) pc.nd rfl (Or.inl rfl) (aF ir (aF cJ (aF aW (am GC hr rfl mC kC bC .nil aC (aa (pv 0) (aa (pv 1) af))) (aF cJ ai (aF aW (pv 1) ai))) ai) ai))
   (al (aH (aF ir (aF ir (aF aW (aF cJ (pv 3) (pv 3)) (aF pQ (pv 3) ai)) ai) (pv 2))))),?_⟩
  refine⟨_,rfl,_,rfl,a,k,rfl,hk,hS,λr H1 s1=>?_⟩;refine⟨_,rfl,_,_,rfl,rfl,_,_,rfl,rfl,.inl ⟨by decide,by decide⟩,_,_,rfl,rfl,_,_,rfl,rfl,.inr ⟨by decide,by decide⟩,_,_,rfl,rfl,(by decide:(0:Int)<2147483399),?_⟩;generalize hd:(r+6151*(k+1))*40692 % 2147483399=dr;have d0:0≤dr:=by rw[←hd];exact emod_nonneg _ (by decide)
  have d1:dr<2147483399:=by rw[←hd];exact Int.emod_lt_of_pos _ (by decide)
  refine⟨_,rfl,_,rfl,_,_,rfl,rfl,.inl ⟨by omega,by omega⟩,_,rfl,_,_,rfl,rfl,⟨by decide,by decide⟩,_,_,rfl,rfl,_,_,rfl,rfl,(by decide:(0:Int)<2147483629),_,rfl,_,_,rfl,rfl,hm,?_⟩;exact q _ _ (emod_nonneg _ (by omega)) (Int.emod_lt_of_pos _ hm) s1
end
def Cpl(H:Hp)(cs:List (Addr×Int×Int)):Prop:=∀c∈cs,H c.1=some (.tup [.int c.2.1,.int c.2.2])
theorem Cpl.same{H H':Hp}{cs:List (Addr×Int×Int)}(h:Cpl H cs)(s:Same H H'):Cpl H' cs:=λc hc=>s _ _ (h c hc)
def au(cs:List (Addr×Int×Int)):List V:=cs.map λc=>V.ref c.1
def cG(p:List Str):List Key:=p.map Sum.inr
theorem pd(p:List Str):(cG p).map kV=p.map V.str:=by unfold cG;rw[map_map];rfl
theorem jI{p q:List Str}(h:cG p=cG q):p=q:=by
 unfold cG at h;exact(List.map_inj_right (λa b e=>by injection e)).mp h
def qV(xs:List Pq):List (List Key×V):=xs.map λx=>(cG x.p,V.ref x.z.1)
theorem pe{xs:List Pq}{p:List Str}{r:Option V}(h:aE (qV xs) (cG p)=r):(∃x∈xs,x.p=p∧r=some (.ref x.z.1))∨((∀x∈xs,x.p≠p)∧r=none):=by
 subst h;unfold aE qV
 induction xs with
 |nil=>exact .inr ⟨λx hx=>(not_mem_nil hx).elim,rfl⟩
 |cons x xs ih =>
  rw[map_cons,find?_cons]
  by_cases e:x.p=p
  ·have:decide (cG x.p=cG p)=true:=decide_eq_true (by rw[e]);simp only[this];exact .inl ⟨x,mem_cons_self,e,rfl⟩
  ·have:decide (cG x.p=cG p)=false:=decide_eq_false λh=>e (jI h);simp only[this];rcases ih with⟨y,hy,e1,e2⟩|⟨h1,h2⟩
   ·exact .inl ⟨y,mem_cons_of_mem _ hy,e1,e2⟩
   ·refine .inr ⟨λy hy=>?_,h2⟩;rcases mem_cons.mp hy with e'|hy
    ·rw[e'];exact e
    ·exact h1 y hy
theorem qW{t:List Nd}{xs:List Pq}(h:Wk t (wtQ xs)):(xs.map (·.p)).Nodup:=by
 have:=h.up;unfold wtQ at this;rw[pairwise_map]at this;unfold Nodup;rw[pairwise_map];exact this.imp λ{a b} h e=>by rw[show a.p=b.p from e,HT.ba]at h;cases h
section
variable{P:Program}{w:World}{K:PySem.W.Frag}{mg:Str→Option Value}{base:Heap}
def pg:Sp:=λvs H Q _=>∃t u zs us,vs=[.ref t,.ref u]∧Tre H t zs∧Tre H u us∧∀l cs wo wn H',Same H H'→Wk (nds zs) wo→Wk (nds us) wn→H' l=some (.lst (au cs))→Cpl H' cs→(cs.map (·.2.1)).Nodup→(∀b a,(b,a)∈cs.map (·.2)↔Kp wo wn b a)→cs.length≤60→Q (.ref l) H'
def kbN:List Str:=["old","new","places","couples","path","node"]
theorem ph:FnScope kbN ["old","new"] (aj bJ):=fsc
theorem sR{f:Addr}{fd:FuncData}(F:Fun K "known_by_paths" "known_by_paths" bJ f fd)(T:Txt mg)(CW:Has P w K mg base 3 "walked_nodes" ["tree"] qQ):FnOk P w K mg base CX0 4 f fd ["old","new"] pg:=by
 obtain⟨fW,fdW,GW,mW,kW,bW⟩:=CW;refine F.ok ph (λvs H Q E h=>?_) (λcdv A outer s H vs Q E hr h=>?_)
 ·obtain⟨t,u,zs,us,rfl,_⟩:=h;rfl
 ·obtain⟨t,u,zs,us,rfl,tr,ur,q⟩:=h;refine⟨_,ah (aw (i:=2) ph.nd rfl (Or.inl rfl) (aD (ku rfl (dA hr)) rfl T.dict boot_dict (aa (am GW hr rfl mW kW bW .nil aC (aa (pv 1) af)) af)))
   (ah (aw (i:=3) ph.nd rfl (Or.inl rfl) (cr af))
   (ah (dn PassesOwn.never rfl (bc (am GW hr rfl mW kW bW .nil aC (aa (pv 0) af))) (cq (n:=2) rfl (az (ao (i:=4) ph.nd rfl (Or.inl rfl)) (az (ao (i:=5) ph.nd rfl (Or.inl rfl)) bM)))
    (al (cQ (PW.pt (pw_and (jP (rS (bn hr) (pv 4) (pv 2))) (pw_and1 (aX ri (iu jU (aK (r:=cu K) aI (pv 5) ai (λ_ _=>rfl)) fE (be _)) (iu jU (aK (r:=cu K) aI (ca (bn hr) (pv 2) (pv 4) (λ_ _=>rfl)) ai (λ_ _=>rfl)) fE (be _)) (be _)))))
     (al (de (dN plainAttrs_list PySem.F.slot_list_append PySem.F.type_list_append bE (pv 3) (aa (bD (aa (aK (r:=cu K) aI (pv 5) ai (λ_ _=>rfl)) (aa (aK (r:=cu K) aI (ca (bn hr) (pv 2) (pv 4) (λ_ _=>rfl)) ai (λ_ _=>rfl)) af))) af)))) bf)))
   (al (aH (pv 3))))),?_⟩
  refine⟨_,rfl,u,us,rfl,ur,λxn ln H1 s1 hxn wkn hnl hln=>?_⟩;have znl:xn.length≤1000:=by omega
  refine⟨ln,xn.map λx=>(x.a,(x.t,cG x.p),V.ref x.z.1),rfl,by rw[hln,map_map,map_map];rfl,λz hz=>?_,by rw[length_map];exact znl,?_,λd o hd=>?_⟩
  ·obtain⟨x,hx,rfl⟩:=mem_map.mp hz;obtain⟨⟨h1,h2⟩,_⟩:=hxn x hx;exact⟨h1,by rw[pd];exact h2⟩
  ·rw[map_map];have:=qW wkn;have e:(xn.map ((λz:Addr×(Addr×List Key)×V=>z.2.1.2)∘λx=>(x.a,(x.t,cG x.p),V.ref x.z.1)))=(xn.map (·.p)).map cG:=by rw[map_map];rfl
   rw[e];unfold Nodup at this⊢;rw[pairwise_map];exact this.imp λh e=>h (jI e)
  have s2:=s1.trans (ae (o:=.frz o (.dT ((xn.map λx=>(x.a,(x.t,cG x.p),V.ref x.z.1)).map λz=>(z.2.1.2,z.2.2)))) hd);have hd2:upd H1 d (.frz o (.dT ((xn.map λx=>(x.a,(x.t,cG x.p),V.ref x.z.1)).map λz=>(z.2.1.2,z.2.2)))) d=some (.frz o (.dT (qV xn))):=by rw[ac,map_map];rfl
  have hxn2:∀x∈xn,upd H1 d (.frz o (.dT ((xn.map λx=>(x.a,(x.t,cG x.p),V.ref x.z.1)).map λz=>(z.2.1.2,z.2.2)))) x.z.1=some (.tup (vals x.z.2)):=λx hx=>s2 _ _ (ur.nod x.z (hxn x hx).2);generalize upd H1 d (.frz o (.dT ((xn.map λx=>(x.a,(x.t,cG x.p),V.ref x.z.1)).map λz=>(z.2.1.2,z.2.2))))=H2 at s2 hd2 hxn2⊢;refine⟨bh (by decide),λl hl=>?_⟩;have s3:=ae (o:=.lst []) hl;have hl3:upd H2 l (.lst []) l=some (.lst (au [])):=ac;generalize upd H2 l (.lst [])=H3 at s3 hl3⊢;refine⟨_,rfl,t,zs,rfl,(tr.same s2).same s3,λxo lo H4 s4 hxo wko hol hlo=>?_⟩;have s34:=s3.trans s4;have fl2:H2 l=none:=hl;have dg:∀{H':Hp},Same H2 H'→∀x∈xo,H' x.t=some (.tup (x.p.map V.str))→(∃y∈xn,y.p=x.p∧bA H' d (.ref x.t) (some (.ref y.z.1))∧H' y.z.1=some (.tup (vals y.z.2)))∨((∀y∈xn,y.p≠x.p)∧bA H' d (.ref x.t) none):=λ{H'} s' x hx ht=>by
   have g:bA H' d (.ref x.t) (aE (qV xn) (cG x.p)):=.inr ⟨_,cG x.p,x.t,.inr ⟨o,s' _ _ hd2⟩,rfl,by rw[pd];exact ht,rfl⟩;rcases pe (xs:=xn) (p:=x.p) rfl with⟨y,hy,e1,e2⟩|⟨h1,h2⟩
   ·rw[e2]at g;exact .inl ⟨y,hy,e1,g,s' _ _ (hxn2 y hy)⟩
   ·rw[h2]at g;exact .inr ⟨h1,g⟩
  have dst:∀v:Option Int,decide (stV v=V.non)=decide (v=none):=λv=>by cases v<;>simp[stV]
  refine⟨lo,rfl,⟨_,SqL.of hlo⟩,dG (xs:=xo.map λx=>V.ref x.a) (λi σ H'=>∃cs x4 x5,σ=[some (.ref t),some (.ref u),some (.ref d),some (.ref l),x4,x5]∧Same H2 H'∧H' l=some (.lst (au cs))∧Cpl H' cs∧(cs.map (·.2.1)).Sublist ((xo.take i).map λx=>x.z.2.num)∧(∀b a,(b,a)∈cs.map (·.2)↔Kp (wtQ (xo.take i)) (wtQ xn) b a)∧H' lo=some (.lst (xo.map λx=>V.ref x.a))∧∀x∈xo,mY H' x)
   ⟨[],_,_,rfl,s34,s4 _ _ hl3,λc hc=>(not_mem_nil hc).elim,List.nil_sublist _,λb a=>⟨λh=>(not_mem_nil h).elim,λ⟨p,n,m,h,_⟩=>by rw[take_zero]at h;exact(not_mem_nil h).elim⟩,hlo,λx hx=>(hxo x hx).1⟩
   (λi σ H' _ ⟨_,_,_,_,_,_,_,_,_,e,_⟩=>SqL.of e) (λi v σ H' hv h=>?_) (λσ H' h=>?_)⟩
  ·obtain⟨cs,x4,x5,rfl,s5,hl5,hc5,sub5,mem5,hlo5,pq5⟩:=h;rw[getElem?_map]at hv;cases gx:xo[i]? with
   |none=>rw[gx]at hv;cases hv
   |some x =>
    rw[gx]at hv;cases hv;have mx:=mem_of_getElem? gx;obtain⟨hx1,hx2⟩:=pq5 x mx;have hz:H' x.z.1=some (.tup (vals x.z.2)):=s5 _ _ ((tr.same s2).nod x.z (hxo x mx).2);have et:xo.take (i+1)=xo.take i++[x]:=ax gx;have ew:wtQ (xo.take (i+1))=wtQ (xo.take i)++[(x.p,x.z.2)]:=by rw[et];unfold wtQ;rw[map_append];rfl
    have kp:∀b a,Kp (wtQ (xo.take (i+1))) (wtQ xn) b a↔Kp (wtQ (xo.take i)) (wtQ xn) b a∨∃y∈xn,y.p=x.p∧(x.z.2.st=none↔y.z.2.st=none)∧b=x.z.2.num∧a=y.z.2.num:=λb a=>by
     rw[ew];constructor
     ·rintro⟨p,n,m,h1,h2,h3,h4,h5⟩;rcases mem_append.mp h1 with h1|h1
      ·exact .inl ⟨p,n,m,h1,h2,h3,h4,h5⟩
      ·have e:=mem_singleton.mp h1;injection e with e1 e2
       unfold wtQ at h2;obtain⟨y,hy,e3⟩:=mem_map.mp h2;injection e3 with e4 e5
       exact .inr ⟨y,hy,e4.trans e1,by rw[←e2,e5];exact h3,by rw[←h4,e2],by rw[←h5,←e5]⟩
     ·rintro(⟨p,n,m,h1,h2,h3,h4,h5⟩|⟨y,hy,e1,e2,e3,e4⟩)
      ·exact⟨p,n,m,mem_append_left _ h1,h2,h3,h4,h5⟩
      ·exact⟨x.p,x.z.2,y.z.2,mem_append_right _ (mem_singleton.mpr rfl),mem_map.mpr ⟨y,hy,by rw[e1]⟩,e2,e3.symm,e4.symm⟩
    have subS:((xo.take i).map λx=>x.z.2.num).Sublist ((xo.take (i+1)).map λx=>x.z.2.num):=by rw[et,map_append];exact List.sublist_append_left _ _
    have skip:(∀y∈xn,y.p=x.p→¬(x.z.2.st=none↔y.z.2.st=none))→∃cs x4 x5,[some (V.ref t),some (V.ref u),some (V.ref d),some (V.ref l),some (V.ref x.t),some (V.ref x.z.1)]=[some (.ref t),some (.ref u),some (.ref d),some (.ref l),x4,x5]∧Same H2 H'∧H' l=some (.lst (au cs))∧Cpl H' cs∧(cs.map (·.2.1)).Sublist ((xo.take (i+1)).map λx=>x.z.2.num)∧(∀b a,(b,a)∈cs.map (·.2)↔Kp (wtQ (xo.take (i+1))) (wtQ xn) b a)∧H' lo=some (.lst (xo.map λx=>V.ref x.a))∧∀x∈xo,mY H' x:=λhno =>
     ⟨cs,_,_,rfl,s5,hl5,hc5,sub5.trans subS,λb a=>by
      rw[mem5,kp];exact⟨.inl,λh=>h.resolve_right λ⟨y,hy,e1,e2,_⟩=>hno y hy e1 e2⟩,hlo5,pq5⟩
    refine⟨x.a,_,rfl,SqT.of hx1,rfl,_,_,rfl,_,_,rfl,rfl,?_⟩;rcases dg s5 x mx hx2 with⟨y,hy,ep,hg,hyz⟩|⟨hno,hg⟩
    ·refine⟨_,rfl,_,rfl,d,_,rfl,hg,_,rfl,gB ?_⟩;refine⟨_,rfl,x.z.1,_,_,_,rfl,rfl,SqT.of hz,at3 x.z.2,rfl,_,rfl,_,rfl,d,_,rfl,hg,y.z.1,_,_,_,rfl,rfl,SqT.of hyz,at3 y.z.2,rfl,rfl,_,rfl,?_⟩;have euniq:∀y'∈xn,y'.p=x.p→y'.z.2=y.z.2:=λy' hy' e=>by
      have:=wkn.path (a:=(y'.p,y'.z.2)) (b:=(y.p,y.z.2)) (mem_map.mpr ⟨y',hy',rfl⟩) (mem_map.mpr ⟨y,hy,rfl⟩) (e.trans ep.symm);injection this
     have edec:decide (V.bl (decide (stV x.z.2.st=V.non))=V.bl (decide (stV y.z.2.st=V.non)))=decide (x.z.2.st=none↔y.z.2.st=none):=by
      rw[dst,dst];cases x.z.2.st<;>cases y.z.2.st<;>simp
     rw[edec]
     by_cases hk:x.z.2.st=none↔y.z.2.st=none
     ·rw[decide_eq_true hk];refine gB ⟨_,rfl,.inl ⟨rfl,_,SqL.of hl5⟩,_,rfl,x.z.1,_,_,_,rfl,rfl,SqT.of hz,at0 x.z.2,_,rfl,_,rfl,d,_,rfl,hg,y.z.1,_,_,_,rfl,rfl,SqT.of hyz,at0 y.z.2,le2,λc hc=>?_⟩;have s6:=ae (o:=.tup [.int x.z.2.num,.int y.z.2.num]) hc;have k6:upd H' c (.tup [.int x.z.2.num,.int y.z.2.num]) c=some (.tup [.int x.z.2.num,.int y.z.2.num]):=ac;generalize upd H' c (.tup [.int x.z.2.num,.int y.z.2.num])=H6 at s6 k6⊢;have notl:∀{x:Addr}{xs:List V},H6 x=some (.tup xs)→x≠l:=λh z=>by rw[z,s6 _ _ hl5]at h;cases h
      have csl:cs.length≤60:=by have:=sub5.length_le;rw[length_map,length_map,length_take]at this;omega
      have lol:lo≠l:=λz=>by
       have h1:H3 l=some (.lst (au [])):=hl3;have h2:=hlo;rw[z,s4 _ _ h1]at h2;have h3:xo.map (λx=>V.ref x.a)=[]:=by injection (Option.some.inj h2)with h2;exact h2.symm
       rw[List.map_eq_nil_iff.mp h3]at mx;exact(not_mem_nil mx).elim
      refine⟨l,_,_,rfl,rfl,s6 _ _ hl5,ap (by unfold au;rw[length_map];omega),cs++[(c,x.z.2.num,y.z.2.num)],_,_,rfl,?_,?_,?_,?_,λb a=>?_,?_,λx' hx'=>?_⟩
      ·exact λb o e=>by
        rw[ag (λz=>by rw[z,fl2]at e;cases e)];exact s6 _ _ (s5 _ _ e)
      ·rw[ac];unfold au;rw[map_append];rfl
      ·intro c' hc';rcases mem_append.mp hc' with hc'|hc'
       ·rw[ag (notl (s6 _ _ (hc5 c' hc')))];exact s6 _ _ (hc5 c' hc')
       ·rw[mem_singleton.mp hc'];show upd H6 l _ c=_;rw[ag (notl k6)];exact k6
      ·rw[et,map_append,map_append];exact sub5.append (Sublist.refl _)
      ·rw[map_append,mem_append,mem5,kp];constructor
       ·rintro(h|h)
        ·exact .inl h
        ·have e:=mem_singleton.mp h;injection e with e1 e2
         exact .inr ⟨y,hy,ep,hk,e1,e2⟩
       ·rintro(h|⟨y',hy',e1,_,e3,e4⟩)
        ·exact .inl h
        ·right
         rw[euniq y' hy' e1]at e4;rw[e3,e4];exact mem_singleton.mpr rfl
      ·rw[ag lol];exact s6 _ _ hlo5
      ·obtain⟨g1,g2⟩:=pq5 x' hx';exact⟨by rw[ag (notl (s6 _ _ g1))];exact s6 _ _ g1,by rw[ag (notl (s6 _ _ g2))];exact s6 _ _ g2⟩
     ·rw[decide_eq_false hk];exact cV (skip λy' hy' e=>by rw[euniq y' hy' e];exact hk)
    ·exact⟨_,rfl,_,rfl,d,_,rfl,hg,_,rfl,cV (cV (skip λy hy e=>absurd e (hno y hy)))⟩
  ·obtain⟨cs,x4,x5,rfl,s5,hl5,hc5,sub5,mem5,_,_⟩:=h;rw[length_map,take_length]at sub5 mem5;have nd:(xo.map λx=>x.z.2.num).Nodup:=by
    have:=wko.nums tr.tr;unfold wtQ at this;rw[map_map]at this;exact this
   have csl:cs.length≤60:=by have:=sub5.length_le;rw[length_map,length_map]at this;omega
   exact⟨_,rfl,q l cs (wtQ xo) (wtQ xn) H' (s2.trans s5) wko wkn hl5 hc5 (nd.sublist sub5) mem5 csl⟩
end
def gv(xs:List (Int×V))(k:Int):List V:=(xs.filter λx=>decide (x.1=k)).map (·.2)
theorem eD(xs:List (Int×V))(a k:Int)(v:V):gv (xs++[(a,v)]) k=if a=k then gv xs k++[v]else gv xs k:=by
 unfold gv;rw[filter_append]
 by_cases h:a=k
 ·rw[if_pos h,List.filter_cons_of_pos (by simpa using h),map_append];rfl
 ·rw[if_neg h,List.filter_cons_of_neg (by simpa using h)];simp
theorem sS(xs:List (Int×V))(k:Int):(gv xs k).length≤xs.length:=by
 unfold gv;rw[length_map];exact length_filter_le _ _
structure Grp(H0 H:Hp)(d:Addr)(L:Int→Addr)(ns:List Int)(xs:List (Int×V)):Prop where
 dict:H d=some (.dK (ns.map λk=>((Sum.inl k:Key),V.ref (L k))))
 d0:H0 d=none
 nd:ns.Nodup
 mem:∀k,k∈ns↔gv xs k≠[]
 at':∀k∈ns,H (L k)=some (.lst (gv xs k))∧H0 (L k)=none
 inj:∀k∈ns,∀k'∈ns,L k=L k'→k=k'
 same:Same H0 H
 len:ns.length≤xs.length
theorem fz{ns:List Int}{L:Int→Addr}{k:Int}:aE (ns.map λk=>((Sum.inl k:Key),V.ref (L k))) (Sum.inl k:Key)=if k∈ns then some (.ref (L k))else none:=by
 induction ns with
 |nil=>rfl
 |cons a r ih =>
  unfold aE at ih⊢;rw[map_cons,find?_cons]
  by_cases h:a=k
  ·subst h;simp
  ·have h1:decide ((Sum.inl a:Key)=Sum.inl k)=false:=by simp[h]
   have h2:(k∈a::r)↔k∈r:=by simp[symm h]
   simp only[h1,h2];exact ih
section
variable{H0 H H':Hp}{d:Addr}{L:Int→Addr}{ns:List Int}{xs:List (Int×V)}
theorem Grp.grow(m:Grp H0 H d L ns xs)(s:Same H H'):Grp H0 H' d L ns xs :=
 ⟨s _ _ m.dict,m.d0,m.nd,m.mem,λk hk=>⟨s _ _ (m.at' k hk).1,(m.at' k hk).2⟩,m.inj,m.same.trans s,m.len⟩
theorem Grp.start(h:H0 d=none):Grp H0 (upd H0 d (.dK [])) d (λ_=>d) [] [] :=
 ⟨ac,h,nodup_nil,λk=>by simp[gv],λk h=>(by cases h),λk h=>(by cases h),ae h,le_refl _⟩
theorem Grp.hit{k:Int}{v:V}(m:Grp H0 H d L ns xs)(hk:k∈ns):Grp H0 (upd H (L k) (.lst (gv xs k++[v]))) d L ns (xs++[(k,v)]):=by
 obtain⟨e1,e2⟩:=m.at' k hk;have hd:d≠L k:=λe=>by
  have:=m.dict;rw[e,e1]at this;cases this
 refine⟨by rw[ag hd];exact m.dict,m.d0,m.nd,λj=>?_,λj hj=>⟨?_,(m.at' j hj).2⟩,m.inj,ar e2 m.same,by have:=m.len;rw[length_append];omega⟩
 ·rw[eD,m.mem j]
  by_cases h:k=j
  ·subst h;rw[if_pos rfl];exact⟨λ_=>by simp,λ_=>(m.mem k).mp hk⟩
  ·rw[if_neg h]
 ·rw[eD]
  by_cases h:k=j
  ·subst h;rw[if_pos rfl,ac]
  ·rw[if_neg h,ag λe=>h (m.inj k hk j hj e.symm)];exact(m.at' j hj).1
theorem Grp.fresh{k:Int}{v:V}{q:Addr}(m:Grp H0 H d L ns xs)(hk:k∉ns)(hq:H q=none):
  Grp H0 (upd (upd (upd H q (.lst [])) d (.dK (cz (ns.map λk=>((Sum.inl k:Key),V.ref (L k))) (Sum.inl k:Key) (.ref q)))) q (.lst ([]++[v]))) d (λj=>if j=k then q else L j) (ns++[k]) (xs++[(k,v)]):=by
 have hdq:d≠q:=λe=>by
  have:=m.dict;rw[e,hq]at this;cases this
 have lq:∀j∈ns,L j≠q:=λj h e=>by
  have:=(m.at' j h).1;rw[e,hq]at this;cases this
 have ld:∀j∈ns,L j≠d:=λj h e=>by
  have:=(m.at' j h).1;rw[e,m.dict]at this;cases this
 have q0:H0 q=none:=m.same.free hq;have g0:gv xs k=[]:=by
  cases e:gv xs k with
  |nil=>rfl
  |cons a r=>exact absurd ((m.mem k).mpr (by rw[e];simp)) hk
 have nk:∀j∈ns,j≠k:=λj h e=>hk (by rw[←e];exact h);refine⟨?_,m.d0,?_,λj=>?_,λj hj=>?_,λi hi j hj e=>?_,?_,by have:=m.len;rw[length_append,length_append];show ns.length+1≤xs.length+1;omega⟩
 ·rw[ag hdq,ac,nJ _ (by rw[fz,if_neg hk]),map_append];have e1:(ns.map λk=>((Sum.inl k:Key),V.ref (L k)))=ns.map λj=>((Sum.inl j:Key),V.ref (if j=k then q else L j)):=by
   apply map_congr_left;intro j hj;rw[if_neg (nk j hj)]
  have e2:[((Sum.inl k:Key),V.ref q)]=[k].map λj=>((Sum.inl j:Key),V.ref (if j=k then q else L j)):=by
   show _=[((Sum.inl k:Key),V.ref (if k=k then q else L k))];rw[if_pos rfl]
  rw[e1,e2]
 ·rw[nodup_append];exact⟨m.nd,by simp,λa ha b hb=>by
   have:b=k:=by simpa using hb
   subst this;exact nk a ha⟩
 ·rw[eD,mem_append,m.mem j]
  by_cases h:k=j
  ·subst h;rw[if_pos rfl];exact⟨λ_=>by simp,λ_=>.inr (by simp)⟩
  ·rw[if_neg h];have:j∉[k]:=by simp[symm h]
   simp[this]
 ·rcases mem_append.mp hj with hj|hj
  ·have hn:=nk j hj;rw[if_neg hn];refine⟨?_,(m.at' j hj).2⟩;rw[ag (lq j hj),ag (ld j hj),ag (lq j hj),eD,if_neg (symm hn)];exact(m.at' j hj).1
  ·have:j=k:=by simpa using hj
   subst this;rw[if_pos rfl];exact⟨by rw[ac,eD,if_pos rfl,g0],q0⟩
 ·rcases mem_append.mp hi with hi|hi<;>rcases mem_append.mp hj with hj|hj
  ·rw[if_neg (nk i hi),if_neg (nk j hj)]at e;exact m.inj i hi j hj e
  ·have e2:j=k:=by simpa using hj
   rw[if_neg (nk i hi),if_pos e2]at e;exact absurd e (lq i hi)
  ·have e2:i=k:=by simpa using hi
   rw[if_neg (nk j hj),if_pos e2]at e;exact absurd e.symm (lq j hj)
  ·have e1:i=k:=by simpa using hi
   have e2:j=k:=by simpa using hj
   rw[e1,e2]
 ·exact ar q0 (ar m.d0 (m.same.trans (ae hq)))
end
open Classical in
def nc(out:Int→Prop)(w:Wt):Bool:=decide (w.2.st≠none∧¬out w.2.num)
def cH(ws:List Wt)(out:Int→Prop):List (Int×V):=(ws.filter (nc out)).map λw=>(w.2.st.getD 0,V.int w.2.num)
open Classical in
theorem kT(ws:List Wt)(out:Int→Prop)(s:Int):gv (cH ws out) s=(wtS ws out s).map V.int:=by
 unfold gv cH wtS;rw[filter_map,map_map,map_map,List.filter_filter];have:ws.filter (λw=>((λx:Int×V=>decide (x.1=s))∘λw:Wt=>(w.2.st.getD 0,V.int w.2.num)) w&&nc out w)=ws.filter λw=>decide (w.2.st=some s∧¬out w.2.num):=filter_congr λw _=>by
  show(decide (w.2.st.getD 0=s)&&decide (w.2.st≠none∧¬out w.2.num))=_;rw[Bool.eq_iff_iff,and_eq_true,decide_eq_true_eq,decide_eq_true_eq,decide_eq_true_eq];cases e:w.2.st with
  |none=>simp
  |some i=>simp
 rw[this];rfl
section
variable{P:Program}{w:World}{K:PySem.W.Frag}{mg:Str→Option Value}{base:Heap}
def pk:Sp:=λvs H Q _=>∃t d zs kvs out,vs=[.ref t,.ref d]∧Tre H t zs∧Rd H d (.dK kvs)∧(∀k:Int,(aE kvs (Sum.inl k:Key)).isSome=true↔out k)∧∀e L ns ws H',Same H H'→Wk (nds zs) ws→ws.length≤60→Grp H H' e L ns (cH ws out)→Q (.ref e) H'
def fbN:List Str:=["tree","left_out","numbers","path","node"]
theorem qX:FnScope fbN ["tree","left_out"] (aj bw):=fsc
open Classical in
theorem sT{f:Addr}{fd:FuncData}(F:Fun K "files_by_stamps" "files_by_stamps" bw f fd)(CW:Has P w K mg base 3 "walked_nodes" ["tree"] qQ):FnOk P w K mg base CX0 4 f fd ["tree","left_out"] pk:=by
 obtain⟨fW,fdW,GW,mW,kW,bW⟩:=CW;refine F.ok qX (λvs H Q E h=>?_) (λcdv A outer s H vs Q E hr h=>?_)
 ·obtain⟨t,d,zs,kvs,out,rfl,_⟩:=h;rfl
 ·obtain⟨t,d,zs,kvs,out,rfl,tr,hd,hout,q⟩:=h;refine⟨_,ah (aw (i:=2) qX.nd rfl (Or.inl rfl) nL)
   (ah (dn PassesOwn.never rfl (bc (am GW hr rfl mW kW bW .nil aC (aa (pv 0) af))) (cq (n:=2) rfl (az (ao (i:=3) qX.nd rfl (Or.inl rfl)) (az (ao (i:=4) qX.nd rfl (Or.inl rfl)) bM)))
    (al (cQ (PW.pt (pw_and (aX pS (aK (r:=cu K) aI (pv 4) ai (λ_ _=>rfl)) fE (be _)) (pw_and1 (jP (gT (bn hr) (aK (r:=cu K) aI (pv 4) ai (λ_ _=>rfl)) (pv 1))))))
     (al (de (dN plainAttrs_list PySem.F.slot_list_append PySem.F.type_list_append bE
     (dN plainAttrs_dict PySem.F.slot_dict_setdefault PySem.F.type_dict_setdefault gD (pv 2) (aa (aK aI (pv 4) ai (λ_ _=>rfl)) (aa (cr af) af))) (aa (aK aI (pv 4) ai (λ_ _=>rfl)) af)))) bf)))
   (al (aH (pv 2)))),?_⟩
  refine λe he=>?_;have z100:∀{n:Nat},n≤100→n<sizeLine:=λh=>ap (by omega);have s0:=ae (o:=.dK []) he;refine⟨_,rfl,t,zs,rfl,tr.same s0,λxs l H1 s1 hxs wk hxl hl=>?_⟩;have wlen:(wtQ xs).length=xs.length:=by unfold wtQ;rw[length_map]
  refine⟨l,rfl,⟨_,SqL.of hl⟩,dG (xs:=xs.map λx=>V.ref x.a) (λi σ H'=>∃L ns x3 x4,σ=[some (.ref t),some (.ref d),some (.ref e),x3,x4]∧Grp H H' e L ns (cH (wtQ (xs.take i)) out)∧H' l=some (.lst (xs.map λx=>V.ref x.a))∧(∀k∈ns,L k≠l)∧∀x∈xs,mY H' x)
   ⟨_,_,_,_,rfl,by rw[take_zero];exact(Grp.start he).grow s1,hl,λk h=>(not_mem_nil h).elim,λx hx=>(hxs x hx).1⟩ (λi σ H' _ h=>?_) (λi v σ H' hv h=>?_) (λσ H' h=>?_)⟩
  ·obtain⟨_,_,_,_,_,_,h,_⟩:=h;exact SqL.of h
  ·obtain⟨L,ns,x3,x4,rfl,m,hl2,hL,pq⟩:=h;rw[getElem?_map]at hv;cases gx:xs[i]? with
   |none=>rw[gx]at hv;cases hv
   |some x =>
    rw[gx]at hv;cases hv;have mx:=mem_of_getElem? gx;obtain⟨hx1,hx2⟩:=pq x mx;have hzH:=tr.nod x.z (hxs x mx).2;have hz:H' x.z.1=some (.tup (vals x.z.2)):=m.same _ _ hzH;have ew:wtQ (xs.take (i+1))=wtQ (xs.take i)++[(x.p,x.z.2)]:=by rw[ax gx];unfold wtQ;rw[map_append];rfl
    have nol:∀{y:Addr}{o:HO},H' y=some o→(∀vs,o≠.lst vs)→y≠l:=λh h2 z=>by rw[z,hl2]at h;exact h2 _ (Option.some.inj h).symm
    refine⟨x.a,_,rfl,SqT.of hx1,rfl,_,_,rfl,_,_,rfl,rfl,?_⟩;refine⟨_,rfl,x.z.1,_,_,_,rfl,rfl,SqT.of hz,at3 x.z.2,rfl,_,rfl,?_⟩;have skip:nc out (x.p,x.z.2)=false→∃L ns x3 x4,[some (V.ref t),some (V.ref d),some (V.ref e),some (V.ref x.t),some (V.ref x.z.1)]=[some (.ref t),some (.ref d),some (.ref e),x3,x4]∧Grp H H' e L ns (cH (wtQ (xs.take (i+1))) out)∧H' l=some (.lst (xs.map λx=>V.ref x.a))∧(∀k∈ns,L k≠l)∧∀x∈xs,mY H' x:=λhb =>
     ⟨L,ns,_,_,rfl,by
      have:cH (wtQ (xs.take (i+1))) out=cH (wtQ (xs.take i)) out:=by
       rw[ew];unfold cH;rw[filter_append,filter_cons,hb];show(List.filter (nc out) (wtQ (xs.take i))++[]).map _=_;rw[append_nil]
      rw[this];exact m,hl2,hL,pq⟩
    cases hst:x.z.2.st with
    |none=>exact cV (cV (skip (decide_eq_false λh=>h.1 hst)))
    |some st =>
     refine gB ?_;have hz3:atI (vals x.z.2) 3=some (.int st):=by rw[at3,hst];rfl
     have hd':Rd H' d (.dK kvs):=m.same.rd hd;refine⟨_,rfl,x.z.1,_,_,_,rfl,rfl,SqT.of hz,at0 x.z.2,_,rfl,d,_,rfl,.inl ⟨kvs,Sum.inl x.z.2.num,hd',rfl,rfl⟩,_,rfl,?_⟩
     by_cases ho:out x.z.2.num
     ·rw[(hout x.z.2.num).mpr ho];exact cV (skip (decide_eq_false λh=>h.2 ho))
     ·have hn0:(aE kvs (Sum.inl x.z.2.num:Key)).isSome=false:=by
       cases hb:(aE kvs (Sum.inl x.z.2.num:Key)).isSome with
       |false=>rfl
       |true=>exact absurd ((hout _).mp hb) ho
      rw[hn0];refine gB ?_;have hb:nc out (x.p,x.z.2)=true:=decide_eq_true ⟨by rw[hst];simp,ho⟩;have ez:cH (wtQ (xs.take (i+1))) out=cH (wtQ (xs.take i)) out++[(st,.int x.z.2.num)]:=by
       rw[ew];unfold cH;rw[filter_append,filter_cons,hb,map_append];show _++[(x.z.2.st.getD 0,V.int x.z.2.num)]=_;rw[hst];rfl
      have hpl:(cH (wtQ (xs.take i)) out).length≤60:=by
       unfold cH;rw[length_map];have h1:=length_filter_le (nc out) (wtQ (xs.take i));have h2:(wtQ (xs.take i)).length≤xs.length:=by unfold wtQ;rw[length_map,length_take];omega
       omega
      have hnl:(ns.map λk=>((Sum.inl k:Key),V.ref (L k))).length≤100:=by rw[length_map];have:=m.len;omega
      have nld:l≠e:=λz=>by rw[z,m.dict]at hl2;cases hl2
      have nlq:∀qa,H' qa=none→l≠qa:=λqa h z=>by rw[z,h]at hl2;cases hl2
      refine⟨_,rfl,.inr (.inr (.inl ⟨rfl,.inl ⟨_,m.dict⟩⟩)),_,rfl,x.z.1,_,_,_,rfl,rfl,SqT.of hz,hz3,zero_le _,λqa hq=>?_⟩;have m':=m.grow (ae (o:=.lst []) hq);have hl3:=ae (o:=.lst []) hq _ _ hl2;refine⟨e,_,.inl st,.ref qa,rfl,rfl,m'.dict,z100 hnl,λv hv=>?_,λhn=>?_⟩
      ·rw[fz]at hv
       by_cases h:st∈ns
       ·rw[if_pos h]at hv;cases hv;obtain⟨a1,a0⟩:=m'.at' st h;have hz1:upd H' qa (.lst []) x.z.1=some (.tup (vals x.z.2)):=m'.same _ _ hzH;refine⟨.inl ⟨rfl,_,SqL.of a1⟩,_,rfl,x.z.1,_,_,_,rfl,rfl,SqT.of hz1,at0 x.z.2,_,_,_,rfl,rfl,a1,z100 (le_trans (sS _ _) (by omega)),?_⟩;refine⟨L,ns,_,_,rfl,by rw[ez];exact m'.hit h,by rw[ag (symm (hL st h))];exact hl3,hL,λx' hx'=>?_⟩;obtain⟨g1,g2⟩:=pq x' hx';have k1:=ae (o:=.lst []) hq _ _ g1;have k2:=ae (o:=.lst []) hq _ _ g2;exact⟨by rw[ag λz=>by rw[z,a1]at k1;cases k1];exact k1,by rw[ag λz=>by rw[z,a1]at k2;cases k2];exact k2⟩
       ·rw[if_neg h]at hv;cases hv
      ·rw[fz]at hn
       by_cases h:st∈ns
       ·rw[if_pos h]at hn;cases hn
       ·have hqd:qa≠e:=λz=>by rw[z,m.dict]at hq;cases hq
        have a:upd (upd H' qa (.lst [])) e (.dK (cz (ns.map λk=>((Sum.inl k:Key),V.ref (L k))) (Sum.inl st:Key) (.ref qa))) qa=some (.lst []):=by rw[ag hqd];exact ac
        have hz1:upd (upd H' qa (.lst [])) e (.dK (cz (ns.map λk=>((Sum.inl k:Key),V.ref (L k))) (Sum.inl st:Key) (.ref qa))) x.z.1=some (.tup (vals x.z.2)):=by
         have hz0:=m'.same _ _ hzH;rw[ag λz=>by rw[z,m'.dict]at hz0;cases hz0];exact hz0
        refine⟨.inl ⟨rfl,_,SqL.of a⟩,_,rfl,x.z.1,_,_,_,rfl,rfl,SqT.of hz1,at0 x.z.2,qa,[],_,rfl,rfl,a,z100 (zero_le _),?_⟩;have fr:=m.fresh (k:=st) (v:=.int x.z.2.num) h hq;rw[←ez]at fr;refine⟨_,_,_,_,rfl,fr,by rw[ag (nlq qa hq),ag nld];exact hl3,λj hj=>?_,λx' hx'=>?_⟩
        ·by_cases z:j=st
         ·rw[if_pos z];exact symm (nlq qa hq)
         ·rw[if_neg z];rcases mem_append.mp hj with hj|hj
          ·exact hL j hj
          ·exact absurd (by simpa using hj) z
        ·obtain⟨g1,g2⟩:=pq x' hx';have k1:=ae (o:=.lst []) hq _ _ g1;have k2:=ae (o:=.lst []) hq _ _ g2;have n1:x'.a≠qa:=λz=>by rw[z,hq]at g1;cases g1
         have n2:x'.t≠qa:=λz=>by rw[z,hq]at g2;cases g2
         have n3:x'.a≠e:=λz=>by rw[z,m'.dict]at k1;cases k1
         have n4:x'.t≠e:=λz=>by rw[z,m'.dict]at k2;cases k2
         exact⟨by rw[ag n1,ag n3];exact k1,by rw[ag n2,ag n4];exact k2⟩
  ·obtain⟨L,ns,x3,x4,rfl,m,hl2,hL,pq⟩:=h;rw[length_map,take_length]at m;exact⟨_,rfl,q e L ns (wtQ xs) H' m.same wk (by rw[wlen];exact hxl) m⟩
end
end TK
namespace L2
open PySem PySem.Spec PyProof.Rows
section
variable{X:Cx}
theorem Inv.laids{pins:List (Addr×Obj)}{σ:St}{H H':Hp}{s:Shared}{h':Heap}{t':Nat}(I:Inv X pins σ H s)(k:∀b u,s.heap.get? b=some u→h'.get? b=some u)(ext:∀b o,H b=some o→H' b=some o)(new:∀b o,H' b=some o→H b=some o∨(s.heap.objs.size≤b∧aT X.prog X.w H' h' b o)):Inv X pins σ H' {s with heap:=h',toks:=t'}:=by
 refine I.un ⟨λb u q _ _ _=>k b u q,λb u q _ _ _=>⟨u.slots,k b u q⟩,λb u q n _=>?_,λb u q _=>⟨u,k b u q⟩,λb xs q=>ext _ _ q,λb o u q=>ext _ _ q,λb ps q=>⟨#[],by rw[ext _ _ q];simp⟩⟩ λb u e=>?_
 ·cases hq:H' b with
  |none=>rfl
  |some o =>
   rcases new b o hq with h|⟨h,_⟩
   ·rw[n]at h;cases h
   ·exact absurd (lt_size q) (Nat.not_lt.mpr h)
 ·rcases new b u e with h|⟨_,h⟩
  ·exact(I.hok b u h).stay (λc v _ q=>k c v q) (λc q=>ext _ _ q) λc xs q=>ext _ _ q
  ·exact h
theorem dC{β:Type}:∀{as:List Addr}{bs:List β}{a:Addr}{b:β},(as.zip bs).lookup a=some b→∃j:Nat,as[j]?=some a∧bs[j]?=some b
 |[],_,a,b,h=>by cases h
 |_::_,[],a,b,h=>by cases h
 |x::as,y::bs,a,b,h=>by
  rw[zip_cons_cons,lookup_cons]at h
  by_cases e:(a==x)=true
  ·rw[e]at h;exact⟨0,by rw[eq_of_beq e];rfl,by cases h;rfl⟩
  ·rw[Bool.not_eq_true]at e;rw[e]at h;obtain⟨j,h1,h2⟩:=dC h;exact⟨j+1,h1,h2⟩
theorem gr{β:Type}:∀{as:List Addr}{bs:List β}{j:Nat}{a:Addr}{b:β},as.Pairwise (· < ·)→as[j]?=some a→bs[j]?=some b→(as.zip bs).lookup a=some b
 |[],_,j,a,b,_,h,_=>by cases h
 |_::_,[],j,a,b,_,_,h=>by cases h
 |x::as,y::bs,0,a,b,_,h1,h2=>by
  cases h1;cases h2;rw[zip_cons_cons,lookup_cons,beq_self_eq_true]
 |x::as,y::bs,j+1,a,b,hp,h1,h2=>by
  obtain⟨p1,p2⟩:=pairwise_cons.mp hp;have h1':as[j]?=some a:=h1;have h2':bs[j]?=some b:=h2;have lt:x<a:=p1 a (mem_of_getElem? h1');have e:(a==x)=false:=beq_eq_false_iff_ne.mpr (ne_of_gt lt);rw[zip_cons_cons,lookup_cons,e];exact gr p2 h1' h2'
theorem uv{kvs:List (Key×V)}{vs:List (Key×Value)}(r:KV kvs vs){j:Nat}{q:Key×Value}(h:vs[j]?=some q):∃p,kvs[j]?=some p∧p.1=q.1∧av p.2 q.2:=by
 induction r generalizing j with
 |nil=>cases h
 |cons hh _ ih =>
  cases j with
  |zero=>cases h;exact⟨_,rfl,hh.1,hh.2⟩
  |succ j=>exact ih h
theorem il:∀as:List Addr,aq (as.map V.ref) (as.map Value.ref)
 |[]=>.nil
 |a::as=>.cons rfl (il as)
theorem uw{P:Program}{w:World}{k:Key}{u:Value}(h:(ak P w).is k u=true):av (kV k) u:=by
 rcases aB h with⟨i,t,e4,e5⟩|⟨y,t,e4,e5⟩
 ·rw[e4,e5];exact⟨_,rfl⟩
 ·rw[e4,e5];exact⟨_,rfl⟩
end
end L2
namespace LZ
open PySem PySem.SeqAt
abbrev ng(h:Heap)(z TI TO a:Addr)(f:Bool):Prop :=
 h.get? z=some {cls:=.type "zip",dict:=none,data:=.fields #[rawInt a,.bool f,.bool false,.ref TI,.ref TO],slots:=#[]}
section
variable{prog:Program}{w:World}{A:Around}{E:Value→Shared→Prop}{s:Shared}
theorem lP{z TI TO a:Addr}{f:Bool}{oa:Obj}{Q:Bool→Shared→Prop}(hz:ng s.heap z TI TO a f)(ha:s.heap.get? a=some oa)(q:∀g,ng g z TI TO a true→SameBut z s.heap g→Q false {s with heap:=g}):wpAny (model prog w) A (Builtin.SmallTypes.ownedTupleIsFree (.ref z)) Q E s:=by
 unfold Builtin.SmallTypes.ownedTupleIsFree;refine wpAny_bind (wpAny_field hz rfl (x:=rawInt a) rfl ?_);show wpAny _ _ (loadIfAlive ((a:Int).toNat) >>= _) _ _ _;rw[toNat_natCast];refine wpAny_bind (PySem.W.kdx_alive ha ?_);simp only[Option.isNone_some,false_eq_true,if_false];refine wpAny_bind (wpAny_field hz rfl (x:=.bool f) rfl ?_);cases f with
 |true =>
  rw[if_neg (show ¬((Value.bool true != Value.bool true)=true)from Bool.false_ne_true)];exact wpAny_pure (q s.heap hz (SameBut.refl _ _))
 |false =>
  rw[if_pos (show(Value.bool false != Value.bool true)=true from rfl)];exact wpAny_bind (wpAny_setField_rec hz (by simp) λg hg hs=>wpAny_pure (q g hg hs))
theorem sU{z TI TO i1 i2 l1 l2 a:Addr}{f:Bool}{oa:Obj}{k:Nat}{xs ys:Array Value}{x y:Value}{Q:Value→Shared→Prop}(D:ZipApart z TI TO i1 i2 l1 l2)(hz:ng s.heap z TI TO a f)(ha:s.heap.get? a=some oa)(hTI:IsPair s.heap TI (.ref i1) (.ref i2))(h1:s.heap.IsListIter i1 l1 k)(h2:s.heap.IsListIter i2 l2 k)(hl1:s.heap.IsList l1 xs)(hl2:s.heap.IsList l2 ys)(hx:xs[k]?=some x)(hy:ys[k]?=some y)(hQ:∀h',ng h' z TI TO a true→h'.IsListIter i1 l1 (k+1)→h'.IsListIter i2 l2 (k+1)→IsPair h' s.heap.objs.size x y→h'.objs.size=s.heap.objs.size+1 →
   (∀c o,c≠z→c≠i1→c≠i2→s.heap.get? c=some o→h'.get? c=some o)→Q (.ref s.heap.objs.size) {s with heap:=h'}):
  wpAny (model prog w) A (Builtin.«zip.__next__» ⟨[.ref z],[]⟩) (λfin s'=>∃v,fin=.done (.ret v)∧Q v s') E s:=by
 refine wpAny_bind (m:=field (.ref z) 2) (wpAny_field hz rfl (x:=.bool false) rfl ?_);refine wpAny_bind (m:=field (.ref z) 3) (wpAny_field hz rfl (x:=.ref TI) rfl ?_);refine wpAny_bind (m:=seqItems? (.ref TI)) (wpAny_seqItems hTI rfl ?_);refine wpAny_bind (m:=Builtin.SmallTypes.ownedTupleIsFree (.ref z)) (lP hz ha λg1 z1 s1=>?_);simp only[false_eq_true,if_false];refine wpAny_bind ?_;simp only[List.forIn_toArray,forIn_cons,forIn_nil];refine wpAny_bind (wpAny_bind (wpAny_holding ?_));refine wpAny_bind (m:=Builtin.SmallTypes.nextOf (.ref i1)) (wpAny_nextOf_list_item (h1.extBut s1.extBut D.i1z) (hl1.extBut s1.extBut D.l1z) hx λg2 m1 s2=>wpAny_pure (wpAny_pure ?_));refine wpAny_bind (wpAny_bind (wpAny_holding ?_));refine wpAny_bind (m:=Builtin.SmallTypes.nextOf (.ref i2)) (wpAny_nextOf_list_item ((h2.extBut s1.extBut D.i2z).extBut s2.extBut D.i12.symm) ((hl2.extBut s1.extBut D.l2z).extBut s2.extBut D.l2i1) hy λg3 m2 s3=>wpAny_pure (wpAny_pure (wpAny_pure ?_)));refine wpAny_bind (wpAny_newTuple ?_ (hsz:=by show 2≤sizeLine;rw[sizeLine_eq];omega));have hsz:g3.objs.size=s.heap.objs.size:=by rw[s3.1,s2.1,s1.1]
 refine wpAny_pure ⟨_,rfl,?_⟩;show Q (.ref g3.objs.size) _;rw[hsz];refine hQ _ (get?_push_of_some _ (s3.extBut _ _ D.i2z.symm (s2.extBut _ _ D.i1z.symm z1))) (let⟨o,e,r⟩:=m1.extBut s3.extBut D.i12;⟨o,get?_push_of_some _ e,r⟩) (let⟨o,e,r⟩:=m2;⟨o,get?_push_of_some _ e,r⟩) (by rw[←hsz];exact get?_push_size _ rfl) (by rw[size_push,hsz]) λc o c1 c2 c3 e=>get?_push_of_some _ (s3.extBut _ _ c3 (s2.extBut _ _ c2 (s1.extBut _ _ c1 e)))
theorem ux{z TI TO i1 i2 l1 l2 a:Addr}{f:Bool}{oa:Obj}{k:Nat}{xs ys:Array Value}{Q:PySem.Fin→Shared→Prop}(hh:A.handled=none)(D:ZipApart z TI TO i1 i2 l1 l2)(hz:ng s.heap z TI TO a f)(ha:s.heap.get? a=some oa)(hTI:IsPair s.heap TI (.ref i1) (.ref i2))(h1:s.heap.IsListIter i1 l1 k)(h2:s.heap.IsListIter i2 l2 k)(hl1:s.heap.IsList l1 xs)(hl2:s.heap.IsList l2 ys)(hend:xs[k]?=none∨ys[k]?=none)(hE:∀h' e,(∀c o,c≠z→c≠i1→c≠i2→s.heap.get? c=some o→h'.get? c=some o)→(∃o,h'.get? e=some o∧o.cls=.type "StopIteration")→E (.ref e) {s with heap:=h'}):
  wpAny (model prog w) A (Builtin.«zip.__next__» ⟨[.ref z],[]⟩) Q E s:=by
 refine wpAny_bind (m:=field (.ref z) 2) (wpAny_field hz rfl (x:=.bool false) rfl ?_);refine wpAny_bind (m:=field (.ref z) 3) (wpAny_field hz rfl (x:=.ref TI) rfl ?_);refine wpAny_bind (m:=seqItems? (.ref TI)) (wpAny_seqItems hTI rfl ?_);refine wpAny_bind (m:=Builtin.SmallTypes.ownedTupleIsFree (.ref z)) (lP hz ha λg1 z1 s1=>?_);simp only[false_eq_true,if_false];refine wpAny_bind ?_;simp only[List.forIn_toArray,forIn_cons,forIn_nil];refine wpAny_bind (wpAny_bind (wpAny_holding ?_));refine wpAny_bind (m:=Builtin.SmallTypes.nextOf (.ref i1)) ?_;cases hx:xs[k]? with
 |none=>exact wpAny_nextOf_list_end hh (h1.extBut s1.extBut D.i1z) (hl1.extBut s1.extBut D.l1z) hx λg2 e s2 he=>hE g2 e (λc o c1 c2 _ x=>s2 _ _ c2 (s1.extBut _ _ c1 x)) he
 |some x =>
  have hy:ys[k]?=none:=hend.resolve_left (by rw[hx];simp);refine wpAny_nextOf_list_item (h1.extBut s1.extBut D.i1z) (hl1.extBut s1.extBut D.l1z) hx λg2 m1 s2=>wpAny_pure (wpAny_pure ?_);refine wpAny_bind (wpAny_bind (wpAny_holding ?_));exact wpAny_bind (m:=Builtin.SmallTypes.nextOf (.ref i2)) (wpAny_nextOf_list_end hh ((h2.extBut s1.extBut D.i2z).extBut s2.extBut D.i12.symm) ((hl2.extBut s1.extBut D.l2z).extBut s2.extBut D.l2i1) hy λg3 e s3 he=>hE g3 e (λc o c1 c2 c3 x=>s3 _ _ c3 (s2.extBut _ _ c2 (s1.extBut _ _ c1 x))) he)
structure ZSt(h:Heap)(n l1 l2:Nat)(xs ys:Array Value)(k:Nat):Prop where
 st:(IsZip h (n+4) (n+2) (n+3) .none∧∃u v,IsPair h (n+3) u v)∨∃(a:Nat) (f:Bool) (oa:Obj),ng h (n+4) (n+2) (n+3) a f∧h.get? a=some oa∧n+5<a
 ti:IsPair h (n+2) (.ref n) (.ref (n+1))
 n1:h.IsListIter n l1 k
 n2:h.IsListIter (n+1) l2 k
 o1:h.IsList l1 xs
 o2:h.IsList l2 ys
theorem po(n l1 l2:Nat)(h1:l1<n)(h2:l2<n):ZipApart (n+4) (n+2) (n+3) n (n+1) l1 l2:=by
 constructor<;>show @Ne Nat _ _<;>omega
theorem ZSt.keep{h h':Heap}{n l1 l2:Nat}{xs ys:Array Value}{k:Nat}(x:ZSt h n l1 l2 xs ys k)(b1:l1<n)(b2:l2<n)(hk:∀b o,b≠n+5→h.get? b=some o→h'.get? b=some o):ZSt h' n l1 l2 xs ys k:=by
 refine⟨?_,hk _ _ (by first|omega|(show @Ne Nat _ _;omega)) x.ti,x.n1.at λo e=>hk _ o (by first|omega|(show @Ne Nat _ _;omega)) e,x.n2.at λo e=>hk _ o (by first|omega|(show @Ne Nat _ _;omega)) e,x.o1.at λo e=>hk _ o (by first|omega|(show @Ne Nat _ _;omega)) e,x.o2.at λo e=>hk _ o (by first|omega|(show @Ne Nat _ _;omega)) e⟩
 rcases x.st with⟨e,u,v,e2⟩|⟨a,f,oa,e,ha,hb⟩
 ·exact .inl ⟨hk _ _ (by first|omega|(show @Ne Nat _ _;omega)) e,u,v,hk _ _ (by first|omega|(show @Ne Nat _ _;omega)) e2⟩
 ·exact .inr ⟨a,f,oa,hk _ _ (by first|omega|(show @Ne Nat _ _;omega)) e,hk _ _ (by first|omega|(show @Ne Nat _ _;omega)) ha,hb⟩
theorem pr{n l1 l2:Nat}{xs ys:Array Value}{k:Nat}{x y:Value}{Q:Option Value→Shared→Prop}(hst:ZSt s.heap n l1 l2 xs ys k)(b1:l1<n)(b2:l2<n)(hS:n+5<s.heap.objs.size)(hx:xs[k]?=some x)(hy:ys[k]?=some y)(hQ:∀h',ZSt h' n l1 l2 xs ys (k+1)→IsPair h' s.heap.objs.size x y→h'.objs.size=s.heap.objs.size+1→(∀c o,c<n∨n+5≤c→s.heap.get? c=some o→h'.get? c=some o)→Q (some (.ref s.heap.objs.size)) {s with heap:=h'}):
  wpAny (model prog w) A (pyNext (.ref (n+4))) Q E s:=by
 have D:=po n l1 l2 b1 b2;rcases hst.st with⟨hz,u,v,hTO⟩|⟨a,f,oa,hz,ha,hb⟩
 ·refine wpAny_pyNext_zip_item D hz hst.ti hTO hst.n1 hst.n2 hst.o1 hst.o2 hx hy λh' a1 a2 a3 a4 a5 a6 hk=>?_;exact hQ h' ⟨.inr ⟨_,false,_,a1,a5,hS⟩,hk _ _ (by first|omega|(show @Ne Nat _ _;omega)) (by first|omega|(show @Ne Nat _ _;omega)) (by first|omega|(show @Ne Nat _ _;omega)) (by first|omega|(show @Ne Nat _ _;omega)) hst.ti,a3,a4,hst.o1.at λo e=>hk _ o (by first|omega|(show @Ne Nat _ _;omega)) (by first|omega|(show @Ne Nat _ _;omega)) (by first|omega|(show @Ne Nat _ _;omega)) (by first|omega|(show @Ne Nat _ _;omega)) e,hst.o2.at λo e=>hk _ o (by first|omega|(show @Ne Nat _ _;omega)) (by first|omega|(show @Ne Nat _ _;omega)) (by first|omega|(show @Ne Nat _ _;omega)) (by first|omega|(show @Ne Nat _ _;omega)) e⟩ a5 a6
   λc o hc e=>hk c o (by first|omega|(show @Ne Nat _ _;omega)) (by first|omega|(show @Ne Nat _ _;omega)) (by first|omega|(show @Ne Nat _ _;omega)) (by first|omega|(show @Ne Nat _ _;omega)) e
 ·have hT:s.TypeIs (.ref (n+4)) "zip":=⟨_,hz,rfl⟩;unfold pyNext;refine wpAny_bind (wpAny_attempt (wpAny_callSpecial?_slot (name:=ofString "__next__") hT F.slot_zip_next (wpAny_call_entry F.slot_zip_next hT F.entry_zip_next (sU D hz ha hst.ti hst.n1 hst.n2 hst.o1 hst.o2 hx hy λh' a1 a3 a4 a5 a6 hk=>wpAny_pure ?_) (F.args_zip_next_1 _))));exact hQ h' ⟨.inr ⟨a,true,oa,a1,hk _ _ (by first|omega|(show @Ne Nat _ _;omega)) (by first|omega|(show @Ne Nat _ _;omega)) (by first|omega|(show @Ne Nat _ _;omega)) ha,hb⟩,hk _ _ (by first|omega|(show @Ne Nat _ _;omega)) (by first|omega|(show @Ne Nat _ _;omega)) (by first|omega|(show @Ne Nat _ _;omega)) hst.ti,a3,a4,hst.o1.at λo e=>hk _ o (by first|omega|(show @Ne Nat _ _;omega)) (by first|omega|(show @Ne Nat _ _;omega)) (by first|omega|(show @Ne Nat _ _;omega)) e,hst.o2.at λo e=>hk _ o (by first|omega|(show @Ne Nat _ _;omega)) (by first|omega|(show @Ne Nat _ _;omega)) (by first|omega|(show @Ne Nat _ _;omega)) e⟩ a5 a6
   λc o hc e=>hk c o (by first|omega|(show @Ne Nat _ _;omega)) (by first|omega|(show @Ne Nat _ _;omega)) (by first|omega|(show @Ne Nat _ _;omega)) e
theorem px{n l1 l2:Nat}{xs ys:Array Value}{k:Nat}{Q:Option Value→Shared→Prop}(hh:A.handled=none)(hst:ZSt s.heap n l1 l2 xs ys k)(b1:l1<n)(b2:l2<n)(hend:xs[k]?=none∨ys[k]?=none)(hQ:∀h',(∀c o,c<n∨n+5≤c→s.heap.get? c=some o→h'.get? c=some o)→Q none {s with heap:=h'}):wpAny (model prog w) A (pyNext (.ref (n+4))) Q E s:=by
 have D:=po n l1 l2 b1 b2;rcases hst.st with⟨hz,u,v,hTO⟩|⟨a,f,oa,hz,ha,hb⟩
 ·exact wpAny_pyNext_zip_end hh D hz hst.ti hTO hst.n1 hst.n2 hst.o1 hst.o2 hend λh' hk=>hQ h' λc o hc e=>hk c o (by first|omega|(show @Ne Nat _ _;omega)) (by first|omega|(show @Ne Nat _ _;omega)) (by first|omega|(show @Ne Nat _ _;omega)) (by first|omega|(show @Ne Nat _ _;omega)) e
 ·have hT:s.TypeIs (.ref (n+4)) "zip":=⟨_,hz,rfl⟩;unfold pyNext;refine wpAny_bind (wpAny_attempt (wpAny_callSpecial?_slot (name:=ofString "__next__") hT F.slot_zip_next (wpAny_call_entry F.slot_zip_next hT F.entry_zip_next (ux hh D hz ha hst.ti hst.n1 hst.n2 hst.o1 hst.o2 hend λh' e hk he=>?_) (F.args_zip_next_1 _))));obtain⟨o,ho,hc⟩:=he;exact wpAny_bind (wpAny_isInstance (T:="StopIteration") (b:=true) ⟨o,ho,hc⟩ isSubtype_stop (wpAny_pure (hQ _ λc o hc e=>hk c o (by first|omega|(show @Ne Nat _ _;omega)) (by first|omega|(show @Ne Nat _ _;omega)) (by first|omega|(show @Ne Nat _ _;omega)) e)))
structure ZG(ps:List (Value×Value))(lo:Nat)(h:Heap)(as:List Addr):Prop where
 rise:as.Pairwise (· < ·)
 above:∀a∈as,lo<a
 pairs:∀(j:Nat)(a:Addr),as[j]?=some a→∃p,ps[j]?=some p∧IsPair h a p.1 p.2
end
theorem kX:typeLookup (.type "zip") "__len__"=pure none:=by rw[typeLookup_type,builtinLookup_eq_fast];kernel_rfl
theorem jJ:typeLookup (.type "zip") "__length_hint__"=pure none:=by rw[typeLookup_type,builtinLookup_eq_fast];kernel_rfl
section
variable{prog:Program}{w:World}{A:Around}{s:Shared}{R:Result→Shared→Prop}{n l1 l2:Nat}{xs ys:Array Value}{ps:List (Value×Value)}
theorem sV(hh:A.handled=none)(b1:l1<n)(b2:l2<n)(hp:∀(i:Nat) (p:Value×Value),ps[i]?=some p→xs[i]?=some p.1∧ys[i]?=some p.2)(hend:xs[ps.length]?=none∨ys[ps.length]?=none)(hn:ps.length≤sizeLine)(res:Value){h₁:Heap}(hR:∀h' tk acc c as,(∀b o,b<n→h₁.get? b=some o→h'.get? b=some o)→h'.get? (n+5)=some {cls:=.type "list",dict:=none,data:=.seq acc c,slots:=#[]}→as.length=ps.length→ZG ps (n+5) h' as →
   acc.toList=as.map Value.ref→R (.ok (.ret res)) {s with heap:=h',toks:=tk}):
  ∀(k i:Nat)(h:Heap)(tk c:Nat)(acc:Array Value)(as:List Addr),ps.length-i=k→i≤ps.length→ZSt h n l1 l2 xs ys i→(∀b o,b<n→h₁.get? b=some o→h.get? b=some o) →
   h.get? (n+5)=some {cls:=.type "list",dict:=none,data:=.seq acc c,slots:=#[]}→acc.toList=as.map Value.ref→as.length=i→ZG ps (n+5) h as →
   codeAny (model prog w) A (.builtin "list.extend.loop" ⟨[.ref (n+5),.ref (n+4),res],[]⟩) R {s with heap:=h,toks:=tk}:=by
 intro k
 induction k with
 |zero =>
  intro i h tk c acc as hk hi hst hkeep hS hacc hal hG;have hin:i=ps.length:=by omega
  refine codeAny_builtin PySem.F.entry_extend_loop ?_;rw[Around.under_plainId plain_extend_loop _];show wpAny _ A.in1 (pyNext (.ref (n+4)) >>= _) _ _ _;refine wpAny_bind (px (s:={s with heap:=h,toks:=tk}) (A:=A.in1) hh hst b1 b2 (by rw[hin];exact hend) λh' he=>?_);refine wpAny_pure (hR h' tk acc c as (λb o h1 e=>he b o (.inl h1) (hkeep b o h1 e)) (he (n+5) _ (.inr (le_refl _)) hS) (by first|omega|(show @Ne Nat _ _;omega)) ⟨hG.rise,hG.above,λj a hj=>?_⟩ hacc)
  obtain⟨p,e1,e3⟩:=hG.pairs j a hj;have:=hG.above a (mem_of_getElem? hj);exact⟨p,e1,he a _ (by first|omega|(show @Ne Nat _ _;omega)) e3⟩
 |succ k ih =>
  intro i h tk c acc as hk hi hst hkeep hS hacc hal hG;have hlt:i<ps.length:=by omega
  obtain⟨p,hx⟩:∃p,ps[i]?=some p:=⟨ps[i],getElem?_eq_getElem hlt⟩;obtain⟨hx1,hx2⟩:=hp i p hx;have hsz:acc.size=i:=by rw[←length_toList,hacc,length_map,hal]
  refine codeAny_builtin PySem.F.entry_extend_loop ?_;rw[Around.under_plainId plain_extend_loop _];show wpAny _ A.in1 (pyNext (.ref (n+4)) >>= _) _ _ _;refine wpAny_bind (pr (s:={s with heap:=h,toks:=tk}) hst b1 b2 (lt_size hS) hx1 hx2 λh' hst' ht hz hkp=>?_);dsimp only at ht hz hkp⊢;have hS':=hkp (n+5) _ (.inr (le_refl _)) hS;have up:∀b o,b≠n+5→h'.get? b=some o→(h'.update (n+5) (Obj.mapSeq (·.push (Value.ref h.objs.size)))).get? b=some o:=λb o hb e=>(get?_update_other _ _ (symm hb)).trans e;have hSl:n+5<h.objs.size:=lt_size hS;show wpAny _ A.in1 (updateSeq (n+5) (·.push (Value.ref h.objs.size)) >>= _) _ _ _;refine wpAny_bind ?_;refine wpAny_updateSeq hS' rfl (wpAny_pure ⟨plainId_quiet plain_extend_loop _,ih (i+1) _ tk _ (acc.push (Value.ref h.objs.size)) (as++[h.objs.size]) (by first|omega|(show @Ne Nat _ _;omega)) hlt (hst'.keep b1 b2 up)
   (λb o h1 e=>up b o (by first|omega|(show @Ne Nat _ _;omega)) (hkp b o (.inl h1) (hkeep b o h1 e))) (get?_update_self _ hS' rfl) (by rw[toList_push,hacc,map_append];rfl) (by rw[length_append,hal];rfl) ⟨?_,?_,?_⟩⟩) (by rw[hsz];omega) (by show(acc.push (Value.ref h.objs.size)).size≤sizeLine+1;rw[Array.size_push,hsz];omega)
  ·refine List.pairwise_append.mpr ⟨hG.rise,List.pairwise_singleton _ _,λa ha b hb=>?_⟩;rw[mem_singleton.mp hb];obtain⟨j,hj⟩:=mem_iff_getElem?.mp ha;obtain⟨_,_,e⟩:=hG.pairs j a hj;exact lt_size e
  ·intro a ha;rcases mem_append.mp ha with ha|ha
   ·exact hG.above a ha
   ·rw[mem_singleton.mp ha];exact hSl
  ·intro j b hj;rcases Nat.lt_trichotomy j as.length with h1|h1|h1
   ·rw[getElem?_append_left h1]at hj;obtain⟨p',e1,e3⟩:=hG.pairs j b hj;have hb:=hG.above b (mem_of_getElem? hj);exact⟨p',e1,up b _ (by first|omega|(show @Ne Nat _ _;omega)) (hkp b _ (by first|omega|(show @Ne Nat _ _;omega)) e3)⟩
   ·subst h1;have hb:h.objs.size=b:=by simpa using hj
    subst hb;exact⟨p,by rw[hal];exact hx,up _ _ (ne_of_gt hSl) ht⟩
   ·have hnone:(as++[h.objs.size])[j]?=none:=getElem?_eq_none (by rw[length_append,length_singleton];omega);rw[hnone]at hj;cases hj
theorem py(hh:A.handled=none)(b1:l1<n)(b2:l2<n)(hp:∀(i:Nat) (p:Value×Value),ps[i]?=some p→xs[i]?=some p.1∧ys[i]?=some p.2)(hend:xs[ps.length]?=none∨ys[ps.length]?=none)(hn:ps.length≤sizeLine)(res:Value)(hst:ZSt s.heap n l1 l2 xs ys 0)(hz0:IsZip s.heap (n+4) (n+2) (n+3) .none)(c₀:Nat)(hS:s.heap.get? (n+5)=some {cls:=.type "list",data:=.seq #[] c₀})(hR:∀h' tk acc c as,(∀b o,b<n→s.heap.get? b=some o→h'.get? b=some o)→h'.get? (n+5)=some {cls:=.type "list",dict:=none,data:=.seq acc c,slots:=#[]}→as.length=ps.length→ZG ps (n+5) h' as →
   acc.toList=as.map Value.ref→R (.ok (.ret res)) {s with heap:=h',toks:=tk}):
  wpAny (model prog w) A.in1 (Builtin.List.listExtendWith (.ref (n+5)) (.ref (n+4)) res)
   (λfin s'=>match fin with | .done f=>R (.ok f) s' | .again c'=>c'.quiet=true∧codeAny (model prog w) A c' R s') (λe s'=>R (.error e) s') s:=by
 have hT:s.TypeIs (.ref (n+4)) "zip":=⟨_,hz0,rfl⟩;unfold Builtin.List.listExtendWith;refine wpAny_bind (wpAny_typeOf (T:="zip") hT ?_);have h1:Builtin.List.listSameRef (.ref (n+5)) (.ref (n+4))=false:=by simp[Builtin.List.listSameRef]
 have h2:(Value.type "zip"==Value.type "list")=false:=by decide
 have h3:(Value.type "zip"==Value.type "tuple")=false:=by decide
 simp only[h1,h2,h3,Bool.or_false,false_eq_true,if_false];refine wpAny_bind (wpAny_pyIter_zip hz0 ?_);refine wpAny_bind (wpAny_holding ?_);unfold Builtin.List.listLengthHint;refine wpAny_bind (wpAny_specialOf hT kX ?_);show wpAny _ A.in1 (specialOf (Value.ref (n+4)) (ofString "__length_hint__") >>= _) _ _ _;refine wpAny_bind (wpAny_specialOf hT jJ ?_);refine wpAny_pure ?_;show wpAny _ A.in1 (rule "list.extend.makes-room" >>= λ_=>Builtin.List.listTouch (.ref (n+5)) >>= λ_ =>
  again (.builtin "list.extend.loop" ⟨[.ref (n+5),.ref (n+4),res],[]⟩)) _ _ _
 refine wpAny_bind (wpAny_rule ?_);refine wpAny_bind ?_;show wpAny _ A.in1 (updateSeq (n+5) (·.push .none) >>= λ_=>updateSeq (n+5) (·.pop)) _ _ _;refine wpAny_bind (wpAny_updateSeq hS rfl ?_);have hS₂:=get?_update_self (Obj.mapSeq (·.push Value.none)) hS rfl;refine wpAny_updateSeq (hz:=by seq_fits) hS₂ rfl ?_;have hS₃:=get?_update_self (Obj.mapSeq (·.pop)) hS₂ rfl;have oth:∀b o,b≠n+5→s.heap.get? b=some o→((s.heap.update (n+5) (Obj.mapSeq (·.push Value.none))).update (n+5) (Obj.mapSeq (·.pop))).get? b=some o :=
  λb o hb e=>(get?_update_other _ _ (symm hb)).trans ((get?_update_other _ _ (symm hb)).trans e)
 refine wpAny_pure ⟨plainId_quiet plain_extend_loop _,sV (s:=s) (h₁:=s.heap) hh b1 b2 hp hend hn res hR ps.length 0 _ s.toks _ #[] [] (Nat.sub_zero _) (zero_le _) (hst.keep b1 b2 oth) (λb o hb e=>oth b o (by first|omega|(show @Ne Nat _ _;omega)) e) hS₃ rfl rfl
  ⟨Pairwise.nil,(λ_ ha=>nomatch ha),(λj a hj=>by simp at hj)⟩⟩
theorem sW{E:Value→Shared→Prop}{Q:Value→Shared→Prop}(hh:A.handled=none)(b1:l1<n)(b2:l2<n)(hp:∀(i:Nat) (p:Value×Value),ps[i]?=some p→xs[i]?=some p.1∧ys[i]?=some p.2)(hend:xs[ps.length]?=none∨ys[ps.length]?=none)(hn:ps.length≤sizeLine)(hst:ZSt s.heap n l1 l2 xs ys 0)(hz0:IsZip s.heap (n+4) (n+2) (n+3) .none)(hsz:s.heap.objs.size=n+5)(hQ:∀h' tk acc c as,(∀b o,b<n→s.heap.get? b=some o→h'.get? b=some o)→h'.get? (n+5)=some {cls:=.type "list",dict:=none,data:=.seq acc c,slots:=#[]}→as.length=ps.length→ZG ps (n+5) h' as →
   acc.toList=as.map Value.ref→Q (.ref (n+5)) {s with heap:=h',toks:=tk}):wpAny (model prog w) A (call (.type "list") [.ref (n+4)]) Q E s:=by
 refine callType_codes (Q₁:=λobj s₁=>obj=.ref s.heap.objs.size∧s₁={s with heap:=s.heap.push {cls:=.type "list",data:=.seq #[]}}) PySem.F.called_list (PySem.F.typeCall_list_1 _) PySem.F.entry_list_init
  (code_list_new _ ⟨rfl,rfl⟩) λobj s₁ h₁=>?_
 obtain⟨rfl,rfl⟩:=h₁;have hS0:(s.heap.push {cls:=.type "list",data:=.seq #[]}).get? s.heap.objs.size=some {cls:=.type "list",data:=.seq #[]}:=get?_push_size _ rfl;refine⟨⟨_,hS0,rfl⟩,PySem.F.args_list_init_2 _ _,?_⟩;rw[hsz]at hS0⊢;show wpAny _ _ (do let old ← Builtin.List.listItems (.ref (n+5));Builtin.List.listUpdate (.ref (n+5)) (λ_=>#[]);letGo old.toList.reverse;Builtin.List.listExtendWith (.ref (n+5)) (.ref (n+4)) .none) _ _ _
 refine wpAny_bind ?_;unfold Builtin.List.listItems;refine wpAny_bind (wpAny_seqItems hS0 rfl (wpAny_pure ?_));show wpAny _ _ (updateSeq (n+5) (λ_=>#[]) >>= λ_=>letGo (#[]:Array Value).toList.reverse >>= λ_=>Builtin.List.listExtendWith (.ref (n+5)) (.ref (n+4)) .none) _ _ _;refine wpAny_bind (wpAny_updateSeq hS0 rfl ?_);have hS₂:=get?_update_self (Obj.mapSeq (λ_=>(#[]:Array Value))) hS0 rfl;have oth:∀b o,b≠n+5→s.heap.get? b=some o→((s.heap.push {cls:=.type "list",data:=.seq #[]}).update (n+5) (Obj.mapSeq (λ_=>(#[]:Array Value)))).get? b=some o :=
  λb o hb e=>(get?_update_other _ _ (symm hb)).trans (get?_push_of_some _ e)
 refine wpAny_bind (wpAny_letGo ?_);refine py (A:=A.in1) hh b1 b2 hp hend hn .none (hst.keep b1 b2 oth) (oth _ _ (by first|omega|(show @Ne Nat _ _;omega)) hz0) _ hS₂ λh' tk acc c as hk hS' hl hG hacc=>?_
 exact⟨rfl,hQ h' tk acc c as (λb o hb e=>hk b o hb (oth b o (by first|omega|(show @Ne Nat _ _;omega)) e)) hS' hl hG hacc⟩
end
end LZ
namespace L2
open PySem PySem.Spec PyProof.Rows
section
variable{X:Cx}
def pA(ta:TA):TE:=λσ H Q=>ta σ H λvs H1=>∃l1 l2 xs ys,vs=[.ref l1,.ref l2]∧H1 l1=some (.lst xs)∧H1 l2=some (.lst ys) ∧
 ∀l (as:List Addr) H2,(∀b o,H1 b=some o→H2 b=some o)→H2 l=some (.lst (as.map V.ref))→H1 l=none→as.length=(xs.zip ys).length→(∀(j:Nat) a p,as[j]?=some a→(xs.zip ys)[j]?=some p→H2 a=some (.tup [p.1,p.2]))→Q (.ref l) H2
theorem iP:∀{xs:List V}{us:List Value},aq xs us→∀{j:Nat}{u:Value},us[j]?=some u→∃x,xs[j]?=some x∧av x u
 |_,_,.nil,j,u,h=>by cases h
 |_,_,.cons r _,0,u,h=>by cases h;exact⟨_,rfl,r⟩
 |_,_,.cons _ t,j+1,u,h=>iP t h
theorem kY{a b:Expr}{ta:TA}{q2 p pos p2:Pos}(hc:X.calm=true)(hg:Gl X "list")(hm:X.mg "list"=none)(hgz:Gl X "zip")(hmz:X.mg "zip"=none)(ha:PA X [a,b] ta)(s2:starEach [.Call (.Name "zip" p) [a,b] [] pos] X.env=[(false,eval (.Call (.Name "zip" p) [a,b] [] pos) X.env)]:=by rfl)(hs:starEach [a,b] X.env=[(false,eval a X.env),(false,eval b X.env)]:=by rfl)(hs2:starEach [b] X.env=[(false,eval b X.env)]:=by rfl):
  PE X (.Call (.Name "list" q2) [.Call (.Name "zip" p) [a,b] [] pos] [] p2) (pA ta):=by
 intro pins s σ H Q I h;refine wpAny_Call_Name_kw (cI I hg hm boot_list ?_ (by decide) (by decide));refine PyProof.Rows.callWith_type1 ?_ s2 rfl;rw[s2];refine spliced_cons ?_;refine Call_ (cI I hgz hmz boot_zip (PyProof.Rows.callWith_type1 (thn (ha pos pins s σ H _ I h) λus s1 ⟨vs,H1,I1,r1,q1⟩=>?_) (by rw[hs,hs2]) (by rw[hs2];rfl)));obtain⟨l1,l2,xs,ys,e,ht1,ht2,q⟩:=q1;subst e;obtain⟨u1,u2,rfl,ru1,ru2⟩:=rk r1;cases ru1;cases ru2;obtain⟨its1,rv1,⟨o1,n1,g1,c1,d1,e1⟩,hz1⟩:=I1.list (SqL.of ht1);obtain⟨its2,rv2,⟨o2,n2,g2,c2,d2,e2⟩,hz2⟩:=I1.list (SqL.of ht2);have k1:s1.heap.IsList l1 its1.toArray:=⟨o1,g1,c1,_,e1⟩;have k2:s1.heap.IsList l2 its2.toArray:=⟨o2,g2,c2,_,e2⟩;refine call_zip_2 k1 k2 λh' a1 a2 a3 a4 a5 a6 a7=>?_;generalize hn:s1.heap.objs.size=n at a1 a2 a3 a4 a5 a6⊢;have b1:l1<n:=by rw[←hn];exact I1.hok.lt ht1
 have b2:l2<n:=by rw[←hn];exact I1.hok.lt ht2
 have hlen:(its1.zip its2).length=(xs.zip ys).length:=by rw[length_zip,length_zip,rv1.length,rv2.length]
 refine spliced_nil ?_;have hzl:(its1.zip its2).length≤sizeLine:=by rw[length_zip,←rv1.length];exact le_trans (Nat.min_le_left _ _) hz1
 refine LZ.sW (s:={s1 with heap:=h'}) (n:=n) (ps:=its1.zip its2) (I.ok.hd hc) b1 b2 (λi p hp=>?_) ?_ hzl
  ⟨.inl ⟨a1,_,_,a3⟩,a2,a4,a5,k1.at λo e=>a7 _ _ e,k2.at λo e=>a7 _ _ e⟩ a1 a6 λg tk acc c as hk hS hl hG hacc=>?_
 ·obtain⟨h1,h2⟩:=getElem?_zip_eq_some.mp hp;exact⟨by simpa using h1,by simpa using h2⟩
 ·rw[length_zip];rcases Nat.le_total its1.length its2.length with h|h
  ·exact .inl (by rw[Nat.min_eq_left h];simp)
  ·exact .inr (by rw[Nat.min_eq_right h];simp)
 ·have k0:∀b o,s1.heap.get? b=some o→g.get? b=some o:=λb o e=>hk b o (by rw[←hn];exact lt_size e) (a7 b o e);rw[hlen]at hl
  let ws:=(xs.zip ys).map λp=>[p.1,p.2]
  let H2:Hp:=λb=>if b=n+5 then some (.lst (as.map V.ref))else match (as.zip ws).lookup b with|some xs=>some (.tup xs)|none=>H1 b
  have above:∀{b:Nat}{xs:List V},(as.zip ws).lookup b=some xs→n+5<b:=λ{b xs} hb=>by
   obtain⟨j,h1,_⟩:=dC hb;exact hG.above b (mem_of_getElem? h1)
  have hl2:H2 (n+5)=some (.lst (as.map V.ref)):=if_pos rfl;have ht2:∀(j:Nat) a p,as[j]?=some a→(xs.zip ys)[j]?=some p→H2 a=some (.tup [p.1,p.2]):=λj a p h1 h2=>by
   have e1:=gr (bs:=ws) hG.rise h1 (by show(List.map _ _)[j]?=_;rw[getElem?_map,h2];rfl);have n1:a≠n+5:=ne_of_gt (above e1);show(if a=n+5 then _ else _)=_;rw[if_neg n1,e1]
  have ext:∀b o,H1 b=some o→H2 b=some o:=λb o hb=>by
   have lt:b<n:=by rw[←hn];exact I1.hok.lt hb
   show(if b=n+5 then _ else _)=_;rw[if_neg (by intro z;rw[z]at lt;exact absurd lt (Nat.not_lt.mpr (le_add_right _ _)))];cases hq:(as.zip ws).lookup b with
   |none=>exact hb
   |some xs=>exact absurd (lt_of_le_of_lt (le_add_right n 5) (above hq)) (Nat.lt_asymm lt)
  have I2:Inv X pins σ H2 {s1 with heap:=g,toks:=tk}:=I1.laids k0 ext λb o hb=>by
   have hb':(if b=n+5 then some (HO.lst (as.map V.ref))else match (as.zip ws).lookup b with|some xs=>some (.tup xs)|none=>H1 b)=some o:=hb
   rw[hn]
   by_cases e:b=n+5
   ·rw[if_pos e]at hb';cases hb';subst e;refine .inr ⟨le_add_right _ _,?_,acc.toList,c,?_,by simpa using hS⟩
    ·rw[length_map,hl,←hlen];exact hzl
    ·rw[hacc];exact il as
   ·rw[if_neg e]at hb';cases hq:(as.zip ws).lookup b with
    |none=>rw[hq]at hb';exact .inl hb'
    |some zs =>
     rw[hq]at hb';cases hb';refine .inr ⟨le_of_lt (lt_of_le_of_lt (le_add_right n 5) (above hq)),?_⟩;obtain⟨j,h1,h2⟩:=dC hq;obtain⟨p,hp,ho⟩:=hG.pairs j b h1;obtain⟨hp1,hp2⟩:=getElem?_zip_eq_some.mp hp;obtain⟨x1,hx1,rx1⟩:=iP rv1 hp1;obtain⟨x2,hx2,rx2⟩:=iP rv2 hp2;have hw:ws[j]?=some [x1,x2]:=by
      show(List.map _ _)[j]?=_;rw[getElem?_map,(getElem?_zip_eq_some (z:=(x1,x2))).mpr ⟨hx1,hx2⟩];rfl
     rw[hw]at h2;cases h2;exact⟨le_of_lt (ap (show 2≤1000 by decide)),[p.1,p.2],.cons rx1 (.cons rx2 .nil),⟨_,ho,rfl,_,rfl⟩⟩
  exact⟨.ref (n+5),H2,I2,rfl,q _ as H2 ext hl2 (I1.hok.fresh (by rw[hn];exact le_add_right _ _)) hl ht2⟩
end
theorem gs:entryFor table "dict_itemiterator.__iter__"=some Builtin.«dict_keyiterator.__iter__» :=
 entryFor_alias (id':="dict_keyiterator.__iter__") (by kernel_rfl) rfl (by decide +kernel) (by kernel_rfl)
def Iti(d:Addr)(o:Obj)(kvs:List (Key×V)):It :=
 ⟨λi H=>H d=some (.frz o (.dK kvs))∧i<kvs.length,λi H v H'=>∃p kv,H p=none∧v=.ref p∧kvs[i]?=some kv∧H'=upd H p (.tup [kV kv.1,kv.2]),λi H=>H d=some (.frz o (.dK kvs))∧kvs.length≤i⟩
theorem pB{X:Cx}{pins:List (Addr×Obj)}{σ:St}{H:Hp}{s:Shared}{d:Addr}{o:Obj}{kvs:List (Key×V)}{es:Array DictEntry}{ep:Nat}(I:Inv X pins σ H s)(hd:o.data=.dict es ep)(h:H d=some (.frz o (.dK kvs))):
  ∃vs,KV kvs vs∧s.heap.DictAt (ak X.prog X.w) d vs ep:=by
 obtain⟨ho,hz,hsm,vs,rel,o',es',ep',ho',hx',hd',hk',hp',hn'⟩:=I.hok d _ h;rw[ho]at ho';cases ho';rw[hd]at hd';cases hd';exact⟨vs,rel,o,es,ho,hx',hd,hk',hp',hn'⟩
theorem kZ{P:Program}{w:World}{K:PySem.W.Frag}{es:List Expr}{k:Nat}{p0:Pos}{d it:Addr}{o:Obj}{kvs:List (Key×V)}{des:Array DictEntry}{ep:Nat}(hd:o.data=.dict des ep):
  Turn P w K (.Tuple es k p0) (Iti d o kvs) [it] it (λi h=>∃ok ov,IsItemIter h it d i kvs.length ep ok ov) where
 mem:=by simp
 obj:=λi h st b hb=>by
  have e:b=it:=by simpa using hb
  subst e;obtain⟨ok,ov,e⟩:=st;exact⟨_,e,λv z=>nomatch z⟩
 keep:=λi h h' st k=>by
  obtain⟨ok,ov,e⟩:=st;exact⟨ok,ov,k it (by simp) _ e⟩
 item:=by
  intro X hP hw hK hc i pins s σ H E I hf st hg;subst hP hw hK;obtain⟨hH,hi⟩:=hg;obtain⟨ok,ov,hit⟩:=st;obtain⟨vs,rel,da⟩:=pB I hd hH;obtain⟨f0,f1,f2,f3,f4,f5⟩:=hf it (by simp);have hl:kvs.length=vs.length:=rel.length;obtain⟨⟨k,v⟩,hq⟩:∃q,vs[i]?=some q:=⟨vs[i]'(by omega),getElem?_eq_getElem (by omega)⟩;obtain⟨kv,hkv,ek,rv⟩:=uv rel hq;have ek':kv.1=k:=ek;rw[hl]at hit;refine wpAny_pyNext_items_item hit da hq λkey g hkey hout hnew hsz kp=>⟨_,rfl,?_⟩;refine wpAny_letOwnedTupleGo_items hout λg' hit' sb=>?_;have nz:s.heap.objs.size≠it:=ne_of_gt (lt_size hit);have kp':∀c o,c≠it→s.heap.get? c=some o→g'.get? c=some o:=λc o c1 e=>(sb.2 c c1).trans (kp c o c1 e);have kpO:∀c o,c∉[it]→s.heap.get? c=some o→g'.get? c=some o:=λc o hn e=>kp' c o (λq=>hn (by simp[q])) e;have hnot:∀c o,H c=some o→c∉[it]:=λc o e hm=>by rw[(hf c hm).1]at e;cases e
  have nsz:∀c o,s.heap.get? c=some o→c≠s.heap.objs.size:=λc o e=>ne_of_lt (lt_size e);have trk:∀c o,H c=some o→c≠s.heap.objs.size:=λc o e=>ne_of_lt (I.hok.lt e);have new':g'.get? s.heap.objs.size=some {cls:=.type "tuple",data:=.seq #[key,v]}:=(sb.2 _ nz).trans hnew;have okH:HOk X.prog X.w (upd H s.heap.objs.size (.tup [kV kv.1,kv.2])) g':=λc o e=>by
   by_cases ec:c=s.heap.objs.size
   ·subst ec;rw[ac]at e;cases e;exact⟨by show 2≤sizeLine;rw[sizeLine_eq];decide,[key,v],.cons (by rw[ek'];exact uw hkey) (.cons rv .nil),⟨_,new',rfl,0,rfl⟩⟩
   ·rw[ag ec]at e;refine(I.hok c o e).stay (λd v hd q=>kpO d v ?_ q) (λd q=>by rw[ag (trk d _ q)];exact q) λd zs q=>by rw[ag (trk d _ q)];exact q
    rcases hd with rfl|hd
    ·exact hnot _ _ e
    ·exact hnot _ _ hd
  have I2:Inv X pins σ (upd H s.heap.objs.size (.tup [kV kv.1,kv.2])) {s with heap:=g'}:=by
   refine I.step (g':=s.gens) (t':=s.toks) (d':=s.drawn) (ch:=[it]) (λc hc'=>?_) (λc o _ _ hn e _=>kpO c o hn e) (λc o _ _ hn e _=>⟨o.slots,kpO c o hn e⟩) (λc o _ e n=>by rw[ag (nsz c o e)];exact n) (λc o hn e=>⟨o,kpO c o hn e⟩)
    (λc zs q=>by rw[ag (trk c _ q)];exact q) (λc o u q=>by rw[ag (trk c _ q)];exact q) (λc ps q=>⟨#[],by rw[ag (trk c _ q),q];simp⟩) (λm hm=>?_) okH I.bare
   ·obtain⟨f0,f1,f2,f3,f4,f5⟩:=hf c hc';exact⟨f3,f1,f4,f5⟩
   ·obtain⟨o,es',ep,ho,r⟩:=hm;exact⟨o,es',ep,kpO _ o (λhm'=>(hf _ hm').2.1 rfl) ho,r⟩
  refine⟨.ref s.heap.objs.size,_,I2,rfl,⟨s.heap.objs.size,kv,I.hok.fresh (le_refl _),rfl,hkv,rfl⟩,⟨_,_,by rw[hl];exact hit'⟩,λc hc'=>?_⟩;have e:c=it:=by simpa using hc'
  subst e;rw[ag (symm nz)];exact f0
 done:=by
  intro X hP hw hK hc i pins s σ H E I hf st hg;subst hP hw hK;obtain⟨hH,hi⟩:=hg;obtain⟨ok,ov,hit⟩:=st;obtain⟨vs,rel,da⟩:=pB I hd hH;obtain⟨f0,f1,f2,f3,f4,f5⟩:=hf it (by simp);have hl:kvs.length=vs.length:=rel.length;rw[hl]at hit;exact wpAny_pyNext_items_end (I.ok.hd hc) hit da (getElem?_eq_none (by omega)) λh' eb=>⟨rfl,I.turned (t':=s.toks) (λb o hb e=>eb b o hb e) f0 f1 f3 f4 f5⟩
 self:=λA i s Q E st hq=>by
  obtain⟨ok,ov,hit⟩:=st;have hT:s.TypeIs (.ref it) "dict_itemiterator":=⟨_,hit,rfl⟩;refine wpAny_pyIter_slot hT PySem.F.slot_dict_itemiterator_iter (wpAny_call_entry PySem.F.slot_dict_itemiterator_iter hT gs ?_ (PySem.F.args_dict_itemiterator_iter_1 _));show wpAny _ _ (ret (.ref it)) _ _ s;exact wpAny_pure ⟨_,rfl,"dict_itemiterator",_,hT,PySem.F.slot_dict_itemiterator_next.lookup,hq⟩
section
variable{X:Cx}
def sX(td:TE):TI:=λσ H R=>td σ H λv H1=>∃d kvs,v=.ref d∧H1 d=some (.dK kvs)∧∀o,R (Iti d o kvs) (upd H1 d (.frz o (.dK kvs)))
theorem pC{es:List Expr}{k:Nat}{p0:Pos}{e:Expr}{te:TE}{apos cpos:Pos}(he:PE X e te)(hbase:attributeBase e "items" X.env (eval e X.env)=eval e X.env:=by rfl)(hline:(apos.endLine==cpos.line)=true:=by rfl):
  PI X (.Tuple es k p0) (.Call (.Attribute e "items" apos) [] [] cpos) (sX te):=by
 intro pins s σ H R I h;refine wpAny_Call_method0_late hbase hline (thn (he pins s σ H _ I h) λv s1 hpt=>?_);obtain⟨x,H1,I1,r1,q1⟩:=hpt;obtain⟨d,kvs,rfl,hH,q⟩:=q1;cases r1;obtain⟨hz,hsm,vs,rel,o,es,ep,ho,hx,hd,hk,hp,hn⟩:=I1.hok d _ hH;have I2:Inv X pins σ (upd H1 d (.frz o (.dK kvs))) s1:=I1.write (t':=s1.toks) (x:=d) (e:=d) (by rw[hH];trivial) (.inl rfl) (λ_ _ _ q=>q) ⟨o,ho⟩ ⟨ho,hz,hsm,vs,rel,o,es,ep,ho,hx,hd,hk,hp,hn⟩;have dd:s1.heap.DictOf (ak X.prog X.w) d vs:=⟨o,es,ep,ho,hx,hd,hk,hp,hn⟩;have da:s1.heap.DictAt (ak X.prog X.w) d vs ep:=⟨o,es,ho,hx,hd,hk,hp,hn⟩;have hT:s1.TypeIs (.ref d) "dict":=dd.typeIs;refine⟨"dict","dict.items",plainAttrs_dict,slot_dict_items,PySem.F.type_dict_items,hT,?_,callWith_builtin rfl (PySem.evalArgs_none ?_)⟩
 ·intro a ea;cases ea;exact⟨o,ho,hx.2.1⟩
 ·show wpAny _ _ (call (.builtin "dict.items") [.ref d]) _ _ _;have key:∀(Q:Value→Shared→Prop)(E:Value→Shared→Prop),Q (.ref s1.heap.objs.size) {s1 with heap:=s1.heap.push {cls:=.type "dict_items",data:=.fields #[.ref d]}}→wpAny (model X.prog X.w) X.A (call (.builtin "dict.items") [.ref d]) Q E s1:=λQ E hq =>
   wpAny_call (codeAny_call_builtin slot_dict_items.plain PySem.F.entry_dict_items (slot_dict_items.check _ _ _ _ _ _ _ _ hT (PySem.F.args_dict_items_1 _) (meets_dict_items (ak X.prog X.w) d hsm X.A (wants Q E) s1 ⟨⟨vs,dd⟩,hq⟩)))
  refine key _ _ ?_;have hsz:(s1.heap.push {cls:=.type "dict_items",data:=.fields #[.ref d]}).objs.size=s1.heap.objs.size+1:=size_push' ..;refine wpAny_pyIter_items (knd:=ak X.prog X.w) (d:=d) (kvs:=vs) (ep:=ep) ⟨_,get?_push_size _ rfl,rfl,rfl⟩ (da.push _) ?_;refine⟨(s1.heap.push {cls:=.type "dict_items",data:=.fields #[.ref d]}).objs.size,[(s1.heap.push {cls:=.type "dict_items",data:=.fields #[.ref d]}).objs.size],_,_,upd H1 d (.frz o (.dK kvs)),rfl,I2.kept (t':=s1.toks) λb o e=>get?_push_of_some _ (get?_push_of_some _ e),kZ hd,⟨.none,.none,by rw[rel.length];exact get?_push_size _ rfl⟩,λb hb=>?_,q o⟩;have e:b=s1.heap.objs.size+1:=by rw[←hsz];simpa using hb
  subst e;exact I2.fpOk (le_succ _) (I2.hok.fresh (le_succ _))
end
theorem nh{d:Addr}{o:Obj}{kvs:List (Key×V)}{g:TG}{tb:TS}{D:Ends}{σ:St}{H:Hp}(Pv:Nat→St→Hp→Prop)(h0:Pv 0 σ H)(hl:∀i σ H,i≤kvs.length→Pv i σ H→H d=some (.frz o (.dK kvs)))(hs:∀i kv p σ H,kvs[i]?=some kv→Pv i σ H→H p=none→g (.ref p) σ (upd H p (.tup [kV kv.1,kv.2])) λσ2 H2=>tb {D with nx:=Pv (i+1),ct:=Pv (i+1),bk:=D.nx} σ2 H2)(hd:∀σ H,Pv kvs.length σ H→D.nx σ H):
  ∃W:Nat→Nat→St→Hp→Prop,(∃m,W 0 m σ H)∧∀i m σ H,W i m σ H →
   ((Iti d o kvs).stop i H∧D.nx σ H)∨((Iti d o kvs).go i H∧∃N:St→Hp→Prop,(∀σ' H',N σ' H'→∃m',m'<m∧W (i+1) m' σ' H')∧∀x H',(Iti d o kvs).yld i H x H'→g x σ H' λσ2 H2=>tb {D with nx:=N,ct:=N,bk:=D.nx} σ2 H2):=by
 refine⟨λi m σ H=>m=kvs.length-i∧i≤kvs.length∧Pv i σ H,⟨kvs.length,by simp,zero_le _,h0⟩,?_⟩;rintro i m σ H ⟨rfl,hi,p⟩;have q:=hl i σ H hi p
 by_cases hlt:i<kvs.length
 ·refine .inr ⟨⟨q,hlt⟩,Pv (i+1),λσ' H' p'=>⟨kvs.length-(i+1),by omega,rfl,hlt,p'⟩,λx H' y=>?_⟩;obtain⟨pa,kv,hp,rfl,hkv,rfl⟩:=y;exact hs i kv pa σ H hkv p hp
 ·have e:i=kvs.length:=by omega
  subst e;exact .inl ⟨⟨q,le_refl _⟩,hd σ H p⟩
end L2
namespace TK
open PySem L2
def ksL(wo wn:List Wt)(s:Int):List (Int×Int):=(wtS wo (λx=>∃y,Kp wo wn x y) s).zip (wtS wn (λy=>∃x,Kp wo wn x y) s)
def ksA(wo wn:List Wt)(ns:List Int):List (Int×Int):=ns.flatMap (ksL wo wn)
section
variable{t u:List Nd}{wo wn:List Wt}{ns:List Int}
theorem eE{s b a:Int}:(b,a)∈ksL wo wn s↔∃i:Nat,(wtS wo (λx=>∃y,Kp wo wn x y) s)[i]?=some b∧(wtS wn (λy=>∃x,Kp wo wn x y) s)[i]?=some a:=by
 unfold ksL;rw[mem_iff_getElem?];constructor
 ·rintro⟨i,h⟩;obtain⟨h1,h2⟩:=getElem?_zip_eq_some.mp h;exact⟨i,h1,h2⟩
 ·rintro⟨i,h1,h2⟩;exact⟨i,(getElem?_zip_eq_some (z:=(b,a))).mpr ⟨h1,h2⟩⟩
theorem qY(hns:∀s,s∈ns↔wtS wo (λx=>∃y,Kp wo wn x y) s≠[]){b a:Int}:(b,a)∈ksA wo wn ns↔Ks wo wn b a:=by
 unfold ksA Ks;rw[mem_flatMap];constructor
 ·rintro⟨s,_,h⟩;exact⟨s,eE.mp h⟩
 ·rintro⟨s,i,h1,h2⟩;exact⟨s,(hns s).mpr λe=>by rw[e]at h1;simp at h1,eE.mpr ⟨i,h1,h2⟩⟩
theorem lQ{α β:Type}:∀(as:List α)(bs:List β),((as.zip bs).map (·.1)).Sublist as
 |[],_=>by simp
 |a::as,[]=>by simp
 |a::as,b::bs=>by
  rw[zip_cons_cons,map_cons];exact(lQ as bs).cons₂ a
theorem sY(T:TW.Tree1 t)(ho:Wk t wo)(s:Int):((ksL wo wn s).map (·.1)).Nodup:=by
 have h:=rp (ho.nums T) (out:=λx=>∃y,Kp wo wn x y) (s:=s);unfold ksL;exact h.sublist (lQ _ _)
theorem pD(T:TW.Tree1 t)(ho:Wk t wo)(hn:ns.Nodup):((ksA wo wn ns).map (·.1)).Nodup:=by
 unfold ksA
 induction ns with
 |nil=>exact nodup_nil
 |cons s r ih =>
  obtain⟨h1,h2⟩:=nodup_cons.mp hn;rw[List.flatMap_cons,map_append,nodup_append];refine⟨sY T ho s,ih h2,λx hx y hy e=>?_⟩;subst e;obtain⟨⟨b,a⟩,hp,e⟩:=mem_map.mp hx;obtain⟨⟨b',a'⟩,hq,e'⟩:=mem_map.mp hy;obtain⟨s',hs',hq⟩:=mem_flatMap.mp hq;obtain⟨i,g1,_⟩:=eE.mp hp;obtain⟨j,g2,_⟩:=eE.mp hq;obtain⟨w,hw,e1,e2,_⟩:=cw (mem_of_getElem? g1);obtain⟨w',hw',e1',e2',_⟩:=cw (mem_of_getElem? g2);have e3:=ho.node T hw hw' (e1.trans ((show b=b' from e.trans e'.symm).trans e1'.symm));subst e3;have es:s=s':=Option.some.inj (e2.symm.trans e2');subst es;exact h1 hs'
theorem qZ(T:TW.Tree1 t)(ho:Wk t wo)(hn:ns.Nodup):(ksA wo wn ns).length≤wo.length:=by
 have:=Nodup.length_le_of_subset (pD (wn:=wn) T ho hn) (l₂:=wo.map (·.2.num)) λx hx=>by
  obtain⟨⟨b,a⟩,hp,e⟩:=mem_map.mp hx;unfold ksA at hp;obtain⟨s,_,hp⟩:=mem_flatMap.mp hp;obtain⟨i,g1,_⟩:=eE.mp hp;obtain⟨w,hw,e1,_⟩:=cw (mem_of_getElem? g1);exact mem_map.mpr ⟨w,hw,e1.trans e⟩
 rw[length_map,length_map]at this;exact this
end
theorem sZ{K:PySem.W.Frag}{js:List Nat}{J:It}{te:TE}{σ:St}{H1:Hp}{Q:VK}{p:Addr}{fr:List (Option V)}(cs:List (Addr×Int×Int))(hn:cs.length≤1000)(hp:H1 p=none)(S:Src J H1 (au cs))(hC:Cpl H1 cs)(hfr:bg 2 js σ=none::none::fr)(R:Addr×Int×Int→V→Hp→Prop)(hR:∀z y H H',R z y H→Ext p H H'→R z y H')(elt:∀z H' (k:VK),z∈cs→Same H1 H'→(∃ys,H' p=some (.lst ys))→(∀y H4,Same H' H4→R z y H4→k y H4)→te (some (.int z.2.1)::some (.int z.2.2)::fr) H' k)(fin:∀ys H',Same H1 H'→H' p=some (.lst ys)→Paired (λz y=>R z y H') cs ys→Q (.ref p) H'):LcW 2 js (jR K 2 (cx (aJ 0) (cx (aJ 1) jQ))) te σ Q J H1 p:=by
 have grow:∀{as:List (Addr×Int×Int)}{ys:List V}{H H':Hp},Ext p H H'→Paired (λz y=>R z y H) as ys→Paired (λz y=>R z y H') as ys:=λex r=>Paired.mapP r λa b h=>hR a b _ _ h ex;have hlen:∀{as:List (Addr×Int×Int)}{ys:List V}{H:Hp},Paired (λz y=>R z y H) as ys→ys.length=as.length:=λr=>(Paired.length r).symm;refine⟨λi m ys σ' H'=>m=cs.length-i∧i≤cs.length∧(∃o o',σ'=o::o'::fr)∧Same H1 H'∧H' p=some (.lst ys)∧Paired (λz y=>R z y H') (cs.take i) ys,⟨cs.length,by simp,zero_le _,⟨none,none,hfr⟩,ae hp,ac,.nil⟩,?_⟩;rintro i m ys σ' H' ⟨rfl,hi,⟨o,o',rfl⟩,s1,hl,hys⟩;have lc:(au cs).length=cs.length:=by unfold au;rw[length_map]
 by_cases hlt:i<cs.length
 ·have hlt':i<(au cs).length:=by rw[lc];exact hlt
  refine .inr ⟨S.go i H' hlt' s1,?_,λx H2 hy=>?_⟩
  ·have h1:ys.length≤cs.length:=by
    rw[hlen hys,length_take];omega
   exact lt_of_le_of_lt h1 (ap hn)
  ·obtain⟨rfl,hx⟩:=S.yl i H' x H2 hlt' s1 hy;have gz:cs[i]?=some cs[i]:=getElem?_eq_getElem hlt;have mz:=mem_of_getElem? gz;unfold au at hx;rw[getElem?_map,gz]at hx;have ex:V.ref cs[i].1=x:=Option.some.inj hx;have et:cs.take (i+1)=cs.take i++[cs[i]]:=ax gz;subst ex;generalize cs[i]=z at gz mz et⊢;refine⟨z.1,_,rfl,SqT.of (s1 _ _ (hC z mz)),rfl,_,_,rfl,_,_,rfl,rfl,?_⟩;refine elt z H2 _ mz s1 ⟨ys,hl⟩ λy H5 s5 r5=>⟨s5 _ _ hl,cs.length-(i+1),by omega,rfl,hlt,⟨_,_,rfl⟩,ar hp (s1.trans s5),ac,?_⟩;rw[et];exact L2.Paired.snoc (grow ((Ext.of s5).trans Ext.upd) hys) (hR _ _ _ _ r5 Ext.upd)
 ·have e:i=cs.length:=by omega
  subst e;have st:=S.stop H' s1;rw[lc]at st;refine .inl ⟨st,fin ys H' s1 hl ?_⟩;rw[take_length]at hys;exact hys
theorem ff{κ:Type}[DecidableEq κ]{kvs:List (κ×V)}{k:κ}:(aE kvs k).isSome=true↔k∈kvs.map (·.1):=by
 unfold aE;rw[isSome_map,List.find?_isSome,mem_map];exact⟨λ⟨p,h,e⟩=>⟨p,h,of_decide_eq_true e⟩,λ⟨p,h,e⟩=>⟨p,h,decide_eq_true e⟩⟩
theorem pE{H:Hp}{a b:Addr}{x y:HO}(h:a≠b):upd (upd H a x) b y=upd (upd H b y) a x:=by
 funext c
 by_cases e:c=a
 ·subst e;rw[ag h,ac,ac]
 ·by_cases e':c=b
  ·subst e';rw[ac,ag e,ac]
  ·rw[ag e',ag e,ag e,ag e']
section
variable{P:Program}{w:World}{K:PySem.W.Frag}{mg:Str→Option Value}{base:Heap}
def pF:Sp:=λvs H Q _=>∃t u l zs us cs wo wn,vs=[.ref t,.ref u,.ref l]∧Tre H t zs∧Tre H u us∧Wk (nds zs) wo∧Wk (nds us) wn∧H l=some (.lst (au cs))∧Cpl H cs∧(cs.map (·.2.1)).Nodup∧(cs.map (·.2.2)).Nodup∧(∀b a,(b,a)∈cs.map (·.2)↔Kp wo wn b a)∧cs.length≤60 ∧
 ∀l' ds H',Same H H'→H' l'=some (.lst (au ds))→Cpl H' ds→(ds.map (·.2.1)).Nodup→(∀b a,(b,a)∈ds.map (·.2)↔Ks wo wn b a)→ds.length≤60→Q (.ref l') H'
def ksN:List Str:=["old","new","couples","waiting","free","found","stamp","numbers"]
theorem nn:FnScope ksN ["old","new","couples"] (aj bx):=fsc
theorem tf{f:Addr}{fd:FuncData}(F:Fun K "known_by_stamps" "known_by_stamps" bx f fd)(T:Txt mg)(CF:Has P w K mg base 4 "files_by_stamps" ["tree","left_out"] pk):FnOk P w K mg base CX0 5 f fd ["old","new","couples"] pF:=by
 obtain⟨fW,fdW,GW,mW,kW,bW⟩:=CF;refine F.ok nn (λvs H Q E h=>?_) (λcdv A outer s H vs Q E hr h=>?_)
 ·obtain⟨t,u,l,zs,us,cs,wo,wn,rfl,_⟩:=h;rfl
 ·obtain⟨t,u,l,zs,us,cs,wo,wn,rfl,tr,ur,ho,hn,hl,hC,nd1,nd2,hK,clen,q⟩:=h;refine⟨_,ah (aw (i:=3) nn.nd rfl (Or.inl rfl) (am GW hr rfl mW kW bW .nil aC (aa (pv 0) (aa (aD (cY rfl) rfl T.dict boot_dict (aa (pv 2) af)) af))))
   (ah (aw (i:=4) nn.nd rfl (Or.inl rfl) (am GW hr rfl mW kW bW .nil aC (aa (pv 1) (aa (aD (cY rfl) rfl T.dict boot_dict (aa
    (cg (N:=["before","after"]) (k:=2) (js:=[]) (g:=jR K 2 (cx (aJ 0) (cx (aJ 1) jQ))) rfl (ci rfl (by decide +kernel) (by decide +kernel) (by decide +kernel)) rfl (λi j x h=>by simp at h) (bc (pv 2))
     (λs H fp=>cq (n:=2) rfl (az (ao (i:=0) (show(["before","after"]:List Str).Nodup by decide +kernel) rfl (Or.inl rfl) (Or.inr rfl)) (az (ao (i:=1) (show(["before","after"]:List Str).Nodup by decide +kernel) rfl (Or.inl rfl) (Or.inr rfl)) bM)))
     (λs H fp=>bD (aa (pv 1) (aa (pv 0) af)))) af)) af))))
   (ah (aw (i:=5) nn.nd rfl (Or.inl rfl) (cr af))
   (ah (dn PassesOwn.never rfl (pC (pv 3)) (cq (n:=2) rfl (az (ao (i:=6) nn.nd rfl (Or.inl rfl)) (az (ao (i:=7) nn.nd rfl (Or.inl rfl)) bM)))
    (al (de (dN plainAttrs_list PySem.F.slot_list_extend PySem.F.type_list_extend mh (pv 5) (aa (kY rfl rfl T.list rfl T.zip (aa (pv 7) (aa (nN (bn hr) (pv 4) (pv 6) (cr af) ⟨rfl,rfl,rfl,rfl⟩) af))) af)))))
   (al (aH (pv 5)))))),?_⟩
  have z100:∀{n:Nat},n≤100→n<sizeLine:=λh=>ap (by omega);refine⟨_,rfl,_,rfl,l,cs.map λc=>(c.1,(Sum.inl c.2.1:Key),V.int c.2.2),rfl,by rw[hl];unfold au;rw[map_map,map_map];rfl,λz hz=>?_,by rw[length_map];omega,?_,λd hd=>?_⟩
  ·obtain⟨c,hc,rfl⟩:=mem_map.mp hz;exact hC c hc
  ·rw[map_map];have e:(cs.map ((λz:Addr×Key×V=>z.2.1)∘λc=>(c.1,(Sum.inl c.2.1:Key),V.int c.2.2)))=(cs.map (·.2.1)).map Sum.inl:=by rw[map_map];rfl
   rw[e];unfold Nodup at nd1⊢;rw[pairwise_map];exact nd1.imp λh e=>h (Sum.inl.inj e)
  have s1:=ae (o:=.dK ((cs.map λc=>(c.1,(Sum.inl c.2.1:Key),V.int c.2.2)).map (·.2))) hd;have hd1:upd H d (.dK ((cs.map λc=>(c.1,(Sum.inl c.2.1:Key),V.int c.2.2)).map (·.2))) d=_:=ac;generalize upd H d (.dK ((cs.map λc=>(c.1,(Sum.inl c.2.1:Key),V.int c.2.2)).map (·.2)))=H1 at s1 hd1⊢;refine⟨t,d,zs,_,(λx=>∃y,Kp wo wn x y),rfl,tr.same s1,.inl hd1,λk=>?_,λe1 L1 ns1 ws H2 sa wk1 wlen1 g1=>?_⟩
  ·rw[ff,map_map,map_map,mem_map];constructor
   ·rintro⟨c,hc,e⟩;have e':c.2.1=k:=Sum.inl.inj e;exact⟨c.2.2,(hK _ _).mp (mem_map.mpr ⟨c,hc,by rw[←e']⟩)⟩
   ·rintro⟨y,h⟩;obtain⟨c,hc,e⟩:=mem_map.mp ((hK _ _).mpr h);exact⟨c,hc,congrArg Sum.inl (congrArg Prod.fst e)⟩
  obtain rfl:=wk1.one ho;have s2:=s1.trans g1.same;refine⟨_,rfl,_,rfl,l,rfl,⟨_,SqL.of (s2 _ _ hl)⟩,λp hp=>sZ (fr:=[]) cs (by omega) hp (cn (SqL.of (s2 _ _ hl))) (hC.same s2) rfl (λc y H=>∃q,y=.ref q∧q≠p∧H q=some (.tup [.int c.2.2,.int c.2.1])) ?_ (λc H' k mc s3 hpl hk=>?_) (λys H3 s3 hp3 hys=>?_)⟩
  ·rintro c y Ha Hb ⟨q,e,n,h⟩ ex;exact⟨q,e,n,ex q _ n h⟩
  ·obtain⟨yy,hyy⟩:=hpl;exact⟨_,rfl,_,rfl,bh (show 2≤1000 by decide),λq hq=>hk _ _ (ae hq) ⟨q,rfl,(λz=>by rw[z,hyy]at hq;cases hq),ac⟩⟩
  obtain⟨bs,eb1,eb2,hbs⟩:=ce (val:=V.ref) (S:=λ(c:Addr×Int×Int) q=>H3 q=some (.tup [.int c.2.2,.int c.2.1])) hys λz y _ ⟨q,e,_,h⟩=>⟨q,e,h⟩;have blen:bs.length≤60:=by rw[←eb1,length_map]at clen;exact clen
  refine⟨p,bs.map λx=>(x.2,(Sum.inl x.1.2.2:Key),V.int x.1.2.1),rfl,by rw[hp3,eb2,map_map,map_map];rfl,λz hz=>?_,by rw[length_map];omega,?_,λd2 hd2=>?_⟩
  ·obtain⟨x,hx,rfl⟩:=mem_map.mp hz;exact hbs x hx
  ·rw[map_map];have e:(bs.map ((λz:Addr×Key×V=>z.2.1)∘λx=>(x.2,(Sum.inl x.1.2.2:Key),V.int x.1.2.1)))=(cs.map (·.2.2)).map Sum.inl:=by rw[←eb1,map_map,map_map];rfl
   rw[e];unfold Nodup at nd2⊢;rw[pairwise_map];exact nd2.imp λh e=>h (Sum.inl.inj e)
  have s4:=s3.trans (ae (o:=.dK ((bs.map λx=>(x.2,(Sum.inl x.1.2.2:Key),V.int x.1.2.1)).map (·.2))) hd2);have hd4:upd H3 d2 (.dK ((bs.map λx=>(x.2,(Sum.inl x.1.2.2:Key),V.int x.1.2.1)).map (·.2))) d2=_:=ac;generalize upd H3 d2 (.dK ((bs.map λx=>(x.2,(Sum.inl x.1.2.2:Key),V.int x.1.2.1)).map (·.2)))=H4 at s4 hd4⊢;refine⟨u,d2,us,_,(λy=>∃x,Kp ws wn x y),rfl,ur.same (s2.trans s4),.inl hd4,λk=>?_,λe2 L2 ns2 ws2 H5 sb wk2 wlen2 g2=>?_⟩
  ·rw[ff,map_map,map_map,mem_map];constructor
   ·rintro⟨x,hx,e⟩;have e':x.1.2.2=k:=Sum.inl.inj e;have mc:x.1∈cs:=by rw[←eb1];exact mem_map.mpr ⟨x,hx,rfl⟩
    exact⟨x.1.2.1,(hK _ _).mp (mem_map.mpr ⟨x.1,mc,by rw[←e']⟩)⟩
   ·rintro⟨y,h⟩;obtain⟨c,hc,e⟩:=mem_map.mp ((hK _ _).mpr h);rw[←eb1]at hc;obtain⟨x,hx,rfl⟩:=mem_map.mp hc;exact⟨x,hx,congrArg Sum.inl (congrArg Prod.snd e)⟩
  obtain rfl:=wk2.one hn;have w1:=g1.grow (s4.trans g2.same);have ne12:e2≠e1:=λz=>by have h:=g2.d0;rw[z,(g1.grow s4).dict]at h;cases h
  have sH5:Same H H5:=(s2.trans s4).trans g2.same;have e1H:H e1=none:=s1.free g1.d0;refine⟨bh (by decide),λfd hfd=>?_⟩;refine⟨_,rfl,e1,_,rfl,by rw[ag λz=>by rw[←z,w1.dict]at hfd;cases hfd];exact w1.dict,λo=>?_⟩;have nfd:fd≠e1:=λz=>by rw[z,w1.dict]at hfd;cases hfd
  rw[pE nfd];have sB:Same H (upd H5 e1 (.frz o (.dK (ns1.map λk=>((Sum.inl k:Key),V.ref (L1 k)))))):=ar e1H sH5;have bE1:upd H5 e1 (.frz o (.dK (ns1.map λk=>((Sum.inl k:Key),V.ref (L1 k))))) e1=_:=ac;have bL1:∀k∈ns1,upd H5 e1 (.frz o (.dK (ns1.map λk=>((Sum.inl k:Key),V.ref (L1 k))))) (L1 k)=some (.lst (gv (cH ws λx=>∃y,Kp ws ws2 x y) k)):=λk hk=>by
   have h:=(w1.at' k hk).1;rw[ag λz=>by rw[z,w1.dict]at h;cases h];exact h
  have bE2:upd H5 e1 (.frz o (.dK (ns1.map λk=>((Sum.inl k:Key),V.ref (L1 k))))) e2=some (.dK (ns2.map λk=>((Sum.inl k:Key),V.ref (L2 k)))):=by rw[ag ne12];exact g2.dict
  have bL2:∀k∈ns2,upd H5 e1 (.frz o (.dK (ns1.map λk=>((Sum.inl k:Key),V.ref (L1 k))))) (L2 k)=some (.lst (gv (cH ws2 λy=>∃x,Kp ws ws2 x y) k)):=λk hk=>by
   have h:=(g2.at' k hk).1;rw[ag λz=>by rw[z,w1.dict]at h;cases h];exact h
  have fdB:upd H5 e1 (.frz o (.dK (ns1.map λk=>((Sum.inl k:Key),V.ref (L1 k))))) fd=none:=by rw[ag nfd];exact hfd
  generalize upd H5 e1 (.frz o (.dK (ns1.map λk=>((Sum.inl k:Key),V.ref (L1 k)))))=B at sB bE1 bL1 bE2 bL2 fdB⊢;have TA:=tr.tr;have nsm:∀s,s∈ns1↔wtS ws (λx=>∃y,Kp ws ws2 x y) s≠[]:=λs=>by rw[w1.mem,kT];simp
  have lenA:∀i,(ksA ws ws2 (ns1.take i)).length≤60:=λi=>le_trans (qZ TA wk1 (w1.nd.sublist (take_sublist _ _))) wlen1;refine nh (λi σ H'=>∃ds x6 x7,σ=[some (.ref t),some (.ref u),some (.ref l),some (.ref e1),some (.ref e2),some (.ref fd),x6,x7]∧Same B H'∧H' fd=some (.lst (au ds))∧Cpl H' ds∧ds.map (·.2)=ksA ws ws2 (ns1.take i))
   ⟨[],_,_,rfl,ae fdB,ac,λc hc=>(not_mem_nil hc).elim,rfl⟩ (λi σ H' _ h=>?_) (λi kv p2 σ H' hkv h hp2=>?_) (λσ H' h=>?_)
  ·obtain⟨ds,x6,x7,rfl,sB',_⟩:=h;exact sB' _ _ bE1
  ·obtain⟨ds,x6,x7,rfl,sB',hfd',hC',em⟩:=h;rw[getElem?_map]at hkv;cases gk:ns1[i]? with
   |none=>rw[gk]at hkv;cases hkv
   |some k =>
    rw[gk]at hkv;cases hkv;have mk:=mem_of_getElem? gk;have sp:=ae (o:=.tup [kV (Sum.inl k:Key),V.ref (L1 k)]) hp2;have hpp:upd H' p2 (.tup [kV (Sum.inl k:Key),V.ref (L1 k)]) p2=_:=ac;have hfd2:=sp _ _ hfd';have hC2:=hC'.same sp;have sB2:=sB'.trans sp;generalize upd H' p2 (.tup [kV (Sum.inl k:Key),V.ref (L1 k)])=H6 at sp hpp hfd2 hC2 sB2⊢;refine⟨p2,_,rfl,SqT.of hpp,rfl,_,_,rfl,_,_,rfl,rfl,?_⟩;refine⟨_,rfl,.inl ⟨rfl,_,SqL.of hfd2⟩,_,rfl,_,rfl,e2,rfl,.inl ⟨_,.inl (sB2 _ _ bE2)⟩,_,rfl,zero_le _,λq7 hq7=>?_⟩;have s7:=ae (o:=.lst []) hq7;have hq8:upd H6 q7 (.lst []) q7=some (.lst []):=ac;have sB7:=sB2.trans s7;have hfd7:=s7 _ _ hfd2;have hC7:=hC2.same s7;generalize upd H6 q7 (.lst [])=H7 at s7 hq8 sB7 hfd7 hC7⊢;refine⟨aE (ns2.map λk=>((Sum.inl k:Key),V.ref (L2 k))) (Sum.inl k:Key),.inl ⟨_,Sum.inl k,.inl (sB7 _ _ bE2),rfl,rfl⟩,?_⟩;obtain⟨lb,elb,hlb⟩:∃lb,(aE (ns2.map λk=>((Sum.inl k:Key),V.ref (L2 k))) (Sum.inl k:Key)).getD (V.ref q7)=.ref lb∧H7 lb=some (.lst (gv (cH ws2 λy=>∃x,Kp ws ws2 x y) k)):=by
     rw[fz]
     by_cases h:k∈ns2
     ·rw[if_pos h];exact⟨_,rfl,sB7 _ _ (bL2 k h)⟩
     ·rw[if_neg h];refine⟨q7,rfl,?_⟩;have e0:gv (cH ws2 λy=>∃x,Kp ws ws2 x y) k=[]:=by
       cases hg:gv (cH ws2 λy=>∃x,Kp ws ws2 x y) k with
       |nil=>rfl
       |cons a r=>exact absurd ((g2.mem k).mpr (by rw[hg];simp)) h
      rw[e0];exact hq8
    rw[elb];refine⟨L1 k,lb,_,_,rfl,sB7 _ _ (bL1 k mk),hlb,λl8 as H8 ext hl8 fl8 alen htup=>?_⟩;have ez:(gv (cH ws λx=>∃y,Kp ws ws2 x y) k).zip (gv (cH ws2 λy=>∃x,Kp ws ws2 x y) k)=(ksL ws ws2 k).map λp=>(V.int p.1,V.int p.2):=by
     rw[kT,kT,List.zip_map];rfl
    rw[ez]at alen htup;rw[length_map]at alen;have hfd8:=ext _ _ hfd7;have nfl:l8≠fd:=λz=>by rw[z,hfd7]at fl8;cases fl8
    have ek:ksA ws ws2 (ns1.take (i+1))=ksA ws ws2 (ns1.take i)++ksL ws ws2 k:=by
     unfold ksA;rw[ax gk,List.flatMap_append,List.flatMap_cons,List.flatMap_nil,append_nil]
    have tot:=lenA (i+1);rw[ek,←em,length_append,length_map,←alen]at tot;refine⟨fd,l8,au ds,as.map V.ref,rfl,rfl,hfd8,hl8,?_,?_⟩
    ·unfold au;rw[length_map,length_map];exact le_of_lt (z100 (by omega))
    have ec:au (as.zip (ksL ws ws2 k))=as.map V.ref:=by
     have h:=congrArg (List.map V.ref) (List.map_fst_zip (l₁:=as) (l₂:=ksL ws ws2 k) (by omega));rw[map_map]at h;exact h
    have ed:(as.zip (ksL ws ws2 k)).map (·.2)=ksL ws ws2 k:=List.map_snd_zip (by omega);refine⟨ds++as.zip (ksL ws ws2 k),_,_,rfl,ar fdB (sB7.trans ext),?_,λc hc=>?_,by rw[map_append,em,ed,ek]⟩
    ·rw[ac];show _=some (HO.lst (au (ds++as.zip (ksL ws ws2 k))));unfold au at ec⊢;rw[map_append,ec]
    ·rcases mem_append.mp hc with hc|hc
     ·have h:=ext _ _ (hC7 c hc);rw[ag λz=>by rw[z,hfd8]at h;cases h];exact h
     ·obtain⟨j,hj⟩:=mem_iff_getElem?.mp hc;obtain⟨j1,j2⟩:=getElem?_zip_eq_some.mp hj;have h:=htup j c.1 (V.int c.2.1,V.int c.2.2) j1 (by rw[getElem?_map,j2];rfl);rw[ag λz=>by rw[z,hfd8]at h;cases h];exact h
  ·obtain⟨ds,x6,x7,rfl,sB',hfd',hC',em⟩:=h;rw[length_map,take_length]at em;have dl:ds.length≤60:=by
    have:=lenA ns1.length;rw[take_length,←em,length_map]at this;exact this
   refine⟨_,rfl,q fd ds H' (sB.trans sB') hfd' hC' ?_ (λb a=>?_) dl⟩
   ·have:=pD (wn:=ws2) TA wk1 w1.nd;rw[←em,map_map]at this;exact this
   ·rw[em,qY nsm]
end
theorem fg{α β:Type}{g:α→β}{ys ms:List β}(h:ys.Perm ms):∀{zs:List α},ms=zs.map g→∃us:List α,us.map g=ys∧us.Perm zs:=by
 induction h with
 |nil =>
  intro zs e;cases zs with
  |nil=>exact⟨[],rfl,.refl _⟩
  |cons a r=>cases e
 |cons x _ ih =>
  intro zs e;cases zs with
  |nil=>cases e
  |cons a r =>
   injection e with e1 e2
   obtain⟨us,h1,h2⟩:=ih e2;exact⟨a::us,by rw[map_cons,h1,e1],h2.cons a⟩
 |swap x y l =>
  intro zs e
  match zs,e with
  |a::b::r,e =>
   injection e with e1 e2
   injection e2 with e2 e3
   exact⟨b::a::r,by rw[map_cons,map_cons,←e1,←e2,←e3],.swap a b r⟩
 |trans _ _ ih1 ih2 =>
  intro zs e;obtain⟨us,h1,h2⟩:=ih2 e;obtain⟨vs,h3,h4⟩:=ih1 h1.symm;exact⟨vs,h3,h4.trans h2⟩
section
variable{P:Program}{w:World}{K:PySem.W.Frag}{mg:Str→Option Value}{base:Heap}
def jK:Sp:=λvs H Q _=>∃t u zs us,vs=[.ref t,.ref u]∧Tre H t zs∧Tre H u us∧∀l cs wo wn H',Same H H'→Wk (nds zs) wo→Wk (nds us) wn→H' l=some (.lst (au cs))→Cpl H' cs→cs.Pairwise (λa b=>a.2.1<b.2.1)→(∀b a,(b,a)∈cs.map (·.2)↔Kn wo wn b a)→cs.length≤30→Q (.ref l) H'
def kaN:List Str:=["old","new","couples"]
theorem uy:FnScope kaN ["old","new"] (aj cv):=fsc
theorem tm{f:Addr}{fd:FuncData}(F:Fun K "known_again" "known_again" cv f fd)(T:Txt mg)(CP:Has P w K mg base 4 "known_by_paths" ["old","new"] pg)(CS:Has P w K mg base 5 "known_by_stamps" ["old","new","couples"] pF):FnOk P w K mg base CX0 6 f fd ["old","new"] jK:=by
 obtain⟨fP,fdP,GP,mP,kP,bP⟩:=CP;obtain⟨fS,fdS,GS,mS,kS,bS⟩:=CS;refine F.ok uy (λvs H Q E h=>?_) (λcdv A outer s H vs Q E hr h=>?_)
 ·obtain⟨t,u,zs,us,rfl,_⟩:=h;rfl
 ·obtain⟨t,u,zs,us,rfl,tr,ur,q⟩:=h;refine⟨_,ah (aw (i:=2) uy.nd rfl (Or.inl rfl) (am GP (hr.mono (by decide)) rfl mP kP bP .nil aC (aa (pv 0) (aa (pv 1) af))))
   (al (aH (aO bH rfl T.sorted boot_sorted (aa (aF rQ (pv 2) (am GS hr rfl mS kS bS .nil aC (aa (pv 0) (aa (pv 1) (aa (pv 2) af))))) af)))),?_⟩
  refine⟨_,rfl,_,rfl,t,u,zs,us,rfl,tr,ur,λl cs wo wn H1 s1 ho hn hl hC nd hK clen=>?_⟩;have inj:∀c∈cs,∀c'∈cs,c.2.2=c'.2.2→c.2.1=c'.2.1:=λc hc c' hc' e=>by
   have h1:=(hK c.2.1 c.2.2).mp (mem_map.mpr ⟨c,hc,rfl⟩);have h2:=(hK c'.2.1 c'.2.2).mp (mem_map.mpr ⟨c',hc',rfl⟩);rw[←e]at h2;exact Kp.fn ur.tr hn ho (Kp.symm.mp h1) (Kp.symm.mp h2)
  have nd2:(cs.map (·.2.2)).Nodup:=by
   unfold Nodup at nd⊢;rw[pairwise_map]at nd⊢;exact nd.imp_of_mem λ{a b} ha hb h e=>h (inj a ha b hb e)
  refine⟨_,rfl,_,rfl,_,rfl,_,rfl,t,u,l,zs,us,cs,wo,wn,rfl,tr.same s1,ur.same s1,ho,hn,hl,hC,nd,nd2,hK,clen,λl2 ds H2 s2 hl2 hD nd3 hS dlen=>?_⟩;have fl:((cs++ds).map (·.2.1)).Nodup:=by
   rw[map_append,nodup_append];refine⟨nd,nd3,λx hx y hy e=>?_⟩;subst e;obtain⟨c,hc,e1⟩:=mem_map.mp hx;obtain⟨d,hd,e2⟩:=mem_map.mp hy;have h1:=(hK c.2.1 c.2.2).mp (mem_map.mpr ⟨c,hc,rfl⟩);obtain⟨s,i,g1,_⟩:=(hS d.2.1 d.2.2).mp (mem_map.mpr ⟨d,hd,rfl⟩);obtain⟨_,_,_,_,no⟩:=cw (mem_of_getElem? g1);rw[e2,←e1]at no;exact no ⟨_,h1⟩
  have kn:∀b a,(b,a)∈(cs++ds).map (·.2)↔Kn wo wn b a:=λb a=>by
   rw[map_append,mem_append,hK,hS];rfl
  have tot:(cs++ds).length≤30:=by
   have:=Nodup.length_le_of_subset fl (l₂:=(nds zs).map (·.num)) λx hx=>by
    obtain⟨c,hc,e⟩:=mem_map.mp hx;obtain⟨⟨w,hw,e1⟩,_⟩:=((kn c.2.1 c.2.2).mp (mem_map.mpr ⟨c,hc,rfl⟩)).has;exact mem_map.mpr ⟨w.2,((ho.mem w.1 w.2).mp hw).1,e1.trans e⟩
   rw[length_map,length_map]at this;have e3:(nds zs).length≤30:=by unfold nds;rw[length_map];exact tr.len
   omega
  refine⟨l,l2,au cs,au ds,rfl,rfl,s2 _ _ hl,hl2,?_,λr hr2=>?_⟩
  ·unfold au;rw[length_map,length_map];rw[length_append]at tot;exact le_of_lt (ap (by omega))
  have s3:=s2.trans (ae (o:=.lst (au cs++au ds)) hr2);have hr3:upd H2 r (.lst (au cs++au ds)) r=some (.lst (au (cs++ds))):=by rw[ac];unfold au;rw[map_append]
  have hE:Cpl (upd H2 r (.lst (au cs++au ds))) (cs++ds):=λc hc=>by
   rcases mem_append.mp hc with hc|hc
   ·exact s3 _ _ (hC c hc)
   ·exact ae hr2 _ _ (hD c hc)
  generalize upd H2 r (.lst (au cs++au ds))=H3 at s3 hr3 hE⊢;generalize cs++ds=es at fl kn tot hr3 hE;refine⟨r,es.map λc=>(c.1,c.2.1,[V.int c.2.2]),rfl,SqL.of (by rw[hr3];unfold au;rw[map_map,map_map];rfl),λz hz=>?_,by rw[map_map];exact fl,by rw[length_map];omega,λzs' pm pw p hp=>?_⟩
  ·obtain⟨c,hc,rfl⟩:=mem_map.mp hz;exact hE c hc
  obtain⟨fs,efs,pfs⟩:∃fs:List (Addr×Int×Int),zs'=fs.map (λc=>(c.1,c.2.1,[V.int c.2.2]))∧fs.Perm es:=by
   obtain⟨us,h1,h2⟩:=fg pm rfl;exact⟨us,h1.symm,h2⟩
  subst efs;rw[pairwise_map]at pw;have sp:=s3.trans (ae (o:=.lst (((fs.map λc=>(c.1,c.2.1,[V.int c.2.2])).map (·.1)).map V.ref)) hp);refine q p fs wo wn _ (s1.trans sp) ho hn (by rw[ac];unfold au;rw[map_map,map_map];rfl) (λc hc=>ae hp _ _ (hE c (pfs.mem_iff.mp hc))) pw (λb a=>?_) (by rw[pfs.length_eq];exact tot);rw[(pfs.map _).mem_iff];exact kn b a
end
def aG(ws:List Wt):List Int:=ws.map (·.2.num)
open Classical in
def unB(wo wn:List Wt)(a:Int):Bool:=decide (¬∃b,Kn wo wn b a)
def unk(wo wn:List Wt):List Int:=(aG wn).filter (unB wo wn)
open Classical in
def hR(wo wn:List Wt)(G:Int)(a:Int):Int:=if a=0 then 0 else if h:∃b,Kn wo wn b a then choose h else G+1+((unk wo wn).idxOf a:Nat)
section
variable{t u:List Nd}{wo wn:List Wt}{G:Int}
theorem gu:hR wo wn G 0=0:=if_pos rfl
open Classical in
theorem cp{a:Int}:unB wo wn a=true↔¬∃b,Kn wo wn b a:=by unfold unB;exact decide_eq_true_iff
theorem dD(T:TW.Tree1 t)(h:Wk t wn){a:Int}(ha:a∈aG wn):1≤a:=by
 obtain⟨w,hw,e⟩:=mem_map.mp ha;rw[←e];exact T.pos _ ((h.mem w.1 w.2).mp hw).1
theorem dE{b a:Int}(h:Kn wo wn b a):b∈aG wo∧a∈aG wn:=by
 obtain⟨⟨w,hw,e⟩,⟨w',hw',e'⟩⟩:=h.has;exact⟨mem_map.mpr ⟨w,hw,e⟩,mem_map.mpr ⟨w',hw',e'⟩⟩
theorem eF(U:TW.Tree1 u)(ho:Wk t wo)(hn:Wk u wn){b a:Int}(h:Kn wo wn b a):hR wo wn G a=b:=by
 have ha:=dD U hn (dE h).2;unfold hR;rw[if_neg (by omega),dif_pos ⟨b,h⟩];exact Kn.inj U ho hn (Classical.choose_spec (p:=λb=>Kn wo wn b a) ⟨b,h⟩) h
theorem fi(U:TW.Tree1 u)(hn:Wk u wn){a:Int}(ha:a∈aG wn)(h:¬∃b,Kn wo wn b a):hR wo wn G a=G+1+((unk wo wn).idxOf a:Nat):=by
 have ha:=dD U hn ha;unfold hR;rw[if_neg (by omega),dif_neg h]
theorem pG{a:Int}(ha:a∈aG wn)(h:¬∃b,Kn wo wn b a):a∈unk wo wn:=mem_filter.mpr ⟨ha,cp.mpr h⟩
def Gre(wo:List Wt)(G:Int):Prop:=0≤G∧∀b∈aG wo,b≤G
theorem ra{a b:Int}{l:List Int}(ha:a∈l)(hb:b∈l)(e:l.idxOf a=l.idxOf b):a=b:=by
 have la:=List.idxOf_lt_length_of_mem ha;have lb:=List.idxOf_lt_length_of_mem hb;have h1:=List.getElem_idxOf la;have h2:=List.getElem_idxOf lb;rw[←h1,←h2];simp only[e]
theorem gw(T:TW.Tree1 t)(U:TW.Tree1 u)(ho:Wk t wo)(hn:Wk u wn)(hG:Gre wo G){a b:Int}(ha:a∈aG wn)(hb:b∈aG wn)(e:hR wo wn G a=hR wo wn G b):a=b:=by
 by_cases h1:∃x,Kn wo wn x a<;>by_cases h2:∃x,Kn wo wn x b
 ·obtain⟨x,h1⟩:=h1;obtain⟨y,h2⟩:=h2;rw[eF U ho hn h1,eF U ho hn h2]at e;subst e;exact Kn.fn T ho hn h1 h2
 ·obtain⟨x,h1⟩:=h1;rw[eF U ho hn h1,fi U hn hb h2]at e;have:=hG.2 x (dE h1).1;omega
 ·obtain⟨x,h2⟩:=h2;rw[eF U ho hn h2,fi U hn ha h1]at e;have:=hG.2 x (dE h2).1;omega
 ·rw[fi U hn ha h1,fi U hn hb h2]at e;exact ra (pG ha h1) (pG hb h2) (by omega)
theorem tq(T:TW.Tree1 t)(U:TW.Tree1 u)(ho:Wk t wo)(hn:Wk u wn)(hG:Gre wo G){a:Int}(ha:a∈aG wn):1≤hR wo wn G a:=by
 by_cases h1:∃x,Kn wo wn x a
 ·obtain⟨x,h1⟩:=h1;rw[eF U ho hn h1];exact dD T ho (dE h1).1
 ·rw[fi U hn ha h1];have:=hG.1;omega
theorem rb(U:TW.Tree1 u)(hn:Wk u wn){i:Nat}{a:Int}(hi:(aG wn)[i]?=some a)(h:¬∃b,Kn wo wn b a):hR wo wn G a=G+1+((((aG wn).take i).filter (unB wo wn)).length:Nat):=by
 rw[fi U hn (mem_of_getElem? hi) h];have hlt:=(List.getElem?_eq_some_iff.mp hi).1;have nd:=hn.nums U;have nin:a∉(aG wn).take i:=λhm=>by
  obtain⟨j,hj⟩:=mem_iff_getElem?.mp hm;rw[List.getElem?_take]at hj
  by_cases hji:j<i
  ·rw[if_pos hji]at hj;have:=(getElem?_inj (lt_trans hji hlt) nd).mp (hj.trans hi.symm);omega
  ·rw[if_neg hji]at hj;cases hj
 have e:unk wo wn=((aG wn).take i).filter (unB wo wn)++a::((aG wn).drop (i+1)).filter (unB wo wn):=by
  unfold unk;have e1:aG wn=(aG wn).take i++a::(aG wn).drop (i+1):=by
   have e2:=(List.take_append_drop i (aG wn)).symm;rw[List.drop_eq_getElem_cons hlt]at e2;rw[(List.getElem?_eq_some_iff.mp hi).2]at e2;exact e2
  conv=>lhs;rw[e1,filter_append,filter_cons,cp.mpr h]
  rfl
 rw[e,List.idxOf_append,if_neg (λhm=>nin (mem_filter.mp hm).1),List.idxOf_cons_self];omega
theorem pH(T:TW.Tree1 t)(U:TW.Tree1 u)(ho:Wk t wo)(hn:Wk u wn)(hG:Gre wo G){u2:List Nd}(U2:TW.Tree1 u2)(hn2:Wk u2 (reW (hR wo wn G) wn)){a:Int}(ha:a∈aG wn):hR wo (reW (hR wo wn G) wn) G (hR wo wn G a)=hR wo wn G a:=by
 have inj:∀a∈wn,∀b∈wn,hR wo wn G a.2.num=hR wo wn G b.2.num→a.2.num=b.2.num:=λa ha b hb e=>gw T U ho hn hG (mem_map.mpr ⟨a,ha,rfl⟩) (mem_map.mpr ⟨b,hb,rfl⟩) e
 by_cases h1:∃x,Kn wo wn x a
 ·obtain⟨x,h1⟩:=h1;have h2:Kn wo (reW (hR wo wn G) wn) x (hR wo wn G a):=(Kn.re inj).mpr ⟨a,rfl,h1⟩;rw[eF U2 ho hn2 h2,eF U ho hn h1]
 ·have unE:∀c∈aG wn,unB wo (reW (hR wo wn G) wn) (hR wo wn G c)=unB wo wn c:=λc hc=>by
   rw[Bool.eq_iff_iff,cp,cp];refine not_congr ⟨λ⟨b,h⟩=>?_,λ⟨b,h⟩=>⟨b,(Kn.re inj).mpr ⟨c,rfl,h⟩⟩⟩;obtain⟨c',ec,h'⟩:=(Kn.re inj).mp h;have:=gw T U ho hn hG hc (dE h').2 ec;rw[this];exact⟨b,h'⟩
  have em:aG (reW (hR wo wn G) wn)=(aG wn).map (hR wo wn G):=by
   unfold aG reW;rw[map_map,map_map];rfl
  have eu:unk wo (reW (hR wo wn G) wn)=(unk wo wn).map (hR wo wn G):=by
   unfold unk;rw[em,filter_map];exact congrArg _ (filter_congr λc hc=>unE c hc)
  have ha2:hR wo wn G a∈aG (reW (hR wo wn G) wn):=by rw[em];exact mem_map.mpr ⟨a,ha,rfl⟩
  have h2:¬∃b,Kn wo (reW (hR wo wn G) wn) b (hR wo wn G a):=by
   rw[←cp,unE a ha,cp];exact h1
  have ei:((unk wo wn).map (hR wo wn G)).idxOf (hR wo wn G a)=(unk wo wn).idxOf a:=by
   have sub:∀c∈unk wo wn,c∈aG wn:=λc hc=>(mem_filter.mp hc).1;generalize unk wo wn=l at sub
   induction l with
   |nil=>rfl
   |cons c r ih =>
    rw[map_cons,List.idxOf_cons,List.idxOf_cons,ih λd hd=>sub d (mem_cons_of_mem _ hd)]
    by_cases ec:c=a
    ·subst ec;simp
    ·have n2:hR wo wn G c≠hR wo wn G a:=λe=>ec (gw T U ho hn hG (sub c mem_cons_self) ha e);have b1:(c==a)=false:=by simpa using ec
     have b2:(hR wo wn G c==hR wo wn G a)=false:=by simpa using n2
     rw[b1,b2]
  rw[fi U2 hn2 ha2 h2,eu,ei];exact(fi U hn ha h1).symm
end
section
variable{P:Program}{w:World}{K:PySem.W.Frag}{mg:Str→Option Value}{base:Heap}
theorem pI{H:Hp}{us:ZN}{ws:List Cp}{wn:List Wt}(wl:Wl H us ws)(hn:Wk (nds us) wn):ws.map (λc=>(c.p,c.n))=wn.map (λw=>(w.1,w.2.num)):=by
 refine mX (R:=λa b:List Str×Int=>HT.bi a.1 b.1=true) (λa=>by rw[HT.ba];simp) (λa b h1 h2=>by have:=HT.ft h1 h2;rw[HT.ba]at this;cases this) (pairwise_map.mpr wl.up) (pairwise_map.mpr hn.up) λx=>?_;obtain⟨p,n⟩:=x;rw[mem_map,mem_map];constructor
 ·rintro⟨c,hc,e⟩;injection e with e1 e2
  obtain⟨z,hz,e3,e4⟩:=(wl.mem p n).mp ⟨c,hc,e1,e2⟩;exact⟨(p,z.2),(hn.mem p z.2).mpr ⟨bT hz,by rw[e3];exact e4⟩,by show(p,z.2.num)=_;rw[e3]⟩
 ·rintro⟨w,hw,e⟩;injection e with e1 e2
  subst e1 e2;obtain⟨h1,h2⟩:=(hn.mem w.1 w.2).mp hw;obtain⟨y,hy,e⟩:=bY h1;obtain⟨c,hc,e1,e2⟩:=(wl.mem w.1 w.2.num).mpr ⟨y,hy,by rw[e],h2⟩;exact⟨c,hc,by rw[e1,e2]⟩
theorem pJ{ns:List Nd}(T:TW.Tree1 ns){n:Nd}(hn:n∈ns):n.par=0∨∃m∈ns,m.num=n.par:=by
 obtain⟨p,hp⟩:=TW.PathTo.ex T hn;obtain⟨q,_,hq⟩:=hp.inv T hn rfl;generalize n.par=x at hq⊢;cases hq with
 |top=>exact .inl rfl
 |node hm _=>exact .inr ⟨_,hm,rfl⟩
theorem dF{t:List Nd}{ws:List Wt}(T:TW.Tree1 t)(h:Wk t ws){n:Int}:n∈aG ws↔∃m∈t,m.num=n:=by
 unfold aG;rw[mem_map];constructor
 ·rintro⟨w,hw,e⟩;exact⟨w.2,((h.mem w.1 w.2).mp hw).1,e⟩
 ·rintro⟨m,hm,e⟩;obtain⟨p,hp⟩:=h.has T hm;exact⟨(p,m),hp,e⟩
def jL:Sp:=λvs H Q _=>∃t u zs us,vs=[.ref t,.ref u]∧Tre H t zs∧Tre H u us∧∀t' us' wo wn G H',Same H H'→Wk (nds zs) wo→Wk (nds us) wn→Gre wo G→(G=0∨G∈aG wo)→H' t'=some (.tup (aU us'))→At H' us'→(nds us').Perm ((nds us).map (reN (hR wo wn G)))→TW.cD (nds us')→Q (.ref t') H'
def uX:List Str:=["old","new","numbers","before","after","following","path","number"]
theorem jM:FnScope uX ["old","new"] (aj cP):=fsc
open Classical in
theorem tu{f:Addr}{fd:FuncData}(F:Fun K "renumbered" "renumbered" cP f fd)(T:Txt mg)(CK:Has P w K mg base 6 "known_again" ["old","new"] jK)(CG:Has P w K mg base 1 "greatest_number" ["tree"] oY)(CW:Has P w K mg base 2 "walked" ["tree"] ik)(CN:Has P w K mg base 1 "with_numbers" ["tree","numbers"] oZ):FnOk P w K mg base CX0 7 f fd ["old","new"] jL:=by
 obtain⟨tt,hT⟩:=T.top;obtain⟨fK,fdK,GK,mK,kK,bK⟩:=CK;obtain⟨fG,fdG,GG,mG,kG,bG⟩:=CG;obtain⟨fW,fdW,GW,mW,kW,bW⟩:=CW;obtain⟨fN,fdN,GN,mN,kN,bN⟩:=CN;refine F.ok jM (λvs H Q E h=>?_) (λcdv A outer s H vs Q E hr h=>?_)
 ·obtain⟨t,u,zs,us,rfl,_⟩:=h;rfl
 ·obtain⟨t,u,zs,us,rfl,tr,ur,q⟩:=h;have hr1:Room 1 _:=hr.mono (by decide);have hr2:Room 2 _:=hr.mono (by decide);refine⟨_,ah (aw (i:=2) jM.nd rfl (Or.inl rfl) (jH (x:=0) (ip (v:=.int 0) rfl hT ⟨_,rfl⟩) (ip (v:=.int 0) rfl hT ⟨_,rfl⟩)))
   (ah (dn PassesOwn.never rfl (bc (am GK hr rfl mK kK bK .nil aC (aa (pv 0) (aa (pv 1) af)))) (cq (n:=2) rfl (az (ao (i:=3) jM.nd rfl (Or.inl rfl)) (az (ao (i:=4) jM.nd rfl (Or.inl rfl)) bM)))
    (al (iA (bn hr) (pv 2) (pv 4) (pv 3) rfl)))
   (ah (aw (i:=5) jM.nd rfl (Or.inl rfl) (aF aW (am GG hr1 rfl mG kG bG .nil aC (aa (pv 0) af)) ai))
   (ah (dn PassesOwn.never rfl (bc (am GW hr2 rfl mW kW bW .nil aC (aa (pv 1) af))) (cq (n:=2) rfl (az (ao (i:=6) jM.nd rfl (Or.inl rfl)) (az (ao (i:=7) jM.nd rfl (Or.inl rfl)) bM)))
    (al (cQ (jP (gT (bn hr) (pv 7) (pv 2)))
     (ah (iA (bn hr) (pv 2) (pv 7) (pv 5) rfl) (al (rH (i:=5) jM.nd rfl (Or.inl rfl) ai pR))) bf)))
   (al (aH (am GN hr1 rfl mN kN bN .nil aC (aa (pv 1) (aa (pv 2) af)))))))),?_⟩
  refine λd hd=>⟨ac,?_⟩;have s1:Same H (upd (upd H d (.dK [])) d (.dK [((Sum.inl 0:Key),V.int 0)])):=ar hd (ae hd);have hd1:upd (upd H d (.dK [])) d (.dK [((Sum.inl 0:Key),V.int 0)]) d=some (.dK [((Sum.inl 0:Key),V.int 0)]):=ac;generalize upd (upd H d (.dK [])) d (.dK [((Sum.inl 0:Key),V.int 0)])=H1 at s1 hd1⊢;refine⟨_,rfl,_,rfl,t,u,zs,us,rfl,tr.same s1,ur.same s1,λl cs wo wn H2 s2 ho hn hl hC pw hK clen=>?_⟩;have pos:∀c∈cs,1≤c.2.2:=λc hc=>dD ur.tr hn (dE ((hK _ _).mp (mem_map.mpr ⟨c,hc,rfl⟩))).2;have kc:∀c∈cs,Kn wo wn c.2.1 c.2.2:=λc hc=>(hK _ _).mp (mem_map.mpr ⟨c,hc,rfl⟩);refine⟨l,rfl,⟨_,SqL.of hl⟩,dG (xs:=au cs) (λi σ H'=>∃kvs x3 x4,σ=[some (.ref t),some (.ref u),some (.ref d),x3,x4,none,none,none]∧Same H H'∧H' l=some (.lst (au cs))∧Cpl H' cs∧H' d=some (.dK kvs)∧kvs.length≤i+1 ∧
    aE kvs (Sum.inl 0:Key)=some (.int 0)∧(∀c∈cs.take i,aE kvs (Sum.inl c.2.2:Key)=some (.int c.2.1))∧∀a:Int,a≠0→(∀c∈cs.take i,c.2.2≠a)→aE kvs (Sum.inl a:Key)=none)
   ⟨_,_,_,rfl,s1.trans s2,hl,hC,s2 _ _ hd1,le_refl _,rfl,λc hc=>(not_mem_nil (take_zero ▸ hc)).elim,λa ha _=>by
    unfold aE;rw[find?_cons];have:decide ((Sum.inl 0:Key)=Sum.inl a)=false:=decide_eq_false λe=>ha (Sum.inl.inj e).symm;simp only[this];rfl⟩ (λi σ H' _ h=>?_) (λi v σ H' hv h=>?_) (λσ H' h=>?_)⟩
  ·obtain⟨_,_,_,_,_,h,_⟩:=h;exact SqL.of h
  ·obtain⟨kvs,x3,x4,rfl,sH,hl',hC',hd',kl,v0,vk,vn⟩:=h;unfold au at hv;rw[getElem?_map]at hv;cases gc:cs[i]? with
   |none=>rw[gc]at hv;cases hv
   |some c =>
    rw[gc]at hv;cases hv;have mc:=mem_of_getElem? gc;have hi:=(List.getElem?_eq_some_iff.mp gc).1;refine⟨c.1,_,rfl,SqT.of (hC' c mc),rfl,_,_,rfl,_,_,rfl,rfl,?_⟩;refine⟨_,rfl,_,rfl,_,rfl,d,_,rfl,.inl ⟨kvs,Sum.inl c.2.2,hd',rfl,ap (by omega),rfl⟩,?_⟩;have nl:l≠d:=λz=>by rw[z,hd']at hl';cases hl'
    have lp:=bj kvs (Sum.inl c.2.2:Key) (.int c.2.1);refine⟨_,_,_,rfl,ar hd sH,by rw[ag nl];exact hl',λc' hc'=>?_,ac,by omega,?_,λc' hc'=>?_,λa ha h=>?_⟩
    ·have:=hC' c' hc';rw[ag λz=>by rw[z,hd']at this;cases this];exact this
    ·rw[bV,if_neg (λe=>by have:=Sum.inl.inj e;have:=pos c mc;omega)];exact v0
    ·rw[bV]
     by_cases e:c'.2.2=c.2.2
     ·have mc':c'∈cs:=List.mem_of_mem_take hc';have h2:=kc c' mc';rw[e]at h2;rw[if_pos (by rw[e]),Kn.inj ur.tr ho hn (kc c mc) h2]
     ·rw[if_neg λz=>e (Sum.inl.inj z)];rw[ax gc]at hc';rcases mem_append.mp hc' with hc'|hc'
      ·exact vk c' hc'
      ·rw[mem_singleton.mp hc']at e;exact absurd rfl e
    ·rw[ax gc]at h;rw[bV,if_neg λz=>h c (mem_append.mpr (.inr (mem_singleton.mpr rfl))) (Sum.inl.inj z).symm];exact vn a ha λc' hc'=>h c' (mem_append.mpr (.inl hc'))
  obtain⟨kvs,x3,x4,rfl,sH,hl',hC',hd',kl,v0,vk,vn⟩:=h;have lcs:(au cs).length=cs.length:=by unfold au;rw[length_map]
  rw[lcs,take_length]at vk vn;rw[lcs]at kl;have tr3:=tr.same sH;refine⟨_,rfl,t,zs,rfl,tr3.tup,tr3.nod,by have:=tr.len;omega,λG H4 s4 hb=>⟨G,1,rfl,rfl,?_⟩⟩;have hG:Gre wo G∧(G=0∨G∈aG wo):=by
   rcases hb with⟨e0,eb⟩|⟨⟨j,hj,gj⟩,mx⟩
   ·subst eb;refine⟨⟨Int.le_refl _,λx hx=>?_⟩,.inl rfl⟩;obtain⟨m,hm,_⟩:=(dF tr.tr ho).mp hx;rw[e0]at hm;exact(not_mem_nil hm).elim
   ·have mem:∀x,x∈nums zs↔x∈aG wo:=λx=>by
     rw[dF tr.tr ho];unfold nums;rw[mem_map];constructor
     ·rintro⟨z,hz,e⟩;exact⟨z.2,bT hz,e⟩
     ·rintro⟨m,hm,e⟩;obtain⟨z,hz,rfl⟩:=bY hm;exact⟨z,hz,e⟩
    have mG:=(mem G).mp (mem_of_getElem? gj);refine⟨⟨by have:=dD tr.tr ho mG;omega,λx hx=>?_⟩,.inr mG⟩;obtain⟨k,gk⟩:=mem_iff_getElem?.mp ((mem x).mpr hx);exact mx k x (List.getElem?_eq_some_iff.mp gk).1 gk
  obtain⟨hG,hG2⟩:=hG;refine⟨_,rfl,u,us,rfl,(ur.same sH).same s4,λws l2 H5 s5 wl wlen hl2=>?_⟩;have ewn:=pI wl hn;have en:ws.map (·.n)=aG wn:=by
   have:=congrArg (List.map Prod.snd) ewn;rw[map_map,map_map]at this;exact this
  have ulen:ws.length≤30:=by rw[wlen];exact ur.len
  have vA:∀a:Int,a≠0→aE kvs (Sum.inl a:Key)=if ∃b,Kn wo wn b a then some (.int (hR wo wn G a))else none:=λa ha=>by
   by_cases h:∃b,Kn wo wn b a
   ·rw[if_pos h];obtain⟨b,h⟩:=h;obtain⟨c,hc,e⟩:=mem_map.mp ((hK b a).mpr h);have e1:c.2.1=b:=congrArg Prod.fst e;have e2:c.2.2=a:=congrArg Prod.snd e;rw[eF ur.tr ho hn h,←e1,←e2];exact vk c hc
   ·rw[if_neg h];exact vn a ha λc hc e=>h ⟨c.2.1,by rw[←e];exact kc c hc⟩
  refine⟨l2,rfl,⟨_,SqL.of hl2⟩,dG (xs:=ws.map λc=>V.ref c.a) (λi σ H'=>∃kvs x3 x4 x6 x7,σ=[some (.ref t),some (.ref u),some (.ref d),x3,x4,some (.int (G+1+((((aG wn).take i).filter (unB wo wn)).length:Nat))),x6,x7]∧Same H H'∧H' l2=some (.lst (ws.map λc=>V.ref c.a))∧(∀c∈ws,ky H' c)∧H' d=some (.dK kvs)∧kvs.length≤31+i ∧
    aE kvs (Sum.inl 0:Key)=some (.int 0)∧∀a:Int,a≠0→aE kvs (Sum.inl a:Key)=if (∃b,Kn wo wn b a)∨a∈(aG wn).take i then some (.int (hR wo wn G a))else none)
   ⟨kvs,x3,x4,none,none,(by simp),(sH.trans s4).trans s5,hl2,wl.at',s5 _ _ (s4 _ _ hd'),by omega,v0,λa ha=>by rw[vA a ha,take_zero];simp only[not_mem_nil,or_false]⟩ (λi σ H' _ h=>?_) (λi v σ H' hv h=>?_) (λσ H' h=>?_)⟩
  ·obtain⟨_,_,_,_,_,_,_,h,_⟩:=h;exact SqL.of h
  ·obtain⟨kv,y3,y4,y6,y7,rfl,sH2,hl3,hcp,hd2,kl2,v02,vv⟩:=h;rw[getElem?_map]at hv;cases gc:ws[i]? with
   |none=>rw[gc]at hv;cases hv
   |some c =>
    rw[gc]at hv;cases hv;have mc:=mem_of_getElem? gc;have hi:=(List.getElem?_eq_some_iff.mp gc).1;have gn:(aG wn)[i]?=some c.n:=by rw[←en,getElem?_map,gc];rfl
    have mn:=mem_of_getElem? gn;have n0:c.n≠0:=by have:=dD ur.tr hn mn;omega
    have nin:c.n∉(aG wn).take i:=λhm=>by
     obtain⟨j,hj⟩:=mem_iff_getElem?.mp hm;rw[List.getElem?_take]at hj
     by_cases hji:j<i
     ·rw[if_pos hji]at hj;have:=(getElem?_inj (lt_trans hji (List.getElem?_eq_some_iff.mp gn).1) (hn.nums ur.tr)).mp (hj.trans gn.symm);omega
     ·rw[if_neg hji]at hj;cases hj
    refine⟨c.a,_,rfl,SqT.of (hcp c mc).1,rfl,_,_,rfl,_,_,rfl,rfl,?_⟩;refine⟨_,rfl,_,rfl,d,_,rfl,.inl ⟨kv,Sum.inl c.n,.inl hd2,rfl,rfl⟩,_,rfl,?_⟩;have vc:=vv c.n n0
    by_cases hk:∃b,Kn wo wn b c.n
    ·rw[if_pos (.inl hk)]at vc;rw[vc];refine cV ?_;have eu:unB wo wn c.n=false:=by
      cases hb:unB wo wn c.n with
      |false=>rfl
      |true=>exact absurd hk (cp.mp hb)
     refine⟨kv,y3,y4,some (.ref c.t),some (.int c.n),?_,sH2,hl3,hcp,hd2,by omega,v02,λa ha=>?_⟩
     ·rw[ax gn,filter_append,filter_cons,eu];simp
     ·rw[vv a ha,ax gn]
      by_cases e:a=c.n
      ·subst e;rw[if_pos (.inl hk),if_pos (.inl hk)]
      ·have:a∈(aG wn).take i++[c.n]↔a∈(aG wn).take i:=by simp[e]
       simp only[this]
    ·have hno:¬((∃b,Kn wo wn b c.n)∨c.n∈(aG wn).take i):=λh=>h.elim hk nin;rw[if_neg hno]at vc;rw[vc];refine gB ?_;have eu:unB wo wn c.n=true:=cp.mpr hk;have hx:=rb (wo:=wo) (G:=G) ur.tr hn gn hk;refine⟨_,rfl,_,rfl,_,rfl,d,_,rfl,.inl ⟨kv,Sum.inl c.n,hd2,rfl,ap (by omega),rfl⟩,?_⟩;refine⟨_,rfl,_,_,rfl,rfl,?_⟩;have nl:l2≠d:=λz=>by rw[z,hd2]at hl3;cases hl3
     have lp:=bj kv (Sum.inl c.n:Key) (.int (G+1+((((aG wn).take i).filter (unB wo wn)).length:Nat)));refine⟨_,y3,y4,some (.ref c.t),some (.int c.n),?_,ar hd sH2,by rw[ag nl];exact hl3,λc' hc'=>?_,ac,by omega,?_,λa ha=>?_⟩
     ·rw[ax gn,filter_append,filter_cons,eu];show _=[some (V.ref t),some (V.ref u),some (V.ref d),y3,y4,some (V.int (G+1+((((aG wn).take i).filter (unB wo wn)++[c.n]).length:Nat))),some (V.ref c.t),some (V.int c.n)];rw[length_append];show[some (V.ref t),some (V.ref u),some (V.ref d),y3,y4,some (V.int (G+1+((((aG wn).take i).filter (unB wo wn)).length:Nat)+1)),some (V.ref c.t),some (V.int c.n)]=_;have:G+1+((((aG wn).take i).filter (unB wo wn)).length:Nat)+1=G+1+(((((aG wn).take i).filter (unB wo wn)).length+[c.n].length:Nat):Int):=by
       rw[length_singleton];omega
      rw[this]
     ·obtain⟨k1,k2⟩:=hcp c' hc';exact⟨by rw[ag λz=>by rw[z,hd2]at k1;cases k1];exact k1,by rw[ag λz=>by rw[z,hd2]at k2;cases k2];exact k2⟩
     ·rw[bV,if_neg λe=>n0 (Sum.inl.inj e).symm];exact v02
     ·rw[bV,ax gn]
      by_cases e:a=c.n
      ·subst e;rw[if_pos rfl,if_pos (.inr (mem_append.mpr (.inr (mem_singleton.mpr rfl)))),hx]
      ·have:a∈(aG wn).take i++[c.n]↔a∈(aG wn).take i:=by simp[e]
       rw[if_neg λz=>e (Sum.inl.inj z),vv a ha];simp only[this]
  ·obtain⟨kv,y3,y4,y6,y7,rfl,sH2,hl3,hcp,hd2,kl2,v02,vv⟩:=h;have lw:(aG wn).length=ws.length:=by rw[←en,length_map]
   rw[length_map,←lw,take_length]at vv;have ur2:=ur.same sH2;have vN:∀a∈aG wn,aE kv (Sum.inl a:Key)=some (.int (hR wo wn G a)):=λa ha=>by
    rw[vv a (by have:=dD ur.tr hn ha;omega),if_pos (.inr ha)]
   have inW:∀z∈us,z.2.num∈aG wn:=λz hz=>(dF ur.tr hn).mpr ⟨z.2,bT hz,rfl⟩;refine⟨_,rfl,_,rfl,u,d,us,kv,hR wo wn G,rfl,ur2.tup,ur2.nod,by have:=ur.len;omega,hd2,λz hz=>⟨vN _ (inW z hz),?_⟩,?_,λus' t' H6 s6 ht' hA' pm rs=>q t' us' wo wn G H6 (sH2.trans s6) ho hn hG hG2 ht' hA' pm rs⟩
   ·rcases pJ ur.tr (bT hz)with e|⟨m,hm,e⟩
    ·rw[e,gu];exact v02
    ·exact vN _ ((dF ur.tr hn).mpr ⟨m,hm,e⟩)
   ·have nd:=cb ur.tr;have e:(us.map λz=>hR wo wn G z.2.num)=((nds us).map (·.num)).map (hR wo wn G):=by unfold nds;rw[map_map,map_map];rfl
    rw[e];unfold Nodup at nd⊢;rw[pairwise_map];refine nd.imp_of_mem λ{a b} ha hb h e=>h ?_;obtain⟨m,hm,e1⟩:=mem_map.mp ha;obtain⟨m',hm',e2⟩:=mem_map.mp hb;exact gw tr.tr ur.tr ho hn hG ((dF ur.tr hn).mpr ⟨m,hm,e1⟩) ((dF ur.tr hn).mpr ⟨m',hm',e2⟩) e
def lg:Sp:=λvs H Q _=>∃t zs,vs=[.ref t]∧Tre H t zs∧∀d as H',Same H H'→H d=none→Book H' d as zs→H' d=some (.dK (dk as))→Q (.ref d) H'
theorem tw:FnScope ["tree"] ["tree"] (aj bz):=fsc
theorem rc{f:Addr}{fd:FuncData}(F:Fun K "parts_by_number" "parts_by_number" bz f fd)(T:Txt mg):FnOk P w K mg base CX0 1 f fd ["tree"] lg:=by
 refine F.ok tw (λvs H Q E h=>?_) (λcdv A outer s H vs Q E hr h=>?_)
 ·obtain⟨t,zs,rfl,_⟩:=h;rfl
 ·obtain⟨t,zs,rfl,tr,k⟩:=h;have hnd:=cb tr.tr;have hl:=tr.len;have ht:=tr.tup;have hA:=tr.nod;refine⟨_,al (aH (aD (cY rfl) rfl T.dict boot_dict (aa (cg (N:=["node"]) (k:=1) (js:=[]) (g:=aJ 0) rfl (ci rfl (by decide +kernel) (by decide +kernel) (by decide +kernel)) rfl (λi j x h=>by simp at h)
   (eJ (pv 0)) (λs H fp=>ao (i:=0) (show(["node"]:List Str).Nodup by decide +kernel) rfl (Or.inl rfl) (Or.inr rfl))
   (λs H fp=>bD (aa (aK (r:=cu K) aI (pv 0) ai (λ_ _=>rfl)) (aa (dJ (r:=nG K) iy (pv 0) (dI ai) ix) af)))) af))),?_⟩
  refine⟨_,rfl,t,rfl,⟨_,SqT.of ht⟩,λp hp=>?_⟩;refine kA (fr:=[]) zs.length (by omega) hp rfl (λi y H'=>∃q t' z,zs[i]?=some z∧y=.ref q∧q≠p∧t'≠p∧H' q=some (.tup [.int z.2.num,.ref t'])∧H' t'=some (.tup (aV z.2))) (λi y H1 H2 h ex=>?_) (λi H' hi s1=>?_) (λH' s1=>?_) ?_ (λi H' x H2 hi s1 hpl hy=>?_) (λys H' s1 hp' hlen hys=>?_)
  ·obtain⟨q,t',z,e1,e2,e3,e4,e5,e6⟩:=h;exact⟨q,t',z,e1,e2,e3,e4,ex q _ e3 e5,ex t' _ e4 e6⟩
  ·exact⟨_,_,SqT.of (s1 _ _ ht),fZ (getElem?_eq_getElem hi)⟩
  ·exact⟨_,SqT.of (s1 _ _ ht),by rw[cm];exact le_refl _⟩
  ·rintro _ _ _ _ m ⟨v1,b1,p1,xs,i1,v2,c1,c2,c3,c4,v3,b3,i3,d0,a3,xs3,d1,d2,d3,q⟩;refine⟨v1,b1,p1,xs,i1,v2,c1,c2,c3,c4,v3,b3,i3,d0,a3,xs3,d1,d2,d3,λl hl=>?_⟩;obtain⟨hz',q'⟩:=q l hl;exact⟨hz',λl' hl'=>m _ _ (q' l' hl')⟩
  ·obtain⟨rfl,hx⟩:=hy;obtain⟨z,gz,rfl⟩:=cE (hx _ (SqT.of (s1 _ _ ht)));have mz:=mem_of_getElem? gz;have hz1:=s1 _ _ (hA z mz);have ecut:iV (vals z.2) (some 1) none=aV z.2:=rfl;refine⟨rfl,_,rfl,z.1,_,_,_,rfl,rfl,SqT.of hz1,at0 z.2,_,rfl,_,rfl,z.1,_,rfl,SqT.of hz1,(by intro h;exact absurd h.1 (show ¬HT.sIx 4 0 (some 1)=0 by decide)),λt' ht'=>?_⟩;rw[ecut];have s2:=ae (o:=.tup (aV z.2)) ht';have hpl2:∃ys,upd H2 t' (.tup (aV z.2)) p=some (.lst ys):=let⟨ys,e⟩:=hpl;⟨ys,s2 _ _ e⟩;refine⟨le2,λq hq=>⟨s2.trans (ae hq),q,t',z,gz,rfl,db hpl2 hq,db hpl ht',ac,bX hq ac⟩⟩
  ·obtain⟨as,e1,e2,e3⟩:∃as:List ((Addr×Addr)×(Addr×Nd)),as.map (·.2)=zs∧ys=(as.map (·.1.1)).map V.ref∧∀a∈as,H' a.1.1=some (.tup [.int a.2.2.num,.ref a.1.2])∧H' a.1.2=some (.tup (aV a.2.2)):=by
    clear hp';have main:∀(ys:List V)(xs:ZN),ys.length=xs.length→(∀(i:Nat) y,ys[i]?=some y→∃q t' z,xs[i]?=some z∧y=.ref q∧q≠p∧t'≠p∧H' q=some (.tup [.int z.2.num,.ref t'])∧H' t'=some (.tup (aV z.2))) →
      ∃as:List ((Addr×Addr)×(Addr×Nd)),as.map (·.2)=xs∧ys=(as.map (·.1.1)).map V.ref∧∀a∈as,H' a.1.1=some (.tup [.int a.2.2.num,.ref a.1.2])∧H' a.1.2=some (.tup (aV a.2.2)):=by
     intro ys
     induction ys with
     |nil =>
      intro xs hl _;have:xs=[]:=length_eq_zero_iff.mp hl.symm;subst this;exact⟨[],rfl,rfl,by simp⟩
     |cons y ys ih =>
      intro xs hl h;cases xs with
      |nil=>simp at hl
      |cons x xs =>
       obtain⟨as,e1,e2,e3⟩:=ih xs (by simpa using hl) λi y hy=>by simpa using h (i+1) y (by simpa using hy)
       obtain⟨q,t',z,f1,f2,f3,f4,f5,f6⟩:=h 0 y rfl;have:x=z:=by simpa using f1
       subst this;refine⟨((q,t'),x)::as,by simp[e1],by simp[e2,f2],λa ha=>?_⟩;rcases mem_cons.mp ha with rfl|ha
       ·exact⟨f5,f6⟩
       ·exact e3 a ha
    exact main ys zs hlen hys
   have hal:as.length=zs.length:=by rw[←e1,length_map]
   refine⟨p,as.map λa=>(a.1.1,(Sum.inl a.2.2.num:Key),V.ref a.1.2),rfl,?_,?_,?_,?_,λd hd=>?_⟩
   ·rw[hp',e2,map_map,map_map,map_map];rfl
   ·intro z hz;obtain⟨a,ha,rfl⟩:=mem_map.mp hz;exact(e3 a ha).1
   ·rw[length_map];omega
   ·rw[map_map];have:(as.map ((λx:Addr×Key×V=>x.2.1)∘λa=>(a.1.1,(Sum.inl a.2.2.num:Key),V.ref a.1.2)))=((nds zs).map (·.num)).map (Sum.inl:Int→Key):=by
     rw[←e1];unfold nds;simp only[map_map];rfl
    rw[this];unfold Nodup at hnd⊢;rw[pairwise_map];exact hnd.imp λh e=>h (by injection e)
   ·have sd:=ae (o:=.dK ((as.map λa=>(a.1.1,(Sum.inl a.2.2.num:Key),V.ref a.1.2)).map (·.2))) hd;have ed:upd H' d (.dK ((as.map λa=>(a.1.1,(Sum.inl a.2.2.num:Key),V.ref a.1.2)).map (·.2))) d=some (.dK (dk (as.map λa=>(a.1.2,a.2)))):=by
     rw[ac];refine congrArg (λx=>some (HO.dK x)) ?_;unfold dk;simp only[map_map];rfl
    refine k d (as.map λa=>(a.1.2,a.2)) _ (s1.trans sd) (s1.free hd) ⟨.inl ed,by rw[map_map];exact e1,λa ha=>?_⟩ ed;obtain⟨b,hb,rfl⟩:=mem_map.mp ha;exact sd _ _ (e3 b hb).2
def unl(e:Addr×Row):Bool:=!decide (e.2.o=e.2.n)
def lR:Sp:=λvs H Q _=>∃l es,vs=[.ref l]∧H l=some (.lst (oT es))∧(∀e∈es,RowAt H e.1 e.2)∧es.length≤60∧∀c H',Same H H'→ChgAt H' c (es.filter unl)→Q (.ref c) H'
theorem uz:FnScope ["entries"] ["entries"] (aj bL):=fsc
theorem tz{f:Addr}{fd:FuncData}(F:Fun K "unlike_entries" "unlike_entries" bL f fd)(T:Txt mg):FnOk P w K mg base CX0 1 f fd ["entries"] lR:=by
 refine F.ok uz (λvs H Q E h=>?_) (λcdv A outer s H vs Q E hr h=>?_)
 ·obtain⟨l,es,rfl,_⟩:=h;rfl
 ·obtain⟨l,es,rfl,hl,he,hn,k⟩:=h;refine⟨_,al (aH (aD bQ rfl T.tuple rfl (aa (se (N:=["entry"]) (cl:=[]) (k:=1) (js:=[]) (g:=aJ 0) rfl (ci rfl (by decide +kernel) (by decide +kernel) (by decide +kernel)) rfl (λi j x h=>by simp at h)
   (bc (pv 0)) (λs H fp=>ao (i:=0) (show(["entry"]:List Str).Nodup by decide +kernel) rfl (Or.inl rfl) (Or.inr rfl))
   (λs H fp=>aX (sF (bn hr)) (aK (r:=cu K) aI (pv 0) ai (λ_ _=>rfl)) (aK (r:=cu K) aI (pv 0) ai (λ_ _=>rfl)) (be _)) (λs H fp=>pv 0)) af))),?_⟩
  refine⟨_,rfl,l,rfl,⟨_,SqL.of hl⟩,λp hp=>?_⟩;refine su (fr:=[]) es (λe=>V.ref e.1) (by omega) hp (cn (SqL.of hl)) rfl unl (λe y _=>y=.ref e.1) (λe y H H' h _=>h) (λe H' k' me s1 _ hk=>?_) (λe H' k' me _ s1 _ hk=>⟨_,rfl,hk _ H' (Same.refl _) rfl⟩) (λys H' s1 hp' hys=>?_)
  ·obtain⟨⟨vo,vn,h1,h2,h3⟩,ok⟩:=(he e me).same s1;refine⟨_,rfl,e.1,_,_,_,rfl,rfl,SqT.of h1,rfl,_,rfl,e.1,_,_,_,rfl,rfl,SqT.of h1,rfl,_,_,h2.ot,h3.ot,_,rfl,?_⟩;have eb:(!decide (e.2.o.map aV=e.2.n.map aV))=unl e:=by
    unfold unl;have:=ok.eq
    by_cases z:e.2.o=e.2.n
    ·rw[decide_eq_true (this.mpr z),decide_eq_true z]
    ·rw[decide_eq_false (λq=>z (this.mp q)),decide_eq_false z]
   rw[eb];exact hk H' (Same.refl _)
  ·have ey:=bI (f:=λe:Addr×Row=>V.ref e.1) hys (λe y _ h=>h);refine⟨p,_,rfl,.inl ⟨SqL.of hp',λc hc=>?_⟩⟩;have s2:=s1.trans (ae (o:=.tup ys) hc);exact k c _ s2 ⟨by rw[ac,ey];rfl,λe me=>(he e (mem_filter.mp me).1).same s2,le_trans (length_filter_le _ _) hn⟩
end
def cbS(i:Nat):Stmt:=(bp aA).getD i (.Pass ⟨0,0,0,0⟩)
def CN:List Str:=["one","other","before","after","numbers"]
theorem rf:FnScope CN ["one","other"] (aj aA):=fsc
abbrev CbX(P:Program)(w:World)(K:PySem.W.Frag)(mg:Str→Option Value)(base:Heap)(f:Addr)(cdv:Value)(A:Around)(outer:List Env)(s:Shared)(H:Hp)(E:XK):Cx:=(iw CX0 P w K mg base CN "change_between" (aj aA) f cdv A outer s H E).nox
section
variable{P:Program}{w:World}{K:PySem.W.Frag}{mg:Str→Option Value}{base:Heap}{f:Addr}{cdv:Value}{A:Around}{outer:List Env}{s:Shared}{H0:Hp}{E:XK}
theorem cb2(T:Txt mg):∃t,PS (CbX P w K mg base f cdv A outer s H0 E) (cbS 2) t∧∀(D:Ends)(H:Hp)(x0 x1 x4:Option V)(d d2:Addr)(as bs:List (Addr×(Addr×Nd)))(zs us:ZN),Book H d as zs→Book H d2 bs us→zs.length≤30→us.length≤30 →
   (∀(l:Addr)(ns:List Int)(H':Hp),Same H H'→H' l=some (.lst (ns.map V.int))→ns.Pairwise (· < ·)→ns.length≤60→(∀k,k∈ns↔k∈(nds zs).map (·.num)∨k∈(nds us).map (·.num))→D.nx [x0,x1,some (.ref d),some (.ref d2),some (.ref l)] H')→t D [x0,x1,some (.ref d),some (.ref d2),x4] H:=by
 refine⟨_,aw (i:=4) rf.nd rfl (Or.inl rfl) (aO (gl rfl) rfl T.sorted boot_sorted (aa (aF oR (aD fc rfl T.set rfl (aa (pv 2) af)) (aD fc rfl T.set rfl (aa (pv 3) af))) af)),?_⟩;intro D H x0 x1 x4 d d2 as bs zs us bk bk2 hl1 hl2 q;refine⟨_,rfl,d,_,(nds zs).map (·.num),rfl,bk.dict,gq bk.of,by rw[length_map,aM];omega,λm1 hn1 hm1 p1 hp1=>?_⟩;have s1:=ae (o:=cS (CbX P w K mg base f cdv A outer s H0 E).w p1 m1) hp1;have g1:upd H p1 (cS (CbX P w K mg base f cdv A outer s H0 E).w p1 m1) p1=some (cS (CbX P w K mg base f cdv A outer s H0 E).w p1 m1):=ac;generalize upd H p1 (cS (CbX P w K mg base f cdv A outer s H0 E).w p1 m1)=H1 at s1 g1⊢;refine⟨_,rfl,d2,_,(nds us).map (·.num),rfl,(bk2.same s1).dict,gq bk2.of,by rw[length_map,aM];omega,λm2 hn2 hm2 p2 hp2=>?_⟩;have s2:=s1.trans (ae (o:=cS (CbX P w K mg base f cdv A outer s H0 E).w p2 m2) hp2);have g2:upd H1 p2 (cS (CbX P w K mg base f cdv A outer s H0 E).w p2 m2) p2=some (cS (CbX P w K mg base f cdv A outer s H0 E).w p2 m2):=ac;have g1':upd H1 p2 (cS (CbX P w K mg base f cdv A outer s H0 E).w p2 m2) p1=some (cS (CbX P w K mg base f cdv A outer s H0 E).w p1 m1):=bX hp2 g1;have hne:p1≠p2:=λe=>by rw[←e,g1]at hp2;cases hp2
 generalize upd H1 p2 (cS (CbX P w K mg base f cdv A outer s H0 E).w p2 m2)=H2 at s2 g2 g1'⊢;have k1:m1.length≤30:=by
  have:=eB hn1 λx hx=>(hm1 x).mp hx;rw[length_map,aM]at this;omega
 have k2:m2.length≤30:=by
  have:=eB hn2 λx hx=>(hm2 x).mp hx;rw[length_map,aM]at this;omega
 refine⟨p1,p2,m1,m2,rfl,rfl,hne,g1',g2,by omega,λm3 hn3 hm3 p3 hp3=>?_⟩;have k3:m3.length≤60:=by
  have:=eB (m:=m1++m2) hn3 λx hx=>mem_append.mpr ((hm3 x).mp hx);rw[length_append]at this;omega
 have s3:=s2.trans (ae (o:=cS (CbX P w K mg base f cdv A outer s H0 E).w p3 m3) hp3);refine⟨p3,m3,rfl,ac,k3,λns hns hup l hl=>?_⟩;have s4:=s3.trans (ae (o:=.lst (ns.map V.int)) hl);refine q l ns _ s4 ac hup (by rw[hns.length_eq];exact k3) λk=>?_;rw[hns.mem_iff,hm3 k,hm1 k,hm2 k]
theorem cb3(hr:Room 1 (A.deeper (PyProof.Rows.envOfC "change_between" (aj aA) s.heap.objs.size f cdv)))(CU:Has P w K mg base 1 "unlike_entries" ["entries"] lR):
  ∃t,PS (CbX P w K mg base f cdv A outer s H0 E) (cbS 3) t∧∀(D:Ends)(H:Hp)(x0 x1:Option V)(d d2 l:Addr)(as bs:List (Addr×(Addr×Nd)))(zs us:ZN)(ns:List Int),Book H d as zs→Book H d2 bs us→TW.Tree1 (nds zs)→TW.Tree1 (nds us)→H l=some (.lst (ns.map V.int))→ns.Pairwise (· < ·)→ns.length≤60→(∀k,k∈ns↔k∈(nds zs).map (·.num)∨k∈(nds us).map (·.num)) →
   (∀c es H',Same H H'→ChgAt H' c es→TW.Chg (nds zs) (nds us) (gp es)→D.rt (.ref c) H')→t D [x0,x1,some (.ref d),some (.ref d2),some (.ref l)] H:=by
 obtain⟨fU,fdU,GU,mU,kU,bU⟩:=CU;refine⟨_,aH (am GU hr rfl mU kU bU .nil aC (aa (cg (N:=["number","after","before"]) (cl:=[("before",s.heap.objs.size+1),("after",s.heap.objs.size+2)]) (k:=1) (js:=[3,2]) (g:=aJ 0) rfl
   (LcOk.mk' ["before","after"] rfl rfl (by decide +kernel) (by decide +kernel) ?hcl rfl (by decide +kernel)) rfl ?hj (bc (pv 4)) (λs H fp=>ao (i:=0) (show(["number","after","before"]:List Str).Nodup by decide +kernel) rfl (Or.inl rfl) (Or.inr rfl))
   (λs H fp=>bD (aa (pv 0) (aa (jb (bn hr) (pv 2) (pv 0) ⟨rfl,rfl,rfl,rfl⟩) (aa (jb (bn hr) (pv 1) (pv 0) ⟨rfl,rfl,rfl,rfl⟩) af))))) af)),?_⟩
 case hcl =>
  intro y hy;rcases mem_cons.mp hy with e|hy
  ·rw[e];rfl
  ·rcases mem_cons.mp hy with e|hy
   ·rw[e];rfl
   ·cases hy
 case hj =>
  intro i j x h1 h2
  match i,h1,h2 with
  |0,h1,h2 =>
   cases h1;cases h2;exact⟨rfl,Or.inr (Or.inl rfl),(show((aj aA).names.lookup ("after":Str)≠some NameKind.local)by decide +kernel),by first|exact Or.inl rfl|exact Or.inr rfl⟩
  |1,h1,h2 =>
   cases h1;cases h2;exact⟨rfl,Or.inr (Or.inl rfl),(show((aj aA).names.lookup ("before":Str)≠some NameKind.local)by decide +kernel),by first|exact Or.inl rfl|exact Or.inr rfl⟩
  |i+2,h1,h2=>simp at h1
 intro D H x0 x1 d d2 l as bs zs us ns bk bk2 T1 T2 hl hup hn hm q;refine⟨_,rfl,l,rfl,⟨_,SqL.of hl⟩,λp hp=>?_⟩;refine cM (fr:=[some (.ref d2),some (.ref d)]) ns V.int (by omega) hp (cn (SqL.of hl)) rfl (λk y H'=>∃c vo vn,y=.ref c∧c≠p∧H' c=some (.tup [.int k,vo,vn])∧eT H' vo (TW.aR (nds zs) k)∧eT H' vn (TW.aR (nds us) k)∧vo≠.ref p∧vn≠.ref p) (λk y H H' h ex=>?_) (λk H' kk mk s1 hpl hk=>?_) (λys H' s1 hp' hys=>?_)
 ·obtain⟨c,vo,vn,e,ne,h1,h2,h3,n1,n2⟩:=h;have ov:∀{v:V}{o:Option Nd},v≠.ref p→eT H v o→eT H' v o:=λhv h=>by
   rcases h with h|⟨q,n,e,h,e2⟩
   ·exact .inl h
   ·exact .inr ⟨q,n,e,ex q _ (λz=>hv (by rw[e,z])) h,e2⟩
  exact⟨c,vo,vn,e,ne,ex c _ ne h1,ov n1 h2,ov n2 h3,n1,n2⟩
 ·obtain⟨r1,hr1,ho1⟩:=(bk.same s1).optV T1 k;obtain⟨r2,hr2,ho2⟩:=(bk2.same s1).optV T2 k;have np:∀{v:V}{o:Option Nd},eT H' v o→v≠.ref p:=λh e=>by
   rcases h with⟨h,_⟩|⟨q,n,e2,h,_⟩
   ·rw[h]at e;cases e
   ·rw[e2]at e;injection e with e
    obtain⟨ys,hy⟩:=hpl;rw[e,hy]at h;cases h
  refine⟨_,rfl,_,rfl,d,rfl,.inl ⟨_,(bk.same s1).dict⟩,_,rfl,r1,hr1,_,rfl,d2,rfl,.inl ⟨_,(bk2.same s1).dict⟩,_,rfl,r2,hr2,(show 3≤sizeLine from bh (by decide)),λc hc=>?_⟩;have s2:=ae (o:=.tup [.int k,r1.getD .non,r2.getD .non]) hc;exact hk _ _ s2 ⟨c,_,_,rfl,db hpl hc,ac,ho1.same s2,ho2.same s2,np ho1,np ho2⟩
 ·obtain⟨cs,e1,e2,e3⟩:=ce (val:=V.ref) (S:=λ(k:Int) (c:Addr)=>RowAt H' c (TW.eC (nds zs) (nds us) k)) hys (λk y _ ⟨c,vo,vn,e,_,h1,h2,h3,_⟩=>⟨c,e,⟨vo,vn,h1,h2,h3⟩,oU k⟩);have hcl:cs.length=ns.length:=by rw[←e1,length_map]
  have er:gp (cs.map λx=>(x.2,TW.eC (nds zs) (nds us) x.1))=ns.map (TW.eC (nds zs) (nds us)):=by
   unfold gp;rw[map_map,←e1,map_map];rfl
  refine⟨p,cs.map λx=>(x.2,TW.eC (nds zs) (nds us) x.1),rfl,by rw[hp',e2];unfold oT;rw[map_map];rfl,λe he=>?_,by rw[length_map];omega,λc H2 s2 hc=>?_⟩
  ·obtain⟨x,hx,rfl⟩:=mem_map.mp he;exact e3 x hx
  ·refine q c _ H2 (s1.trans s2) hc ?_;have:gp ((cs.map λx=>(x.2,TW.eC (nds zs) (nds us) x.1)).filter unl)=_:=jG er;rw[this];refine TW.sG hup λk hk=>.inl ((hm k).mpr ?_);rcases hk with h|h
   ·exact .inl (ig h)
   ·exact .inr (ig h)
def lS:Sp:=λvs H Q _=>∃t u zs us,vs=[.ref t,.ref u]∧Tre H t zs∧Tre H u us∧∀c es H',Same H H'→ChgAt H' c es→TW.Chg (nds zs) (nds us) (gp es)→Q (.ref c) H'
theorem tD{f:Addr}{fd:FuncData}(F:Fun K "change_between" "change_between" aA f fd)(T:Txt mg)(CP:Has P w K mg base 1 "parts_by_number" ["tree"] lg)(CU:Has P w K mg base 1 "unlike_entries" ["entries"] lR):FnOk P w K mg base CX0 2 f fd ["one","other"] lS:=by
 obtain⟨fP,fdP,GP,mP,kP,bP⟩:=CP;refine F.ok rf (λvs H Q E h=>?_) (λcdv A outer s H vs Q E hr h=>?_)
 ·obtain⟨t,u,zs,us,rfl,_⟩:=h;rfl
 ·obtain⟨t,u,zs,us,rfl,tr,tr2,q⟩:=h;have hr1:Room 1 _:=hr.mono (by decide);obtain⟨t2,p2,h2⟩:=cb2 (P:=P) (w:=w) (K:=K) (base:=base) (f:=f) (cdv:=cdv) (A:=A) (outer:=outer) (s:=s) (H0:=H) (E:=E) T;obtain⟨t3,p3,h3⟩:=cb3 (P:=P) (w:=w) (base:=base) (f:=f) (cdv:=cdv) (A:=A) (outer:=outer) (s:=s) (H0:=H) (E:=E) hr1 CU;refine⟨_,ah (aw (i:=2) rf.nd rfl (Or.inr rfl) (am GP hr1 rfl mP kP bP .nil aC (aa (pv 0) af)))
   (ah (aw (i:=3) rf.nd rfl (Or.inr rfl) (am GP hr1 rfl mP kP bP .nil aC (aa (pv 1) af))) (ah p2 (al p3))),?_⟩
  refine⟨_,rfl,t,zs,rfl,tr,λd as H1 s1 _ bk _=>?_⟩;refine⟨_,rfl,u,us,rfl,tr2.same s1,λd2 bs H2 s2 _ bk2 _=>?_⟩;refine h2 _ H2 _ _ _ d d2 as bs zs us (bk.same s2) bk2 tr.len tr2.len λl ns H3 s3 hl hup hn hm=>?_;exact h3 _ H3 _ _ d d2 l as bs zs us ns ((bk.same s2).same s3) (bk2.same s3) tr.tr tr2.tr hl hup hn hm λc es H4 s4 hc hch=>q c es H4 (((s1.trans s2).trans s3).trans s4) hc hch
def pK(K:PySem.W.Frag):Sp:=λvs H Q _=>∃a at' t zs,vs=[.ref a,.int at',.ref t]∧0≤at'∧eZ K H a∧Tre H t zs∧zs.length≤20 ∧
 ∀us t' g H',Same H H'→H' t'=some (.tup (aU us))→At H' us→(nds us).Perm ((nds zs).map (reN g))→TW.cD (nds us)→g 0=0→(∀n∈nds zs,1≤g n.num)→(∀a∈nds zs,∀b∈nds zs,g a.num=g b.num→a.num=b.num)→Q (.ref t') H'
def otN:List Str:=["_law_script","_law_at","_law_tree_here","_law_left","_law_names","_law_k","_law_node"]
theorem pL:FnScope otN ["_law_script","_law_at","_law_tree_here"] (aj aN):=fsc
theorem tE{f:Addr}{fd:FuncData}(F:Fun K "_law_other_numbers" "_law_other_numbers" aN f fd)(T:Txt mg)(C:Has P w K mg base 2 "_law_pick" ["_law_script","_law_k","_law_many"] (iO K)):FnOk P w K mg base CX0 3 f fd ["_law_script","_law_at","_law_tree_here"] (pK K):=by
 obtain⟨fP,fdP,GP,mP,kP,bP⟩:=C;refine F.ok pL (λvs H Q E h=>?_) (λcdv A outer s H vs Q E hr h=>?_)
 ·obtain⟨a,at',t,zs,rfl,_⟩:=h;rfl
 ·obtain⟨a,at',t,zs,rfl,ha0,hS,tr,zl,q⟩:=h;refine⟨_,ah (aw (i:=3) pL.nd rfl (Or.inl rfl) (aD (dj rfl) rfl T.list rfl (aa (aD hV rfl T.range rfl (aa ai (aa ai af))) af)))
   (ah (aw (i:=4) pL.nd rfl (Or.inr rfl) (jH (x:=0) ai ai))
   (ah (dn PassesOwn.never rfl (pb rfl T.enumerate (aa (pv 2) af)) (cq (n:=2) rfl (az (ao (i:=5) pL.nd rfl (Or.inl rfl)) (az (ao (i:=6) pL.nd rfl (Or.inl rfl)) bM)))
    (al (iA (bn hr) (pv 4) (aK (r:=cu K) aI (pv 6) ai (λ_ _=>rfl)) (dN plainAttrs_list slot_list_pop type_list_pop iX (pv 3) (aa (am GP hr rfl mP kP bP .nil aC (aa (pv 0) (aa (aF aW (pv 1) (pv 5)) (aa (aO bo rfl T.len boot_len (aa (pv 3) af)) af)))) af)) rfl)))
   (al (aH (aD bQ rfl T.tuple rfl (aa (aO bq rfl T.sorted boot_sorted (aa (cg (N:=["_law_node","_law_names"]) (cl:=[("_law_names",s.heap.objs.size+1)]) (k:=1) (js:=[4]) (g:=aJ 0) rfl
    (LcOk.mk' ["_law_names"] rfl rfl (by decide +kernel) (by decide +kernel) ?hcl rfl (by decide +kernel)) rfl ?hj (eJ (pv 2)) (λs H fp=>ao (i:=0) (show(["_law_node","_law_names"]:List Str).Nodup by decide +kernel) rfl (Or.inl rfl) (Or.inr rfl))
    (λs H fp=>aF (r:=nH K) ly (bD (aa (ca (bn hr) (pv 1) (aK (r:=cu K) aI (pv 0) ai (λ_ _=>rfl)) (λ_ _=>rfl)) (aa (ca (bn hr) (pv 1) (aK (r:=cu K) aI (pv 0) ai (λ_ _=>rfl)) (λ_ _=>rfl)) af))) (dJ (r:=nG K) iy (pv 0) (dI ai) ix))) af)) af)))))),?_⟩
  case hcl =>
   intro y hy;rcases mem_cons.mp hy with e|hy
   ·rw[e];rfl
   ·cases hy
  case hj =>
   intro i j x h1 h2
   match i,h1,h2 with
   |0,h1,h2 =>
    cases h1;cases h2;exact⟨rfl,Or.inr (Or.inl rfl),(show((aj aN).names.lookup ("_law_names":Str)≠some NameKind.local)by decide +kernel),by first|exact Or.inl rfl|exact Or.inr rfl⟩
   |i+1,h1,h2=>simp at h1
  refine⟨_,_,rfl,λp1 hp1=>⟨p1,_,_,rfl,ac,⟨by omega,by omega,by omega,by omega⟩,by omega,λpl hpl=>?_⟩⟩;refine λd hd=>⟨ac,?_⟩;have hpl0:H pl=none:=(ae hp1).free hpl;have hd0:H d=none:=((ae hp1).trans (ae hpl)).free hd;have npd:pl≠d:=λe=>by rw[←e,ac]at hd;cases hd
  have s0:=ar (o:=.dK [((Sum.inl 0:Key),V.int 0)]) hd0 (((ae (o:=.rng 1 40) hp1).trans (ae (o:=.lst ((List.range (40-1:Int).toNat).map λk=>V.int (1+(k:Nat)))) hpl)).trans (ae (o:=.dK []) hd));have l0:upd (upd (upd (upd H p1 (.rng 1 40)) pl (.lst ((List.range (40-1:Int).toNat).map λk=>V.int (1+(k:Nat))))) d (.dK [])) d (.dK [((Sum.inl 0:Key),V.int 0)]) pl=some (.lst (((List.range 39).map λk=>(1+(k:Nat):Int)).map V.int)):=by
   rw[ag npd,ag npd,ac,map_map];rfl
  have d0:upd (upd (upd (upd H p1 (.rng 1 40)) pl (.lst ((List.range (40-1:Int).toNat).map λk=>V.int (1+(k:Nat))))) d (.dK [])) d (.dK [((Sum.inl 0:Key),V.int 0)]) d=some (.dK [((Sum.inl 0:Key),V.int 0)]):=ac;generalize upd (upd (upd (upd H p1 (.rng 1 40)) pl (.lst ((List.range (40-1:Int).toNat).map λk=>V.int (1+(k:Nat))))) d (.dK [])) d (.dK [((Sum.inl 0:Key),V.int 0)])=H0 at s0 l0 d0⊢;have rl:(aU zs).length=zs.length:=cm ..;refine⟨_,rfl,t,aU zs,rfl,SqT.of (s0 _ _ tr.tup),nb (xs:=aU zs) (λi σ H'=>∃(lf:List Int) (kvs:List (Key×V)) (g:Int→Int) (o5 o6:Option V),σ=[some (.ref a),some (.int at'),some (.ref t),some (.ref pl),some (.ref d),o5,o6]∧Same H H'∧H' pl=some (.lst (lf.map V.int))∧H' d=some (.dK kvs)∧kvs.length≤i+1∧lf.length+i=39∧lf.Nodup∧(∀x∈lf,(1:Int)≤x) ∧
    aE kvs (Sum.inl 0:Key)=some (.int 0)∧(∀z∈zs.take i,aE kvs (Sum.inl z.2.num:Key)=some (.int (g z.2.num))∧1≤g z.2.num∧g z.2.num∉lf)∧(∀z∈zs.take i,∀y∈zs.take i,g z.2.num=g y.2.num→z.2.num=y.2.num)∧g 0=(0:Int))
   ⟨_,_,λx=>x,_,_,rfl,s0,l0,d0,le_refl _,by simp,?_,λx hx=>?_,rfl,λz hz=>(not_mem_nil (take_zero ▸ hz)).elim,λz hz=>(not_mem_nil (take_zero ▸ hz)).elim,rfl⟩ (λi σ H' _ h=>?_) (λi x σ H' p2 hx h hp2=>?_) (λσ H' h=>?_)⟩
  ·unfold Nodup;rw[pairwise_map];exact nodup_range.imp λh e=>h (by omega)
  ·obtain⟨k,_,rfl⟩:=mem_map.mp hx;omega
  ·obtain⟨_,_,_,_,_,_,sH,_⟩:=h;exact SqT.of (sH _ _ tr.tup)
  ·obtain⟨lf,kvs,g,o5,o6,rfl,sH,hl1,hd1,kl,ll,ln,lp,v0,vz,vi,g0⟩:=h;obtain⟨z,gz,rfl⟩:=cE hx;have mz:=mem_of_getElem? gz;have hi:=(List.getElem?_eq_some_iff.mp gz).1;have sp:=ae (o:=.tup [.int (0+(i:Nat)),.ref z.1]) hp2;have hpp:upd H' p2 (.tup [.int (0+(i:Nat)),.ref z.1]) p2=_:=ac;have sH1:=sH.trans sp;have hl2:=sp _ _ hl1;have hd2:=sp _ _ hd1;generalize upd H' p2 (.tup [.int (0+(i:Nat)),.ref z.1])=H1 at sp hpp sH1 hl2 hd2⊢;refine⟨p2,_,rfl,SqT.of hpp,rfl,_,_,rfl,_,_,rfl,rfl,?_⟩;refine⟨_,rfl,.inl ⟨rfl,_,SqL.of hl2⟩,_,rfl,_,rfl,_,rfl,_,_,rfl,rfl,_,rfl,pl,_,rfl,.inl (SqL.of hl2),a,_,_,rfl,by omega,by rw[length_map];omega,hS.same sH1,λj H2 j0 j1 s2=>?_⟩;rw[length_map]at j1;obtain⟨num,gnum⟩:∃num,lf[j.toNat]?=some num:=⟨_,getElem?_eq_getElem (by omega)⟩;have mnum:=mem_of_getElem? gnum;refine⟨pl,_,j,j.toNat,.int num,rfl,rfl,s2 _ _ hl2,by omega,by omega,by rw[length_map];exact oC j0 j1,by rw[getElem?_map,gnum];rfl,?_⟩;have sH2:=sH1.trans s2;have nzp:∀{y:Addr}{o:HO},H y=some o→y≠pl:=λh z=>by rw[z,hpl0]at h;cases h
   have hz2:upd H2 pl (.lst ((lf.map V.int).eraseIdx j.toNat)) z.1=some (.tup (vals z.2)):=by rw[ag (nzp (tr.nod z mz))];exact sH2 _ _ (tr.nod z mz)
   have hd3:upd H2 pl (.lst ((lf.map V.int).eraseIdx j.toNat)) d=some (.dK kvs):=by rw[ag (symm npd)];exact s2 _ _ hd2
   refine⟨_,rfl,_,rfl,z.1,_,_,_,rfl,rfl,SqT.of hz2,at0 z.2,d,_,rfl,.inl ⟨kvs,Sum.inl z.2.num,hd3,rfl,ap (by omega),rfl⟩,?_⟩;have lpk:=bj kvs (Sum.inl z.2.num:Key) (.int num);have pz:∀y∈zs,1≤y.2.num:=λy hy=>tr.tr.pos _ (bT hy);have ez:(lf.map V.int).eraseIdx j.toNat=(lf.eraseIdx j.toNat).map V.int:=eP _ _;have sub:∀x∈lf.eraseIdx j.toNat,x∈lf:=λx hx=>List.mem_of_mem_eraseIdx hx;have ner:num∉lf.eraseIdx j.toNat:=λhm=>by
    obtain⟨k,hk,e⟩:=List.mem_eraseIdx_iff_getElem?.mp hm;exact hk ((getElem?_inj (by omega) ln).mp (gnum.trans e.symm)).symm
   have old:∀y∈zs.take i,y.2.num≠z.2.num:=λy hy e=>by
    obtain⟨k,hk⟩:=mem_iff_getElem?.mp hy;rw[List.getElem?_take]at hk
    by_cases hki:k<i
    ·rw[if_pos hki]at hk;have nd:=cb tr.tr;have e1:((nds zs).map (·.num))[k]?=some y.2.num:=by unfold nds;rw[map_map,getElem?_map,hk];rfl
     have e2:((nds zs).map (·.num))[i]?=some z.2.num:=by unfold nds;rw[map_map,getElem?_map,gz];rfl
     rw[e]at e1;have:=(getElem?_inj (by rw[length_map,aM];omega) nd).mp (e1.trans e2.symm);omega
    ·rw[if_neg hki]at hk;cases hk
   refine⟨lf.eraseIdx j.toNat,_,λx=>if x=z.2.num then num else g x,_,_,rfl,ar hd0 (ar hpl0 sH2),by rw[ag npd,ac,ez],ac,by omega,by rw[List.length_eraseIdx];split<;>omega,ln.sublist (eraseIdx_sublist _ _),λx hx=>lp x (sub x hx),?_,λy hy=>?_,λy hy y' hy' e=>?_,?_⟩
   ·rw[bV,if_neg λe=>by have:=Sum.inl.inj e;have:=pz z mz;omega];exact v0
   ·rw[ax gz]at hy;rcases mem_append.mp hy with hy|hy
    ·have ne:=old y hy;obtain⟨e1,e2,e3⟩:=vz y hy;simp only[if_neg ne];refine⟨by rw[bV,if_neg λe=>ne (Sum.inl.inj e)];exact e1,e2,λh=>e3 (sub _ h)⟩
    ·rw[mem_singleton.mp hy];simp only[if_true];exact⟨by rw[bV,if_pos rfl],lp _ mnum,ner⟩
   ·rw[ax gz]at hy hy';rcases mem_append.mp hy with hy|hy<;>rcases mem_append.mp hy' with hy'|hy'
    ·simp only[if_neg (old y hy),if_neg (old y' hy')]at e;exact vi y hy y' hy' e
    ·rw[mem_singleton.mp hy']at e⊢;simp only[if_neg (old y hy),if_true]at e;exact absurd (by rw[e];exact mnum) (vz y hy).2.2
    ·rw[mem_singleton.mp hy]at e⊢;simp only[if_neg (old y' hy'),if_true]at e;exact absurd (by rw[←e];exact mnum) (vz y' hy').2.2
    ·rw[mem_singleton.mp hy,mem_singleton.mp hy']
   ·have:=pz z mz;exact(if_neg (by omega)).trans g0
  obtain⟨lf,kvs,g,o5,o6,rfl,sH,hl1,hd,kl,ll,ln,lp,v0,vz,vi,g0⟩:=h;rw[rl,take_length]at vz vi;have trf:=tr.same sH;have ht:=trf.tup;have hA:=trf.nod;have hg:∀z∈zs,aE kvs (Sum.inl z.2.num:Key)=some (.int (g z.2.num))∧aE kvs (Sum.inl z.2.par:Key)=some (.int (g z.2.par)):=λz hz=>⟨(vz z hz).1,by
   rcases pJ tr.tr (bT hz)with e|⟨m,hm,e⟩
   ·rw[e,g0];exact v0
   ·obtain⟨y,hy,rfl⟩:=bY hm;rw[←e];exact(vz y hy).1⟩
  have hnd:(zs.map λz=>g z.2.num).Nodup:=by
   have nd:=cb tr.tr;have e:zs.map (λz=>g z.2.num)=((nds zs).map (·.num)).map g:=by unfold nds;rw[map_map,map_map];rfl
   rw[e];unfold Nodup at nd⊢;rw[pairwise_map];refine nd.imp_of_mem λ{a b} ha hb h e=>h ?_;obtain⟨m,hm,e1⟩:=mem_map.mp ha;obtain⟨m',hm',e2⟩:=mem_map.mp hb;obtain⟨y,hy,rfl⟩:=bY hm;obtain⟨y',hy',rfl⟩:=bY hm';rw[←e1,←e2]at e⊢;exact vi y hy y' hy' e
  replace q:∀us t' H2,Same H' H2→H2 t'=some (.tup (aU us))→At H2 us→(nds us).Perm ((nds zs).map (reN g))→TW.cD (nds us)→Q (.ref t') H2:=λus t' H2 s2 h1 h2 h3 h4=>q us t' g H2 (sH.trans s2) h1 h2 h3 h4 g0 (λn hn=>by
    obtain⟨y,hy,rfl⟩:=bY hn;exact(vz y hy).2.1) λa ha b hb e=>by
    obtain⟨y,hy,rfl⟩:=bY ha;obtain⟨y',hy',rfl⟩:=bY hb;exact vi y hy y' hy' e
  refine⟨_,rfl,t,rfl,⟨_,SqT.of ht⟩,λp hp=>?_⟩;clear vz vi trf;refine cM (fr:=[some (.ref d)]) zs (λz=>V.ref z.1) (by omega) hp (fu (by rw[cF];exact SqT.of ht)) rfl (λz y H'=>∃q,y=.ref q∧q≠p∧H' q=some (.tup (vals (reN g z.2)))) (λz y H H' ⟨q,e,ne,h⟩ ex=>⟨q,e,ne,ex q _ ne h⟩) (λz H' k mz s1 hpl hk=>?_) (λys H' s1 hp' hys=>?_)
  ·obtain⟨g1,g2⟩:=hg z mz;have hd1:=s1 _ _ hd;have hz1:=s1 _ _ (hA z mz);have d1:bA H' d (.int z.2.num) (some (.int (g z.2.num))):=by rw[←g1];exact bA.k (k:=Sum.inl z.2.num) hd1
   have d2:bA H' d (.int z.2.par) (some (.int (g z.2.par))):=by rw[←g2];exact bA.k (k:=Sum.inl z.2.par) hd1
   refine⟨_,rfl,_,rfl,z.1,_,_,_,rfl,rfl,SqT.of hz1,at0 z.2,d,_,rfl,d1,?_⟩;refine⟨_,rfl,_,rfl,z.1,_,_,_,rfl,rfl,SqT.of hz1,at1 z.2,d,_,rfl,d2,le2,λc hc=>?_⟩;have s2:=ae (o:=.tup [.int (g z.2.num),.int (g z.2.par)]) hc;have ecut:iV (vals z.2) (some 2) none=[.str z.2.nm,stV z.2.st]:=rfl;refine⟨_,rfl,_,rfl,z.1,_,rfl,SqT.of (s2 _ _ hz1),(by intro h;exact absurd h.1 (show ¬HT.sIx 4 0 (some 2)=0 by decide)),λt' ht'=>?_⟩;rw[ecut];have s3:=s2.trans (ae (o:=.tup [.str z.2.nm,stV z.2.st]) ht');refine⟨c,t',_,_,rfl,rfl,SqT.of (bX ht' ac),SqT.of ac,by simp,(show 4≤sizeLine from bh (by decide)),λh=>absurd h (List.cons_ne_nil _ _),λ_ q hq=>?_⟩;have hpl3:∃ys,upd (upd H' c (.tup [.int (g z.2.num),.int (g z.2.par)])) t' (.tup [.str z.2.nm,stV z.2.st]) p=some (.lst ys):=let⟨ys,e⟩:=hpl;⟨ys,s3 _ _ e⟩;exact hk _ _ (s3.trans (ae hq)) ⟨q,rfl,db hpl3 hq,ac⟩
  ·obtain⟨cs,e1,e2,e3⟩:=ce (val:=V.ref) (S:=λ(z:Addr×Nd) (q:Addr)=>H' q=some (.tup (vals (reN g z.2)))) hys (λz y _ ⟨q,e,_,h⟩=>⟨q,e,h⟩);have er:ys=aU (cs.map λx=>(x.2,reN g x.1.2)):=by rw[e2,←cF,map_map];rfl
   have en:nds (cs.map λx=>(x.2,reN g x.1.2))=(nds zs).map (reN g):=by rw[←e1];unfold nds;rw[map_map,map_map,map_map];rfl
   have hcl:cs.length=zs.length:=by rw[←e1,length_map]
   have hsq:SqL K H' p (aU (cs.map λx=>(x.2,reN g x.1.2))):=SqL.of (by rw[hp',er]);refine fb (K:=K) (H:=H') (l:=p) (zs:=cs.map λx=>(x.2,reN g x.1.2)) (Q:=Q) (.inl hsq) (λz hz=>?_) ?_ (by rw[length_map];omega) (λus t' H2 s2 ht' hA' hpm hrise=>?_)
   ·obtain⟨x,hx,rfl⟩:=mem_map.mp hz;exact e3 x hx
   ·rw[en,map_map];unfold nds;rw[map_map];exact hnd
   ·refine q us t' H2 (s1.trans s2) ht' hA' ?_ hrise;have:(nds us).Perm (nds (cs.map λx=>(x.2,reN g x.1.2))):=hpm.map _;rw[en]at this;exact this
def iQ(K:PySem.W.Frag):Sp:=λvs H Q _=>∃a at' m,vs=[.ref a,.int at',.int m]∧0≤at'∧0≤m∧m≤9∧eZ K H a∧∀t zs H',H' t=some (.tup (aU zs))→At H' zs→(zs.length:Int)≤m→TW.Tree (nds zs)→(∀z∈zs,ui z.2)→Same H H'→Q (.ref t) H'
theorem scB:FnScope ["_law_script","_law_at","_law_most","_law_left","_law_folders","_law_nodes","_law_k","_law_number","_law_parent","_law_name","_law_stamp"] ["_law_script","_law_at","_law_most"] (aj eQ):=fsc
def buS(i:Nat):Stmt:=match (bp eQ).getD 3 (.Pass ⟨0,0,0,0⟩)with
 |.For _ _ b _ _=>b.getD i (.Pass ⟨0,0,0,0⟩)
 |x=>x
abbrev BX(P:Program)(w:World)(K:PySem.W.Frag)(mg:Str→Option Value)(base:Heap)(f:Addr)(cdv:Value)(A:Around)(outer:List Env)(s:Shared)(H:Hp)(E:XK):Cx:=(iw CX0 P w K mg base ["_law_script","_law_at","_law_most","_law_left","_law_folders","_law_nodes","_law_k","_law_number","_law_parent","_law_name","_law_stamp"] "_law_tree" (aj eQ) f cdv A outer s H E).nox
theorem uA{f:Addr}{cdv:Value}{A:Around}{outer:List Env}{s:Shared}{H0:Hp}{E:XK}(hr:Room 2 (A.deeper (PyProof.Rows.envOfC "_law_tree" (aj eQ) s.heap.objs.size f cdv))):
  ∃t,PS (BX P w K mg base f cdv A outer s H0 E) (buS 5) t∧∀(D:Ends)(H H6:Hp)(pl pf pn:Addr)(x0 x1 x2 x6:Option V)(lf:List Int)(zs:ZN)(num par:Int)(nm:Str)(st:Option Int),Sta H pl pf pn H6 lf (0::TW.aS (nds zs)) zs→zs.length≤20 →
   (∀H',Sta H pl pf pn H' lf (0::TW.aS (nds zs)) zs→D.nx [x0,x1,x2,some (.ref pl),some (.ref pf),some (.ref pn),x6,some (.int num),some (.int par),some (.str nm),some (stV st)] H') →
   (∀q H',(∀z∈zs,¬(z.2.par=par∧z.2.nm=nm))→Sta H pl pf pn H' lf (0::TW.aS (nds (zs++[(q,⟨num,par,nm,st⟩)]))) (zs++[(q,⟨num,par,nm,st⟩)])→D.nx [x0,x1,x2,some (.ref pl),some (.ref pf),some (.ref pn),x6,some (.int num),some (.int par),some (.str nm),some (stV st)] H') →
   t D [x0,x1,x2,some (.ref pl),some (.ref pf),some (.ref pn),x6,some (.int num),some (.int par),some (.str nm),some (stV st)] H6:=by
 refine⟨_,cQ (aX (gC (bn hr)) (bD (aa (pv 8) (aa (pv 9) af))) (cg (N:=["_law_node"]) (k:=1) (js:=[]) (g:=aJ 0) rfl (ci rfl (by decide +kernel) (by decide +kernel) (by decide +kernel)) rfl (λi j x h=>by simp at h)
     (bc (pv 5)) (λs H fp=>ao (i:=0) (show(["_law_node"]:List Str).Nodup by decide +kernel) rfl (Or.inl rfl) (Or.inr rfl))
     (λs H fp=>dJ (r:=nG K) iy (pv 0) (dI ai) (dI ai))) rfl) (ah (de (dN plainAttrs_list PySem.F.slot_list_append PySem.F.type_list_append bE (pv 5) (aa (bD (aa (pv 7) (aa (pv 8) (aa (pv 9) (aa (pv 10) af))))) af))) (al (cQ (aX jU (pv 10) fE (be _)) (al (de (dN plainAttrs_list PySem.F.slot_list_append PySem.F.type_list_append bE (pv 4) (aa (pv 7) af)))) bf))) bf,?_⟩
 intro D H H6 pl pf pn x0 x1 x2 x6 lf zs num par nm st A6 hzl qs qa;refine⟨_,rfl,_,rfl,le2,λq0 hq0=>?_⟩;have A7:=A6.grow (ae (o:=.tup [.int par,.str nm]) hq0);have eq0:(upd H6 q0 (.tup [.int par,.str nm])) q0=some (.tup ([Sum.inl par,Sum.inr nm].map kV)):=ac;refine⟨_,rfl,pn,rfl,⟨_,SqL.of A7.n⟩,λp hp=>?_⟩;generalize upd H6 q0 (.tup [.int par,.str nm])=H7 at A7 eq0 hp⊢;refine rn (k:=1) (js:=[]) (J:=Itl K pn) (p:=p) zs.length (by omega) (λi ys σ' H'=>∃kss:List (Addr×List Key),ys=(kss.map (·.1)).map V.ref∧kss.map (·.2)=((nds zs).take i).map plK∧kss.length=i∧(∀z∈kss,H' z.1=some (.tup (z.2.map kV)))∧σ'.length=1∧Same H7 H'∧H' p=some (.lst ys))
  ⟨[],rfl,rfl,rfl,by simp,rfl,ae hp,ac⟩ (λi ys σ' H' h=>?_) (λi ys σ' H' hi h=>?_) (λys σ' H' h=>?_) (λi ys σ' H' hi h v H2 hy=>?_) ?_ ?_
 ·obtain⟨kss,rfl,_,e,_⟩:=h;rw[length_map,length_map];omega
 ·obtain⟨_,_,_,_,_,_,s2,_⟩:=h;exact⟨_,_,SqL.of (s2 _ _ A7.n),fZ (getElem?_eq_getElem hi)⟩
 ·obtain⟨kss,e1,e2,e3,e4,_,s2,e5⟩:=h;refine⟨⟨_,SqL.of (s2 _ _ A7.n),by rw[cm];exact le_refl _⟩,?_⟩;subst e1;refine⟨q0,p,_,kss,rfl,s2 _ _ eq0,rfl,SqL.of e5,e4,_,rfl,?_⟩;rw[List.take_of_length_le (by rw[aM];exact le_refl _)]at e2;have A8:=A7.grow s2;cases ea:(kss.any λz=>decide (z.2=[Sum.inl par,Sum.inr nm]))with
  |true=>exact cV (qs _ A8)
  |false =>
   have ho:∀z∈zs,¬(z.2.par=par∧z.2.nm=nm):=λz hz ⟨h1,h2⟩=>by
    have m1:plK z.2∈kss.map (·.2):=by rw[e2];exact mem_map.mpr ⟨z.2,mem_map.mpr ⟨z,hz,rfl⟩,rfl⟩
    obtain⟨y,hy,ey⟩:=mem_map.mp m1;have:(kss.any λz=>decide (z.2=[Sum.inl par,Sum.inr nm]))=true:=any_eq_true.mpr ⟨y,hy,by rw[decide_eq_true_eq,ey];unfold plK;rw[h1,h2]⟩;rw[ea]at this;cases this
   refine gB ⟨_,rfl,.inl ⟨rfl,_,SqL.of A8.n⟩,_,rfl,_,rfl,_,rfl,_,rfl,(show 4≤sizeLine from bh (by decide)),λq hq=>⟨pn,_,_,rfl,rfl,bX hq A8.n,ap (by rw[cm];omega),?_⟩⟩;have A9:=(A8.grow (ae (o:=.tup (vals ⟨num,par,nm,st⟩)) hq)).node (n:=⟨num,par,nm,st⟩) ac;refine⟨_,rfl,rfl,_,rfl,?_⟩;cases st with
   |some i5 =>
    have ef:(0::TW.aS (nds zs))=(0:Int)::TW.aS (nds (zs++[(q,⟨num,par,nm,some i5⟩)])):=by simp[TW.aS,nds]
    rw[ef]at A9;exact cV (qa q _ ho A9)
   |none =>
    refine gB ⟨_,rfl,.inl ⟨rfl,_,SqL.of A9.f⟩,_,rfl,pf,_,_,rfl,rfl,A9.f,ap ?_,?_⟩
    ·have:=TW.ju (nds zs);rw[aM]at this;rw[length_map,length_cons];omega
    ·have A10:=A9.fold num;have ef:(0::TW.aS (nds zs))++[num]=(0:Int)::TW.aS (nds (zs++[(q,⟨num,par,nm,none⟩)])):=by simp[TW.aS,nds]
     rw[ef]at A10;exact qa q _ ho A10
 ·obtain⟨kss,e1,e2,e3,e4,e0,s2,e5⟩:=h;obtain⟨o1,rfl⟩:=sw e0;obtain⟨rfl,hx⟩:=hy;have gx:=hx _ (SqL.of (s2 _ _ A7.n));obtain⟨z1,g1,rfl⟩:=cE gx;have m1:=mem_of_getElem? g1;have ecut:iV (vals z1.2) (some 1) (some 3)=[.int z1.2.par,.str z1.2.nm]:=rfl;refine⟨_,rfl,_,rfl,_,rfl,z1.1,_,rfl,SqT.of (s2 _ _ (A7.nd z1 m1)),(λh=>by have h1:(1:Nat)=0:=h.1;cases h1),λq hq=>?_⟩;rw[ecut];refine⟨bX hq e5,kss++[(q,plK z1.2)],by rw[e1];simp,?_,by simp[e3],?_,rfl,ar hp (s2.trans (ae hq)),ac⟩
  ·rw[map_append,e2,take_succ,show(nds zs)[i]?=some z1.2 by unfold nds;rw[getElem?_map,g1];rfl,map_append];rfl
  ·intro z hz;have hqp:q≠p:=λz=>by rw[z,e5]at hq;cases hq
   rcases mem_append.mp hz with hz|hz
   ·have:=bX (o:=.tup [.int z1.2.par,.str z1.2.nm]) hq (e4 z hz);rw[ag]
    ·exact this
    ·intro e;rw[e,ag (symm hqp),e5]at this;cases this
   ·have e:z=(q,plK z1.2):=by simpa using hz
    subst e;rw[ag hqp];exact ac
 ·rintro _ _ _ _ _ m h;exact m _ _ h
 ·rintro _ _ _ _ m ⟨v1,b0,i1,b1,i2,b2,a2,x2,c1,c2,c3,q⟩;exact⟨v1,b0,i1,b1,i2,b2,a2,x2,c1,c2,c3,λp hp=>m _ _ (q p hp)⟩
theorem pM{f:Addr}{fd:FuncData}(F:Fun K "_law_tree" "_law_tree" eQ f fd)(T:Txt mg)(C:Has P w K mg base 2 "_law_pick" ["_law_script","_law_k","_law_many"] (iO K)):FnOk P w K mg base CX0 3 f fd ["_law_script","_law_at","_law_most"] (iQ K):=by
 obtain⟨fP,fdP,GP,mP,kP,bP⟩:=C;refine F.ok scB (λvs H Q E h=>?_) (λcdv A outer s H vs Q E hr h=>?_)
 ·obtain⟨a,at',m,rfl,_⟩:=h;rfl
 ·obtain⟨a,at',m,rfl,ha0,hm0,hm9,hS,k⟩:=h;obtain⟨t5,p5,h5⟩:=uA (P:=P) (w:=w) (mg:=mg) (base:=base) (f:=f) (cdv:=cdv) (A:=A) (outer:=outer) (s:=s) (H0:=H) (E:=E) hr;refine⟨_,(ah (aw (i:=3) scB.nd rfl (Or.inl rfl) (aD (dj rfl) rfl T.list rfl (aa (aD hV rfl T.range rfl (aa ai (aa (aF aW (pv 2) ai) af))) af)))
    (ah (aw (i:=4) scB.nd rfl (Or.inl rfl) (cr (aa ai af)))
    (ah (aw (i:=5) scB.nd rfl (Or.inl rfl) (cr af))
    (ah (dn PassesOwn.never rfl (lZ rfl T.range (aa (am GP hr rfl mP kP bP .nil aC (aa (pv 0) (aa (pv 1) (aa (aF aW (pv 2) ai) af)))) af)) (ao (i:=6) scB.nd rfl (Or.inl rfl))
    (ah (aw (i:=7) scB.nd rfl (Or.inl rfl) (dN plainAttrs_list slot_list_pop type_list_pop iX (pv 3) (aa (am GP hr rfl mP kP bP .nil aC (aa (pv 0) (aa (aF aW (aF aW (pv 1) ai) (aF cJ ai (pv 6))) (aa (aO bo rfl T.len boot_len (aa (pv 3) af)) af)))) af)))
    (ah (aw (i:=8) scB.nd rfl (Or.inl rfl) (aK dL (pv 4) (am GP hr rfl mP kP bP .nil aC (aa (pv 0) (aa (aF aW (aF aW (pv 1) ai) (aF cJ ai (pv 6))) (aa (aO bo rfl T.len boot_len (aa (pv 4) af)) af)))) (λ_ _=>rfl)))
    (ah (aw (i:=9) scB.nd rfl (Or.inl rfl) (aK dL (cr (aa io (aa io (aa io (aa io af))))) (am GP hr rfl mP kP bP .nil aC (aa (pv 0) (aa (aF aW (aF aW (pv 1) ai) (aF cJ ai (pv 6))) (aa ai af)))) (λ_ _=>rfl)))
    (ah (aw (i:=10) scB.nd rfl (Or.inl rfl) fE)
    (ah (cQ (aX tT (am GP hr rfl mP kP bP .nil aC (aa (pv 0) (aa (aF aW (aF aW (pv 1) ai) (aF cJ ai (pv 6))) (aa ai af)))) ai (be _)) (al (aw (i:=10) scB.nd rfl (Or.inl rfl) (aK dL (cr (aa ai (aa ai (aa ai (aa ai af))))) (am GP hr rfl mP kP bP .nil aC (aa (pv 0) (aa (aF aW (aF aW (pv 1) ai) (aF cJ ai (pv 6))) (aa ai af)))) (λ_ _=>rfl)))) bf)
    (al p5)))))))
    (al (aH (aD bQ rfl T.tuple rfl (aa (aO bH rfl T.sorted boot_sorted (aa (pv 5) af)) af)))))))),?_⟩
  refine⟨_,rfl,_,_,rfl,rfl,_,_,rfl,λp1 hp1=>⟨p1,_,_,rfl,ac,⟨by decide,by decide,by omega,by omega⟩,by omega,λpl hpl=>?_⟩⟩;refine⟨bh (by decide),λpf hpf=>⟨zero_le _,λpn hpn=>?_⟩⟩;have s0:Same H (upd (upd (upd (upd H p1 (.rng 1 (m+4))) pl (.lst ((List.range (m+4-1:Int).toNat).map λk=>V.int (1+(k:Nat))))) pf (.lst [.int 0])) pn (.lst [])):=(((ae hp1).trans (ae hpl)).trans (ae hpf)).trans (ae hpn);have hfl:pl≠pf:=λe=>by rw[←e,ac]at hpf;cases hpf
  have hln:pl≠pn:=λe=>by rw[←e,ag hfl,ac]at hpn;cases hpn
  have hfn:pf≠pn:=λe=>by rw[←e,ac]at hpn;cases hpn
  have A0:Sta H pl pf pn (upd (upd (upd (upd H p1 (.rng 1 (m+4))) pl (.lst ((List.range (m+4-1:Int).toNat).map λk=>V.int (1+(k:Nat))))) pf (.lst [.int 0])) pn (.lst [])) (lf0 m) [0] [] :=
   ⟨s0,by rw[ag hln,ag hfl,ac,lf0,map_map];rfl,by rw[ag hfn,ac];rfl,ac,λz hz=>by simp at hz,(ae hp1).free hpl,((ae hp1).trans (ae hpl)).free hpf,(((ae hp1).trans (ae hpl)).trans (ae hpf)).free hpn,hfl,hln,hfn⟩
  have B0:Bd [] (lf0 m):=Bd.zero hm9;refine⟨_,rfl,_,rfl,_,rfl,_,_,rfl,rfl,a,_,_,rfl,ha0,by omega,hS.same s0,λr H1 r0 r1 s1=>⟨r,rfl,by omega,by omega,?_⟩⟩;refine md (n:=r.toNat) (λi σ H'=>∃lf zs o6 o7 o8 o9 o10,σ=[some (.ref a),some (.int at'),some (.int m),some (.ref pl),some (.ref pf),some (.ref pn),o6,o7,o8,o9,o10]∧Sta H pl pf pn H' lf (0::TW.aS (nds zs)) zs∧Bd zs lf∧(lf.length:Int)+i=m+3∧zs.length≤i)
   ⟨_,[],_,_,_,_,_,rfl,A0.grow s1,B0,by rw[qz hm0];omega,le_refl _⟩ (λi σ H' hi h=>?_) (λσ H' h=>?_)
  ·obtain⟨lf,zs,o6,o7,o8,o9,o10,rfl,A1,B,hlf,hzl⟩:=h;have hi8:i<10:=by omega
   have z0:(0:Int)≤at'+1+6*(0+(i:Int)):=by omega
   refine⟨_,rfl,.inl ⟨rfl,_,SqL.of A1.l⟩,_,rfl,_,rfl,_,_,rfl,rfl,_,rfl,_,_,rfl,rfl,.inl ⟨by decide,by decide⟩,_,_,rfl,rfl,_,rfl,pl,_,rfl,.inl (SqL.of A1.l),a,_,_,rfl,by omega,by rw[length_map];omega,hS.same A1.same,λj H2 j0 j1 s2=>?_⟩;rw[length_map]at j1;have A2:=A1.grow s2;obtain⟨num,gnum⟩:∃num,lf[j.toNat]?=some num:=⟨_,getElem?_eq_getElem (by omega)⟩;refine⟨pl,_,j,j.toNat,.int num,rfl,rfl,A2.l,by omega,by omega,by rw[length_map];exact oC j0 j1,by rw[getElem?_map,gnum];rfl,?_⟩;rw[eP];have A3:=A2.pop (lf.eraseIdx j.toNat);have elen:(lf.eraseIdx j.toNat).length=lf.length-1:=List.length_eraseIdx_of_lt (by omega);generalize upd H2 pl (.lst ((lf.eraseIdx j.toNat).map V.int))=H3 at A3⊢;refine⟨_,rfl,_,rfl,_,rfl,_,_,rfl,rfl,_,rfl,_,_,rfl,rfl,.inl ⟨by decide,by decide⟩,_,_,rfl,rfl,_,rfl,pf,_,rfl,.inl (SqL.of A3.f),a,_,_,rfl,by omega,by rw[length_map,length_cons];omega,hS.same A3.same,λj2 H4 j20 j21 s4=>?_⟩;rw[length_map]at j21;obtain⟨par,mpar,gpar⟩:=qw j20 j21;have A4:=A3.grow s4;refine⟨pf,_,_,_,rfl,rfl,SqL.of A4.f,gpar,?_⟩;refine⟨bh (by decide),λp3 hp3=>?_⟩;have A5:=A4.grow (ae (o:=.lst [.str "a",.str "b",.str "c",.str "abcde"]) hp3);refine⟨_,rfl,_,rfl,_,_,rfl,rfl,_,rfl,_,_,rfl,rfl,.inl ⟨by decide,by decide⟩,_,_,rfl,rfl,a,_,_,rfl,by omega,by decide,hS.same A5.same,λj3 H5 j30 j31 s5=>?_⟩;obtain⟨nm,hnm,gnm⟩:=qx j30 j31;refine⟨p3,_,_,_,rfl,rfl,SqL.of (s5 _ _ ac),gnm,?_⟩;have A6:=A5.grow s5;refine⟨_,rfl,_,rfl,_,_,rfl,rfl,_,rfl,_,_,rfl,rfl,.inl ⟨by decide,by decide⟩,_,_,rfl,rfl,a,_,_,rfl,by omega,by decide,hS.same A6.same,λj4 H6 j40 j41 s6=>⟨_,_,rfl,rfl,_,rfl,?_⟩⟩;have A6':=A6.grow s6;refine uU (λhgt=>?_) (λhgt=>?_)
   ·refine⟨bh (by decide),λp5 hp5=>?_⟩;have A65:=A6'.grow (ae (o:=.lst [.int 0,.int 1,.int 2,.int 999]) hp5);refine⟨_,rfl,_,rfl,_,_,rfl,rfl,_,rfl,_,_,rfl,rfl,.inl ⟨by decide,by decide⟩,_,_,rfl,rfl,a,_,_,rfl,by omega,by decide,hS.same A65.same,λj5 H65 j50 j51 s65=>?_⟩;obtain⟨i5,hst5,gst⟩:=qy j50 j51;refine⟨p5,_,_,_,rfl,rfl,SqL.of (s65 _ _ ac),gst,?_⟩;have A66:=A65.grow s65;exact h5 _ H H65 pl pf pn _ _ _ _ (lf.eraseIdx j.toNat) zs num par nm (some i5) A66 (by omega) (λH' A8=>⟨_,zs,_,_,_,_,_,rfl,A8,B.skip _,by rw[elen];omega,by omega⟩)
     (λq H' ho A9=>⟨_,_,_,_,_,_,_,rfl,A9,B.add (q:=q) (n:=⟨num,par,nm,(some i5)⟩) gnum mpar ho hnm hst5,by rw[elen];omega,by rw[length_append,length_singleton];omega⟩)
   ·exact h5 _ H H6 pl pf pn _ _ _ _ (lf.eraseIdx j.toNat) zs num par nm none A6' (by omega) (λH' A8=>⟨_,zs,_,_,_,_,_,rfl,A8,B.skip _,by rw[elen];omega,by omega⟩)
     (λq H' ho A9=>⟨_,_,_,_,_,_,_,rfl,A9,B.add (q:=q) (n:=⟨num,par,nm,none⟩) gnum mpar ho hnm (.inl rfl),by rw[elen];omega,by rw[length_append,length_singleton];omega⟩)
  ·obtain⟨lf,zs,o6,o7,o8,o9,o10,rfl,A1,B,hlf,hzl⟩:=h;have hzl8:(zs.length:Int)≤m:=by omega
   have hnum:(zs.map tp).map (·.2.1)=(nds zs).map (·.num):=by
    unfold nds;simp only[map_map];rfl
   have hnd:((nds zs).map (·.num)).Nodup:=(nodup_append.mp B.nd).1;refine⟨_,rfl,pn,zs.map tp,rfl,SqL.of (by rw[A1.n,fw]),λz hz=>?_,by rw[hnum];exact hnd,by rw[length_map];omega,λts pm up p hp=>?_⟩
   ·obtain⟨y,hy,rfl⟩:=mem_map.mp hz;exact A1.nd y hy
   ·obtain⟨pm2,eb⟩:=uj pm;have er:(ts.map (·.1)).map V.ref=aU (ts.map un):=by rw[←fw,eb]
    rw[er];refine⟨p,_,rfl,.inl ⟨SqL.of ac,λl hl=>?_⟩⟩;have mem:∀z,z∈ts.map un→z∈zs:=λz hz=>pm2.mem_iff.mp hz;refine k l (ts.map un) _ ac ?_ (by rw[pm2.length_eq];exact hzl8) ?_ (λz hz=>B.ok z (mem z hz)) ((A1.same.trans (ae hp)).trans (ae hl))
    ·intro z hz;exact((ae hp).trans (ae hl)) _ _ (A1.nd z (mem z hz))
    ·refine TW.qv B.built (pm2.map _) ?_ hnd B.own;unfold nds;rw[pairwise_map];have up2:((ts.map un).map tp).Pairwise (λa b=>a.2.1<b.2.1):=by rw[eb];exact up
     rw[pairwise_map]at up2;exact up2.imp λh=>Int.le_of_lt h
end
end TK
namespace L2
open PySem PySem.Spec PyProof.Rows
section
variable{X:Cx}{pins:List (Addr×Obj)}{σ:St}{H:Hp}{s:Shared}
theorem lh{H:Hp}{xs:List V}(h:xs.all dM=true):ck H xs xs:=⟨rfl,λi x y hx hy=>by
 rw[hx]at hy;cases hy;exact cj ⟨rfl,all_eq_true.mp h x (mem_of_getElem? hx)⟩⟩
end
end L2
namespace TK
open PySem L2
section
variable{t u v:List Nd}{wo wn:List Wt}{G:Int}{g:Int→Int}
theorem pN{a b:List Nd}(ha:TW.cD a)(hb:TW.cD b)(h:∀x,x∈a↔x∈b):a=b :=
 mX (R:=λa b:Nd=>a.num<b.num) (λa=>Int.lt_irrefl _) (λa b h1 h2=>lt_asymm h1 h2) ha hb h
theorem tF(T:TW.Tree1 t){n:Nd}(hn:n∈t):n.par=0∨∃m∈t,m.num=n.par:=by
 obtain⟨p,hp⟩:=TW.PathTo.ex T hn;obtain⟨q,_,hq⟩:=hp.inv T hn rfl;generalize n.par=x at hq⊢;cases hq with
 |top=>exact .inl rfl
 |node hm _=>exact .inr ⟨_,hm,rfl⟩
theorem eG(T:TW.Tree1 t)(h:Wk t wo){n:Nd}(hn:n∈t):n.num∈aG wo:=by
 obtain⟨p,hp⟩:=h.has T hn;exact mem_map.mpr ⟨_,hp,rfl⟩
theorem rB(T:TW.Tree1 t)(h0:g 0=0)(h:∀n∈t,g n.num=n.num)(hp:u.Perm (t.map (TW.reG g)))(hr:TW.cD u):u=t:=by
 have e:t.map (TW.reG g)=t:=by
  conv=>rhs;rw[←map_id t]
  refine map_congr_left λn hn=>?_;have e1:=h n hn;have e2:g n.par=n.par:=by
   rcases tF T hn with e|⟨m,hm,e⟩
   ·rw[e,h0]
   ·rw[←e];exact h m hm
  show(⟨g n.num,g n.par,n.nm,n.st⟩:Nd)=n;rw[e1,e2]
 rw[e]at hp;exact pN hr T.rise λx=>hp.mem_iff
theorem rg(f:Int→Int):(t.map (TW.reG g)).map (TW.reG f)=t.map (TW.reG λx=>f (g x)):=by
 rw[map_map];rfl
theorem jN(T:TW.Tree1 t)(ho:Wk t wo)(h0:g 0=0)(h1:∀n∈t,1≤g n.num)(inj:∀a∈t,∀b∈t,g a.num=g b.num→a.num=b.num)(hp:u.Perm (t.map (TW.reG g)))(U:TW.Tree1 u)(hn:Wk u wn)(hv:v.Perm (u.map (TW.reG (hR wo wn G))))(hr:TW.cD v):v=t:=by
 have ew:wn=reW g wo:=hn.one (Wk.re T ho h0 inj h1 hp U.rise);have injw:∀a∈wo,∀b∈wo,g a.2.num=g b.2.num→a.2.num=b.2.num:=λa ha b hb e=>inj _ ((ho.mem a.1 a.2).mp ha).1 _ ((ho.mem b.1 b.2).mp hb).1 e;refine rB (g:=λx=>hR wo wn G (g x)) T (by rw[h0];exact gu) (λn hn'=>?_) (hv.trans ((hp.map (TW.reG (hR wo wn G))).trans (.of_eq (rg (t:=t) (g:=g) (hR wo wn G))))) hr;obtain⟨w,hw,e⟩:=mem_map.mp (eG T ho hn');refine eF U ho hn ?_;rw[ew];exact(Kn.whole T ho injw).mpr ⟨⟨w,hw,e⟩,rfl⟩
theorem jO(T:TW.Tree1 t)(U:TW.Tree1 u)(ho:Wk t wo)(hn:Wk u wn)(hG:Gre wo G)(hv:v.Perm (u.map (TW.reG (hR wo wn G))))(hr:TW.cD v):TW.Tree1 v∧Wk v (reW (hR wo wn G) wn):=by
 have inj:∀a∈u,∀b∈u,hR wo wn G a.num=hR wo wn G b.num→a.num=b.num:=λa ha b hb e=>gw T U ho hn hG (eG U hn ha) (eG U hn hb) e;have h1:∀n∈u,1≤hR wo wn G n.num:=λn hn'=>tq T U ho hn hG (eG U hn hn');have mem:∀n,n∈v↔∃m∈u,n=TW.reG (hR wo wn G) m:=λn=>by
  rw[hv.mem_iff,mem_map];exact⟨λ⟨m,h,e⟩=>⟨m,h,e.symm⟩,λ⟨m,h,e⟩=>⟨m,h,e.symm⟩⟩
 exact⟨TW.iN U gu h1 inj mem hv hr,Wk.re U hn gu inj h1 hv hr⟩
theorem nq(T:TW.Tree1 t)(U:TW.Tree1 u)(ho:Wk t wo)(hn:Wk u wn)(hG:Gre wo G)(hv:v.Perm (u.map (TW.reG (hR wo wn G))))(hr:TW.cD v){v2:List Nd}{wn2:List Wt}(hn2:Wk v wn2)(h2:v2.Perm (v.map (TW.reG (hR wo wn2 G))))(hr2:TW.cD v2):v2=v:=by
 obtain⟨V,wv⟩:=jO T U ho hn hG hv hr;obtain rfl:=hn2.one wv;refine rB V gu (λn hn'=>?_) h2 hr2;obtain⟨m,hm,e⟩:=mem_map.mp (hv.mem_iff.mp hn');rw[←e];exact pH T U ho hn hG V wv (eG U hn hm)
theorem rh{G G':Int}(h:Gre wo G)(h2:G=0∨G∈aG wo)(h':Gre wo G')(h2':G'=0∨G'∈aG wo):G=G':=by
 have a:G≤G':=by
  rcases h2 with e|m
  ·rw[e];exact h'.1
  ·exact h'.2 _ m
 have b:G'≤G:=by
  rcases h2' with e|m
  ·rw[e];exact h.1
  ·exact h.2 _ m
 omega
end
section
variable{P:Program}{w:World}{K:PySem.W.Frag}{mg:Str→Option Value}{base:Heap}
def lwN:List Str:=["_law_script","_law_tree_here","_law_other","_law_pairs","_law_third","_law_once"]
theorem nr:FnScope lwN ["_law_script"] (aj gH):=fsc
abbrev LwX(P:Program)(w:World)(K:PySem.W.Frag)(mg:Str→Option Value)(base:Heap)(f:Addr)(cdv:Value)(A:Around)(outer:List Env)(s:Shared)(H:Hp)(E:XK):Cx:=(iw CX0 P w K mg base lwN "law" (aj gH) f cdv A outer s H E).nox
def lwS(i:Nat):Stmt:=(bp gH).getD i (.Pass ⟨0,0,0,0⟩)
abbrev lwF(a t u l:Addr)(o5 o6:Option V):St:=[some (.ref a),some (.ref t),some (.ref u),some (.ref l),o5,o6]
section
variable{f:Addr}{cdv:Value}{A:Around}{outer:List Env}{s:Shared}{H0:Hp}{E:XK}
theorem lw3(hr:Room 7 (A.deeper (PyProof.Rows.envOfC "law" (aj gH) s.heap.objs.size f cdv)))(T:Txt mg):
  ∃rd,PS (LwX P w K mg base f cdv A outer s H0 E) (lwS 3) rd∧∀(D:Ends) (H:Hp) a t u l o5 o6 zs cs,Tre H t zs→H l=some (.lst (au cs))→Cpl H cs→cs.Pairwise (λa b=>a.2.1<b.2.1)→cs.length≤30→(∀b,b∈cs.map (·.2.1)↔b∈(nds zs).map (·.num)) →
   (∀H',Same H H'→D.nx (lwF a t u l o5 o6) H')→rd D (lwF a t u l o5 o6) H:=by
 refine⟨_,cQ (aX (fY (dA hr)) (aO eO rfl T.sorted boot_sorted (aa (cg (N:=["_law_pair"]) (cl:=[]) (k:=1) (js:=[]) (g:=aJ 0) rfl (ci rfl (by decide +kernel) (by decide +kernel) (by decide +kernel)) rfl (λi j x h=>by simp at h) (bc (pv 3))
   (λs H fp=>ao (i:=0) (show(["_law_pair"]:List Str).Nodup by decide +kernel) rfl (Or.inl rfl) (Or.inr rfl)) (λs H fp=>aK (r:=cu K) aI (pv 0) ai (λ_ _=>rfl))) af))
   (cg (N:=["_law_node"]) (cl:=[]) (k:=1) (js:=[]) (g:=aJ 0) rfl (ci rfl (by decide +kernel) (by decide +kernel) (by decide +kernel)) rfl (λi j x h=>by simp at h) (eJ (pv 1))
   (λs H fp=>ao (i:=0) (show(["_law_node"]:List Str).Nodup by decide +kernel) rfl (Or.inl rfl) (Or.inr rfl)) (λs H fp=>aK (r:=cu K) aI (pv 0) ai (λ_ _=>rfl))) (be _)) (al (aH li)) bf,?_⟩
 intro D H a t u l o5 o6 zs cs tr hl hC pw cl hm q;refine⟨_,rfl,l,rfl,⟨_,SqL.of hl⟩,λp hp=>?_⟩;refine cM (fr:=[]) cs (λc=>V.ref c.1) (by omega) hp (cn (SqL.of hl)) rfl (λc y _=>y=.int c.2.1) (λ_ _ _ _ h _=>h) (λc H' kk mc s1 _ hk=>⟨_,rfl,c.1,_,_,_,rfl,rfl,SqT.of (s1 _ _ (hC c mc)),rfl,hk _ H' (Same.refl _) rfl⟩) (λys H1 s1 hp1 hys=>?_);have ey:=bI (f:=λc:Addr×Int×Int=>V.int c.2.1) hys (λz y _ h=>h);have ey2:ys=(cs.map (·.2.1)).map V.int:=by rw[ey,map_map];rfl
 rw[ey2]at hp1;have up:(cs.map (·.2.1)).Pairwise (λa b=>a<b):=pairwise_map.mpr pw;refine⟨p,cs.map (·.2.1),rfl,hp1,(by unfold Nodup;exact up.imp λh e=>by omega),by rw[length_map];omega,λms pm rise p2 hp2=>?_⟩;have s2:=s1.trans (ae (o:=.lst (ms.map V.int)) hp2);have h2:upd H1 p2 (.lst (ms.map V.int)) p2=some (.lst (ms.map V.int)):=ac;generalize upd H1 p2 (.lst (ms.map V.int))=H2 at s2 h2⊢;have tr2:=tr.same s2;refine⟨_,rfl,t,rfl,⟨_,SqT.of tr2.tup⟩,λp3 hp3=>?_⟩;refine cM (fr:=[]) zs (λz=>V.ref z.1) (by have:=tr.len;omega) hp3 (fu (by rw[cF];exact SqT.of tr2.tup)) rfl (λz y _=>y=.int z.2.num) (λ_ _ _ _ h _=>h) (λz H' kk mz s3 _ hk=>⟨_,rfl,z.1,_,_,_,rfl,rfl,SqT.of (s3 _ _ (tr2.nod z mz)),at0 z.2,hk _ H' (Same.refl _) rfl⟩) (λys' H3 s3 hp3' hys'=>?_);have ez:=bI (f:=λz:Addr×Nd=>V.int z.2.num) hys' (λz y _ h=>h);have ez2:ys'=((nds zs).map (·.num)).map V.int:=by rw[ez];unfold nds;rw[map_map,map_map];rfl
 rw[ez2]at hp3';have em:ms=(nds zs).map (·.num):=mX (R:=λa b:Int=>a<b) (λa=>Int.lt_irrefl a) (λa b h1 h2=>lt_asymm h1 h2) rise (pairwise_map.mpr tr.tr.rise) λx=>by rw[pm.mem_iff];exact hm x
 subst em;exact .inr ⟨p2,p3,_,_,rfl,rfl,lh (by rw[List.all_map];exact all_eq_true.mpr λ_ _=>rfl),.inl ⟨s3 _ _ h2,hp3'⟩,_,rfl,cV (q H3 (s2.trans s3))⟩
theorem lw4(hr:Room 7 (A.deeper (PyProof.Rows.envOfC "law" (aj gH) s.heap.objs.size f cdv)))(CR:Has P w K mg base 7 "renumbered" ["old","new"] jL)(CB:Has P w K mg base 2 "change_between" ["one","other"] lS):
  ∃rd,PS (LwX P w K mg base f cdv A outer s H0 E) (lwS 4) rd∧∀(D:Ends) (H:Hp) a t u l o5 o6 zs us g,Tre H t zs→Tre H u us→(nds us).Perm ((nds zs).map (reN g))→g 0=0→(∀n∈nds zs,1≤g n.num)→(∀a∈nds zs,∀b∈nds zs,g a.num=g b.num→a.num=b.num) →
   (∀H',Same H H'→D.nx (lwF a t u l o5 o6) H')→rd D (lwF a t u l o5 o6) H:=by
 obtain⟨fR,fdR,GR,mR,kR,bR⟩:=CR;obtain⟨fB,fdB,GB,mB,kB,bB⟩:=CB;have hr2:Room 2 _:=hr.mono (by decide);refine⟨_,cQ (PW.pt (pw_or (aX (fY (dA hr)) (am GR hr rfl mR kR bR .nil aC (aa (pv 1) (aa (pv 2) af))) (pv 1) (be _))
  (pw_or1 (aX (fY (dA hr)) (am GB hr2 rfl mB kB bB .nil aC (aa (pv 1) (aa (am GR hr rfl mR kR bR .nil aC (aa (pv 1) (aa (pv 2) af))) af))) (bD af) (be _))))) (al (aH li)) bf,?_⟩
 intro D H a t u l o5 o6 zs us g tr ur hp g0 g1 gi q;refine⟨_,rfl,_,rfl,t,u,zs,us,rfl,tr,ur,λt1 us1 wo wn G H1 s1 ho hn hG hG2 ht1 hA1 pm1 rs1=>?_⟩;have e1:nds us1=nds zs:=jN tr.tr ho g0 g1 gi hp ur.tr hn pm1 rs1;have tr1:=tr.same s1;refine⟨_,rfl,.inr ⟨t1,t,_,_,rfl,rfl,fe e1 hA1 tr1.nod,.inr ⟨ht1,tr1.tup⟩,_,rfl,cV ?_⟩⟩;refine⟨_,rfl,_,rfl,_,rfl,t,u,zs,us,rfl,tr1,ur.same s1,λt2 us2 wo2 wn2 G2 H2 s2 ho2 hn2 _ _ ht2 hA2 pm2 rs2=>?_⟩;have e2:nds us2=nds zs:=jN tr.tr ho2 g0 g1 gi hp ur.tr hn2 pm2 rs2;have l2:us2.length≤30:=by rw[←aM,e2,aM];exact tr.len
 refine⟨t,t2,zs,us2,rfl,tr1.same s2,⟨ht2,hA2,by rw[e2];exact tr.tr,l2⟩,λc es H3 s3 hc ch=>?_⟩;have er:gp es=[]:=by
  rw[e2]at ch;cases h:gp es with
  |nil=>rfl
  |cons r rest =>
   have:=(ch.mem r).mp (by rw[h];exact mem_cons_self);exact absurd (this.1.trans this.2.1.symm) this.2.2
 have ee:es=[]:=by
  unfold gp at er;exact List.map_eq_nil_iff.mp er
 subst ee;refine⟨zero_le _,λp hp3=>?_⟩;have s4:=ae (o:=.tup []) hp3;exact .inr ⟨c,p,[],[],rfl,rfl,⟨rfl,λi x y h=>by cases h⟩,.inr ⟨s4 _ _ hc.tup,ac⟩,_,rfl,cV (q _ (((s1.trans s2).trans s3).trans s4))⟩
end
end
theorem pO{α:Type}{K:PySem.W.Frag}{js:List Nat}{J:It}{te:TE}{σ:St}{H1:Hp}{Q:VK}{p:Addr}{fr:List (Option V)}(cs:List α)(ad:α→Addr)(v1 v2:α→V)(hn:cs.length≤1000)(hp:H1 p=none)(S:Src J H1 (cs.map λc=>V.ref (ad c)))(hC:∀c∈cs,H1 (ad c)=some (.tup [v1 c,v2 c]))(hfr:bg 2 js σ=none::none::fr)(R:α→V→Hp→Prop)(hR:∀z y H H',R z y H→Ext p H H'→R z y H')(elt:∀z H' (k:VK),z∈cs→Same H1 H'→(∃ys,H' p=some (.lst ys))→(∀y H4,Same H' H4→R z y H4→k y H4)→te (some (v1 z)::some (v2 z)::fr) H' k)(fin:∀ys H',Same H1 H'→H' p=some (.lst ys)→Paired (λz y=>R z y H') cs ys→Q (.ref p) H'):LcW 2 js (jR K 2 (cx (aJ 0) (cx (aJ 1) jQ))) te σ Q J H1 p:=by
 have grow:∀{as:List α}{ys:List V}{H H':Hp},Ext p H H'→Paired (λz y=>R z y H) as ys→Paired (λz y=>R z y H') as ys:=λex r=>Paired.mapP r λa b h=>hR a b _ _ h ex;have hlen:∀{as:List α}{ys:List V}{H:Hp},Paired (λz y=>R z y H) as ys→ys.length=as.length:=λr=>(Paired.length r).symm;refine⟨λi m ys σ' H'=>m=cs.length-i∧i≤cs.length∧(∃o o',σ'=o::o'::fr)∧Same H1 H'∧H' p=some (.lst ys)∧Paired (λz y=>R z y H') (cs.take i) ys,⟨cs.length,by simp,zero_le _,⟨none,none,hfr⟩,ae hp,ac,.nil⟩,?_⟩;rintro i m ys σ' H' ⟨rfl,hi,⟨o,o',rfl⟩,s1,hl,hys⟩;have lc:(cs.map λc=>V.ref (ad c)).length=cs.length:=by rw[length_map]
 by_cases hlt:i<cs.length
 ·have hlt':i<(cs.map λc=>V.ref (ad c)).length:=by rw[lc];exact hlt
  refine .inr ⟨S.go i H' hlt' s1,?_,λx H2 hy=>?_⟩
  ·have h1:ys.length≤cs.length:=by
    rw[hlen hys,length_take];omega
   exact lt_of_le_of_lt h1 (ap hn)
  ·obtain⟨rfl,hx⟩:=S.yl i H' x H2 hlt' s1 hy;have gz:cs[i]?=some cs[i]:=getElem?_eq_getElem hlt;have mz:=mem_of_getElem? gz;rw[getElem?_map,gz]at hx;have ex:V.ref (ad cs[i])=x:=Option.some.inj hx;have et:cs.take (i+1)=cs.take i++[cs[i]]:=ax gz;subst ex;generalize cs[i]=z at gz mz et⊢;refine⟨ad z,_,rfl,SqT.of (s1 _ _ (hC z mz)),rfl,_,_,rfl,_,_,rfl,rfl,?_⟩;refine elt z H2 _ mz s1 ⟨ys,hl⟩ λy H5 s5 r5=>⟨s5 _ _ hl,cs.length-(i+1),by omega,rfl,hlt,⟨_,_,rfl⟩,ar hp (s1.trans s5),ac,?_⟩;rw[et];exact L2.Paired.snoc (grow ((Ext.of s5).trans Ext.upd) hys) (hR _ _ _ _ r5 Ext.upd)
 ·have e:i=cs.length:=by omega
  subst e;have st:=S.stop H' s1;rw[lc]at st;refine .inl ⟨st,fin ys H' s1 hl ?_⟩;rw[take_length]at hys;exact hys
theorem nu{H:Hp}{cs ds:List (Addr×Int×Int)}(e:cs.map (·.2)=ds.map (·.2))(hc:Cpl H cs)(hd:Cpl H ds):ck H (au cs) (au ds):=by
 have el:cs.length=ds.length:=by have:=congrArg length e;rw[length_map,length_map]at this;exact this
 refine⟨by unfold au;rw[length_map,length_map];exact el,λi x y hx hy=>?_⟩;unfold au at hx hy;rw[getElem?_map]at hx hy;cases g1:cs[i]? with
 |none=>rw[g1]at hx;cases hx
 |some c =>
  cases g2:ds[i]? with
  |none=>rw[g2]at hy;cases hy
  |some d =>
   rw[g1]at hx;rw[g2]at hy;cases hx;cases hy;have e2:c.2=d.2:=by
    have:=congrArg (λl=>l[i]?) e;simp only[getElem?_map,g1,g2]at this;exact Option.some.inj this
   have h1:=hc c (mem_of_getElem? g1);have h2:=hd d (mem_of_getElem? g2);rw[←e2]at h2;refine .inr ⟨c.1,d.1,_,_,rfl,rfl,h1,h2,rfl,λj x y gx gy=>?_⟩;rw[gx]at gy;cases gy
   match j,gx with
   |0,gx=>cases gx;exact cj ⟨rfl,rfl⟩
   |1,gx=>cases gx;exact cj ⟨rfl,rfl⟩
   |j+2,gx=>simp at gx
theorem nv{H:Hp}{cs ds:List Cp}(e:cs.map (·.p)=ds.map (·.p))(hc:∀c∈cs,ky H c)(hd:∀c∈ds,ky H c):ck H (cs.map λc=>V.ref c.t) (ds.map λc=>V.ref c.t):=by
 have el:cs.length=ds.length:=by have:=congrArg length e;rw[length_map,length_map]at this;exact this
 refine⟨by rw[length_map,length_map];exact el,λi x y hx hy=>?_⟩;rw[getElem?_map]at hx hy;cases g1:cs[i]? with
 |none=>rw[g1]at hx;cases hx
 |some c =>
  cases g2:ds[i]? with
  |none=>rw[g2]at hy;cases hy
  |some d =>
   rw[g1]at hx;rw[g2]at hy;cases hx;cases hy;have e2:c.p=d.p:=by
    have:=congrArg (λl=>l[i]?) e;simp only[getElem?_map,g1,g2]at this;exact Option.some.inj this
   have h1:=(hc c (mem_of_getElem? g1)).2;have h2:=(hd d (mem_of_getElem? g2)).2;rw[←e2]at h2;refine .inr ⟨c.t,d.t,_,_,rfl,rfl,h1,h2,rfl,λj x y gx gy=>?_⟩;rw[gx]at gy;cases gy;rw[getElem?_map]at gx;cases g3:c.p[j]? with
   |none=>rw[g3]at gx;cases gx
   |some q=>rw[g3]at gx;cases gx;exact cj ⟨rfl,rfl⟩
section
variable{P:Program}{w:World}{K:PySem.W.Frag}{mg:Str→Option Value}{base:Heap}
section
variable{f:Addr}{cdv:Value}{A:Around}{outer:List Env}{s:Shared}{H0:Hp}{E:XK}
theorem lw5(hr:Room 7 (A.deeper (PyProof.Rows.envOfC "law" (aj gH) s.heap.objs.size f cdv)))(T:Txt mg)(CK:Has P w K mg base 6 "known_again" ["old","new"] jK):
  ∃rd,PS (LwX P w K mg base f cdv A outer s H0 E) (lwS 5) rd∧∀(D:Ends) (H:Hp) a t u l o5 o6 zs us cs wo wn,Tre H t zs→Tre H u us→Wk (nds zs) wo→Wk (nds us) wn→H l=some (.lst (au cs))→Cpl H cs→cs.Pairwise (λa b=>a.2.1<b.2.1)→cs.length≤30→(∀b a,(b,a)∈cs.map (·.2)↔Kn wo wn b a) →
   (∀H',Same H H'→D.nx (lwF a t u l o5 o6) H')→rd D (lwF a t u l o5 o6) H:=by
 obtain⟨fK,fdK,GK,mK,kK,bK⟩:=CK;have hr6:Room 6 _:=hr.mono (by decide);refine⟨_,cQ (aX (fY (dA hr)) (aO bH rfl T.sorted boot_sorted (aa (cg (N:=["_law_pair"]) (cl:=[]) (k:=1) (js:=[]) (g:=aJ 0) rfl (ci rfl (by decide +kernel) (by decide +kernel) (by decide +kernel)) rfl (λi j x h=>by simp at h) (bc (pv 3))
   (λs H fp=>ao (i:=0) (show(["_law_pair"]:List Str).Nodup by decide +kernel) rfl (Or.inl rfl) (Or.inr rfl)) (λs H fp=>bD (aa (aK (r:=cu K) aI (pv 0) ai (λ_ _=>rfl)) (aa (aK (r:=cu K) aI (pv 0) ai (λ_ _=>rfl)) af)))) af))
   (am GK hr6 rfl mK kK bK .nil aC (aa (pv 2) (aa (pv 1) af))) (be _)) (al (aH li)) bf,?_⟩
 intro D H a t u l o5 o6 zs us cs wo wn tr ur ho hn hl hC pw cl hK q;refine⟨_,rfl,l,rfl,⟨_,SqL.of hl⟩,λp hp=>?_⟩;refine cM (fr:=[]) cs (λc=>V.ref c.1) (by omega) hp (cn (SqL.of hl)) rfl (λc y H=>∃r,y=.ref r∧r≠p∧H r=some (.tup [.int c.2.2,.int c.2.1])) (λz y Ha Hb ⟨r,e,n,h⟩ ex=>⟨r,e,n,ex r _ n h⟩) (λc H' kk mc s1 hpl hk=>?_) (λys H1 s1 hp1 hys=>?_)
 ·obtain⟨yy,hyy⟩:=hpl;exact⟨_,rfl,c.1,_,_,_,rfl,rfl,SqT.of (s1 _ _ (hC c mc)),rfl,_,rfl,c.1,_,_,_,rfl,rfl,SqT.of (s1 _ _ (hC c mc)),rfl,bh (show 2≤1000 by decide),λr hr=>hk _ _ (ae hr) ⟨r,rfl,(λz=>by rw[z,hyy]at hr;cases hr),ac⟩⟩
 obtain⟨bs,eb1,eb2,hbs⟩:=ce (val:=V.ref) (S:=λ(c:Addr×Int×Int) q=>H1 q=some (.tup [.int c.2.2,.int c.2.1])) hys λz y _ ⟨r,e,_,h⟩=>⟨r,e,h⟩;have kc:∀c∈cs,Kn wo wn c.2.1 c.2.2:=λc hc=>(hK _ _).mp (mem_map.mpr ⟨c,hc,rfl⟩);have bl:bs.length≤30:=by rw[←eb1,length_map]at cl;exact cl
 have nd2:(cs.map (·.2.2)).Nodup:=by
  unfold Nodup;rw[pairwise_map];refine pw.imp_of_mem λ{c c'} hc hc' h e=>?_;have h2:=kc c' hc';rw[←e]at h2;have:=Kn.inj ur.tr ho hn (kc c hc) h2;omega
 refine⟨p,bs.map λx=>(x.2,x.1.2.2,[V.int x.1.2.1]),rfl,SqL.of (by rw[hp1,eb2,map_map,map_map];rfl),λz hz=>?_,?_,by rw[length_map];omega,λzs' pm pw' p2 hp2=>?_⟩
 ·obtain⟨x,hx,rfl⟩:=mem_map.mp hz;exact hbs x hx
 ·rw[map_map];have e:(bs.map ((λz:eN=>z.2.1)∘λx=>(x.2,x.1.2.2,[V.int x.1.2.1])))=cs.map (·.2.2):=by rw[←eb1,map_map];rfl
  rw[e];exact nd2
 obtain⟨fs,efs,pfs⟩:=fg pm rfl;subst efs;rw[pairwise_map]at pw';have s2:=s1.trans (ae (o:=.lst (((fs.map λx=>(x.2,x.1.2.2,[V.int x.1.2.1])).map (·.1)).map V.ref)) hp2);have h2:upd H1 p2 (.lst (((fs.map λx=>(x.2,x.1.2.2,[V.int x.1.2.1])).map (·.1)).map V.ref)) p2=some (.lst (au (fs.map λx=>(x.2,x.1.2.2,x.1.2.1)))):=by rw[ac];unfold au;rw[map_map,map_map,map_map];rfl
 have hF:Cpl (upd H1 p2 (.lst (((fs.map λx=>(x.2,x.1.2.2,[V.int x.1.2.1])).map (·.1)).map V.ref))) (fs.map λx=>(x.2,x.1.2.2,x.1.2.1)):=λc hc=>by
  obtain⟨x,hx,rfl⟩:=mem_map.mp hc;exact ae hp2 _ _ (hbs x (pfs.mem_iff.mp hx))
 generalize upd H1 p2 (.lst (((fs.map λx=>(x.2,x.1.2.2,[V.int x.1.2.1])).map (·.1)).map V.ref))=H2 at s2 h2 hF⊢;refine⟨_,rfl,_,rfl,u,t,us,zs,rfl,ur.same s2,tr.same s2,λl2 ds wo2 wn2 H3 s3 ho2 hn2 hl2 hD pw2 hK2 dl=>?_⟩;obtain rfl:=ho2.one hn;obtain rfl:=hn2.one ho;have ee:(fs.map λx=>(x.2,x.1.2.2,x.1.2.1)).map (·.2)=ds.map (·.2):=by
  refine mX (R:=λa b:Int×Int=>a.1<b.1) (λa=>Int.lt_irrefl _) (λa b h1 h2=>lt_asymm h1 h2) ?_ (pairwise_map.mpr pw2) λx=>?_
  ·rw[map_map,pairwise_map];exact pw'
  ·obtain⟨b,a'⟩:=x;rw[hK2,map_map,mem_map,Kn.symm];constructor
   ·rintro⟨x,hx,e⟩;have mc:x.1∈cs:=by rw[←eb1];exact mem_map.mpr ⟨x,pfs.mem_iff.mp hx,rfl⟩
    have e1:x.1.2.2=b:=congrArg Prod.fst e;have e2:x.1.2.1=a':=congrArg Prod.snd e;rw[←e1,←e2];exact kc x.1 mc
   ·intro h;obtain⟨c,hc,e⟩:=mem_map.mp ((hK a' b).mpr h);rw[←eb1]at hc;obtain⟨x,hx,rfl⟩:=mem_map.mp hc;have e1:x.1.2.1=a':=congrArg Prod.fst e;have e2:x.1.2.2=b:=congrArg Prod.snd e;exact⟨x,pfs.mem_iff.mpr hx,by show(x.1.2.2,x.1.2.1)=_;rw[e1,e2]⟩
 exact .inr ⟨p2,l2,_,_,rfl,rfl,nu ee (hF.same s3) hD,.inl ⟨s3 _ _ h2,hl2⟩,_,rfl,cV (q H3 (s2.trans s3))⟩
end
end
section
variable{P:Program}{w:World}{K:PySem.W.Frag}{mg:Str→Option Value}{base:Heap}
abbrev lwG(a t u l h o:Addr):St:=[some (.ref a),some (.ref t),some (.ref u),some (.ref l),some (.ref h),some (.ref o)]
section
variable{f:Addr}{cdv:Value}{A:Around}{outer:List Env}{s:Shared}{H0:Hp}{E:XK}
theorem lw8(hr:Room 7 (A.deeper (PyProof.Rows.envOfC "law" (aj gH) s.heap.objs.size f cdv)))(CR:Has P w K mg base 7 "renumbered" ["old","new"] jL):
  ∃rd,PS (LwX P w K mg base f cdv A outer s H0 E) (lwS 8) rd∧∀(D:Ends) (H:Hp) a t u l h o zs us vs wo wn G,Tre H t zs→TW.Tree1 (nds us)→Tre H o vs→Wk (nds zs) wo→Wk (nds us) wn→Gre wo G→(G=0∨G∈aG wo)→(nds vs).Perm ((nds us).map (reN (hR wo wn G))) →
   (∀H',Same H H'→D.nx (lwG a t u l h o) H')→rd D (lwG a t u l h o) H:=by
 obtain⟨fR,fdR,GR,mR,kR,bR⟩:=CR;refine⟨_,cQ (aX (fY (dA hr)) (am GR hr rfl mR kR bR .nil aC (aa (pv 1) (aa (pv 5) af))) (pv 5) (be _)) (al (aH li)) bf,?_⟩;intro D H a t u l h o zs us vs wo wn G tr U vr ho hn hG hG2 pm q;refine⟨_,rfl,_,rfl,t,o,zs,vs,rfl,tr,vr,λt1 us1 wo1 wn1 G1 H1 s1 ho1 hn1 hG1 hG12 ht1 hA1 pm1 rs1=>?_⟩;obtain rfl:=ho1.one ho;obtain rfl:=rh hG1 hG12 hG hG2;have e1:nds us1=nds vs:=nq tr.tr U ho hn hG pm vr.tr.rise hn1 pm1 rs1;have vr1:=vr.same s1;exact⟨_,rfl,.inr ⟨t1,o,_,_,rfl,rfl,fe e1 hA1 vr1.nod,.inr ⟨ht1,vr1.tup⟩,_,rfl,cV (q H1 s1)⟩⟩
theorem lw9(hr:Room 7 (A.deeper (PyProof.Rows.envOfC "law" (aj gH) s.heap.objs.size f cdv)))(CW:Has P w K mg base 2 "walked" ["tree"] ik):
  ∃rd,PS (LwX P w K mg base f cdv A outer s H0 E) (lwS 9) rd∧∀(D:Ends) (H:Hp) a t u l h o us vs wn g,Tre H h us→Tre H o vs→Wk (nds us) wn→Wk (nds vs) (reW g wn)→(∀H',D.rt (.bl true) H')→rd D (lwG a t u l h o) H:=by
 obtain⟨fW,fdW,GW,mW,kW,bW⟩:=CW;have hr2:Room 2 _:=hr.mono (by decide);refine⟨_,aH (iu (ss (dA hr)) (cg (N:=["_law_path","_law_number"]) (k:=2) (js:=[]) (g:=jR K 2 (cx (aJ 0) (cx (aJ 1) jQ))) rfl (ci rfl (by decide +kernel) (by decide +kernel) (by decide +kernel)) rfl (λi j x h=>by simp at h) (bc (am GW hr2 rfl mW kW bW .nil aC (aa (pv 5) af)))
   (λs H fp=>cq (n:=2) rfl (az (ao (i:=0) (show(["_law_path","_law_number"]:List Str).Nodup by decide +kernel) rfl (Or.inl rfl) (Or.inr rfl)) (az (ao (i:=1) (show(["_law_path","_law_number"]:List Str).Nodup by decide +kernel) rfl (Or.inl rfl) (Or.inr rfl)) bM))) (λs H fp=>pv 0))
  (cg (N:=["_law_path","_law_number"]) (k:=2) (js:=[]) (g:=jR K 2 (cx (aJ 0) (cx (aJ 1) jQ))) rfl (ci rfl (by decide +kernel) (by decide +kernel) (by decide +kernel)) rfl (λi j x h=>by simp at h) (bc (am GW hr2 rfl mW kW bW .nil aC (aa (pv 4) af)))
   (λs H fp=>cq (n:=2) rfl (az (ao (i:=0) (show(["_law_path","_law_number"]:List Str).Nodup by decide +kernel) rfl (Or.inl rfl) (Or.inr rfl)) (az (ao (i:=1) (show(["_law_path","_law_number"]:List Str).Nodup by decide +kernel) rfl (Or.inl rfl) (Or.inr rfl)) bM))) (λs H fp=>pv 0)) (be _)),?_⟩
 intro D H a t u l h o us vs wn g ur vr hn hv q;refine⟨_,rfl,o,vs,rfl,vr,λws l1 H1 s1 wl wlen hl1=>⟨l1,rfl,⟨_,SqL.of hl1⟩,λp hp=>?_⟩⟩;refine pO (fr:=[]) ws (λc=>c.a) (λc=>V.ref c.t) (λc=>V.int c.n) (by have:=vr.len;omega) hp (cn (SqL.of hl1)) (λc hc=>(wl.at' c hc).1) rfl (λc y _=>y=.ref c.t) (λ_ _ _ _ h _=>h) (λc H' kk mc s2 _ hk=>⟨_,rfl,hk _ H' (Same.refl _) rfl⟩) (λys H2 s2 hp2 hys=>?_);have ey:=bI (f:=λc:Cp=>V.ref c.t) hys (λz y _ h=>h);rw[ey]at hp2;refine⟨_,rfl,h,us,rfl,(ur.same s1).same s2,λws2 l2 H3 s3 wl2 wlen2 hl2=>⟨l2,rfl,⟨_,SqL.of hl2⟩,λp2 hp2'=>?_⟩⟩;refine pO (fr:=[]) ws2 (λc=>c.a) (λc=>V.ref c.t) (λc=>V.int c.n) (by have:=ur.len;omega) hp2' (cn (SqL.of hl2)) (λc hc=>(wl2.at' c hc).1) rfl (λc y _=>y=.ref c.t) (λ_ _ _ _ h _=>h) (λc H' kk mc s4 _ hk=>⟨_,rfl,hk _ H' (Same.refl _) rfl⟩) (λys2 H4 s4 hp4 hys2=>?_);have ey2:=bI (f:=λc:Cp=>V.ref c.t) hys2 (λz y _ h=>h);rw[ey2]at hp4;have s24:=(s2.trans s3).trans s4;have ep:ws.map (·.p)=ws2.map (·.p):=by
  have h1:=congrArg (List.map Prod.fst) (pI wl hv);have h2:=congrArg (List.map Prod.fst) (pI wl2 hn);rw[map_map,map_map]at h1 h2;have h3:(reW g wn).map (Prod.fst∘λw:Wt=>(w.1,w.2.num))=wn.map (Prod.fst∘λw:Wt=>(w.1,w.2.num)):=by unfold reW;rw[map_map];rfl
  exact h1.trans (h3.trans h2.symm)
 exact .inr ⟨p,p2,_,_,rfl,rfl,nv ep (λc hc=>⟨s24 _ _ (wl.at' c hc).1,s24 _ _ (wl.at' c hc).2⟩) (λc hc=>⟨s4 _ _ (wl2.at' c hc).1,s4 _ _ (wl2.at' c hc).2⟩),.inl ⟨(s3.trans s4) _ _ hp2,hp4⟩,q H4⟩
end
def lT(K:PySem.W.Frag):Sp:=λvs H Q _=>∃(a:Addr) (ns:List Int),vs=[.ref a]∧SqL K H a (ns.map V.int)∧ns.length≤63∧∀H',Q (.bl true) H'
theorem tG{f:Addr}{fd:FuncData}(F:Fun K "law" "law" gH f fd)(T:Txt mg)(CT:Has P w K mg base 3 "_law_tree" ["_law_script","_law_at","_law_most"] (iQ K))(CO:Has P w K mg base 3 "_law_other_numbers" ["_law_script","_law_at","_law_tree_here"] (pK K))(CK:Has P w K mg base 6 "known_again" ["old","new"] jK)(CR:Has P w K mg base 7 "renumbered" ["old","new"] jL)(CB:Has P w K mg base 2 "change_between" ["one","other"] lS)(CW:Has P w K mg base 2 "walked" ["tree"] ik):
  FnOk P w K mg base CX0 8 f fd ["_law_script"] (lT K):=by
 have CR0:=CR;have CK0:=CK;obtain⟨fB,fdB,GB,mB,kB,bB⟩:=CT;obtain⟨fO,fdO,GO,mO,kO,bO⟩:=CO;obtain⟨fK,fdK,GK,mK,kK,bK⟩:=CK;obtain⟨fR,fdR,GR,mR,kR,bR⟩:=CR;refine F.ok nr (λvs H Q E h=>?_) (λcdv A outer s H vs Q E hr h=>?_)
 ·obtain⟨a,ns,rfl,_⟩:=h;rfl
 ·obtain⟨a,ns,rfl,hS0,hn,q⟩:=h;have hS:eZ K H a:=⟨ns,hS0⟩;have hr3:Room 3 _:=hr.mono (by decide);have hr6:Room 6 _:=hr.mono (by decide);obtain⟨t3,p3,h3⟩:=lw3 (P:=P) (w:=w) (mg:=mg) (base:=base) (f:=f) (cdv:=cdv) (A:=A) (outer:=outer) (s:=s) (H0:=H) (E:=E) hr T;obtain⟨t4,p4,h4⟩:=lw4 (P:=P) (w:=w) (mg:=mg) (base:=base) (f:=f) (cdv:=cdv) (A:=A) (outer:=outer) (s:=s) (H0:=H) (E:=E) hr CR0 CB;obtain⟨t5,p5,h5⟩:=lw5 (P:=P) (w:=w) (mg:=mg) (base:=base) (f:=f) (cdv:=cdv) (A:=A) (outer:=outer) (s:=s) (H0:=H) (E:=E) hr T CK0;obtain⟨t8,p8,h8⟩:=lw8 (P:=P) (w:=w) (mg:=mg) (base:=base) (f:=f) (cdv:=cdv) (A:=A) (outer:=outer) (s:=s) (H0:=H) (E:=E) hr CR0;obtain⟨t9,p9,h9⟩:=lw9 (P:=P) (w:=w) (mg:=mg) (base:=base) (f:=f) (cdv:=cdv) (A:=A) (outer:=outer) (s:=s) (H0:=H) (E:=E) hr CW;refine⟨_,ah (aw (i:=1) nr.nd rfl (Or.inl rfl) (am GB hr3 rfl mB kB bB .nil aC (aa (pv 0) (aa ai (aa ai af)))))
   (ah (aw (i:=2) nr.nd rfl (Or.inl rfl) (am GO hr3 rfl mO kO bO .nil aC (aa (pv 0) (aa ai (aa (pv 1) af)))))
   (ah (aw (i:=3) nr.nd rfl (Or.inl rfl) (am GK hr6 rfl mK kK bK .nil aC (aa (pv 1) (aa (pv 2) af))))
   (ah p3 (ah p4 (ah p5
   (ah (aw (i:=4) nr.nd rfl (Or.inl rfl) (am GB hr3 rfl mB kB bB .nil aC (aa (pv 0) (aa ai (aa ai af)))))
   (ah (aw (i:=5) nr.nd rfl (Or.inl rfl) (am GR hr rfl mR kR bR .nil aC (aa (pv 1) (aa (pv 4) af))))
   (ah p8 (al p9))))))))),?_⟩
  refine⟨_,rfl,a,0,8,rfl,by decide,by decide,by decide,hS,λt z1 H1 ht1 hA1 hl1 hT1 hG1 s1=>?_⟩;have tr1:TW.Tree1 (nds z1):=⟨hT1,λn hn=>by obtain⟨z,hz,rfl⟩:=bY hn;exact(hG1 z hz).1⟩;have T1:Tre H1 t z1:=⟨ht1,hA1,tr1,by omega⟩;refine⟨_,rfl,_,rfl,a,100,t,z1,rfl,by decide,hS.same s1,T1,by omega,λus u g H2 s2 ht2 hA2 pm rs g0 g1 gi=>?_⟩;have U:TW.Tree1 (nds us):=TW.iN tr1 g0 g1 gi (λn=>by
   rw[pm.mem_iff,mem_map];exact⟨λ⟨m,h,e⟩=>⟨m,h,e.symm⟩,λ⟨m,h,e⟩=>⟨m,h,e.symm⟩⟩) pm rs
  have ulen:us.length=z1.length:=by have:=pm.length_eq;rw[length_map,aM,aM]at this;exact this
  have T2:Tre H2 u us:=⟨ht2,hA2,U,by omega⟩;have T1b:=T1.same s2;refine⟨_,rfl,_,rfl,t,u,z1,us,rfl,T1b,T2,λl cs wo wn H3 s3 ho hn3 hl hC pw hK cl=>?_⟩;have ew:wn=reW g wo:=hn3.one (Wk.re tr1 ho g0 gi g1 pm rs);have injw:∀a∈wo,∀b∈wo,g a.2.num=g b.2.num→a.2.num=b.2.num:=λa ha b hb e=>gi _ ((ho.mem a.1 a.2).mp ha).1 _ ((ho.mem b.1 b.2).mp hb).1 e;have T1c:=T1b.same s3;have T2c:=T2.same s3;refine h3 _ H3 a t u l none none z1 cs T1c hl hC pw cl (λb=>?_) λH4 s4=>?_
  ·have e1:cs.map (·.2.1)=(cs.map (·.2)).map (·.1):=by rw[map_map];rfl
   rw[e1,mem_map];constructor
   ·rintro⟨⟨b',a'⟩,hx,rfl⟩;have h:=(hK b' a').mp hx;obtain⟨m,hm,e⟩:=(dF tr1 ho).mp (dE h).1;exact mem_map.mpr ⟨m,hm,e⟩
   ·intro hb;obtain⟨m,hm,e⟩:=mem_map.mp hb;obtain⟨p,hp⟩:=ho.has tr1 hm;refine⟨(b,g b),(hK b (g b)).mpr ?_,rfl⟩;rw[ew];exact(Kn.whole tr1 ho injw).mpr ⟨⟨_,hp,e⟩,rfl⟩
  refine h4 _ H4 a t u l none none z1 us g (T1c.same s4) (T2c.same s4) pm g0 g1 gi λH5 s5=>?_;have s35:=s4.trans s5;refine h5 _ H5 a t u l none none z1 us cs wo wn (T1c.same s35) (T2c.same s35) ho hn3 (s35 _ _ hl) (hC.same s35) pw cl hK λH6 s6=>?_;have s06:=(((s1.trans s2).trans s3).trans s35).trans s6;have T1d:=T1c.same (s35.trans s6);refine⟨_,rfl,a,200,8,rfl,by decide,by decide,by decide,hS.same s06,λh z2 H7 ht3 hA3 hl3 hT3 hG3 s7=>?_⟩;have tr3:TW.Tree1 (nds z2):=⟨hT3,λn hn=>by obtain⟨z,hz,rfl⟩:=bY hn;exact(hG3 z hz).1⟩;have T3:Tre H7 h z2:=⟨ht3,hA3,tr3,by omega⟩;refine⟨_,rfl,_,rfl,t,h,z1,z2,rfl,T1d.same s7,T3,λo vs wo2 wn2 G H8 s8 ho2 hn2 hG hG2 ht4 hA4 pm4 rs4=>?_⟩;obtain rfl:=ho2.one ho;obtain⟨V,wv⟩:=jO tr1 tr3 ho hn2 hG pm4 rs4;have vlen:vs.length=z2.length:=by have:=pm4.length_eq;rw[length_map,aM,aM]at this;exact this
  have T4:Tre H8 o vs:=⟨ht4,hA4,V,by omega⟩;refine h8 _ H8 a t u l h o z1 z2 vs wo2 wn2 G ((T1d.same s7).same s8) tr3 T4 ho hn2 hG hG2 pm4 λH9 s9=>?_;exact h9 _ H9 a t u l h o z2 vs wn2 _ ((T3.same s8).same s9) (T4.same s9) hn2 wv λH'=>q H'
end
end TK
namespace TK
open PySem PySem.W PyProof.Rows L2
theorem uY{α:Type}{P:List α→Prop}{us:List α}(hl:us.length=0)(h:P []):P us:=by cases us with|nil=>exact h|cons a r=>cases hl
theorem uB{α:Type}{P:List α→Prop}{us:List α}(hl:us.length=1)(h:∀a0,P [a0]):P us:=by cases us with|nil=>cases hl|cons a r=>exact uY (P:=λr=>P (a::r)) (Nat.succ.inj hl) (h a)
theorem uC{α:Type}{P:List α→Prop}{us:List α}(hl:us.length=2)(h:∀a0 a1,P [a0,a1]):P us:=by cases us with|nil=>cases hl|cons a r=>exact uB (P:=λr=>P (a::r)) (Nat.succ.inj hl) (h a)
theorem uZ{α:Type}{P:List α→Prop}{us:List α}(hl:us.length=3)(h:∀a0 a1 a2,P [a0,a1,a2]):P us:=by cases us with|nil=>cases hl|cons a r=>exact uC (P:=λr=>P (a::r)) (Nat.succ.inj hl) (h a)
abbrev gA(K:PySem.W.Frag)(x:Str)(f:Addr):Prop:=nsIn K mainGlobals x=some (some (.ref f))
abbrev gN(K:PySem.W.Frag)(x:Str):Prop:=nsIn K mainGlobals x=some none
theorem fh{P:Program}{w:World}{K:PySem.W.Frag}{mg:Str→Option Value}{base h:Heap}{k:Nat}{x q:Str}{st:Stmt}{f:Addr}{fd:FuncData}{ps:List Str}{sp:Sp}(X:K.In h)(G:h.Ns mainGlobals mg)(F:Fun K x q st f fd)(a:gA K x f)(b:cT K fd ps [])(O:FnOk P w K mg base CX0 k f fd ps sp):Has P w K mg base k x ps sp:=⟨f,fd,O,mg_of X G a,F.kp,b⟩
theorem fb1{K:PySem.W.Frag}{x q a0:Str}{st:Stmt}{f:Addr}{fd:FuncData}(F:Fun K x q st f fd)(h:∀(kV doc pm:Value) (an:Option Addr) (cdv ct v0:Value),bindArgs (fnOf x q (cK st) (bp st) (aj st) .none kV doc pm an cdv ct) ⟨[v0],[]⟩=pure (List.zip [a0] [v0]):=by intros;rfl):cT K fd [a0] []:=F.binds λkV doc pm an cdv ct us hl=>uB (P:=λus=>bindArgs _ ⟨us,[]⟩=pure (List.zip _ us)) hl (h kV doc pm an cdv ct)
theorem fb2{K:PySem.W.Frag}{x q a0 a1:Str}{st:Stmt}{f:Addr}{fd:FuncData}(F:Fun K x q st f fd)(h:∀(kV doc pm:Value) (an:Option Addr) (cdv ct v0 v1:Value),bindArgs (fnOf x q (cK st) (bp st) (aj st) .none kV doc pm an cdv ct) ⟨[v0,v1],[]⟩=pure (List.zip [a0,a1] [v0,v1]):=by intros;rfl):cT K fd [a0,a1] []:=F.binds λkV doc pm an cdv ct us hl=>uC (P:=λus=>bindArgs _ ⟨us,[]⟩=pure (List.zip _ us)) hl (h kV doc pm an cdv ct)
theorem fb3{K:PySem.W.Frag}{x q a0 a1 a2:Str}{st:Stmt}{f:Addr}{fd:FuncData}(F:Fun K x q st f fd)(h:∀(kV doc pm:Value) (an:Option Addr) (cdv ct v0 v1 v2:Value),bindArgs (fnOf x q (cK st) (bp st) (aj st) .none kV doc pm an cdv ct) ⟨[v0,v1,v2],[]⟩=pure (List.zip [a0,a1,a2] [v0,v1,v2]):=by intros;rfl):cT K fd [a0,a1,a2] []:=F.binds λkV doc pm an cdv ct us hl=>uZ (P:=λus=>bindArgs _ ⟨us,[]⟩=pure (List.zip _ us)) hl (h kV doc pm an cdv ct)
theorem tH{l:PySem.W.OpenLaw}{w:World}{K:PySem.W.Frag}{h:Heap}{mg:Str→Option Value}{fa f1 f2 f3 f4 f5 f6 f7 f8 f9 f10 f11 f12 f13 f14 f15 f16 f17 f18 f19:Addr}(X:K.In h)(G:h.Ns mainGlobals mg)(hfa:mg "law"=some (.ref fa)){d1 d2 d3 d4 d5 d6 d7 d8 d9 d10 d11 d12 d13 d14 d15 d16 d17 d18 d19:FuncData}{t1:Tok}(a1:gA K "by_number" f1)(F1:Fun K "by_number" "by_number" sy f1 d1)(a2:gA K "path_up" f2)(F2:Fun K "path_up" "path_up" sA f2 d2)(a3:gA K "walked" f3)(F3:Fun K "walked" "walked" qE f3 d3)(a4:gA K "walked_nodes" f4)(F4:Fun K "walked_nodes" "walked_nodes" br f4 d4)(a5:gA K "greatest_number" f5)(F5:Fun K "greatest_number" "greatest_number" bu f5 d5)(a6:gA K "with_numbers" f6)(F6:Fun K "with_numbers" "with_numbers" bv f6 d6)(a7:gA K "known_by_paths" f7)(F7:Fun K "known_by_paths" "known_by_paths" bJ f7 d7)(a8:gA K "files_by_stamps" f8)(F8:Fun K "files_by_stamps" "files_by_stamps" bw f8 d8)(a9:gA K "known_by_stamps" f9)(F9:Fun K "known_by_stamps" "known_by_stamps" bx f9 d9)(a10:gA K "known_again" f10)(F10:Fun K "known_again" "known_again" cv f10 d10)(a11:gA K "renumbered" f11)(F11:Fun K "renumbered" "renumbered" cP f11 d11)(a12:gA K "parts_by_number" f12)(F12:Fun K "parts_by_number" "parts_by_number" bz f12 d12)(a13:gA K "unlike_entries" f13)(F13:Fun K "unlike_entries" "unlike_entries" bL f13 d13)(a14:gA K "change_between" f14)(F14:Fun K "change_between" "change_between" aA f14 d14)(a15:gA K "_law_cell" f15)(F15:Fun K "_law_cell" "_law_cell" oF f15 d15)(a16:gA K "_law_pick" f16)(F16:Fun K "_law_pick" "_law_pick" oG f16 d16)(a17:gA K "_law_tree" f17)(F17:Fun K "_law_tree" "_law_tree" eQ f17 d17)(a18:gA K "_law_other_numbers" f18)(F18:Fun K "_law_other_numbers" "_law_other_numbers" aN f18 d18)(a19:gA K "law" f19)(F19:Fun K "law" "law" gH f19 d19)(z1:gN K "isinstance")(z2:gN K "dict")(z3:gN K "len")(z4:gN K "tuple")(z5:gN K "list")(z6:gN K "range")(z7:gN K "sorted")(z8:gN K "reversed")(z9:gN K "ValueError")(z10:gN K "str")(z11:gN K "set")(z12:gN K "max")(z13:gN K "min")(z14:gN K "sum")(z15:gN K "zip")(z16:gN K "enumerate")(z17:gN K "all")(z18:gN K "int")(z19:gN K "bool")(v1t:nsIn K mainGlobals "TOP"=some (some (.int 0 t1))):
  ∃fd:FuncData,(∀(s:Shared)(v:Value),BindsTo s fd ⟨[v],[]⟩ [("_law_script",v)])∧∀base:Heap,K.In base→base.Ns mainGlobals mg→FnOk l.prog w K mg base CX0 8 fa fd ["_law_script"] (lT K):=by
 have e:=hfa.symm.trans (mg_of X G a19);cases e;have T:Txt mg:=⟨mg_none_of X G z1,mg_none_of X G z2,mg_none_of X G z3,mg_none_of X G z4,mg_none_of X G z5,mg_none_of X G z6,mg_none_of X G z7,mg_none_of X G z8,mg_none_of X G z9,mg_none_of X G z10,mg_none_of X G z11,mg_none_of X G z12,mg_none_of X G z13,mg_none_of X G z14,mg_none_of X G z15,mg_none_of X G z16,mg_none_of X G z17,mg_none_of X G z18,mg_none_of X G z19,⟨_,mg_of X G v1t⟩⟩;have hb:∀(s:Shared)(v:Value),BindsTo s d19 ⟨[v],[]⟩ [("_law_script",v)]:=by
  obtain⟨_,_,_,_,_,_,_,_,_,e,_,_⟩:=F19.ex;subst e;exact λs v=>.of_eq rfl
 refine⟨d19,hb,λbase KB _=>?_⟩
 let H:=Has l.prog w K mg base
 let HX:=uW l.prog w K mg base
 have C_by_number:H 1 "by_number" ["tree"] lN:=fh X G F1 a1 (fb1 F1) (sI F1 T);have C_path_up:H 1 "path_up" ["nodes","number"] oX:=fh X G F2 a2 (fb2 F2) (sJ F2 T);have C_walked:H 2 "walked" ["tree"] ik:=fh X G F3 a3 (fb1 F3) (sM F3 T C_by_number C_path_up);have C_walked_nodes:H 3 "walked_nodes" ["tree"] qQ:=fh X G F4 a4 (fb1 F4) (uo F4 C_by_number C_walked);have C_greatest_number:H 1 "greatest_number" ["tree"] oY:=fh X G F5 a5 (fb1 F5) (sN F5 T);have C_with_numbers:H 1 "with_numbers" ["tree","numbers"] oZ:=fh X G F6 a6 (fb2 F6) (sO F6 T);have C_known_by_paths:H 4 "known_by_paths" ["old","new"] pg:=fh X G F7 a7 (fb2 F7) (sR F7 T C_walked_nodes);have C_files_by_stamps:H 4 "files_by_stamps" ["tree","left_out"] pk:=fh X G F8 a8 (fb2 F8) (sT F8 C_walked_nodes);have C_known_by_stamps:H 5 "known_by_stamps" ["old","new","couples"] pF:=fh X G F9 a9 (fb3 F9) (tf F9 T C_files_by_stamps);have C_known_again:H 6 "known_again" ["old","new"] jK:=fh X G F10 a10 (fb2 F10) (tm F10 T C_known_by_paths C_known_by_stamps);have C_renumbered:H 7 "renumbered" ["old","new"] jL:=fh X G F11 a11 (fb2 F11) (tu F11 T C_known_again C_greatest_number C_walked C_with_numbers);have C_parts_by_number:H 1 "parts_by_number" ["tree"] lg:=fh X G F12 a12 (fb1 F12) (rc F12 T);have C_unlike_entries:H 1 "unlike_entries" ["entries"] lR:=fh X G F13 a13 (fb1 F13) (tz F13 T);have C_change_between:H 2 "change_between" ["one","other"] lS:=fh X G F14 a14 (fb2 F14) (tD F14 T C_parts_by_number C_unlike_entries);have C__law_cell:H 1 "_law_cell" ["_law_script","_law_k"] (kQ K):=fh X G F15 a15 (fb2 F15) (qT F15 T);have C__law_pick:H 2 "_law_pick" ["_law_script","_law_k","_law_many"] (iO K):=fh X G F16 a16 (fb3 F16) (qU F16 T C__law_cell);have C__law_tree:H 3 "_law_tree" ["_law_script","_law_at","_law_most"] (iQ K):=fh X G F17 a17 (fb3 F17) (pM F17 T C__law_pick);have C__law_other_numbers:H 3 "_law_other_numbers" ["_law_script","_law_at","_law_tree_here"] (pK K):=fh X G F18 a18 (fb3 F18) (tE F18 T C__law_pick);exact tG F19 T C__law_tree C__law_other_numbers C_known_again C_renumbered C_change_between C_walked
theorem walk{l:PySem.W.OpenLaw}{q:Program}{loose:List Str}{XP:(Str→Option Value)→Heap→Prop}{YP:World→Heap→Prop}{d:DefRec}{K:Params→PySem.W.Frag}(hn:l.most=some 63)(hdf:d.params.defaults=[])(hY:∀(w:World) (h:Heap),YP w h→(K w.params).In h)(F:∀(w:World) (mg:Str→Option Value) (fa:Addr) (h:Heap),(K w.params).In h→h.Ns mainGlobals mg→mg d.name=some (.ref fa) →
   ∃fd:FuncData,(∀(s:Shared) (u:Value),BindsTo s fd ⟨[u],[]⟩ [("_law_script",u)])∧∀base:Heap,(K w.params).In base→base.Ns mainGlobals mg→FnOk l.prog w (K w.params) mg base CX0 8 fa fd ["_law_script"] (lT (K w.params))):
  PySem.W.WalkO q loose XP YP l.row.toRowW d [] (λf vs=>PySem.call f vs) :=
 L2.qc (n:=63) (k:=8) (x:="_law_script") (CX:=λ_=>CX0) (sp:=λw=>lT (K w.params)) hn (by decide) hdf ⟨rfl,by decide,by decide,rfl⟩ hY F (λ_ _ a ns hl _ hS=>⟨a,ns,rfl,hS,hl,λ_=>rfl⟩) λ_ _ _ _ _ z=>z
end TK
end
open PySem PySem.W PyProof.Rows
def PySem.W.Fast.tw8185502773315651219:Unit:=()
def PySem.W.Fast.tw8305043725247712045:Unit:=()
def PySem.W.Fast.tw15297069918159827917:Unit:=()
def PySem.W.Fast.tw10721144976480806805:Unit:=()
def PySem.W.Fast.tw6233062848350172529:Unit:=()
def PySem.W.Fast.tw13495380489653713876:Unit:=()
def PySem.W.Fast.tw7064675536083065532:Unit:=()
def PySem.W.Fast.tw8107432822161425104:Unit:=()
def PySem.W.Fast.tw13838581441496923145:Unit:=()
def PySem.W.Fast.tw3472016929120356801:Unit:=()
def PySem.W.Fast.tw8423327931393456250:Unit:=()
def PySem.W.Fast.tw17531304016772351433:Unit:=()
def PySem.W.Fast.tw5045477102020090012:Unit:=()
def PySem.W.Fast.tw8746708339820904398:Unit:=()
def PySem.W.Fast.tw2448764447752958824:Unit:=()
def PySem.W.Fast.tw11504675410674665308:Unit:=()
def PySem.W.Fast.tw6905768553374929212:Unit:=()
def PySem.W.Fast.tw7915005204858191105:Unit:=()
def PySem.W.Fast.tw805982937680087864:Unit:=()
def PySem.W.Fast.tw18256999988289346343:Unit:=()
def PySem.W.Fast.tw12238481272543902537:Unit:=()
def PySem.W.Fast.tw12811266609621466277:Unit:=()
def PySem.W.Fast.tw13259379102887045998:Unit:=()
def PySem.W.Fast.tw7295992805666281465:Unit:=()
def PySem.W.Fast.tw11472840630367048067:Unit:=()
def PySem.W.Fast.tw16427251999212213143:Unit:=()
def PySem.W.Fast.tw7313387624938049048:Unit:=()
def PySem.W.Fast.tw583937843106979767:Unit:=()
def PySem.W.Fast.tw12510425933722585792:Unit:=()
def PySem.W.Fast.tw13281896247993791696:Unit:=()
def PySem.W.Fast.tw11397405820960825732:Unit:=()
def PySem.W.Fast.tw17842790861140192789:Unit:=()
def PySem.W.Fast.tw10482641049534723137:Unit:=()
def PySem.W.Fast.tw9581947438742722444:Unit:=()
def PySem.W.Fast.tw4415441767324782961:Unit:=()
def PySem.W.Fast.tw16684945168363247148:Unit:=()
set_option maxRecDepth 100000 in
set_option maxHeartbeats 0 in
theorem PySem.Challenge.cw_treewatch_k61_whole_itself_again_holds : PySem.Challenge.rw_treewatch_k61_whole_itself_again.Holds := by
 w_on; o_law; k_head; (case hw=>w_witness2)
 k_fill
 refine TK.walk (l:=PySem.Challenge.rw_treewatch_k61_whole_itself_again) rfl rfl (λw h Y=>PySem.W.kIn_of Y) ?F
 case F =>
  intro w mg fa h KX G hmg
  refine' TK.tH KX G hmg ?a1 ?F1 ?a2 ?F2 ?a3 ?F3 ?a4 ?F4 ?a5 ?F5 ?a6 ?F6 ?a7 ?F7 ?a8 ?F8 ?a9 ?F9 ?a10 ?F10 ?a11 ?F11 ?a12 ?F12 ?a13 ?F13 ?a14 ?F14 ?a15 ?F15 ?a16 ?F16 ?a17 ?F17 ?a18 ?F18 ?a19 ?F19 ?z1 ?z2 ?z3 ?z4 ?z5 ?z6 ?z7 ?z8 ?z9 ?z10 ?z11 ?z12 ?z13 ?z14 ?z15 ?z16 ?z17 ?z18 ?z19 ?v1t
  (case a1|a2|a3|a4|a5|a6|a7|a8|a9|a10|a11|a12|a13|a14|a15|a16|a17|a18|a19=>unfold TK.gA; k_is)
  (case F1|F2|F3|F4|F5|F6|F7|F8|F9|F10|F11|F12|F13|F14|F15|F16|F17|F18|F19=>apply L2.rZ <;> k_is)
  (case z1|z2|z3|z4|z5|z6|z7|z8|z9|z10|z11|z12|z13|z14|z15|z16|z17|z18|z19=>unfold TK.gN; k_is)
  (case v1t=>k_is)
