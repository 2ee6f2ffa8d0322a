import PyProof.Rows.All
import Wide.All
import OpenK.AllK
import Wide.FinOn
import Lean
import PyProof.EqAt
import PyProof.EqKinds
import PyProof.TupleCall
import PyProof.CompFree
import PySem.SetTable
import PyProof.SetScanFacts
import PyProof.TupleKey
import PyProof.SetKind
import PyProof.IsRules
import PyProof.SetRoads
import PyProof.InstSpecial
import PyProof.Rows.SetFrom
import KE.KSortTup
import PyProof.StrWalks
import PyProof.EnumMake
import PyProof.ConsumeWalk
import PyProof.ListRange
import PyProof.NeKinds
import PyProof.ZipIter
import KE.KTryDeep
import OpenK.KOwn
import PyProof.RulesAs
import PyProof.NsDelKeeps
import PyProof.ExcArgsOwn
import PyProof.ExcAttrAll.ValueError
import KE.KIsAll
import OpenK.KNot
import PyProof.IsiH_list
import PyProof.Rows.FStr
import KE.KDictOf
import PyProof.AttrMissHeap
import PyProof.DictIter
import PyProof.DictWalks
import PyProof.Rows.DictUnroll
import KE.KRevIter
import KE.KDictList
import PyProof.CollectIter
import PyProof.TupleOfGen
import KE.KSortKey
import PyProof.FactsAll.NoneType_1
import PyProof.CompUse
import PyProof.Rows.FStrParts
import PySem.Challenge.RW_treewatch_k93_whole_edges_by_hand
set_option Elab.async false
set_option linter.all false
set_option maxRecDepth 100000
set_option maxHeartbeats 8000000
open PySem.W (instObj methodObj hideAll hideAll_get of_hideAll lookIn plainGet hasDictIn findIn handedIn plainGet_of isFn plainOver takerIn Looks makesIn emptyDict keepIn callWith_K methodCall_KW fnOf codeIn kat_cons KatTups kat_lt_int KdlSrc excIn nsIn mg_of mg_none_of)
open PyProof.Rows (iadd_int boot_dict boot_sorted)
open PySem.F (slot_tuple_add entry_tuple_add args_tuple_add_2 slot_dict_pop slot_dict_get entry_dict_get plainAttrs_dict type_dict_get slot_dict_keyiterator_next plainAttrs_list slot_list_pop type_list_pop)
open List (mem_filter mem_range mem_cons_self mem_cons_of_mem mem_cons mem_append getElem_inj mem_filterMap mem_append_right size_toArray length_cons map_cons length_map append_nil nodup_cons of_mem_zip length length_take getElem?_append_right getElem?_append_left getElem?_map take_sublist mem_of_getElem? length_append length_drop map_nil any_cons length_singleton find?_cons length_nil filter_cons length_filter_le Pairwise all_eq_true pairwise_iff_getElem pairwise_cons mem_iff_getElem filterMap_cons_none filterMap_cons_some length_range range_succ append_assoc filter_cons_of_neg filter_cons_of_pos filter_sublist mem_map map_map toArray length_eq_zero_iff getD_eq_getElem?_getD getElem?_eq_getElem getElem_mem ext_getElem? getElem?_range getElem?_eq_none map_congr_left not_mem_nil take_succ nodup_nil map_append take_length filter_congr pairwise_map Nodup filter_map Sublist range' map_drop getElem?_drop)
open Nat (lt_of_lt_of_le lt_irrefl ne_of_lt le_trans le_of_lt ne_of_gt le_refl zero_le le_succ lt_trans lt_of_le_of_lt lt_succ_of_lt zero_add mod_lt sub_self)
open Array (length_toList toList getElem?_toList getD_eq_getD_getElem? replicate size_map isEmpty)
open Option (getD_none map_some isSome_map)
open Bool (and_eq_true or_eq_true false_eq_true)
open Int (toNat_natCast emod_nonneg toNat)
open PySem.Heap (lt_size SameBut get?_push_of_some get?_push_size size_push get?_update_self get?_update_ne FlyingW ExtBut)
open PySem.Calls (Constant_str spliced_nil spliced_cons callWith_builtin evalArgs_plain)
open PySem.SeqAt (EqAt eq_listAt RcNeAt)
open PySem.Value (bytes float)
open PySem (boot_len)
open PySem.Str (empty ofString)
noncomputable section
namespace L2
open PySem PySem.Spec PyProof.Rows
abbrev Key:=Sum Int Str
def hJ:Key→Value→Bool
 |.inl k,v=>Value.isInt k v
 |.inr x,v=>Value.isStrOf x v
def xz(w:World):Key→Int
 |.inl k=>hashInt k
 |.inr x=>hashStr w x
theorem aM:∀{k:Key}{v:Value},hJ k v=true→(∃i t,k=Sum.inl i∧v=Value.int i t)∨(∃x t,k=Sum.inr x∧v=Value.str x t)
 |.inl i,v,h=>by
  obtain⟨t,e⟩:=Value.isInt_shape (k:=i) (v:=v) h;exact .inl ⟨i,t,rfl,e⟩
 |.inr x,v,h=>by
  obtain⟨t,e⟩:=Value.isStrOf_shape (x:=x) (v:=v) h;exact .inr ⟨x,t,rfl,e⟩
theorem pw(i:Int)(t:Tok):hJ (.inl i) (.int i t)=true:=by simp[hJ,Value.isInt]
theorem px(x:Str)(t:Tok):hJ (.inr x) (.str x t)=true:=by simp[hJ,Value.isStrOf]
theorem uG(a b:Int):decide ((Sum.inl a:Key)=Sum.inl b)=(a==b):=by
 by_cases e:a=b
 ·subst e;simp
 ·have h:¬(Sum.inl a:Key)=Sum.inl b:=λq=>e (Sum.inl.inj q);rw[decide_eq_false h];exact(beq_eq_false_iff_ne.mpr e).symm
theorem uH(a b:Str):decide ((Sum.inr a:Key)=Sum.inr b)=decide (a=b):=by
 by_cases e:a=b
 ·subst e;simp
 ·have h:¬(Sum.inr a:Key)=Sum.inr b:=λq=>e (Sum.inr.inj q);rw[decide_eq_false h,decide_eq_false e]
theorem uI(a:Int)(b:Str):decide ((Sum.inl a:Key)=Sum.inr b)=false:=decide_eq_false (λq=>nomatch q)
theorem uJ(a:Str)(b:Int):decide ((Sum.inr a:Key)=Sum.inl b)=false:=decide_eq_false (λq=>nomatch q)
def aB(prog:Program)(w:World):PySem.KeyKind prog w Key where
 is:=hJ
 hash:=xz w
 inj:=λv a b ha hb=>by
  rcases aM ha with⟨i,t,rfl,rfl⟩|⟨x,t,rfl,rfl⟩
  ·rcases aM hb with⟨j,u,rfl,e⟩|⟨y,u,rfl,e⟩
   ·injection e with e1 _;rw[e1]
   ·exact nomatch e
  ·rcases aM hb with⟨j,u,rfl,e⟩|⟨y,u,rfl,e⟩
   ·exact nomatch e
   ·injection e with e1 _;rw[e1]
 byValue:=λk v h=>by
  rcases aM h with⟨i,t,rfl,rfl⟩|⟨x,t,rfl,rfl⟩<;>rfl
 pyHash:=λhv h=>by
  rcases aM hv with⟨i,t,rfl,rfl⟩|⟨x,t,rfl,rfl⟩
  ·exact wpAny_pyHash_int h
  ·exact wpAny_pyHash_str h
 eqBool:=λhu hv h=>by
  rcases aM hu with⟨i,t,rfl,rfl⟩|⟨x,t,rfl,rfl⟩
  ·rcases aM hv with⟨j,u,rfl,rfl⟩|⟨y,u,rfl,rfl⟩
   ·rw[uG]at h;exact wpAny_eqBool_int h
   ·rw[uI]at h;exact EqAt.int_str i t y u _ _ _ _ h
  ·rcases aM hv with⟨j,u,rfl,rfl⟩|⟨y,u,rfl,rfl⟩
   ·rw[uJ]at h;exact EqAt.str_int x t j u _ _ _ _ h
   ·rw[uH]at h;exact wpAny_eqBool_str h
 «strs»:=λk x t v h=>by
  rcases aM h with⟨i,u,rfl,e⟩|⟨y,u,rfl,e⟩
  ·exact nomatch e
  ·injection e with e1 _
   subst e1;cases v<;>rfl
theorem kX(prog:Program)(w:World)(i:Int)(t:Tok):(aB prog w).is (.inl i) (.int i t)=true:=pw i t
theorem kY(prog:Program)(w:World)(x:Str)(t:Tok):(aB prog w).is (.inr x) (.str x t)=true:=px x t
inductive V where
 |non|bl (b:Bool)|int (i:Int)|str (x:Str)|byt (b:Array UInt8)|flt (b:UInt64)|ref (a:Addr)|ty (n:String)
 deriving DecidableEq
def ax:V→Value→Prop
 |.non,u=>u=Value.none
 |.bl b,u=>u=Value.bool b
 |.int i,u=>∃t,u=Value.int i t
 |.str x,u=>∃t,u=Value.str x t
 |.byt b,u=>∃t,u=bytes b t
 |.flt b,u=>∃t,u=float b t
 |.ref a,u=>u=Value.ref a
 |.ty n,u=>u=Value.type n
abbrev ap:List V→List Value→Prop:=Paired ax
theorem ap.length{xs:List V}{us:List Value}(r:ap xs us):xs.length=us.length:=Paired.length r
theorem ap.get:∀{xs:List V}{us:List Value}{i:Nat}{x:V},ap xs us→xs[i]?=some x→∃u,us[i]?=some u∧ax x u
 |_,_,_,_,.nil,e=>by simp at e
 |_,_,0,_,.cons r _,e=>by simp at e;subst e;exact⟨_,rfl,r⟩
 |_,_,i+1,x,.cons _ t,e=>by
  obtain⟨u,h1,h2⟩:=ap.get (i:=i) (x:=x) t (by simpa using e);exact⟨u,by simpa using h1,h2⟩
theorem ap.set{x:V}{u:Value}(r:ax x u):∀{xs:List V}{us:List Value}(i:Nat),ap xs us→ap (xs.set i x) (us.set i u)
 |_,_,_,.nil=>.nil
 |_,_,0,.cons _ t=>.cons r t
 |_,_,i+1,.cons q t=>.cons q (ap.set r i t)
theorem ap.append:∀{xs ys:List V}{us ws:List Value},ap xs us→ap ys ws→ap (xs++ys) (us++ws)
 |_,_,_,_,.nil,s=>s
 |_,_,_,_,.cons r t,s=>.cons r (ap.append t s)
theorem ap.take:∀{xs:List V}{us:List Value}(n:Nat),ap xs us→ap (xs.take n) (us.take n)
 |_,_,0,_=>.nil
 |_,_,_+1,.nil=>.nil
 |_,_,n+1,.cons r t=>.cons r (ap.take n t)
theorem ap.drop:∀{xs:List V}{us:List Value}(n:Nat),ap xs us→ap (xs.drop n) (us.drop n)
 |_,_,0,r=>r
 |_,_,_+1,.nil=>.nil
 |_,_,n+1,.cons _ t=>ap.drop n t
def cU:Option V→Option Value→Prop
 |some v,some u=>ax v u
 |none,none=>True
 |_,_=>False
def KV{κ:Type}:List (κ×V)→List (κ×Value)→Prop:=Paired λ(p:κ×V) (q:κ×Value)=>p.1=q.1∧ax p.2 q.2
def kV:Key→V
 |.inl i=>.int i
 |.inr x=>.str x
inductive HO where
 |lst (xs:List V)
 |tup (xs:List V)
 |dK (kvs:List (Key×V))|dT (kvs:List (List Key×V))
 |set (S:Int→Bool) (n:Nat)
 |ins (C dx:Addr) (fs:List (Str×V))
 |own (x:Addr)
 |xd (fs:List (Str×V))
 |met (f x:Addr)
 |rng (lo hi:Int)
 |frz (o:Obj) (u:HO)
 |tbl (ps:Array Value)
 |ext (φ:Heap→Prop)
abbrev Hp:=Addr→Option HO
def upd(H:Hp)(a:Addr)(o:HO):Hp:=λb=>if b=a then some o else H b
theorem ac{H:Hp}{a:Addr}{o:HO}:upd H a o a=some o:=by unfold upd;rw[if_pos rfl]
theorem ai{H:Hp}{a b:Addr}{o:HO}(h:b≠a):upd H a o b=H b:=by unfold upd;rw[if_neg h]
theorem nX{H:Hp}{a b:Addr}{o u:HO}(h:H a=some o)(h':H b=some u)(d:o≠u):a≠b:=by
 intro e;subst e;rw[h]at h';exact d (Option.some.inj h')
theorem aq{H:Hp}{a b:Addr}{o:HO}(h:H a=some o)(h':H b=none):a≠b:=by
 intro e;subst e;rw[h]at h';cases h'
section
variable(P:Program)(w:World)
def bj(H:Hp)(h:Heap)(a:Addr):HO→Prop
 |.lst xs=>xs.length≤sizeLine∧∃(its:List Value) (n:Nat),ap xs its∧h.get? a=some {cls:=.type "list",data:=.seq its.toArray n}
 |.tup xs=>xs.length≤sizeLine∧∃its:List Value,ap xs its∧IsTup h a its.toArray
 |.dK kvs=>kvs.length≤sizeLine∧(a==sysModules)=false∧∃vs,KV kvs vs∧h.DictOf (aB P w) a vs
 |.dT kvs=>kvs.length≤sizeLine∧(a==sysModules)=false∧∃xs:List (List Key×Addr×Value),
   Paired (λ(p:List Key×V) (q:List Key×Addr×Value)=>p.1=q.1∧H q.2.1=some (.tup (p.1.map kV))∧ax p.2 q.2.2) kvs xs ∧
   ∃o es ep,h.get? a=some o∧o.ExactDict∧o.data=.dict es ep∧es.toList=xs.map (entryOfKey (tupleKind (aB P w)))∧(xs.map (·.1)).Nodup
 |.set S n=>h.SetOf (intKind P w) a S n
 |.ins C dx fs=>H dx=some (.own a)∧fs.length≤1000∧dx≠a∧h.get? a=some (instObj C dx) ∧
   ∃mA,h.Ns1 dx mA∧(∀f,cU (fs.lookup f) (mA f))∧PySem.Within mA (fs.map (·.1))
 |.own _=>∃o,h.get? a=some o
 |.xd fs=>∃mA,h.Ns1 a mA∧∀f,cU (fs.lookup f) (mA f)
 |.rng lo hi=>∃t u v,h.get? a=some {cls:=.type "range",data:=.fields #[.int lo t,.int hi u,.int 1 v]}
 |.frz o u=>h.get? a=some o∧bj H h a u
 |.tbl ps=>h.get? a=some {cls:=.none,data:=.fields ps}
 |.met f x=>h.get? a=some (methodObj (.ref f) (.ref x))
 |.ext φ=>φ h∧(∃o,h.get? a=some o)∧∀h1 h2:Heap,φ h1→(∀o,h1.get? a=some o→h2.get? a=some o)→φ h2
def HOk(H:Hp)(h:Heap):Prop:=∀a o,H a=some o→bj P w H h a o
end
section
variable{P:Program}{w:World}{H H':Hp}{h h':Heap}{a:Addr}{o:HO}
theorem bj.lt(x:bj P w H h a o):a<h.objs.size:=by
 cases o with
 |lst xs=>obtain⟨_,_,_,_,e⟩:=x;exact lt_size e
 |tup xs=>obtain⟨_,_,_,p⟩:=x;exact p.lt
 |dK kvs=>obtain⟨_,_,_,_,o,_,_,e,_⟩:=x;exact lt_size e
 |dT kvs=>obtain⟨_,_,_,_,o,_,_,e,_⟩:=x;exact lt_size e
 |set S n=>obtain⟨o,_,_,_,e,_⟩:=x;exact lt_size e
 |ins C dx fs=>obtain⟨_,_,_,e,_⟩:=x;exact lt_size e
 |own y=>obtain⟨_,e⟩:=x;exact lt_size e
 |xd fs=>obtain⟨_,⟨_,_,_,e,_⟩,_⟩:=x;exact lt_size e
 |rng lo hi=>obtain⟨_,_,_,e⟩:=x;exact lt_size e
 |frz ob u=>obtain⟨e,_⟩:=x;exact lt_size e
 |tbl ps=>exact lt_size (show h.get? a=some _ from x)
 |met f y=>exact lt_size (show h.get? a=some _ from x)
 |ext φ=>obtain⟨_,⟨_,e⟩,_⟩:=x;exact lt_size e
theorem Paired.mapP{α β:Type}{F G:α→β→Prop}:∀{l₁:List α}{l₂:List β},Paired F l₁ l₂→(∀a b,F a b→G a b)→Paired G l₁ l₂
 |_,_,.nil,_=>.nil
 |_,_,.cons r t,f=>.cons (f _ _ r) (Paired.mapP t f)
theorem bj.stay(x:bj P w H h a o)(k:∀b u,(b=a∨H b=some (.own a))→h.get? b=some u→h'.get? b=some u)(ho:∀b,H b=some (.own a)→H' b=some (.own a))(ht:∀b xs,H b=some (.tup xs)→H' b=some (.tup xs)):bj P w H' h' a o:=by
 induction o with
 |lst xs=>obtain⟨z,its,n,r,e⟩:=x;exact⟨z,its,n,r,k _ _ (.inl rfl) e⟩
 |tup xs=>obtain⟨z,its,r,ob,e,c⟩:=x;exact⟨z,its,r,ob,k _ _ (.inl rfl) e,c⟩
 |dK kvs=>obtain⟨z,y,vs,r,ob,es,ep,e,c⟩:=x;exact⟨z,y,vs,r,ob,es,ep,k _ _ (.inl rfl) e,c⟩
 |dT kvs =>
  obtain⟨z,y,xs,r,ob,es,ep,e,c⟩:=x;exact⟨z,y,xs,Paired.mapP r λp q z=>⟨z.1,ht _ _ z.2.1,z.2.2⟩,ob,es,ep,k _ _ (.inl rfl) e,c⟩
 |set S n=>obtain⟨ob,es,ep,t,e,c⟩:=x;exact⟨ob,es,ep,t,k _ _ (.inl rfl) e,c⟩
 |ins C dx fs =>
  obtain⟨d,z,ne,e,mA,⟨od,es,ep,e2,c⟩,r⟩:=x;exact⟨ho _ d,z,ne,k _ _ (.inl rfl) e,mA,⟨od,es,ep,k _ _ (.inr d) e2,c⟩,r⟩
 |own y=>obtain⟨ob,e⟩:=x;exact⟨ob,k _ _ (.inl rfl) e⟩
 |xd fs=>obtain⟨mA,⟨od,es,ep,e,c⟩,r⟩:=x;exact⟨mA,⟨od,es,ep,k _ _ (.inl rfl) e,c⟩,r⟩
 |rng lo hi=>obtain⟨t,u,v,e⟩:=x;exact⟨t,u,v,k _ _ (.inl rfl) e⟩
 |frz ob u ih=>obtain⟨e,q⟩:=x;exact⟨k _ _ (.inl rfl) e,ih q⟩
 |tbl ps =>
  have e:h.get? a=some {cls:=.none,data:=.fields ps}:=x;show h'.get? a=some {cls:=.none,data:=.fields ps};exact k a _ (.inl rfl) e
 |met f y =>
  have e:h.get? a=some (methodObj (.ref f) (.ref y)):=x;show h'.get? a=some (methodObj (.ref f) (.ref y));exact k a _ (.inl rfl) e
 |ext φ=>obtain⟨p,⟨o,e⟩,st⟩:=x;exact⟨st _ _ p λo q=>k _ _ (.inl rfl) q,⟨o,k _ _ (.inl rfl) e⟩,st⟩
theorem HOk.lt(x:HOk P w H h)(e:H a=some o):a<h.objs.size:=(x a o e).lt
theorem HOk.fresh(x:HOk P w H h)(e:h.objs.size≤a):H a=none:=by
 cases q:H a with
 |none=>rfl
 |some u=>exact absurd (lt_of_lt_of_le (x.lt q) e) (lt_irrefl _)
theorem HOk.kept(x:HOk P w H h)(k:∀b u,h.get? b=some u→h'.get? b=some u):HOk P w H h':=λa o e =>
 (x a o e).stay (λb u _ q=>k b u q) (λ_ q=>q) λ_ _ q=>q
theorem HOk.laid(x:HOk P w H h)(k:∀b u,h.get? b=some u→h'.get? b=some u)(hp:h.objs.size≤a)(new:bj P w (upd H a o) h' a o):HOk P w (upd H a o) h':=λb u e=>by
 have hn:=x.fresh hp
 by_cases hb:b=a
 ·subst hb;rw[ac]at e;cases e;exact new
 ·rw[ai hb]at e;exact(x b u e).stay (λc v _ q=>k c v q) (λc q=>by rw[ai (aq q hn)];exact q) λc xs q=>by rw[ai (aq q hn)];exact q
end
def Rd(H:Hp)(a:Addr)(u:HO):Prop:=H a=some u∨∃o,H a=some (.frz o u)
theorem Rd.of{H:Hp}{a:Addr}{u:HO}(h:H a=some u):Rd H a u:=.inl h
theorem Rd.ok{P:Program}{w:World}{H:Hp}{h:Heap}{a:Addr}{u:HO}(r:Rd H a u)(x:HOk P w H h):bj P w H h a u:=by
 rcases r with r|⟨o,r⟩
 ·exact x a u r
 ·obtain⟨_,q⟩:=x a _ r;exact q
def Mut:Option HO→Prop
 |some (.lst _)=>True
 |some (.dK _)=>True
 |some (.dT _)=>True
 |some (.set _ _)=>True
 |some (.ins _ _ _)=>True
 |some (.ext _)=>True
 |_=>False
section
variable{P:Program}{w:World}{H:Hp}{h h':Heap}{x e:Addr}{o':HO}
theorem HOk.write(ok:HOk P w H h)(mu:Mut (H x))(he:e=x∨H e=some (.own x))(k:∀b u,b≠e→h.get? b=some u→h'.get? b=some u)(heo:∃u,h'.get? e=some u)(new:bj P w (upd H x o') h' x o'):HOk P w (upd H x o') h':=λb u q=>by
 have nown:∀c y,H c=some (.own y)→c≠x:=λc y r z=>by subst z;rw[r]at mu;exact mu
 have ntup:∀c xs,H c=some (.tup xs)→c≠x:=λc xs r z=>by subst z;rw[r]at mu;exact mu
 by_cases hb:b=x
 ·subst hb;rw[ac]at q;cases q;exact new
 ·rw[ai hb]at q
  by_cases hbe:b=e
  ·have q':H b=some (.own x):=by
    rcases he with z|z
    ·exact absurd (hbe.trans z) hb
    ·rw[hbe];exact z
   rw[q]at q';cases q';obtain⟨v,hv⟩:=heo;exact⟨v,by rw[hbe];exact hv⟩
  ·refine(ok b u q).stay (λc v hc r=>k c v ?_ r) (λc r=>by rw[ai (nown c b r)];exact r) λc xs r=>by rw[ai (ntup c xs r)];exact r
   rcases hc with rfl|hc
   ·exact hbe
   ·rintro rfl;rcases he with z|z
    ·exact nown c b hc z
    ·rw[hc]at z;cases z;exact hb rfl
end
structure Un(fs ex:List Addr)(H H':Hp)(h h':Heap):Prop where
 keep:∀b o,h.get? b=some o→H b=none→b∉fs→b∉ex→h'.get? b=some o
 slot:∀b o,h.get? b=some o→H b=none→b∈fs→b∉ex→∃sl,h'.get? b=some {o with slots:=sl}
 free:∀b o,h.get? b=some o→H b=none→b∉ex→H' b=none
 there:∀b o,h.get? b=some o→b∉ex→∃o',h'.get? b=some o'
 tups:∀b xs,H b=some (.tup xs)→H' b=some (.tup xs)
 frzs:∀b o u,H b=some (.frz o u)→H' b=some (.frz o u)
 tbls:∀b ps,H b=some (.tbl ps)→∃more,H' b=some (.tbl (ps++more))
section
variable{fs fs' ex ex':List Addr}{H H1 H2:Hp}{h h1 h2 h':Heap}{a x e:Addr}{o:HO}
theorem Un.any(u:Un fs ex H H1 h h1){b:Addr}{ob:Obj}(q:h.get? b=some ob)(n:H b=none)(hx:b∉ex):∃sl,h1.get? b=some {ob with slots:=sl}:=by
 by_cases hb:b∈fs
 ·exact u.slot b ob q n hb hx
 ·exact⟨ob.slots,u.keep b ob q n hb hx⟩
theorem Un.kept(k:∀b u,h.get? b=some u→h'.get? b=some u):Un fs ex H H h h' :=
 ⟨λb ob q _ _ _=>k b ob q,λb ob q _ _ _=>⟨ob.slots,k b ob q⟩,λ_ _ _ n _=>n,λb ob q _=>⟨ob,k b ob q⟩,λ_ _ q=>q,λ_ _ _ q=>q,λ_ ps q=>⟨#[],by rw[q];simp⟩⟩
theorem Un.refl:Un fs ex H H h h:=Un.kept λ_ _ q=>q
theorem Un.laid(k:∀b u,h.get? b=some u→h'.get? b=some u)(hp:h.objs.size≤a)(hn:H a=none):Un fs ex H (upd H a o) h h' where
 keep:=λb u q _ _ _=>k b u q
 slot:=λb u q _ _ _=>⟨u.slots,k b u q⟩
 free:=λb u q n _=>by rw[ai (ne_of_lt (lt_of_lt_of_le (lt_size q) hp))];exact n
 there:=λb u q _=>⟨u,k b u q⟩
 tups:=λb xs q=>by rw[ai (aq q hn)];exact q
 frzs:=λb u xs q=>by rw[ai (aq q hn)];exact q
 tbls:=λb ps q=>⟨#[],by rw[ai (aq q hn),q];simp⟩
theorem Un.write(mu:Mut (H x))(he:e=x∨H e=some (.own x))(k:∀b u,b≠e→h.get? b=some u→h'.get? b=some u)(heo:∃u,h'.get? e=some u):Un fs ex H (upd H x o) h h':=by
 have hx:∀b,H b=none→b≠x:=λb n z=>by subst z;rw[n]at mu;exact mu
 have hb:∀b,H b=none→b≠e:=λb n z=>by
  subst z;rcases he with r|r
  ·exact hx b n r
  ·rw[n]at r;cases r
 have hm:∀b u,H b=some u→¬Mut (some u)→b≠x:=λb u q nm z=>by subst z;rw[q]at mu;exact nm mu
 refine⟨λb u q n _ _=>k b u (hb b n) q,λb u q n _ _=>⟨u.slots,k b u (hb b n) q⟩,λb u q n _=>by rw[ai (hx b n)];exact n,λb u q _=>?_,
  λb xs q=>by rw[ai (hm b _ q λz=>z)];exact q,λb u xs q=>by rw[ai (hm b _ q λz=>z)];exact q,λb ps q=>⟨#[],by rw[ai (hm b _ q λz=>z),q];simp⟩⟩
 by_cases hbe:b=e
 ·subst hbe;exact heo
 ·exact⟨u,k b u hbe q⟩
end
def trk(h:Heap)(H:Hp):List Addr:=(List.range h.objs.size).filter λa=>(H a).isSome
def jO(h:Heap)(H:Hp):Heap:=hideAll h (trk h H)
theorem py(h:Heap)(H:Hp):(jO h H).objs.size=h.objs.size:=PySem.W.hideAll_size _ _
theorem qe{h:Heap}{H:Hp}{b:Addr}{o:Obj}(e:h.get? b=some o)(n:H b=none):(jO h H).get? b=some o :=
 hideAll_get _ e λhm=>by
  have q:(H b).isSome=true:=(mem_filter.mp hm).2;rw[n]at q;simp at q
theorem sF{h:Heap}{H:Hp}{b:Addr}{o:Obj}(e:(jO h H).get? b=some o):h.get? b=some o∧H b=none:=by
 have e':h.get? b=some o:=of_hideAll (trk h H) e;refine⟨e',?_⟩;cases q:H b with
 |none=>rfl
 |some x =>
  have hm:b∈trk h H:=mem_filter.mpr ⟨mem_range.mpr (lt_size e'),by simp[q]⟩;have z:(jO h H).get? b=none:=PySem.W.hideAll_none (trk h H) hm;rw[z]at e;cases e
structure Mod(K:PySem.W.Frag)(mg:Str→Option Value)(base:Heap):Prop where
 kin:K.In base
 glob:base.Ns mainGlobals mg
 blt:∃mb,base.Ns builtinsNs mb∧∀x:Str,x≠"__name__"→mb x=bootBuiltins x
 nolimit:base.NoLimit
structure Cx where
 prog:Program
 w:World
 K:PySem.W.Frag
 mg:Str→Option Value
 base:Heap
 A:Around
 N:List Str
 s₀:Shared
 H₀:Hp
 env:Env
 outer:List Env
 stack:List Env
 ex:List Addr
 fn:Str→Bool
 calm:Bool
 pn:List (Addr×Obj)
 xe:Value→Shared→Prop
def frs(l:List Env):List Addr:=l.filterMap (·.frame)
abbrev Cx.fs(X:Cx):List Addr:=frs X.outer
def Vis(sc:Scope)(x:Str):Prop:=sc.names.lookup x=some .local∨sc.names.lookup x=some .cell∨sc.names.lookup x=some .free
def Loc(sc:Scope)(x:Str):Prop:=sc.names.lookup x=some .local∨sc.names.lookup x=some .cell
def xA(env:Env)(h:Heap)(m:Str→Option Value)(x:Str)(u:Value):Prop :=
 (env.kindOf x=some .local∧m x=some u)∨((env.kindOf x=some .cell∨env.kindOf x=some .free)∧∃c,env.cells.lookup x=some c∧h.IsCell c (some u))
structure Cx.Ok(X:Cx):Prop where
 mod:Mod X.K X.mg X.base
 kind:X.env.scope.kind=.function
 glob:X.env.globals=mainGlobals
 blt:X.env.builtins=builtinsNs
 above:X.s₀.heap.objs.size≤X.env.locals
 inj:∀x y c,X.env.cells.lookup x=some c→X.env.cells.lookup y=some c→x=y
 has:∀x,(X.env.kindOf x=some .cell∨X.env.kindOf x=some .free)→∃c,X.env.cells.lookup x=some c
 cab:∀x c,X.fn x=true→X.env.cells.lookup x=some c→X.s₀.heap.objs.size≤c
 hd:X.calm=true→X.A.handled=none
 frames:X.A.frames=some X.stack
 stk:X.stack=X.outer∨(X.stack=X.env::X.outer∧X.env.frame=some X.env.locals)
 exf:∀b∈X.ex,b≠X.env.locals∧∀x c,X.env.cells.lookup x=some c→c≠b
 bs:∀b o,X.base.get? b=some o→X.s₀.heap.get? b=some o∧X.H₀ b=none
 bsz:X.base.objs.size≤X.s₀.heap.objs.size
 noex:∀b o,X.base.get? b=some o→b∉X.ex
 exfs:∀b∈X.ex,b∉X.fs
 funs:X.s₀.heap.FunFrames X.base X.outer
 frf:∀b∈X.fs,X.H₀ b=none
structure Inv(X:Cx)(pins:List (Addr×Obj))(σ:List (Option V))(H:Hp)(s:Shared):Prop where
 ok:X.Ok
 os:s.os=X.s₀.os
 bare:AllBare s.gens
 base:Un X.fs X.ex X.H₀ H X.s₀.heap s.heap
 loc:∃m,s.heap.Ns X.env.locals m∧∀(i:Nat)(x:Str)(v:V),X.N[i]?=some x→σ[i]?=some (some v)→Vis X.env.scope x→∃u,ax v u∧xA X.env s.heap m x u
 cell:∀x c,X.env.cells.lookup x=some c→∃v,s.heap.IsCell c v
 free:H X.env.locals=none
 freeC:∀x c,X.env.cells.lookup x=some c→H c=none
 pin:∀p∈X.pn++pins,s.heap.get? p.1=some p.2∧H p.1=none∧p.1≠X.env.locals∧p.1∉X.fs∧∀v,p.2.data≠.cell v
 hok:HOk X.prog X.w H s.heap
 len:σ.length=X.N.length
section
variable{X:Cx}{pins:List (Addr×Obj)}{σ:List (Option V)}{H H':Hp}{s:Shared}{h':Heap}
theorem Cx.Ok.nofr(ok:X.Ok){b:Addr}{o:Obj}(e:X.base.get? b=some o):b∉X.fs:=λhb=>by
 have:=(ok.funs.mem hb).1;rw[e]at this;cases this
theorem Inv.bs(I:Inv X pins σ H s):∀b o,X.base.get? b=some o→s.heap.get? b=some o∧H b=none:=λb o e =>
 ⟨I.base.keep b o (I.ok.bs b o e).1 (I.ok.bs b o e).2 (I.ok.nofr e) (I.ok.noex b o e),I.base.free b o (I.ok.bs b o e).1 (I.ok.bs b o e).2 (I.ok.noex b o e)⟩
theorem Inv.bk(I:Inv X pins σ H s):∀b o,X.base.get? b=some o→s.heap.get? b=some o:=λb o e=>(I.bs b o e).1
theorem Inv.mod(I:Inv X pins σ H s):Mod X.K X.mg X.base:=I.ok.mod
theorem Inv.kIn(I:Inv X pins σ H s):X.K.In s.heap:=I.ok.mod.kin.keeps I.bk
theorem Inv.lt(I:Inv X pins σ H s):X.env.locals<s.heap.objs.size:=let⟨_,hn,_⟩:=I.loc;hn.lt
theorem Inv.sz(I:Inv X pins σ H s):X.s₀.heap.objs.size≤s.heap.objs.size:=le_trans I.ok.above (le_of_lt I.lt)
theorem Inv.nofs(I:Inv X pins σ H s){a:Addr}(h:s.heap.objs.size≤a):a∉X.fs:=λhb=>by
 obtain⟨_,o,ho,_⟩:=I.ok.funs.mem hb;exact absurd (lt_of_lt_of_le (lt_size ho) (le_trans I.sz h)) (lt_irrefl _)
theorem Inv.cne(I:Inv X pins σ H s):∀x c,X.env.cells.lookup x=some c→c≠X.env.locals:=λx c e z=>by
 obtain⟨v,o,ho,hd⟩:=I.cell x c e;obtain⟨m,⟨o',es,ep,ho',hd',_⟩,_⟩:=I.loc;rw[z,ho']at ho;cases ho;rw[hd']at hd;cases hd
theorem Inv.funs(I:Inv X pins σ H s):s.heap.FunFrames X.base X.outer:=by
 have all:∀(l:List Env),(∀b∈frs l,b∈X.fs)→X.s₀.heap.FunFrames X.base l→s.heap.FunFrames X.base l:=by
  intro l
  induction l with
  |nil=>intro _ _;trivial
  |cons env r ih =>
   intro hs hl;obtain⟨hk,⟨L,o,hf,hn,ho,hd⟩,hr⟩:=hl;have hL:L∈X.fs:=hs L (by unfold frs;rw[List.filterMap_cons,hf];exact mem_cons_self);obtain⟨sl,e⟩:=I.base.slot L o ho (I.ok.frf L hL) hL λz=>I.ok.exfs L z hL;exact⟨hk,⟨L,_,hf,hn,e,hd⟩,ih (λb hb=>hs b (by unfold frs;rw[List.filterMap_cons,hf];exact mem_cons_of_mem _ hb)) hr⟩
 exact all X.outer (λ_ hb=>hb) I.ok.funs
theorem Inv.stack(I:Inv X pins σ H s):s.heap.FunFrames X.base X.stack:=by
 rcases I.ok.stk with e|⟨e,hf⟩
 ·rw[e];exact I.funs
 ·rw[e];obtain⟨m,hn,_⟩:=I.loc;refine .cons (by rw[I.ok.kind];decide) hf hn ?_ I.funs;exact Heap.get?_none_of_le (le_trans I.ok.bsz I.ok.above)
theorem Inv.stkSub(I:Inv X pins σ H s):∀b∈frs X.stack,b∈X.env.locals::X.fs:=λb hb=>by
 rcases I.ok.stk with e|⟨e,hf⟩
 ·rw[e]at hb;exact mem_cons_of_mem _ hb
 ·rw[e]at hb;unfold frs at hb;rw[List.filterMap_cons,hf]at hb;exact hb
theorem Inv.stkFree(I:Inv X pins σ H s):∀b∈frs X.stack,H b=none:=λb hb=>by
 rcases mem_cons.mp (I.stkSub b hb)with e|hb
 ·rw[e];exact I.free
 ·obtain⟨_,o,ho,_⟩:=I.ok.funs.mem hb;exact I.base.free b o ho (I.ok.frf b hb) λz=>I.ok.exfs b z hb
theorem Inv.step{g':Array GenState}{t':Nat}{d':Drawn}{ch:List Addr}(I:Inv X pins σ H s)(hch:∀b∈ch,(b∈X.ex∨X.s₀.heap.objs.size≤b)∧b≠X.env.locals∧(∀x c,X.env.cells.lookup x=some c→c≠b)∧∀p∈X.pn++pins,p.1≠b)(keep:∀b o,b≠X.env.locals→b∉X.fs→b∉ch→s.heap.get? b=some o→H b=none→h'.get? b=some o)(slot:∀b o,b≠X.env.locals→b∈X.fs→b∉ch→s.heap.get? b=some o→H b=none→∃sl,h'.get? b=some {o with slots:=sl})(free:∀b o,b∉ch→s.heap.get? b=some o→H b=none→H' b=none)(there:∀b o,b∉ch→s.heap.get? b=some o→∃o',h'.get? b=some o')(tups:∀b xs,H b=some (.tup xs)→H' b=some (.tup xs))(frzs:∀b o u,H b=some (.frz o u)→H' b=some (.frz o u))(tbls:∀b ps,H b=some (.tbl ps)→∃more,H' b=some (.tbl (ps++more)))(ns:∀m,s.heap.Ns X.env.locals m→h'.Ns X.env.locals m)(hok:HOk X.prog X.w H' h')(hg:AllBare g'):
  Inv X pins σ H' {s with heap:=h',gens:=g',drawn:=d',toks:=t'}:=by
 have neL:∀b o,X.s₀.heap.get? b=some o→b≠X.env.locals:=λb o e=>ne_of_lt (lt_of_lt_of_le (lt_size e) I.ok.above);have neC:∀b o,X.s₀.heap.get? b=some o→b∉X.ex→b∉ch:=λb o e hx hb=>by
  rcases (hch b hb).1 with z|z
  ·exact hx z
  ·exact absurd (lt_of_lt_of_le (lt_size e) z) (lt_irrefl _)
 have cellK:∀x c,X.env.cells.lookup x=some c→∀v,s.heap.IsCell c v→h'.IsCell c v:=λx c e v ⟨o,ho,hd⟩=>by
  have nch:c∉ch:=λz=>(hch c z).2.2.1 x c e rfl
  by_cases hc:c∈X.fs
  ·obtain⟨sl,q⟩:=slot c o (I.cne x c e) hc nch ho (I.freeC x c e);exact⟨_,q,hd⟩
  ·exact⟨o,keep c o (I.cne x c e) hc nch ho (I.freeC x c e),hd⟩
 refine⟨I.ok,I.os,hg,⟨λb o e n hb hx=>?_,λb o e n hb hx=>?_,λb o e n hx=>?_,λb o e hx=>?_,λb xs e=>tups b xs (I.base.tups b xs e),λb o xs e=>frzs b o xs (I.base.frzs b o xs e),λb ps e=>?_⟩,?_,λx c e=>?_,?_,λx c e=>?_,λp hp=>?_,hok,I.len⟩
 ·exact keep b o (neL b o e) hb (neC b o e hx) (I.base.keep b o e n hb hx) (I.base.free b o e n hx)
 ·obtain⟨sl,e1⟩:=I.base.slot b o e n hb hx;obtain⟨sl',e2⟩:=slot b _ (neL b o e) hb (neC b o e hx) e1 (I.base.free b o e n hx);exact⟨sl',e2⟩
 ·obtain⟨o',e1⟩:=I.base.there b o e hx;exact free b o' (neC b o e hx) e1 (I.base.free b o e n hx)
 ·obtain⟨o',e1⟩:=I.base.there b o e hx;exact there b o' (neC b o e hx) e1
 ·obtain⟨m1,e1⟩:=I.base.tbls b ps e;obtain⟨m2,e2⟩:=tbls b _ e1;exact⟨m1++m2,by rw[e2,Array.append_assoc]⟩
 ·obtain⟨m,hn,hl⟩:=I.loc;refine⟨m,ns m hn,λi x v e1 e2 e3=>?_⟩;obtain⟨u,r,l⟩:=hl i x v e1 e2 e3;refine⟨u,r,?_⟩;rcases l with l|⟨k,c,e,z⟩
  ·exact .inl l
  ·exact .inr ⟨k,c,e,cellK x c e _ z⟩
 ·obtain⟨v,z⟩:=I.cell x c e;exact⟨v,cellK x c e v z⟩
 ·obtain⟨m,⟨o,_,_,ho,_⟩,_⟩:=I.loc;exact free _ o (λz=>(hch _ z).2.1 rfl) ho I.free
 ·obtain⟨v,o,ho,hd⟩:=I.cell x c e;exact free c o (λz=>(hch c z).2.2.1 x c e rfl) ho (I.freeC x c e)
 ·obtain⟨e,n,ne,nf,d⟩:=I.pin p hp;have nch:p.1∉ch:=λz=>(hch p.1 z).2.2.2 p hp rfl;exact⟨keep p.1 p.2 ne nf nch e n,free p.1 p.2 nch e n,ne,nf,d⟩
theorem Inv.un{t':Nat}(I:Inv X pins σ H s)(u:Un X.fs [] H H' s.heap h')(hok:HOk X.prog X.w H' h'):Inv X pins σ H' {s with heap:=h',toks:=t'}:=by
 obtain⟨m,⟨o,es,ep,ho,r⟩,_⟩:=id I.loc;obtain⟨sl,hL⟩:=u.any ho I.free (by simp);exact I.step (g':=s.gens) (d':=s.drawn) (ch:=[]) (λ_ z=>nomatch z) (λb o _ hb _ e n=>u.keep b o e n hb (by simp)) (λb o _ hb _ e n=>u.slot b o e n hb (by simp)) (λb o _ e n=>u.free b o e n (by simp)) (λb o _ e=>u.there b o e (by simp)) u.tups u.frzs u.tbls (λm' hm=>by
  obtain⟨o',es',ep',ho',r'⟩:=hm;rw[ho]at ho';cases ho';exact⟨_,es',ep',hL,r'⟩) hok I.bare
theorem Inv.call{g':Array GenState}{t':Nat}{d':Drawn}{ch:List Addr}(I:Inv X pins σ H s)(u:Un (frs X.stack) ch H H' s.heap h')(hok:HOk X.prog X.w H' h')(hg:AllBare g')(hch:∀b∈ch,(b∈X.ex∨X.s₀.heap.objs.size≤b)∧b≠X.env.locals∧(∀x c,X.env.cells.lookup x=some c→c≠b)∧∀p∈X.pn++pins,p.1≠b):
  Inv X pins σ H' {s with heap:=h',gens:=g',drawn:=d',toks:=t'}:=by
 obtain⟨m,⟨o,es,ep,ho,r⟩,_⟩:=id I.loc;obtain⟨sl,hL⟩:=u.any ho I.free λz=>(hch _ z).2.1 rfl;exact I.step (ch:=ch) hch (λb o hL hb hc e n=>u.keep b o e n (λz=>(mem_cons.mp (I.stkSub b z)).elim hL hb) hc) (λb o _ _ hc e n=>u.any e n hc) (λb o hc e n=>u.free b o e n hc) (λb o hc e=>u.there b o e hc) u.tups u.frzs u.tbls (λm' hm=>by
  obtain⟨o',es',ep',ho',r'⟩:=hm;rw[ho]at ho';cases ho';exact⟨_,es',ep',hL,r'⟩) hok hg
theorem Inv.turned{t':Nat}{it:Addr}(I:Inv X pins σ H s)(k:∀b o,b≠it→s.heap.get? b=some o→h'.get? b=some o)(hn:H it=none)(hL:it≠X.env.locals)(h1:it∈X.ex∨X.s₀.heap.objs.size≤it)(h2:∀x c,X.env.cells.lookup x=some c→c≠it)(h3:∀p∈X.pn++pins,p.1≠it):Inv X pins σ H {s with heap:=h',toks:=t'}:=by
 have nit:∀b u,H b=some u→b≠it:=λb u e z=>by rw[z,hn]at e;cases e
 refine I.step (g':=s.gens) (d':=s.drawn) (ch:=[it]) (λb hb=>?_) (λb o _ _ hc e _=>k b o (λz=>hc (by simp[z])) e) (λb o _ _ hc e _=>⟨o.slots,k b o (λz=>hc (by simp[z])) e⟩) (λ_ _ _ _ n=>n)
  (λb o hc e=>⟨o,k b o (λz=>hc (by simp[z])) e⟩) (λ_ _ e=>e) (λ_ _ _ e=>e) (λb ps e=>⟨#[],by rw[e];simp⟩) (λm hm=>?_) (λb u e=>?_) I.bare
 ·have e:b=it:=by simpa using hb
  subst e;exact⟨h1,hL,h2,h3⟩
 ·obtain⟨o,es,ep,ho,r⟩:=hm;exact⟨o,es,ep,k _ o (Ne.symm hL) ho,r⟩
 ·refine(I.hok b u e).stay (λc v hc q=>k c v ?_ q) (λ_ q=>q) λ_ _ q=>q;rcases hc with z|z
  ·rw[z];exact nit b u e
  ·exact nit c _ z
theorem Inv.tok(I:Inv X pins σ H s)(t:Nat):Inv X pins σ H {s with toks:=t}:=I.un (h':=s.heap) (t':=t) Un.refl I.hok
theorem Inv.kept{t':Nat}(I:Inv X pins σ H s)(k:∀b u,s.heap.get? b=some u→h'.get? b=some u):Inv X pins σ H {s with heap:=h',toks:=t'}:=I.un (Un.kept k) (I.hok.kept k)
theorem Inv.laid{a:Addr}{o:HO}{t':Nat}(I:Inv X pins σ H s)(k:∀b u,s.heap.get? b=some u→h'.get? b=some u)(hp:s.heap.objs.size≤a)(new:bj X.prog X.w (upd H a o) h' a o):
  Inv X pins σ (upd H a o) {s with heap:=h',toks:=t'}:=I.un (Un.laid k hp (I.hok.fresh hp)) (I.hok.laid k hp new)
theorem Inv.write{x e:Addr}{o:HO}{t':Nat}(I:Inv X pins σ H s)(mu:Mut (H x))(he:e=x∨H e=some (.own x))(k:∀b u,b≠e→s.heap.get? b=some u→h'.get? b=some u)(heo:∃u,h'.get? e=some u)(new:bj X.prog X.w (upd H x o) h' x o):Inv X pins σ (upd H x o) {s with heap:=h',toks:=t'}:=I.un (Un.write mu he k heo) (I.hok.write mu he k heo new)
theorem Inv.pins_of{pins':List (Addr×Obj)}(I:Inv X pins σ H s)(h:∀p∈pins',s.heap.get? p.1=some p.2∧H p.1=none∧p.1≠X.env.locals∧p.1∉X.fs∧∀v,p.2.data≠.cell v):Inv X pins' σ H s :=
 ⟨I.ok,I.os,I.bare,I.base,I.loc,I.cell,I.free,I.freeC,λp hp=>(mem_append.mp hp).elim (λz=>I.pin p (List.mem_append_left _ z)) (h p),I.hok,I.len⟩
theorem kZ{N:List Str}(hN:N.Nodup){i j:Nat}{x:Str}(a:N[i]?=some x)(b:N[j]?=some x):i=j:=by
 obtain⟨h1,e1⟩:=List.getElem?_eq_some_iff.mp a;obtain⟨h2,e2⟩:=List.getElem?_eq_some_iff.mp b;exact(getElem_inj hN).mp (e1.trans e2.symm)
theorem pz{M:Model}{A:Around}{E:Value→Shared→Prop}{i:Nat}{x:Str}{v:V}{u:Value}{Q:Unit→Shared→Prop}(I:Inv X pins σ H s)(hN:X.N.Nodup)(hi:X.N[i]?=some x)(hx:Loc X.env.scope x)(r:ax v u)(h:∀s',Inv X pins (σ.set i (some v)) H s'→(∃a,SameBut a s.heap s'.heap∧(a=X.env.locals∨X.env.cells.lookup x=some a))→Q () s')(hf:X.fn x=true∨X.env.scope.names.lookup x=some .local:=by first|exact .inl rfl|exact .inr rfl|assumption):wpAny M A (storeName X.env x u) Q E s:=by
 obtain⟨m,hn,hl⟩:=id I.loc;have hcls:(X.env.scope.kind==.class||(X.env.scope.kind==.module&&X.env.locals != X.env.globals))=false:=by rw[I.ok.kind];rfl
 have hiσ:i<σ.length:=by rw[I.len];exact(List.getElem?_eq_some_iff.mp hi).1
 have cne:=I.cne;have tracked:∀{a:Addr}{h':Heap},(∃o,s.heap.get? a=some o∧H a=none)→SameBut a s.heap h'→HOk X.prog X.w H h':=λ{a h'} ha hs b ob e=>by
  obtain⟨_,_,hfree⟩:=ha;refine(I.hok b ob e).stay (λc w' hc q=>(hs.2 c ?_).trans q) (λ_ q=>q) λ_ _ q=>q;rintro rfl;rcases hc with rfl|hc
  ·rw[hfree]at e;cases e
  ·rw[hfree]at hc;cases hc
 rcases hx with hk|hk
 ·refine wpAny_storeName_local hk hn (λh' hn' hs=>?_) hcls;obtain⟨oL,_,_,hoL,_⟩:=id hn;refine h _ ⟨I.ok,I.os,I.bare,⟨λb o e n hb hx=>?_,λb o e n hb hx=>?_,I.base.free,λb o e hx=>?_,I.base.tups,I.base.frzs,I.base.tbls⟩,⟨_,hn',λj y v' e1 e2 e3=>?_⟩,λy c e=>?_,I.free,I.freeC,λp hp=>?_,tracked ⟨oL,hoL,I.free⟩ hs,by simpa using I.len⟩ ⟨_,hs,.inl rfl⟩
  ·exact(hs.2 b (ne_of_lt (lt_of_lt_of_le (lt_size e) I.ok.above))).trans (I.base.keep b o e n hb hx)
  ·obtain⟨sl,e1⟩:=I.base.slot b o e n hb hx;exact⟨sl,(hs.2 b (ne_of_lt (lt_of_lt_of_le (lt_size e) I.ok.above))).trans e1⟩
  ·obtain⟨o',e1⟩:=I.base.there b o e hx;exact⟨o',(hs.2 b (ne_of_lt (lt_of_lt_of_le (lt_size e) I.ok.above))).trans e1⟩
  ·by_cases hj:j=i
   ·subst hj;rw[hi]at e1;cases e1;rw[List.getElem?_set_self hiσ]at e2;cases e2;exact⟨u,r,.inl ⟨hk,by simp⟩⟩
   ·rw[List.getElem?_set_ne (Ne.symm hj)]at e2;obtain⟨u',r',q⟩:=hl j y v' e1 e2 e3;refine⟨u',r',?_⟩;rcases q with⟨k,e⟩|⟨k,c,e,z⟩
    ·refine .inl ⟨k,?_⟩;have:y≠x:=λe=>hj (kZ hN e1 (e ▸ hi));simp[this,e]
    ·exact .inr ⟨k,c,e,z.sameBut hs (cne y c e)⟩
  ·obtain⟨w',z⟩:=I.cell y c e;exact⟨w',z.sameBut hs (cne y c e)⟩
  ·obtain⟨e,n,ne,nf,d⟩:=I.pin p hp;exact⟨(hs.2 p.1 ne).trans e,n,ne,nf,d⟩
 ·have hfn:X.fn x=true:=by
   rcases hf with z|z
   ·exact z
   ·rw[z]at hk;cases hk
  obtain⟨c,hc⟩:=I.ok.has x (.inl hk);obtain⟨w',z⟩:=I.cell x c hc;refine wpAny_storeName_cell I.ok.kind hk hc z (λh' hc' hs=>?_);obtain⟨oc,hoc,hocd⟩:=id z;refine h {s with heap:=h'} ⟨I.ok,I.os,I.bare,⟨λb o e n hb hx=>?_,λb o e n hb hx=>?_,I.base.free,λb o e hx=>?_,I.base.tups,I.base.frzs,I.base.tbls⟩,⟨m,hn.sameBut hs (Ne.symm (cne x c hc)),λj y v' e1 e2 e3=>?_⟩,λy c' e=>?_,I.free,I.freeC,λp hp=>?_,tracked ⟨oc,hoc,I.freeC x c hc⟩ hs,by simpa using I.len⟩ ⟨c,hs,.inr hc⟩
  ·exact(hs.2 b (ne_of_lt (lt_of_lt_of_le (lt_size e) (I.ok.cab x c hfn hc)))).trans (I.base.keep b o e n hb hx)
  ·obtain⟨sl,e1⟩:=I.base.slot b o e n hb hx;exact⟨sl,(hs.2 b (ne_of_lt (lt_of_lt_of_le (lt_size e) (I.ok.cab x c hfn hc)))).trans e1⟩
  ·obtain⟨o',e1⟩:=I.base.there b o e hx;exact⟨o',(hs.2 b (ne_of_lt (lt_of_lt_of_le (lt_size e) (I.ok.cab x c hfn hc)))).trans e1⟩
  ·by_cases hj:j=i
   ·subst hj;rw[hi]at e1;cases e1;rw[List.getElem?_set_self hiσ]at e2;cases e2;exact⟨u,r,.inr ⟨.inl hk,c,hc,hc'⟩⟩
   ·rw[List.getElem?_set_ne (Ne.symm hj)]at e2;obtain⟨u',r',q⟩:=hl j y v' e1 e2 e3;refine⟨u',r',?_⟩;rcases q with q|⟨k,c',e,z'⟩
    ·exact .inl q
    ·refine .inr ⟨k,c',e,z'.sameBut hs ?_⟩;rintro rfl;exact hj (kZ hN e1 (I.ok.inj _ _ _ e hc ▸ hi))
  ·by_cases hcc:c'=c
   ·subst hcc;exact⟨_,hc'⟩
   ·obtain⟨w2,z2⟩:=I.cell y c' e;exact⟨w2,z2.sameBut hs hcc⟩
  ·obtain⟨e,n,ne,nf,d⟩:=I.pin p hp;refine⟨(hs.2 p.1 ?_).trans e,n,ne,nf,d⟩;intro q;rw[q,hoc]at e;have q':oc=p.2:=Option.some.inj e;exact d w' (by rw[←q'];exact hocd)
theorem eV{M:Model}{A:Around}{E:Value→Shared→Prop}{i:Nat}{x:Str}{v:V}{u:Value}{Q:Unit→Shared→Prop}(I:Inv X pins σ H s)(hN:X.N.Nodup)(hi:X.N[i]?=some x)(hx:Loc X.env.scope x)(r:ax v u)(h:∀s',Inv X pins (σ.set i (some v)) H s'→Q () s')(hf:X.fn x=true∨X.env.scope.names.lookup x=some .local:=by first|exact .inl rfl|exact .inr rfl|assumption):wpAny M A (storeName X.env x u) Q E s :=
 pz I hN hi hx r (λs' I' _=>h s' I') hf
theorem Inv.call'{s':Shared}{ch:List Addr}(I:Inv X pins σ H s)(ho:s'.os=s.os)(u:Un (frs X.stack) ch H H' s.heap s'.heap)(hok:HOk X.prog X.w H' s'.heap)(hg:AllBare s'.gens)(hch:∀b∈ch,(b∈X.ex∨X.s₀.heap.objs.size≤b)∧b≠X.env.locals∧(∀x c,X.env.cells.lookup x=some c→c≠b)∧∀p∈X.pn++pins,p.1≠b):Inv X pins σ H' s':=by
 obtain⟨h',g',d',t',o'⟩:=s';have e:o'=s.os:=ho;subst e;exact I.call (g':=g') (t':=t') (d':=d') u hok hg hch
end
abbrev XK:=Value→Option Addr→Hp→Prop
abbrev St:=List (Option V)
abbrev VK:=V→Hp→Prop
abbrev TE:=St→Hp→VK→Prop
abbrev TT:=St→Hp→(Bool→Hp→Prop)→Prop
abbrev TA:=St→Hp→(List V→Hp→Prop)→Prop
structure Ends where
 nx:St→Hp→Prop
 rt:VK
 bk:St→Hp→Prop:=λ_ _=>False
 ct:St→Hp→Prop:=λ_ _=>False
abbrev TS:=Ends→St→Hp→Prop
def EP(X:Cx)(pins:List (Addr×Obj))(σ:St)(Q:VK)(u:Value)(s':Shared):Prop:=∃v H',Inv X pins σ H' s'∧ax v u∧Q v H'
def TP(X:Cx)(pins:List (Addr×Obj))(σ:St)(Q:Bool→Hp→Prop)(b:Bool)(s':Shared):Prop:=∃H',Inv X pins σ H' s'∧Q b H'
def AP(X:Cx)(pins:List (Addr×Obj))(σ:St)(Q:List V→Hp→Prop)(us:List Value)(s':Shared):Prop:=∃vs H',Inv X pins σ H' s'∧ap vs us∧Q vs H'
def SP(X:Cx)(pins:List (Addr×Obj))(D:Ends)(f:Flow)(s':Shared):Prop :=
 match f with
 |.next=>∃σ' H',Inv X pins σ' H' s'∧D.nx σ' H'
 |.brk=>∃σ' H',Inv X pins σ' H' s'∧D.bk σ' H'
 |.cont=>∃σ' H',Inv X pins σ' H' s'∧D.ct σ' H'
 |.ret u=>∃v σ' H',Inv X pins σ' H' s'∧ax v u∧D.rt v H'
def PE(X:Cx)(e:Expr)(t:TE):Prop :=
 ∀(pins:List (Addr×Obj))(s:Shared)(σ:St)(H:Hp)(Q:VK),Inv X pins σ H s→t σ H Q→wpAny (model X.prog X.w) X.A (eval e X.env) (EP X pins σ Q) X.xe s
def PT(X:Cx)(e:Expr)(t:TT):Prop :=
 ∀(pins:List (Addr×Obj))(s:Shared)(σ:St)(H:Hp)(Q:Bool→Hp→Prop),Inv X pins σ H s→t σ H Q→wpAny (model X.prog X.w) X.A (isTrue e X.env (eval e X.env)) (TP X pins σ Q) X.xe s
def PW(X:Cx)(e:Expr)(t:TT):Prop :=
 ∀(whole:Sem Value)(pins:List (Addr×Obj))(s:Shared)(σ:St)(H:Hp)(Q:Bool→Hp→Prop),Inv X pins σ H s→t σ H Q→wpAny (model X.prog X.w) X.A (isTrue e X.env whole) (TP X pins σ Q) X.xe s
theorem PW.pt{X:Cx}{e:Expr}{t:TT}(h:PW X e t):PT X e t:=h _
def PA(X:Cx)(es:List Expr)(t:TA):Prop :=
 ∀(pos:Pos)(pins:List (Addr×Obj))(s:Shared)(σ:St)(H:Hp)(Q:List V→Hp→Prop),Inv X pins σ H s→t σ H Q→wpAny (model X.prog X.w) X.A (spliced (backTo pos (starEach es X.env))) (AP X pins σ Q) X.xe s
def PS(X:Cx)(st:Stmt)(t:TS):Prop :=
 ∀(pins:List (Addr×Obj))(s:Shared)(σ:St)(H:Hp)(D:Ends),Inv X pins σ H s→t D σ H→wpAny (model X.prog X.w) X.A (exec st X.env) (SP X pins D) X.xe s
def PSs(X:Cx)(st:List Stmt)(t:TS):Prop :=
 ∀(pins:List (Addr×Obj))(s:Shared)(σ:St)(H:Hp)(D:Ends),Inv X pins σ H s→t D σ H→wpAny (model X.prog X.w) X.A (execs st X.env) (SP X pins D) X.xe s
theorem thn{α:Type}{t:Sem α}{Q Q':α→Shared→Prop}{M:Model}{A:Around}{E:Value→Shared→Prop}{s:Shared}(h:wpAny M A t Q E s)(hQ:∀a s,Q a s→Q' a s):wpAny M A t Q' E s:=wpAny_mono h hQ λ_ _ x=>x
section
variable{X:Cx}
def eA(i:Nat):TE:=λσ H Q=>∃v,σ[i]?=some (some v)∧Q v H
def tC(v:V):TE:=λ_ H Q=>Q v H
theorem uK{i:Nat}{x:Str}{pos:Pos}(hN:X.N[i]?=some x)(hv:Vis X.env.scope x)(hd:(x==("__debug__":Str))=false:=by decide)(hcd:(x==("__classdict__":Str))=false:=by decide):PE X (.Name x pos) (eA i):=by
 intro pins s σ H Q I h;obtain⟨v,e,h⟩:=h;obtain⟨m,hn,hl⟩:=I.loc;obtain⟨u,r,l⟩:=hl i x v hN e hv;have fin:EP X pins σ Q u s:=⟨v,H,I,r,h⟩;rcases l with⟨hk,hm⟩|⟨hk,c,hc,hcell⟩
 ·exact wpAny_Name (wpAny_loadName_local I.ok.kind hk hn hm fin) hd
 ·rcases hk with hk|hk
  ·exact wpAny_Name (wpAny_loadName_cell I.ok.kind hk hc hcell fin) hd
  ·exact wpAny_Name (wpAny_loadName_free I.ok.kind hk hc hcell fin hcd) hd
theorem ak{i j pos}:PE X (.Constant (.int i) j pos) (tC (.int i)):=λ_ _ _ H _ I h=>wpAny_Constant_int ⟨.int i,H,I.tok _,⟨_,rfl⟩,h⟩
theorem ji{b j pos}:PE X (.Constant (.bool b) j pos) (tC (.bl b)):=λ_ _ _ H _ I h=>Constant_bool ⟨.bl b,H,I,rfl,h⟩
theorem cb{j pos}:PE X (.Constant .none j pos) (tC .non):=λ_ _ _ H _ I h=>Constant_none ⟨.non,H,I,rfl,h⟩
theorem aR{x j pos}:PE X (.Constant (.str x) j pos) (tC (.str x)):=λ_ _ _ H _ I h=>Constant_str ⟨.str x,H,I.tok _,⟨_,rfl⟩,h⟩
def Gl(X:Cx)(x:Str):Prop:=X.env.kindOf x=some .globalImplicit
theorem gT{E:Value→Shared→Prop}{pins:List (Addr×Obj)}{s:Shared}{σ:St}{H:Hp}{x:Str}{u:Value}{pos:Pos}{Q:Value→Shared→Prop}(I:Inv X pins σ H s)(hg:Gl X x)(hm:X.mg x=some u)(h:Q u s)(hd:(x==("__debug__":Str))=false:=by decide):wpAny (model X.prog X.w) X.A (eval (.Name x pos) X.env) Q E s :=
 Calls.Name_function_global I.ok.kind hg (Calls.loadGlobal_global (by rw[I.ok.glob];exact I.mod.glob.keeps I.bk) hm h) hd
theorem mw{E:Value→Shared→Prop}{pins:List (Addr×Obj)}{s:Shared}{σ:St}{H:Hp}{x:Str}{u:Value}{pos:Pos}{Q:Value→Shared→Prop}(I:Inv X pins σ H s)(hg:Gl X x)(hm:X.mg x=none)(hv:bootBuiltins x=some u)(h:Q u s)(hn:x≠"__name__":=by decide)(hd:(x==("__debug__":Str))=false:=by decide):wpAny (model X.prog X.w) X.A (eval (.Name x pos) X.env) Q E s:=by
 obtain⟨mb,h1,h2⟩:=I.mod.blt;exact Calls.Name_function_global I.ok.kind hg (Calls.loadGlobal_builtin (by rw[I.ok.glob];exact I.mod.glob.keeps I.bk) hm (by rw[I.ok.blt];exact h1.keeps I.bk) ((h2 x hn).trans hv) h) hd
theorem jP{x:Str}{v:V}{u:Value}{pos:Pos}(hg:Gl X x)(hm:X.mg x=some u)(r:ax v u)(hd:(x==("__debug__":Str))=false:=by decide):PE X (.Name x pos) (tC v) :=
 λ_ _ _ H _ I h=>gT I hg hm ⟨v,H,I,r,h⟩ hd
variable{a b:Expr}{ta tb:TE}{pos:Pos}
def PC(X:Cx)(op:CmpOp)(a b:Expr)(t:TE):Prop :=
 ∀(pins:List (Addr×Obj))(s:Shared)(σ:St)(H:Hp)(Q:VK),Inv X pins σ H s→t σ H Q →
  wpAny (model X.prog X.w) X.A (eval a X.env) (λv s₁=>wpAny (model X.prog X.w) X.A (eval b X.env) (λu s₂=>wpAny (model X.prog X.w) X.A (compareOp op v u) (EP X pins σ Q) X.xe s₂) X.xe s₁) X.xe s
def tB(t:TE):TT:=λσ H Q=>t σ H λx H1=>∃c,x=.bl c∧Q c H1
theorem di{op:CmpOp}{t:TE}(h:PC X op a b t)(h1:behindInMarks op b=false:=by first|exact nobehind _ (by decide) (by decide)|rfl):PT X (.Compare a [op] [b] pos) (tB t):=by
 intro pins s σ H Q I hw;refine wpAny_isTrue_Compare1 (thn (h pins s σ H _ I hw) λv s1 h1=>thn h1 λu s2 h2=>thn h2 λc s3 ⟨x,H1,I1,r1,q1⟩=>?_) h1;obtain⟨d,rfl,q⟩:=q1;cases r1;exact wpAny_truthy_bool ⟨H1,I1,q⟩
variable{tA tB':TT}{rest:List Expr}
def xB(t u:TT):TT:=λσ H Q=>t σ H λc H1=>if c=true then u σ H1 Q else Q false H1
def tOr(t u:TT):TT:=λσ H Q=>t σ H λc H1=>if c=true then Q true H1 else u σ H1 Q
theorem pw_and1(ha:PT X a tA):PW X (.BoolOp .And [a] pos) tA:=by
 intro wh pins s σ H Q I h;refine isTrue_and (thn (ha pins s σ H Q I h) λc s1 e=>?_);cases c with
 |true=>exact isTrue_and_nil e
 |false=>exact e
theorem pw_or1(ha:PT X a tA):PW X (.BoolOp .Or [a] pos) tA:=by
 intro wh pins s σ H Q I h;refine isTrue_or (thn (ha pins s σ H Q I h) λc s1 e=>?_);cases c with
 |false=>exact isTrue_or_nil e
 |true=>exact e
theorem pw_and(ha:PT X a tA)(hb:PW X (.BoolOp .And (b::rest) pos) tB'):PW X (.BoolOp .And (a::b::rest) pos) (xB tA tB'):=by
 intro wh pins s σ H Q I h;refine isTrue_and (thn (ha pins s σ H _ I h) λc s1 hpt=>?_);obtain⟨H1,I1,q1⟩:=hpt;cases c with
 |true=>exact hb wh pins s1 σ H1 Q I1 q1
 |false=>exact⟨H1,I1,q1⟩
theorem pw_or(ha:PT X a tA)(hb:PW X (.BoolOp .Or (b::rest) pos) tB'):PW X (.BoolOp .Or (a::b::rest) pos) (tOr tA tB'):=by
 intro wh pins s σ H Q I h;refine isTrue_or (thn (ha pins s σ H _ I h) λc s1 hpt=>?_);obtain⟨H1,I1,q1⟩:=hpt;cases c with
 |true=>exact⟨H1,I1,q1⟩
 |false=>exact hb wh pins s1 σ H1 Q I1 q1
def ww(ta tb:TE):TE:=λσ H Q=>ta σ H λx H1=>∃c,x=.bl c∧if c=true then tb σ H1 Q else Q (.bl false) H1
theorem uL{op}{t:TE}(h:PE X a t):PE X (.BoolOp op [a] pos) t:=λpins s σ H Q I hw=>BoolOp_one (h pins s σ H Q I hw)
theorem uM(ha:PE X a ta)(hb:PE X (.BoolOp .And (b::rest) pos) tb):PE X (.BoolOp .And (a::b::rest) pos) (ww ta tb):=by
 intro pins s σ H Q I h;refine BoolOp_and (thn (ha pins s σ H _ I h) λv s1 hpt=>?_);obtain⟨x,H1,I1,r1,q1⟩:=hpt;obtain⟨c,rfl,q1⟩:=q1;cases r1;refine wpAny_truthy_bool ?_;cases c with
 |true=>exact hb pins s1 σ H1 Q I1 q1
 |false=>exact⟨.bl false,H1,I1,rfl,q1⟩
def tIf(t:TT)(ta tb:TE):TE:=λσ H Q=>t σ H λc H1=>if c=true then ta σ H1 Q else tb σ H1 Q
theorem qf{c:Expr}(hc:PT X c tA)(ha:PE X a ta)(hb:PE X b tb):PE X (.IfExp c a b pos) (tIf tA ta tb):=by
 intro pins s σ H Q I h;refine wpAny_IfExp (thn (hc pins s σ H _ I h) λd s1 hpt=>?_);obtain⟨H1,I1,q1⟩:=hpt;cases d with
 |true=>exact ha pins s1 σ H1 Q I1 q1
 |false=>exact hb pins s1 σ H1 Q I1 q1
end
def SqL(K:PySem.W.Frag)(H:Hp)(a:Addr)(xs:List V):Prop :=
 Rd H a (.lst xs) ∨
  ∃(o:Obj) (its:Array Value) (n:Nat),K.lookup a=some o∧o.cls=.type "list"∧o.dict=none∧o.data=.seq its n∧its.size≤sizeLine∧ap xs its.toList
def SqT(K:PySem.W.Frag)(H:Hp)(a:Addr)(xs:List V):Prop :=
 Rd H a (.tup xs) ∨
  ∃(o:Obj) (its:Array Value) (n:Nat),K.lookup a=some o∧o.cls=.type "tuple"∧o.data=.seq its n∧its.size≤sizeLine∧ap xs its.toList
def xC:Value→Option V
 |.none=>some .non
 |.bool b=>some (.bl b)
 |.int i _=>some (.int i)
 |.str x _=>some (.str x)
 |.bytes b _=>some (.byt b)
 |.float b _=>some (.flt b)
 |.ref a=>some (.ref a)
 |.type n=>some (.ty n)
 |_=>none
theorem ax.abs{x:V}{u:Value}(r:ax x u):xC u=some x:=by
 cases x with
 |non=>cases r;rfl
 |bl _=>cases r;rfl
 |int _=>obtain⟨t,rfl⟩:=r;rfl
 |str _=>obtain⟨t,rfl⟩:=r;rfl
 |byt _=>obtain⟨t,rfl⟩:=r;rfl
 |flt _=>obtain⟨t,rfl⟩:=r;rfl
 |ref _=>cases r;rfl
 |ty _=>cases r;rfl
theorem ax.inj{x y:V}{u:Value}(r:ax x u)(q:ax y u):x=y:=Option.some.inj (r.abs.symm.trans q.abs)
theorem ap.inj:∀{xs ys:List V}{us:List Value},ap xs us→ap ys us→xs=ys
 |_,_,_,.nil,.nil=>rfl
 |_,_,_,.cons r t,.cons r' t'=>by rw[r.inj r',ap.inj t t']
section
variable{X:Cx}{pins:List (Addr×Obj)}{σ:St}{H:Hp}{s:Shared}{a:Addr}{xs ys:List V}
theorem SqL.of{K:PySem.W.Frag}(h:H a=some (.lst xs)):SqL K H a xs:=.inl (.inl h)
theorem SqT.of{K:PySem.W.Frag}(h:H a=some (.tup xs)):SqT K H a xs:=.inl (.inl h)
theorem Inv.list(I:Inv X pins σ H s)(h:SqL X.K H a xs):∃its:List Value,ap xs its∧PlainL s.heap a its.toArray∧xs.length≤sizeLine:=by
 rcases h with h|⟨o,its,n,hk,hc,hd,hs,hz,r⟩
 ·obtain⟨z,its,n,r,e⟩:=h.ok I.hok;exact⟨its,r,⟨_,n,e,rfl,rfl,rfl⟩,z⟩
 ·refine⟨its.toList,r,⟨o,n,I.kIn a o hk,hc,hd,by simpa using hs⟩,?_⟩
  have e:=r.length;simp only[length_toList]at e;omega
theorem Inv.tuple(I:Inv X pins σ H s)(h:SqT X.K H a xs):∃its:List Value,ap xs its∧IsTup s.heap a its.toArray∧xs.length≤sizeLine:=by
 rcases h with h|⟨o,its,n,hk,hc,hs,hz,r⟩
 ·obtain⟨z,its,r,p⟩:=h.ok I.hok;exact⟨its,r,p,z⟩
 ·refine⟨its.toList,r,⟨o,I.kIn a o hk,hc,n,by simpa using hs⟩,?_⟩
  have e:=r.length;simp only[length_toList]at e;omega
theorem Inv.list_inj(I:Inv X pins σ H s)(h:SqL X.K H a xs)(h':SqL X.K H a ys):xs=ys:=by
 obtain⟨its,r,⟨o,n,e,_,_,d⟩,_⟩:=I.list h;obtain⟨its',r',⟨o',n',e',_,_,d'⟩,_⟩:=I.list h';rw[e]at e';cases e';rw[d]at d';injection d' with d1 _
 have:its=its':=by simpa using congrArg toList d1
 subst this;exact r.inj r'
theorem Inv.tuple_inj(I:Inv X pins σ H s)(h:SqT X.K H a xs)(h':SqT X.K H a ys):xs=ys:=by
 obtain⟨its,r,⟨o,e,_,n,d⟩,_⟩:=I.tuple h;obtain⟨its',r',⟨o',e',_,n',d'⟩,_⟩:=I.tuple h';rw[e]at e';cases e';rw[d]at d';injection d' with d1 _
 have:its=its':=by simpa using congrArg toList d1
 subst this;exact r.inj r'
end
abbrev Cx.wish(X:Cx)(E:Value→Shared→Prop):Cx:={X with xe:=E}
abbrev Cx.nox(X:Cx):Cx:=X.wish λ_ _=>False
theorem Cx.Ok.wish{X:Cx}(ok:X.Ok)(E:Value→Shared→Prop):(X.wish E).Ok :=
 ⟨ok.mod,ok.kind,ok.glob,ok.blt,ok.above,ok.inj,ok.has,ok.cab,ok.hd,ok.frames,ok.stk,ok.exf,ok.bs,ok.bsz,ok.noex,ok.exfs,ok.funs,ok.frf⟩
theorem Cx.Ok.unwish{X:Cx}{E:Value→Shared→Prop}(ok:(X.wish E).Ok):X.Ok :=
 ⟨ok.mod,ok.kind,ok.glob,ok.blt,ok.above,ok.inj,ok.has,ok.cab,ok.hd,ok.frames,ok.stk,ok.exf,ok.bs,ok.bsz,ok.noex,ok.exfs,ok.funs,ok.frf⟩
section
variable{X:Cx}{pins:List (Addr×Obj)}{σ:St}{H:Hp}{s:Shared}{E:Value→Shared→Prop}
theorem Inv.wish(I:Inv X pins σ H s)(E:Value→Shared→Prop):Inv (X.wish E) pins σ H s:=⟨I.ok.wish E,I.os,I.bare,I.base,I.loc,I.cell,I.free,I.freeC,I.pin,I.hok,I.len⟩
theorem Inv.unwish(I:Inv (X.wish E) pins σ H s):Inv X pins σ H s:=⟨I.ok.unwish,I.os,I.bare,I.base,I.loc,I.cell,I.free,I.freeC,I.pin,I.hok,I.len⟩
theorem SP.unwish{D:Ends}{f:Flow}{s':Shared}(h:SP (X.wish E) pins D f s'):SP X pins D f s':=by
 cases f with
 |next=>obtain⟨σ',H',I,q⟩:=h;exact⟨σ',H',I.unwish,q⟩
 |brk=>obtain⟨σ',H',I,q⟩:=h;exact⟨σ',H',I.unwish,q⟩
 |cont=>obtain⟨σ',H',I,q⟩:=h;exact⟨σ',H',I.unwish,q⟩
 |ret u=>obtain⟨v,σ',H',I,r,q⟩:=h;exact⟨v,σ',H',I.unwish,r,q⟩
theorem PSs.nox{st:List Stmt}{t:TS}(h:PSs X.nox st t):PSs X st t:=λpins s σ H D I hw =>
 wpAny_mono (h pins s σ H D (I.wish _) hw) (λ_ _ q=>q.unwish) λ_ _ z=>False.elim z
end
section
variable{X:Cx}{st:Stmt}{rest:List Stmt}{t u:TS}{e:Expr}{te:TE}{pos:Pos}
def wx:TS:=λD σ H=>D.nx σ H
def qg(t u:TS):TS:=λD σ H=>t {D with nx:=u D} σ H
theorem aD:PSs X [] wx:=λ_ _ σ H _ I h=>wpAny_execs_nil ⟨σ,H,I,h⟩
theorem af(h1:PS X st t)(h2:PSs X rest u):PSs X (st::rest) (qg t u):=by
 intro pins s σ H D I h;refine wpAny_execs_cons (thn (h1 pins s σ H {D with nx:=u D} I h) λf s1 q=>?_);cases f with
 |next =>
  obtain⟨σ',H',I',q⟩:=q;exact h2 pins s1 σ' H' D I' q
 |ret v=>exact q
 |brk=>exact q
 |cont=>exact q
theorem aj(h1:PS X st t):PSs X [st] t:=by
 intro pins s σ H D I h;refine wpAny_execs_cons (thn (h1 pins s σ H D I h) λf s1 q=>?_);cases f with
 |next=>exact wpAny_execs_nil q
 |ret v=>exact q
 |brk=>exact q
 |cont=>exact q
theorem Inv.quiet{pins:List (Addr×Obj)}{σ:St}{H:Hp}{s:Shared}(I:Inv X pins σ H s):interactive X.env=false:=by simp[interactive,I.ok.kind]
def ut(te:TE):TS:=λD σ H=>te σ H λ_ H1=>D.nx σ H1
theorem aT(he:PE X e te)(hs:swapsWith e none pos.line X.env=pure false:=by rfl):PS X (.Expr e pos) (ut te):=by
 intro pins s σ H D I h;exact wpAny_Expr_any (thn (he pins s σ H _ I h) λv s1 ⟨x,H1,I1,r1,q1⟩=>⟨σ,H1,I1,q1⟩) I.quiet hs
def uN(te:TE):TS:=λD σ H=>te σ H D.rt
theorem av(he:PE X e te):PS X (.Return (some e) pos) (uN te):=by
 intro pins s σ H D I h;exact wpAny_Return_some (thn (he pins s σ H _ I h) λv s1 ⟨x,H1,I1,r1,q1⟩=>⟨x,σ,H1,I1,r1,q1⟩)
def xD(c:TT)(t u:TS):TS:=λD σ H=>c σ H λb H1=>if b=true then t D σ H1 else u D σ H1
theorem aZ{c:Expr}{a b:List Stmt}{tc:TT}(hc:PT X c tc)(ha:PSs X a t)(hb:PSs X b u):PS X (.If c a b pos) (xD tc t u):=by
 intro pins s σ H D I h;refine wpAny_If (thn (hc pins s σ H _ I h) λd s1 hpt=>?_);obtain⟨H1,I1,q1⟩:=hpt;cases d with
 |true=>exact ha pins s1 σ H1 D I1 q1
 |false=>exact hb pins s1 σ H1 D I1 q1
def qh:TS:=λ_ _ _=>False
theorem la:PS X st qh:=λ_ _ _ _ _ _ h=>h.elim
theorem cV{sts:List Stmt}:PSs X sts qh:=λ_ _ _ _ _ _ h=>h.elim
end
abbrev TG:=V→St→Hp→(St→Hp→Prop)→Prop
abbrev TGs:=List V→St→Hp→(St→Hp→Prop)→Prop
def PG(X:Cx)(target:Expr)(t:TG):Prop :=
 ∀(pins:List (Addr×Obj))(s:Shared)(σ:St)(H:Hp)(v:V)(u:Value)(Q:St→Hp→Prop),Inv X pins σ H s→ax v u→t v σ H Q →
  wpAny (model X.prog X.w) X.A (assign target X.env u) (λ_ s'=>∃σ' H',Inv X pins σ' H' s'∧Q σ' H') X.xe s
def PGs(X:Cx)(ts:List Expr)(t:TGs):Prop :=
 ∀(pins:List (Addr×Obj))(s:Shared)(σ:St)(H:Hp)(vs:List V)(us:List Value)(Q:St→Hp→Prop),Inv X pins σ H s→ap vs us→t vs σ H Q →
  wpAny (model X.prog X.w) X.A (assignInOrder ((assignEach ts X.env).map (·.2)) us) (λ_ s'=>∃σ' H',Inv X pins σ' H' s'∧Q σ' H') X.xe s
abbrev uO:=V→V→V→Hp→(Hp→Prop)→Prop
def wy(X:Cx)(t:uO):Prop :=
 ∀(pins:List (Addr×Obj))(s:Shared)(σ:St)(H:Hp)(o i v:V)(ov iv u:Value)(Q:Hp→Prop),Inv X pins σ H s→ax o ov→ax i iv→ax v u→t o i v H Q →
  wpAny (model X.prog X.w) X.A (setItem ov iv u) (λ_ s'=>∃H',Inv X pins σ H' s'∧Q H') X.xe s
section
variable{X:Cx}{pos:Pos}
def ca(i:Nat):TG:=λv σ H Q=>Q (σ.set i (some v)) H
theorem aE{i:Nat}{x:Str}(hN:X.N.Nodup)(hi:X.N[i]?=some x)(hx:Loc X.env.scope x)(hf:X.fn x=true∨X.env.scope.names.lookup x=some .local:=by first|exact .inl rfl|exact .inr rfl|assumption):PG X (.Name x pos) (ca i):=by
 intro pins s σ H v u Q I r h;exact wpAny_assign_Name (eV I hN hi hx r (λs' I'=>⟨_,H,I',h⟩) hf)
def xE:TGs:=λvs σ H Q=>vs=[]∧Q σ H
def wz(t:TG)(u:TGs):TGs:=λvs σ H Q=>∃v r,vs=v::r∧t v σ H λσ' H'=>u r σ' H' Q
theorem sG:PGs X [] xE:=by
 intro pins s σ H vs us Q I r h;obtain⟨e,h⟩:=h;subst e;cases r;exact assignInOrder_nil ⟨σ,H,I,h⟩
theorem lc{e:Expr}{es:List Expr}{t:TG}{u:TGs}(h1:PG X e t)(h2:PGs X es u)(hs:(assignEach (e::es) X.env).map (·.2)=assign e X.env::(assignEach es X.env).map (·.2):=by rfl):PGs X (e::es) (wz t u):=by
 intro pins s σ H vs us Q I r h;obtain⟨v,vr,e1,h⟩:=h;subst e1;cases r with
 |cons r rr =>
  rw[hs];refine assignInOrder_cons (thn (h1 pins s σ H _ _ _ I r h) λ_ s1 hpt=>?_);obtain⟨σ1,H1,I1,q1⟩:=hpt;exact h2 pins s1 σ1 H1 _ _ Q I1 rr q1
def xF(K:PySem.W.Frag)(n:Nat)(t:TGs):TG:=λv σ H Q=>∃a xs,v=.ref a∧SqT K H a xs∧xs.length=n∧t xs σ H Q
theorem uP{es:List Expr}{k:Nat}{t:TGs}{n:Nat}(hc:X.calm=true)(h:PGs X es t)(hn:(assignEach es X.env).length=n:=by rfl)(hst:(assignEach es X.env).findIdx? (·.1)=none:=by rfl):PG X (.Tuple es k pos) (xF X.K n t):=by
 intro pins s σ H v u Q I r hw;obtain⟨a,xs,e1,hq,hl,hw⟩:=hw;subst e1;cases r;obtain⟨its,rv,ht,hz⟩:=I.tuple hq;refine assign_Tuple_tuple (I.ok.hd hc) ht (by simp[hn,←hl,rv.length]) hst λh' hx=>?_;have I1:Inv X pins σ H {s with heap:=h'}:=I.kept (t':=s.toks) λb o e=>hx b o (ne_of_lt (lt_size e)) e
 exact h pins _ σ H xs _ Q I1 (by simpa using rv) hw
def xG(to ti:TE)(t:uO):TG:=λv σ H Q=>to σ H λo H1=>ti σ H1 λi H2=>t o i v H2 λH3=>Q σ H3
theorem uQ{o i:Expr}{to ti:TE}{t:uO}(ho:PE X o to)(hi:PE X i ti)(hs:wy X t)(ha:∀v,assign (.Subscript o i pos) X.env v=(do
   let ov ← holding [v] (eval o X.env)
   let iv ← holding [v,ov] (eval i X.env)
   standAt pos
   holding [v,ov,iv] (setItem ov iv v)
   release [v,ov,iv] []):=by intro _;rfl):PG X (.Subscript o i pos) (xG to ti t):=by
 intro pins s σ H v u Q I r h;rw[ha];refine wpAny_bind (wpAny_holding (thn (ho pins s σ H _ I h) λov s1 hpt=>?_));obtain⟨x,H1,I1,r1,q1⟩:=hpt;refine wpAny_bind (wpAny_holding (thn (hi pins s1 σ H1 _ I1 q1) λiv s2 hpt=>?_));obtain⟨y,H2,I2,r2,q2⟩:=hpt;refine wpAny_bind (wpAny_standAt (wpAny_bind (wpAny_holding (thn (hs pins s2 σ H2 x y v ov iv u _ I2 r1 r2 r q2) λ_ s3 hpt=>?_))));obtain⟨H3,I3,q3⟩:=hpt;exact wpAny_release ⟨σ,H3,I3,q3⟩
def wA(te:TE)(g:TG):TS:=λD σ H=>te σ H λx H1=>g x σ H1 D.nx
theorem qi{tg e:Expr}{te:TE}{g:TG}(he:PE X e te)(hg:PG X tg g)(hs:swapsWithSole [tg] e pos.line X.env=pure false:=by rfl)(hw:swappedStores [tg] e X.env=pure none:=by rfl)(h1:(assignEach [tg] X.env).map (·.2)=[assign tg X.env]:=by rfl):PS X (.Assign [tg] e pos) (wA te g):=by
 intro pins s σ H D I h;refine wpAny_Assign_stores (thn (he pins s σ H _ I h) λv s1 ⟨x,H1,I1,r1,q1⟩=>?_) hs hw;rw[h1];exact thn (hg pins s1 σ H1 x v _ I1 r1 q1) λ_ s2 q=>q
theorem ao{i:Nat}{x:Str}{e:Expr}{te:TE}{pos':Pos}(hN:X.N.Nodup)(hi:X.N[i]?=some x)(hx:Loc X.env.scope x)(he:PE X e te)(hs:swapsWith e (some (.Name x pos')) pos.line X.env=pure false:=by rfl)(hf:X.fn x=true∨X.env.scope.names.lookup x=some .local:=by first|exact .inl rfl|exact .inr rfl|assumption):
  PS X (.Assign [.Name x pos'] e pos) (wA te (ca i)):=by
 intro pins s σ H D I h;refine wpAny_Assign_Name (thn (he pins s σ H _ I h) λv s1 ⟨y,H1,I1,r1,q1⟩=>?_) hs;exact eV I1 hN hi hx r1 (λs2 I2=>⟨_,H1,I2,q1⟩) hf
def qj(c:TT)(tb:TS):TS:=λD σ H=>∃W:Nat→St→Hp→Prop,(∃m,W m σ H)∧∀m σ H,W m σ H →
 c σ H λb H1=>if b=true then ∃N:St→Hp→Prop,(∀σ' H',N σ' H'→∃m',m'<m∧W m' σ' H')∧tb {D with nx:=N,ct:=N,bk:=D.nx} σ H1 else D.nx σ H1
theorem lf{c:Expr}{body:List Stmt}{tc:TT}{tb:TS}(hp:PassesOwn (model X.prog X.w) X.A X.env X.xe)(hc:PT X c tc)(hb:PSs X body tb):PS X (.While c body [] pos) (qj tc tb):=by
 intro pins s σ H D I h;obtain⟨W,⟨m0,w0⟩,turn⟩:=h;refine wpAny_While (codeAny_whileLoop (λn s'=>∃σ' H',Inv X pins σ' H' s'∧W n σ' H') ?_ m0 ⟨σ,H,I,w0⟩);rintro n s1 ⟨σ1,H1,I1,w1⟩;refine wpAny_passesOwn hp (thn (hc pins s1 σ1 H1 _ I1 (turn n σ1 H1 w1)) λb s2 hpt=>?_);obtain⟨H2,I2,q2⟩:=hpt;cases b with
 |true =>
  obtain⟨N,hN,q2⟩:=q2;rw[if_pos rfl];refine wpAny_passesOwn hp (thn (hb pins s2 σ1 H2 _ I2 q2) λf s3 q3=>?_);cases f with
  |next =>
   obtain⟨σ3,H3,I3,n3⟩:=q3;obtain⟨m',hm,w3⟩:=hN σ3 H3 n3;exact⟨m',hm,σ3,H3,I3,w3⟩
  |cont =>
   obtain⟨σ3,H3,I3,n3⟩:=q3;obtain⟨m',hm,w3⟩:=hN σ3 H3 n3;exact⟨m',hm,σ3,H3,I3,w3⟩
  |brk=>exact q3
  |ret v=>exact q3
 |false =>
  rw[if_neg Bool.false_ne_true];exact wpAny_execs_nil ⟨σ1,H2,I2,q2⟩
end
structure It where
 go:Nat→Hp→Prop
 yld:Nat→Hp→V→Hp→Prop
 stop:Nat→Hp→Prop
def fZ(X:Cx)(pins:List (Addr×Obj))(H:Hp)(b:Addr):Prop :=
 H b=none∧b≠X.env.locals∧b∉X.fs∧(b∈X.ex∨X.s₀.heap.objs.size≤b)∧(∀x c,X.env.cells.lookup x=some c→c≠b)∧∀p∈X.pn++pins,p.1≠b
theorem Inv.fpOk{X:Cx}{pins:List (Addr×Obj)}{σ:St}{H H':Hp}{s:Shared}{b:Addr}(I:Inv X pins σ H s)(hb:s.heap.objs.size≤b)(hn:H' b=none):fZ X pins H' b:=by
 refine⟨hn,ne_of_gt (lt_of_lt_of_le I.lt hb),I.nofs hb,.inr (le_trans I.sz hb),λx c e z=>?_,λp hp z=>?_⟩
 ·obtain⟨v,q⟩:=I.cell x c e;exact absurd (lt_of_lt_of_le q.lt (by rw[z];exact hb)) (lt_irrefl _)
 ·exact absurd (lt_of_lt_of_le (lt_size (I.pin p hp).1) (by rw[z];exact hb)) (lt_irrefl _)
structure Turn(P:Program)(w:World)(K:PySem.W.Frag)(tg:Expr)(J:It)(fp:List Addr)(it:Addr)(tn:Nat→Heap→Prop):Prop where
 mem:it∈fp
 obj:∀i h,tn i h→∀b∈fp,∃o,h.get? b=some o∧∀v,o.data≠.cell v
 keep:∀i h h',tn i h→(∀b∈fp,∀o,h.get? b=some o→h'.get? b=some o)→tn i h'
 item:∀(X:Cx),X.prog=P→X.w=w→X.K=K→X.calm=true→∀(i:Nat)(pins:List (Addr×Obj))(s:Shared)(σ:St)(H:Hp)(E:Value→Shared→Prop),Inv X pins σ H s→(∀b∈fp,fZ X pins H b)→tn i s.heap→J.go i H →
  wpAny (model P w) X.A (pyNext (.ref it)) (λr s1=>∃u,r=some u ∧
   wpAny (model P w) X.A (letOwnedTupleGo tg (.ref it) u) (λ_ s2=>∃x H',Inv X pins σ H' s2∧ax x u∧J.yld i H x H'∧tn (i+1) s2.heap∧∀b∈fp,H' b=none) E s1) E s
 done:∀(X:Cx),X.prog=P→X.w=w→X.K=K→X.calm=true→∀(i:Nat)(pins:List (Addr×Obj))(s:Shared)(σ:St)(H:Hp)(E:Value→Shared→Prop),Inv X pins σ H s→(∀b∈fp,fZ X pins H b)→tn i s.heap→J.stop i H →
  wpAny (model P w) X.A (pyNext (.ref it)) (λr s1=>r=none∧Inv X pins σ H s1) E s
 self:∀(A:Around)(i:Nat)(s:Shared)(Q:Value→Shared→Prop)(E:Value→Shared→Prop),tn i s.heap→Q (.ref it) s→wpAny (model P w) A (pyIter (.ref it)) Q E s
abbrev TI:=St→Hp→(It→Hp→Prop)→Prop
def PIE(X:Cx)(pins:List (Addr×Obj))(σ:St)(tg:Expr)(R:It→Hp→Prop)(itv:Value)(s2:Shared):Prop :=
 ∃(it:Addr) (fp:List Addr) (tn:Nat→Heap→Prop) (J:It) (H':Hp),itv=.ref it∧Inv X pins σ H' s2∧Turn X.prog X.w X.K tg J fp it tn∧tn 0 s2.heap∧(∀b∈fp,fZ X pins H' b)∧R J H'
def PI(X:Cx)(tg iter:Expr)(wi:TI):Prop :=
 ∀(pins:List (Addr×Obj))(s:Shared)(σ:St)(H:Hp)(R:It→Hp→Prop),Inv X pins σ H s→wi σ H R →
  wpAny (model X.prog X.w) X.A (eval iter X.env) (λv s1=>wpAny (model X.prog X.w) X.A (pyIter v) (PIE X pins σ tg R) X.xe s1) X.xe s
theorem nY{M:Model}{A:Around}{E:Value→Shared→Prop}{s:Shared}{tg:Expr}{it:Addr}{u:Value}{o:Obj}{n:String}{vs:Array Value}{Q:Unit→Shared→Prop}(ho:s.heap.get? it=some o)(hc:o.cls=.type n)(hd:o.data=.fields vs)(hn:["enumerate","zip","dict_itemiterator","dict_reverseitemiterator","odict_iterator","itertools.zip_longest","itertools.pairwise"].contains n=false)(hQ:Q () s):wpAny M A (letOwnedTupleGo tg (.ref it) u) Q E s:=by
 unfold letOwnedTupleGo;cases tg<;>first
  |exact wpAny_pure hQ
  | (cases u<;>first
    |exact wpAny_pure hQ
    | (refine wpAny_bind (wpAny_load ho ?_)
       rw[hc,hd];show wpAny M A (if (["enumerate","zip","dict_itemiterator","dict_reverseitemiterator","odict_iterator","itertools.zip_longest","itertools.pairwise"].contains n&&vs[0]?==some (rawInt _))=true then _ else _) Q E s
       rw[if_neg (by intro h;rw[hn,Bool.false_and]at h;cases h)];exact wpAny_pure hQ))
def Itl(K:PySem.W.Frag)(a:Addr):It :=
 ⟨λi H=>∃xs x,SqL K H a xs∧xs[i]?=some x,λi H x H'=>H'=H∧∀xs,SqL K H a xs→xs[i]?=some x,λi H=>∃xs,SqL K H a xs∧xs.length≤i⟩
def Itt(K:PySem.W.Frag)(a:Addr):It :=
 ⟨λi H=>∃xs x,SqT K H a xs∧xs[i]?=some x,λi H x H'=>H'=H∧∀xs,SqT K H a xs→xs[i]?=some x,λi H=>∃xs,SqT K H a xs∧xs.length≤i⟩
def Itr(lo:Int)(n:Nat):It:=⟨λi _=>i<n,λi H x H'=>H'=H∧x=.int (lo+i),λi _=>n≤i⟩
theorem pA{P:Program}{w:World}{K:PySem.W.Frag}{tg:Expr}(a it:Addr):Turn P w K tg (Itl K a) [it] it (λi h=>h.IsListIter it a i) where
 mem:=by simp
 obj:=λi h st b hb=>by
  have e:b=it:=by simpa using hb
  subst e;obtain⟨o,e,c,d⟩:=st;exact⟨o,e,λv z=>by rw[d]at z;cases z⟩
 keep:=λi h h' st k=>st.at λo e=>k it (by simp) o e
 item:=by
  intro X hP hw hK hc i pins s σ H E I hf st hg;subst hP hw hK;obtain⟨xs,x,hq,hx⟩:=hg;obtain⟨its,rv,p,hz⟩:=I.list hq;obtain⟨u,hu,ru⟩:=rv.get hx;obtain⟨f0,f1,f2,f3,f4,f5⟩:=hf it (by simp);refine wpAny_pyNext_list_item st p.isList (x:=u) (by simpa using hu) λh' st' sb=>?_;have I1:Inv X pins σ H {s with heap:=h'}:=I.turned (t':=s.toks) (λb o hb e=>(sb.2 b hb).trans e) f0 f1 f3 f4 f5
  obtain⟨o,e,c,d⟩:=id st';exact⟨u,rfl,nY (s:={s with heap:=h'}) e c d (by decide) ⟨x,H,I1,ru,⟨rfl,λys hy=>by rw[I.list_inj hy hq];exact hx⟩,st',λb hb=>(hf b hb).1⟩⟩
 done:=by
  intro X hP hw hK hc i pins s σ H E I hf st hg;subst hP hw hK;obtain⟨xs,hq,hx⟩:=hg;obtain⟨its,rv,p,hz⟩:=I.list hq;obtain⟨f0,f1,f2,f3,f4,f5⟩:=hf it (by simp);have hl:=rv.length;exact wpAny_pyNext_list_end (I.ok.hd hc) st p.isList (by simp;omega) λh' eb=>⟨rfl,I.turned (t':=s.toks) (λb o hb e=>eb b o hb e) f0 f1 f3 f4 f5⟩
 self:=λ_ _ _ _ _ st h=>wpAny_pyIter_listiter st h
theorem my{P:Program}{w:World}{K:PySem.W.Frag}{tg:Expr}(a it:Addr):Turn P w K tg (Itt K a) [it] it (λi h=>h.IsTupleIter it a i) where
 mem:=by simp
 obj:=λi h st b hb=>by
  have e:b=it:=by simpa using hb
  subst e;obtain⟨o,e,c,d⟩:=st;exact⟨o,e,λv z=>by rw[d]at z;cases z⟩
 keep:=λi h h' st k=>st.at λo e=>k it (by simp) o e
 item:=by
  intro X hP hw hK hc i pins s σ H E I hf st hg;subst hP hw hK;obtain⟨xs,x,hq,hx⟩:=hg;obtain⟨its,rv,p,hz⟩:=I.tuple hq;obtain⟨u,hu,ru⟩:=rv.get hx;obtain⟨f0,f1,f2,f3,f4,f5⟩:=hf it (by simp);refine wpAny_pyNext_tuple_item st (show s.heap.IsTuple a its.toArray from p) (x:=u) (by simpa using hu) λh' st' sb=>?_;have I1:Inv X pins σ H {s with heap:=h'}:=I.turned (t':=s.toks) (λb o hb e=>(sb.2 b hb).trans e) f0 f1 f3 f4 f5
  obtain⟨o,e,c,d⟩:=id st';exact⟨u,rfl,nY (s:={s with heap:=h'}) e c d (by decide) ⟨x,H,I1,ru,⟨rfl,λys hy=>by rw[I.tuple_inj hy hq];exact hx⟩,st',λb hb=>(hf b hb).1⟩⟩
 done:=by
  intro X hP hw hK hc i pins s σ H E I hf st hg;subst hP hw hK;obtain⟨xs,hq,hx⟩:=hg;obtain⟨its,rv,p,hz⟩:=I.tuple hq;obtain⟨f0,f1,f2,f3,f4,f5⟩:=hf it (by simp);have hl:=rv.length;exact wpAny_pyNext_tuple_end (I.ok.hd hc) st (show s.heap.IsTuple a its.toArray from p) (by simp;omega) λh' eb=>⟨rfl,I.turned (t':=s.toks) (λb o hb e=>eb b o hb e) f0 f1 f3 f4 f5⟩
 self:=λ_ _ _ _ _ st h=>wpAny_pyIter_tupleiter st h
theorem mG{P:Program}{w:World}{K:PySem.W.Frag}{tg:Expr}(it:Addr)(lo:Int)(n:Nat):Turn P w K tg (Itr lo n) [it] it (λi h=>IsRangeIter h it (lo+(i:Nat)*1) ((n:Int)-(i:Nat)) 1) where
 mem:=by simp
 obj:=λi h st b hb=>by
  have e:b=it:=by simpa using hb
  subst e;exact⟨_,st,λv z=>by
   have z':Data.fields _=Data.cell v:=z;cases z'⟩
 keep:=λi h h' st k=>k it (by simp) _ st
 item:=by
  intro X hP hw hK hc i pins s σ H E I hf st hg;subst hP hw hK;obtain⟨f0,f1,f2,f3,f4,f5⟩:=hf it (by simp);have W:=Walks.range (prog:=X.prog) (w:=X.w) (I.ok.hd hc) it lo 1 n;refine W.item i s _ _ hg st λv h' tk hv st' kk=>?_;obtain⟨t,rfl⟩:=hv;have I1:Inv X pins σ H {s with heap:=h',toks:=tk}:=I.turned (λb o hb e=>kk b o (by simpa using hb) e) f0 f1 f3 f4 f5
  refine⟨_,rfl,nY (s:={s with heap:=h',toks:=tk}) (n:="range_iterator") st' rfl rfl (by decide) ⟨.int (lo+i),H,I1,⟨t,?_⟩,⟨rfl,rfl⟩,st',λb hb=>(hf b hb).1⟩⟩;rw[Int.mul_one]
 done:=by
  intro X hP hw hK hc i pins s σ H E I hf st hg;subst hP hw hK;obtain⟨f0,f1,f2,f3,f4,f5⟩:=hf it (by simp);exact wpAny_pyNext_range_end (I.ok.hd hc) st (by have:n≤i:=hg;omega) λh' eb=>⟨rfl,I.turned (t':=s.toks) (λb o hb e=>eb b o hb e) f0 f1 f3 f4 f5⟩
 self:=λ_ _ _ _ _ st h=>wpAny_pyIter_rangeiter st h
section
variable{X:Cx}{tg:Expr}
def wB(K:PySem.W.Frag)(tl:TE):TI:=λσ H R=>tl σ H λx H1=>∃a,x=.ref a∧(∃xs,SqL K H1 a xs)∧R (Itl K a) H1
def xH(K:PySem.W.Frag)(tl:TE):TI:=λσ H R=>tl σ H λx H1=>∃a,x=.ref a∧(∃xs,SqT K H1 a xs)∧R (Itt K a) H1
theorem cm{l:Expr}{tl:TE}(hl:PE X l tl):PI X tg l (wB X.K tl):=by
 intro pins s σ H R I h;refine thn (hl pins s σ H _ I h) λv s1 hpt=>?_;obtain⟨x,H1,I1,r1,q1⟩:=hpt;obtain⟨a,e,⟨xs,hq⟩,q⟩:=q1;subst e;cases r1;obtain⟨its,rv,p,hz⟩:=I1.list hq;refine wpAny_pyIter_list p.isList ?_;refine⟨s1.heap.objs.size,[s1.heap.objs.size],_,_,H1,rfl,I1.kept (t':=s1.toks) λb o e=>get?_push_of_some _ e,pA a _,⟨_,get?_push_size _ rfl,rfl,rfl⟩,λb hb=>?_,q⟩;have e:b=s1.heap.objs.size:=by simpa using hb
 subst e;exact I1.fpOk (le_refl _) (I1.hok.fresh (le_refl _))
theorem cF{l:Expr}{tl:TE}(hl:PE X l tl):PI X tg l (xH X.K tl):=by
 intro pins s σ H R I h;refine thn (hl pins s σ H _ I h) λv s1 hpt=>?_;obtain⟨x,H1,I1,r1,q1⟩:=hpt;obtain⟨a,e,⟨xs,hq⟩,q⟩:=q1;subst e;cases r1;obtain⟨its,rv,p,hz⟩:=I1.tuple hq;refine wpAny_pyIter_tuple (show s1.heap.IsTuple a its.toArray from p) ?_;refine⟨s1.heap.objs.size,[s1.heap.objs.size],_,_,H1,rfl,I1.kept (t':=s1.toks) λb o e=>get?_push_of_some _ e,my a _,⟨_,get?_push_size _ rfl,rfl,rfl⟩,λb hb=>?_,q⟩;have e:b=s1.heap.objs.size:=by simpa using hb
 subst e;exact I1.fpOk (le_refl _) (I1.hok.fresh (le_refl _))
theorem qk{pins:List (Addr×Obj)}{σ:St}{H:Hp}{s:Shared}{R:It→Hp→Prop}{E:Value→Shared→Prop}{lo hi:Int}{t u v:Tok}{tk:Nat}(I:Inv X pins σ H s)(h1:-(2 ^ 62)≤lo)(h2:lo<2 ^ 62)(h3:-(2 ^ 62)≤hi)(h4:hi<2 ^ 62)(q:R (Itr lo (hi-lo).toNat) H):wpAny (model X.prog X.w) X.A (pyIter (.ref s.heap.objs.size)) (PIE X pins σ tg R) E {s with heap:=s.heap.push {cls:=.type "range",data:=.fields #[.int lo t,.int hi u,.int 1 v]},toks:=tk}:=by
 refine wpAny_pyIter_range (IsRange.new ..) (small_one h1 h2 h3 h4) ?_;have I1:Inv X pins σ H {s with heap:=s.heap.push {cls:=.type "range",data:=.fields #[.int lo t,.int hi u,.int 1 v]},toks:=tk}:=I.kept λb o e=>get?_push_of_some _ e
 refine⟨(s.heap.push {cls:=.type "range",data:=.fields #[.int lo t,.int hi u,.int 1 v]}).objs.size,[(s.heap.push {cls:=.type "range",data:=.fields #[.int lo t,.int hi u,.int 1 v]}).objs.size],_,_,H,rfl,
  I1.kept (t':=tk) λb o e=>get?_push_of_some _ e,mG _ lo (hi-lo).toNat,?_,λb hb=>?_,q⟩
 ·have e1:lo+((0:Nat):Int)*1=lo:=by simp
  have e2:(((hi-lo).toNat:Nat):Int)-((0:Nat):Int)=Builtin.Range.rangeSize lo hi 1:=by rw[rangeSize_one];split<;>omega
  show IsRangeIter _ _ (lo+((0:Nat):Int)*1) ((((hi-lo).toNat:Nat):Int)-((0:Nat):Int)) 1;rw[e1,e2];exact get?_push_size _ rfl
 ·have e:b=(s.heap.push {cls:=.type "range",data:=.fields #[.int lo t,.int hi u,.int 1 v]}).objs.size:=by simpa using hb
  subst e;exact I1.fpOk (le_refl _) (I1.hok.fresh (le_refl _))
def wC(ta:TA):TI:=λσ H R=>ta σ H λvs H1=>∃j:Int,vs=[.int j]∧-(2 ^ 62)≤j∧j<2 ^ 62∧R (Itr 0 j.toNat) H1
theorem gf{a:Expr}{ta:TA}{p pos:Pos}(hg:Gl X "range")(hm:X.mg "range"=none)(ha:PA X [a] ta)(hs:starEach [a] X.env=[(false,eval a X.env)]:=by rfl):PI X tg (.Call (.Name "range" p) [a] [] pos) (wC ta):=by
 intro pins s σ H R I h;refine Call_ (mw I hg hm boot_range (PyProof.Rows.callWith_type1 (thn (ha pos pins s σ H _ I h) λus s1 ⟨vs,H1,I1,r1,q1⟩=>?_) hs rfl));obtain⟨j,e,q1,q2,q⟩:=q1;subst e;cases r1 with
 |cons r rr =>
  cases rr;obtain⟨t,rfl⟩:=r;exact call_range_1 (qk I1 (by omega) (by omega) q1 q2 (by simpa using q))
def xI(wi:TI)(g:TG)(tb:TS):TS:=λD σ H=>wi σ H λJ H1=>∃W:Nat→Nat→St→Hp→Prop,(∃m,W 0 m σ H1)∧∀i m σ H,W i m σ H →
 (J.stop i H∧D.nx σ H)∨(J.go i H∧∃N:St→Hp→Prop,(∀σ' H',N σ' H'→∃m',m'<m∧W (i+1) m' σ' H')∧∀x H',J.yld i H x H'→g x σ H' λσ2 H2=>tb {D with nx:=N,ct:=N,bk:=D.nx} σ2 H2)
def jQ(fp:List Addr)(h:Heap):List (Addr×Obj):=fp.filterMap λb=>(h.get? b).map λo=>(b,o)
theorem bo{fp:List Addr}{h:Heap}{b:Addr}{o:Obj}(hb:b∈fp)(e:h.get? b=some o):(b,o)∈jQ fp h:=mem_filterMap.mpr ⟨b,hb,by rw[e];rfl⟩
theorem pB{fp:List Addr}{h:Heap}{p:Addr×Obj}(hp:p∈jQ fp h):p.1∈fp∧h.get? p.1=some p.2:=by
 obtain⟨b,hb,e⟩:=mem_filterMap.mp hp;cases q:h.get? b with
 |none=>rw[q]at e;cases e
 |some o =>
  rw[q]at e;have e':(b,o)=p:=Option.some.inj e;subst e';exact⟨hb,q⟩
theorem Inv.pinned{pins:List (Addr×Obj)}{σ:St}{H:Hp}{s:Shared}{fp:List Addr}(I:Inv X pins σ H s)(hf:∀b∈fp,fZ X pins H b)(ho:∀b∈fp,∃o,s.heap.get? b=some o∧∀v,o.data≠.cell v):Inv X (pins++jQ fp s.heap) σ H s :=
 I.pins_of λp hp=>(mem_append.mp hp).elim (λz=>I.pin p (mem_append_right _ z)) λz=>by
  obtain⟨hb,e⟩:=pB z;obtain⟨f0,f1,f2,_⟩:=hf p.1 hb;obtain⟨o,e',d⟩:=ho p.1 hb;rw[e]at e';cases e';exact⟨e,f0,f1,f2,d⟩
theorem Inv.unpinned{pins pl:List (Addr×Obj)}{σ:St}{H:Hp}{s:Shared}(I:Inv X (pins++pl) σ H s):Inv X pins σ H s:=I.pins_of λp hp=>I.pin p (mem_append_right _ (List.mem_append_left _ hp))
theorem ce{iter:Expr}{body:List Stmt}{wi:TI}{g:TG}{tb:TS}{pos:Pos}(hp:PassesOwn (model X.prog X.w) X.A X.env X.xe)(hc:X.calm=true)(hi:PI X tg iter wi)(hg:PG X tg g)(hb:PSs X body tb)(hs:∀x,foldedSetIterable iter X.env x=pure x:=by intro _;rfl):PS X (.For tg iter body [] pos) (xI wi g tb):=by
 intro pins s σ H D I h;refine wpAny_For (thn (hi pins s σ H _ I h) λv s1 h1=>thn h1 λitv s2 h2=>?_) hs;obtain⟨it,fp,tn,J,H2,e,I2,T,st2,f2,W,⟨m0,w0⟩,turn⟩:=h2;subst e;have stat:∀{H':Hp},(∀b∈fp,H' b=none)→∀b∈fp,fZ X pins H' b:=λhn b hb=>⟨hn b hb,(f2 b hb).2⟩;refine codeAny_forLoop_any (λn s'=>∃i σ' H',Inv X pins σ' H' s'∧tn i s'.heap∧(∀b∈fp,H' b=none)∧W i n σ' H') ?_ m0 ⟨0,σ,H2,I2,st2,λb hb=>(f2 b hb).1,w0⟩;rintro n s3 ⟨i,σ3,H3,I3,st3,fr3,w3⟩;rcases turn i n σ3 H3 w3 with⟨stop,qn⟩|⟨go,N,hN,step⟩
 ·refine wpAny_passesOwn hp (thn (T.done X rfl rfl rfl hc i pins s3 σ3 H3 X.xe I3 (stat fr3) st3 stop) λr s4 hpt=>?_);obtain⟨hr,I4⟩:=hpt;subst hr;exact wpAny_execs_nil ⟨σ3,H3,I4,qn⟩
 ·refine wpAny_passesOwn hp (thn (T.item X rfl rfl rfl hc i pins s3 σ3 H3 X.xe I3 (stat fr3) st3 go) λr s4 hpt=>?_);obtain⟨u,hr,h4⟩:=hpt;subst hr;refine wpAny_passesOwn hp (thn h4 λ_ s5 hpt=>?_);obtain⟨x,H5,I5,r5,y5,st5,fr5⟩:=hpt;have I5':=I5.pinned (stat fr5) (T.obj _ _ st5);refine wpAny_passesOwn hp (thn (hg _ s5 σ3 H5 x u _ I5' r5 (step x H5 y5)) λ_ s6 hpt=>?_);obtain⟨σ6,H6,I6,q6⟩:=hpt;refine wpAny_passesOwn hp (thn (hb _ s6 σ6 H6 _ I6 q6) λf s7 q7=>?_);have again:∀{σ7:St}{H7:Hp},Inv X (pins++jQ fp s5.heap) σ7 H7 s7→N σ7 H7→∃m,m<n∧∃i σ' H',Inv X pins σ' H' s7∧tn i s7.heap∧(∀b∈fp,H' b=none)∧W i m σ' H':=λ{σ7 H7} I7 n7=>by
   obtain⟨m',hm,w7⟩:=hN σ7 H7 n7;refine⟨m',hm,i+1,σ7,H7,I7.unpinned,T.keep _ _ _ st5 λb hb o e=>(I7.pin (b,o) (mem_append_right _ (mem_append_right _ (bo hb e)))).1,λb hb=>?_,w7⟩;obtain⟨o,e,d⟩:=T.obj _ _ st5 b hb;exact(I7.pin (b,o) (mem_append_right _ (mem_append_right _ (bo hb e)))).2.1
  cases f with
  |next=>obtain⟨σ7,H7,I7,n7⟩:=q7;exact again I7 n7
  |cont=>obtain⟨σ7,H7,I7,n7⟩:=q7;exact again I7 n7
  |brk=>obtain⟨σ7,H7,I7,q7⟩:=q7;exact⟨σ7,H7,I7.unpinned,q7⟩
  |ret v=>obtain⟨x7,σ7,H7,I7,r7,q7⟩:=q7;exact⟨x7,σ7,H7,I7.unpinned,r7,q7⟩
end
theorem cW{K:PySem.W.Frag}{a:Addr}{xs:List V}{g:TG}{tb:TS}{D:Ends}{σ:St}{H:Hp}(Pv:Nat→St→Hp→Prop)(h0:Pv 0 σ H)(hl:∀i σ H,i≤xs.length→Pv i σ H→SqL K H a xs)(hs:∀i x σ H,xs[i]?=some x→Pv i σ H→g x σ H λσ2 H2=>tb {D with nx:=Pv (i+1),ct:=Pv (i+1),bk:=D.nx} σ2 H2)(hd:∀σ H,Pv xs.length σ H→D.nx σ H):
  ∃W:Nat→Nat→St→Hp→Prop,(∃m,W 0 m σ H)∧∀i m σ H,W i m σ H →
   ((Itl K a).stop i H∧D.nx σ H)∨((Itl K a).go i H∧∃N:St→Hp→Prop,(∀σ' H',N σ' H'→∃m',m'<m∧W (i+1) m' σ' H')∧∀x H',(Itl K a).yld i H x H'→g x σ H' λσ2 H2=>tb {D with nx:=N,ct:=N,bk:=D.nx} σ2 H2):=by
 refine⟨λi m σ H=>m=xs.length-i∧i≤xs.length∧Pv i σ H,⟨xs.length,by simp,zero_le _,h0⟩,?_⟩;rintro i m σ H ⟨rfl,hi,p⟩;have q:=hl i σ H hi p
 by_cases hlt:i<xs.length
 ·refine .inr ⟨⟨xs,xs[i],q,by simp[hlt]⟩,Pv (i+1),λσ' H' p'=>⟨xs.length-(i+1),by omega,rfl,hlt,p'⟩,λx H' y=>?_⟩;obtain⟨e,y⟩:=y;subst e;exact hs i x σ _ (y xs q) p
 ·have e:i=xs.length:=by omega
  subst e;exact .inl ⟨⟨xs,q,le_refl _⟩,hd σ H p⟩
theorem eW{K:PySem.W.Frag}{a:Addr}{xs:List V}{g:TG}{tb:TS}{D:Ends}{σ:St}{H:Hp}(Pv:Nat→St→Hp→Prop)(h0:Pv 0 σ H)(hl:∀i σ H,i≤xs.length→Pv i σ H→SqT K H a xs)(hs:∀i x σ H,xs[i]?=some x→Pv i σ H→g x σ H λσ2 H2=>tb {D with nx:=Pv (i+1),ct:=Pv (i+1),bk:=D.nx} σ2 H2)(hd:∀σ H,Pv xs.length σ H→D.nx σ H):
  ∃W:Nat→Nat→St→Hp→Prop,(∃m,W 0 m σ H)∧∀i m σ H,W i m σ H →
   ((Itt K a).stop i H∧D.nx σ H)∨((Itt K a).go i H∧∃N:St→Hp→Prop,(∀σ' H',N σ' H'→∃m',m'<m∧W (i+1) m' σ' H')∧∀x H',(Itt K a).yld i H x H'→g x σ H' λσ2 H2=>tb {D with nx:=N,ct:=N,bk:=D.nx} σ2 H2):=by
 refine⟨λi m σ H=>m=xs.length-i∧i≤xs.length∧Pv i σ H,⟨xs.length,by simp,zero_le _,h0⟩,?_⟩;rintro i m σ H ⟨rfl,hi,p⟩;have q:=hl i σ H hi p
 by_cases hlt:i<xs.length
 ·refine .inr ⟨⟨xs,xs[i],q,by simp[hlt]⟩,Pv (i+1),λσ' H' p'=>⟨xs.length-(i+1),by omega,rfl,hlt,p'⟩,λx H' y=>?_⟩;obtain⟨e,y⟩:=y;subst e;exact hs i x σ _ (y xs q) p
 ·have e:i=xs.length:=by omega
  subst e;exact .inl ⟨⟨xs,q,le_refl _⟩,hd σ H p⟩
theorem jj{lo:Int}{n:Nat}{g:TG}{tb:TS}{D:Ends}{σ:St}{H:Hp}(Pv:Nat→St→Hp→Prop)(h0:Pv 0 σ H)(hs:∀i σ H,i<n→Pv i σ H→g (.int (lo+i)) σ H λσ2 H2=>tb {D with nx:=Pv (i+1),ct:=Pv (i+1),bk:=D.nx} σ2 H2)(hd:∀σ H,Pv n σ H→D.nx σ H):
  ∃W:Nat→Nat→St→Hp→Prop,(∃m,W 0 m σ H)∧∀i m σ H,W i m σ H →
   ((Itr lo n).stop i H∧D.nx σ H)∨((Itr lo n).go i H∧∃N:St→Hp→Prop,(∀σ' H',N σ' H'→∃m',m'<m∧W (i+1) m' σ' H')∧∀x H',(Itr lo n).yld i H x H'→g x σ H' λσ2 H2=>tb {D with nx:=N,ct:=N,bk:=D.nx} σ2 H2):=by
 refine⟨λi m σ H=>m=n-i∧i≤n∧Pv i σ H,⟨n,by simp,zero_le _,h0⟩,?_⟩;rintro i m σ H ⟨rfl,hi,p⟩
 by_cases hlt:i<n
 ·refine .inr ⟨hlt,Pv (i+1),λσ' H' p'=>⟨n-(i+1),by omega,rfl,hlt,p'⟩,λx H' y=>?_⟩;obtain⟨e,y⟩:=y;subst e y;exact hs i σ _ hlt p
 ·have e:i=n:=by omega
  subst e;exact .inl ⟨le_refl _,hd σ H p⟩
theorem lg{c:TT}{tb:TS}{D:Ends}{σ:St}{H:Hp}(Pv:St→Hp→Prop)(μ:St→Hp→Nat)(h0:Pv σ H)(hs:∀σ H,Pv σ H→c σ H λb H1=>if b=true then tb {D with nx:=λσ' H'=>Pv σ' H'∧μ σ' H'<μ σ H,ct:=λσ' H'=>Pv σ' H'∧μ σ' H'<μ σ H,bk:=D.nx} σ H1 else D.nx σ H1)(mono:∀σ H Q Q',(∀b H1,Q b H1→Q' b H1)→c σ H Q→c σ H Q'):qj c tb D σ H:=by
 refine⟨λm σ H=>m=μ σ H∧Pv σ H,⟨_,rfl,h0⟩,?_⟩;rintro m σ H ⟨rfl,p⟩;refine mono σ H _ _ (λb H1 q=>?_) (hs σ H p);cases b with
 |true=>exact⟨_,λσ' H' ⟨p',l⟩=>⟨_,l,rfl,p'⟩,q⟩
 |false=>exact q
abbrev R2:=V→V→Hp→VK→Prop
def OpR(X:Cx)(f:Value→Value→Sem Value)(r:R2):Prop :=
 ∀(pins:List (Addr×Obj))(s:Shared)(σ:St)(H:Hp)(x y:V)(v u:Value)(Q:VK),Inv X pins σ H s→ax x v→ax y u→r x y H Q →
  wpAny (model X.prog X.w) X.A (f v u) (EP X pins σ Q) X.xe s
def dz(X:Cx)(f:Value)(r:List V→Hp→VK→Prop):Prop :=
 ∀(pins:List (Addr×Obj))(s:Shared)(σ:St)(H:Hp)(xs:List V)(us:List Value)(Q:VK),Inv X pins σ H s→ap xs us→r xs H Q →
  wpAny (model X.prog X.w) X.A (call f us) (EP X pins σ Q) X.xe s
def xJ(X:Cx)(r:V→Hp→(Bool→Hp→Prop)→Prop):Prop :=
 ∀(pins:List (Addr×Obj))(s:Shared)(σ:St)(H:Hp)(x:V)(v:Value)(Q:Bool→Hp→Prop),Inv X pins σ H s→ax x v→r x H Q →
  wpAny (model X.prog X.w) X.A (truthy v) (TP X pins σ Q) X.xe s
def tOp(r:R2)(ta tb:TE):TE:=λσ H Q=>ta σ H λx H1=>tb σ H1 λy H2=>r x y H2 Q
def rI(C:Int→Int→Prop)(g:Int→Int→V):R2:=λx y H Q=>∃i j,x=.int i∧y=.int j∧C i j∧Q (g i j) H
def rI0(g:Int→Int→V):R2:=λx y H Q=>∃i j,x=.int i∧y=.int j∧Q (g i j) H
section
variable{X:Cx}{a b c:Expr}{ta tb tc:TE}{pos:Pos}
theorem uR(ha:PE X a ta)(hb:PE X b tb){pins:List (Addr×Obj)}{s:Shared}{σ:St}{H:Hp}{R:V→V→Hp→Prop}(I:Inv X pins σ H s)(h:ta σ H λx H1=>tb σ H1 λy H2=>R x y H2){Q:Value→Shared→Prop}{f:Value→Value→Sem Value}(hf:∀v u s2 x y H2,Inv X pins σ H2 s2→ax x v→ax y u→R x y H2→wpAny (model X.prog X.w) X.A (f v u) Q X.xe s2):
  wpAny (model X.prog X.w) X.A (eval a X.env) (λv s₁=>wpAny (model X.prog X.w) X.A (eval b X.env) (λu s₂=>wpAny (model X.prog X.w) X.A (f v u) Q X.xe s₂) X.xe s₁) X.xe s:=by
 refine thn (ha pins s σ H _ I h) λv s1 hpt=>?_;obtain⟨x,H1,I1,r1,q1⟩:=hpt;refine thn (hb pins s1 σ H1 _ I1 q1) λu s2 hpt=>?_;obtain⟨y,H2,I2,r2,q2⟩:=hpt;exact hf v u s2 x y H2 I2 r1 r2 q2
theorem aU{op:Operator}{r:R2}(ho:OpR X (binaryOp op) r)(ha:PE X a ta)(hb:PE X b tb):PE X (.BinOp a op b pos) (tOp r ta tb):=by
 intro pins s σ H Q I h;exact wpAny_BinOp (uR ha hb I h λv u s2 x y H2 I2 rx ry q=>ho pins s2 σ H2 x y v u Q I2 rx ry q)
theorem opI{f:Value→Value→Sem Value}{C:Int→Int→Prop}{g:Int→Int→Int}(rule:∀(i j:Int) (t u:Tok) (s:Shared) (Q:Value→Shared→Prop) (E:Value→Shared→Prop),C i j→Q (.int (g i j) s.toks) {s with toks:=s.toks+1}→wpAny (model X.prog X.w) X.A (f (.int i t) (.int j u)) Q E s):
  OpR X f (rI C λi j=>.int (g i j)):=by
 intro pins s σ H x y v u Q I rx ry h;obtain⟨i,j,rfl,rfl,hc,q⟩:=h;obtain⟨t,rfl⟩:=rx;obtain⟨t',rfl⟩:=ry;exact rule i j t t' s _ _ hc ⟨.int (g i j),H,I.tok _,⟨_,rfl⟩,q⟩
theorem wD{f:Value→Value→Sem Value}{g:Int→Int→Int}(rule:∀(i j:Int) (t u:Tok) (s:Shared) (Q:Value→Shared→Prop) (E:Value→Shared→Prop),Q (.int (g i j) s.toks) {s with toks:=s.toks+1}→wpAny (model X.prog X.w) X.A (f (.int i t) (.int j u)) Q E s):
  OpR X f (rI0 λi j=>.int (g i j)):=by
 intro pins s σ H x y v u Q I rx ry h;obtain⟨i,j,rfl,rfl,q⟩:=h;obtain⟨t,rfl⟩:=rx;obtain⟨t',rfl⟩:=ry;exact rule i j t t' s _ _ ⟨.int (g i j),H,I.tok _,⟨_,rfl⟩,q⟩
theorem uS{f:Value→Value→Sem Value}{g:Int→Int→Bool}(rule:∀(i j:Int) (t u:Tok) (s:Shared) (Q:Value→Shared→Prop) (E:Value→Shared→Prop),Q (.bool (g i j)) s→wpAny (model X.prog X.w) X.A (f (.int i t) (.int j u)) Q E s):
  OpR X f (rI0 λi j=>.bl (g i j)):=by
 intro pins s σ H x y v u Q I rx ry h;obtain⟨i,j,rfl,rfl,q⟩:=h;obtain⟨t,rfl⟩:=rx;obtain⟨t',rfl⟩:=ry;exact rule i j t t' s _ _ ⟨.bl (g i j),H,I,rfl,q⟩
def xK(i j:Int):Prop:=0<j∧j<1073741824
def uT(i j:Int):Prop:=(-(2 ^ 64)<i∧i<2 ^ 64)∨(-(2 ^ 64)<j∧j<2 ^ 64)
theorem uT.ok{i j:Int}(h:uT i j):IntMulOk i j:=by
 rcases h with⟨h1,h2⟩|⟨h1,h2⟩
 ·exact .of_left (intBits_le_64 h1 h2)
 ·exact .of_right (intBits_le_64 h1 h2)
theorem cf:OpR X (binaryOp .Add) (rI0 λi j=>.int (i+j)):=wD λ_ _ _ _ _ _ _ q=>add_int q
theorem mH:OpR X (binaryOp .Sub) (rI0 λi j=>.int (i-j)):=wD λ_ _ _ _ _ _ _ q=>sub_int q
theorem jR:OpR X (binaryOp .Mult) (rI uT λi j=>.int (i*j)):=opI λ_ _ _ _ _ _ _ hc q=>mul_int q hc.ok
theorem sH:OpR X (binaryOp .FloorDiv) (rI xK λi j=>.int (i / j)):=opI λi j _ _ _ _ _ hc q=>by
 have h1:(0:Int)<j:=hc.1;have h2:j<1073741824:=hc.2;exact floordiv_int (by omega) (by rw[Int.fdiv_eq_ediv_of_nonneg i (by omega)];exact q) (.inl (PyProof.noPylong_small (by omega)))
theorem jS:OpR X (binaryOp .Mod) (rI (λ_ j=>0<j) λi j=>.int (i % j)):=opI λi j _ _ _ _ _ hc q=>by
 have h1:(0:Int)<j:=hc;exact mod_int' (by omega) (by rw[Int.fmod_eq_emod_of_nonneg i (by omega)];exact q)
end
def wE:V→V→Bool
 |.non,.non=>true | .non,.int _=>true | .int _,.non=>true | .non,.bl _=>true | .bl _,.non=>true | .non,.str _=>true | .str _,.non=>true
 |.int _,.int _=>true | .bl _,.bl _=>true | .str _,.str _=>true | .byt _,.byt _=>true
 |.int _,.str _=>true | .str _,.int _=>true | .bl _,.str _=>true | .str _,.bl _=>true
 |_,_=>false
def rEq:R2:=λx y H Q=>wE x y=true∧Q (.bl (decide (x=y))) H
def rNe:R2:=λx y H Q=>wE x y=true∧Q (.bl (!decide (x=y))) H
theorem nZ{i j:Int}:decide (V.int i=V.int j)=(i==j):=by
 rw[Bool.eq_iff_iff];simp
theorem ql{i j:Bool}:decide (V.bl i=V.bl j)=(i==j):=by
 rw[Bool.eq_iff_iff];simp
theorem oe{i j:Str}:decide (V.str i=V.str j)=(i==j):=by
 rw[Bool.eq_iff_iff];simp
theorem og{i j:Array UInt8}:decide (V.byt i=V.byt j)=(i.toList==j.toList):=by
 rw[Bool.eq_iff_iff];cases i;cases j;simp
section
variable{X:Cx}{a b c:Expr}{ta tb tc:TE}{pos:Pos}
theorem aF{pins:List (Addr×Obj)}{σ:St}{H:Hp}{s:Shared}{Q:VK}{k k':Bool}(I:Inv X pins σ H s)(q:Q (.bl k) H)(e:k=k'):EP X pins σ Q (.bool k') s:=by
 subst e;exact⟨.bl k,H,I,rfl,q⟩
theorem du:OpR X (compareOp .Eq) rEq:=by
 intro pins s σ H x y v u Q I rx ry h;obtain⟨hs,q⟩:=h;cases x with
 |non =>
  cases rx;cases y with
  |non=>cases ry;exact PySem.EqNone.eq_none_none (aF I q (by simp))
  |bl j=>cases ry;exact PySem.EqNone.eq_none_bool (aF I q (by simp))
  |int j=>obtain⟨t',rfl⟩:=ry;exact PySem.EqNone.eq_none_int (aF I q (by simp))
  |str j=>obtain⟨t',rfl⟩:=ry;exact PySem.EqNone.eq_none_str (aF I q (by simp))
  |_=>exact absurd (show false=true from hs) Bool.false_ne_true
 |bl i =>
  cases rx;cases y with
  |non=>cases ry;exact PySem.EqNone.eq_bool_none (aF I q (by simp))
  |bl j=>cases ry;exact eq_bool (aF I q ql)
  |str j=>obtain⟨t',rfl⟩:=ry;exact PySem.EqMixed.eq_bool_str (aF I q (by simp))
  |_=>exact absurd (show false=true from hs) Bool.false_ne_true
 |int i =>
  obtain⟨t,rfl⟩:=rx;cases y with
  |non=>cases ry;exact PySem.EqNone.eq_int_none (aF I q (by simp))
  |int j=>obtain⟨t',rfl⟩:=ry;exact eq_int (aF I q nZ)
  |str j=>obtain⟨t',rfl⟩:=ry;exact PySem.EqMixed.eq_int_str (aF I q (by simp))
  |_=>exact absurd (show false=true from hs) Bool.false_ne_true
 |str i =>
  obtain⟨t,rfl⟩:=rx;cases y with
  |non=>cases ry;exact PySem.EqNone.eq_str_none (aF I q (by simp))
  |bl j=>cases ry;exact PySem.EqMixed.eq_str_bool (aF I q (by simp))
  |int j=>obtain⟨t',rfl⟩:=ry;exact PySem.EqMixed.eq_str_int (aF I q (by simp))
  |str j=>obtain⟨t',rfl⟩:=ry;exact eq_str (aF I q oe)
  |_=>exact absurd (show false=true from hs) Bool.false_ne_true
 |byt i =>
  obtain⟨t,rfl⟩:=rx;cases y with
  |byt j=>obtain⟨t',rfl⟩:=ry;exact PySem.W.eq_bytes (aF I q og)
  |_=>exact absurd (show false=true from hs) Bool.false_ne_true
 |_=>cases y<;>exact absurd (show false=true from hs) Bool.false_ne_true
theorem ol:OpR X (compareOp .NotEq) rNe:=by
 intro pins s σ H x y v u Q I rx ry h;obtain⟨hs,q⟩:=h;cases x with
 |non =>
  cases rx;cases y with
  |non=>cases ry;exact PySem.EqNone.ne_none_none (aF I q (by simp))
  |bl j=>cases ry;exact PySem.EqNone.ne_none_bool (aF I q (by simp))
  |int j=>obtain⟨t',rfl⟩:=ry;exact PySem.EqNone.ne_none_int (aF I q (by simp))
  |str j=>obtain⟨t',rfl⟩:=ry;exact PySem.EqNone.ne_none_str (aF I q (by simp))
  |_=>exact absurd (show false=true from hs) Bool.false_ne_true
 |bl i =>
  cases rx;cases y with
  |non=>cases ry;exact PySem.EqNone.ne_bool_none (aF I q (by simp))
  |bl j=>cases ry;exact ne_bool (aF I q (congrArg not ql))
  |str j=>obtain⟨t',rfl⟩:=ry;exact PySem.EqMixed.ne_bool_str (aF I q (by simp))
  |_=>exact absurd (show false=true from hs) Bool.false_ne_true
 |int i =>
  obtain⟨t,rfl⟩:=rx;cases y with
  |non=>cases ry;exact PySem.EqNone.ne_int_none (aF I q (by simp))
  |int j=>obtain⟨t',rfl⟩:=ry;exact ne_int (aF I q (congrArg not nZ))
  |str j=>obtain⟨t',rfl⟩:=ry;exact PySem.EqMixed.ne_int_str (aF I q (by simp))
  |_=>exact absurd (show false=true from hs) Bool.false_ne_true
 |str i =>
  obtain⟨t,rfl⟩:=rx;cases y with
  |non=>cases ry;exact PySem.EqNone.ne_str_none (aF I q (by simp))
  |bl j=>cases ry;exact PySem.EqMixed.ne_str_bool (aF I q (by simp))
  |int j=>obtain⟨t',rfl⟩:=ry;exact PySem.EqMixed.ne_str_int (aF I q (by simp))
  |str j=>obtain⟨t',rfl⟩:=ry;exact ne_str (aF I q (congrArg not oe))
  |_=>exact absurd (show false=true from hs) Bool.false_ne_true
 |byt i =>
  obtain⟨t,rfl⟩:=rx;cases y with
  |byt j=>obtain⟨t',rfl⟩:=ry;exact PySem.W.ne_bytes (aF I q (congrArg not og))
  |_=>exact absurd (show false=true from hs) Bool.false_ne_true
 |_=>cases y<;>exact absurd (show false=true from hs) Bool.false_ne_true
theorem om:OpR X (compareOp .Lt) (rI0 λi j=>.bl (decide (i<j))):=uS λ_ _ _ _ _ _ _ q=>lt_int q
theorem uu:OpR X (compareOp .Gt) (rI0 λi j=>.bl (decide (j<i))):=uS λ_ _ _ _ _ _ _ q=>gt_int q
theorem wF:OpR X (compareOp .GtE) (rI0 λi j=>.bl (decide (j≤i))):=uS λ_ _ _ _ _ _ _ q=>ge_int q
theorem mO:OpR X (compareOp .Is) (λx y H Q=>y=.non∧Q (.bl (decide (x=.non))) H):=by
 intro pins s σ H x y v u Q I rx ry h;obtain⟨rfl,q⟩:=h;cases ry;refine is_none_gen (aF I q ?_);cases x<;>first
  |(cases rx;rfl)
  |(obtain⟨t,rfl⟩:=rx;rfl)
theorem jT:OpR X (compareOp .IsNot) (λx y H Q=>y=.non∧Q (.bl (!decide (x=.non))) H):=by
 intro pins s σ H x y v u Q I rx ry h;obtain⟨rfl,q⟩:=h;cases ry;refine isnot_none_gen (aF I q ?_);cases x<;>first
  |(cases rx;rfl)
  |(obtain⟨t,rfl⟩:=rx;rfl)
theorem OpR.or{f:Value→Value→Sem Value}{r r':R2}(h:OpR X f r)(h':OpR X f r'):OpR X f (λx y H Q=>r x y H Q∨r' x y H Q):=by
 intro pins s σ H x y v u Q I rx ry q;rcases q with q|q
 ·exact h pins s σ H x y v u Q I rx ry q
 ·exact h' pins s σ H x y v u Q I rx ry q
theorem ay(b:Expr){op:CmpOp}(h:op≠.In:=by decide)(h2:op≠.NotIn:=by decide):behindInMarks op b=false:=by
 have e1:(op==CmpOp.In)=false:=by cases op<;>first|rfl|exact absurd rfl h
 have e2:(op==CmpOp.NotIn)=false:=by cases op<;>first|rfl|exact absurd rfl h2
 cases b<;>simp[behindInMarks,e1,e2]
theorem oo{op:CmpOp}{r:R2}(ho:OpR X (compareOp op) r)(ha:PE X a ta)(hb:PE X b tb)(hm:behindInMarks op b=false):PE X (.Compare a [op] [b] pos) (tOp r ta tb):=by
 intro pins s σ H Q I h;exact wpAny_Compare1 (uR ha hb I h λv u s2 x y H2 I2 rx ry q=>ho pins s2 σ H2 x y v u Q I2 rx ry q) hm
def wG(t:TE):TT:=λσ H Q=>t σ H λx H'=>∃k,x=.bl k∧Q k H'
theorem am{op:CmpOp}{r:R2}(ho:OpR X (compareOp op) r)(ha:PE X a ta)(hb:PE X b tb)(hm:behindInMarks op b=false):PT X (.Compare a [op] [b] pos) (wG (tOp r ta tb)):=by
 intro pins s σ H Q I h;refine wpAny_isTrue_Compare1 (thn (ha pins s σ H _ I h) λv s1 ⟨x,H1,I1,r1,q1⟩=>thn (hb pins s1 σ H1 _ I1 q1) λu s2 ⟨y,H2,I2,r2,q2⟩ =>
  thn (ho pins s2 σ H2 x y v u _ I2 r1 r2 q2) λc s3 ⟨z,H3,I3,r3,k,e,q3⟩=>?_) hm
 subst e;cases r3;exact wpAny_truthy_bool ⟨H3,I3,q3⟩
def wH(K:PySem.W.Frag)(x:V)(H:Hp)(k:Bool):Prop :=
 match x with
 |.non=>k=false
 |.bl b=>k=b
 |.int i=>k=(i != 0)
 |.str y=>y.length≤sizeLine∧k=((y.length:Int) != 0)
 |.byt y=>y.size≤sizeLine∧k=((y.size:Int) != 0)
 |.ref p=>(∃xs,SqL K H p xs∧k = !xs.isEmpty)∨(∃xs,SqT K H p xs∧k = !xs.isEmpty)∨∃kvs,H p=some (.dK kvs)∧k = !kvs.isEmpty
 |_=>False
theorem mQ{κ:Type}{kvs:List (κ×V)}{vs:List (κ×Value)}(r:KV kvs vs):(!vs.isEmpty) = !kvs.isEmpty:=by
 cases r<;>rfl
theorem hV{xs:List V}{its:List Value}(r:ap xs its):(!its.toArray.isEmpty) = !xs.isEmpty:=by
 cases r<;>simp
theorem gg:(sizeLine:Nat)<2 ^ 63:=by rw[sizeLine_eq];decide
theorem uU:xJ X (λx H Q=>∃k,wH X.K x H k∧Q k H):=by
 intro pins s σ H x v Q I rx h;obtain⟨k,e,q⟩:=h;have hl:=gg;have hs:sizeLine=16777216:=sizeLine_eq;cases x with
 |non =>
  cases rx;have e':k=false:=e;subst e';exact truthy_none ⟨H,I,q⟩
 |bl b =>
  cases rx;have e':k=b:=e;subst e';exact wpAny_truthy_bool ⟨H,I,q⟩
 |int i =>
  obtain⟨t,rfl⟩:=rx;have e':k=(i != 0):=e;subst e';exact PySem.P.truthy_int ⟨H,I,q⟩
 |str y =>
  obtain⟨t,rfl⟩:=rx;obtain⟨hy,e'⟩:y.length≤sizeLine∧k=((y.length:Int) != 0):=e;subst e';exact PySem.P.truthy_str (by omega) ⟨H,I.tok _,q⟩
 |byt y =>
  obtain⟨t,rfl⟩:=rx;obtain⟨hy,e'⟩:y.size≤sizeLine∧k=((y.size:Int) != 0):=e;subst e';exact PySem.W.truthy_bytes (by omega) ⟨H,I.tok _,q⟩
 |ref p =>
  cases rx;have e':(∃xs,SqL X.K H p xs∧k = !xs.isEmpty)∨(∃xs,SqT X.K H p xs∧k = !xs.isEmpty)∨∃kvs,H p=some (.dK kvs)∧k = !kvs.isEmpty:=e;rcases e' with⟨xs,hx,e'⟩|⟨xs,hx,e'⟩|⟨kvs,hx,e'⟩
  ·subst e';obtain⟨its,r,pl,hz⟩:=I.list hx;have hlen:=r.length;exact wpAny_truthy_list pl.isList (by simp only[size_toArray];omega) ⟨H,I.tok _,by rw[hV r];exact q⟩
  ·subst e';obtain⟨its,r,pl,hz⟩:=I.tuple hx;have hlen:=r.length;exact truthy_tuple pl (by simp only[size_toArray];omega) ⟨H,I.tok _,by rw[hV r];exact q⟩
  ·subst e';obtain⟨hz,hS,vs,r,m⟩:kvs.length≤sizeLine∧(p==sysModules)=false∧∃vs,KV kvs vs∧s.heap.DictOf (aB X.prog X.w) p vs:=I.hok p _ hx;have hlen:kvs.length=vs.length:=Paired.length r;exact wpAny_truthy_dict hS m (by omega) ⟨H,I.tok _,by rw[mQ r];exact q⟩
 |_=>exact(show False from e).elim
theorem qm(ha:PE X a ta)(he:∀whole,isTrue a X.env whole=(do let v ← whole;standAt a.pos;holding [v] (truthy v))):
  PT X a (λσ H Q=>ta σ H λx H'=>∃k,wH X.K x H' k∧Q k H'):=by
 intro pins s σ H Q I h;exact isTrue_plain (thn (ha pins s σ H _ I h) λv s1 ⟨x,H1,I1,r1,q1⟩=>uU pins s1 σ H1 x v Q I1 r1 q1) (he _)
theorem hX{x:V}{us:List Value}(r:ap [x] us):∃u,us=[u]∧ax x u:=by
 cases r with
 |cons r1 r2=>cases r2;exact⟨_,rfl,r1⟩
end
structure ObjM(h:Heap)(x dx C:Addr)(mA:Str→Option Value):Prop where
 obj:h.get? x=some (instObj C dx)
 ns:h.Ns1 dx mA
 ne:dx≠x
theorem pC{h:Heap}{dx:Addr}{mA:Str→Option Value}(n:h.Ns1 dx mA):∃od,h.get? dx=some od∧∀name,lookIn name od=some (mA name):=by
 obtain⟨o,es,ep,ho,hd,hk,_,hm⟩:=n;refine⟨o,ho,λname=>?_⟩;have e:=hm name;unfold nsFind findBy at e;rw[←Array.find?_toList]at e;unfold lookIn;rw[hd];dsimp only
 split
 ·rename_i y q
  rw[q]at e;exact congrArg some e
 ·rename_i q
  rw[q]at e;have a:es.toList.any (·.refKey)=false:=by
   rw[List.any_eq_false];intro y hy;obtain⟨z,t,hkey⟩:=hk y (Array.mem_toList_iff.mp hy);simp[DictEntry.refKey,hkey]
  have a':¬es.toList.any (·.refKey)=true:=by rw[a];exact Bool.false_ne_true
  rw[if_neg a'];exact congrArg some e
theorem ObjM.look{h:Heap}{x dx C:Addr}{mA:Str→Option Value}(I:ObjM h x dx C mA):∃od,PySem.W.InstAt h x (instObj C dx) C (some od)∧∀name,lookIn name od=some (mA name) :=
 let⟨od,ho,hl⟩:=pC I.ns
 ⟨od,⟨I.obj,rfl,rfl,ho⟩,hl⟩
section
variable{prog:Program}{w:World}{A:Around}{E:Value→Shared→Prop}{s:Shared}{K:PySem.W.Frag}{x dx C f:Addr}{mA:Str→Option Value}{name:Str}{v:Value}
theorem sI{expr:Bool}{Q:Value→Shared→Prop}(X:K.In s.heap)(I:ObjM s.heap x dx C mA)(hg:plainGet K C name=true)(hh:hasDictIn K C=true)(ha:findIn K (.ref C) name=some none)(hv:mA name=some v)(hv':handedIn v=true)(h:Q v {s with toks:=s.toks+1}):
  wpAny (model prog w) A (getAttr (.ref x) name expr) Q E s:=by
 obtain⟨od,J,hl⟩:=I.look;exact PySem.W.get_value X J (plainGet_of hg).1 (PySem.W.findObj_own hh ha rfl (by rw[hl,hv])) hv' h
theorem qp{pl:Sem Bool}{Q:Value×List Value→Shared→Prop}(X:K.In s.heap)(I:ObjM s.heap x dx C mA)(hg:plainGet K C name=true)(hf:findIn K (.ref C) name=some (some (.ref f)))(ht:isFn K (.ref f)=true)(hv:mA name=none)(h:Q (.ref f,[.ref x]) s):
  wpAny (model prog w) A (getMethod (.ref x) name pl) Q E s:=by
 obtain⟨od,J,hl⟩:=I.look;exact PySem.W.method_fn X J (plainGet_of hg).1 (plainGet_of hg).2 hf (beq_iff_eq.mp ht) (by show(lookIn name od).map (·.isSome)=some false;rw[hl,hv];rfl) h
theorem sJ{ns:List Str}{Q:Unit→Shared→Prop}(X:K.In s.heap)(I:ObjM s.heap x dx C mA)(hs:findIn K (.ref C) "__setattr__"=some (some (.builtin "object.__setattr__")))(hp:plainOver K C=true)(ht:takerIn K C name=some none)(hh:hasDictIn K C=true)(hw:PySem.Within mA ns)(hsz:ns.length≤sizeLine)(h:∀h',ObjM h' x dx C (λy=>if y=name then some v else mA y)→SameBut dx s.heap h'→Q () {s with heap:=h',toks:=s.toks+2}):
  wpAny (model prog w) A (setAttr (.ref x) name v) Q E s:=by
 obtain⟨od,J,hl⟩:=I.look;refine PySem.W.set_plain X J hs (PySem.W.osa_open (s:={s with toks:=s.toks+1}) (r:=none) X J hp ht λb=>?_);obtain⟨cd,hc,hd'⟩:=PySem.W.any_some hh;have hx:s.heap.get? x=some ⟨.ref C,some dx,.plain,#[]⟩:=I.obj;refine wpAny_bind (wpAny_pure (wpAny_bind (wpAny_bind (wpAny_loadPart hx (wpAny_bind (Looks.here (s:={s with toks:=s.toks+1}) (PySem.W.looks_clsIn X hc) ?_))))));rw[hd'];refine wpAny_pure (a:=some dx) (wpAny_bind (wpAny_pure (wpAny_bind ?_)));refine wpAny_nsSet1 (s:={s with toks:=s.toks+1}) I.ns λh' hn2 hs2=>?_;obtain⟨oD,esD,epD,hoD,hdD,hcD⟩:=hn2.count (PySem.Within.cons name v hw);refine wpAny_bind (wpAny_lookBehind hoD (by rw[hdD];exact pastItsLine_dict (le_trans hcD (by rw[length_cons];omega))) ?_);exact wpAny_pure (h _ ⟨(hs2.2 _ (Ne.symm I.ne)).trans I.obj,hn2,I.ne⟩ hs2)
theorem qr{R:Result→Shared→Prop}{vs:List Value}{kw:List (Str×Value)}(X:K.In s.heap)(hm:makesIn K C=true)(hi:findIn K (.ref C) "__init__"=some (some (.ref f)))(hf:PySem.W.typeIn K (.ref f)=some (.type "function"))(h:codeAny (model prog w) (A.under (.builtin "type.__call__" ⟨.ref C::vs,kw⟩)) (.call (.ref f) ⟨.ref (s.heap.objs.size+1)::vs,kw⟩) (PySem.W.InitBack (s.heap.objs.size+1) R)
   {s with heap:=(s.heap.push emptyDict).push (instObj C s.heap.objs.size)}):
  codeAny (model prog w) A (.call (.ref C) ⟨vs,kw⟩) R s:=by
 obtain⟨hh,g,d,t,os⟩:=s;exact PySem.W.make_core (PySem.W.makes_of X hm) (PySem.W.looks_findIn X hi) (λself=>PySem.W.bind_fn X self hf) (.inl rfl) h
end
def aV(f:Str)(v:V):List (Str×V)→List (Str×V)
 |[]=>[(f,v)]
 |(g,x)::r=>if g=f then (g,v)::r else (g,x)::aV f v r
theorem gF(f g:Str)(v:V):∀fs:List (Str×V),(aV f v fs).lookup g=if g=f then some v else fs.lookup g
 |[]=>by
  show List.lookup g [(f,v)]=_
  by_cases h:g=f
  ·have hb:(g==f)=true:=beq_iff_eq.mpr h;simp only[List.lookup,hb,if_pos h]
  ·have hb:(g==f)=false:=beq_eq_false_iff_ne.mpr h;simp only[List.lookup,hb,if_neg h]
 |(k,x)::r=>by
  have ih:=gF f g v r;rw[show aV f v ((k,x)::r)=(if k=f then (k,v)::r else (k,x)::aV f v r)from rfl]
  by_cases hk:k=f
  ·rw[if_pos hk]
   by_cases h:g=k
   ·have hb:(g==k)=true:=beq_iff_eq.mpr h;simp only[List.lookup,hb,if_pos (h.trans hk)]
   ·have hb:(g==k)=false:=beq_eq_false_iff_ne.mpr h;simp only[List.lookup,hb,if_neg (λe:g=f=>h (e.trans hk.symm))]
  ·rw[if_neg hk]
   by_cases h:g=k
   ·have hb:(g==k)=true:=beq_iff_eq.mpr h;simp only[List.lookup,hb,if_neg (λe:g=f=>hk (h.symm.trans e))]
   ·have hb:(g==k)=false:=beq_eq_false_iff_ne.mpr h;simp only[List.lookup,hb];exact ih
theorem gh(f:Str)(v:V):∀fs:List (Str×V),f∈(aV f v fs).map (·.1)∧∀g,g∈fs.map (·.1)→g∈(aV f v fs).map (·.1)
 |[]=>⟨by simp[aV],λg h=>by simp at h⟩
 |(k,x)::r=>by
  obtain⟨i1,i2⟩:=gh f v r;rw[show aV f v ((k,x)::r)=(if k=f then (k,v)::r else (k,x)::aV f v r)from rfl]
  by_cases hk:k=f
  ·rw[if_pos hk];subst hk;exact⟨by simp,λg h=>by simpa using h⟩
  ·rw[if_neg hk];refine⟨?_,λg h=>?_⟩
   ·rw[map_cons];exact mem_cons_of_mem _ i1
   ·rw[map_cons]at h⊢;rcases mem_cons.mp h with e|e
    ·exact mem_cons.mpr (.inl e)
    ·exact mem_cons_of_mem _ (i2 g e)
theorem gG(f:Str)(v:V):∀fs:List (Str×V),(aV f v fs).length≤fs.length+1
 |[]=>by simp[aV]
 |(k,x)::r=>by
  have ih:=gG f v r;rw[show aV f v ((k,x)::r)=(if k=f then (k,v)::r else (k,x)::aV f v r)from rfl]
  by_cases hk:k=f
  ·rw[if_pos hk,length_cons,length_cons];omega
  ·rw[if_neg hk,length_cons,length_cons];omega
theorem cU.some_of{v:V}{o:Option Value}(r:cU (some v) o):∃u,o=some u∧ax v u:=by
 cases o with
 |none=>exact(show False from r).elim
 |some u=>exact⟨u,rfl,r⟩
theorem cU.none_of{o:Option Value}(r:cU none o):o=none:=by
 cases o with
 |none=>rfl
 |some u=>exact(show False from r).elim
theorem pD{v:V}{u:Value}(r:ax v u):handedIn u=true:=by
 cases v with
 |non=>cases (show u=Value.none from r);rfl
 |bl b=>cases (show u=Value.bool b from r);rfl
 |int i=>obtain⟨t,e⟩:=(show ∃t,u=Value.int i t from r);cases e;rfl
 |str x=>obtain⟨t,e⟩:=(show ∃t,u=Value.str x t from r);cases e;rfl
 |byt b=>obtain⟨t,e⟩:=(show ∃t,u=bytes b t from r);cases e;rfl
 |flt b=>obtain⟨t,e⟩:=(show ∃t,u=float b t from r);cases e;rfl
 |ref a=>cases (show u=Value.ref a from r);rfl
 |ty n=>cases (show u=Value.type n from r);rfl
section
variable{P:Program}{w:World}{H H':Hp}{h h':Heap}{a C dx:Addr}{fs fs':List (Str×V)}
theorem jU(hok:HOk P w H h)(e:H a=some (.ins C dx fs)):∃mA,ObjM h a dx C mA∧(∀f,cU (fs.lookup f) (mA f))∧PySem.Within mA (fs.map (·.1))∧fs.length≤1000∧H dx=some (.own a):=by
 obtain⟨d,z,ne,ob,mA,n,r,q⟩:=(show bj P w H h a (.ins C dx fs)from hok a _ e);exact⟨mA,⟨ob,n,ne⟩,r,q,z,d⟩
end
structure Cls(K:PySem.W.Frag)(C:Addr):Prop where
 pg:plainGet K C empty=true
 hd:hasDictIn K C=true
 po:plainOver K C=true
 sa:findIn K (.ref C) "__setattr__"=some (some (.builtin "object.__setattr__"))
theorem Cls.get{K:PySem.W.Frag}{C:Addr}(c:Cls K C)(f:Str):plainGet K C f=true:=c.pg
def cv(K:PySem.W.Frag)(C:Addr)(f:Str):Prop:=findIn K (.ref C) f=some none
theorem cv.taker{K:PySem.W.Frag}{C:Addr}{f:Str}(n:cv K C f):takerIn K C f=some none:=by
 unfold takerIn;rw[show findIn K (.ref C) f=some none from n];rfl
structure Meth(K:PySem.W.Frag)(C:Addr)(m:Str)(f:Addr):Prop where
 at_:findIn K (.ref C) m=some (some (.ref f))
 fn:isFn K (.ref f)=true
 kp:keepIn K (.ref f)=true
section
variable{X:Cx}{pins:List (Addr×Obj)}{σ:St}{H:Hp}{s:Shared}{a C dx:Addr}{fs:List (Str×V)}{f:Str}{v:V}{A:Around}{E:Value→Shared→Prop}
theorem hZ{b:Bool}{Q:Value→Shared→Prop}(I:Inv X pins σ H s)(e:H a=some (.ins C dx fs))(c:Cls X.K C)(n:cv X.K C f)(l:fs.lookup f=some v)(h:∀u s',Inv X pins σ H s'→ax v u→Q u s'):wpAny (model X.prog X.w) A (getAttr (.ref a) f b) Q E s:=by
 obtain⟨mA,O,r,_,_,_⟩:=jU I.hok e;obtain⟨u,hu,ru⟩:=cU.some_of (v:=v) (o:=mA f) (by rw[←l];exact r f);exact sI I.kIn O (c.get f) c.hd n hu (pD ru) (h u _ (I.tok _) ru)
theorem ia{m:Str}{g:Addr}{pl:Sem Bool}{Q:Value×List Value→Shared→Prop}(I:Inv X pins σ H s)(e:H a=some (.ins C dx fs))(c:Cls X.K C)(k:Meth X.K C m g)(l:fs.lookup m=none)(h:Q (.ref g,[.ref a]) s):wpAny (model X.prog X.w) A (getMethod (.ref a) m pl) Q E s:=by
 obtain⟨mA,O,r,_,_,_⟩:=jU I.hok e;have hn:mA m=none:=cU.none_of (by rw[←l];exact r m);exact qp I.kIn O (c.get m) k.at_ k.fn hn h
theorem ib{y:V}{u:Value}{Q:Unit→Shared→Prop}(I:Inv X pins σ H s)(e:H a=some (.ins C dx fs))(c:Cls X.K C)(n:cv X.K C f)(hl:fs.length<1000)(ry:ax y u)(h:∀s',Inv X pins σ (upd H a (.ins C dx (aV f y fs))) s'→Q () s'):wpAny (model X.prog X.w) A (setAttr (.ref a) f u) Q E s:=by
 obtain⟨mA,O,r,wi,_,ho⟩:=jU I.hok e;have hz:(fs.map (·.1)).length≤sizeLine:=by rw[length_map,sizeLine_eq];omega
 refine sJ I.kIn O c.sa c.po n.taker c.hd wi hz λh' O' sb=>h _ ?_;have hd:∃o,h'.get? dx=some o:=let⟨o,_,_,e',_⟩:=O'.ns;⟨o,e'⟩;refine I.write (x:=a) (e:=dx) (by rw[e];exact True.intro) (.inr ho) (λb q hb z=>(sb.2 b hb).trans z) hd ?_;refine⟨by rw[ai O.ne];exact ho,?_,O.ne,O'.obj,_,O'.ns,λg=>?_,λg hg=>?_⟩
 ·have:=gG f y fs;omega
 ·show cU ((aV f y fs).lookup g) (if g=f then some u else mA g);rw[gF]
  by_cases q:g=f
  ·rw[if_pos q,if_pos q];exact ry
  ·rw[if_neg q,if_neg q];exact r g
 ·by_cases q:g=f
  ·rw[q];exact(gh f y fs).1
  ·refine(gh f y fs).2 g (wi g λz=>hg ?_);show(if g=f then some u else mA g)=none;rw[if_neg q];exact z
theorem Inv.made(I:Inv X pins σ H s):Inv X pins σ (upd (upd H s.heap.objs.size (.own (s.heap.objs.size+1))) (s.heap.objs.size+1) (.ins C s.heap.objs.size []))
  {s with heap:=(s.heap.push emptyDict).push (instObj C s.heap.objs.size)}:=by
 have e1:(s.heap.push emptyDict).get? s.heap.objs.size=some emptyDict:=get?_push_size s.heap rfl;have e2:((s.heap.push emptyDict).push (instObj C s.heap.objs.size)).get? (s.heap.objs.size+1)=some (instObj C s.heap.objs.size):=by
  have:=get?_push_size (s.heap.push emptyDict) (o:=instObj C s.heap.objs.size) rfl
  rwa [size_push]at this
 have e3:(s.heap.push emptyDict).Ns s.heap.objs.size (λ_=>none):=⟨emptyDict,#[],_,e1,rfl,(λe he=>absurd he (by simp)),λ_=>rfl⟩;have I1:=I.laid (a:=s.heap.objs.size) (o:=.own (s.heap.objs.size+1)) (h':=s.heap.push emptyDict) (t':=s.toks) (λb u q=>get?_push_of_some _ q) (le_refl _) ⟨_,e1⟩;refine I1.laid (a:=s.heap.objs.size+1) (o:=.ins C s.heap.objs.size []) (t':=s.toks) (λb u q=>get?_push_of_some _ q) (Nat.le_of_eq (size_push _ _)) ?_;have ne:s.heap.objs.size≠s.heap.objs.size+1:=ne_of_lt (Nat.lt_succ_self _);refine⟨by rw[ai ne,ac],zero_le _,ne,e2,λ_=>none,(Heap.Ns1.of_empty e3).at λo q=>get?_push_of_some _ q,λ_=>True.intro,λy hy=>absurd rfl hy⟩
theorem sK{prog:Program}{w:World}{env:Env}{e:Expr}{f:Str}{pos:Pos}{s:Shared}{Q:Value→Shared→Prop}(hb:attributeBase e f env (eval e env)=eval e env)(h:wpAny (model prog w) A (eval e env) (λo s₁=>wpAny (model prog w) A (getAttr o f true) Q E s₁) E s):wpAny (model prog w) A (eval (.Attribute e f pos) env) Q E s :=
 Attribute_any_ h (by rw[arm_eval_Attribute,hb])
end
def xL(K:PySem.W.Frag)(ta:TE)(f:Str):TE:=λσ H Q=>ta σ H λx H1=>∃a C dx fs v,x=.ref a∧H1 a=some (.ins C dx fs)∧Cls K C∧cv K C f∧fs.lookup f=some v∧Q v H1
def wI(K:PySem.W.Frag)(ta tv:TE)(f:Str):TS:=λD σ H=>tv σ H λy H1=>ta σ H1 λx H2=>∃a C dx fs,x=.ref a∧H2 a=some (.ins C dx fs)∧Cls K C∧cv K C f∧fs.length<1000 ∧
 D.nx σ (upd H2 a (.ins C dx (aV f y fs)))
def wJ(X:Cx)(op:Operator)(rd:V→V→Hp→VK→Prop):Prop :=
 ∀(pins:List (Addr×Obj))(s:Shared)(σ:St)(H:Hp)(x y:V)(u v:Value)(Q:VK),Inv X pins σ H s→ax x u→ax y v→rd x y H Q→wpAny (model X.prog X.w) X.A (inplaceOp op u v) (EP X pins σ Q) X.xe s
def oq(K:PySem.W.Frag)(ta tv:TE)(rd:V→V→Hp→VK→Prop)(f:Str):TS:=λD σ H=>ta σ H λx H1=>∃a C dx fs v,x=.ref a∧H1 a=some (.ins C dx fs)∧Cls K C∧cv K C f∧fs.lookup f=some v ∧
 tv σ H1 λy H2=>rd v y H2 λz H3=>∃dx' fs',H3 a=some (.ins C dx' fs')∧fs'.length<1000∧D.nx σ (upd H3 a (.ins C dx' (aV f z fs')))
section
variable{X:Cx}{o e value:Expr}{f:Str}{pos pos' tpos:Pos}{ta tv:TE}
theorem be(he:PE X e ta)(hb:attributeBase e f X.env (eval e X.env)=eval e X.env):PE X (.Attribute e f pos) (xL X.K ta f):=by
 intro pins s σ H Q I h;refine sK hb (thn (he pins s σ H _ I h) λu s1 hpt=>?_);obtain⟨x,H1,I1,rx,a,C,dx,fs,v,ex,ea,c,n,l,q⟩:=hpt;subst ex;obtain rfl:u=Value.ref a:=rx;exact hZ I1 ea c n l λu' s2 I2 ru=>⟨v,H1,I2,ru,q⟩
theorem gk(ha:PE X o ta)(hv:PE X value tv)(hs:swapsWith value (some (.Attribute o f pos')) pos.line X.env=pure false):PS X (.Assign [.Attribute o f pos'] value pos) (wI X.K ta tv f):=by
 intro pins s σ H D I h;refine plainObj_wpAny_Assign_Attribute (thn (hv pins s σ H _ I h) λu s1 ⟨y,H1,I1,ry,q⟩=>thn (ha pins s1 σ H1 _ I1 q) λov s2 ⟨x,H2,I2,rx,a,C,dx,fs,ex,ea,c,n,l,q2⟩=>?_) hs;subst ex;obtain rfl:ov=Value.ref a:=rx;exact ib I2 ea c n l ry λs3 I3=>⟨σ,_,I3,q2⟩
theorem pE{op:Operator}{rd:V→V→Hp→VK→Prop}(ha:PE X o ta)(hv:PE X value tv)(hop:wJ X op rd):PS X (.AugAssign (.Attribute o f tpos) op value pos) (oq X.K ta tv rd f):=by
 intro pins s σ H D I h;refine wpAny_AugAssign_AttributeAny (thn (ha pins s σ H _ I h) λov s1 hpt=>?_);obtain⟨x,H1,I1,rx,a,C,dx,fs,v,ex,ea,c,n,l,q⟩:=hpt;subst ex;obtain rfl:ov=Value.ref a:=rx;refine hZ I1 ea c n l λu s2 I2 ru=>thn (hv pins s2 σ H1 _ I2 q) λw3 s3 ⟨y,H2,I3,ry,q3⟩=>thn (hop pins s3 σ H2 v y u w3 _ I3 ru ry q3) λw4 s4 hpt=>?_;obtain⟨z,H3,I4,rz,dx',fs',ea',l',q4⟩:=hpt;exact ib I4 ea' c n l' rz λs5 I5=>⟨σ,_,I5,q4⟩
def wK:V→V→Hp→VK→Prop:=λx y H Q=>∃i j,x=.int i∧y=.int j∧Q (.int (i+j)) H
theorem uV:wJ X .Add wK:=by
 rintro pins s σ H x y u v Q I rx ry ⟨i,j,rfl,rfl,q⟩;obtain⟨t,rfl⟩:=(show ∃t,u=Value.int i t from rx);obtain⟨t',rfl⟩:=(show ∃t',v=Value.int j t' from ry);exact iadd_int ⟨.int (i+j),H,I.tok _,⟨_,rfl⟩,q⟩
end
section
variable{X:Cx}{pins:List (Addr×Obj)}{σ:St}{H:Hp}{s:Shared}{A:Around}{E:Value→Shared→Prop}{Q:Value→Shared→Prop}{c:Value}{b:Bool}
end
structure Room(k:Nat)(A:Around):Prop where
 hd:A.handled=none
 dp:A.depth+3*k+5<recursionLimit
 un:A.units+16*k+200<cLine
theorem Room.mono{j k:Nat}{A:Around}(r:Room k A)(h:j≤k):Room j A:=⟨r.hd,by have:=r.dp;omega,by have:=r.un;omega⟩
theorem Room.deeper{k:Nat}{A:Around}(r:Room (k+1) A)(env:Env):Room k (A.deeper env) :=
 ⟨r.hd,by have:=r.dp;show A.depth+1+3*k+5<_;omega,by have:=r.un;show A.units+3+16*k+200<_;omega⟩
theorem mT{A:Around}{C:Addr}{us:List Value}{kw:List (Str×Value)}:(A.under (.builtin "type.__call__" ⟨.ref C::us,kw⟩)).depth=A.depth+1:=by
 first|rfl|simp[Around.under,Code.weight,Code.isCreation,Code.isGuard,Code.isCaller,Code.frames,Code.isFrame,guardIds]
theorem mX{A:Around}{C:Addr}{us:List Value}{kw:List (Str×Value)}:(A.under (.builtin "type.__call__" ⟨.ref C::us,kw⟩)).units=A.units+1:=by
 first|rfl|simp[Around.under,Code.cUnits,Code.frames,Code.isFrame]
theorem Room.make{k:Nat}{A:Around}(r:Room (k+1) A)(C:Addr)(us:List Value)(kw:List (Str×Value)):Room k (A.under (.builtin "type.__call__" ⟨.ref C::us,kw⟩)) :=
 ⟨r.hd,by have:=r.dp;rw[mT];omega,by have:=r.un;rw[mX];omega⟩
theorem Room.depth{k:Nat}{A:Around}(r:Room k A):A.depth<recursionLimit:=by have:=r.dp;omega
theorem Room.units{k:Nat}{A:Around}(r:Room k A):A.units+64<cLine:=by have:=r.un;omega
theorem Room.units0{k:Nat}{A:Around}(r:Room k A):A.units<cLine:=by have:=r.un;omega
def eI:TA:=λ_ H Q=>Q [] H
def bA(ta:TE)(tr:TA):TA:=λσ H Q=>ta σ H λx H1=>tr σ H1 λxs H2=>Q (x::xs) H2
section
variable{X:Cx}{e:Expr}{es:List Expr}{te:TE}{t:TA}{pos:Pos}
theorem ae:PA X [] eI:=λ_ _ _ _ H Q I h=>spliced_nil ⟨[],H,I,.nil,h⟩
theorem aa(ha:PE X e te)(hr:PA X es t)(hs:starEach (e::es) X.env=(false,eval e X.env)::starEach es X.env:=by rfl):PA X (e::es) (bA te t):=by
 intro pos pins s σ H Q I h;rw[hs];show wpAny _ _ (spliced ((false,eval e X.env)::backTo pos (starEach es X.env))) _ _ s;refine spliced_cons (thn (ha pins s σ H _ I h) λu s1 hpt=>?_);obtain⟨x,H1,I1,r1,q1⟩:=hpt;exact thn (hr pos pins s1 σ H1 _ I1 q1) λus s2 ⟨xs,H2,I2,r2,q2⟩=>⟨x::xs,H2,I2,.cons r1 r2,q2⟩
def wL(t:TA):TE:=λσ H Q=>t σ H λxs H1=>xs.length≤sizeLine∧∀p,H1 p=none→Q (.ref p) (upd H1 p (.tup xs))
def xN(t:TA):TE:=λσ H Q=>t σ H λxs H1=>xs.length≤sizeLine∧∀p,H1 p=none→Q (.ref p) (upd H1 p (.lst xs))
theorem aA{x1}(h:PA X es t):PE X (.Tuple es x1 pos) (wL t):=by
 intro pins s σ H Q I hq;refine wpAny_Tuple_spliced (thn (h pos pins s σ H _ I hq) λus s1 ⟨xs,H1,I1,r,z,q⟩=>⟨by rw[←r.length];exact z,?_⟩);have hf:H1 s1.heap.objs.size=none:=I1.hok.fresh (le_refl _);refine⟨.ref s1.heap.objs.size,upd H1 s1.heap.objs.size (.tup xs),I1.laid (t':=s1.toks) (λb u e=>get?_push_of_some _ e) (le_refl _) ?_,rfl,q _ hf⟩;exact⟨z,us,r,⟨_,get?_push_size _ rfl,rfl,_,rfl⟩⟩
theorem cw(h:PA X es t):PE X (.List es pos) (xN t):=by
 intro pins s σ H Q I hq;refine wpAny_List_spliced (thn (h pos pins s σ H _ I hq) λus s1 ⟨xs,H1,I1,r,z,q⟩=>⟨by rw[←r.length];exact z,?_⟩);have hf:H1 s1.heap.objs.size=none:=I1.hok.fresh (le_refl _);refine⟨.ref s1.heap.objs.size,upd H1 s1.heap.objs.size (.lst xs),I1.laid (t':=s1.toks) (λb u e=>get?_push_of_some _ e) (le_refl _) ?_,rfl,q _ hf⟩;exact⟨z,us,0,r,get?_push_size _ rfl⟩
end
abbrev Sp:=List V→Hp→VK→XK→Prop
abbrev CXT:=List Env→Hp→Shared→XK→Value→Shared→Prop
structure Env0(P:Program)(w:World)(K:PySem.W.Frag)(mg:Str→Option Value)(base:Heap)(A:Around)(outer:List Env)(s:Shared)(H:Hp):Prop where
 frames:A.frames=some outer
 mod:Mod K mg base
 bs:∀b o,base.get? b=some o→s.heap.get? b=some o∧H b=none
 bsz:base.objs.size≤s.heap.objs.size
 funs:s.heap.FunFrames base outer
 frf:∀b∈frs outer,H b=none
 hok:HOk P w H s.heap
 bare:AllBare s.gens
def CE(outer:List Env)(P:Program)(w:World)(H:Hp)(s:Shared)(Q:VK)(u:Value)(s':Shared):Prop :=
 ∃v H',s'.os=s.os∧AllBare s'.gens∧Un (frs outer) [] H H' s.heap s'.heap∧HOk P w H' s'.heap∧ax v u∧Q v H'
def CR(CX:CXT)(outer:List Env)(P:Program)(w:World)(H:Hp)(s:Shared)(Q:VK)(E:XK)(r:Result)(s':Shared):Prop :=
 match r with
 |.ok (.ret u)=>CE outer P w H s Q u s'
 |.ok _=>False
 |.error e=>CX outer H s E e s'
structure FnOk(P:Program)(w:World)(K:PySem.W.Frag)(mg:Str→Option Value)(base:Heap)(CX:CXT)(k:Nat)(f:Addr)(fd:FuncData)(ps:List Str)(sp:Sp):Prop where
 len:∀vs H Q E,sp vs H Q E→vs.length=ps.length
 run:∀(A:Around)(outer:List Env)(s:Shared)(H:Hp)(args:Args)(us:List Value)(vs:List V)(Q:VK)(E:XK),Room k A→Env0 P w K mg base A outer s H→BindsTo s fd args (ps.zip us)→ap vs us→sp vs H Q E →
  codeAny (model P w) A (.call (.ref f) args) (CR CX outer P w H s Q E) s
theorem Env0.make{P:Program}{w:World}{K:PySem.W.Frag}{mg:Str→Option Value}{base:Heap}{A:Around}{outer:List Env}{s:Shared}{H:Hp}(e:Env0 P w K mg base A outer s H)(C:Addr)(us:List Value)(kw:List (Str×Value)):
  Env0 P w K mg base (A.under (.builtin "type.__call__" ⟨.ref C::us,kw⟩)) outer s H:=⟨by first|exact e.frames|(simpa [Around.under,Code.envs,Code.isFrame,pushEnvs]using e.frames),e.mod,e.bs,e.bsz,e.funs,e.frf,e.hok,e.bare⟩
section
variable{X:Cx}{pins:List (Addr×Obj)}{σ:St}{H:Hp}{s s':Shared}
theorem Inv.env0(I:Inv X pins σ H s):Env0 X.prog X.w X.K X.mg X.base X.A X.stack s H :=
 ⟨I.ok.frames,I.ok.mod,I.bs,le_trans I.ok.bsz I.sz,I.stack,I.stkFree,I.hok,I.bare⟩
theorem Inv.after{Q:VK}{u:Value}(I:Inv X pins σ H s)(h:CE X.stack X.prog X.w H s Q u s'):EP X pins σ Q u s':=by
 obtain⟨v,H',os,bare,un,hok,r,q⟩:=h;obtain⟨hh,g,d,t,os'⟩:=s';obtain rfl:os'=s.os:=os;exact⟨v,H',I.call (h':=hh) (g':=g) (d':=d) (t':=t) (ch:=[]) un hok bare (λb z=>absurd z (by simp)),r,q⟩
end
def ou(sp:Sp)(dvs:List V)(E:XK)(t:TA):TE:=λσ H Q=>t σ H λvs H1=>sp (vs++dvs) H1 Q E
def uv(C:Addr)(m:Str)(sp:Sp)(dvs:List V)(E:XK)(ta:TE)(t:TA):TE:=λσ H Q=>ta σ H λx H1=>∃a dx fs,x=.ref a∧H1 a=some (.ins C dx fs)∧fs.lookup m=none ∧
 t σ H1 λvs H2=>sp (x::(vs++dvs)) H2 Q E
def wM(C:Addr)(sp:Sp)(dvs:List V)(E:XK)(t:TA):TE:=λσ H Q=>t σ H λvs H1=>∀x dx,H1 x=none→H1 dx=none→dx≠x →
 sp (.ref x::(vs++dvs)) (upd (upd H1 dx (.own x)) x (.ins C dx [])) (λv H2=>v=.non∧Q (.ref x) H2) E
def aG(K:PySem.W.Frag)(fd:FuncData)(ps:List Str)(ds:List Value):Prop :=
 ∀(s:Shared)(us:List Value),K.In s.heap→(us++ds).length=ps.length→BindsTo s fd ⟨us,[]⟩ (ps.zip (us++ds))
theorem aG.all{K:PySem.W.Frag}{fd:FuncData}{ps:List Str}(h:∀us:List Value,us.length=ps.length→bindArgs fd ⟨us,[]⟩=pure (ps.zip us)):aG K fd ps []:=λs us _ hl=>by
 rw[append_nil]at hl⊢;exact .of_eq (h us hl)
def dj(CX:CXT)(X:Cx)(E:XK):Prop:=∀(pins:List (Addr×Obj))(σ:St)(H:Hp)(s:Shared)(e:Value)(s':Shared),Inv X pins σ H s→CX X.stack H s E e s'→X.xe e s'
section
variable{X:Cx}{CX:CXT}{k:Nat}{f C:Addr}{fd:FuncData}{ps:List Str}{sp:Sp}{dvs:List V}{ds:List Value}{E:XK}{x m:Str}{p pos apos:Pos}{e o:Expr}{es:List Expr}{ta:TE}{t:TA}
theorem mY{pins:List (Addr×Obj)}{σ:St}{H:Hp}{s:Shared}{Q:VK}{us:List Value}{vs:List V}(F:FnOk X.prog X.w X.K X.mg X.base CX k f fd ps sp)(hr:Room k X.A)(hb:aG X.K fd ps ds)(hd:ap dvs ds)(hx:dj CX X E)(I:Inv X pins σ H s)(r:ap vs us)(h:sp (vs++dvs) H Q E):wpAny (model X.prog X.w) X.A (call (.ref f) us) (EP X pins σ Q) X.xe s:=by
 have r2:ap (vs++dvs) (us++ds):=r.append hd;have hl:(us++ds).length=ps.length:=by rw[←r2.length];exact F.len _ _ _ _ h
 refine wpAny_call (codeAny_mono (F.run X.A X.stack s H ⟨us,[]⟩ (us++ds) (vs++dvs) Q E hr I.env0 (hb s us I.kIn hl) r2 h) λr s' hq=>?_);cases r with
 |error e=>exact hx pins σ H s e s' I hq
 |ok fl =>
  cases fl with
  |ret u=>exact I.after hq
  |next=>exact False.elim hq
  |brk=>exact False.elim hq
  |cont=>exact False.elim hq
theorem al(F:FnOk X.prog X.w X.K X.mg X.base CX k f fd ps sp)(hr:Room k X.A)(hg:Gl X x)(hm:X.mg x=some (.ref f))(hk:keepIn X.K (.ref f)=true)(hb:aG X.K fd ps ds)(hd:ap dvs ds)(hx:dj CX X E)(ha:PA X (e::es) t)(hdb:(x==("__debug__":Str))=false:=by decide)(he:starEach (e::es) X.env=(false,eval e X.env)::starEach es X.env:=by rfl)(hpl:(backTo pos (starEach es X.env)).any (·.1)=false:=by rfl):
  PE X (.Call (.Name x p) (e::es) [] pos) (ou sp dvs E t):=by
 intro pins s σ H Q I h;refine wpAny_Call_Name_kw (gT I hg hm ?_ hdb);refine callWith_K (h₀:=X.base) I.ok.mod.kin hk (thn (ha pos pins s σ H _ I h) λus s1 ⟨vs,H1,I1,r,q⟩=>⟨I1.kIn,?_⟩) he hpl;exact mY F hr hb hd hx I1 r q
theorem cy{pl:Sem Bool}(he:PE X o ta)(c:Cls X.K C)(hm:Meth X.K C m f)(F:FnOk X.prog X.w X.K X.mg X.base CX k f fd ps sp)(hr:Room k X.A)(hb:aG X.K fd ps ds)(hd:ap dvs ds)(hx:dj CX X E)(ha:PA X (e::es) t)(hst:starEach (e::es) X.env=(false,eval e X.env)::starEach es X.env:=by rfl)(hpl:(backTo pos (starEach es X.env)).any (·.1)=false:=by rfl)(ht:eval (.Call (.Attribute o m apos) (e::es) [] pos) X.env=(do
   let ov ← eval o X.env
   standAt apos.atName
   let(f,first) ← holding [ov] (getMethod ov m pl)
   callWith pos f first (backTo pos (starEach (e::es) X.env)) (backToKw pos (keywordEach [] X.env))):=by rfl):
  PE X (.Call (.Attribute o m apos) (e::es) [] pos) (uv C m sp dvs E ta t):=by
 intro pins s σ H Q I h;refine methodCall_KW (pl:=pl) (thn (he pins s σ H _ I h) λu s1 ⟨x,H1,I1,rx,a,dx,fs,ex,ea,l,q⟩=>?_) ht;subst ex;obtain rfl:u=Value.ref a:=rx;refine ia I1 ea c hm l ?_;refine callWith_K (first:=[.ref a]) (h₀:=X.base) I.ok.mod.kin hm.kp (thn (ha pos pins s1 σ H1 _ I1 q) λus s2 ⟨vs,H2,I2,r,q2⟩=>⟨I2.kIn,?_⟩) hst hpl;exact mY (us:=.ref a::us) (vs:=.ref a::vs) F hr hb hd hx I2 (.cons rfl r) q2
theorem eX{pl:Sem Bool}(he:PE X o ta)(c:Cls X.K C)(hm:Meth X.K C m f)(F:FnOk X.prog X.w X.K X.mg X.base CX k f fd ps sp)(hr:Room k X.A)(hb:aG X.K fd ps ds)(hd:ap dvs ds)(hx:dj CX X E)(ht:eval (.Call (.Attribute o m apos) [] [] pos) X.env=(do
   let ov ← eval o X.env
   standAt apos.atName
   let(f,first) ← holding [ov] (getMethod ov m pl)
   callWith pos f first (backTo pos (starEach [] X.env)) (backToKw pos (keywordEach [] X.env))):=by rfl):
  PE X (.Call (.Attribute o m apos) [] [] pos) (uv C m sp dvs E ta eI):=by
 intro pins s σ H Q I h;refine methodCall_KW (pl:=pl) (thn (he pins s σ H _ I h) λu s1 ⟨x,H1,I1,rx,a,dx,fs,ex,ea,l,q⟩=>?_) ht;subst ex;obtain rfl:u=Value.ref a:=rx;refine ia I1 ea c hm l ?_;exact PySem.W.callWith_K0 (first:=[.ref a]) I1.kIn hm.kp (mY (us:=[.ref a]) (vs:=[.ref a]) F hr hb hd hx I1 (.cons rfl .nil) q)
structure Mk(K:PySem.W.Frag)(C f:Addr):Prop where
 makes:makesIn K C=true
 init:findIn K (.ref C) "__init__"=some (some (.ref f))
 fn:isFn K (.ref f)=true
 kp:keepIn K (.ref C)=true
theorem qt{pins:List (Addr×Obj)}{σ:St}{H:Hp}{s:Shared}{Q:VK}{us:List Value}{vs:List V}(M:Mk X.K C f)(F:FnOk X.prog X.w X.K X.mg X.base CX k f fd ps sp)(hr:Room (k+1) X.A)(hb:aG X.K fd ps ds)(hd:ap dvs ds)(hx:dj CX X E)(I:Inv X pins σ H s)(r:ap vs us)(h:∀x dx,H x=none→H dx=none→dx≠x→sp (.ref x::(vs++dvs)) (upd (upd H dx (.own x)) x (.ins C dx [])) (λv H2=>v=.non∧Q (.ref x) H2) E):
  wpAny (model X.prog X.w) X.A (call (.ref C) us) (EP X pins σ Q) X.xe s:=by
 have hq:=h (s.heap.objs.size+1) s.heap.objs.size (I.hok.fresh (le_succ _)) (I.hok.fresh (le_refl _)) (ne_of_lt (Nat.lt_succ_self _));have I2:=Inv.made (C:=C) I;have r2:ap (V.ref (s.heap.objs.size+1)::(vs++dvs)) (Value.ref (s.heap.objs.size+1)::(us++ds)):=.cons rfl (r.append hd);have hl:(Value.ref (s.heap.objs.size+1)::us++ds).length=ps.length:=by
  have e:=r2.length;rw[F.len _ _ _ _ hq]at e;exact e.symm
 refine wpAny_call (qr (f:=f) I.kIn M.makes M.init (beq_iff_eq.mp M.fn) (codeAny_mono (F.run _ X.stack _ _ ⟨Value.ref (s.heap.objs.size+1)::us,[]⟩ (Value.ref (s.heap.objs.size+1)::(us++ds)) _ _ E (hr.make C us [])
  (I2.env0.make C us []) (hb _ (Value.ref (s.heap.objs.size+1)::us) I2.kIn hl) r2 hq) λr s' hq'=>?_))
 cases r with
 |error e=>exact hx pins σ _ _ e s' I2 hq'
 |ok fl =>
  cases fl with
  |ret u =>
   obtain⟨v,H',I3,rv,ev,q3⟩:=I2.after hq';subst ev;exact⟨rv,⟨V.ref (s.heap.objs.size+1),H',I3,rfl,q3⟩⟩
  |next=>exact False.elim hq'
  |brk=>exact False.elim hq'
  |cont=>exact False.elim hq'
theorem ow(M:Mk X.K C f)(F:FnOk X.prog X.w X.K X.mg X.base CX k f fd ps sp)(hr:Room (k+1) X.A)(hg:Gl X x)(hm:X.mg x=some (.ref C))(hb:aG X.K fd ps ds)(hd:ap dvs ds)(hx:dj CX X E)(ha:PA X (e::es) t)(hdb:(x==("__debug__":Str))=false:=by decide)(he:starEach (e::es) X.env=(false,eval e X.env)::starEach es X.env:=by rfl)(hpl:(backTo pos (starEach es X.env)).any (·.1)=false:=by rfl):
  PE X (.Call (.Name x p) (e::es) [] pos) (wM C sp dvs E t):=by
 intro pins s σ H Q I h;refine wpAny_Call_Name_kw (gT I hg hm ?_ hdb);refine callWith_K (h₀:=X.base) I.ok.mod.kin M.kp (thn (ha pos pins s σ H _ I h) λus s1 ⟨vs,H1,I1,r,q⟩=>⟨I1.kIn,?_⟩) he hpl;exact qt M F hr hb hd hx I1 r q
end
section
variable{X:Cx}{CX:CXT}{k:Nat}{f C:Addr}{fd:FuncData}{ps ks:List Str}{sp:Sp}{E:XK}{x m:Str}{p pos apos kpos:Pos}{e o:Expr}{es:List Expr}{kws:List Keyword}{te ta:TE}{t tk:TA}{nm:Option Str}
variable{g:List Value→List Value→List Value}{gV:List V→List V→List V}
end
structure FnScope(N P:List Str)(sc:Scope):Prop where
 kind:sc.kind=.function
 co:sc.isCoroutine=false
 gen:sc.isGenerator=false
 nd:N.Nodup
 pre:N.take P.length=P
 par:∀x∈P,sc.names.lookup x=some .local∨sc.names.lookup x=some .cell
 nofree:∀y∈sc.names,y.2≠.free
theorem fsc{N P:List Str}{c:Scope}(a:c.kind=.function:=by rfl)(b:c.isCoroutine=false:=by rfl)(d:c.isGenerator=false:=by rfl)(e:N.Nodup:=by decide +kernel)(f:N.take P.length=P:=by rfl)(g:∀x∈P,c.names.lookup x=some .local∨c.names.lookup x=some .cell:=by decide +kernel)(h:∀y∈c.names,y.2≠.free:=by decide +kernel):FnScope N P c:=⟨a,b,d,e,f,g,h⟩
theorem jk{kindOf:Str→Option NameKind}{x:Str}:∀{binds:List (Str×Value)}{m:Str→Option Value},(∀v,(x,v)∉binds)→bindL kindOf binds m x=m x
 |[],_,_=>rfl
 |(n,v)::r,m,h=>by
  unfold bindL;rw[jk λw hw=>h w (mem_cons_of_mem _ hw)]
  split
  ·have:x≠n:=by rintro rfl;exact h v mem_cons_self
   simp[this]
  ·rfl
theorem jl{kindOf:Str→Option NameKind}{x:Str}:∀{binds:List (Str×Value)}{m:Str→Option Value},(∀v,(x,v)∉binds)→bindC kindOf binds m x=m x
 |[],_,_=>rfl
 |(n,v)::r,m,h=>by
  unfold bindC;rw[jl λw hw=>h w (mem_cons_of_mem _ hw)]
  split
  ·rfl
  ·have:x≠n:=by rintro rfl;exact h v mem_cons_self
   simp[this]
theorem jm{kindOf:Str→Option NameKind}{x:Str}{v:Value}:∀{P:List Str}{vs:List Value}{i:Nat}{m:Str→Option Value},P.Nodup→P[i]?=some x→vs[i]?=some v→kindOf x=some .local →
  bindL kindOf (P.zip vs) m x=some v
 |[],_,_,_,_,h,_,_=>by simp at h
 |_::_,[],_,_,_,_,h,_=>by simp at h
 |p::P,w::vs,0,m,nd,h1,h2,hk=>by
  simp at h1 h2;subst h1;subst h2;show bindL kindOf ((p,w)::P.zip vs) m p=_;unfold bindL;rw[jk λv hv=>(nodup_cons.mp nd).1 (of_mem_zip hv).1,if_pos hk];simp
 |p::P,w::vs,i+1,m,nd,h1,h2,hk=>by
  show bindL kindOf ((p,w)::P.zip vs) m x=_;unfold bindL;exact jm (i:=i) (nodup_cons.mp nd).2 (by simpa using h1) (by simpa using h2) hk
theorem jn{kindOf:Str→Option NameKind}{x:Str}{v:Value}:∀{P:List Str}{vs:List Value}{i:Nat}{m:Str→Option Value},P.Nodup→P[i]?=some x→vs[i]?=some v→kindOf x≠some .local →
  bindC kindOf (P.zip vs) m x=some v
 |[],_,_,_,_,h,_,_=>by simp at h
 |_::_,[],_,_,_,_,h,_=>by simp at h
 |p::P,w::vs,0,m,nd,h1,h2,hk=>by
  simp at h1 h2;subst h1;subst h2;show bindC kindOf ((p,w)::P.zip vs) m p=_;unfold bindC;rw[jl λv hv=>(nodup_cons.mp nd).1 (of_mem_zip hv).1,if_neg hk];simp
 |p::P,w::vs,i+1,m,nd,h1,h2,hk=>by
  show bindC kindOf ((p,w)::P.zip vs) m x=_;unfold bindC;exact jn (i:=i) (nodup_cons.mp nd).2 (by simpa using h1) (by simpa using h2) hk
def start(N:List Str)(vs:List V):St:=vs.map some++List.replicate (N.length-vs.length) none
def ic(CX:CXT)(P:Program)(w:World)(K:PySem.W.Frag)(mg:Str→Option Value)(base:Heap)(N:List Str)(qual:Str)(scope:Scope)(f:Addr)(cd:Value)(A:Around)(outer:List Env)(s:Shared)(H:Hp)(E:XK):Cx where
 prog:=P
 w:=w
 K:=K
 mg:=mg
 base:=base
 A:=A.deeper (envOfC qual scope s.heap.objs.size f cd)
 N:=N
 s₀:=s
 H₀:=H
 env:=envOfC qual scope s.heap.objs.size f cd
 outer:=outer
 stack:=envOfC qual scope s.heap.objs.size f cd::outer
 ex:=[]
 calm:=true
 fn:=λ_=>true
 pn:=[]
 xe:=λe s'=>wpAny (model P w) (A.deeper (envOfC qual scope s.heap.objs.size f cd)) (leaving (envOfC qual scope s.heap.objs.size f cd) e) (λ_ s''=>CX outer H s E e s'') (λe' s''=>CX outer H s E e' s'') s'
theorem lh{sc:Scope}{n:Nat}{x:Str}(h:sc.names.lookup x=some .cell):∃c,(cellsFrom n sc.names []).lookup x=some c:=by
 have q:=PySem.W.cellsFrom_some sc.names n [] (.inl h);exact Option.isSome_iff_exists.mp q
theorem pF{CX:CXT}{P:Program}{w:World}{K:PySem.W.Frag}{mg:Str→Option Value}{base:Heap}{N ps:List Str}{qual:Str}{scope:Scope}{f:Addr}{cd:Value}{A:Around}{outer:List Env}{s s1:Shared}{H:Hp}{E:XK}{us:List Value}{vs:List V}(S:FnScope N ps scope)(hd:A.handled=none)(e0:Env0 P w K mg base A outer s H)(hl:vs.length=ps.length)(r:ap vs us)(x:InCallC s s.heap.objs.size (bindL (envOfC qual scope s.heap.objs.size f cd).kindOf (ps.zip us) λ_=>none) (cellsFrom (s.heap.objs.size+1) scope.names []) (bindC (envOfC qual scope s.heap.objs.size f cd).kindOf (ps.zip us) λ_=>none) s1):
  Inv (ic CX P w K mg base N qual scope f cd A outer s H E) [] (start N vs) H s1:=by
 have hpl:ps.length≤N.length:=by have:=congrArg length S.pre;rw[length_take]at this;omega
 obtain⟨h1,tk,rfl,hk⟩:=x.done;have noA:∀b:Addr,b∉(ic CX P w K mg base N qual scope f cd A outer s H E).ex:=λb z=>absurd (show b∈([]:List Addr)from z) (by simp);refine⟨⟨e0.mod,S.kind,rfl,rfl,le_refl _,λy z c h1 h2=>?_,λy hy=>?_,λy c _ h=>?_,λ_=>hd,Around.frames_deeper e0.frames,.inr ⟨rfl,rfl⟩,λb z=>absurd z (noA b),e0.bs,e0.bsz,λb _ _=>noA b,λb z=>absurd z (noA b),e0.funs,e0.frf⟩,
  rfl,e0.bare,Un.kept hk,⟨_,x.toInCall.ns,λi y v h1 h2 h3=>?_⟩,λy c h=>⟨_,x.cell y c h⟩,e0.hok.fresh (le_refl _),λy c h=>?_,λp hp=>absurd (show p∈([]:List (Addr×Obj))from hp) (by simp),e0.hok.kept hk,?_⟩
 ·exact name_of_addr x.apart (PySem.mem_of_lookup h1) (PySem.mem_of_lookup h2)
 ·have hy:scope.names.lookup y=some .cell∨scope.names.lookup y=some .free:=hy;rcases hy with hy|hy
  ·exact lh hy
  ·exact absurd rfl (S.nofree _ (PySem.mem_of_lookup hy))
 ·exact le_of_lt (x.above y c (PySem.mem_of_lookup h))
 ·have hi:i<vs.length:=by
   unfold start at h2
   by_cases hi:i<vs.length
   ·exact hi
   ·rw[getElem?_append_right (by simpa using hi)]at h2;rw[List.getElem?_replicate]at h2
    split at h2<;>cases h2
  have ha:vs[i]?=some v:=by
   unfold start at h2;rw[getElem?_append_left (by simpa using hi),getElem?_map]at h2;cases e:vs[i]? with
   |none=>rw[e]at h2;cases h2
   |some a=>rw[e]at h2;cases h2;rfl
  obtain⟨u,hu,rv⟩:=r.get ha;have hp:ps[i]?=some y:=by
   rw[←S.pre,List.getElem?_take_of_lt (by omega)];exact h1
  have ndP:ps.Nodup:=by rw[←S.pre];exact S.nd.sublist (take_sublist _ _)
  refine⟨u,rv,?_⟩;rcases S.par y (mem_of_getElem? hp)with k|k
  ·exact .inl ⟨k,jm ndP hp hu k⟩
  ·obtain⟨c,e⟩:=lh (n:=s.heap.objs.size+1) k;refine .inr ⟨.inl k,c,e,?_⟩;have q:=x.cell y c e;rw[jn ndP hp hu (by show scope.names.lookup y≠_;rw[k];decide)]at q;exact q
 ·exact e0.hok.fresh (le_of_lt (x.above y c (PySem.mem_of_lookup h)))
 ·unfold start;show _=N.length;rw[length_append,length_map,List.length_replicate];omega
theorem uw{CX:CXT}{P:Program}{w:World}{K:PySem.W.Frag}{mg:Str→Option Value}{base:Heap}{k:Nat}{f:Addr}{name qual:Str}{params:Arguments}{body:List Stmt}{scope:Scope}{dV kV doc pm cdv ct oc:Value}{an od:Option Addr}{osl:Array (Option Value)}{N ps:List Str}{sp:Sp}(lk:K.lookup f=some ⟨oc,od,.func (fnOf name qual params body scope dV kV doc pm an cdv ct),osl⟩)(hcd:codeIn K cdv qual=true)(S:FnScope N ps scope)(len:∀vs H Q E,sp vs H Q E→vs.length=ps.length)(hbody:∀(A:Around) (outer:List Env) (s:Shared) (H:Hp) (vs:List V) (Q:VK) (E:XK),Room k (A.deeper (envOfC qual scope s.heap.objs.size f cdv))→sp vs H Q E →
   ∃t,PSs (ic CX P w K mg base N qual scope f cdv A outer s H E) body t∧t {nx:=λ_ H'=>Q .non H',rt:=Q} (start N vs) H):
  FnOk P w K mg base CX (k+1) f (fnOf name qual params body scope dV kV doc pm an cdv ct) ps sp:=by
 refine⟨len,λA outer s H args us vs Q E hr e0 hb r hsp=>?_⟩;have hl:=len _ _ _ _ hsp;have KX:K.In s.heap:=e0.mod.kin.keeps λb o e=>(e0.bs b o e).1;have lim:s.heap.NoLimit:=e0.mod.nolimit.keeps λb o e=>(e0.bs b o e).1;have hkind:∀y∈ps.zip us,scope.names.lookup y.1=some .local∨(scope.names.lookup y.1=some .cell∧((cellsFrom (s.heap.objs.size+1) scope.names []).lookup y.1).isSome=true):=λ⟨n,v⟩ hy=>by
  rcases S.par n (of_mem_zip hy).1 with q|q
  ·exact .inl q
  ·exact .inr ⟨q,PySem.W.cellsFrom_some _ _ _ (.inl q)⟩
 refine codeAny_call_function hr.depth (KX _ _ lk) rfl S.co S.gen rfl (PySem.W.codeRec_of KX hcd) (hb _ _ _ _ ?_);refine wpAny_newFunctionEnv_cells S.kind hkind λenv he s1 x=>?_;subst he;refine⟨lim.keeps x.toInCall.keep,codeAny_func ?_⟩;obtain⟨t,ht,hq⟩:=hbody A outer s H vs Q E (hr.deeper _) hsp;have I:Inv (ic CX P w K mg base N qual scope f cdv A outer s H E) [] (start N vs) H s1:=pF S hr.hd e0 hl r x;refine wpAny_mono (ht [] s1 (start N vs) H _ I hq) (λfl s' hs=>?_) λe s' hs=>hs;have fin:∀{σ':St}{H':Hp}{v:V}{u:Value},Inv (ic CX P w K mg base N qual scope f cdv A outer s H E) [] σ' H' s'→ax v u→Q v H'→CE outer P w H s Q u s' :=
  λ{σ' H' v u} J rv q=>⟨v,H',J.os,J.bare,J.base,J.hok,rv,q⟩
 cases fl with
 |ret u =>
  obtain⟨v,σ',H',J,rv,q⟩:=hs;exact fin J rv q
 |next =>
  obtain⟨σ',H',J,q⟩:=hs;exact fin (v:=V.non) (u:=Value.none) J rfl q
 |brk =>
  obtain⟨_,_,_,q⟩:=hs;exact False.elim q
 |cont =>
  obtain⟨_,_,_,q⟩:=hs;exact False.elim q
section
variable{X:Cx}{x:Str}{p pos:Pos}{e:Expr}{es:List Expr}{t:TA}{id T:String}{r:List V→Hp→VK→Prop}
def tCB(r:List V→Hp→VK→Prop)(t:TA):TE:=λσ H Q=>t σ H λvs H1=>r vs H1 Q
theorem bp(hc:dz X (.builtin id) r)(hg:Gl X x)(hm:X.mg x=none)(hv:bootBuiltins x=some (.builtin id))(ha:PA X (e::es) t)(hn:x≠"__name__":=by decide)(hdb:(x==("__debug__":Str))=false:=by decide)(he:starEach (e::es) X.env=(false,eval e X.env)::starEach es X.env:=by rfl)(hpl:(backTo pos (starEach es X.env)).any (·.1)=false:=by rfl):PE X (.Call (.Name x p) (e::es) [] pos) (tCB r t):=by
 intro pins s σ H Q I h;refine wpAny_Call_Name_kw (mw I hg hm hv ?_ hn hdb);exact PyProof.Rows.callWith_builtin1 (thn (ha pos pins s σ H _ I h) λus s1 ⟨vs,H1,I1,r1,q1⟩=>hc pins s1 σ H1 vs us Q I1 r1 q1) he hpl
theorem aO(hc:dz X (.type T) r)(hg:Gl X x)(hm:X.mg x=none)(hv:bootBuiltins x=some (.type T))(ha:PA X (e::es) t)(hn:x≠"__name__":=by decide)(hdb:(x==("__debug__":Str))=false:=by decide)(he:starEach (e::es) X.env=(false,eval e X.env)::starEach es X.env:=by rfl)(hpl:(backTo pos (starEach es X.env)).any (·.1)=false:=by rfl):PE X (.Call (.Name x p) (e::es) [] pos) (tCB r t):=by
 intro pins s σ H Q I h;refine wpAny_Call_Name_kw (mw I hg hm hv ?_ hn hdb);exact PyProof.Rows.callWith_type1 (thn (ha pos pins s σ H _ I h) λus s1 ⟨vs,H1,I1,r1,q1⟩=>hc pins s1 σ H1 vs us Q I1 r1 q1) he hpl
end
end L2
namespace HT
open PySem PyProof.Rows
section
open PySem.SeqAt
open PySem.AutoSeq1 (wpAny_loadPart')
open PySem.MeetsSeq PySem.MeetsSeq2 PySem.MeetsSeq3
end
section
variable{prog:Program}{w:World}{A:Around}{E:Value→Shared→Prop}{s:Shared}
theorem sL{t b:Addr}{vs ws:List Value}{Q:Value→Shared→Prop}(ht:IsTup s.heap t vs.toArray)(hb:IsTup s.heap b ws.toArray)(hv:vs≠[])(h1:ws=[]→Q (.ref t) s)(h2:ws≠[]→Q (.ref s.heap.objs.size) {s with heap:=s.heap.push {cls:=.type "tuple",data:=.seq (vs++ws).toArray}})(hsz:vs.length+ws.length≤sizeLine):wpAny (model prog w) A (binaryOp .Add (.ref t) (.ref b)) Q E s:=by
 obtain⟨⟨cls,dd,data,sl⟩,ho,hc,n,hd⟩:=id ht;obtain⟨⟨cls2,dd2,data2,sl2⟩,ho2,hc2,n2,hd2⟩:=id hb;simp only at hc hd hc2 hd2;subst hc hd hc2 hd2;have e:vs.toArray++ws.toArray=(vs++ws).toArray:=by simp
 by_cases hw:ws=[]
 ·exact concat_meets ⟨_,ho,rfl⟩ ⟨_,ho2,rfl⟩ noFill_tuple_add seq_tuple_add slot_tuple_add entry_tuple_add (args_tuple_add_2 _ _)
   (tuple_addW1 t b vs.toArray ws.toArray n n2 dd dd2 sl sl2 (by simpa using hv) (by simp[hw])) ⟨ho,ho2,h1 hw⟩
 ·refine concat_meets ⟨_,ho,rfl⟩ ⟨_,ho2,rfl⟩ noFill_tuple_add seq_tuple_add slot_tuple_add entry_tuple_add (args_tuple_add_2 _ _)
   (tuple_addW2 t b vs.toArray ws.toArray n n2 dd dd2 sl sl2 (by simpa using hv) (by simpa using hw) (by rw[size_toArray,size_toArray];exact hsz)) ⟨ho,ho2,?_⟩
  rw[e];exact h2 hw
def sIx(n d:Nat):Option Int→Nat
 |none=>d
 |some v=>if v<0 then (v+(n:Int)).toNat else min v.toNat n
theorem qu(n d:Nat):sIx n d none=d:=rfl
theorem oz(n d k:Nat):sIx n d (some (k:Int))=min k n:=by
 show(if (k:Int)<0 then ((k:Int)+(n:Int)).toNat else min (k:Int).toNat n)=min k n
 rw[if_neg (by omega),toNat_natCast]
theorem uW(n d:Nat)(hd:d≤n)(o:Option Int):sIx n d o≤n:=by
 cases o with
 |none=>exact hd
 |some v =>
  show(if v<0 then (v+(n:Int)).toNat else min v.toNat n)≤n
  by_cases hv:v<0
  ·rw[if_pos hv];omega
  ·rw[if_neg hv];exact Nat.min_le_right _ _
theorem oA(v:Int)(n d:Nat):(if v<0 then max (v+(n:Int)) 0 else min v (n:Int))=((sIx n d (some v):Nat):Int):=by
 show(if v<0 then max (v+(n:Int)) 0 else min v (n:Int))=(((if v<0 then (v+(n:Int)).toNat else min v.toNat n):Nat):Int)
 by_cases hv:v<0
 ·simp only[if_pos hv];omega
 ·simp only[if_neg hv];omega
theorem mZ(lo hi:Option Int)(n:Nat):Builtin.Slice.sliceAdjust lo hi 1 (n:Int)=(((sIx n 0 lo:Nat):Int),((sIx n n hi:Nat):Int)):=by
 have h1:¬((1:Int)<0):=by omega
 unfold Builtin.Slice.sliceAdjust;simp only[h1,if_false];refine Prod.ext ?_ ?_
 ·cases lo with
  |none=>rfl
  |some v=>exact oA v n 0
 ·cases hi with
  |none=>rfl
  |some v=>exact oA v n n
theorem na(i j:Nat):Builtin.Slice.slicePlaces (i:Int) (j:Int) 1=j-i:=by
 unfold Builtin.Slice.slicePlaces;have h1:(1:Int)>0:=by omega
 simp only[h1,if_true,Int.ediv_one]
 split<;>omega
theorem ie{v:Value}{o:Option Int}{Q:Option Int→Shared→Prop}(p:IsPart v o)(h:Q o s):wpAny (model prog w) A (Builtin.Slice.slicePartIndex v) Q E s:=by
 cases p with
 |none=>exact slicePart_none h
 |int i t=>exact slicePart_int h
theorem gm{sl:Addr}{vl vu:Value}{lo hi:Option Int}{n:Nat}{Q:Int×Int×Nat→Shared→Prop}(hs:s.heap.IsSliceOf sl vl vu .none)(pl:IsPart vl lo)(pu:IsPart vu hi)(h:Q (((sIx n 0 lo:Nat):Int),1,sIx n n hi-sIx n 0 lo) s):wpAny (model prog w) A (Builtin.Slice.sliceApplied (.ref sl) (pure (n:Int))) Q E s:=by
 obtain⟨os,hos,hcs,hds⟩:=id hs;unfold Builtin.Slice.sliceApplied Builtin.Slice.sliceFields;refine wpAny_bind (wpAny_bind (wpAny_field hos hds (x:=vl) rfl (wpAny_bind (wpAny_field hos hds (x:=vu) rfl (wpAny_bind (wpAny_field hos hds (x:=.none) rfl (wpAny_pure ?_)))))));refine wpAny_bind (slicePart_none ?_);show wpAny _ _ (if ((1:Int)==0)=true then _ else _) _ _ s
 rw[if_neg (by decide)];refine wpAny_bind (ie pl (wpAny_bind (ie pu (wpAny_bind (wpAny_pure ?_)))));show wpAny _ _ (match Builtin.Slice.sliceAdjust lo hi 1 (n:Int)with|(lo,hi)=>pure (lo,(1:Int),Builtin.Slice.slicePlaces lo hi 1)) _ _ s
 rw[mZ lo hi n];show wpAny _ _ (pure (((sIx n 0 lo:Nat):Int),(1:Int),Builtin.Slice.slicePlaces ((sIx n 0 lo:Nat):Int) ((sIx n n hi:Nat):Int) 1)) _ _ s;rw[na];exact wpAny_pure h
theorem qv(xs:Array Value)(i k:Nat):((List.range k).filterMap λ(m:Nat)=>xs[((i:Int)+(m:Int)*1).toNat]?).toArray=((xs.toList.drop i).take k).toArray:=by
 have e:(λ(m:Nat)=>xs[((i:Int)+(m:Int)*1).toNat]?)=λm=>xs[i+m]?:=by
  funext m
  have:((i:Int)+(m:Int)*1).toNat=i+m:=by omega
  rw[this]
 rw[e];have:=pick_run xs i k;rw[List.filterMap_map]at this;have e2:((λx=>xs[x]?)∘λx=>i+x)=λm=>xs[i+m]?:=rfl;rw[e2]at this;rw[this]
theorem eY{t sl:Addr}{items:Array Value}{vl vu:Value}{lo hi:Option Int}{Q:Value→Shared→Prop}(ht:IsTup s.heap t items)(hs:s.heap.IsSliceOf sl vl vu .none)(pl:IsPart vl lo)(pu:IsPart vu hi)(hw:¬(sIx items.size 0 lo=0∧sIx items.size items.size hi=items.size))(h:Q (.ref s.heap.objs.size) {s with heap:=s.heap.push {cls:=.type "tuple",data:=.seq ((items.toList.drop (sIx items.size 0 lo)).take (sIx items.size items.size hi-sIx items.size 0 lo)).toArray}})(hsz:items.size≤sizeLine):wpAny (model prog w) A (getItem (.ref t) (.ref sl)) Q E s:=by
 have htake:sizeOk (.seq ((items.toList.drop (sIx items.size 0 lo)).take (sIx items.size items.size hi-sIx items.size 0 lo)).toArray):=by
  show((items.toList.drop (sIx items.size 0 lo)).take (sIx items.size items.size hi-sIx items.size 0 lo)).toArray.size≤sizeLine;rw[size_toArray,length_take,length_drop,length_toList];omega
 have hj:sIx items.size items.size hi≤items.size:=uW _ _ (le_refl _) hi;obtain⟨os,hos,hcs,hds⟩:=id hs;have hTs:s.TypeIs (.ref sl) "slice":=⟨os,hos,hcs⟩;unfold getItem
 try with_reducible refine wpAny_holding ?_
 first|refine wpAny_bind (wpAny_pure ?_)|skip
 refine wpAny_bind (wpAny_sequenceKey ht.typeIs (by decide) ?_);refine wpAny_bind (wpAny_callSpecial?_slot (name:=ofString "__getitem__") ht.typeIs PyProof.Rows.slot_tuple_getitem
  (wpAny_call_entry PyProof.Rows.slot_tuple_getitem ht.typeIs entry_tuple_getitem ?_ (args_tuple_getitem _ _)))
 show wpAny _ _ (Builtin.Tuple.tupleItemsOf (.ref t) >>= _) _ _ s;refine wpAny_bind (tupleItemsOf_ ht ?_);refine wpAny_bind (wpAny_typeOf hTs ?_);rw[if_pos (by decide)];refine wpAny_bind (gm hs pl pu ?_);have hno:¬((((sIx items.size 0 lo:Nat):Int)==0&&(1:Int)==1&&(sIx items.size items.size hi-sIx items.size 0 lo)==items.size)=true):=by
  intro q;rw[and_eq_true,and_eq_true]at q;have q1:((sIx items.size 0 lo:Nat):Int)=0:=eq_of_beq q.1.1;have q2:sIx items.size items.size hi-sIx items.size 0 lo=items.size:=eq_of_beq q.2;exact hw ⟨by omega,by omega⟩
 show wpAny _ _ (if (((sIx items.size 0 lo:Nat):Int)==0&&(1:Int)==1&&(sIx items.size items.size hi-sIx items.size 0 lo)==items.size)=true then _ else _) _ _ s
 rw[if_neg hno,qv]
 first
  |exact wpAny_bind (m:=Builtin.Tuple.tupleExact _) (wpAny_newObj_type (wpAny_pure ⟨_,rfl,wpAny_pure h⟩) htake)
  |exact wpAny_bind (m:=Builtin.Tuple.tupleExact _) (wpAny_newObj_type (wpAny_bind (wpAny_pure (wpAny_pure ⟨_,rfl,wpAny_pure h⟩))) htake)
  |exact wpAny_bind (wpAny_bind (m:=Builtin.Tuple.tupleExact _) (wpAny_newObj_type (wpAny_pure (wpAny_pure ⟨_,rfl,wpAny_pure h⟩)) htake))
  |exact wpAny_bind (wpAny_bind (m:=Builtin.Tuple.tupleExact _) (wpAny_newObj_type (wpAny_pure ⟨_,rfl,wpAny_pure h⟩) htake))
end
end HT
namespace L2
open PySem PySem.Spec PyProof.Rows
abbrev TO:=St→Hp→(Option Int→Hp→Prop)→Prop
def PO(X:Cx)(e:Option Expr)(t:TO):Prop :=
 ∀(pins:List (Addr×Obj))(s:Shared)(σ:St)(H:Hp)(Q:Option Int→Hp→Prop),Inv X pins σ H s→t σ H Q →
  wpAny (model X.prog X.w) X.A (evalPart e X.env) (λu s'=>∃o H',Inv X pins σ H' s'∧IsPart u o∧Q o H') X.xe s
def sM:TO:=λ_ H Q=>Q none H
def wN(t:TE):TO:=λσ H Q=>t σ H λx H1=>∃i,x=.int i∧Q (some i) H1
theorem nb{ns:List Int}:∀{us:List Value},ap (ns.map V.int) us→IntsAre us ns:=by
 induction ns with
 |nil=>intro us r;rw[map_nil]at r;cases r;exact .nil
 |cons n ns ih =>
  intro us r;rw[map_cons]at r;cases r with
  |cons r1 r2 =>
   obtain⟨t,e⟩:=r1;subst e;exact .cons n t (ih r2)
section
variable{X:Cx}{e:Expr}{te:TE}{lo hi:Option Expr}{tl th:TO}{pos p2:Pos}
theorem jV:PO X none sM:=by
 intro pins s σ H Q I h;rw[evalPart_none];exact wpAny_pure ⟨none,H,I,.none,h⟩
theorem jW(h:PE X e te):PO X (some e) (wN te):=by
 intro pins s σ H Q I hw;rw[evalPart_some];refine thn (h pins s σ H _ I hw) λu s1 hpt=>?_;obtain⟨x,H1,I1,r1,q1⟩:=hpt;obtain⟨i,rfl,q⟩:=q1;obtain⟨t,rfl⟩:=r1;exact⟨some i,H1,I1,.int i t,q⟩
def SlR(X:Cx)(r:V→Option Int→Option Int→Hp→VK→Prop):Prop :=
 ∀(pins:List (Addr×Obj))(s:Shared)(σ:St)(H:Hp)(x:V)(v vl vu:Value)(lo hi:Option Int)(sl:Addr)(Q:VK),Inv X pins σ H s→ax x v→s.heap.IsSliceOf sl vl vu .none→IsPart vl lo→IsPart vu hi→r x lo hi H Q →
  ∃T id,typeLookup (.type T) "__getitem__"=pure (some (.builtin id))∧s.TypeIs v T∧wpAny (model X.prog X.w) X.A (getItem v (.ref sl)) (EP X pins σ Q) X.xe s
def tSl(r:V→Option Int→Option Int→Hp→VK→Prop)(te:TE)(tl th:TO):TE:=λσ H Q=>te σ H λx H1=>tl σ H1 λl H2=>th σ H2 λu H3=>r x l u H3 Q
theorem ig{r:V→Option Int→Option Int→Hp→VK→Prop}(hr:SlR X r)(he:PE X e te)(hl:PO X lo tl)(hu:PO X hi th):PE X (.Subscript e (.Slice lo hi none p2) pos) (tSl r te tl th):=by
 intro pins s σ H Q I h;refine Subscript_ (thn (he pins s σ H _ I h) λv s1 hpt=>?_);obtain⟨x,H1,I1,r1,q1⟩:=hpt;refine wpAny_Slice (thn (hl pins s1 σ H1 _ I1 q1) λvl s2 ⟨l,H2,I2,pl,q2⟩=>thn (hu pins s2 σ H2 _ I2 q2) λvu s3 hpt=>?_);obtain⟨u,H3,I3,pu,q3⟩:=hpt;rw[evalPart_none];refine wpAny_pure ?_;have I4:Inv X pins σ H3 {s3 with heap:=s3.heap.push {cls:=.type "slice",data:=.fields #[vl,vu,.none]}}:=I3.kept (t':=s3.toks) λb ob q=>get?_push_of_some _ q
 obtain⟨T,id,hT,ht,hg⟩:=hr pins {s3 with heap:=s3.heap.push {cls:=.type "slice",data:=.fields #[vl,vu,.none]}} σ H3 x v vl vu l u s3.heap.objs.size Q I4 r1 (Heap.IsSliceOf.new ..) pl pu q3
 show wpAny (model X.prog X.w) X.A (subscriptTail e (.Slice lo hi none p2) v (.ref s3.heap.objs.size)) (EP X pins σ Q) X.xe {s3 with heap:=s3.heap.push {cls:=.type "slice",data:=.fields #[vl,vu,.none]}}
 exact tail_any (ops:=[.ref s3.heap.objs.size,v]) ht hT hg (by with_unfolding_all rfl)
def jX(xs:List V)(lo hi:Option Int):List V:=(xs.drop (HT.sIx xs.length 0 lo)).take (HT.sIx xs.length xs.length hi-HT.sIx xs.length 0 lo)
theorem gH(xs:List V)(lo hi:Option Int):(jX xs lo hi).length≤xs.length:=by
 unfold jX;rw[length_take,length_drop];omega
def wO(K:PySem.W.Frag):V→Option Int→Option Int→Hp→VK→Prop:=λx lo hi H Q=>∃a xs,x=.ref a∧SqT K H a xs ∧
 ¬(HT.sIx xs.length 0 lo=0∧HT.sIx xs.length xs.length hi=xs.length)∧∀p,H p=none→Q (.ref p) (upd H p (.tup (jX xs lo hi)))
theorem qw:SlR X (wO X.K):=by
 intro pins s σ H x v vl vu lo hi sl Q I rx hs pl pu h;obtain⟨a,xs,rfl,hx,hw,q⟩:=h;cases rx;obtain⟨its,r,ht,hz⟩:=I.tuple hx;have hlen:its.toArray.size=xs.length:=by rw[size_toArray];exact r.length.symm
 refine⟨"tuple",_,PyProof.Rows.slot_tuple_getitem.lookup,ht.typeIs,?_⟩;refine HT.eY ht hs pl pu (by rw[hlen];exact hw) ?_ (by rw[hlen];exact hz);rw[hlen];refine⟨.ref s.heap.objs.size,_,I.laid (t':=s.toks) (o:=.tup (jX xs lo hi)) (λb ob q=>get?_push_of_some _ q) (le_refl _) ?_,rfl,q _ (I.hok.fresh (le_refl _))⟩;exact⟨le_trans (gH xs lo hi) hz,_,(r.drop (HT.sIx xs.length 0 lo)).take (HT.sIx xs.length xs.length hi-HT.sIx xs.length 0 lo),IsTup.new _ _⟩
def wP(K:PySem.W.Frag):R2:=λx y H Q=>∃a b xs ys,x=.ref a∧y=.ref b∧SqT K H a xs∧SqT K H b ys∧xs≠[]∧xs.length+ys.length≤sizeLine ∧
 (ys=[]→Q (.ref a) H)∧(ys≠[]→∀p,H p=none→Q (.ref p) (upd H p (.tup (xs++ys))))
theorem ap.nil_iff{xs:List V}{us:List Value}(r:ap xs us):us=[]↔xs=[]:=by
 cases r with
 |nil=>simp
 |cons _ _=>simp
theorem sN:OpR X (binaryOp .Add) (wP X.K):=by
 intro pins s σ H x y v u Q I rx ry h;obtain⟨a,b,xs,ys,rfl,rfl,ha,hb,hx,hz,q1,q2⟩:=h;cases rx;cases ry;obtain⟨its,r1,p1,_⟩:=I.tuple ha;obtain⟨its2,r2,p2,_⟩:=I.tuple hb;refine HT.sL p1 p2 (λz=>hx (r1.nil_iff.mp z)) (λz=>⟨.ref a,H,I,rfl,q1 (r2.nil_iff.mp z)⟩) (λz=>?_) (by rw[←r1.length,←r2.length];exact hz);refine⟨.ref s.heap.objs.size,_,I.laid (t':=s.toks) (o:=.tup (xs++ys)) (λb ob q=>get?_push_of_some _ q) (le_refl _) ?_,rfl,q2 (λw=>z (r2.nil_iff.mpr w)) _ (I.hok.fresh (le_refl _))⟩;exact⟨by rw[length_append];exact hz,_,r1.append r2,IsTup.new _ _⟩
end
def ixN(n:Nat)(i:Int):Option Nat:=if 0≤i then (if i<n then some i.toNat else none)else if -(n:Int)≤i then some (i+n).toNat else none
def atI{α:Type}(xs:List α)(i:Int):Option α:=(ixN xs.length i).bind λj=>xs[j]?
theorem jY{n:Nat}{i:Int}{j:Nat}(h:ixN n i=some j):seqIndex? i n=some j∧j<n∧-(n:Int)≤i∧i<n:=by
 unfold ixN at h
 by_cases h0:0≤i
 ·rw[if_pos h0]at h
  by_cases h1:i<n
  ·rw[if_pos h1]at h;have e:i.toNat=j:=Option.some.inj h;exact⟨by rw[seqIndex_of h0 h1,e],by omega,by omega,h1⟩
  ·rw[if_neg h1]at h;cases h
 ·rw[if_neg h0]at h
  by_cases h1:-(n:Int)≤i
  ·rw[if_pos h1]at h;have e:(i+n).toNat=j:=Option.some.inj h;exact⟨by rw[seqIndex_neg (by omega) h1,e],by omega,h1,by omega⟩
  ·rw[if_neg h1]at h;cases h
theorem jZ{α:Type}{xs:List α}{i:Int}{v:α}(h:atI xs i=some v):∃j,seqIndex? i xs.length=some j∧xs[j]?=some v∧j<xs.length∧-(xs.length:Int)≤i∧i<xs.length:=by
 unfold atI at h;cases e:ixN xs.length i with
 |none=>rw[e]at h;cases h
 |some j =>
  rw[e]at h;obtain⟨h1,h2,h3,h4⟩:=jY e;exact⟨j,h1,h,h2,h3,h4⟩
theorem ka{α:Type}{xs:List α}{j:Nat}{v:α}(h:xs[j]?=some v):atI xs (j:Int)=some v:=by
 have hj:j<xs.length:=(List.getElem?_eq_some_iff.mp h).1;have e:ixN xs.length (j:Int)=some j:=by
  unfold ixN;rw[if_pos (by omega),if_pos (by omega)];simp
 unfold atI;rw[e];exact h
def sO(b:Expr):Prop:=∀o i,subscripted b false o i=operate [o,i] (getItem o i)
def IxR(X:Cx)(r:R2):Prop :=
 ∀(value slice:Expr)(pins:List (Addr×Obj))(s:Shared)(σ:St)(H:Hp)(x y:V)(v u:Value)(Q:VK),Inv X pins σ H s→ax x v→ax y u→r x y H Q →
  subscripted slice false v u=operate [v,u] (getItem v u)→wpAny (model X.prog X.w) X.A (subscriptTail value slice v u) (EP X pins σ Q) X.xe s
def MtR(X:Cx)(id:String)(r:V→List V→Hp→VK→Prop):Prop :=
 ∀(pins:List (Addr×Obj))(s:Shared)(σ:St)(H:Hp)(x:V)(xs:List V)(v:Value)(us:List Value)(Q:VK),Inv X pins σ H s→ax x v→ap xs us→r x xs H Q →
  wpAny (model X.prog X.w) X.A (call (.builtin id) (v::us)) (EP X pins σ Q) X.xe s
section
variable{X:Cx}{a b:Expr}{ta tb:TE}{pos:Pos}
theorem aC{r:R2}(hr:IxR X r)(ha:PE X a ta)(hb:PE X b tb)(hs:sO b):PE X (.Subscript a b pos) (tOp r ta tb):=by
 intro pins s σ H Q I h;exact Subscript_ (uR ha hb I h λv u s2 x y H2 I2 rx ry q=>hr a b pins s2 σ H2 x y v u Q I2 rx ry q (hs _ _))
def xO(K:PySem.W.Frag):R2:=λx y H Q=>∃p xs i v,x=.ref p∧y=.int i∧SqL K H p xs∧atI xs i=some v∧Q v H
def ik(K:PySem.W.Frag):R2:=λx y H Q=>∃p xs i v,x=.ref p∧y=.int i∧SqT K H p xs∧atI xs i=some v∧Q v H
def wQ:R2:=λx y H Q=>∃z i c,x=.str z∧y=.int i∧z.length≤sizeLine∧atI z.cps.toList i=some c∧Q (.str ⟨#[c]⟩) H
theorem kb:IxR X (xO X.K):=by
 intro value slice pins s σ H x y v u Q I rx ry h hs;obtain⟨p,xs,i,z,rfl,rfl,hq,he,q⟩:=h;cases rx;obtain⟨t,rfl⟩:=ry;obtain⟨its,r,pl,hz⟩:=I.list hq;obtain⟨j,h1,h2,h3,h4,h5⟩:=jZ he;obtain⟨w,ew,rw'⟩:=r.get h2;have hl:=r.length;have hn:=gg;have fin:EP X pins σ Q w s:=⟨z,H,I,rw',q⟩
 by_cases h0:0≤i
 ·have hj:i.toNat=j:=by
   rw[seqIndex_of h0 h5]at h1;exact Option.some.inj h1
  exact item_listR pl.isList h0 (by omega) (by rw[hj];simpa using ew) fin hs
 ·have hj:(i+(its.toArray.size:Int)).toNat=j:=by
   rw[seqIndex_neg (by omega) h4]at h1;rw[size_toArray,←hl];exact Option.some.inj h1
  exact subscriptTail_builtinR (x:=w) pl.isList.typeIs slot_list_getitem.lookup
   (wpAny_getItem_list_neg (Q:=λr s'=>r=w∧EP X pins σ Q r s') pl.isList (by omega) (by rw[size_toArray]<;>omega) (by omega) (by rw[hj];simpa using ew) ⟨rfl,fin⟩) hs
theorem aw:IxR X (ik X.K):=by
 intro value slice pins s σ H x y v u Q I rx ry h hs;obtain⟨p,xs,i,z,rfl,rfl,hq,he,q⟩:=h;cases rx;obtain⟨t,rfl⟩:=ry;obtain⟨its,r,pl,hz⟩:=I.tuple hq;obtain⟨j,h1,h2,h3,h4,h5⟩:=jZ he;obtain⟨w,ew,rw'⟩:=r.get h2;have hl:=r.length;have hn:=gg;have fin:EP X pins σ Q w s:=⟨z,H,I,rw',q⟩;exact subscriptTail_builtinR (x:=w) pl.typeIs slot_tuple_getitem.lookup
  (getItem_tuple (j:=j) (Q:=λr s'=>r=w∧EP X pins σ Q r s') pl (by omega) (by omega) (by rw[size_toArray,←hl];exact h1) (by simpa using ew) ⟨rfl,fin⟩) hs
theorem nc:IxR X wQ:=by
 intro value slice pins s σ H x y v u Q I rx ry h hs;obtain⟨z,i,c,rfl,rfl,hz,he,q⟩:=h;obtain⟨t,rfl⟩:=rx;obtain⟨t',rfl⟩:=ry;obtain⟨j,h1,h2,h3,h4,h5⟩:=jZ he;have hl:z.cps.toList.length=z.length:=by simp[Str.length]
 rw[hl]at h1 h4 h5;have hn:=gg;exact tail_any (typeIs_str s z t) slot_str_getitem.lookup (getItem_str (c:=c) (by
  have e1:decide (i < -(2 ^ 63:Int))=false:=decide_eq_false (by omega);have e2:decide (i≥2 ^ 63)=false:=decide_eq_false (by omega);rw[e1,e2,Bool.or_false]) (by rw[h1];simpa using h2) ⟨.str ⟨#[c]⟩,H,I.tok _,⟨_,rfl⟩,q⟩) hs
theorem ng(its:List Value)(n j:Nat)(u:Value):Obj.mapSeq (·.setIfInBounds j u) {cls:=.type "list",data:=.seq its.toArray n}={cls:=.type "list",data:=.seq (its.set j u).toArray n}:=by
 simp[Obj.mapSeq]
theorem Inv.lst{pins:List (Addr×Obj)}{σ:St}{H:Hp}{s:Shared}{p:Addr}{xs:List V}(I:Inv X pins σ H s)(h:H p=some (.lst xs)):
  ∃(its:List Value) (n:Nat),ap xs its∧s.heap.get? p=some {cls:=.type "list",data:=.seq its.toArray n}∧xs.length≤sizeLine:=by
 obtain⟨z,its,n,r,e⟩:=I.hok p _ h;exact⟨its,n,r,e,z⟩
theorem Inv.lstUpd{pins:List (Addr×Obj)}{σ:St}{H:Hp}{s:Shared}{p:Addr}{xs ys:List V}{its its':List Value}{n n':Nat}{f:Obj→Obj}(I:Inv X pins σ H s)(h:H p=some (.lst xs))(ho:s.heap.get? p=some {cls:=.type "list",data:=.seq its.toArray n})(hf:f {cls:=.type "list",data:=.seq its.toArray n}={cls:=.type "list",data:=.seq its'.toArray n'})(r:ap ys its')(hz:ys.length≤sizeLine)(t:Nat):
  Inv X pins σ (upd H p (.lst ys)) {s with heap:=s.heap.update p f,toks:=t}:=by
 have e:(s.heap.update p f).get? p=some {cls:=.type "list",data:=.seq its'.toArray n'}:=by
  rw[get?_update_self f ho (by rw[hf]<;>rfl),hf]
 refine I.write (x:=p) (e:=p) (by rw[h];trivial) (.inl rfl) (λb u hb q=>(Heap.get?_update_other _ _ (Ne.symm hb)).trans q) ⟨_,e⟩ ?_;exact⟨hz,its',n',r,e⟩
def wR:V→V→V→Hp→(Hp→Prop)→Prop:=λo i v H Q=>∃p xs k j,o=.ref p∧i=.int k∧H p=some (.lst xs)∧ixN xs.length k=some j∧Q (upd H p (.lst (xs.set j v)))
theorem qx:wy X wR:=by
 intro pins s σ H o i v ov iv u Q I ro ri rv h;obtain⟨p,xs,k,j,rfl,rfl,hp,hj,q⟩:=h;cases ro;obtain⟨t,rfl⟩:=ri;obtain⟨its,n,r,ho,hz⟩:=I.lst hp;obtain⟨h1,h2,h3,h4⟩:=jY hj;have hl:=r.length;have hn:=gg;have I':Inv X pins σ (upd H p (.lst (xs.set j v))) {s with heap:=s.heap.update p (Obj.mapSeq (·.setIfInBounds j u))} :=
  I.lstUpd hp ho (ng its n j u) (r.set rv j) (by rw[List.length_set];exact hz) s.toks
 by_cases h0:0≤k
 ·have hk:k.toNat=j:=by
   rw[seqIndex_of h0 h4]at h1;exact Option.some.inj h1
  exact PySem.W.ki_setAt ho h0 (by omega) (by rw[size_toArray,←hl];exact h4) (by rw[hk];exact⟨_,I',q⟩)
 ·have hk:(k+(its.toArray.size:Int)).toNat=j:=by
   rw[seqIndex_neg (by omega) h3]at h1;rw[size_toArray,←hl];exact Option.some.inj h1
  exact PySem.W.ki_setBack ho (by omega) (by rw[size_toArray,←hl];exact h3) (by omega) (by rw[hk];exact⟨_,I',q⟩)
theorem kc(lo hi:Option Int)(n:Nat):(sliceBounds lo hi none n).1=((HT.sIx n 0 lo:Nat):Int)∧(sliceBounds lo hi none n).2.1=((HT.sIx n n hi:Nat):Int)∧(sliceBounds lo hi none n).2.2=1:=by
 refine⟨?_,?_,rfl⟩
 ·cases lo with
  |none=>simp[sliceBounds,HT.sIx]
  |some i =>
   simp only[sliceBounds,HT.sIx,getD_none,show(1:Int)>0 by decide,if_true]
   by_cases h:i<0
   ·simp only[h,if_true]<;>omega
   ·simp only[h,if_false]<;>omega
 ·cases hi with
  |none=>simp[sliceBounds,HT.sIx]
  |some i =>
   simp only[sliceBounds,HT.sIx,getD_none,show(1:Int)>0 by decide,if_true]
   by_cases h:i<0
   ·simp only[h,if_true]<;>omega
   ·simp only[h,if_false]<;>omega
theorem je(its:List Value)(lo hi:Option Int):slicePick its.toArray lo hi none=((its.drop (HT.sIx its.length 0 lo)).take (HT.sIx its.length its.length hi-HT.sIx its.length 0 lo)).toArray:=by
 obtain⟨h1,h2,h3⟩:=kc lo hi its.toArray.size;unfold slicePick;rw[h1,h2,h3];simp only[sliceRange_one,pick_run,size_toArray]<;>rfl
def xP(K:PySem.W.Frag):V→Option Int→Option Int→Hp→VK→Prop:=λx lo hi H Q=>∃a xs,x=.ref a∧SqL K H a xs∧∀p,H p=none→Q (.ref p) (upd H p (.lst (jX xs lo hi)))
theorem sP:SlR X (xP X.K):=by
 intro pins s σ H x v vl vu lo hi sl Q I rx hs pl pu h;obtain⟨a,xs,rfl,hx,q⟩:=h;cases rx;obtain⟨its,r,ht,hz⟩:=I.list hx;have hlen:=r.length;refine⟨"list",_,slot_list_getitem.lookup,ht.isList.typeIs,?_⟩;refine wpAny_getItem_list_slice ht.isList hs pl pu .none (by simp) ?_ (by rw[size_toArray]<;>omega);rw[je,←hlen];refine⟨.ref s.heap.objs.size,_,I.laid (t':=s.toks) (o:=.lst (jX xs lo hi)) (λb ob q=>get?_push_of_some _ q) (le_refl _) ?_,rfl,q _ (I.hok.fresh (le_refl _))⟩;exact⟨le_trans (gH xs lo hi) hz,_,0,(r.drop (HT.sIx xs.length 0 lo)).take (HT.sIx xs.length xs.length hi-HT.sIx xs.length 0 lo),get?_push_size _ rfl⟩
def cG:V→Bool
 |.non=>true
 |.bl _=>true
 |.int _=>true
 |.str _=>true
 |_=>false
def eqV:V→V→Bool
 |.non,.non=>true
 |.bl a,.bl b=>a==b
 |.bl a,.int b=>(if a then 1 else 0)==b
 |.int a,.bl b=>a==(if b then 1 else 0)
 |.int a,.int b=>a==b
 |.str a,.str b=>a==b
 |_,_=>false
theorem kd{A:Around}{s:Shared}{y x:V}{u v:Value}(ry:ax y u)(rx:ax x v)(fy:cG y=true)(fx:cG x=true):EqAt A s u v (eqV y x):=by
 cases y with
 |non =>
  cases ry;cases x with
  |non=>cases rx;exact EqAt.same _
  |bl b=>cases rx;exact EqAt.none_bool b
  |int b=>obtain⟨t,rfl⟩:=rx;exact EqAt.none_int b t
  |str b=>obtain⟨t,rfl⟩:=rx;exact EqAt.none_str b t
  |_=>exact absurd (show false=true from fx) Bool.false_ne_true
 |bl a =>
  cases ry;cases x with
  |non=>cases rx;exact EqAt.bool_none a
  |bl b=>cases rx;exact EqAt.bool_bool a b
  |int b=>obtain⟨t,rfl⟩:=rx;exact EqAt.bool_int a b t
  |str b=>obtain⟨t,rfl⟩:=rx;exact EqAt.bool_str a b t
  |_=>exact absurd (show false=true from fx) Bool.false_ne_true
 |int a =>
  obtain⟨t',rfl⟩:=ry;cases x with
  |non=>cases rx;exact EqAt.int_none a t'
  |bl b=>cases rx;exact EqAt.int_bool a t' b
  |int b=>obtain⟨t,rfl⟩:=rx;exact EqAt.int_int a t' b t
  |str b=>obtain⟨t,rfl⟩:=rx;exact EqAt.int_str a t' b t
  |_=>exact absurd (show false=true from fx) Bool.false_ne_true
 |str a =>
  obtain⟨t',rfl⟩:=ry;cases x with
  |non=>cases rx;exact EqAt.str_none a t'
  |bl b=>cases rx;exact EqAt.str_bool a t' b
  |int b=>obtain⟨t,rfl⟩:=rx;exact EqAt.str_int a t' b t
  |str b=>obtain⟨t,rfl⟩:=rx;exact EqAt.str_str a t' b t
  |_=>exact absurd (show false=true from fx) Bool.false_ne_true
 |_=>exact absurd (show false=true from fy) Bool.false_ne_true
def eqU(x:V)(u:Value):Bool:=match u with
 |.none=>eqV .non x
 |.bool b=>eqV (.bl b) x
 |.int i _=>eqV (.int i) x
 |.str z _=>eqV (.str z) x
 |_=>false
theorem qy{x y:V}{u:Value}(r:ax y u)(f:cG y=true):eqU x u=eqV y x:=by
 cases y with
 |non=>cases r;rfl
 |bl b=>cases r;rfl
 |int i=>obtain⟨t,rfl⟩:=r;rfl
 |str z=>obtain⟨t,rfl⟩:=r;rfl
 |_=>exact absurd (show false=true from f) Bool.false_ne_true
theorem kg{x:V}:∀{xs:List V}{us:List Value},ap xs us→xs.all cG=true→us.any (eqU x)=xs.any λy=>eqV y x
 |_,_,.nil,_=>rfl
 |y::xs,u::us,.cons r t,f=>by
  rw[List.all_cons,and_eq_true]at f;rw[any_cons,any_cons,qy r f.1,kg t f.2]
theorem il{A:Around}{s:Shared}{x:V}{v:Value}(rx:ax x v)(fx:cG x=true):∀{xs:List V}{us:List Value},ap xs us→xs.all cG=true→∀u∈us,EqAt A s u v (eqU x u)
 |_,_,.nil,_=>λu hu=>by cases hu
 |y::xs,u::us,.cons r t,f=>λu' hu=>by
  rw[List.all_cons,and_eq_true]at f;rcases mem_cons.mp hu with rfl|hu
  ·rw[qy r f.1];exact kd r rx f.1 fx
  ·exact il rx fx t f.2 u' hu
def inV(x:V)(xs:List V):Bool:=xs.any λy=>eqV y x
def rIn(K:PySem.W.Frag)(neg:Bool):R2:=λx y H Q=>∃p xs,y=.ref p∧(SqL K H p xs∨SqT K H p xs)∧cG x=true∧xs.all cG=true∧Q (.bl (if neg then !inV x xs else inV x xs)) H
theorem pG:OpR X (compareOp .In) (rIn X.K false):=by
 intro pins s σ H x y v u Q I rx ry h;obtain⟨p,xs,rfl,hq,fx,fs,q⟩:=h;cases ry;rcases hq with hq|hq
 ·obtain⟨its,r,pl,hz⟩:=I.list hq;refine SeqAt.in_listAt (eqU x) pl.isList (λw hw=>il rx fx r fs w (by simpa using hw)) ⟨.bl _,H,I,rfl,?_⟩;rw[show its.toArray.any (eqU x)=its.any (eqU x)by simp,kg r fs];exact q
 ·obtain⟨its,r,pl,hz⟩:=I.tuple hq;refine SeqAt.in_tupleAt (eqU x) pl (λw hw=>il rx fx r fs w (by simpa using hw)) ⟨.bl _,H,I,rfl,?_⟩;rw[show its.toArray.any (eqU x)=its.any (eqU x)by simp,kg r fs];exact q
theorem bf:dz X (.builtin "len") (λxs H Q=>∃p ys,xs=[.ref p]∧(SqL X.K H p ys∨SqT X.K H p ys)∧Q (.int ys.length) H):=by
 intro pins s σ H xs us Q I r h;obtain⟨p,ys,rfl,hq,q⟩:=h;obtain⟨u,rfl,rx⟩:=hX r;cases rx;have hn:=gg;rcases hq with hq|hq
 ·obtain⟨its,r',pl,hz⟩:=I.list hq;have hlen:=r'.length;exact Calls.call_len_list pl.isList (by simp only[size_toArray]<;>omega) ⟨.int ys.length,H,I.tok _,⟨s.toks+1,by rw[size_toArray,hlen]⟩,q⟩
 ·obtain⟨its,r',pl,hz⟩:=I.tuple hq;have hlen:=r'.length;exact len_tuple pl (by simp only[size_toArray]<;>omega) ⟨.int ys.length,H,I.tok _,⟨s.toks+1,by rw[size_toArray,hlen]⟩,q⟩
theorem bw:dz X (.type "tuple") (λxs H Q=>∃p ys,xs=[.ref p]∧((SqL X.K H p ys∧∀l,H l=none→Q (.ref l) (upd H l (.tup ys)))∨(SqT X.K H p ys∧Q (.ref p) H))):=by
 intro pins s σ H xs us Q I r h;obtain⟨p,ys,rfl,h⟩:=h;obtain⟨u,rfl,rx⟩:=hX r;cases rx;rcases h with⟨hq,q⟩|⟨hq,q⟩
 ·obtain⟨its,r',pl,hz⟩:=I.list hq;have hlen:=r'.length;refine call_tuple_list pl.isList (λh' kp=>?_) (by simp only[size_toArray]<;>omega);have I1:Inv X pins σ H {s with heap:=h'}:=I.kept (t':=s.toks) kp
  have I2:Inv X pins σ (upd H h'.objs.size (.tup ys)) {s with heap:=h'.push {cls:=.type "tuple",data:=.seq its.toArray}} :=
   I1.laid (t':=s.toks) (λb o e=>get?_push_of_some _ e) (le_refl _) (show bj X.prog X.w _ _ _ (.tup ys)from⟨hz,its,r',IsTup.new _ _⟩)
  exact⟨.ref h'.objs.size,_,I2,rfl,q _ (I1.hok.fresh (le_refl _))⟩
 ·obtain⟨its,r',pl,hz⟩:=I.tuple hq;exact call_tuple_same pl ⟨.ref p,H,I,rfl,q⟩
def tyV(K:PySem.W.Frag)(T:String)(x:V)(H:Hp):Prop:=match x with
 |.str _=>T="str"
 |.int _=>T="int"
 |.ref p=>(T="list"∧∃xs,SqL K H p xs)∨(T="tuple"∧∃o,K.lookup p=some o∧o.cls=.type "tuple"∧o.dict=none) ∨
   (T="dict"∧((∃kvs,H p=some (.dK kvs))∨∃kvs,H p=some (.dT kvs)))∨(T="set"∧∃S n,H p=some (.set S n))
 |_=>False
theorem qz{pins:List (Addr×Obj)}{σ:St}{H:Hp}{s:Shared}{T:String}{x:V}{v:Value}(I:Inv X pins σ H s)(r:ax x v)(ty:tyV X.K T x H):
  s.TypeIs v T∧∀a,v=.ref a→∃ob,s.heap.get? a=some ob∧ob.dict=none:=by
 cases x with
 |str z =>
  obtain⟨t,rfl⟩:=r;cases (show T="str" from ty);exact⟨typeIs_str s z t,λ_ e=>nomatch e⟩
 |int i =>
  obtain⟨t,rfl⟩:=r;cases (show T="int" from ty);exact⟨typeIs_int s i t,λ_ e=>nomatch e⟩
 |ref p =>
  cases r;rcases ty with⟨rfl,xs,hq⟩|⟨rfl,o,hk,hc,hd⟩|⟨rfl,hk⟩|⟨rfl,S,n,hk⟩
  ·obtain⟨its,_,pl,_⟩:=I.list hq;refine⟨pl.isList.typeIs,λa e=>?_⟩;cases e;obtain⟨o,n,e,c,hd,_⟩:=pl;exact⟨o,e,hd⟩
  ·refine⟨⟨o,I.kIn p o hk,hc⟩,λa e=>?_⟩;cases e;exact⟨o,I.kIn _ o hk,hd⟩
  ·have z:∃o,s.heap.get? p=some o∧o.ExactDict:=by
    rcases hk with⟨kvs,hk⟩|⟨kvs,hk⟩
    ·obtain⟨_,_,_,_,o,_,_,e,ex,_⟩:=I.hok p _ hk;exact⟨o,e,ex⟩
    ·obtain⟨_,_,_,_,o,_,_,e,ex,_⟩:=I.hok p _ hk;exact⟨o,e,ex⟩
   obtain⟨o,e,ex⟩:=z;refine⟨⟨o,e,ex.1⟩,λa e2=>?_⟩;cases e2;exact⟨o,e,ex.2.1⟩
  ·obtain⟨o,_,_,_,e,ex,_⟩:=I.hok p _ hk;refine⟨⟨o,e,ex.1⟩,λa e2=>?_⟩;cases e2;exact⟨o,e,ex.2.1⟩
 |_=>exact False.elim ty
def xQ(K:PySem.W.Frag)(T:String)(r:V→List V→Hp→VK→Prop)(to:TE):TE:=λσ H Q=>to σ H λx H1=>tyV K T x H1∧r x [] H1 Q
def tBM(K:PySem.W.Frag)(T:String)(r:V→List V→Hp→VK→Prop)(to:TE)(t:TA):TE:=λσ H Q=>to σ H λx H1=>tyV K T x H1∧t σ H1 λxs H2=>r x xs H2 Q
variable{o e:Expr}{es:List Expr}{to:TE}{t:TA}{name:Str}{apos cpos:Pos}{T id:String}{r:V→List V→Hp→VK→Prop}
theorem uX(pa:PlainAttrs T)(slot:Slot T name id)(hty:typeOf (.builtin id)=pure (.type "method_descriptor"))(hm:MtR X id r)(ho:PE X o to)(hbase:attributeBase o name X.env (eval o X.env)=eval o X.env:=by rfl)(hline:(apos.endLine==cpos.line)=true:=by rfl):PE X (.Call (.Attribute o name apos) [] [] cpos) (xQ X.K T r to):=by
 intro pins s σ H Q I h;refine wpAny_Call_method0_late hbase hline (thn (ho pins s σ H _ I h) λv s1 hpt=>?_);obtain⟨x,H1,I1,r1,ty,q1⟩:=hpt;obtain⟨h1,h2⟩:=qz I1 r1 ty;exact⟨T,id,pa,slot,hty,h1,h2,callWith_builtin rfl (PySem.evalArgs_none (hm pins s1 σ H1 x [] v [] Q I1 r1 .nil q1))⟩
theorem eZ(pa:PlainAttrs T)(slot:Slot T name id)(hty:typeOf (.builtin id)=pure (.type "method_descriptor"))(hm:MtR X id r)(ho:PE X o to)(ha:PA X (e::es) t)(hbase:attributeBase o name X.env (eval o X.env)=eval o X.env:=by rfl)(hfew:((backTo cpos (starEach (e::es) X.env)).all (λx=>!x.1)&&(backToKw cpos (keywordEach [] X.env)).all (λx=>x.1.isSome)
   && decide ((e::es).length+([]:List Keyword).length+(if ([]:List Keyword).isEmpty then 0 else 1)<30))=true:=by rfl)(hline:(apos.endLine==cpos.line)=true:=by rfl)(hs:starEach (e::es) X.env=(false,eval e X.env)::starEach es X.env:=by rfl)(hplain:(backTo cpos (starEach es X.env)).any (·.1)=false:=by rfl):
  PE X (.Call (.Attribute o name apos) (e::es) [] cpos) (tBM X.K T r to t):=by
 intro pins s σ H Q I h;refine wpAny_Call_method_late hbase hfew hline rfl (thn (ho pins s σ H _ I h) λv s1 hpt=>?_);obtain⟨x,H1,I1,r1,ty,q1⟩:=hpt;obtain⟨h1,h2⟩:=qz I1 r1 ty;refine⟨T,id,pa,slot,hty,h1,h2,?_⟩;have hA:=ha cpos pins s1 σ H1 _ I1 q1;rw[hs]at hA⊢;refine callWith_builtin (by show(false||(backTo cpos (starEach es X.env)).any (·.1))=false;rw[hplain]<;>rfl) (evalArgs_plain ?_);exact thn hA λus s2 ⟨vs,H2,I2,r2,q2⟩=>hm pins s2 σ H2 x vs v us Q I2 r1 r2 q2
end
def MtM(X:Cx)(id:String)(r:V→List V→Hp→VK→Prop):Prop :=
 ∀(pins:List (Addr×Obj))(s:Shared)(σ:St)(H:Hp)(x:V)(xs:List V)(v:Value)(us:List Value)(Q:VK),Inv X pins σ H s→ax x v→ap xs us→r x xs H Q →
  wpAny (model X.prog X.w) X.A (call (.builtin id) (v::us)) (EP X pins σ Q) X.xe s
theorem ap.one:∀{x:V}{us:List Value},ap [x] us→∃u,us=[u]∧ax x u
 |_,_,.cons r .nil=>⟨_,rfl,r⟩
theorem ap.two:∀{x y:V}{us:List Value},ap [x,y] us→∃u v,us=[u,v]∧ax x u∧ax y v
 |_,_,_,.cons r (.cons q .nil)=>⟨_,_,rfl,r,q⟩
theorem ap.zero:∀{us:List Value},ap [] us→us=[]
 |_,.nil=>rfl
theorem ap.dropLast{xs:List V}{us:List Value}(h:ap xs us):ap xs.dropLast us.dropLast:=by
 induction h with
 |nil=>exact .nil
 |cons r t ih =>
  cases t with
  |nil=>exact .nil
  |cons q t'=>exact .cons r ih
theorem ap.eraseIdx:∀{xs:List V}{us:List Value}(i:Nat),ap xs us→ap (xs.eraseIdx i) (us.eraseIdx i)
 |_,_,_,.nil=>.nil
 |_,_,0,.cons _ t=>t
 |_,_,i+1,.cons r t=>.cons r (ap.eraseIdx i t)
theorem nh{α:Type}(l:List α):l.eraseIdx (l.length-1)=l.dropLast:=by
 induction l with
 |nil=>rfl
 |cons a r ih =>
  cases r with
  |nil=>rfl
  |cons b r =>
   have e:(a::b::r).length-1=((b::r).length-1)+1:=by
    have h1:(a::b::r).length=r.length+2:=rfl;have h2:(b::r).length=r.length+1:=rfl;omega
   rw[e,List.eraseIdx_cons_succ,ih]
   all_goals rfl
theorem jo{α:Type}:∀(l:List α)(i:Nat),(l.eraseIdx i).length≤l.length
 |[],_=>le_refl _
 |_::_,0=>le_succ _
 |_::r,i+1=>Nat.succ_le_succ (jo r i)
section
variable{X:Cx}{pins:List (Addr×Obj)}{σ:St}{H:Hp}{s:Shared}{l b:Addr}{xs ys zs:List V}
theorem Inv.lset{its its':List Value}{n:Nat}{f:Array Value→Array Value}{t':Nat}(I:Inv X pins σ H s)(hH:H l=some (.lst xs))(e:s.heap.get? l=some {cls:=.type "list",data:=.seq its.toArray n})(hf:f its.toArray=its'.toArray)(hv:ap ys its')(hz:ys.length≤sizeLine):
  Inv X pins σ (upd H l (.lst ys)) {s with heap:=s.heap.update l (Obj.mapSeq f),toks:=t'}:=by
 have q:=PySem.IsL.update e f;rw[hf]at q;refine I.write (x:=l) (e:=l) (by rw[hH];exact trivial) (.inl rfl) (λb' u hb hu=>(Heap.get?_update_other s.heap (Obj.mapSeq f) (Ne.symm hb)).trans hu) ⟨_,q⟩ ?_;exact⟨hz,its',_,hv,q⟩
theorem Inv.lnew{its:List Value}{t':Nat}(I:Inv X pins σ H s)(hv:ap ys its)(hz:ys.length≤sizeLine):
  Inv X pins σ (upd H s.heap.objs.size (.lst ys)) {s with heap:=s.heap.push {cls:=.type "list",data:=.seq its.toArray},toks:=t'} :=
 I.laid (λ_ _ q=>get?_push_of_some _ q) (le_refl _) ⟨hz,its,0,hv,get?_push_size _ rfl⟩
theorem Inv.fresh(I:Inv X pins σ H s):H s.heap.objs.size=none:=I.hok.fresh (le_refl _)
theorem Inv.lstM(I:Inv X pins σ H s)(hH:H l=some (.lst xs)):xs.length≤sizeLine∧∃(its:List Value) (n:Nat),ap xs its∧xs.length=its.length∧s.heap.get? l=some {cls:=.type "list",data:=.seq its.toArray n}:=by
 obtain⟨z,its,n,r,e⟩:=I.hok l _ hH;exact⟨z,its,n,r,r.length,e⟩
def sQ:V→List V→Hp→VK→Prop:=λx vs H Q=>∃l xs y,x=.ref l∧vs=[y]∧H l=some (.lst xs)∧xs.length<sizeLine∧Q .non (upd H l (.lst (xs++[y])))
theorem br:MtM X "list.append" sQ:=by
 intro pins s σ H x vs v us Q I rx rv h;obtain⟨l,xs,y,rfl,rfl,hH,hz,q⟩:=h;cases rx;obtain⟨u,rfl,ru⟩:=rv.one;obtain⟨z,its,n,r,hl,e⟩:=I.lstM hH;refine call_meets F.slot_list_append ⟨_,e,rfl⟩ F.entry_list_append (F.args_list_append_2 _ _) (PySem.list_append l its.toArray n u (by rw[size_toArray];omega)) ⟨e,?_⟩;refine⟨.non,_,I.lset (its':=its++[u]) hH e (by simp) (r.append (.cons ru .nil)) ?_,rfl,q⟩;rw[length_append,length_singleton];omega
def xS:V→List V→Hp→VK→Prop:=λx vs H Q=>∃l xs y,x=.ref l∧vs=[]∧H l=some (.lst xs)∧xs[xs.length-1]?=some y∧Q y (upd H l (.lst xs.dropLast))
theorem uY:MtM X "list.pop" xS:=by
 intro pins s σ H x vs v us Q I rx rv h;obtain⟨l,xs,y,rfl,rfl,hH,hy,q⟩:=h;cases rx;have hus:=rv.zero;subst hus;obtain⟨z,its,n,r,hl,e⟩:=I.lstM hH;obtain⟨u,hu,ru⟩:=r.get hy;have hy':its.toArray[its.toArray.size-1]?=some u:=by
  show its.toArray[its.length-1]?=some u;rw[←getElem?_toList,←hl];exact hu
 refine call_meets F.slot_list_pop ⟨_,e,rfl⟩ F.entry_list_pop (F.args_list_pop_1 _) (MeetsSeq.list_pop_last l its.toArray n u hy' (by rw[size_toArray];omega)) ⟨e,?_⟩;refine⟨y,_,I.lset (its':=its.dropLast) hH e ?_ r.dropLast ?_,ru,q⟩
 ·show its.toArray.eraseIdxIfInBounds (its.toArray.size-1)=its.dropLast.toArray;rw[size_toArray,List.eraseIdxIfInBounds_toArray,nh]
 ·rw[List.length_dropLast];omega
def uZ:V→List V→Hp→VK→Prop:=λx vs H Q=>∃l xs i k y,x=.ref l∧vs=[.int i]∧H l=some (.lst xs)∧-(2 ^ 63)≤i∧i<2 ^ 63∧seqIndex? i xs.length=some k∧xs[k]?=some y∧Q y (upd H l (.lst (xs.eraseIdx k)))
theorem qA:MtM X "list.pop" uZ:=by
 intro pins s σ H x vs v us Q I rx rv h;obtain⟨l,xs,i,k,y,rfl,rfl,hH,h1,h2,hk,hy,q⟩:=h;cases rx;obtain⟨u,rfl,ru⟩:=rv.one;obtain⟨t,rfl⟩:=ru;obtain⟨z,its,n,r,hl,e⟩:=I.lstM hH;obtain⟨w,hw,rw'⟩:=r.get hy;refine call_meets F.slot_list_pop ⟨_,e,rfl⟩ F.entry_list_pop (F.args_list_pop_2 _ _)
  (MeetsSeq.list_pop_at l its.toArray n i t k w (fitsIndex_both h1 h2) (by rw[size_toArray,←hl];exact hk) (by rw[←getElem?_toList];exact hw) (by rw[size_toArray];omega)) ⟨e,?_⟩
 refine⟨y,_,I.lset (its':=its.eraseIdx k) hH e ?_ (r.eraseIdx k) ?_,rw',q⟩
 ·show its.toArray.eraseIdxIfInBounds k=(its.eraseIdx k).toArray;rw[List.eraseIdxIfInBounds_toArray]
 ·have:=jo xs k;omega
def xT:R2:=λx y H Q=>∃l b xs zs,x=.ref l∧y=.ref b∧H l=some (.lst xs)∧H b=some (.lst zs)∧xs.length+zs.length≤sizeLine∧∀p,H p=none→Q (.ref p) (upd H p (.lst (xs++zs)))
theorem va:OpR X (binaryOp .Add) xT:=by
 intro pins s σ H x y v u Q I rx ry h;obtain⟨l,b,xs,zs,rfl,rfl,hH,hB,hz,q⟩:=h;cases rx;cases ry;obtain⟨z,its,n,r,hl,e⟩:=I.lstM hH;obtain⟨z2,its2,n2,r2,hl2,e2⟩:=I.lstM hB;refine PySem.P.add_list e e2 ?_ (by rw[size_toArray,size_toArray];omega);have ea:its.toArray++its2.toArray=(its++its2).toArray:=by simp
 rw[ea];exact⟨.ref _,_,I.lnew (t':=s.toks) (r.append r2) (by rw[length_append];omega),rfl,q _ I.fresh⟩
end
section
variable{prog:Program}{w:World}{A:Around}{E:Value→Shared→Prop}{s:Shared}
end
section
variable{X:Cx}
end
section
variable{κ:Type}[DecidableEq κ]
def aS(kvs:List (κ×V))(k:κ):Option V:=(kvs.find? λkv=>decide (kv.1=k)).map (·.2)
def cH(kvs:List (κ×V))(k:κ)(v:V):List (κ×V) :=
 if (kvs.any λkv=>decide (kv.1=k))=true then kvs.map (λkv=>if kv.1=k then (kv.1,v)else kv)else kvs++[(k,v)]
def cx(kvs:List (κ×V))(k:κ):List (κ×V):=kvs.filter λkv=>decide (kv.1≠k)
theorem aQ{p:κ×V}{r:List (κ×V)}{k:κ}(e:p.1=k):aS (p::r) k=some p.2:=by simp[aS,find?_cons,e]
theorem aK{p:κ×V}{r:List (κ×V)}{k:κ}(e:¬p.1=k):aS (p::r) k=aS r k:=by simp[aS,find?_cons,e]
theorem fb(k:κ):∀kvs:List (κ×V),(kvs.any λkv=>decide (kv.1=k))=(aS kvs k).isSome
 |[]=>rfl
 |p::r=>by
  rw[any_cons]
  by_cases e:p.1=k
  ·simp only[aQ e,decide_eq_true e,Bool.true_or,Option.isSome_some]
  ·rw[aK e,decide_eq_false e,Bool.false_or];exact fb k r
theorem li(k j:κ)(y:V):∀kvs:List (κ×V),aS (kvs.map λkv=>if kv.1=k then (kv.1,y)else kv) j=(aS kvs j).map λx=>if j=k then y else x
 |[]=>rfl
 |p::r=>by
  have ih:=li k j y r;rw[map_cons]
  by_cases h:p.1=k
  ·rw[if_pos h]
   by_cases e:p.1=j
   ·rw[aQ (p:=(p.1,y)) e,aQ e,map_some,if_pos (e.symm.trans h)]
   ·rw[aK (p:=(p.1,y)) e,aK e,ih]
  ·rw[if_neg h]
   by_cases e:p.1=j
   ·rw[aQ (p:=p) e,aQ e,map_some,if_neg (λz=>h (e.trans z))]
   ·rw[aK (p:=p) e,aK e,ih]
theorem jp(k j:κ)(y:V):∀kvs:List (κ×V),aS kvs k=none→aS (kvs++[(k,y)]) j=if j=k then some y else aS kvs j
 |[],_=>by
  by_cases e:k=j
  ·rw[if_pos e.symm];exact aQ (p:=(k,y)) e
  ·rw[if_neg (λz=>e z.symm)];exact aK (p:=(k,y)) e
 |p::r,hn=>by
  rw[List.cons_append];have hk:¬p.1=k:=λz=>by rw[aQ z]at hn;cases hn
  rw[aK hk]at hn;have ih:=jp k j y r hn
  by_cases e:p.1=j
  ·rw[aQ e,aQ e,if_neg (λz=>hk (e.trans z))]
  ·rw[aK e,aK e,ih]
theorem lj(kvs:List (κ×V))(k j:κ)(y:V):aS (cH kvs k y) j=if j=k then some y else aS kvs j:=by
 unfold cH
 by_cases a:(kvs.any λkv=>decide (kv.1=k))=true
 ·rw[if_pos a,li];rw[fb]at a
  by_cases e:j=k
  ·obtain⟨x,hx⟩:=Option.isSome_iff_exists.mp a;rw[if_pos e,e,hx,map_some,if_pos rfl]
  ·rw[if_neg e];cases aS kvs j with
   |none=>rfl
   |some x=>rw[map_some,if_neg e]
 ·rw[if_neg a];refine jp k j y kvs ?_;rw[fb]at a;cases q:aS kvs k with
  |none=>rfl
  |some x=>rw[q]at a;exact(a rfl).elim
theorem cM(kvs:List (κ×V))(k:κ)(v:V):(cH kvs k v).length≤kvs.length+1:=by
 unfold cH
 split
 ·rw[length_map];omega
 ·rw[length_append,length_cons,length_nil];omega
theorem cU.isSome_eq{o:Option V}{u:Option Value}(r:cU o u):o.isSome=u.isSome:=by
 cases o with
 |none=>cases u with
  |none=>rfl
  |some _=>exact(show False from r).elim
 |some _=>cases u with
  |none=>exact(show False from r).elim
  |some _=>rfl
theorem cU.getD{o:Option V}{u:Option Value}{d:V}{d':Value}(r:cU o u)(rd:ax d d'):ax (o.getD d) (u.getD d'):=by
 cases o with
 |none=>cases u with
  |none=>exact rd
  |some _=>exact(show False from r).elim
 |some _=>cases u with
  |none=>exact(show False from r).elim
  |some _=>exact r
theorem KV.val{kvs:List (κ×V)}{vs:List (κ×Value)}(r:KV kvs vs)(k:κ):cU (aS kvs k) (valueAt vs k):=by
 unfold KV at r
 induction r with
 |nil=>exact True.intro
 |@cons p q ps qs h t ih =>
  obtain⟨h1,h2⟩:=h
  by_cases e:p.1=k
  ·have e':q.1=k:=h1.symm.trans e;have b:valueAt (q::qs) k=some q.2:=by simp[valueAt,find?_cons,e']
   rw[aQ e,b];exact h2
  ·have e':¬q.1=k:=λz=>e (h1.trans z);have b:valueAt (q::qs) k=valueAt qs k:=by simp[valueAt,find?_cons,e']
   rw[aK e,b];exact ih
theorem KV.any{kvs:List (κ×V)}{vs:List (κ×Value)}(r:KV kvs vs)(k:κ):(kvs.any λkv=>decide (kv.1=k))=vs.any λkv=>decide (kv.1=k):=by
 unfold KV at r
 induction r with
 |nil=>rfl
 |cons h t ih=>rw[any_cons,any_cons,ih,h.1]
theorem KV.repl{kvs:List (κ×V)}{vs:List (κ×Value)}(r:KV kvs vs)(k:κ){y:V}{u:Value}(ry:ax y u):
  KV (kvs.map λkv=>if kv.1=k then (kv.1,y)else kv) (vs.map λkv=>if kv.1=k then (kv.1,u)else kv):=by
 unfold KV at r⊢
 induction r with
 |nil=>exact .nil
 |@cons p q ps qs h t ih =>
  rw[map_cons,map_cons];refine .cons ?_ ih;obtain⟨h1,h2⟩:=h
  by_cases e:p.1=k
  ·rw[if_pos e,if_pos (h1.symm.trans e)];exact⟨h1,ry⟩
  ·rw[if_neg e,if_neg (λz=>e (h1.trans z))];exact⟨h1,h2⟩
theorem KV.put{kvs:List (κ×V)}{vs:List (κ×Value)}(r:KV kvs vs)(k:κ){y:V}{u:Value}(ry:ax y u):KV (cH kvs k y) (stored vs k u):=by
 unfold cH stored;rw[r.any k]
 by_cases e:(vs.any λkv=>decide (kv.1=k))=true
 ·rw[if_pos e,if_pos e];exact r.repl k ry
 ·rw[if_neg e,if_neg e];exact Paired.snoc r ⟨rfl,ry⟩
theorem KV.drop{kvs:List (κ×V)}{vs:List (κ×Value)}(r:KV kvs vs)(k:κ):KV (cx kvs k) (without vs k):=by
 unfold KV at r⊢;unfold cx without
 induction r with
 |nil=>exact .nil
 |@cons p q ps qs h t ih =>
  obtain⟨h1,h2⟩:=h;rw[filter_cons,filter_cons]
  by_cases e:p.1=k
  ·have a:¬decide (p.1≠k)=true:=by simp[e]
   have b:¬decide (q.1≠k)=true:=by simp[h1.symm.trans e]
   rw[if_neg a,if_neg b];exact ih
  ·have e':¬q.1=k:=λz=>e (h1.trans z);have a:decide (p.1≠k)=true:=by simp[e]
   have b:decide (q.1≠k)=true:=by simp[e']
   rw[if_pos a,if_pos b];exact .cons ⟨h1,h2⟩ ih
theorem KV.length{kvs:List (κ×V)}{vs:List (κ×Value)}(r:KV kvs vs):kvs.length=vs.length:=Paired.length r
theorem ll(kvs:List (κ×V))(k:κ):(cx kvs k).length≤kvs.length:=length_filter_le _ _
end
theorem dA{P:Program}{w:World}{k:Key}{u:Value}(r:ax (kV k) u):(aB P w).is k u=true:=by
 cases k with
 |inl i=>obtain⟨t,e⟩:=(show ∃t,u=Value.int i t from r);subst e;exact kX P w i t
 |inr x=>obtain⟨t,e⟩:=(show ∃t,u=Value.str x t from r);subst e;exact kY P w x t
theorem jq{P:Program}{w:World}:∀{ks:List Key}{us:List Value},ap (ks.map kV) us→ItemsAre (aB P w) ks us
 |[],_,r=>by rw[map_nil]at r;cases r;exact .nil
 |k::ks,_,r=>by
  rw[map_cons]at r;cases r with
  |cons h t=>exact .cons (dA h) (jq t)
abbrev KT(H:Hp):List (List Key×V)→List (List Key×Addr×Value)→Prop:=Paired λp q=>p.1=q.1∧H q.2.1=some (.tup (p.1.map kV))∧ax p.2 q.2.2
theorem KT.val{H:Hp}{kvs:List (List Key×V)}{xs:List (List Key×Addr×Value)}(r:KT H kvs xs)(k:List Key):cU (aS kvs k) ((atKey xs k).map (·.2)):=by
 induction r with
 |nil=>exact True.intro
 |@cons p q ps qs h t ih =>
  obtain⟨h1,_,h2⟩:=h
  by_cases e:p.1=k
  ·have e':q.1=k:=h1.symm.trans e;have b:atKey (q::qs) k=some q.2:=by simp[atKey,find?_cons,e']
   rw[aQ e,b];exact h2
  ·have e':¬q.1=k:=λz=>e (h1.trans z);have b:atKey (q::qs) k=atKey qs k:=by simp[atKey,find?_cons,e']
   rw[aK e,b];exact ih
theorem KT.repl{H:Hp}{kvs:List (List Key×V)}{xs:List (List Key×Addr×Value)}(r:KT H kvs xs)(k:List Key){y:V}{u:Value}(ry:ax y u):
  KT H (kvs.map λkv=>if kv.1=k then (kv.1,y)else kv) (xs.map (putAt k u)):=by
 induction r with
 |nil=>exact .nil
 |@cons p q ps qs h t ih =>
  rw[map_cons,map_cons];refine .cons ?_ ih;obtain⟨h1,h2,h3⟩:=h;unfold putAt
  by_cases e:p.1=k
  ·rw[if_pos e,if_pos (h1.symm.trans e)];exact⟨h1,h2,ry⟩
  ·rw[if_neg e,if_neg (λz=>e (h1.trans z))];exact⟨h1,h2,h3⟩
theorem KT.put{H:Hp}{kvs:List (List Key×V)}{xs:List (List Key×Addr×Value)}(r:KT H kvs xs)(k:List Key){b:Addr}{y:V}{u:Value}(hb:H b=some (.tup (k.map kV)))(ry:ax y u):
  KT H (cH kvs k y) (storedH xs k b u):=by
 have e:(kvs.any λkv=>decide (kv.1=k))=(atKey xs k).isSome:=by
  rw[fb,(r.val k).isSome_eq,isSome_map]
 unfold cH storedH;rw[e]
 by_cases q:(atKey xs k).isSome=true
 ·rw[if_pos q,if_pos q];exact r.repl k ry
 ·rw[if_neg q,if_neg q];exact Paired.snoc r ⟨rfl,hb,ry⟩
theorem KT.keeps{H H':Hp}{kvs:List (List Key×V)}{xs:List (List Key×Addr×Value)}(r:KT H kvs xs)(ht:∀b ys,H b=some (.tup ys)→H' b=some (.tup ys)):KT H' kvs xs :=
 Paired.mapP r λ_ _ z=>⟨z.1,ht _ _ z.2.1,z.2.2⟩
section
variable{P:Program}{w:World}{H:Hp}{h:Heap}{a:Addr}
theorem ux{u:HO}(ok:HOk P w H h)(e:Rd H a u):bj P w H h a u:=e.ok ok
theorem gI{kvs:List (Key×V)}(ok:HOk P w H h)(e:Rd H a (.dK kvs)):kvs.length≤sizeLine∧(a==sysModules)=false∧∃vs,KV kvs vs∧h.DictOf (aB P w) a vs :=
 show bj P w H h a (.dK kvs)from ux ok e
theorem oB{kvs:List (Key×V)}(ok:HOk P w H h)(e:H a=some (.dK kvs)):kvs.length≤sizeLine∧(a==sysModules)=false∧∃vs,KV kvs vs∧h.DictOf (aB P w) a vs:=gI ok (.inl e)
theorem eJ{ks:List Key}(ok:HOk P w H h)(e:H a=some (.tup (ks.map kV))):(tupleKind (aB P w)).is h ks a:=by
 obtain⟨_,its,r,o,h1,h2,n,h3⟩:=(show bj P w H h a (.tup (ks.map kV))from ok a _ e);exact⟨o,its.toArray,n,h1,h2,h3,by simpa using jq r⟩
theorem gJ{kvs:List (List Key×V)}(ok:HOk P w H h)(e:Rd H a (.dT kvs)):kvs.length≤sizeLine∧(a==sysModules)=false ∧
  ∃xs,KT H kvs xs∧h.DictOfH (tupleKind (aB P w)) a xs:=by
 obtain⟨z,y,xs,r,o,es,ep,h1,h2,h3,h4,h5⟩:=(show bj P w H h a (.dT kvs)from ux ok e);refine⟨z,y,xs,r,o,es,ep,h1,h2,h3,h4,λx hx=>?_,h5⟩;have all:∀{l:List (List Key×V)}{m:List (List Key×Addr×Value)},KT H l m→∀x∈m,(tupleKind (aB P w)).is h x.1 x.2.1:=by
  intro l m q
  induction q with
  |nil=>intro x hx;exact nomatch hx
  |@cons p q ps qs hq t ih =>
   intro x hx;rcases mem_cons.mp hx with e|hx
   ·subst e;exact eJ ok (by rw[←hq.1];exact hq.2.1)
   ·exact ih x hx
 exact all r x hx
theorem wS{kvs:List (List Key×V)}(ok:HOk P w H h)(e:H a=some (.dT kvs)):kvs.length≤sizeLine∧(a==sysModules)=false ∧
  ∃xs,KT H kvs xs∧h.DictOfH (tupleKind (aB P w)) a xs:=gJ ok (.inl e)
end
def cK(H:Hp)(a:Addr)(y:V)(r:Option V):Prop :=
 (∃kvs k,Rd H a (.dK kvs)∧y=kV k∧r=aS kvs k)∨∃kvs k b,Rd H a (.dT kvs)∧y=.ref b∧H b=some (.tup (k.map kV))∧r=aS kvs k
def qB(H:Hp)(a:Addr)(y v:V)(H':Hp):Prop :=
 (∃kvs k,H a=some (.dK kvs)∧y=kV k∧kvs.length<sizeLine∧H'=upd H a (.dK (cH kvs k v))) ∨
 ∃kvs k b,H a=some (.dT kvs)∧y=.ref b∧H b=some (.tup (k.map kV))∧kvs.length<sizeLine∧H'=upd H a (.dT (cH kvs k v))
theorem cK.k{H:Hp}{a:Addr}{kvs:List (Key×V)}{k:Key}(e:H a=some (.dK kvs)):cK H a (kV k) (aS kvs k):=.inl ⟨kvs,k,.inl e,rfl,rfl⟩
theorem qB.k{H:Hp}{a:Addr}{kvs:List (Key×V)}{k:Key}{v:V}(e:H a=some (.dK kvs))(hl:kvs.length<sizeLine):qB H a (kV k) v (upd H a (.dK (cH kvs k v))):=.inl ⟨kvs,k,e,rfl,hl,rfl⟩
section
variable{X:Cx}{pins:List (Addr×Obj)}{σ:St}{H:Hp}{s:Shared}{a:Addr}{y v:V}{u r:Value}{o:Option V}{A:Around}{E:Value→Shared→Prop}
theorem Inv.big(I:Inv X pins σ H s):sysModules<s.heap.objs.size:=by
 have h:mainGlobals<s.heap.objs.size:=(I.mod.glob.keeps I.bk).lt;exact lt_trans (by decide) h
theorem pH{Q:Value→Shared→Prop}(hu:A.units+1<cLine)(I:Inv X pins σ H s)(g:cK H a y (some v))(ry:ax y u)(h:∀w' s',Inv X pins σ H s'→ax v w'→Q w' s'):
  wpAny (model X.prog X.w) A (getItem (.ref a) u) Q E s:=by
 rcases g with⟨kvs,k,e,ey,l⟩|⟨kvs,k,b,e,ey,eb,l⟩
 ·subst ey;obtain⟨z,hd,vs,rel,dd⟩:=gI I.hok e;obtain⟨w',hw,rw'⟩:=cU.some_of (v:=v) (o:=valueAt vs k) (by rw[l];exact rel.val k);exact wpAny_getItem_of (dA ry) dd.mapOf hw (h w' _ (I.tok _) rw')
 ·subst ey;cases (show u=Value.ref b from ry);obtain⟨z,hd,xs,rel,dd⟩:=gJ I.hok e;obtain⟨w',hw,rw'⟩:=cU.some_of (v:=v) (o:=(atKey xs k).map (·.2)) (by rw[l];exact rel.val k);obtain⟨p,hp,hp2⟩:=Option.map_eq_some_iff.mp hw;refine wpAny_getItem_heap (tupleKind_room_in1 hu) (eJ I.hok eb) dd hp ?_;rw[hp2];exact h w' _ (I.tok _) rw'
theorem xU{Q:Value→Shared→Prop}(hu:A.units+1<cLine)(I:Inv X pins σ H s)(g:cK H a y o)(ry:ax y u)(h:∀s',Inv X pins σ H s'→Q (.bool o.isSome) s'):
  wpAny (model X.prog X.w) A (compareOp .In u (.ref a)) Q E s:=by
 rcases g with⟨kvs,k,e,ey,l⟩|⟨kvs,k,b,e,ey,eb,l⟩
 ·subst ey;obtain⟨z,hd,vs,rel,dd⟩:=gI I.hok e;refine wpAny_in_of (dA ry) hd dd.mapOf ?_;rw[←(rel.val k).isSome_eq,←l];exact h _ (I.tok _)
 ·subst ey;cases (show u=Value.ref b from ry);obtain⟨z,hd,xs,rel,dd⟩:=gJ I.hok e;refine wpAny_in_heap (tupleKind_room_in1 hu) (eJ I.hok eb) hd dd ?_;have q:=(rel.val k).isSome_eq;rw[isSome_map]at q;rw[←q,←l];exact h _ (I.tok _)
theorem sR{Q:Value→Shared→Prop}(hu:A.units+1<cLine)(I:Inv X pins σ H s)(g:cK H a y o)(ry:ax y u)(h:∀s',Inv X pins σ H s'→Q (.bool (!o.isSome)) s'):
  wpAny (model X.prog X.w) A (compareOp .NotIn u (.ref a)) Q E s:=by
 rcases g with⟨kvs,k,e,ey,l⟩|⟨kvs,k,b,e,ey,eb,l⟩
 ·subst ey;obtain⟨z,hd,vs,rel,dd⟩:=gI I.hok e;refine wpAny_notIn_of (dA ry) hd dd.mapOf ?_;rw[←(rel.val k).isSome_eq,←l];exact h _ (I.tok _)
 ·subst ey;cases (show u=Value.ref b from ry);obtain⟨z,hd,xs,rel,dd⟩:=gJ I.hok e;refine wpAny_notIn_heap (tupleKind_room_in1 hu) (eJ I.hok eb) hd dd ?_;have q:=(rel.val k).isSome_eq;rw[isSome_map]at q;rw[←q,←l];exact h _ (I.tok _)
theorem gU{h':Heap}{t':Nat}{ob:HO}(I:Inv X pins σ H s)(mu:Mut (H a))(hs:SameBut a s.heap h')(he:∃q,h'.get? a=some q)(new:bj X.prog X.w (upd H a ob) h' a ob):
  Inv X pins σ (upd H a ob) {s with heap:=h',toks:=t'} :=
 I.write (x:=a) (e:=a) mu (.inl rfl) (λb q hb z=>(hs.2 b hb).trans z) he new
theorem kh{P:Program}{w:World}{H':Hp}{h':Heap}{kvs:List (Key×V)}{vs:List (Key×Value)}(z:kvs.length≤sizeLine)(hd:(a==sysModules)=false)(rel:KV kvs vs)(dd:h'.DictOf (aB P w) a vs):
  bj P w H' h' a (.dK kvs):=⟨z,hd,vs,rel,dd⟩
theorem pI{H':Hp}{Q:Unit→Shared→Prop}(hu:A.units+1<cLine)(I:Inv X pins σ H s)(g:qB H a y v H')(ry:ax y u)(rv:ax v r)(h:∀s',Inv X pins σ H' s'→Q () s'):
  wpAny (model X.prog X.w) A (setItem (.ref a) u r) Q E s:=by
 rcases g with⟨kvs,k,e,ey,l,eH⟩|⟨kvs,k,b,e,ey,eb,l,eH⟩
 ·subst ey eH;obtain⟨z,hd,vs,rel,dd⟩:=oB I.hok e;have hz:vs.length≤sizeLine:=by rw[←rel.length];exact z
  have hl:(cH kvs k v).length≤sizeLine:=by have:=cM kvs k v;omega
  refine wpAny_setItem_pairs (hsz:=hz) (dA ry) dd λh' dd' hs=>h _ ?_;have he:∃q,h'.get? a=some q:=let⟨q,_,_,hq,_⟩:=dd';⟨q,hq⟩;exact gU I (by rw[e];exact True.intro) hs he (kh hl hd (rel.put k rv) dd')
 ·subst ey eH;cases (show u=Value.ref b from ry);obtain⟨z,hd,xs,rel,dd⟩:=wS I.hok e;have hz:xs.length≤sizeLine:=by rw[←Paired.length rel];exact z
  have hl:(cH kvs k v).length≤sizeLine:=by have:=cM kvs k v;omega
  refine wpAny_setItem_heap (hsz:=hz) (tupleKind_room_in1 hu) (eJ I.hok eb) dd λh' dd' hs=>h _ ?_;obtain⟨q,es,ep,hq,h2,h3,h4,_,h5⟩:=dd';refine gU I (by rw[e];exact True.intro) hs ⟨q,hq⟩ ⟨hl,hd,_,(rel.put k eb rv).keeps λc ys ec=>?_,q,es,ep,hq,h2,h3,h4,h5⟩;rw[ai (nX ec e (λz=>nomatch z))];exact ec
end
section
variable{X:Cx}{pins:List (Addr×Obj)}{σ:St}{H:Hp}{s:Shared}{a:Addr}{kvs:List (Key×V)}{k:Key}{u:Value}{A:Around}{E:Value→Shared→Prop}
theorem wT{v:V}{more:List Value}{Q:Value→Shared→Prop}(I:Inv X pins σ H s)(e:H a=some (.dK kvs))(ry:ax (kV k) u)(l:aS kvs k=some v)(hm:more=[]∨∃x,more=[x])(h:∀w' s',Inv X pins σ (upd H a (.dK (cx kvs k))) s'→ax v w'→Q w' s'):wpAny (model X.prog X.w) A (call (.builtin "dict.pop") (.ref a::u::more)) Q E s:=by
 obtain⟨z,hd,vs,rel,dd⟩:=oB I.hok e;obtain⟨w',hw,rw'⟩:=cU.some_of (v:=v) (o:=valueAt vs k) (by rw[←l];exact rel.val k);have hp:(keyPart u).isSome=true:=by
  cases k with
  |inl i=>obtain⟨t,q⟩:=(show ∃t,u=Value.int i t from ry);subst q;rfl
  |inr x=>obtain⟨t,q⟩:=(show ∃t,u=Value.str x t from ry);subst q;rfl
 have ha:argsOk "dict.pop" ⟨.ref a::u::more,[]⟩:=by
  rcases hm with q|⟨x,q⟩
  ·subst q;exact PySem.F.args_dict_pop_2 _ _
  ·subst q;exact PySem.F.args_dict_pop_3 _ _ _
 refine call_meetsIn slot_dict_pop dd.typeIs PySem.F.entry_dict_pop ha (meets_dict_pop_there (aB X.prog X.w) a (dA ry) more hm hp)
  ⟨vs,w',dd,by rw[←rel.length];exact z,hw,λh' dd' hs=>h w' _ ?_ rw'⟩
 have he:∃q,h'.get? a=some q:=let⟨q,_,_,hq,_⟩:=dd';⟨q,hq⟩;exact gU I (by rw[e];exact True.intro) hs he (kh (le_trans (ll kvs k) z) hd (rel.drop k) dd')
theorem vb{r:Value}{Q:Value→Shared→Prop}(I:Inv X pins σ H s)(e:H a=some (.dK kvs))(ry:ax (kV k) u)(l:aS kvs k=none)(h:∀s',Inv X pins σ H s'→Q r s'):
  wpAny (model X.prog X.w) A (call (.builtin "dict.pop") [.ref a,u,r]) Q E s:=by
 obtain⟨z,hd,vs,rel,dd⟩:=oB I.hok e;have hn:valueAt vs k=none:=cU.none_of (by rw[←l];exact rel.val k);have hp:(keyPart u).isSome=true:=by
  cases k with
  |inl i=>obtain⟨t,q⟩:=(show ∃t,u=Value.int i t from ry);subst q;rfl
  |inr x=>obtain⟨t,q⟩:=(show ∃t,u=Value.str x t from ry);subst q;rfl
 exact call_meetsIn slot_dict_pop dd.typeIs PySem.F.entry_dict_pop (PySem.F.args_dict_pop_3 _ _ _) (meets_dict_pop_default (aB X.prog X.w) a (dA ry) hd hp r) ⟨vs,dd,hn,h _ (I.tok _)⟩
end
def wU(i:Expr):Prop:=∀ov iv,subscripted i false ov iv=operate [ov,iv] (getItem ov iv)
theorem sS{prog:Program}{w:World}{A:Around}{E:Value→Shared→Prop}{s:Shared}{env:Env}{value slice:Expr}{pos:Pos}{T id:String}{Q:Value→Shared→Prop}(hl:typeLookup (.type T) "__getitem__"=pure (some (.builtin id)))(hs:wU slice)(h:wpAny (model prog w) A (eval value env) (λo s₁=>wpAny (model prog w) A (eval slice env) (λi s₂=>s₂.TypeIs o T∧wpAny (model prog w) A (getItem o i) Q E s₂) E s₁) E s):
  wpAny (model prog w) A (eval (.Subscript value slice pos) env) Q E s:=by
 refine Subscript_ (wpAny_mono h (λo s₁ h₁=>wpAny_mono h₁ (λi s₂ h₂=>?_) λ_ _ x=>x) λ_ _ x=>x);obtain⟨hT,h₂⟩:=h₂;unfold subscriptTail;refine wpAny_bind ?_;rw[getitemInPython_of_ne hT.not_modules];refine wpAny_bind (wpAny_specialOf hT hl ?_);have fin:wpAny (model prog w) A (subscripted slice false o i) (λr s₃=>wpAny (model prog w) A (letTemporaryGo value o r >>= λ_=>pure r) Q E s₃) E s₂:=by
  rw[hs o i];exact wpAny_operating (wpAny_mono h₂ (λr s₃ h₃=>wpAny_bind (wpAny_letTemporaryGo (wpAny_pure h₃))) λ_ _ x=>x)
 first
  |exact wpAny_pure (wpAny_bind fin)
  |exact wpAny_bind (wpAny_pure (wpAny_bind fin))
  |exact wpAny_bind fin
theorem lm{X:Cx}{pins:List (Addr×Obj)}{σ:St}{H:Hp}{s:Shared}{a:Addr}{y:V}{o:Option V}(I:Inv X pins σ H s)(g:cK H a y o):s.TypeIs (.ref a) "dict":=by
 rcases g with⟨kvs,k,e,_,_⟩|⟨kvs,k,b,e,_,_,_⟩
 ·obtain⟨_,_,vs,_,dd⟩:=gI I.hok e;exact dd.typeIs
 ·obtain⟨_,_,xs,_,dd⟩:=gJ I.hok e;exact dd.typeIs
def wV(td ty:TE):TE:=λσ H Q=>td σ H λx H1=>ty σ H1 λy H2=>∃a v,x=.ref a∧cK H2 a y (some v)∧Q v H2
def xV(ty td:TE):TE:=λσ H Q=>ty σ H λy H1=>td σ H1 λx H2=>∃a o,x=.ref a∧cK H2 a y o∧Q (.bl o.isSome) H2
def sT(ty td:TE):TE:=λσ H Q=>ty σ H λy H1=>td σ H1 λx H2=>∃a o,x=.ref a∧cK H2 a y o∧Q (.bl (!o.isSome)) H2
def wW(td ty tv:TE):TS:=λD σ H=>tv σ H λv H1=>td σ H1 λx H2=>ty σ H2 λy H3=>∃a H4,x=.ref a∧qB H3 a y v H4∧D.nx σ H4
section
variable{X:Cx}{o i e value:Expr}{pos pos' tpos:Pos}{td ty tv:TE}
theorem sU(hu:X.A.units+1<cLine)(ho:PE X o td)(hi:PE X i ty)(hs:wU i):PE X (.Subscript o i pos) (wV td ty):=by
 intro pins s σ H Q I h;refine sS PySem.F.slot_dict_getitem.lookup hs (thn (ho pins s σ H _ I h) λu s1 ⟨x,H1,I1,rx,q1⟩=>thn (hi pins s1 σ H1 _ I1 q1) λiv s2 hpt=>?_);obtain⟨y,H2,I2,ry,a,v,ex,g,q2⟩:=hpt;subst ex;obtain rfl:u=Value.ref a:=rx;exact⟨lm I2 g,pH hu I2 g ry λw' s3 I3 rw'=>⟨v,H2,I3,rw',q2⟩⟩
theorem gn(hu:X.A.units+1<cLine)(hi:PE X i ty)(ho:PE X o td):PC X .In i o (xV ty td):=by
 intro pins s σ H Q I h;refine thn (hi pins s σ H _ I h) λiv s1 ⟨y,H1,I1,ry,q1⟩=>thn (ho pins s1 σ H1 _ I1 q1) λu s2 hpt=>?_;obtain⟨x,H2,I2,rx,a,ov,ex,g,q2⟩:=hpt;subst ex;obtain rfl:u=Value.ref a:=rx;exact xU hu I2 g ry λs3 I3=>⟨.bl ov.isSome,H2,I3,rfl,q2⟩
theorem gp(hu:X.A.units+1<cLine)(hi:PE X i ty)(ho:PE X o td):PC X .NotIn i o (sT ty td):=by
 intro pins s σ H Q I h;refine thn (hi pins s σ H _ I h) λiv s1 ⟨y,H1,I1,ry,q1⟩=>thn (ho pins s1 σ H1 _ I1 q1) λu s2 hpt=>?_;obtain⟨x,H2,I2,rx,a,ov,ex,g,q2⟩:=hpt;subst ex;obtain rfl:u=Value.ref a:=rx;exact sR hu I2 g ry λs3 I3=>⟨.bl (!ov.isSome),H2,I3,rfl,q2⟩
theorem sV(hu:X.A.units+1<cLine)(ho:PE X o td)(hi:PE X i ty)(hv:PE X value tv)(hs:swapsWith value (some (.Subscript o i pos')) pos.line X.env=pure false):
  PS X (.Assign [.Subscript o i pos'] value pos) (wW td ty tv):=by
 intro pins s σ H D I h;refine wpAny_Assign_Subscript (thn (hv pins s σ H _ I h) λr s1 ⟨v,H1,I1,rv,q1⟩=>thn (ho pins s1 σ H1 _ I1 q1) λu s2 ⟨x,H2,I2,rx,q2⟩=>thn (hi pins s2 σ H2 _ I2 q2) λiv s3 ⟨y,H3,I3,ry,a,H4,ex,g,q3⟩=>?_) hs;subst ex;obtain rfl:u=Value.ref a:=rx;exact pI hu I3 g ry rv λs4 I4=>⟨σ,H4,I4,q3⟩
end
theorem qD{P:Program}{w:World}{H:Hp}(h:Heap)(hb:sysModules<h.objs.size):bj P w H (h.push {cls:=.type "dict",data:=.dict #[]}) h.objs.size (.dK []) :=
 ⟨zero_le _,beq_eq_false_iff_ne.mpr (Ne.symm (ne_of_lt hb)),[],.nil,Heap.DictOf.new h⟩
def vc:TE:=λ_ H Q=>∀p,H p=none→Q (.ref p) (upd H p (.dK []))
section
variable{X:Cx}{pos:Pos}
theorem ln:PE X (.Dict [] [] pos) vc:=λpins s σ H Q I h =>
 wpAny_Dict_empty ⟨.ref s.heap.objs.size,_,I.laid (a:=s.heap.objs.size) (o:=.dK []) (t':=s.toks) (λ_ _ q=>get?_push_of_some _ q) (le_refl _) (qD s.heap I.big),rfl,h _ (I.hok.fresh (le_refl _))⟩
end
structure M1(X:Cx)(o:Expr)(m:Str)(apos:Pos)(e:Expr)(cpos:Pos):Prop where
 base:attributeBase o m X.env (eval o X.env)=eval o X.env
 few:((backTo cpos (starEach [e] X.env)).all (λx=>!x.1)&&(backToKw cpos (keywordEach [] X.env)).all (λx=>x.1.isSome)
  && decide (([e]:List Expr).length+([]:List Keyword).length+(if ([]:List Keyword).isEmpty then 0 else 1)<30))=true
 line:(apos.endLine==cpos.line)=true
 trees:backTo cpos (starEach [e] X.env)=[(false,eval e X.env)]
structure M2(X:Cx)(o:Expr)(m:Str)(apos:Pos)(e f:Expr)(cpos:Pos):Prop where
 base:attributeBase o m X.env (eval o X.env)=eval o X.env
 few:((backTo cpos (starEach [e,f] X.env)).all (λx=>!x.1)&&(backToKw cpos (keywordEach [] X.env)).all (λx=>x.1.isSome)
  && decide (([e,f]:List Expr).length+([]:List Keyword).length+(if ([]:List Keyword).isEmpty then 0 else 1)<30))=true
 line:(apos.endLine==cpos.line)=true
 trees:backTo cpos (starEach [e,f] X.env)=[(false,eval e X.env),(false,eval f X.env)]
def IsD(H:Hp)(a:Addr):Prop:=(∃kvs,Rd H a (.dK kvs))∨∃kvs,Rd H a (.dT kvs)
theorem nn{X:Cx}{pins:List (Addr×Obj)}{σ:St}{H:Hp}{s:Shared}{a:Addr}(I:Inv X pins σ H s)(d:IsD H a):
  s.TypeIs (.ref a) "dict"∧(∀b,Value.ref a=.ref b→∃ob,s.heap.get? b=some ob∧ob.dict=none)∧(a==sysModules)=false:=by
 rcases d with⟨kvs,e⟩|⟨kvs,e⟩
 ·obtain⟨_,hd,vs,_,dd⟩:=gI I.hok e;refine⟨dd.typeIs,λb q=>?_,hd⟩;cases q;obtain⟨ob,_,_,h1,h2,_⟩:=dd;exact⟨ob,h1,h2.2.1⟩
 ·obtain⟨_,hd,xs,_,dd⟩:=gJ I.hok e;refine⟨dd.typeIs,λb q=>?_,hd⟩;cases q;obtain⟨ob,_,_,h1,h2,_⟩:=dd;exact⟨ob,h1,h2.2.1⟩
section
variable{X:Cx}{pins:List (Addr×Obj)}{σ:St}{H:Hp}{s:Shared}{a:Addr}{y d:V}{u r:Value}{o:Option V}{A:Around}{E:Value→Shared→Prop}
theorem vd{Q:Value→Shared→Prop}(hu:A.units+1<cLine)(I:Inv X pins σ H s)(g:cK H a y o)(ry:ax y u)(h:∀w' s',Inv X pins σ H s'→ax (o.getD .non) w'→Q w' s'):
  wpAny (model X.prog X.w) A (call (.builtin "dict.get") [.ref a,u]) Q E s:=by
 rcases g with⟨kvs,k,e,ey,l⟩|⟨kvs,k,b,e,ey,eb,l⟩
 ·subst ey;obtain⟨z,hd,vs,rel,dd⟩:=gI I.hok e;refine call_meetsIn slot_dict_get dd.typeIs entry_dict_get (PySem.F.args_dict_get_2 _ _) (meets_dict_get (aB X.prog X.w) a (dA ry) hd) ⟨_,dd.mapOf,h _ _ (I.tok _) ?_⟩;rw[l];exact(rel.val k).getD rfl
 ·subst ey;cases (show u=Value.ref b from ry);obtain⟨z,hd,xs,rel,dd⟩:=gJ I.hok e;refine call_meetsIn slot_dict_get dd.typeIs entry_dict_get (PySem.F.args_dict_get_2 _ _) (meetsH_dict_get (tupleKind (aB X.prog X.w)) a b hd) ⟨tupleKind_room_in1 hu,k,xs,eJ I.hok eb,dd,h _ _ (I.tok _) ?_⟩;rw[l];exact(rel.val k).getD rfl
theorem ve{Q:Value→Shared→Prop}(hu:A.units+1<cLine)(I:Inv X pins σ H s)(g:cK H a y o)(ry:ax y u)(rd:ax d r)(h:∀w' s',Inv X pins σ H s'→ax (o.getD d) w'→Q w' s'):
  wpAny (model X.prog X.w) A (call (.builtin "dict.get") [.ref a,u,r]) Q E s:=by
 rcases g with⟨kvs,k,e,ey,l⟩|⟨kvs,k,b,e,ey,eb,l⟩
 ·subst ey;obtain⟨z,hd,vs,rel,dd⟩:=gI I.hok e;refine call_meetsIn slot_dict_get dd.typeIs entry_dict_get (PySem.F.args_dict_get_3 _ _ _) (meets_dict_get_default (aB X.prog X.w) a (dA ry) hd r) ⟨_,dd.mapOf,h _ _ (I.tok _) ?_⟩;rw[l];exact(rel.val k).getD rd
 ·subst ey;cases (show u=Value.ref b from ry);obtain⟨z,hd,xs,rel,dd⟩:=gJ I.hok e;refine call_meetsIn slot_dict_get dd.typeIs entry_dict_get (PySem.F.args_dict_get_3 _ _ _) (meetsH_dict_get_default (tupleKind (aB X.prog X.w)) a b hd r) ⟨tupleKind_room_in1 hu,k,xs,eJ I.hok eb,dd,h _ _ (I.tok _) ?_⟩;rw[l];exact(rel.val k).getD rd
end
def vf(td ty:TE):TE:=λσ H Q=>td σ H λx H1=>∃a,x=.ref a∧IsD H1 a∧ty σ H1 λy H2=>∃o,cK H2 a y o∧Q (o.getD .non) H2
def vg(td ty tx:TE):TE:=λσ H Q=>td σ H λx H1=>∃a,x=.ref a∧IsD H1 a∧ty σ H1 λy H2=>tx σ H2 λz H3=>∃o,cK H3 a y o∧Q (o.getD z) H3
def vh(td ty tx:TE):TE:=λσ H Q=>td σ H λx H1=>∃a,x=.ref a∧IsD H1 a∧ty σ H1 λy H2=>tx σ H2 λz H3=>∃kvs k,H3 a=some (.dK kvs)∧y=kV k ∧
 (∀v,aS kvs k=some v→Q v (upd H3 a (.dK (cx kvs k))))∧(aS kvs k=none→Q z H3)
section
variable{X:Cx}{o e f:Expr}{apos cpos:Pos}{td ty tx:TE}
theorem fc(hu:X.A.units+1<cLine)(ho:PE X o td)(he:PE X e ty)(m:M1 X o "get" apos e cpos):PE X (.Call (.Attribute o "get" apos) [e] [] cpos) (vf td ty):=by
 intro pins s σ H Q I h;refine wpAny_Call_method m.base m.few m.line plainAttrs_dict slot_dict_get type_dict_get (thn (ho pins s σ H _ I h) λu s1 hpt=>?_);obtain⟨x,H1,I1,rx,a,ex,d,q1⟩:=hpt;subst ex;obtain rfl:u=Value.ref a:=rx;obtain⟨t1,t2,_⟩:=nn I1 d;refine⟨t1,t2,?_⟩;rw[m.trees];refine callWith_builtin rfl (evalArgs_plain (spliced_cons (thn (he pins s1 σ H1 _ I1 q1) λiv s2 ⟨y,H2,I2,ry,ov,g,q2⟩=>spliced_nil ?_)));exact vd hu I2 g ry λw' s3 I3 rw'=>⟨_,H2,I3,rw',q2⟩
theorem lp(hu:X.A.units+1<cLine)(ho:PE X o td)(he:PE X e ty)(hf:PE X f tx)(m:M2 X o "get" apos e f cpos):PE X (.Call (.Attribute o "get" apos) [e,f] [] cpos) (vg td ty tx):=by
 intro pins s σ H Q I h;refine wpAny_Call_method m.base m.few m.line plainAttrs_dict slot_dict_get type_dict_get (thn (ho pins s σ H _ I h) λu s1 hpt=>?_);obtain⟨x,H1,I1,rx,a,ex,d,q1⟩:=hpt;subst ex;obtain rfl:u=Value.ref a:=rx;obtain⟨t1,t2,_⟩:=nn I1 d;refine⟨t1,t2,?_⟩;rw[m.trees];refine callWith_builtin rfl (evalArgs_plain (spliced_cons (thn (he pins s1 σ H1 _ I1 q1) λiv s2 ⟨y,H2,I2,ry,q2⟩ =>
  spliced_cons (thn (hf pins s2 σ H2 _ I2 q2) λfv s3 ⟨z,H3,I3,rz,ov,g,q3⟩=>spliced_nil ?_))))
 exact ve hu I3 g ry rz λw' s4 I4 rw'=>⟨_,H3,I4,rw',q3⟩
theorem qF(ho:PE X o td)(he:PE X e ty)(hf:PE X f tx)(m:M2 X o "pop" apos e f cpos):PE X (.Call (.Attribute o "pop" apos) [e,f] [] cpos) (vh td ty tx):=by
 intro pins s σ H Q I h;refine wpAny_Call_method m.base m.few m.line plainAttrs_dict slot_dict_pop PySem.F.type_dict_pop (thn (ho pins s σ H _ I h) λu s1 hpt=>?_);obtain⟨x,H1,I1,rx,a,ex,d,q1⟩:=hpt;subst ex;obtain rfl:u=Value.ref a:=rx;obtain⟨t1,t2,_⟩:=nn I1 d;refine⟨t1,t2,?_⟩;rw[m.trees];refine callWith_builtin rfl (evalArgs_plain (spliced_cons (thn (he pins s1 σ H1 _ I1 q1) λiv s2 ⟨y,H2,I2,ry,q2⟩ =>
  spliced_cons (thn (hf pins s2 σ H2 _ I2 q2) λfv s3 ⟨z,H3,I3,rz,kvs,k,ea,ey,q3,q4⟩=>spliced_nil ?_))))
 subst ey;cases l:aS kvs k with
 |some v=>exact wT I3 ea ry l (.inr ⟨fv,rfl⟩) λw' s4 I4 rw'=>⟨v,_,I4,rw',q3 v l⟩
 |none=>exact vb I3 ea ry l λs4 I4=>⟨z,H3,I4,rz,q4 l⟩
end
section
variable{X:Cx}{pins:List (Addr×Obj)}{σ:St}{H:Hp}{s:Shared}{a:Addr}{kvs:List (Key×V)}{A:Around}{E:Value→Shared→Prop}
end
section
variable{X:Cx}{pins:List (Addr×Obj)}{σ:St}{H:Hp}{s:Shared}{a:Addr}{y:V}{u:Value}{A:Around}{E:Value→Shared→Prop}
end
end L2
namespace Att
open PySem PySem.W PySem.Calls PyProof.Rows
theorem gQ{P:Params}{h:Heap}:∀(ns:List Int)(vs:List Value),WellAll P h vs (ns.map WData.int)→IntsAre vs ns:=by
 intro ns
 induction ns with
 |nil =>
  intro vs w;rw[map_nil]at w;cases w;exact .nil
 |cons n ns ih =>
  intro vs w;rw[map_cons]at w;cases w with
  |cons a b =>
   cases a;exact .cons _ _ (ih _ b)
theorem pJ{l:OpenLaw}{n:Nat}(hn:l.most=some n){P:Params}{h:Heap}{args:List WData}{vals:List Value}(hpre:l.row.toRowW.claim.pre args=true)(hwl:WellAll P h vals args):
  ∃a vs ns,vals=[Value.ref a]∧args=[WData.list (ns.map WData.int)]∧h.get? a=some {cls:=.type "list",data:=.seq vs.toArray}∧IntsAre vs ns∧ns.length≤n:=by
 have hsh:WShape.hasAll [] args [.list .int]=true:=(pre_splitW hpre).1;have hc:l.pre.holds [] {args:=args}=true:=(pre_splitW hpre).2;obtain⟨d,r,rfl,h1,h2⟩:=hasAllW_cons hsh;obtain rfl:=hasAllW_nil h2;obtain⟨xs,rfl,h3⟩:=hasW_list h1;obtain⟨ns,rfl⟩:=items_int h3;have hlen:ns.length≤n:=by
  unfold OpenLaw.pre at hc;have h4:(WTm.not (.lt (.lit (.int (n:Int))) (.len (.arg 0)))).holds [] {args:=[.list (ns.map .int)]}=true:=by
   have h4:=(holds_andW hc).1;rw[hn]at h4;exact h4
  have h5:=condW_of h4 (w_not (w_lt w_lit (w_len_list (w_arg rfl))));rw[length_map]at h5;refine Nat.le_of_not_lt λq=>?_;have q':(n:Int)<((ns.length:Nat):Int):=by omega
  first
   |(rw[decide_eq_true q']at h5;exact absurd h5 (by decide))
   |(simp at h5;omega)
 cases hwl with
 |cons w1 w2 =>
  cases w2;cases w1 with
  |list ho hall=>exact⟨_,_,ns,rfl,rfl,ho,gQ ns _ hall,hlen⟩
theorem pK(l:OpenLaw)(args:List WData):l.row.toRowW.claim.post args (.bool true) args=true :=
 postW_of (r:=l.row.toRowW) (X:=(true==true))
  (show WShape.has [] (.bool true) .bool=true by first|rfl|decide|simp[WShape.has,WShape.arms,WShape.armsAll])
  (show(WTm.eq .res (.lit (.bool true))).value [] {args:=args,res:=some (.bool true),after:=args}=some (.bool (true==true))from w_eq_bool (w_res rfl) w_lit) rfl
theorem lr{l:OpenLaw}{n:Nat}{q:Program}{loose:List Str}{XP:(Str→Option Value)→Heap→Prop}{YP:World→Heap→Prop}{d:DefRec}(hn:l.most=some n)(hdf:d.params.defaults=[])(call:∀(w:World) (s₀ s₁:Shared) (mg mb:Str→Option Value) (fa:Addr) (o:Obj) (pm cd doc:Value) (a:Addr) (vs:List Value) (ns:List Int),
   Ground q loose [] XP w s₀ mg mb s₁.heap→YP w s₁.heap →
   s₁.heap.get? fa=some o→o.data=.func (docDef d.name d.params d.body d.scope pm cd doc)→s₁.heap.CodeRec cd d.name→mg d.name=some (.ref fa) →
   s₁.heap.get? a=some {cls:=.type "list",data:=.seq vs.toArray}→IntsAre vs ns→ns.length≤n→s₁.gens=#[] →
   codeAny (model l.prog w) callerA (.call (.ref fa) ⟨[.ref a],[]⟩) (λr s'=>r=.ok (.ret (.bool true))∧OldK s₁.heap s'.heap∧s'.os=s₁.os∧AllBare s'.gens) s₁):
  WalkO q loose XP YP l.row.toRowW d [] (λf vs=>PySem.call f vs):=by
 intro w s₀ s₁ mg mb G Y fa o pm cd doc dV kV ho hd hcd hD hmg hg args vals as hpre hlay hrd hwl hlo;obtain rfl:dV=.none:=Dflts.none hD hdf;obtain rfl:kV=.none:=Dflts.noKw hD;obtain⟨a,vs,ns,rfl,rfl,hobj,hints,hlen⟩:=pJ hn hpre hwl;refine enter_call (codeAny_mono (call w s₀ s₁ mg mb fa o pm cd doc a vs ns G Y ho (fd_plain hd) hcd hmg hobj hints hlen hg) λr s' hq=>?_);obtain⟨rfl,h2,h3,h4⟩:=hq;exact⟨.inl ⟨.bool true,.bool true,[],rfl,λ_=>rfl,.bool true,pK l _,λ_=>⟨Pairwise.nil,λ_ hm=>(nomatch hm)⟩⟩,h2,h3,h4⟩
section
variable{prog:Program}{w:World}{A:Around}{E:Value→Shared→Prop}{s:Shared}{K:Frag}
end
end Att
namespace L2
open PySem PySem.Spec PyProof.Rows
theorem jr:∀{vs:List Value}{ns:List Int},IntsAre vs ns→ap (ns.map V.int) vs
 |_,_,.nil=>.nil
 |_,_,.cons n t h=>.cons ⟨t,rfl⟩ (jr h)
def vi(H:Hp):Prop:=∀b,H b=none∨∃o xs,H b=some (.frz o (.lst xs))
theorem qG{P:Program}{w:World}{K:PySem.W.Frag}{mg mb:Str→Option Value}{CX:CXT}{k:Nat}{fa a:Addr}{fd:FuncData}{x:Str}{sp:Sp}{s₁:Shared}{vs:List Value}{ns:List Int}(KX:K.In s₁.heap)(hns:s₁.heap.Ns mainGlobals mg)(hb:s₁.heap.Ns builtinsNs mb)(hbb:∀x:Str,x≠"__name__"→mb x=bootBuiltins x)(hlim:s₁.heap.NoLimit)(hg:s₁.gens=#[])(ha:s₁.heap.get? a=some {cls:=.type "list",data:=.seq vs.toArray})(hi:IntsAre vs ns)(hl:ns.length≤sizeLine)(hr:Room k callerA)(F:∀base:Heap,K.In base→base.Ns mainGlobals mg→FnOk P w K mg base CX k fa fd [x] sp)(hbind:∀(s:Shared) (u:Value),BindsTo s fd ⟨[u],[]⟩ [(x,u)])(hsp:∀H:Hp,vi H→SqL K H a (ns.map V.int)→sp [.ref a] H (λv _=>v=.bl true) λ_ _ _=>False)(hCX:∀H e s',CX [] H s₁ (λ_ _ _=>False) e s'→False):
  codeAny (model P w) callerA (.call (.ref fa) ⟨[.ref a],[]⟩) (λr s'=>r=.ok (.ret (.bool true))∧OldK s₁.heap s'.heap∧s'.os=s₁.os∧AllBare s'.gens) s₁:=by
 have rv:=jr hi;have lenV:=hi.length;have core:∀H:Hp,vi H→SqL K H a (ns.map V.int)→HOk P w H s₁.heap→(∀b,H b≠none→b=a)→(H a≠none→K.lookup a=none) →
   codeAny (model P w) callerA (.call (.ref fa) ⟨[.ref a],[]⟩) (λr s'=>r=.ok (.ret (.bool true))∧OldK s₁.heap s'.heap∧s'.os=s₁.os∧AllBare s'.gens) s₁:=by
  intro H hO hS hok hA hK;have base_of:∀{b:Addr}{o:Obj},s₁.heap.get? b=some o→H b=none→(jO s₁.heap H).get? b=some o:=λe n=>qe e n;have noA:∀{b:Addr}{o:Obj}{es:Array DictEntry}{ep:Nat},s₁.heap.get? b=some o→o.data=.dict es ep→H b=none:=λ{b o es ep} e d=>by
   cases q:H b with
   |none=>rfl
   |some u =>
    have e':b=a:=hA b (by rw[q];simp);subst e';rw[ha]at e;cases e;have d':Data.seq vs.toArray _=Data.dict es ep:=d;cases d'
  have nsK:∀{b:Addr}{m:Str→Option Value},s₁.heap.Ns b m→(jO s₁.heap H).Ns b m:=λ{b m} ⟨o,es,ep,e,d,r⟩=>⟨o,es,ep,base_of e (noA e d),d,r⟩;have hKb:K.In (jO s₁.heap H):=λb o e=>base_of (KX b o e) (by
   cases q:H b with
   |none=>rfl
   |some u =>
    have e':b=a:=hA b (by rw[q];simp);subst e';rw[hK (by rw[q];simp)]at e;cases e)
  have hM:Mod K mg (jO s₁.heap H):=⟨hKb,nsK hns,⟨mb,nsK hb,hbb⟩,let⟨mc,h1,h2⟩:=hlim;⟨mc,nsK h1,h2⟩⟩;have e0:Env0 P w K mg (jO s₁.heap H) callerA [] s₁ H:=⟨rfl,hM,λb o e=>sF e,Nat.le_of_eq (py _ _),trivial,λb hb=>absurd (show b∈([]:List Addr)from hb) (by simp),hok,.of_eq hg⟩;refine codeAny_mono ((F _ hKb (nsK hns)).run callerA [] s₁ H ⟨[.ref a],[]⟩ [.ref a] [.ref a] _ _ hr e0 (hbind s₁ (.ref a)) (.cons rfl .nil) (hsp H hO hS)) λr s' h=>?_;cases r with
  |error e=>exact(hCX H e s' h).elim
  |ok fl =>
   cases fl with
   |next=>exact False.elim h
   |brk=>exact False.elim h
   |cont=>exact False.elim h
   |ret u =>
    obtain⟨v,H',os,bare,un,hok',r',q⟩:=h;have q':v=.bl true:=q;subst q';obtain rfl:u=Value.bool true:=r';refine⟨rfl,OldK.of_keep λb o e=>?_,os,bare⟩;cases q:H b with
    |none=>exact un.keep b o e q (by intro z;exact absurd (show b∈([]:List Addr)from z) (by simp)) (by simp)
    |some u =>
     rcases hO b with z|⟨ob,xs,z⟩
     ·rw[q]at z;cases z
     ·have z2:=un.frzs b ob _ z;obtain⟨e1,_⟩:=hok b _ z;obtain⟨e2,_⟩:=hok' b _ z2;rw[e]at e1;cases e1;exact e2
 cases hk:K.lookup a with
 |some o =>
  have e:=KX a o hk;rw[ha]at e;cases e;refine core (λ_=>none) (λ_=>.inl rfl) (.inr ⟨_,vs.toArray,_,hk,rfl,rfl,rfl,by rw[size_toArray,lenV];exact hl,by simpa using rv⟩) (λb u z=>by have z':(none:Option HO)=some u:=z;cases z') (λb z=>absurd rfl z) λz=>absurd rfl z
 |none =>
  refine core (λb=>if b=a then some (.frz {cls:=.type "list",data:=.seq vs.toArray} (.lst (ns.map V.int)))else none) (λb=>?_) (.inl (.inr ⟨{cls:=.type "list",data:=.seq vs.toArray},if_pos rfl⟩)) (λb u z=>?_) (λb z=>?_) λ_=>hk
  ·by_cases hb:b=a
   ·exact .inr ⟨_,_,if_pos hb⟩
   ·exact .inl (if_neg hb)
  ·by_cases hb:b=a
   ·have z':=(if_pos hb).symm.trans z;cases z';subst hb;exact⟨ha,by rw[length_map];exact hl,vs,_,rv,ha⟩
   ·have z':=(if_neg hb).symm.trans z;cases z'
  ·by_cases hb:b=a
   ·exact hb
   ·exact absurd (if_neg hb) z
theorem sW{l:PySem.W.OpenLaw}{n k:Nat}{q:Program}{loose:List Str}{XP:(Str→Option Value)→Heap→Prop}{YP:World→Heap→Prop}{d:DefRec}{K:Params→PySem.W.Frag}{CX:World→CXT}{sp:World→Sp}{x:Str}(hn:l.most=some n)(hn2:n≤sizeLine)(hdf:d.params.defaults=[])(hr:Room k callerA)(hY:∀(w:World) (h:Heap),YP w h→(K w.params).In h)(F:∀(w:World) (mg:Str→Option Value) (fa:Addr) (h:Heap),(K w.params).In h→h.Ns mainGlobals mg→mg d.name=some (.ref fa) →
   ∃fd:FuncData,(∀(s:Shared) (u:Value),BindsTo s fd ⟨[u],[]⟩ [(x,u)]) ∧
    ∀base:Heap,(K w.params).In base→base.Ns mainGlobals mg→FnOk l.prog w (K w.params) mg base (CX w) k fa fd [x] (sp w))(hsp:∀(w:World) (H:Hp) (a:Addr) (ns:List Int),ns.length≤n→vi H→SqL (K w.params) H a (ns.map V.int)→sp w [.ref a] H (λv _=>v=.bl true) λ_ _ _=>False)(hCX:∀(w:World) (H:Hp) (s:Shared) (e:Value) (s':Shared),CX w [] H s (λ_ _ _=>False) e s'→False):
  PySem.W.WalkO q loose XP YP l.row.toRowW d [] (λf vs=>PySem.call f vs):=by
 refine Att.lr hn hdf λw s₀ s₁ mg mb fa o pm cd doc a vs ns G Y ho hd hcd hmg hobj hints hlen hg=>?_;have KX:=hY w _ Y;obtain⟨fd,hb,hF⟩:=F w mg fa _ KX G.T.g hmg;exact qG KX G.T.g G.T.b G.T.builtins G.T.nolimit hg hobj hints (le_trans hlen hn2) hr hF hb (λH hO hS=>hsp w H a ns hlen hO hS) λH e s'=>hCX w H s₁ e s'
def dU(s:Stmt)(j:Nat):Stmt:=match s with
 |.ClassDef _ _ _ body _ _ _ _ _ _ _=>body.getD j (.Pass ⟨0,0,0,0⟩)
 |_=>.Pass ⟨0,0,0,0⟩
def cz(s:Stmt):Arguments:=match s with
 |.FunctionDef _ a _ _ _ _ _ _ _ _=>a
 |_=>{posonlyargs:=[],args:=[],vararg:=none,kwonlyargs:=[],kw_defaults:=[],kwarg:=none,defaults:=[]}
def bn(s:Stmt):List Stmt:=match s with
 |.FunctionDef _ _ b _ _ _ _ _ _ _=>b
 |_=>[]
def ah(s:Stmt):Scope:=match s with
 |.FunctionDef _ _ _ _ _ _ sc _ _ _=>sc
 |_=>{kind:=.function,names:=[],isGenerator:=false,isCoroutine:=false}
abbrev CX0:CXT:=λ_ _ _ _ _ _=>False
abbrev E0:XK:=λ_ _ _=>False
theorem aI{X:Cx}:dj CX0 X E0:=λ_ _ _ _ _ _ _ h=>h.elim
structure Fun(K:PySem.W.Frag)(x qual:Str)(st:Stmt)(f:Addr)(fd:FuncData):Prop where
 ex:∃(oc:Value) (od:Option Addr) (kV doc pm:Value) (an:Option Addr) (cdv ct:Value) (osl:Array (Option Value)),
  fd=fnOf x qual (cz st) (bn st) (ah st) .none kV doc pm an cdv ct∧K.lookup f=some ⟨oc,od,.func fd,osl⟩∧codeIn K cdv qual=true
 kp:keepIn K (.ref f)=true
section
variable{P:Program}{w:World}{K:PySem.W.Frag}{mg:Str→Option Value}{base:Heap}
theorem Fun.ok{x qual:Str}{st:Stmt}{f:Addr}{fd:FuncData}{N ps:List Str}{k:Nat}{sp:Sp}(F:Fun K x qual st f fd)(S:FnScope N ps (ah st))(len:∀vs H Q E,sp vs H Q E→vs.length=ps.length)(hbody:∀(cdv:Value) (A:Around) (outer:List Env) (s:Shared) (H:Hp) (vs:List V) (Q:VK) (E:XK),Room k (A.deeper (envOfC qual (ah st) s.heap.objs.size f cdv))→sp vs H Q E →
   ∃t,PSs (ic CX0 P w K mg base N qual (ah st) f cdv A outer s H E).nox (bn st) t∧t {nx:=λ_ H'=>Q .non H',rt:=Q} (start N vs) H):FnOk P w K mg base CX0 (k+1) f fd ps sp:=by
 obtain⟨oc,od,kV,doc,pm,an,cdv,ct,osl,rfl,lk,hcd⟩:=F.ex;refine uw lk hcd S len λA outer s H vs Q E hr hsp=>?_;obtain⟨t,h,q⟩:=hbody cdv A outer s H vs Q E hr hsp;exact⟨t,h.nox,q⟩
theorem Fun.binds{x qual:Str}{st:Stmt}{f:Addr}{fd:FuncData}{ps:List Str}(F:Fun K x qual st f fd)(h:∀(kV doc pm:Value) (an:Option Addr) (cdv ct:Value) (us:List Value),us.length=ps.length→bindArgs (fnOf x qual (cz st) (bn st) (ah st) .none kV doc pm an cdv ct) ⟨us,[]⟩=pure (ps.zip us)):aG K fd ps []:=by
 obtain⟨oc,od,kV,doc,pm,an,cdv,ct,osl,rfl,lk,hcd⟩:=F.ex;exact .all (h kV doc pm an cdv ct)
theorem eK{x qual:Str}{st:Stmt}{f:Addr}{oc:Value}{od an:Option Addr}{osl:Array (Option Value)}{kV doc pm cdv ct:Value}(l:K.lookup f=some ⟨oc,od,.func (fnOf x qual (cz st) (bn st) (ah st) .none kV doc pm an cdv ct),osl⟩)(c:codeIn K cdv qual=true)(k:keepIn K (.ref f)=true):Fun K x qual st f (fnOf x qual (cz st) (bn st) (ah st) .none kV doc pm an cdv ct):=⟨⟨oc,od,kV,doc,pm,an,cdv,ct,osl,rfl,l,c⟩,k⟩
end
theorem bO{A:Around}{k:Nat}(hr:Room k A):A.units+1<cLine:=lt_of_le_of_lt (Nat.add_le_add_left (by decide:1≤64) _) hr.units
theorem ar{n:Nat}(h:n≤1000):n<sizeLine:=lt_of_le_of_lt h (by decide)
section
variable{X:Cx}
theorem pv(i:Nat){x:Str}{pos:Pos}(hN:X.N[i]?=some x:=by rfl)(hv:Vis X.env.scope x:=by first|exact Or.inl rfl|exact Or.inr (Or.inl rfl)|exact Or.inr (Or.inr rfl))(hd:(x==("__debug__":Str))=false:=by decide)(hcd:(x==("__classdict__":Str))=false:=by decide):PE X (.Name x pos) (eA i):=uK hN hv hd hcd
end
theorem aP{A B:Prop}(h:B):if false=true then A else B:=by
 rw[if_neg Bool.false_ne_true];exact h
theorem bh{A B:Prop}(h:A):if true=true then A else B:=by
 rw[if_pos rfl];exact h
def Same(H H':Hp):Prop:=∀b o,H b=some o→H' b=some o
theorem Same.refl(H:Hp):Same H H:=λ_ _ h=>h
theorem Same.trans{H H1 H2:Hp}(a:Same H H1)(b:Same H1 H2):Same H H2:=λc o h=>b c o (a c o h)
theorem Same.free{H H':Hp}(e:Same H H'){l:Addr}(h:H' l=Option.none):H l=Option.none:=by
 cases q:H l with
 |none=>rfl
 |some o =>
  rw[e l o q]at h;cases h
theorem Same.seq{K:PySem.W.Frag}{H H':Hp}{a:Addr}{xs:List V}(e:Same H H')(h:SqL K H a xs):SqL K H' a xs:=by
 rcases h with (h|⟨o,h⟩)|h
 ·exact .inl (.inl (e _ _ h))
 ·exact .inl (.inr ⟨o,e _ _ h⟩)
 ·exact .inr h
section
variable{κ:Type}[DecidableEq κ]
theorem pL{p:κ×V}{r:List (κ×V)}{k:κ}(e:p.1=k):cx (p::r) k=cx r k:=by
 unfold cx;rw[filter_cons,if_neg (by simp[e])]
theorem pM{p:κ×V}{r:List (κ×V)}{k:κ}(e:¬p.1=k):cx (p::r) k=p::cx r k:=by
 unfold cx;rw[filter_cons,if_pos (by simp[e])]
end
structure LcOk(X:Cx)(scope:Scope)(cl:List (Str×Addr)):Prop where
 kind:scope.kind=.function
 clos:closureFor scope X.env=pure cl
 names:∀x∈scope.names,x.2=.local→scope.names.lookup x.1=some .local
 nocell:∀x∈scope.names,x.2≠.cell
 cells:∀x c,cl.lookup x=some c→X.env.cells.lookup x=some c
 has:∀x,((relabel scope X.env).names.lookup x=some .cell∨(relabel scope X.env).names.lookup x=some .free)→∃c,cl.lookup x=some c
abbrev dB(X:Cx)(N:List Str)(scope:Scope)(cl:List (Str×Addr))(s:Shared)(H:Hp)(ex:List Addr):Cx :=
 {X with N:=N,s₀:=s,H₀:=H,env:=compEnvC scope cl s.heap.objs.size X.env,outer:=X.stack,stack:=X.stack,ex:=ex,fn:=λ_=>false,pn:=[],xe:=λ_ _=>False}
section
variable{X:Cx}{pins:List (Addr×Obj)}{σ:St}{H:Hp}{s:Shared}{N:List Str}{scope:Scope}{cl:List (Str×Addr)}{fp:List Addr}
theorem qH(I:Inv X pins σ H s)(L:LcOk X scope cl)(hf:∀b∈fp,fZ X pins H b)(ho:∀b∈fp,b<s.heap.objs.size):(dB X N scope cl s H fp).Ok where
 mod:=I.ok.mod
 kind:=L.kind
 glob:=I.ok.glob
 blt:=I.ok.blt
 above:=le_refl _
 inj:=λx y c h1 h2=>I.ok.inj x y c (L.cells x c h1) (L.cells y c h2)
 has:=λx hx=>L.has x hx
 cab:=λx c h _=>absurd h (by simp)
 hd:=I.ok.hd
 frames:=I.ok.frames
 stk:=.inl rfl
 exf:=λb hb=>⟨ne_of_lt (ho b hb),λx c h=>(hf b hb).2.2.2.2.1 x c (L.cells x c h)⟩
 bs:=I.bs
 bsz:=le_trans I.ok.bsz I.sz
 noex:=λb o e hb=>by
  rcases (hf b hb).2.2.2.1 with z|z
  ·exact I.ok.noex b o e z
  ·exact absurd (lt_of_lt_of_le (lt_size e) (le_trans I.ok.bsz z)) (lt_irrefl _)
 exfs:=λb hb hs=>by
  rcases mem_cons.mp (I.stkSub b hs)with z|z
  ·exact(hf b hb).2.1 z
  ·exact(hf b hb).2.2.1 z
 funs:=I.stack
 frf:=I.stkFree
def cA(k:Nat)(js:List Nat)(σ:St):St:=List.replicate k none++js.map λj=>(σ[j]?).getD none
theorem ls{h₁:Heap}{tk:Nat}{k:Nat}{js:List Nat}(I:Inv X pins σ H s)(L:LcOk X scope cl)(hf:∀b∈fp,fZ X pins H b)(ho:∀b∈fp,b<s.heap.objs.size)(hns:∃m,h₁.Ns s.heap.objs.size m)(hk:∀b o,s.heap.get? b=some o→h₁.get? b=some o)(hN:N.length=k+js.length)(hj:∀(i j:Nat) x,js[i]?=some j→N[k+i]?=some x→X.N[j]?=some x∧Vis X.env.scope x∧X.env.scope.names.lookup x≠some .local∧((relabel scope X.env).names.lookup x=some .cell∨(relabel scope X.env).names.lookup x=some .free)):
  Inv (dB X N scope cl s H fp) [] (cA k js σ) H {s with heap:=h₁,toks:=tk}:=by
 obtain⟨m,hm⟩:=hns;have cellK:∀c v,s.heap.IsCell c v→h₁.IsCell c v:=λc v ⟨o,e,d⟩=>⟨o,hk c o e,d⟩;refine⟨qH I L hf ho,rfl,I.bare,Un.kept hk,⟨m,hm,λi x v e1 e2 e3=>?_⟩,λx c e=>?_,I.hok.fresh (le_refl _),λx c e=>I.freeC x c (L.cells x c e),λp hp=>absurd (show p∈([]:List (Addr×Obj))from hp) (by simp),I.hok.kept hk,?_⟩
 ·unfold cA at e2
  by_cases hi:i<k
  ·rw[getElem?_append_left (by simpa using hi),List.getElem?_replicate]at e2
   split at e2<;>cases e2
  ·obtain⟨i',rfl⟩:∃i',i=k+i':=⟨i-k,by omega⟩;rw[getElem?_append_right (by simp),List.length_replicate,Nat.add_sub_cancel_left,getElem?_map]at e2;cases ej:js[i']? with
   |none=>rw[ej]at e2;cases e2
   |some j =>
    rw[ej]at e2;have e2':(σ[j]?).getD none=some v:=Option.some.inj e2;obtain⟨h1,h2,h3,h4⟩:=hj i' j x ej e1;have e4:σ[j]?=some (some v):=by
     cases q:σ[j]? with
     |none=>rw[q]at e2';cases e2'
     |some y=>rw[q]at e2';exact congrArg some e2'
    obtain⟨m0,_,hl⟩:=I.loc;obtain⟨u,r,lk⟩:=hl j x v h1 e4 h2;refine⟨u,r,.inr ⟨h4,?_⟩⟩;rcases lk with⟨q,_⟩|⟨_,c,e5,e6⟩
    ·exact absurd q h3
    ·obtain⟨c',e7⟩:=L.has x h4;have:c'=c:=Option.some.inj ((L.cells x c' e7).symm.trans e5);subst this;exact⟨c',e7,cellK c' _ e6⟩
 ·obtain⟨v,e1⟩:=I.cell x c (L.cells x c e);exact⟨v,cellK c v e1⟩
 ·unfold cA;rw[length_append,List.length_replicate,length_map];exact hN.symm
theorem qI{H':Hp}{σ':St}{s':Shared}{h':Heap}(I:Inv X pins σ H s)(hf:∀b∈fp,fZ X pins H b)(J:Inv (dB X N scope cl s H fp) [] σ' H' s')(hs:SameBut s.heap.objs.size s'.heap h'):Inv X pins σ H' {s' with heap:=h'}:=by
 have ne:∀b o,s.heap.get? b=some o→b≠s.heap.objs.size:=λb o e=>ne_of_lt (lt_size e);have u:=J.base;have u':Un (frs X.stack) fp H H' s.heap h' :=
  ⟨λb o e n hb hx=>(hs.2 b (ne b o e)).trans (u.keep b o e n hb hx),λb o e n hb hx=>by
   obtain⟨sl,q⟩:=u.slot b o e n hb hx;exact⟨sl,(hs.2 b (ne b o e)).trans q⟩,u.free,λb o e hx=>by
   obtain⟨o',q⟩:=u.there b o e hx;exact⟨o',(hs.2 b (ne b o e)).trans q⟩,u.tups,u.frzs,u.tbls⟩
 have nt:∀b o,H' b=some o→b≠s.heap.objs.size:=λb o e z=>by
  have:=J.free;rw[show(dB X N scope cl s H fp).env.locals=s.heap.objs.size from rfl,←z,e]at this;cases this
 refine I.call' (s':={s' with heap:=h'}) J.os u' (λb o e=>?_) J.bare λb hb=>?_
 ·refine(J.hok b o e).stay (λc v hc q=>(hs.2 c ?_).trans q) (λ_ q=>q) λ_ _ q=>q;rcases hc with z|z
  ·rw[z];exact nt b o e
  ·exact nt c _ z
 ·obtain⟨f0,f1,f2,f3,f4,f5⟩:=hf b hb;exact⟨f3,f1,f4,f5⟩
end
section
variable{prog:Program}{w:World}{A:Around}{R:Result→Shared→Prop}{s:Shared}
theorem sX{elt target iter:Expr}{scope:Scope}{pos:Pos}{it acc:Value}{env:Env}(I:Nat→Shared→Prop)(turn:∀n s,I n s→wpAny (model prog w) A (pyNext it) (λr s₁=>match r with
   |none=>R (.ok .next) s₁
   | some v=>wpAny (model prog w) A (letOwnedTupleGo target it v) (λ_ s₂=>wpAny (model prog w) A (assign target env v) (λ_ s₃=>wpAny (model prog w) A (eval elt env) (λx s₄ =>
     wpAny (model prog w) A (call (.builtin "list.append") [acc,x]) (λ_ s₅=>∃m,m<n∧I m s₅) (λ_ _=>False) s₄) (λ_ _=>False) s₃) (λ_ _=>False) s₂) (λ_ _=>False) s₁) (λ_ _=>False) s)(n:Nat)(h:I n s):codeAny (model prog w) A (.compLoop (.ListComp elt [⟨target,iter,[],0⟩] scope pos) 0 it acc env) R s:=by
 refine codeAny_loop rfl I (λn s hI=>?_) n h;show wpAny _ _ ((compTurn (.ListComp elt [⟨target,iter,[],0⟩] scope pos) 0 it acc env).onRaise (λx=>do noteFrame x env;theTreesLotGoes x)) _ _ s;refine wpAny_noted ?_;rw[compTurn_list1];refine wpAny_bind (wpAny_standAt (wpAny_bind (wpAny_mono (turn n s hI) (λr s₁ h₁=>?_) λ_ _ h'=>h'.elim)));cases r with
 |none=>exact wpAny_pure h₁
 |some v =>
  refine wpAny_bind (wpAny_mono h₁ (λ_ s₂ h₂=>?_) λ_ _ h'=>h'.elim);exact wpAny_bind (wpAny_mono h₂ (λ_ s₂ h₂=>wpAny_bind (wpAny_bind (wpAny_mono h₂ (λx s₃ h₃=>wpAny_bind (wpAny_mono h₃
   (λ_ s₄ h₄=>wpAny_pure (wpAny_pure ⟨rfl,h₄⟩)) λ_ _ h'=>h'.elim)) λ_ _ h'=>h'.elim))) λ_ _ h'=>h'.elim)
theorem im(elt target iter c:Expr)(scope:Scope)(pos:Pos)(it acc:Value)(env:Env):
  compTurn (.ListComp elt [⟨target,iter,[c],0⟩] scope pos) 0 it acc env=(standAt iter.pos >>= λ_=>pyNext it >>= λr=>match r with
   |none=>pure (.done .next)
   |some v=>letOwnedTupleGo target it v >>= λ_=>assign target env v >>= λ_ =>
    (forIn [c] true λc r=>if r=true then do let ok ← isTrue c env (eval c env);pure (ForInStep.yield ok)else pure (ForInStep.yield r)) >>= λok =>
    if ok=true then (eval elt env >>= λx=>call (.builtin "list.append") [acc,x] >>= λ_=>pure ()) >>= λ_ =>
     again (.compLoop (.ListComp elt [⟨target,iter,[c],0⟩] scope pos) 0 it acc env)
    else again (.compLoop (.ListComp elt [⟨target,iter,[c],0⟩] scope pos) 0 it acc env)):=by rfl
theorem qJ{elt target iter c:Expr}{scope:Scope}{pos:Pos}{it acc:Value}{env:Env}(I:Nat→Shared→Prop)(turn:∀n s,I n s→wpAny (model prog w) A (pyNext it) (λr s₁=>match r with
   |none=>R (.ok .next) s₁
   | some v=>wpAny (model prog w) A (letOwnedTupleGo target it v) (λ_ s₂=>wpAny (model prog w) A (assign target env v) (λ_ s₃=>wpAny (model prog w) A (isTrue c env (eval c env)) (λok s₃ =>
     if ok=true then wpAny (model prog w) A (eval elt env) (λx s₄ =>
      wpAny (model prog w) A (call (.builtin "list.append") [acc,x]) (λ_ s₅=>∃m,m<n∧I m s₅) (λ_ _=>False) s₄) (λ_ _=>False) s₃
     else ∃m,m<n∧I m s₃) (λ_ _=>False) s₃) (λ_ _=>False) s₂) (λ_ _=>False) s₁) (λ_ _=>False) s)(n:Nat)(h:I n s):codeAny (model prog w) A (.compLoop (.ListComp elt [⟨target,iter,[c],0⟩] scope pos) 0 it acc env) R s:=by
 refine codeAny_loop rfl I (λn s hI=>?_) n h;show wpAny _ _ ((compTurn (.ListComp elt [⟨target,iter,[c],0⟩] scope pos) 0 it acc env).onRaise (λx=>do noteFrame x env;theTreesLotGoes x)) _ _ s;refine wpAny_noted ?_;rw[im];refine wpAny_bind (wpAny_standAt (wpAny_bind (wpAny_mono (turn n s hI) (λr s₁ h₁=>?_) λ_ _ h'=>h'.elim)));cases r with
 |none=>exact wpAny_pure h₁
 |some v =>
  refine wpAny_bind (wpAny_mono h₁ (λ_ s₂ h₂=>?_) λ_ _ h'=>h'.elim);refine wpAny_bind (wpAny_mono h₂ (λ_ s₃ h₃=>?_) λ_ _ h'=>h'.elim);rw[List.forIn_cons];simp only[if_true];refine wpAny_bind (wpAny_bind (wpAny_bind (wpAny_mono h₃ (λok s₄ h₄=>wpAny_pure ?_) λ_ _ h'=>h'.elim)));simp only[List.forIn_nil];refine wpAny_pure ?_;cases ok with
  |true =>
   rw[if_pos rfl]at h₄⊢;exact wpAny_bind (wpAny_bind (wpAny_mono h₄ (λx s₃ h₃=>wpAny_bind (wpAny_mono h₃ (λ_ s₄ h₄=>wpAny_pure (wpAny_pure ⟨rfl,h₄⟩)) λ_ _ h'=>h'.elim)) λ_ _ h'=>h'.elim))
  |false =>
   rw[if_neg (by simp)]at h₄⊢;exact wpAny_pure ⟨rfl,h₄⟩
end
def LcW(k:Nat)(js:List Nat)(g:TG)(te:TE)(σ:St)(Q:VK)(J:It)(H1:Hp)(p:Addr):Prop:=∃W:Nat→Nat→List V→St→Hp→Prop,
 (∃m,W 0 m [] (cA k js σ) (upd H1 p (.lst [])))∧∀i m ys σ' H',W i m ys σ' H'→(J.stop i H'∧Q (.ref p) H') ∨
  (J.go i H'∧ys.length<sizeLine∧∀x H2,J.yld i H' x H2→g x σ' H2 λσ2 H3=>te σ2 H3 λy H4=>H4 p=some (.lst ys)∧∃m',m'<m∧W (i+1) m' (ys++[y]) σ2 (upd H4 p (.lst (ys++[y]))))
def tLc(k:Nat)(js:List Nat)(wi:TI)(g:TG)(te:TE):TE:=λσ H Q=>wi σ H λJ H1=>∀p,H1 p=none→LcW k js g te σ Q J H1 p
def wX(k:Nat)(js:List Nat)(g:TG)(tc:TT)(te:TE)(σ:St)(Q:VK)(J:It)(H1:Hp)(p:Addr):Prop:=∃W:Nat→Nat→List V→St→Hp→Prop,
 (∃m,W 0 m [] (cA k js σ) (upd H1 p (.lst [])))∧∀i m ys σ' H',W i m ys σ' H'→(J.stop i H'∧Q (.ref p) H') ∨
  (J.go i H'∧ys.length<sizeLine∧∀x H2,J.yld i H' x H2→g x σ' H2 λσ2 H3=>tc σ2 H3 λb H4=>if b=true then te σ2 H4 λy H5=>H5 p=some (.lst ys)∧∃m',m'<m∧W (i+1) m' (ys++[y]) σ2 (upd H5 p (.lst (ys++[y])))
   else ∃m',m'<m∧W (i+1) m' ys σ2 H4)
def xW(k:Nat)(js:List Nat)(wi:TI)(g:TG)(tc:TT)(te:TE):TE:=λσ H Q=>wi σ H λJ H1=>∀p,H1 p=none→wX k js g tc te σ Q J H1 p
section
variable{X:Cx}{N:List Str}{scope:Scope}{cl:List (Str×Addr)}{k:Nat}{js:List Nat}
theorem io{elt tg iter:Expr}{pos:Pos}{wi:TI}{g:TG}{te:TE}(hc:X.calm=true)(L:LcOk X scope cl)(hN:N.length=k+js.length)(hj:∀(i j:Nat) x,js[i]?=some j→N[k+i]?=some x→X.N[j]?=some x∧Vis X.env.scope x∧X.env.scope.names.lookup x≠some .local∧((relabel scope X.env).names.lookup x=some .cell∨(relabel scope X.env).names.lookup x=some .free))(hi:PI X tg iter wi)(hg:∀s H fp,PG (dB X N scope cl s H fp) tg g)(he:∀s H fp,PE (dB X N scope cl s H fp) elt te)(hs:∀x,foldedSetIterable iter X.env x=pure x:=by intro _;rfl):PE X (.ListComp elt [⟨tg,iter,[],0⟩] scope pos) (tLc k js wi g te):=by
 intro pins s σ H Q I h;rw[eval_ListComp];refine wpAny_comprehension_free (use:=none) rfl hs L.clos L.kind L.names ?_;refine thn (hi pins s σ H _ I h) λv s1 h1=>thn h1 λitv s2 h2=>?_;obtain⟨it,fp,tn,J,H2,e,I2,T,st2,f2,hW⟩:=h2;subst e;have hfp:∀b∈fp,b<s2.heap.objs.size:=λb hb=>by
  obtain⟨o,e,_⟩:=T.obj _ _ st2 b hb;exact lt_size e
 refine wpAny_newObj_type (wpAny_newFunctionEnv L.nocell (by intro y hy;simp at hy) (λh₁ hns hsb=>?_) L.kind);dsimp only at hns hsb⊢;obtain⟨W,⟨m0,w0⟩,turn⟩:=hW s2.heap.objs.size (I2.hok.fresh (le_refl _));have I3:Inv X pins σ (upd H2 s2.heap.objs.size (.lst [])) {s2 with heap:=s2.heap.push {cls:=.type "list",dict:=none,data:=.seq ([]:List Value).toArray}}:=I2.lnew (t':=s2.toks) .nil (zero_le _)
 generalize hA:s2.heap.push {cls:=.type "list",dict:=none,data:=.seq ([]:List Value).toArray}=hpA at hns hsb I3⊢;have hszA:hpA.objs.size=s2.heap.objs.size+1:=by rw[←hA,size_push]
 have keepA:∀b o,s2.heap.get? b=some o→hpA.get? b=some o:=λb o e=>by rw[←hA];exact get?_push_of_some _ e
 have f3:∀b∈fp,fZ X pins (upd H2 s2.heap.objs.size (.lst [])) b:=λb hb=>⟨by rw[ai (ne_of_lt (hfp b hb))];exact(f2 b hb).1,(f2 b hb).2⟩;have hfp3:∀b∈fp,b<hpA.objs.size:=λb hb=>by rw[hszA];exact lt_succ_of_lt (hfp b hb)
 have keep1:∀b o,hpA.get? b=some o→h₁.get? b=some o:=λb o e=>hsb.extBut b o (ne_of_lt (lt_size e)) (get?_push_of_some _ e);have J0:=ls (N:=N) (k:=k) (js:=js) (tk:=s2.toks+([]:List (Str×Value)).length) I3 L f3 hfp3 ⟨_,hns⟩ keep1 hN hj;have st1:tn 0 h₁:=T.keep _ _ _ st2 λb hb o e=>keep1 b o (keepA b o e);have stat:∀{H':Hp},(∀b∈fp,H' b=none)→∀b∈fp,fZ (dB X N scope cl {s2 with heap:=hpA} (upd H2 s2.heap.objs.size (.lst [])) fp) [] H' b:=λhn b hb =>
  ⟨hn b hb,ne_of_lt (hfp3 b hb),(qH (N:=N) I3 L f3 hfp3).exfs b hb,.inl hb,λx c h=>(f3 b hb).2.2.2.2.1 x c (L.cells x c h),λp hp=>absurd (show p∈([]:List (Addr×Obj))from hp) (by simp)⟩
 have loop:codeAny (model X.prog X.w) X.A (.compLoop (.ListComp elt [⟨tg,iter,[],0⟩] scope pos) 0 (.ref it) (.ref s2.heap.objs.size) (compEnvC scope cl hpA.objs.size X.env))
   (compPost (model X.prog X.w) X.A X.xe none (EP X pins σ Q) (.ref s2.heap.objs.size) hpA.objs.size) {s2 with heap:=h₁,toks:=s2.toks+([]:List (Str×Value)).length}:=by
  refine sX (λn s'=>∃i ys σ' H',Inv (dB X N scope cl {s2 with heap:=hpA} (upd H2 s2.heap.objs.size (.lst [])) fp) [] σ' H' s'∧tn i s'.heap∧(∀b∈fp,H' b=none)∧W i n ys σ' H') ?_ m0 ⟨0,[],_,_,J0,st1,λb hb=>(f3 b hb).1,w0⟩
  rintro n s3 ⟨i,ys,σ3,H3,J3,st3,fr3,w3⟩;rcases turn i n ys σ3 H3 w3 with⟨stop,qn⟩|⟨go,hlen,step⟩
  ·refine thn (T.done (dB X N scope cl {s2 with heap:=hpA} (upd H2 s2.heap.objs.size (.lst [])) fp) rfl rfl rfl hc i [] s3 σ3 H3 (λ_ _=>False) J3 (stat fr3) st3 stop) λr s4 hpt=>?_
   obtain⟨hr,J4⟩:=hpt;subst hr;obtain⟨m,hm,_⟩:=J4.loc;exact⟨m,hm,λh' hs'=>⟨.ref s2.heap.objs.size,H3,qI I3 f3 J4 hs',rfl,qn⟩⟩
  ·refine thn (T.item (dB X N scope cl {s2 with heap:=hpA} (upd H2 s2.heap.objs.size (.lst [])) fp) rfl rfl rfl hc i [] s3 σ3 H3 (λ_ _=>False) J3 (stat fr3) st3 go) λr s4 hpt=>?_
   obtain⟨u,hr,h4⟩:=hpt;subst hr;refine thn h4 λ_ s5 hpt=>?_;obtain⟨x,H5,J5,r5,y5,st5,fr5⟩:=hpt;have J5':=J5.pinned (stat fr5) (T.obj _ _ st5);refine thn (hg _ _ _ _ s5 σ3 H5 x u _ J5' r5 (step x H5 y5)) λ_ s6 hpt=>?_;obtain⟨σ6,H6,J6,q6⟩:=hpt;refine thn (he _ _ _ _ s6 σ6 H6 _ J6 q6) λy s7 hpt=>?_;obtain⟨vy,H7,J7,r7,q7,m',hm',w7⟩:=hpt;refine thn (br _ s7 σ6 H7 (.ref s2.heap.objs.size) [vy] _ _ (λ_ H8=>H8=upd H7 s2.heap.objs.size (.lst (ys++[vy]))) J7 rfl (.cons r7 .nil) ⟨_,ys,vy,rfl,rfl,q7,hlen,rfl⟩) λ_ s8 hpt=>?_;obtain⟨_,H8,J8,_,e8⟩:=hpt;subst e8;refine⟨m',hm',i+1,ys++[vy],σ6,_,J8.unpinned,T.keep _ _ _ st5 λb hb o e=>(J8.pin (b,o) (mem_append_right _ (mem_append_right _ (bo hb e)))).1,λb hb=>?_,w7⟩;obtain⟨o,e,d⟩:=T.obj _ _ st5 b hb;exact(J8.pin (b,o) (mem_append_right _ (mem_append_right _ (bo hb e)))).2.1
 exact codeAny_compStart_list loop (T.self _ 0 _ _ _ st1 loop)
theorem ip{elt tg iter c:Expr}{pos:Pos}{wi:TI}{g:TG}{tc:TT}{te:TE}(hc:X.calm=true)(L:LcOk X scope cl)(hN:N.length=k+js.length)(hj:∀(i j:Nat) x,js[i]?=some j→N[k+i]?=some x→X.N[j]?=some x∧Vis X.env.scope x∧X.env.scope.names.lookup x≠some .local∧((relabel scope X.env).names.lookup x=some .cell∨(relabel scope X.env).names.lookup x=some .free))(hi:PI X tg iter wi)(hg:∀s H fp,PG (dB X N scope cl s H fp) tg g)(ht:∀s H fp,PT (dB X N scope cl s H fp) c tc)(he:∀s H fp,PE (dB X N scope cl s H fp) elt te)(hs:∀x,foldedSetIterable iter X.env x=pure x:=by intro _;rfl):PE X (.ListComp elt [⟨tg,iter,[c],0⟩] scope pos) (xW k js wi g tc te):=by
 intro pins s σ H Q I h;rw[eval_ListComp];refine wpAny_comprehension_free (use:=none) rfl hs L.clos L.kind L.names ?_;refine thn (hi pins s σ H _ I h) λv s1 h1=>thn h1 λitv s2 h2=>?_;obtain⟨it,fp,tn,J,H2,e,I2,T,st2,f2,hW⟩:=h2;subst e;have hfp:∀b∈fp,b<s2.heap.objs.size:=λb hb=>by
  obtain⟨o,e,_⟩:=T.obj _ _ st2 b hb;exact lt_size e
 refine wpAny_newObj_type (wpAny_newFunctionEnv L.nocell (by intro y hy;simp at hy) (λh₁ hns hsb=>?_) L.kind);dsimp only at hns hsb⊢;obtain⟨W,⟨m0,w0⟩,turn⟩:=hW s2.heap.objs.size (I2.hok.fresh (le_refl _));have I3:Inv X pins σ (upd H2 s2.heap.objs.size (.lst [])) {s2 with heap:=s2.heap.push {cls:=.type "list",dict:=none,data:=.seq ([]:List Value).toArray}}:=I2.lnew (t':=s2.toks) .nil (zero_le _)
 generalize hA:s2.heap.push {cls:=.type "list",dict:=none,data:=.seq ([]:List Value).toArray}=hpA at hns hsb I3⊢;have hszA:hpA.objs.size=s2.heap.objs.size+1:=by rw[←hA,size_push]
 have keepA:∀b o,s2.heap.get? b=some o→hpA.get? b=some o:=λb o e=>by rw[←hA];exact get?_push_of_some _ e
 have f3:∀b∈fp,fZ X pins (upd H2 s2.heap.objs.size (.lst [])) b:=λb hb=>⟨by rw[ai (ne_of_lt (hfp b hb))];exact(f2 b hb).1,(f2 b hb).2⟩;have hfp3:∀b∈fp,b<hpA.objs.size:=λb hb=>by rw[hszA];exact lt_succ_of_lt (hfp b hb)
 have keep1:∀b o,hpA.get? b=some o→h₁.get? b=some o:=λb o e=>hsb.extBut b o (ne_of_lt (lt_size e)) (get?_push_of_some _ e);have J0:=ls (N:=N) (k:=k) (js:=js) (tk:=s2.toks+([]:List (Str×Value)).length) I3 L f3 hfp3 ⟨_,hns⟩ keep1 hN hj;have st1:tn 0 h₁:=T.keep _ _ _ st2 λb hb o e=>keep1 b o (keepA b o e);have stat:∀{H':Hp},(∀b∈fp,H' b=none)→∀b∈fp,fZ (dB X N scope cl {s2 with heap:=hpA} (upd H2 s2.heap.objs.size (.lst [])) fp) [] H' b:=λhn b hb =>
  ⟨hn b hb,ne_of_lt (hfp3 b hb),(qH (N:=N) I3 L f3 hfp3).exfs b hb,.inl hb,λx c h=>(f3 b hb).2.2.2.2.1 x c (L.cells x c h),λp hp=>absurd (show p∈([]:List (Addr×Obj))from hp) (by simp)⟩
 have loop:codeAny (model X.prog X.w) X.A (.compLoop (.ListComp elt [⟨tg,iter,[c],0⟩] scope pos) 0 (.ref it) (.ref s2.heap.objs.size) (compEnvC scope cl hpA.objs.size X.env))
   (compPost (model X.prog X.w) X.A X.xe none (EP X pins σ Q) (.ref s2.heap.objs.size) hpA.objs.size) {s2 with heap:=h₁,toks:=s2.toks+([]:List (Str×Value)).length}:=by
  refine qJ (λn s'=>∃i ys σ' H',Inv (dB X N scope cl {s2 with heap:=hpA} (upd H2 s2.heap.objs.size (.lst [])) fp) [] σ' H' s'∧tn i s'.heap∧(∀b∈fp,H' b=none)∧W i n ys σ' H') ?_ m0 ⟨0,[],_,_,J0,st1,λb hb=>(f3 b hb).1,w0⟩
  rintro n s3 ⟨i,ys,σ3,H3,J3,st3,fr3,w3⟩;rcases turn i n ys σ3 H3 w3 with⟨stop,qn⟩|⟨go,hlen,step⟩
  ·refine thn (T.done (dB X N scope cl {s2 with heap:=hpA} (upd H2 s2.heap.objs.size (.lst [])) fp) rfl rfl rfl hc i [] s3 σ3 H3 (λ_ _=>False) J3 (stat fr3) st3 stop) λr s4 hpt=>?_
   obtain⟨hr,J4⟩:=hpt;subst hr;obtain⟨m,hm,_⟩:=J4.loc;exact⟨m,hm,λh' hs'=>⟨.ref s2.heap.objs.size,H3,qI I3 f3 J4 hs',rfl,qn⟩⟩
  ·refine thn (T.item (dB X N scope cl {s2 with heap:=hpA} (upd H2 s2.heap.objs.size (.lst [])) fp) rfl rfl rfl hc i [] s3 σ3 H3 (λ_ _=>False) J3 (stat fr3) st3 go) λr s4 hpt=>?_
   obtain⟨u,hr,h4⟩:=hpt;subst hr;refine thn h4 λ_ s5 hpt=>?_;obtain⟨x,H5,J5,r5,y5,st5,fr5⟩:=hpt;have J5':=J5.pinned (stat fr5) (T.obj _ _ st5);refine thn (hg _ _ _ _ s5 σ3 H5 x u _ J5' r5 (step x H5 y5)) λ_ s6 hpt=>?_;obtain⟨σ6,H6,J6,q6⟩:=hpt;refine thn (ht _ _ _ _ s6 σ6 H6 _ J6 q6) λb s6 hpt=>?_;obtain⟨H6,J6,q6⟩:=hpt;cases b with
   |true =>
    rw[if_pos rfl]at q6⊢;refine thn (he _ _ _ _ s6 σ6 H6 _ J6 q6) λy s7 hpt=>?_;obtain⟨vy,H7,J7,r7,q7,m',hm',w7⟩:=hpt;refine thn (br _ s7 σ6 H7 (.ref s2.heap.objs.size) [vy] _ _ (λ_ H8=>H8=upd H7 s2.heap.objs.size (.lst (ys++[vy]))) J7 rfl (.cons r7 .nil) ⟨_,ys,vy,rfl,rfl,q7,hlen,rfl⟩) λ_ s8 hpt=>?_;obtain⟨_,H8,J8,_,e8⟩:=hpt;subst e8;refine⟨m',hm',i+1,ys++[vy],σ6,_,J8.unpinned,T.keep _ _ _ st5 λb hb o e=>(J8.pin (b,o) (mem_append_right _ (mem_append_right _ (bo hb e)))).1,λb hb=>?_,w7⟩;obtain⟨o,e,d⟩:=T.obj _ _ st5 b hb;exact(J8.pin (b,o) (mem_append_right _ (mem_append_right _ (bo hb e)))).2.1
   |false =>
    rw[if_neg (by simp)]at q6⊢;obtain⟨m',hm',w7⟩:=q6;refine⟨m',hm',i+1,ys,σ6,_,J6.unpinned,T.keep _ _ _ st5 λb hb o e=>(J6.pin (b,o) (mem_append_right _ (mem_append_right _ (bo hb e)))).1,λb hb=>?_,w7⟩;obtain⟨o,e,d⟩:=T.obj _ _ st5 b hb;exact(J6.pin (b,o) (mem_append_right _ (mem_append_right _ (bo hb e)))).2.1
 exact codeAny_compStart_list loop (T.self _ 0 _ _ _ st1 loop)
end
end L2
namespace TB
open PySem PySem.SetTable
def adv(mask:Nat)(p:Probe):Probe :=
 if p.more>0 then {p with j:=p.j+1,more:=p.more-1} else
 {p with j:=(leap mask p.i p.perturb).1,more:=runEnd mask (leap mask p.i p.perturb).1-(leap mask p.i p.perturb).1,i:=(leap mask p.i p.perturb).1,perturb:=(leap mask p.i p.perturb).2}
theorem nq(t:SetTable)(p:Probe):advance t p=adv t.mask p:=rfl
def lvP(mask:Nat)(x:Nat×Nat):Probe:={j:=x.1,more:=runEnd mask x.1-x.1,i:=x.1,perturb:=x.2,dummy:=none}
def st(mask:Nat)(h:Int):Probe:=lvP mask (bits h % (mask+1),bits h)
def nth(mask:Nat):Probe→Nat→Probe
 |p,0=>p
 |p,n+1=>nth mask (adv mask p) n
theorem fe(mask:Nat):∀(a b:Nat)(p:Probe),nth mask p (a+b)=nth mask (nth mask p a) b
 |0,b,p=>by rw[zero_add];rfl
 |a+1,b,p=>by
  rw[show a+1+b=(a+b)+1 by omega];show nth mask (adv mask p) (a+b)=nth mask (nth mask (adv mask p) a) b;exact fe mask a b _
theorem qK(mask:Nat)(p:Probe)(n:Nat):nth mask p (n+1)=adv mask (nth mask p n):=by
 rw[fe];rfl
def pos(mask:Nat)(h:Int)(n:Nat):Nat:=(nth mask (st mask h) n).j
theorem jt(mask:Nat):∀(m:Nat)(p:Probe),p.more=m→nth mask p m={p with j:=p.j+m,more:=0}
 |0,p,h=>by
  show p=_;cases p;simp at h;subst h;rfl
 |m+1,p,h=>by
  show nth mask (adv mask p) m=_;have e:adv mask p={p with j:=p.j+1,more:=m}:=by
   unfold adv;rw[if_pos (by omega),h];rfl
  rw[e,jt mask m _ rfl];simp only[Probe.mk.injEq,and_true];omega
theorem lu(mask:Nat):∀(m:Nat)(p:Probe),m≤p.more→nth mask p m={p with j:=p.j+m,more:=p.more-m}
 |0,p,h=>by
  show p=_;cases p;rfl
 |m+1,p,h=>by
  show nth mask (adv mask p) m=_;have e:adv mask p={p with j:=p.j+1,more:=p.more-1}:=by
   unfold adv;rw[if_pos (by omega)]
  rw[e,lu mask m _ (by show m≤p.more-1;omega)];simp only[Probe.mk.injEq,and_true];omega
theorem eL(mask:Nat)(x:Nat×Nat):nth mask (lvP mask x) (runEnd mask x.1-x.1+1)=lvP mask (leap mask x.1 x.2):=by
 have e:=jt mask (runEnd mask x.1-x.1) (lvP mask x) rfl;rw[qK,e];unfold adv;rw[if_neg (by simp)];rfl
theorem vj(mask i:Nat):runEnd mask i-i≤9:=by unfold runEnd;split<;>omega
def lv(mask:Nat):Nat→Nat×Nat→Nat×Nat
 |0,x=>x
 |k+1,x=>lv mask k (leap mask x.1 x.2)
theorem nr(mask:Nat):∀(a b:Nat)(x:Nat×Nat),lv mask (a+b) x=lv mask b (lv mask a x)
 |0,b,x=>by rw[zero_add];rfl
 |a+1,b,x=>by
  rw[show a+1+b=(a+b)+1 by omega];exact nr mask a b _
theorem lw(mask:Nat):∀(k:Nat)(x:Nat×Nat),∃n,n≤10*k∧nth mask (lvP mask x) n=lvP mask (lv mask k x)
 |0,x=>⟨0,by omega,rfl⟩
 |k+1,x=>by
  obtain⟨n,hn,e⟩:=lw mask k (leap mask x.1 x.2);refine⟨(runEnd mask x.1-x.1+1)+n,?_,?_⟩
  ·have:=vj mask x.1;omega
  ·rw[fe,eL];exact e
theorem eM(mask:Nat):∀(k:Nat)(x:Nat×Nat),(lv mask k x).2=x.2 / 32 ^ k
 |0,x=>by simp[lv]
 |k+1,x=>by
  show(lv mask k (leap mask x.1 x.2)).2=_;rw[eM mask k];show x.2 / 32 / 32 ^ k=_;rw[Nat.div_div_eq_div_mul,Nat.pow_succ,Nat.mul_comm 32]
theorem oC(mask:Nat):∀(k:Nat)(x:Nat×Nat),x.1≤mask→(lv mask k x).1≤mask
 |0,x,h=>h
 |k+1,x,h=>oC mask k _ (by show(x.1*5+1+x.2 / 32) % (mask+1)≤mask;have:=mod_lt (x.1*5+1+x.2 / 32) (show 0<mask+1 by omega);omega)
theorem oE(h:Int):bits h<2 ^ 64:=by
 unfold bits;have h1:=emod_nonneg h (b:=2 ^ 64) (by decide);have h2:=Int.emod_lt_of_pos h (b:=2 ^ 64) (by decide);omega
def ff(mask:Nat):Nat→Nat→Nat
 |0,i=>i
 |k+1,i=>ff mask k ((i*5+1) % (mask+1))
theorem iq(mask:Nat):∀(k i:Nat),lv mask k (i,0)=(ff mask k i,0)
 |0,i=>rfl
 |k+1,i=>by
  show lv mask k ((i*5+1+0 / 32) % (mask+1),0 / 32)=_;simp only[Nat.zero_div,Nat.add_zero];exact iq mask k _
def Cyc(mask:Nat):Prop:=∀i,i≤mask→∀j,j≤mask→∃k,k≤mask∧ff mask k i=j
theorem dW(mask:Nat):∀(a b i:Nat),ff mask (a+b) i=ff mask b (ff mask a i)
 |0,b,i=>by rw[zero_add];rfl
 |a+1,b,i=>by
  rw[show a+1+b=(a+b)+1 by omega];exact dW mask a b _
def sY(mask:Nat):Nat→Nat→List Nat
 |0,_=>[]
 |n+1,i=>i::sY mask n ((i*5+1) % (mask+1))
theorem lx{mask j:Nat}:∀{n i:Nat},j∈sY mask n i→∃k,k<n∧ff mask k i=j
 |0,_,h=>by simp[sY]at h
 |n+1,i,h=>by
  rcases mem_cons.mp h with e|e
  ·exact⟨0,by omega,e.symm⟩
  ·obtain⟨k,hk,e'⟩:=lx e;exact⟨k+1,by omega,e'⟩
theorem qL{mask:Nat}(h0:ff mask (mask+1) 0=0)(h:(List.range (mask+1)).all (λj=>(sY mask (mask+1) 0).contains j)=true):Cyc mask:=by
 have all:∀j,j≤mask→∃k,k≤mask∧ff mask k 0=j:=λj hj=>by
  rw[all_eq_true]at h;have h1:=h j (mem_range.mpr (by omega));rw[List.contains_iff_mem]at h1;obtain⟨k,hk,e⟩:=lx h1;exact⟨k,by omega,e⟩
 intro i hi j hj;obtain⟨a,ha,ea⟩:=all i hi;obtain⟨b,hb,eb⟩:=all j hj
 by_cases hab:a≤b
 ·refine⟨b-a,by omega,?_⟩;rw[←ea,←dW,show a+(b-a)=b by omega];exact eb
 ·refine⟨mask+1-a+b,by omega,?_⟩;rw[←ea,←dW,show a+(mask+1-a+b)=(mask+1)+b by omega,dW,h0];exact eb
def Mk(m:Nat):Prop:=m=7∨m=15∨m=31∨m=63∨m=127∨m=255
theorem Mk.cyc{m:Nat}(h:Mk m):Cyc m:=by
 rcases h with e|e|e|e|e|e<;>subst e<;>exact qL (by decide +kernel) (by decide +kernel)
theorem Mk.ge{m:Nat}(h:Mk m):7≤m∧m≤255:=by rcases h with e|e|e|e|e|e<;>subst e<;>omega
def mkB(m:Nat):Bool:=m==7||m==15||m==31||m==63||m==127||m==255
theorem vk:(List.range 256).all (λw=>mkB (sizeAbove w-1)&&decide (w≤sizeAbove w-1)&&decide (sizeAbove w≤256))=true:=by decide +kernel
theorem ir{w:Nat}(h:w≤255):Mk (sizeAbove w-1)∧w≤sizeAbove w-1∧sizeAbove w≤256:=by
 have h1:=(all_eq_true.mp vk) w (mem_range.mpr (by omega));rw[and_eq_true,and_eq_true,decide_eq_true_eq,decide_eq_true_eq]at h1;refine⟨?_,h1.1.2,h1.2⟩;have h2:=h1.1.1;unfold mkB at h2;rw[or_eq_true,or_eq_true,or_eq_true,or_eq_true,or_eq_true,beq_iff_eq,beq_iff_eq,beq_iff_eq,beq_iff_eq,beq_iff_eq,beq_iff_eq]at h2;rcases h2 with ((((h|h)|h)|h)|h)|h
 ·exact .inl h
 ·exact .inr (.inl h)
 ·exact .inr (.inr (.inl h))
 ·exact .inr (.inr (.inr (.inl h)))
 ·exact .inr (.inr (.inr (.inr (.inl h))))
 ·exact .inr (.inr (.inr (.inr (.inr h))))
theorem cover{mask:Nat}(c:Cyc mask)(h:Int){j:Nat}(hj:j≤mask):∃n,n<10*turns mask∧pos mask h n=j:=by
 have h0:(lv mask 13 (bits h % (mask+1),bits h)).2=0:=by
  rw[eM];have:=oE h;exact Nat.div_eq_of_lt (by have e:(32:Nat) ^ 13=36893488147419103232:=(by decide);rw[e];show bits h<_;omega)
 have h1:(lv mask 13 (bits h % (mask+1),bits h)).1≤mask:=oC mask _ _ (by have:=mod_lt (bits h) (show 0<mask+1 by omega);show bits h % (mask+1)≤mask;omega);obtain⟨k,hk,e⟩:=c _ h1 j hj;obtain⟨n,hn,en⟩:=lw mask (13+k) (bits h % (mask+1),bits h);refine⟨n,by unfold turns;omega,?_⟩;unfold pos st;rw[en,nr];have ex:lv mask 13 (bits h % (mask+1),bits h)=((lv mask 13 (bits h % (mask+1),bits h)).1,0):=by rw[←h0]
 rw[ex,iq];exact e
def InT(mask:Nat)(p:Probe):Prop:=p.j+p.more≤mask
theorem gr{mask i:Nat}(h:i≤mask):runEnd mask i≤mask∧i≤runEnd mask i:=by unfold runEnd;split<;>omega
theorem sZ{mask:Nat}{p:Probe}(h:InT mask p):InT mask (adv mask p):=by
 unfold adv InT at *
 split
 ·show p.j+1+(p.more-1)≤mask;omega
 ·have hl:(leap mask p.i p.perturb).1≤mask:=by
   show(p.i*5+1+p.perturb / 32) % (mask+1)≤mask;have:=mod_lt (p.i*5+1+p.perturb / 32) (show 0<mask+1 by omega);omega
  have:=gr hl;show(leap mask p.i p.perturb).1+(runEnd mask (leap mask p.i p.perturb).1-(leap mask p.i p.perturb).1)≤mask;omega
theorem oF{mask:Nat}:∀(n:Nat){p:Probe},InT mask p→InT mask (nth mask p n)
 |0,_,h=>h
 |n+1,_,h=>oF n (sZ h)
theorem vm{mask:Nat}{x:Nat×Nat}(h:x.1≤mask):InT mask (lvP mask x):=by
 have:=gr h;show x.1+(runEnd mask x.1-x.1)≤mask;omega
theorem iu(mask:Nat)(h:Int)(n:Nat):pos mask h n≤mask:=by
 have:InT mask (nth mask (st mask h) n):=oF n (vm (by have:=mod_lt (bits h) (show 0<mask+1 by omega);show bits h % (mask+1)≤mask;omega));unfold InT at this;unfold pos;omega
theorem qO(E:Nat→Prop):∀N,E N→∃n,n≤N∧E n∧∀m,m<n→¬E m
 |N,h=>by
  induction N using Nat.strongRecOn with
  |_ N ih =>
   by_cases z:∃m,m<N∧E m
   ·obtain⟨m,hm,e⟩:=z;obtain⟨n,hn,e',no⟩:=ih m hm e;exact⟨n,by omega,e',no⟩
   ·exact⟨N,le_refl _,h,λm hm e=>z ⟨m,hm,e⟩⟩
theorem ju(mask:Nat):∀(n:Nat)(p:Probe),(nth mask p n).dummy=p.dummy
 |0,_=>rfl
 |n+1,p=>by
  show(nth mask (adv mask p) n).dummy=_;rw[ju mask n];unfold adv
  split<;>rfl
theorem ly(t:SetTable)(ha:Nat→Int)(h:Int):∀(n:Nat)(p:Probe)(fuel:Nat),n<fuel →
  (∀m,m<n→∃i,t.slot (nth t.mask p m).j=.live i∧(ha i==h)=false)→t.slot (nth t.mask p n).j=.empty →
  probe.go t ha h fuel p=some (.empty (nth t.mask p n).j p.dummy)
 |0,p,fuel+1,_,_,e=>by
  have e':t.slot p.j=.empty:=e;unfold probe.go;rw[e'];rfl
 |n+1,p,fuel+1,hf,hl,e=>by
  obtain⟨i,h1,h2⟩:=hl 0 (by omega);have h1':t.slot p.j=.live i:=h1;unfold probe.go;rw[h1'];simp only[h2,false_eq_true,if_false,nq];rw[ly t ha h n (adv t.mask p) fuel (by omega) (λm hm=>hl (m+1) (by omega)) e]
  congr 2
  exact ju t.mask 1 p
theorem iw(xs:Array Nat)(j:Nat)(hs:∀a b,a<b→b<xs.size→xs.getD a 0<xs.getD b 0):∀(fuel lo hi:Nat),hi-lo≤fuel→lo≤hi→hi≤xs.size →
  (∀k,k<lo→xs.getD k 0<j)→(∀k,hi≤k→k<xs.size→j≤xs.getD k 0) →
  below.go xs j fuel lo hi≤xs.size∧(∀k,k<below.go xs j fuel lo hi→xs.getD k 0<j)∧(∀k,below.go xs j fuel lo hi≤k→k<xs.size→j≤xs.getD k 0)
 |0,lo,hi,hf,hl,hh,h1,h2=>by
  have e:lo=hi:=by omega
  subst e;exact⟨hh,h1,h2⟩
 |fuel+1,lo,hi,hf,hl,hh,h1,h2=>by
  unfold below.go
  by_cases hlt:lo<hi
  ·rw[if_pos hlt];have hm:(lo+hi) / 2<hi:=by omega
   have hm2:lo≤(lo+hi) / 2:=by omega
   have eg:xs.getD ((lo+hi) / 2) j=xs.getD ((lo+hi) / 2) 0:=by
    rw[getD_eq_getD_getElem?,getD_eq_getD_getElem?,Array.getElem?_eq_getElem (by omega)];rfl
   simp only[eg]
   split
   ·rename_i hc
    refine iw xs j hs fuel _ hi (by omega) (by omega) hh (λk hk=>?_) h2
    by_cases e:k=(lo+hi) / 2
    ·rw[e];exact hc
    ·have:=hs k ((lo+hi) / 2) (by omega) (by omega);omega
   ·rename_i hc
    refine iw xs j hs fuel lo _ (by omega) (by omega) (by omega) h1 (λk hk hk2=>?_)
    by_cases e:k=(lo+hi) / 2
    ·rw[e];omega
    ·have:=hs ((lo+hi) / 2) k (by omega) hk2;omega
  ·rw[if_neg hlt];have e:lo=hi:=by omega
   subst e;exact⟨hh,h1,h2⟩
def Up(l:List Nat):Prop:=l.Pairwise (· < ·)
theorem vp{l:List Nat}(h:Up l){a b:Nat}(hab:a<b)(hb:b<l.length):l.toArray.getD a 0<l.toArray.getD b 0:=by
 unfold Up at h;have:=pairwise_iff_getElem.mp h a b (by omega) hb hab;simp[getD_eq_getD_getElem?,show a<l.length by omega,hb];exact this
theorem cg{l:List Nat}(h:Up l)(j:Nat):below l.toArray j≤l.length∧(∀k (hk:k<l.length),k<below l.toArray j→l[k]<j)∧(∀k (hk:k<l.length),below l.toArray j≤k→j≤l[k]):=by
 have:=iw l.toArray j (λa b hab hb=>vp h hab (by simpa using hb)) l.toArray.size 0 l.toArray.size (by omega) (by omega) (le_refl _) (by intro k hk;omega) (by intro k hk hk2;omega);unfold below;refine⟨by simpa using this.1,λk hk h1=>?_,λk hk h1=>?_⟩
 ·have:=this.2.1 k h1;simpa [getD_eq_getD_getElem?,hk]using this
 ·have:=this.2.2 k h1 (by simpa using hk);simpa [getD_eq_getD_getElem?,hk]using this
structure Tb(t:SetTable)(l:List Nat):Prop where
 pl:t.place=l.toArray
 nd:t.dummies=#[]
 up:Up l
 le:∀j∈l,j≤t.mask
theorem oG(j:Nat):has #[] j=false:=by
 unfold has;simp
theorem tf{t:SetTable}{l:List Nat}(T:Tb t l){i j:Nat}(h:l[i]?=some j):t.slot j=.live i:=by
 obtain⟨hi,e⟩:=List.getElem?_eq_some_iff.mp h;obtain⟨b1,b2,b3⟩:=cg T.up j;have eb:below l.toArray j=i:=by
  rcases Nat.lt_trichotomy (below l.toArray j) i with z|z|z
  ·have:=b3 (below l.toArray j) (by omega) (le_refl _);have:=pairwise_iff_getElem.mp T.up (below l.toArray j) i (by omega) hi z;omega
  ·exact z
  ·have:=b2 i hi z;omega
 unfold SetTable.slot;rw[T.pl,eb];simp[h]
theorem qP{t:SetTable}{l:List Nat}(T:Tb t l){j:Nat}(h:j∉l):t.slot j=.empty:=by
 unfold SetTable.slot;rw[T.pl,T.nd,oG];have:¬(l.toArray[below l.toArray j]?==some j)=true:=by
  intro z;have z':l[below l.toArray j]?=some j:=by simpa using z
  exact h (mem_of_getElem? z')
 simp only[this,false_eq_true,if_false]
theorem pN{l:List Nat}(h:Up l){j:Nat}(hj:j∉l):Up (l.take (below l.toArray j)++j::l.drop (below l.toArray j)):=by
 obtain⟨b1,b2,b3⟩:=cg h j;unfold Up;rw[List.pairwise_append,pairwise_cons];have hsub1:(l.take (below l.toArray j)).Pairwise (· < ·):=Pairwise.sublist (take_sublist _ _) h;have hsub2:(l.drop (below l.toArray j)).Pairwise (· < ·):=Pairwise.sublist (List.drop_sublist _ _) h;have h1:∀a∈l.take (below l.toArray j),a<j:=by
  intro a ha;obtain⟨k,hk,e⟩:=mem_iff_getElem.mp ha;rw[length_take]at hk;rw[List.getElem_take]at e;rw[←e];exact b2 k (by omega) (by omega)
 have h2:∀a∈l.drop (below l.toArray j),j<a:=by
  intro a ha;have hne:a≠j:=λe=>hj (e ▸ List.mem_of_mem_drop ha);obtain⟨k,hk,e⟩:=mem_iff_getElem.mp ha;rw[length_drop]at hk;rw[List.getElem_drop]at e;have:=b3 (below l.toArray j+k) (by omega) (by omega);omega
 refine⟨hsub1,⟨h2,hsub2⟩,λa ha b hb=>?_⟩;rcases mem_cons.mp hb with rfl|hb
 ·exact h1 a ha
 ·have:=h1 a ha;have:=h2 b hb;omega
theorem vq{t:SetTable}{l:List Nat}(T:Tb t l){j:Nat}(hj:j∉l)(hm:j≤t.mask):Tb (t.put j).1 (l.take (below l.toArray j)++j::l.drop (below l.toArray j))∧(t.put j).2=below l.toArray j∧(t.put j).1.mask=t.mask:=by
 refine⟨⟨?_,?_,pN T.up hj,?_⟩,?_,rfl⟩
 ·show insertAt t.place (below t.place j) j=_;rw[T.pl];apply Array.toList_inj.mp;rw[SetTable.toList_insertAt]
 ·show(if has t.dummies j=true then _ else t.dummies)=#[];rw[T.nd,oG];rfl
 ·intro a ha;rcases mem_append.mp ha with h|h
  ·exact T.le a (List.mem_of_mem_take h)
  ·rcases mem_cons.mp h with rfl|h
   ·exact hm
   ·exact T.le a (List.mem_of_mem_drop h)
 ·show below t.place j=_;rw[T.pl]
def wY(mask:Nat)(zs:List (Nat×Int)):Prop:=∀z∈zs,∃n,pos mask z.2 n=z.1∧∀m,m<n→pos mask z.2 m∈zs.map (·.1)
def emp(owner:Array (Option Nat))(j:Nat):Bool:=(owner.getD j (some 0)).isNone
theorem jv(mask:Nat)(owner:Array (Option Nat)):∀(fuel:Nat)(x:Nat×Nat),x.1≤mask→(∃k,k<fuel∧emp owner (lv mask k x).1=true) →
  ∃j n,layClean.free mask owner fuel x.1 x.2=some j∧(nth mask (lvP mask x) n).j=j∧emp owner j=true∧∀m,m<n→emp owner (nth mask (lvP mask x) m).j=false
 |0,x,_,h=>by obtain⟨k,hk,_⟩:=h;omega
 |fuel+1,x,hx,h=>by
  unfold layClean.free;have hr:=gr hx;have hpart:∀m,m≤runEnd mask x.1-x.1→(nth mask (lvP mask x) m).j=x.1+m:=λm hm=>by
   rw[lu mask m (lvP mask x) hm];rfl
  cases e:(List.range (runEnd mask x.1+1-x.1)).find? (λk=>(owner.getD (x.1+k) (some 0)).isNone)with
  |some k =>
   rw[List.find?_range_eq_some]at e;obtain⟨e1,e2,e3⟩:=e;have hk:k≤runEnd mask x.1-x.1:=by have:=mem_range.mp e2;omega
   refine⟨x.1+k,k,rfl,hpart k hk,e1,λm hm=>?_⟩;rw[hpart m (by omega)];have:=e3 m hm;simpa [emp]using this
  |none =>
   rw[List.find?_range_eq_none]at e;obtain⟨k,hk,h1⟩:=h;have hk0:k≠0:=by
    rintro rfl;have:=e 0 (by omega);have h1':(owner.getD x.1 (some 0)).isNone=true:=h1;rw[Nat.add_zero,h1']at this;simp at this
   obtain⟨k',rfl⟩:∃k',k=k'+1:=⟨k-1,by omega⟩;have hl:(leap mask x.1 x.2).1≤mask:=oC mask 1 x hx;obtain⟨j,n,f1,f2,f3,f4⟩:=jv mask owner fuel (leap mask x.1 x.2) hl ⟨k',by omega,h1⟩;refine⟨j,(runEnd mask x.1-x.1+1)+n,f1,?_,f3,λm hm=>?_⟩
   ·rw[fe,eL];exact f2
   ·by_cases hm2:m≤runEnd mask x.1-x.1
    ·rw[hpart m hm2];have:=e m (by omega);simpa [emp]using this
    ·obtain⟨m',rfl⟩:∃m',m=(runEnd mask x.1-x.1+1)+m':=⟨m-(runEnd mask x.1-x.1+1),by omega⟩;rw[fe,eL];exact f4 m' (by omega)
theorem tm{mask:Nat}(c:Cyc mask)(owner:Array (Option Nat))(h:Int){j₀:Nat}(hj:j₀≤mask)(he:emp owner j₀=true):
  ∃j n,layClean.free mask owner (turns mask) (bits h % (mask+1)) (bits h)=some j∧pos mask h n=j∧emp owner j=true∧∀m,m<n→emp owner (pos mask h m)=false:=by
 have h0:(lv mask 13 (bits h % (mask+1),bits h)).2=0:=by
  rw[eM];have:=oE h;exact Nat.div_eq_of_lt (by have e:(32:Nat) ^ 13=36893488147419103232:=(by decide);rw[e];show bits h<_;omega)
 have hx:bits h % (mask+1)≤mask:=by have:=mod_lt (bits h) (show 0<mask+1 by omega);omega
 have h1:(lv mask 13 (bits h % (mask+1),bits h)).1≤mask:=oC mask _ _ hx;obtain⟨k,hk,e⟩:=c _ h1 j₀ hj;refine jv mask owner (turns mask) (bits h % (mask+1),bits h) hx ⟨13+k,by unfold turns;omega,?_⟩;rw[nr];have ex:lv mask 13 (bits h % (mask+1),bits h)=((lv mask 13 (bits h % (mask+1),bits h)).1,0):=by rw[←h0]
 rw[ex,iq,e];exact he
def live(mask:Nat)(owner:Array (Option Nat)):List (Nat×Nat):=(List.range (mask+1)).filterMap λj=>(owner.getD j none).map (j,·)
theorem dC{α β:Type}{f g:α→Option β}:∀{l:List α},(∀x∈l,g x=f x)→l.filterMap g=l.filterMap f
 |[],_=>rfl
 |x::l,h=>by
  have ih:=dC (l:=l) λy hy=>h y (mem_cons_of_mem _ hy);have hx:=h x mem_cons_self;cases e:f x with
  |none=>rw[filterMap_cons_none e,filterMap_cons_none (hx.trans e),ih]
  |some b=>rw[filterMap_cons_some e,filterMap_cons_some (hx.trans e),ih]
theorem eB{α β:Type}(f g:α→Option β)(a:α)(v:β)(hf:f a=none)(hg:g a=some v)(hne:∀x,x≠a→g x=f x):∀(l:List α),l.Nodup→a∈l →
  (l.filterMap g).Perm (v::l.filterMap f)
 |[],_,h=>by simp at h
 |x::l,hn,h=>by
  obtain⟨h1,h2⟩:=nodup_cons.mp hn
  by_cases e:x=a
  ·subst e;rw[filterMap_cons_some hg,filterMap_cons_none hf];have:l.filterMap g=l.filterMap f:=dC λy hy=>hne y (λe=>h1 (e ▸ hy));rw[this]
  ·have ha:a∈l:=by
    rcases mem_cons.mp h with z|z
    ·exact absurd z.symm e
    ·exact z
   have ih:=eB f g a v hf hg hne l h2 ha;cases ef:f x with
   |none =>
    rw[filterMap_cons_none ef,filterMap_cons_none (by rw[hne x e,ef])];exact ih
   |some b =>
    rw[filterMap_cons_some ef,filterMap_cons_some (by rw[hne x e,ef])];exact(ih.cons b).trans (List.Perm.swap _ _ _)
structure Lay(mask:Nat)(owner:Array (Option Nat))(hs:List Int):Prop where
 size:owner.size=mask+1
 perm:((live mask owner).map (·.2)).Perm (List.range hs.length)
 path:∀j i,owner.getD j none=some i→∃h,hs[i]?=some h∧∃n,pos mask h n=j∧∀m,m<n→emp owner (pos mask h m)=false
theorem fg{mask:Nat}{owner:Array (Option Nat)}(hs:owner.size=mask+1){j:Nat}(hj:j≤mask):emp owner j=(owner.getD j none).isNone:=by
 unfold emp;rw[getD_eq_getD_getElem?,getD_eq_getD_getElem?,Array.getElem?_eq_getElem (by omega)];rfl
theorem tq(mask:Nat):Lay mask (replicate (mask+1) none) []:=by
 have e:∀j,(replicate (mask+1) (none:Option Nat)).getD j none=none:=λj=>by
  rw[getD_eq_getD_getElem?,Array.getElem?_replicate]
  split<;>rfl
 refine⟨by simp,?_,λj i h=>?_⟩
 ·have:live mask (replicate (mask+1) none)=[]:=by
   unfold live;rw[List.filterMap_eq_nil_iff];intro j _;rw[e];rfl
  rw[this];simp
 ·rw[e]at h;cases h
theorem qQ{mask:Nat}{owner:Array (Option Nat)}{hs:List Int}(L:Lay mask owner hs)(hl:hs.length≤mask):∃j,j≤mask∧emp owner j=true:=by
 by_cases h:∃j,j≤mask∧emp owner j=true
 ·exact h
 ·exfalso
  have all:∀j,j≤mask→∃i,owner.getD j none=some i:=λj hj=>by
   cases e:owner.getD j none with
   |some i=>exact⟨i,rfl⟩
   |none=>exact(h ⟨j,hj,by rw[fg L.size hj,e];rfl⟩).elim
  have len:(live mask owner).length=mask+1:=by
   have key:∀l:List Nat,(∀j∈l,j≤mask)→(l.filterMap λj=>(owner.getD j none).map (j,·)).length=l.length:=by
    intro l
    induction l with
    |nil=>intro _;rfl
    |cons x l ih =>
     intro hl;obtain⟨i,e⟩:=all x (hl x (by simp));rw[filterMap_cons_some (by rw[e];rfl),length_cons,length_cons,ih λj hj=>hl j (by simp[hj])]
   unfold live;rw[key _ (λj hj=>by have:=mem_range.mp hj;omega),length_range]
  have:=L.perm.length_eq;rw[length_map,length_range,len]at this;omega
theorem fi{owner:Array (Option Nat)}{j k:Nat}{v:Option Nat}(hj:j<owner.size):(owner.setIfInBounds j v).getD k none=if k=j then v else owner.getD k none:=by
 rw[getD_eq_getD_getElem?,getD_eq_getD_getElem?,Array.getElem?_setIfInBounds]
 by_cases e:j=k
 ·subst e;simp[hj]
 ·rw[if_neg e,if_neg (λz=>e z.symm)]
theorem oH{mask:Nat}{owner:Array (Option Nat)}{j k i:Nat}(hs:owner.size=mask+1)(hj:j≤mask)(hk:k≤mask)(h:emp owner k=false):emp (owner.setIfInBounds j (some i)) k=false:=by
 rw[fg (by simpa using hs) hk,fi (by omega)];rw[fg hs hk]at h
 split
 ·rfl
 ·exact h
theorem qS{mask:Nat}(c:Cyc mask){owner:Array (Option Nat)}{hs:List Int}(L:Lay mask owner hs)(hl:hs.length≤mask)(h:Int):
  ∃j,layClean.free mask owner (turns mask) (bits h % (mask+1)) (bits h)=some j∧Lay mask (owner.setIfInBounds j (some hs.length)) (hs++[h]):=by
 obtain⟨j₀,hj₀,e₀⟩:=qQ L hl;obtain⟨j,n,e1,e2,e3,e4⟩:=tm c owner h hj₀ e₀;have hj:j≤mask:=by rw[←e2];exact iu mask h n
 have hjn:owner.getD j none=none:=by
  rw[fg L.size hj]at e3;exact Option.isNone_iff_eq_none.mp e3
 refine⟨j,e1,by simpa using L.size,?_,λk i hk=>?_⟩
 ·have p:=eB (λk=>(owner.getD k none).map (k,·)) (λk=>((owner.setIfInBounds j (some hs.length)).getD k none).map (k,·)) j (j,hs.length) (by simp[hjn])
   (by show((owner.setIfInBounds j (some hs.length)).getD j none).map (j,·)=_;rw[fi (by rw[L.size];omega),if_pos rfl];rfl) (λx hx=>by show((owner.setIfInBounds j (some hs.length)).getD x none).map (x,·)=(owner.getD x none).map (x,·);rw[fi (by rw[L.size];omega),if_neg hx]) (List.range (mask+1)) List.nodup_range (mem_range.mpr (by omega))
  have p2:((live mask (owner.setIfInBounds j (some hs.length))).map (·.2)).Perm (hs.length::(live mask owner).map (·.2)):=p.map (·.2);rw[length_append,length_singleton,range_succ];exact p2.trans ((L.perm.cons _).trans (List.perm_append_singleton _ _).symm)
 ·rw[fi (by rw[L.size];omega)]at hk
  by_cases e:k=j
  ·subst e;rw[if_pos rfl]at hk;cases hk;exact⟨h,by simp,n,e2,λm hm=>oH L.size hj (iu _ _ _) (e4 m hm)⟩
  ·rw[if_neg e]at hk;obtain⟨h',a1,n',a2,a3⟩:=L.path k i hk;have hi:i<hs.length:=(List.getElem?_eq_some_iff.mp a1).1;exact⟨h',by rw[getElem?_append_left hi];exact a1,n',a2,λm hm=>oH L.size hj (iu _ _ _) (a3 m hm)⟩
theorem gK{mask:Nat}(c:Cyc mask)(hashes:Array Int)(hl:hashes.size≤mask+1):∃owner,layClean mask hashes=some owner∧Lay mask owner hashes.toList:=by
 have key:∀(r hs:List Int)(owner:Array (Option Nat)),Lay mask owner hs→hs.length+r.length≤mask+1 →
   ∃owner',r.foldl (λacc h=>do
    let(owner,k) ← acc
    let j ← layClean.free mask owner (turns mask) (bits h % (mask+1)) (bits h)
    pure (owner.setIfInBounds j (some k),k+1)) (some (owner,hs.length))=some (owner',hs.length+r.length)∧Lay mask owner' (hs++r):=by
  intro r
  induction r with
  |nil=>intro hs owner L _;exact⟨owner,rfl,by simpa using L⟩
  |cons h r ih =>
   intro hs owner L hle;rw[length_cons]at hle;obtain⟨j,e,L'⟩:=qS c L (by omega) h;obtain⟨owner',e',L''⟩:=ih (hs++[h]) _ L' (by rw[length_append,length_singleton];omega);refine⟨owner',?_,by rw[append_assoc]at L'';exact L''⟩;rw[List.foldl_cons];have eb:(do
    let(owner,k) ← some (owner,hs.length)
    let j ← layClean.free mask owner (turns mask) (bits h % (mask+1)) (bits h)
    pure (owner.setIfInBounds j (some k),k+1))=some (owner.setIfInBounds j (some hs.length),hs.length+1):=by
    show(layClean.free mask owner (turns mask) (bits h % (mask+1)) (bits h)).bind _=_;rw[e];rfl
   rw[eb];rw[length_append,length_singleton]at e';rw[e',length_cons]
   congr 2
   omega
 obtain⟨owner',e,L⟩:=key hashes.toList [] _ (tq mask) (by simpa using hl);refine⟨owner',?_,by simpa using L⟩
 unfold layClean;rw[←Array.foldl_toList];have e2:(0:Nat)=([]:List Int).length:=rfl;rw[e2,e];rfl
theorem jw{t:SetTable}{hashes:Array Int}{wanted:Nat}(c:Cyc (sizeAbove wanted-1))(hl:hashes.size≤sizeAbove wanted-1+1):
  ∃(t':SetTable) (zs:List (Nat×Nat)),t.relaid hashes wanted=some (t',(zs.map (·.2)).toArray)∧t'.mask=sizeAbove wanted-1∧t'.led=t.led∧t'.plain=t.plain ∧
   Tb t' (zs.map (·.1))∧(zs.map (·.2)).Perm (List.range hashes.size)∧wY t'.mask (zs.map λz=>(z.1,hashes.getD z.2 0)):=by
 obtain⟨owner,e,L⟩:=gK c hashes hl;refine⟨{mask:=sizeAbove wanted-1,place:=((live (sizeAbove wanted-1) owner).map (·.1)).toArray,dummies:=#[],finger:=t.finger,led:=t.led,moves:=t.movedTo (sizeAbove wanted-1),plain:=t.plain},live (sizeAbove wanted-1) owner,?_,rfl,rfl,rfl,⟨rfl,rfl,?_,?_⟩,?_,?_⟩
 ·unfold relaid laid;rw[e];rfl
 ·unfold Up live;rw[List.map_filterMap];have e1:((List.range (sizeAbove wanted-1+1)).filterMap λj=>((owner.getD j none).map (j,·)).map (·.1))=(List.range (sizeAbove wanted-1+1)).filter λj=>(owner.getD j none).isSome:=by
   generalize List.range (sizeAbove wanted-1+1)=l
   induction l with
   |nil=>rfl
   |cons x l ih =>
    cases ex:owner.getD x none with
    |none=>rw[filterMap_cons_none (by rw[ex];rfl),filter_cons_of_neg (by simp[ex])];exact ih
    |some i=>rw[filterMap_cons_some (b:=x) (by rw[ex];rfl),filter_cons_of_pos (by simp[ex]),ih]
  rw[e1];exact Pairwise.sublist filter_sublist List.pairwise_lt_range
 ·intro j hj;obtain⟨z,hz,rfl⟩:=mem_map.mp hj;unfold live at hz;obtain⟨k,hk,e1⟩:=mem_filterMap.mp hz;cases ex:owner.getD k none with
  |none=>rw[ex]at e1;cases e1
  |some i =>
   rw[ex]at e1;have e2:(k,i)=z:=Option.some.inj e1;subst e2;have:=mem_range.mp hk;show k≤sizeAbove wanted-1;omega
 ·have:=L.perm;rw[length_toList]at this;exact this
 ·intro y hy;obtain⟨z,hz,rfl⟩:=mem_map.mp hy;have key:∀z:Nat×Nat,z∈live (sizeAbove wanted-1) owner↔z.1≤sizeAbove wanted-1∧owner.getD z.1 none=some z.2:=by
   intro z;unfold live;rw[mem_filterMap];constructor
   ·rintro⟨k,hk,e1⟩;cases ex:owner.getD k none with
    |none=>rw[ex]at e1;cases e1
    |some i =>
     rw[ex]at e1;have e2:(k,i)=z:=Option.some.inj e1;subst e2;have:=mem_range.mp hk;exact⟨by omega,ex⟩
   ·rintro⟨h1,h2⟩;exact⟨z.1,mem_range.mpr (by omega),by rw[h2];rfl⟩
  obtain⟨z1,z2⟩:=(key z).mp hz;obtain⟨h,a1,n,a2,a3⟩:=L.path _ _ z2;have eh:hashes.getD z.2 0=h:=by
   have a1':hashes[z.2]?=some h:=by simpa using a1
   rw[getD_eq_getD_getElem?,a1'];rfl
  refine⟨n,by rw[eh];exact a2,λm hm=>?_⟩;have:=a3 m hm;have hle:=iu (sizeAbove wanted-1) h m;rw[fg L.size hle]at this;cases ex:owner.getD (pos (sizeAbove wanted-1) h m) none with
  |none=>rw[ex]at this;cases this
  |some i =>
   rw[map_map];show pos (sizeAbove wanted-1) (hashes.getD z.2 0) m∈_;rw[eh];exact mem_map.mpr ⟨(pos (sizeAbove wanted-1) h m,i),(key _).mpr ⟨hle,ex⟩,rfl⟩
section
variable{prog:Program}{w:World}{K:Type}[DecidableEq K]{knd:KeyKind prog w K}{A:Around}{E:Value→Shared→Prop}{s:Shared}
end
section
variable{prog:Program}{w:World}{K:Type}[DecidableEq K](knd:KeyKind prog w K)
variable{knd}
variable{A:Around}{E:Value→Shared→Prop}{s:Shared}
theorem fj{t:SetTable}{l:List Nat}(T:Tb t l):t.fill=l.length:=by
 unfold SetTable.fill;rw[T.pl,T.nd];simp
theorem ki{t:SetTable}{l:List Nat}(T:Tb t l){n:Nat}(hn:l.length=n)(hf:n≤t.mask):t.fits n=true:=by
 unfold SetTable.fits;rw[fj T,T.pl];simp[hn,hf]
end
theorem oI:∀(n:Nat)(l:List Nat),(∀j,j<n→j∈l)→n≤l.length
 |0,_,_=>zero_le _
 |n+1,l,h=>by
  have hn:=h n (by omega);have ih:=oI n (l.erase n) λj hj=>(List.mem_erase_of_ne (by omega)).mpr (h j (by omega));rw[List.length_erase_of_mem hn]at ih;have:0<l.length:=List.length_pos_of_mem hn;omega
theorem nu(n:Nat)(l:List Nat)(h:l.length≤n):∃j,j≤n∧j∉l:=by
 by_cases z:∃j,j≤n∧j∉l
 ·exact z
 ·exfalso
  have:=oI (n+1) l λj hj=>by
   by_cases e:j∈l
   ·exact e
   ·exact(z ⟨j,by omega,e⟩).elim
  omega
section
variable{prog:Program}{w:World}{K:Type}[DecidableEq K]{knd:KeyKind prog w K}{A:Around}{E:Value→Shared→Prop}{s:Shared}
theorem stored{a:Addr}{o:Obj}{es:Array (Int×Value)}{ep:Nat}{t:SetTable}(ho:s.heap.get? a=some o)(hd:o.data=.set es ep t)(es':Array (Int×Value))(t':SetTable):
  (s.heap.update a (Obj.putSet es' t')).get? a=some {o with data:=.set es' (ep+1) t'}:=by
 have:=get?_update_self (Obj.putSet es' t') ho (by rw[putSet_of es' t' hd];rfl);rw[putSet_of es' t' hd]at this;exact this
theorem qT{n:Nat}(h:n≤64):n≤sizeLine:=by rw[sizeLine_eq];omega
end
section
variable{prog:Program}{w:World}{K:Type}[DecidableEq K]{knd:KeyKind prog w K}{A:Around}{R:Result→Shared→Prop}{I:Addr}{fp wr:List Addr}{G:Array GenState→Array GenState→Prop}{n:Nat}{P:Nat→Value→Prop}{St:Nat→Shared→Prop}
end
section
variable{prog:Program}{w:World}{K:Type}[DecidableEq K]{knd:KeyKind prog w K}{A:Around}{E:Value→Shared→Prop}{s:Shared}
end
end TB
namespace SRT
open PySem PySem.W PyProof.Rows
def run{α:Type}(f:Nat→Nat→Bool):KasT α→α
 |.ret a=>a
 |.ask i j k=>run f (k (f i j))
theorem cX{α β:Type}(f:Nat→Nat→Bool)(g:α→KasT β):∀t:KasT α,run f (t.bind g)=run f (g (run f t))
 |.ret a=>rfl
 |.ask i j k=>cX f g (k (f i j))
def path{α:Type}(f:Nat→Nat→Bool)(n:Nat):KasT α→Prop
 |.ret _=>True
 |.ask i j k=>i<n∧j<n∧path f n (k (f i j))
theorem cC{α β:Type}{f:Nat→Nat→Bool}{n:Nat}{g:α→KasT β}:∀{t:KasT α},path f n t→path f n (g (run f t))→path f n (t.bind g)
 |.ret a,_,h=>h
 |.ask i j k,h,h'=>⟨h.1,h.2.1,cC (t:=k (f i j)) h.2.2 h'⟩
theorem oJ{α:Type}{f:Nat→Nat→Bool}{n:Nat}{cmp:Nat→Nat→(Bool→Shared→Prop)→Shared→Prop}{s:Shared}(hc:∀i j C,i<n→j<n→C (f i j) s→cmp i j C s)(Q:α→Shared→Prop):∀t:KasT α,path f n t→Q (run f t) s→t.kasWp cmp Q s
 |.ret a,_,h=>h
 |.ask i j k,p,h=>hc i j _ p.1 p.2.1 (oJ hc Q (k (f i j)) p.2.2 h)
structure Ord(f:Nat→Nat→Bool)(n:Nat):Prop where
 irr:∀i,i<n→f i i=false
 tr:∀i j k,i<n→j<n→k<n→f i j=true→f j k=true→f i k=true
 tot:∀i j,i<n→j<n→i≠j→f i j=true∨f j i=true
section
variable{f:Nat→Nat→Bool}{n:Nat}
structure Row(n:Nat)(p:Array Nat):Prop where
 perm:p.toList.Perm (List.range n)
theorem Row.size{p:Array Nat}(r:Row n p):p.size=n:=by have:=r.perm.length_eq;simpa using this
theorem Row.lt{p:Array Nat}(r:Row n p){i:Nat}(hi:i<n):p.getD i 0<n:=by
 have hs:=r.size;have:p.getD i 0∈p.toList:=by
  rw[getD_eq_getD_getElem?,Array.getElem?_eq_getElem (by omega)];exact Array.getElem_mem_toList (by omega)
 exact mem_range.mp (r.perm.mem_iff.mp this)
theorem Row.ne{p:Array Nat}(r:Row n p){i j:Nat}(hi:i<n)(hj:j<n)(hij:i≠j):p.getD i 0≠p.getD j 0:=by
 have hs:=r.size;have nd:p.toList.Nodup:=r.perm.nodup_iff.mpr List.nodup_range;rw[getD_eq_getD_getElem?,getD_eq_getD_getElem?,Array.getElem?_eq_getElem (by omega),Array.getElem?_eq_getElem (by omega)];intro e;have e':p.toList[i]'(by simpa using (by omega:i<p.size))=p.toList[j]'(by simpa using (by omega:j<p.size)):=by simpa using e
 exact hij ((getElem_inj nd).mp e')
theorem Row.rev{p:Array Nat}(r:Row n p)(i j:Nat):Row n (kas_rev p i j):=⟨(Array.perm_iff_toList_perm.mp (mirror_perm p i j _)).trans r.perm⟩
theorem Row.bub{p:Array Nat}(r:Row n p)(i j:Nat):Row n (bubble p i j):=⟨(Array.perm_iff_toList_perm.mp (bubble_perm p i j)).trans r.perm⟩
def Up(f:Nat→Nat→Bool)(p:Array Nat)(m:Nat):Prop:=∀i j,i<j→j<m→f (p.getD i 0) (p.getD j 0)=true
theorem tu(O:Ord f n){p:Array Nat}(r:Row n p){m:Nat}(hm:m<n)(h1:1≤m)(u:Up f p m)(h:f (p.getD m 0) (p.getD (m-1) 0)=false):Up f p (m+1):=by
 have hl:f (p.getD (m-1) 0) (p.getD m 0)=true:=by
  rcases O.tot _ _ (r.lt (i:=m) hm) (r.lt (i:=m-1) (by omega)) (r.ne hm (by omega) (by omega))with z|z
  ·rw[h]at z;cases z
  ·exact z
 intro i j hij hj
 by_cases e:j=m
 ·subst e
  by_cases e2:i=j-1
  ·rw[e2];exact hl
  ·exact O.tr _ _ _ (r.lt (by omega)) (r.lt (by omega)) (r.lt hm) (u i (j-1) (by omega) (by omega)) hl
 ·exact u i j hij (by omega)
theorem kj(O:Ord f n){p:Array Nat}(r:Row n p):∀(fuel m:Nat),1≤m→m+fuel≤n→Up f p m →
  m≤run f (kas_asc p fuel m)∧run f (kas_asc p fuel m)≤m+fuel∧Up f p (run f (kas_asc p fuel m))∧(run f (kas_asc p fuel m)<m+fuel→f (p.getD (run f (kas_asc p fuel m)) 0) (p.getD (run f (kas_asc p fuel m)-1) 0)=true)
 |0,m,_,_,u=>⟨le_refl _,le_refl _,u,λh=>absurd h (by simp[kas_asc,run])⟩
 |fuel+1,m,h1,hm,u=>by
  cases e:f (p.getD m 0) (p.getD (m-1) 0)with
  |true =>
   have er:run f (kas_asc p (fuel+1) m)=m:=by
    show run f (if f (p.getD m 0) (p.getD (m-1) 0)=true then KasT.ret m else kas_asc p fuel (m+1))=m
    rw[e,if_pos rfl];rfl
   rw[er];exact⟨le_refl _,by omega,u,λ_=>e⟩
  |false =>
   have er:run f (kas_asc p (fuel+1) m)=run f (kas_asc p fuel (m+1)):=by
    show run f (if f (p.getD m 0) (p.getD (m-1) 0)=true then KasT.ret m else kas_asc p fuel (m+1))=_
    rw[e,if_neg (by simp)]
   rw[er];obtain⟨a1,a2,a3,a4⟩:=kj O r fuel (m+1) (by omega) (by omega) (tu O r (by omega) h1 u e);exact⟨by omega,by omega,a3,λh=>a4 (by omega)⟩
def vt(f:Nat→Nat→Bool)(p:Array Nat)(m:Nat):Prop:=∀i j,i<j→j<m→f (p.getD j 0) (p.getD i 0)=true
theorem km(O:Ord f n){p:Array Nat}(r:Row n p):∀(fuel m:Nat),1≤m→m+fuel≤n→vt f p m →
  ∃m',run f (kas_desc fuel p m 0)=(p,m',0)∧m≤m'∧m'≤m+fuel∧vt f p m'
 |0,m,_,_,u=>⟨m,rfl,le_refl _,le_refl _,u⟩
 |fuel+1,m,h1,hm,u=>by
  cases e:f (p.getD m 0) (p.getD (m-1) 0)with
  |true =>
   have er:run f (kas_desc (fuel+1) p m 0)=run f (kas_desc fuel p (m+1) 0):=by
    show run f (if f (p.getD m 0) (p.getD (m-1) 0)=true then (if 0>0 then _ else kas_desc fuel p (m+1) 0)else _)=_
    rw[e,if_pos rfl,if_neg (by omega)]
   rw[er];obtain⟨m',a1,a2,a3,a4⟩:=km O r fuel (m+1) (by omega) (by omega) (by
    intro i j hij hj
    by_cases ej:j=m
    ·subst ej
     by_cases e2:i=j-1
     ·rw[e2];exact e
     ·exact O.tr _ _ _ (r.lt (by omega)) (r.lt (i:=j-1) (by omega)) (r.lt (by omega)) e (u i (j-1) (by omega) (by omega))
    ·exact u i j hij (by omega))
   exact⟨m',a1,by omega,by omega,a4⟩
  |false =>
   have e2:f (p.getD (m-1) 0) (p.getD m 0)=true:=by
    rcases O.tot _ _ (r.lt (i:=m) (by omega)) (r.lt (i:=m-1) (by omega)) (r.ne (by omega) (by omega) (by omega))with z|z
    ·rw[e]at z;cases z
    ·exact z
   have er:run f (kas_desc (fuel+1) p m 0)=(p,m,0):=by
    show run f (if f (p.getD m 0) (p.getD (m-1) 0)=true then _ else KasT.ask (p.getD (m-1) 0) (p.getD m 0) λd=>if d=true then .ret (p,m,0)else kas_desc fuel p (m+1) (0+1))=_
    rw[e,if_neg (by simp)];show run f (if f (p.getD (m-1) 0) (p.getD m 0)=true then KasT.ret (p,m,0)else kas_desc fuel p (m+1) (0+1))=_
    rw[e2,if_pos rfl];rfl
   exact⟨m,er,le_refl _,by omega,u⟩
theorem oK{p:Array Nat}{m:Nat}(hm:m≤p.size)(k:Nat)(hk:k<m):(kas_rev p 0 m).getD k 0=p.getD (m-1-k) 0:=by
 unfold kas_rev;rw[getD_eq_getD_getElem?,getElem?_mirror_all hm k,if_pos ⟨by omega,hk⟩,getD_eq_getD_getElem?]
 congr 2
 omega
theorem vw{p:Array Nat}{m:Nat}(hm:m≤p.size)(d:vt f p m):Up f (kas_rev p 0 m) m:=by
 intro i j hij hj;rw[oK hm i (by omega),oK hm j hj];exact d _ _ (by omega) (by omega)
theorem lz(O:Ord f n){p:Array Nat}(r:Row n p)(h2:1≤n):∃m p',run f (kas_count n p)=(m,p')∧1≤m∧m≤n∧Row n p'∧Up f p' m:=by
 obtain⟨a1,a2,a3,a4⟩:=kj O r (n-1) 1 (by omega) (by omega) (by intro i j hij hj;omega);have er:run f (kas_count n p)=run f (if (run f (kas_asc p (n-1) 1)==n)=true then KasT.ret (run f (kas_asc p (n-1) 1),p)else if run f (kas_asc p (n-1) 1)>1 then .ask (p.getD 0 0) (p.getD (run f (kas_asc p (n-1) 1)-1) 0) λc=>if c=true then .ret (run f (kas_asc p (n-1) 1),p)else kas_descPart (run f (kas_asc p (n-1) 1)) n (kas_rev p 0 (run f (kas_asc p (n-1) 1)))
  else kas_descPart (run f (kas_asc p (n-1) 1)) n p):=by
  unfold kas_count;rw[cX]
 rw[er];generalize run f (kas_asc p (n-1) 1)=m at a1 a2 a3 a4⊢
 by_cases e:m=n
 ·rw[if_pos (by simp[e])];exact⟨m,p,rfl,a1,by omega,r,a3⟩
 ·rw[if_neg (by simpa using e)]
  by_cases e1:m>1
  ·rw[if_pos e1];refine⟨m,p,?_,a1,by omega,r,a3⟩;show run f (if f (p.getD 0 0) (p.getD (m-1) 0)=true then KasT.ret (m,p)else _)=_
   rw[a3 0 (m-1) (by omega) (by omega),if_pos rfl];rfl
  ·rw[if_neg e1];have em:m=1:=by omega
   subst em;have hd:=a4 (by omega);unfold kas_descPart;obtain⟨m',b1,b2,b3,b4⟩:=km O r (n-(1+1)) (1+1) (by omega) (by omega) (by
    intro i j hij hj;have:i=0∧j=1:=by omega
    rw[this.1,this.2];exact hd)
   rw[cX,b1];dsimp only;rw[if_neg (by omega)];unfold kas_tail3;have hs:=r.size;have ur:=vw (f:=f) (by omega:m'≤p.size) b4;obtain⟨c1,c2,c3,c4⟩:=kj O (r.rev 0 m') (n-m') m' (by omega) (by omega) ur;rw[cX];exact⟨_,_,rfl,by omega,by omega,r.rev 0 m',c3⟩
theorem fk(O:Ord f n){p:Array Nat}(r:Row n p){k:Nat}(hk:k<n)(u:Up f p k):∀(fuel l r':Nat),r'-l≤fuel→l≤r'→r'≤k →
  (∀i,i<l→f (p.getD i 0) (p.getD k 0)=true)→(∀i,r'≤i→i<k→f (p.getD k 0) (p.getD i 0)=true) →
  run f (kas_place p k fuel l r')≤k∧(∀i,i<run f (kas_place p k fuel l r')→f (p.getD i 0) (p.getD k 0)=true)∧(∀i,run f (kas_place p k fuel l r')≤i→i<k→f (p.getD k 0) (p.getD i 0)=true)
 |0,l,r',h1,h2,h3,h4,h5=>by
  have:l=r':=by omega
  subst this;exact⟨h3,h4,h5⟩
 |fuel+1,l,r',h1,h2,h3,h4,h5=>by
  unfold kas_place
  by_cases e:l≥r'
  ·rw[if_pos e];have:l=r':=by omega
   subst this;exact⟨h3,h4,h5⟩
  ·rw[if_neg e];have hmid:(l+r') / 2<k:=by omega
   cases c:f (p.getD k 0) (p.getD ((l+r') / 2) 0)with
   |true =>
    have er:run f (KasT.ask (p.getD k 0) (p.getD ((l+r') / 2) 0) λc=>if c=true then kas_place p k fuel l ((l+r') / 2)else kas_place p k fuel ((l+r') / 2+1) r')=run f (kas_place p k fuel l ((l+r') / 2)):=by
     show run f (if f (p.getD k 0) (p.getD ((l+r') / 2) 0)=true then _ else _)=_
     rw[c,if_pos rfl]
    rw[er];refine fk O r hk u fuel l _ (by omega) (by omega) (by omega) h4 (λi hi hik=>?_)
    by_cases ei:i=(l+r') / 2
    ·rw[ei];exact c
    ·exact O.tr _ _ _ (r.lt hk) (r.lt (i:=(l+r') / 2) (by omega)) (r.lt (by omega)) c (u _ _ (by omega) hik)
   |false =>
    have er:run f (KasT.ask (p.getD k 0) (p.getD ((l+r') / 2) 0) λc=>if c=true then kas_place p k fuel l ((l+r') / 2)else kas_place p k fuel ((l+r') / 2+1) r')=run f (kas_place p k fuel ((l+r') / 2+1) r'):=by
     show run f (if f (p.getD k 0) (p.getD ((l+r') / 2) 0)=true then _ else _)=_
     rw[c,if_neg (by simp)]
    rw[er];have c':f (p.getD ((l+r') / 2) 0) (p.getD k 0)=true:=by
     rcases O.tot _ _ (r.lt (i:=k) hk) (r.lt (i:=(l+r') / 2) (by omega)) (r.ne hk (by omega) (by omega))with z|z
     ·rw[c]at z;cases z
     ·exact z
    refine fk O r hk u fuel _ r' (by omega) (by omega) h3 (λi hi=>?_) h5
    by_cases ei:i=(l+r') / 2
    ·rw[ei];exact c'
    ·exact O.tr _ _ _ (r.lt (by omega)) (r.lt (i:=(l+r') / 2) (by omega)) (r.lt hk) (u i _ (by omega) (by omega)) c'
theorem gW{p:Array Nat}{k l:Nat}(hk:k<p.size)(hl:l≤k)(i:Nat):(bubble p k (k-l)).getD i 0=if i=l then p.getD k 0 else if l<i∧i≤k then p.getD (i-1) 0 else p.getD i 0:=by
 simp only[getD_eq_getD_getElem?];rw[getElem?_bubble hk (k-l) (by omega) i];have e:k-(k-l)=l:=by omega
 rw[e]
 by_cases h1:i=l
 ·rw[if_pos h1,if_pos h1]
 ·rw[if_neg h1,if_neg h1]
  by_cases h2:l<i∧i≤k
  ·rw[if_pos h2,if_pos h2]
  ·rw[if_neg h2,if_neg h2]
theorem qU(O:Ord f n):∀(fuel:Nat)(p:Array Nat)(k:Nat),Row n p→k+fuel=n→Up f p k→Row n (run f (kas_bin fuel p k))∧Up f (run f (kas_bin fuel p k)) n
 |0,p,k,r,hk,u=>by
  have:k=n:=by omega
  subst this;exact⟨r,u⟩
 |fuel+1,p,k,r,hk,u=>by
  have hkn:k<n:=by omega
  obtain⟨a1,a2,a3⟩:=fk O r hkn u k 0 k (by omega) (by omega) (le_refl _) (λi hi=>by omega) (λi h1 h2=>by omega);have er:run f (kas_bin (fuel+1) p k)=run f (kas_bin fuel (bubble p k (k-run f (kas_place p k k 0 k))) (k+1)):=by
   show run f ((kas_place p k k 0 k).bind λl=>kas_bin fuel (bubble p k (k-l)) (k+1))=_;rw[cX]
  rw[er];generalize run f (kas_place p k k 0 k)=l at a1 a2 a3⊢;have hs:=r.size;refine qU O fuel _ (k+1) (r.bub _ _) (by omega) ?_;intro i j hij hj;rw[gW (by omega) a1 i,gW (by omega) a1 j]
  by_cases ei:i=l
  ·rw[if_pos ei,if_neg (by omega),if_pos ⟨by omega,by omega⟩];exact a3 (j-1) (by omega) (by omega)
  ·rw[if_neg ei]
   by_cases ej:j=l
   ·rw[if_pos ej,if_neg (by omega)];exact a2 i (by omega)
   ·rw[if_neg ej]
    by_cases hi2:l<i∧i≤k
    ·rw[if_pos hi2,if_pos ⟨by omega,by omega⟩];exact u _ _ (by omega) (by omega)
    ·rw[if_neg hi2]
     by_cases hj2:l<j∧j≤k
     ·rw[if_pos hj2]
      by_cases e3:i=j-1
      ·omega
      ·exact u i (j-1) (by omega) (by omega)
     ·rw[if_neg hj2];exact u i j hij (by omega)
theorem ix{p:Array Nat}(r:Row n p):∀(fuel m:Nat),1≤m→m+fuel≤n→path f n (kas_asc p fuel m)
 |0,m,_,_=>trivial
 |fuel+1,m,h1,hm=>by
  refine⟨r.lt (by omega),r.lt (by omega),?_⟩;show path f n (if f (p.getD m 0) (p.getD (m-1) 0)=true then KasT.ret m else kas_asc p fuel (m+1))
  split
  ·exact trivial
  ·exact ix r fuel (m+1) (by omega) (by omega)
theorem jx(O:Ord f n){p:Array Nat}(r:Row n p):∀(fuel m:Nat),1≤m→m+fuel≤n→path f n (kas_desc fuel p m 0)
 |0,m,_,_=>trivial
 |fuel+1,m,h1,hm=>by
  refine⟨r.lt (by omega),r.lt (by omega),?_⟩;show path f n (if f (p.getD m 0) (p.getD (m-1) 0)=true then (if 0>0 then _ else kas_desc fuel p (m+1) 0)else KasT.ask (p.getD (m-1) 0) (p.getD m 0) λd=>if d=true then .ret (p,m,0)else kas_desc fuel p (m+1) (0+1))
  cases e:f (p.getD m 0) (p.getD (m-1) 0)with
  |true =>
   rw[if_pos rfl,if_neg (by omega)];exact jx O r fuel (m+1) (by omega) (by omega)
  |false =>
   rw[if_neg (by simp)];have e2:f (p.getD (m-1) 0) (p.getD m 0)=true:=by
    rcases O.tot _ _ (r.lt (i:=m) (by omega)) (r.lt (i:=m-1) (by omega)) (r.ne (by omega) (by omega) (by omega))with z|z
    ·rw[e]at z;cases z
    ·exact z
   refine⟨r.lt (by omega),r.lt (by omega),?_⟩;dsimp only;rw[e2,if_pos rfl];exact trivial
theorem nv(O:Ord f n){p:Array Nat}(r:Row n p)(h2:1≤n):path f n (kas_count n p):=by
 obtain⟨a1,a2,a3,a4⟩:=kj O r (n-1) 1 (by omega) (by omega) (by intro i j hij hj;omega);unfold kas_count;refine cC (ix r _ _ (by omega) (by omega)) ?_;generalize run f (kas_asc p (n-1) 1)=m at a1 a2 a3 a4⊢
 by_cases e:m=n
 ·rw[if_pos (by simp[e])];exact trivial
 ·rw[if_neg (by simpa using e)]
  by_cases e1:m>1
  ·rw[if_pos e1];refine⟨r.lt (by omega),r.lt (by omega),?_⟩;dsimp only;rw[a3 0 (m-1) (by omega) (by omega),if_pos rfl];exact trivial
  ·rw[if_neg e1];have em:m=1:=by omega
   subst em;have hd:=a4 (by omega);unfold kas_descPart;refine cC (jx O r _ _ (by omega) (by omega)) ?_;obtain⟨m',b1,b2,b3,b4⟩:=km O r (n-(1+1)) (1+1) (by omega) (by omega) (by
    intro i j hij hj;have:i=0∧j=1:=by omega
    rw[this.1,this.2];exact hd)
   rw[b1];dsimp only;rw[if_neg (by omega)];unfold kas_tail3;exact cC (ix (r.rev 0 m') _ _ (by omega) (by omega)) trivial
theorem eN{p:Array Nat}(r:Row n p){k:Nat}(hk:k<n):∀(fuel l r':Nat),r'≤k→path f n (kas_place p k fuel l r')
 |0,l,r',_=>trivial
 |fuel+1,l,r',h=>by
  unfold kas_place
  by_cases e:l≥r'
  ·rw[if_pos e];exact trivial
  ·rw[if_neg e];refine⟨r.lt hk,r.lt (by omega),?_⟩;dsimp only
   split
   ·exact eN r hk fuel _ _ (by omega)
   ·exact eN r hk fuel _ _ h
theorem lA(O:Ord f n):∀(fuel:Nat)(p:Array Nat)(k:Nat),Row n p→k+fuel=n→Up f p k→path f n (kas_bin fuel p k)
 |0,p,k,r,hk,u=>trivial
 |fuel+1,p,k,r,hk,u=>by
  have hkn:k<n:=by omega
  show path f n ((kas_place p k k 0 k).bind λl=>kas_bin fuel (bubble p k (k-l)) (k+1));refine cC (eN r hkn _ _ _ (le_refl _)) ?_;obtain⟨a1,a2,a3⟩:=fk O r hkn u k 0 k (by omega) (by omega) (le_refl _) (λi hi=>by omega) (λi h1 h2=>by omega);generalize run f (kas_place p k k 0 k)=l at a1 a2 a3⊢;have hs:=r.size;refine lA O fuel _ (k+1) (r.bub _ _) (by omega) ?_;intro i j hij hj;rw[gW (by omega) a1 i,gW (by omega) a1 j]
  by_cases ei:i=l
  ·rw[if_pos ei,if_neg (by omega),if_pos ⟨by omega,by omega⟩];exact a3 (j-1) (by omega) (by omega)
  ·rw[if_neg ei]
   by_cases ej:j=l
   ·rw[if_pos ej,if_neg (by omega)];exact a2 i (by omega)
   ·rw[if_neg ej]
    by_cases hi2:l<i∧i≤k
    ·rw[if_pos hi2,if_pos ⟨by omega,by omega⟩];exact u _ _ (by omega) (by omega)
    ·rw[if_neg hi2]
     by_cases hj2:l<j∧j≤k
     ·rw[if_pos hj2]
      by_cases e3:i=j-1
      ·omega
      ·exact u i (j-1) (by omega) (by omega)
     ·rw[if_neg hj2];exact u i j hij (by omega)
theorem pO(O:Ord f n)(h:1≤n):path f n (kas_sort n):=by
 have r0:Row n (toArray (List.range n)):=⟨by simp⟩;obtain⟨m,p',e,h1,h2,r,u⟩:=lz O r0 h;unfold kas_sort;refine cC (nv O r0 h) ?_;rw[e];dsimp only
 by_cases hm:m<n
 ·rw[if_pos hm];have:max m 1=m:=by omega
  rw[this];exact lA O (n-m) p' m r (by omega) u
 ·rw[if_neg hm];exact trivial
theorem tw(O:Ord f n)(h:1≤n):Row n (run f (kas_sort n))∧Up f (run f (kas_sort n)) n:=by
 have r0:Row n (toArray (List.range n)):=⟨by simp⟩;obtain⟨m,p',e,h1,h2,r,u⟩:=lz O r0 h;unfold kas_sort;rw[cX,e];dsimp only
 by_cases hm:m<n
 ·rw[if_pos hm];have:max m 1=m:=by omega
  rw[this];exact qU O (n-m) p' m r (by omega) u
 ·rw[if_neg hm];have:m=n:=by omega
  subst this;exact⟨r,u⟩
end
section
variable{prog:Program}{w:World}{A:Around}{E:Value→Shared→Prop}{s:Shared}
theorem tz{vs:List Value}(h:vs.length<2):((vs.toArray.zip vs.toArray).map (·.2)).toList=(toArray ((toArray (List.range vs.length)).toList.map λi=>vs.getD i Value.none)).toList:=by
 cases vs with
 |nil=>simp
 |cons v r =>
  cases r with
  |nil=>simp
  |cons u r=>exact absurd h (by simp)
theorem fm{f:Nat→Nat→Bool}{a:Addr}{vs:List Value}{n:Nat}{κ:SortKind}{P:PySem.Fin→Shared→Prop}(O:Ord f vs.length)(ho:s.heap.get? a=some (seqObj "list" vs.toArray n))(h64:vs.length<64)(hk:∀s':Shared,(∀b o,b≠a→s.heap.get? b=some o→s'.heap.get? b=some o)→∀Q:SortKind→Shared→Prop,2≤vs.length→Q κ s'→wpAny (model prog w) A (keyKind' vs.toArray) Q (λ_ _=>False) s')(hlt:∀s':Shared,(∀b o,b≠a→s.heap.get? b=some o→s'.heap.get? b=some o)→∀(i j:Nat) (C:Bool→Shared→Prop),i<vs.length→j<vs.length→C (f i j) s'→wpAny (model prog w) A (keyLt' κ (vs.getD i Value.none) (vs.getD j Value.none)) C (λ_ _=>False) s')(h:∀p:Array Nat,Row vs.length p→Up f p vs.length→P (.done (.ret .none)) {s with heap:=sortedHeap s.heap a vs (toArray (p.toList.map λi=>vs.getD i Value.none))}):
  wpAny (model prog w) A (Builtin.«list.sort» ⟨[.ref a],[]⟩) P E s:=by
 have ha:a<s.heap.objs.size:=lt_size ho;have s1:=SameBut.update s.heap a (Obj.mapSeq λ_=>(#[]:Array Value));obtain⟨e1,ho1⟩:∃e1,(s.heap.update a (Obj.mapSeq λ_=>(#[]:Array Value))).get? a=some (seqObj "list" #[] e1):=⟨_,get?_update_seq ho λ_=>#[]⟩;rw[list_sort_plain];refine wpAny_bind (listItems_at ho rfl ?_);refine wpAny_bind (listUpdate_at ho rfl ?_ (by rw[size_toArray,sizeLine_eq];omega) (zero_le _));refine wpAny_bind (seqEpoch_at ho1 rfl ?_);refine wpAny_bind (wpAny_newTuple ?_ (by show vs.length≤_;rw[sizeLine_eq];omega));refine wpAny_bind (wpAny_newList ?_ (zero_le _));refine wpAny_holding ?_;have ho6:(((s.heap.update a (Obj.mapSeq λ_=>(#[]:Array Value))).push (seqObj "tuple" vs.toArray 0)).push (seqObj "list" #[] 0)).get? a=some (seqObj "list" #[] e1):=get?_push_of_some _ (get?_push_of_some _ ho1);have keep:∀b o,b≠a→s.heap.get? b=some o→(((s.heap.update a (Obj.mapSeq λ_=>(#[]:Array Value))).push (seqObj "tuple" vs.toArray 0)).push (seqObj "list" #[] 0)).get? b=some o:=λb o hb e =>
  get?_push_of_some _ (get?_push_of_some _ ((s1.2 b hb).trans e))
 show wpAny (model prog w) A _ P E {s with heap:=((s.heap.update a (Obj.mapSeq λ_=>(#[]:Array Value))).push (seqObj "tuple" vs.toArray 0)).push (seqObj "list" #[] 0)}
 dsimp only
 by_cases hn2:vs.toArray.size<2
 ·rw[if_pos hn2,if_pos hn2];refine wpAny_bind (wpAny_pure ?_);rw[StateT.run_pure];refine wpAny_bind (wpAny_pure ?_);dsimp only;have hn2':vs.length<2:=by simpa using hn2
  have hr:Row vs.length (toArray (List.range vs.length)):=⟨by simp⟩;have hu:Up f (toArray (List.range vs.length)) vs.length:=λi j hij hj=>by omega
  have e2:(arrOf (SortSt.mk' general' (vs.toArray.zip vs.toArray) #[] 7 none)).map (·.2)=toArray ((toArray (List.range vs.length)).toList.map λi=>vs.getD i Value.none):=by
   show(vs.toArray.zip vs.toArray).map (·.2)=_;apply Array.toList_inj.mp;exact tz hn2'
  refine wpAny_bind (seqEpoch_at ho6 rfl ?_);rw[e2];refine wpAny_bind (listUpdate_at ho6 rfl ?_ (zero_le _) (by rw[size_toArray,length_map,length_toList,hr.size,sizeLine_eq];omega));show wpAny _ _ (if (e1 != e1)=true then _ else _) _ _ _
  simp only[bne_self_eq_false,false_eq_true,if_false];exact wpAny_pure (h _ hr hu)
 ·have hn2':2≤vs.length:=by rw[size_toArray]at hn2;omega
  rw[if_neg hn2,if_neg hn2];refine wpAny_bind (wpAny_mono (hk {s with heap:=((s.heap.update a (Obj.mapSeq λ_=>(#[]:Array Value))).push (seqObj "tuple" vs.toArray 0)).push (seqObj "list" #[] 0)} keep (λk' s'=>k'=κ∧s'={s with heap:=((s.heap.update a (Obj.mapSeq λ_=>(#[]:Array Value))).push (seqObj "tuple" vs.toArray 0)).push (seqObj "list" #[] 0)}) hn2' ⟨rfl,rfl⟩) (λκ' s0 hes=>?_) λ_ _ x=>x.elim)
  obtain⟨ek,es⟩:=hes;subst ek es;obtain⟨hrow,hup⟩:=tw O (by omega:1≤vs.length);refine wpAny_bind (wpAny_mono (kat_run (Q:=λst' s'=>∃p:Array Nat,p.size=vs.length∧arrOf st'=p.map (kas_item (vs.toArray.zip vs.toArray))∧failedOf st'=none∧p=run f (kas_sort vs.length)∧s'={s with heap:=((s.heap.update a (Obj.mapSeq λ_=>(#[]:Array Value))).push (seqObj "tuple" vs.toArray 0)).push (seqObj "list" #[] 0)})
   rfl hn2' h64 (λp' st' s' a1 a2 a3 a4=>⟨p',a1,a2,a3,a4⟩) (oJ (n:=vs.length) (λi j C hi hj hC=>hlt _ keep i j C hi hj hC) (λp s'=>p=run f (kas_sort vs.length)∧s'={s with heap:=((s.heap.update a (Obj.mapSeq λ_=>(#[]:Array Value))).push (seqObj "tuple" vs.toArray 0)).push (seqObj "list" #[] 0)}) _ (pO O (by omega)) ⟨rfl,rfl⟩)) ?_ λ_ _ e=>e)
  rintro⟨⟨⟩,st'⟩ s' ⟨p,hp,har,hf,ep,es⟩;subst es;dsimp only;have hout:=kat_snds (ks:=vs) rfl har;refine wpAny_bind (seqEpoch_at ho6 rfl ?_);rw[hout];refine wpAny_bind (listUpdate_at ho6 rfl ?_ (zero_le _) (by rw[size_toArray,length_map,length_toList,hp,sizeLine_eq];omega));rw[hf];simp only[bne_self_eq_false,false_eq_true,if_false];rw[ep];exact wpAny_pure (h _ hrow hup)
theorem lB{l:Addr}{vs:List Value}{Q:List Value→Shared→Prop}(hl:IsTup s.heap l vs.toArray)(h:Q vs {s with heap:=(s.heap.push (seqObj "list" #[] 0)).update s.heap.objs.size (Obj.mapSeq (· ++ vs.toArray))})(hsz:vs.length≤sizeLine):
  wpAny (model prog w) A (collect (.ref l)) Q E s:=by
 obtain⟨o,ho,hc,n,hd⟩:=id hl;unfold collect;refine wpAny_bind (wpAny_runValue (codeAny_builtin entry_proto_collect' ?_));show wpAny _ _ (do again (.builtin "list.__iadd__" ⟨[←newList [],.ref l],[]⟩)) _ _ s
 refine wpAny_bind (wpAny_newList (wpAny_pure ⟨Code.quiet_builtin _ (by decide +kernel),codeAny_builtin entry_list_iadd' ?_⟩));show wpAny _ _ (Builtin.List.listExtendWith (.ref s.heap.objs.size) (.ref l) (.ref s.heap.objs.size)) _ _ {s with heap:=s.heap.push (seqObj "list" #[] 0)}
 unfold Builtin.List.listExtendWith;have ho':(s.heap.push (seqObj "list" #[] 0)).get? l=some o:=get?_push_of_some _ ho;refine wpAny_bind (wpAny_typeOf (T:="tuple") ⟨o,ho',hc⟩ ?_);have ht:(Value.type "tuple"==Value.type "tuple")=true:=by rfl
 rw[if_pos (by rw[ht];simp)];refine wpAny_bind (listItems_at ho' hd ?_);refine wpAny_bind (listItems_at (xs:=#[]) (n:=0) (get?_push_size _ rfl) rfl ?_);rw[if_neg (by simp)];refine wpAny_bind (listUpdate_at (xs:=#[]) (n:=0) (get?_push_size _ rfl) rfl ?_ (zero_le _) (by show(#[]++vs.toArray).size≤sizeLine+1;simp only[Array.size_append,size_toArray,length_nil];omega));refine wpAny_pure ?_;show wpAny (model prog w) A (do
   let o ← load s.heap.objs.size
   match o.data with
   |.seq xs _=>pure xs.toList
   | _=>unsupported "internal:collect") Q E {s with heap:=(s.heap.push (seqObj "list" #[] 0)).update s.heap.objs.size (Obj.mapSeq (· ++ vs.toArray))}
 refine wpAny_bind (wpAny_load (get?_update_seq (get?_push_size _ rfl) _) ?_);show wpAny _ _ (pure ((#[]:Array Value)++vs.toArray).toList) Q E _;rw[show((#[]:Array Value)++vs.toArray).toList=vs by simp];exact wpAny_pure h
theorem lC{l:Addr}{vs:List Value}{Q:List Value→Shared→Prop}(hl:s.heap.IsList l vs.toArray∨IsTup s.heap l vs.toArray)(h:Q vs {s with heap:=(s.heap.push (seqObj "list" #[] 0)).update s.heap.objs.size (Obj.mapSeq (· ++ vs.toArray))})(hsz:vs.length≤sizeLine):
  wpAny (model prog w) A (collect (.ref l)) Q E s:=by
 rcases hl with hl|hl
 ·exact collect_list hl h hsz
 ·exact lB hl h hsz
theorem iy{f:Nat→Nat→Bool}{l:Addr}{vs:List Value}{κ:SortKind}{Q:Value→Shared→Prop}(O:Ord f vs.length)(hl:s.heap.IsList l vs.toArray∨IsTup s.heap l vs.toArray)(h64:vs.length<64)(hk:∀(A':Around) (s':Shared),A'.units≤A.units+2→(∀b o,s.heap.get? b=some o→s'.heap.get? b=some o)→∀Q:SortKind→Shared→Prop,2≤vs.length→Q κ s'→wpAny (model prog w) A' (keyKind' vs.toArray) Q (λ_ _=>False) s')(hlt:∀(A':Around) (s':Shared),A'.units≤A.units+2→(∀b o,s.heap.get? b=some o→s'.heap.get? b=some o)→∀(i j:Nat) (C:Bool→Shared→Prop),i<vs.length→j<vs.length→C (f i j) s'→wpAny (model prog w) A' (keyLt' κ (vs.getD i Value.none) (vs.getD j Value.none)) C (λ_ _=>False) s')(h:∀(p:Array Nat) (h':Heap),Row vs.length p→Up f p vs.length→(∀b o,s.heap.get? b=some o→h'.get? b=some o)→s.heap.objs.size≤s.heap.objs.size+1→(∃k,h'.get? (s.heap.objs.size+1)=some (seqObj "list" (toArray (p.toList.map λi=>vs.getD i Value.none)) k))→Q (.ref (s.heap.objs.size+1)) {s with heap:=h'}):
  wpAny (model prog w) A (call (.builtin "sorted") [.ref l]) Q E s:=by
 refine Calls.call_function_entry kind_sorted plain_sorted entry_sorted (args_sorted1 _) ?_;unfold Builtin.«sorted»;refine wpAny_bind (m:=checkCount "sorted" 1 1 _) (wpAny_pure ?_);refine wpAny_bind (lC hl ?_ (by rw[sizeLine_eq];omega));refine wpAny_bind (wpAny_newList ?_ (by rw[sizeLine_eq];omega));have hsz:((s.heap.push (seqObj "list" #[] 0)).update s.heap.objs.size (Obj.mapSeq (· ++ vs.toArray))).objs.size=s.heap.objs.size+1:=by
  rw[Heap.size_update,size_push']
 have hoL:(((s.heap.push (seqObj "list" #[] 0)).update s.heap.objs.size (Obj.mapSeq (· ++ vs.toArray))).push (seqObj "list" vs.toArray 0)).get? (s.heap.objs.size+1)=some (seqObj "list" vs.toArray 0):=by
  rw[←hsz];exact get?_push_size _ rfl
 have keep:∀b o,s.heap.get? b=some o→(((s.heap.push (seqObj "list" #[] 0)).update s.heap.objs.size (Obj.mapSeq (· ++ vs.toArray))).push (seqObj "list" vs.toArray 0)).get? b=some o:=λb o q=>by
  have hlt:b<s.heap.objs.size:=lt_size q;rw[Heap.get?_push_ne _ _ _ (by rw[hsz];exact ne_of_lt (lt_succ_of_lt hlt)),get?_update_ne _ _ _ _ (ne_of_lt hlt),Heap.get?_push_ne _ _ _ (ne_of_lt hlt)];exact q
 have neD:∀b o,s.heap.get? b=some o→b≠s.heap.objs.size+1:=λb o q=>ne_of_lt (lt_succ_of_lt (lt_size q));show wpAny _ _ _ _ _ {s with heap:=((s.heap.push (seqObj "list" #[] 0)).update s.heap.objs.size (Obj.mapSeq (· ++ vs.toArray))).push (seqObj "list" vs.toArray 0)}
 rw[hsz];refine wpAny_bind (wpAny_holding (wpAny_call_entry slot_list_sort ⟨_,hoL,rfl⟩ entry_list_sort (fm (κ:=κ) (s:={s with heap:=((s.heap.push (seqObj "list" #[] 0)).update s.heap.objs.size (Obj.mapSeq (· ++ vs.toArray))).push (seqObj "list" vs.toArray 0)}) O hoL h64 ?_ ?_ λp hr hu=>⟨_,rfl,?_⟩) (args_list_sort _)))
 ·intro s' hs' Q' h2 hq;exact hk _ s' (by simp[Around.in1_units]) (λb o e=>hs' b o (neD b o e) (keep b o e)) Q' h2 hq
 ·intro s' hs' i j C hi hj hC;exact hlt _ s' (by simp[Around.in1_units]) (λb o e=>hs' b o (neD b o e) (keep b o e)) i j C hi hj hC
 ·refine wpAny_pure ⟨_,rfl,h p _ hr hu (λb o e=>?_) (le_succ _) ?_⟩
  ·unfold sortedHeap;rw[get?_update_ne _ _ _ _ (neD b o e)];refine get?_push_of_some _ (get?_push_of_some _ ?_);rw[get?_update_ne _ _ _ _ (neD b o e)];exact keep b o e
  ·unfold sortedHeap;obtain⟨e1,ho1⟩:∃e1,((((s.heap.push (seqObj "list" #[] 0)).update s.heap.objs.size (Obj.mapSeq (· ++ vs.toArray))).push (seqObj "list" vs.toArray 0)).update (s.heap.objs.size+1) (Obj.mapSeq λ_=>(#[]:Array Value))).get? (s.heap.objs.size+1)=some (seqObj "list" #[] e1):=⟨_,get?_update_seq hoL λ_=>#[]⟩;exact⟨_,get?_update_seq (get?_push_of_some _ (get?_push_of_some _ ho1)) _⟩
theorem pP{f:Nat→Nat→Bool}{l:Addr}{vs:List Value}{κ:SortKind}{Q:Value→Shared→Prop}(O:Ord f vs.length)(hl:s.heap.IsList l vs.toArray)(h64:vs.length<64)(hk:∀(A':Around) (s':Shared),A'.units≤A.units+2→(∀b o,s.heap.get? b=some o→s'.heap.get? b=some o)→∀Q:SortKind→Shared→Prop,2≤vs.length→Q κ s'→wpAny (model prog w) A' (keyKind' vs.toArray) Q (λ_ _=>False) s')(hlt:∀(A':Around) (s':Shared),A'.units≤A.units+2→(∀b o,s.heap.get? b=some o→s'.heap.get? b=some o)→∀(i j:Nat) (C:Bool→Shared→Prop),i<vs.length→j<vs.length→C (f i j) s'→wpAny (model prog w) A' (keyLt' κ (vs.getD i Value.none) (vs.getD j Value.none)) C (λ_ _=>False) s')(h:∀(p:Array Nat) (h':Heap),Row vs.length p→Up f p vs.length→(∀b o,s.heap.get? b=some o→h'.get? b=some o)→s.heap.objs.size≤s.heap.objs.size+1→(∃k,h'.get? (s.heap.objs.size+1)=some (seqObj "list" (toArray (p.toList.map λi=>vs.getD i Value.none)) k))→Q (.ref (s.heap.objs.size+1)) {s with heap:=h'}):
  wpAny (model prog w) A (call (.builtin "sorted") [.ref l]) Q E s:=iy O (.inl hl) h64 hk hlt h
end
end SRT
namespace L2
open PySem PySem.Spec PyProof.Rows
section
variable{X:Cx}{tg:Expr}
theorem gv:∀{as:List Addr}{us:List Value},ap (as.map V.ref) us→us=as.map Value.ref
 |[],_,.nil=>rfl
 |b::bs,_,.cons r t=>by
  have e:_=Value.ref b:=r;rw[e,gv t];rfl
def tD:V→List V→Hp→VK→Prop:=λx vs H Q=>∃d kvs k y,x=.ref d∧vs=[kV k,y]∧H d=some (.dK kvs)∧kvs.length<sizeLine∧(∀v,aS kvs k=some v→Q v H)∧(aS kvs k=none→Q y (upd H d (.dK (cH kvs k y))))
theorem jf:MtM X "dict.setdefault" tD:=by
 intro pins s σ H x vs v us Q I rx rv h;obtain⟨d,kvs,k,y,rfl,rfl,hd,hz,q1,q2⟩:=h;cases rx;obtain⟨u,u',rfl,ru,ru'⟩:=rv.two;obtain⟨z,hs,ws,rel,dd⟩:=oB I.hok hd;have hzw:ws.length≤sizeLine:=by rw[←rel.length];exact z
 refine call_meetsIn F.slot_dict_setdefault dd.typeIs F.entry_dict_setdefault (F.args_dict_setdefault_3 _ _ _) (kt_meets_setdefault (aB X.prog X.w) d (dA ru) hs u') ⟨ws,dd,hzw,λw' hw=>?_,λhw h' dd' sb=>?_⟩
 ·have:=rel.val k;rw[hw]at this;cases e:aS kvs k with
  |none=>rw[e]at this;cases this
  |some v =>
   rw[e]at this;exact⟨v,H,I.tok _,this,q1 v e⟩
 ·have:=rel.val k;rw[hw]at this;cases e:aS kvs k with
  |some v=>rw[e]at this;cases this
  |none =>
   have he:∃q,h'.get? d=some q:=let⟨q,_,_,hq,_⟩:=dd';⟨q,hq⟩;have hl:(cH kvs k y).length≤sizeLine:=by have:=cM kvs k y;omega
   exact⟨y,_,gU I (by rw[hd];exact True.intro) sb he (kh hl hs (rel.put k ru') dd'),ru',q2 e⟩
theorem qV:OpR X (binaryOp .Add) (λx y H Q=>∃a b ys,x=.ref a∧y=.ref b∧SqT X.K H a []∧SqT X.K H b ys∧Q (.ref b) H):=by
 intro pins s σ H x y v u Q I rx ry h;obtain⟨a,b,ys,rfl,rfl,ha,hb,q⟩:=h;cases rx;cases ry;obtain⟨its,r1,ht,_⟩:=I.tuple ha;obtain⟨its2,r2,hb',_⟩:=I.tuple hb;cases r1;obtain⟨⟨cls,dd,data,sl⟩,ho,hc,n,hd⟩:=id ht;obtain⟨⟨cls2,dd2,data2,sl2⟩,ho2,hc2,n2,hd2⟩:=id hb';simp only at hc hd hc2 hd2;subst hc hd hc2 hd2;exact concat_meets ⟨_,ho,rfl⟩ ⟨_,ho2,rfl⟩ noFill_tuple_add seq_tuple_add slot_tuple_add entry_tuple_add (args_tuple_add_2 _ _)
  (tuple_addW0 a b _ its2.toArray n n2 dd dd2 sl sl2 (by rfl)) ⟨ho,ho2,⟨.ref b,H,I,rfl,q⟩⟩
theorem nw(hu:X.A.units<cLine):OpR X (compareOp .Eq) (λx y H Q=>∃a b xs,x=.ref a∧y=.ref b∧SqL X.K H a xs∧SqL X.K H b []∧Q (.bl (decide (xs=[]))) H):=by
 intro pins s σ H x y v u Q I rx ry h;obtain⟨a,b,xs,rfl,rfl,ha,hb,q⟩:=h;cases rx;cases ry;obtain⟨its,r1,ht,_⟩:=I.list ha;obtain⟨its2,r2,hb',_⟩:=I.list hb;cases r2
 by_cases e:xs=[]
 ·subst e;cases r1;refine eq_listAt (e:=λ_=>true) ht.isList hb'.isList rfl hu (λj h1 h2=>absurd h2 (by simp)) ⟨.bl _,H,I,?_,q⟩;rfl
 ·have e2:its≠[]:=λz=>e (r1.nil_iff.mp z);have e3:its.length≠0:=λz=>e2 (length_eq_zero_iff.mp z);refine SeqAt.eq_list_lengthsAt ht.isList hb'.isList (by simp[e3]) hu ⟨.bl _,H,I,?_,q⟩;show _=Value.bool _;simp[e]
end
end L2
namespace ZT
open PySem PySem.SeqAt
section
variable{prog:Program}{w:World}{A:Around}{E:Value→Shared→Prop}{s:Shared}
end
end ZT
namespace L2
open PySem PySem.Spec PyProof.Rows
section
variable{X:Cx}{tg:Expr}
abbrev gR:=Addr×Int×List V
def eC(zs:List gR)(i:Nat):Int:=(zs.getD i (0,0,[])).2.1
theorem qW{zs:List gR}(h:(zs.map (·.2.1)).Nodup):SRT.Ord (λi j=>decide (eC zs i<eC zs j)) zs.length:=by
 refine⟨λi _=>by simp,λi j k _ _ _ h1 h2=>?_,λi j hi hj hij=>?_⟩
 ·simp only[decide_eq_true_eq]at *;omega
 ·simp only[decide_eq_true_eq];have:eC zs i≠eC zs j:=by
   unfold eC;rw[getD_eq_getElem?_getD,getD_eq_getElem?_getD,getElem?_eq_getElem hi,getElem?_eq_getElem hj];intro e;have e':(zs.map (·.2.1))[i]'(by simpa using hi)=(zs.map (·.2.1))[j]'(by simpa using hj):=by simpa using e
   exact hij ((getElem_inj h).mp e')
  omega
theorem lD{prog:Program}{w:World}{A:Around}{s:Shared}{b:Bool}{Q:Bool→Shared→Prop}(h:Q false s):∀(l:List Value)(i:Nat),PySem.W.KatLex prog w A b false Q (l.zip l) i s
 |[],i=>h
 |v::l,i=>kat_cons (EqAt.same v prog w _ _ (PySem.W.kat_yes (lD h l (i+1))))
theorem fo:dz X (.builtin "sorted") (λxs H Q=>∃l,∃zs:List gR,xs=[.ref l]∧(SqL X.K H l ((zs.map (·.1)).map V.ref)∨SqT X.K H l ((zs.map (·.1)).map V.ref))∧(∀z∈zs,H z.1=some (.tup (.int z.2.1::z.2.2)))∧(zs.map (·.2.1)).Nodup∧zs.length<64 ∧
  ∀zs':List gR,zs'.Perm zs→zs'.Pairwise (λa b=>a.2.1<b.2.1)→∀p,H p=none→Q (.ref p) (upd H p (.lst ((zs'.map (·.1)).map V.ref)))):=by
 intro pins s σ H xs us Q I r h;obtain⟨l,zs,rfl,hq,hk,hnd,h64,q⟩:=h;obtain⟨u,rfl,ru⟩:=hX r;cases ru;obtain⟨its,rv,pl⟩:∃its,ap ((zs.map (·.1)).map V.ref) its∧(s.heap.IsList l its.toArray∨IsTup s.heap l its.toArray):=by
  rcases hq with hq|hq
  ·obtain⟨its,rv,pl,hz⟩:=I.list hq;exact⟨its,rv,.inl pl.isList⟩
  ·obtain⟨its,rv,pl,hz⟩:=I.tuple hq;exact⟨its,rv,.inr pl⟩
 have e:=gv rv;subst e;have hlen:((zs.map (·.1)).map Value.ref).length=zs.length:=by simp
 have hobj:∀z∈zs,∃o its n t,s.heap.get? z.1=some o∧o.cls=.type "tuple"∧o.data=.seq its n∧its.toList=.int z.2.1 t::its.toList.drop 1:=λz hz'=>by
  obtain⟨_,its,rr,o,e1,e2,n,e3⟩:=I.hok z.1 _ (hk z hz');cases rr with
  |cons r1 r2 =>
   obtain⟨t,rfl⟩:=r1;exact⟨o,_,n,t,e1,e2,e3,by simp⟩
 have hget:∀i,i<zs.length→((zs.map (·.1)).map Value.ref).getD i Value.none=.ref (zs.getD i (0,0,[])).1∧zs.getD i (0,0,[])∈zs:=λi hi=>by
  rw[getD_eq_getElem?_getD,getD_eq_getElem?_getD,getElem?_map,getElem?_map,getElem?_eq_getElem hi];exact⟨rfl,getElem_mem hi⟩
 refine SRT.iy (κ:=tuples' true) (f:=λi j=>decide (eC zs i<eC zs j)) (by rw[hlen];exact qW hnd) pl (by rw[hlen];exact h64) ?kind ?less ?fin
 case kind =>
  intro A' s' _ kp Q' h2 hQ';have key:∀ys:List gR,(∀z∈ys,z∈zs)→∃fs:List Value,KatTups s'.heap ((ys.map (·.1)).map Value.ref) fs∧fs.length=ys.length∧∀v∈fs,∃i t,v=Value.int i t:=by
   intro ys
   induction ys with
   |nil=>intro _;exact⟨[],KatTups.nil,rfl,λv hv=>by simp at hv⟩
   |cons z ys ih =>
    intro hm;obtain⟨fs,h1,h2',h3⟩:=ih λy hy=>hm y (by simp[hy]);obtain⟨o,its,n,t,e1,e2,e3,e4⟩:=hobj z (hm z (by simp));refine⟨.int z.2.1 t::fs,KatTups.cons (kp _ _ e1) e2 e3 ?_ h1,by simp[h2'],λv hv=>?_⟩
    ·rw[←getElem?_toList,e4];rfl
    ·rcases mem_cons.mp hv with rfl|hv
     ·exact⟨_,_,rfl⟩
     ·exact h3 v hv
  obtain⟨fs,h1,h2',h3⟩:=key zs λz hz'=>hz';refine PySem.W.kat_kind (T:=.type "int") h1 (by rw[h2'];rw[hlen]at h2;omega) (λv hv=>?_) (by rfl) hQ';obtain⟨i,t,rfl⟩:=h3 v hv;exact .now
 case less =>
  intro A' s' _ kp i j C hi hj hC;rw[hlen]at hi hj;obtain⟨gi,mi⟩:=hget i hi;obtain⟨gj,mj⟩:=hget j hj;rw[gi,gj];obtain⟨oi,ii,ni,ti,a1,a2,a3,a4⟩:=hobj _ mi;obtain⟨oj,ij,nj,tj,b1,b2,b3,b4⟩:=hobj _ mj;refine PySem.W.kat_lt (kp _ _ a1) a3 (kp _ _ b1) b3 ?_
  by_cases hij:i=j
  ·subst hij;rw[a1]at b1;cases b1;rw[a3]at b3;cases b3;have:C false s':=by simpa using hC
   have e2:decide (ii.size<ii.size)=false:=by simp
   rw[e2];exact lD this _ _
  ·have hne:eC zs i≠eC zs j:=by
    rcases (qW hnd).tot i j hi hj hij with h1|h1<;>simp only[decide_eq_true_eq]at h1<;>omega
   rw[a4,b4];refine kat_cons (wpAny_eqBool_int ?_);have e2:((zs.getD i (0,0,[])).2.1==(zs.getD j (0,0,[])).2.1)=false:=beq_eq_false_iff_ne.mpr hne;rw[e2];refine PySem.W.kat_no ?_;exact kat_lt_int hC
 case fin =>
  intro p h' hrow hup kp _ hg;obtain⟨c,hg⟩:=hg;rw[hlen]at hrow hup;obtain⟨zs',hzs'⟩:∃zs',zs'=p.toList.map λi=>zs.getD i (0,0,[]):=⟨_,rfl⟩;have hperm:zs'.Perm zs:=by
   rw[hzs'];refine(hrow.perm.map _).trans ?_;have:(List.range zs.length).map (λi=>zs.getD i (0,0,[]))=zs:=by
    apply ext_getElem?;intro i;rw[getElem?_map]
    by_cases hi:i<zs.length
    ·rw[getElem?_range hi,getElem?_eq_getElem hi];show some (zs.getD i (0,0,[]))=_;rw[getD_eq_getElem?_getD,getElem?_eq_getElem hi];rfl
    ·rw[getElem?_eq_none (by rw[length_range];omega),getElem?_eq_none (by omega)];rfl
   rw[this]
  have hpl:p.size=zs.length:=hrow.size;have hpw:zs'.Pairwise (λa b=>a.2.1<b.2.1):=by
   rw[pairwise_iff_getElem];intro i j hi hj hij;have hi':i<p.size:=by rw[hzs',length_map,length_toList]at hi;exact hi
   have hj':j<p.size:=by rw[hzs',length_map,length_toList]at hj;exact hj
   have:=hup i j hij (by omega);simp only[decide_eq_true_eq,eC]at this;rw[getD_eq_getD_getElem?,getD_eq_getD_getElem?,Array.getElem?_eq_getElem hi',Array.getElem?_eq_getElem hj']at this;simpa [hzs']using this
  have hout:(toArray (p.toList.map λi=>((zs.map (·.1)).map Value.ref).getD i Value.none))=((zs'.map (·.1)).map Value.ref).toArray:=by
   congr 1
   rw[hzs'];simp only[map_map];apply map_congr_left;intro i hi;have hi':i<zs.length:=mem_range.mp (hrow.perm.mem_iff.mp hi);have:=(hget i hi').1;simp only[map_map]at this;exact this
  rw[hout]at hg;have hv:ap ((zs'.map (·.1)).map V.ref) ((zs'.map (·.1)).map Value.ref):=by
   generalize zs'.map (·.1)=as
   induction as with
   |nil=>exact .nil
   |cons a as ih=>exact .cons rfl ih
  refine⟨.ref (s.heap.objs.size+1),_,I.laid (t':=s.toks) (o:=.lst ((zs'.map (·.1)).map V.ref)) kp (le_succ _) ⟨?_,_,c,hv,hg⟩,rfl,q zs' hperm hpw _ (I.hok.fresh (le_succ _))⟩;rw[length_map,length_map,hperm.length_eq,sizeLine_eq];omega
end
theorem kn{scope:Scope}{env:Env}(h:∀y∈scope.names,y.2≠.free):relabel scope env=scope:=by
 unfold relabel;rw[map_eq_self (l:=scope.names) (λx hx=>by
  obtain⟨n,k⟩:=x;have:(k==NameKind.free)=false:=by simpa using h _ hx
  simp[this])]
theorem gw{X:Cx}{scope:Scope}(hk:scope.kind=.function)(hf:∀y∈scope.names,y.2≠.free)(hc:∀y∈scope.names,y.2≠.cell)(hn:∀x∈scope.names,x.2=.local→scope.names.lookup x.1=some .local):LcOk X scope [] :=
 ⟨hk,closureFor_none hf,hn,hc,λx c h=>by simp at h,λx h=>by
  rw[kn hf]at h;rcases h with h|h
  ·exact absurd rfl (hc _ (PySem.mem_of_lookup h))
  ·exact absurd rfl (hf _ (PySem.mem_of_lookup h))⟩
theorem wZ{k:Nat}{js:List Nat}{J:It}{g:TG}{te:TE}{σ:St}{H1:Hp}{Q:VK}{p:Addr}(n:Nat)(hn:n≤1000)(Pv:Nat→List V→St→Hp→Prop)(h0:Pv 0 [] (cA k js σ) (upd H1 p (.lst [])))(hy:∀i ys σ' H',Pv i ys σ' H'→ys.length≤i)(go:∀i ys σ' H',i<n→Pv i ys σ' H'→J.go i H')(stop:∀ys σ' H',Pv n ys σ' H'→J.stop n H'∧Q (.ref p) H')(step:∀i ys σ' H',i<n→Pv i ys σ' H'→∀x H2,J.yld i H' x H2→g x σ' H2 λσ2 H3=>te σ2 H3 λy H4=>H4 p=some (.lst ys)∧Pv (i+1) (ys++[y]) σ2 (upd H4 p (.lst (ys++[y]))))(mg:∀x σ H (Q Q':St→Hp→Prop),(∀σ H,Q σ H→Q' σ H)→g x σ H Q→g x σ H Q')(me:∀σ H (Q Q':VK),(∀y H,Q y H→Q' y H)→te σ H Q→te σ H Q'):
  LcW k js g te σ Q J H1 p:=by
 refine⟨λi m ys σ' H'=>m=n-i∧i≤n∧Pv i ys σ' H',⟨n,by simp,zero_le _,h0⟩,?_⟩;rintro i m ys σ' H' ⟨rfl,hi,hp⟩
 by_cases hlt:i<n
 ·refine .inr ⟨go i ys σ' H' hlt hp,?_,λx H2 y=>?_⟩
  ·have:=hy i ys σ' H' hp;exact lt_of_le_of_lt this (ar (by omega))
  ·refine mg _ _ _ _ _ (λσ2 H3 h3=>me _ _ _ _ (λz H4 h4=>⟨h4.1,n-(i+1),by omega,rfl,hlt,h4.2⟩) h3) (step i ys σ' H' hlt hp x H2 y)
 ·have e:i=n:=by omega
  subst e;exact .inl (stop ys σ' H' hp)
theorem ag{H:Hp}{p:Addr}{o:HO}(h:H p=none):Same H (upd H p o):=λb u e=>by rw[ai (aq e h)];exact e
theorem bQ{H:Hp}{p a:Addr}{o u:HO}(h:H p=none)(e:H a=some u):upd H p o a=some u:=by rw[ai (aq e h)];exact e
theorem ba{H0 H:Hp}{p:Addr}{o:HO}(h0:H0 p=none)(s:Same H0 H):Same H0 (upd H p o):=λb u e=>by
 rw[ai (aq e h0)];exact s b u e
structure Fly(P:Program)(w:World)(outer:List Env)(H:Hp)(s:Shared)(H':Hp)(ea C:Addr)(s':Shared):Prop where
 os:s'.os=s.os
 bare:AllBare s'.gens
 un:Un (frs outer) [] H H' s.heap s'.heap
 new:H' ea=none
 fly:∃B a0,FlyingW B outer ea (.ref C) a0 s'.heap∧HOk P w H' B∧(∀b o,s.heap.get? b=some o→H b=none→b∉frs outer→B.get? b=some o) ∧
  ∀b o,s.heap.get? b=some o→b∉frs outer→∃o',B.get? b=some o'
def CX1(P:Program)(w:World):CXT:=λouter H s E e s'=>∃ea C H',e=.ref ea∧Fly P w outer H s H' ea C s'∧E (.ref C) none H'
theorem bj.ex{P:Program}{w:World}{H:Hp}{h:Heap}{a:Addr}{o:HO}(x:bj P w H h a o):∃ob,h.get? a=some ob:=by
 cases o with
 |lst xs=>obtain⟨_,_,_,_,e⟩:=x;exact⟨_,e⟩
 |tup xs=>obtain⟨_,_,_,ob,e,_⟩:=x;exact⟨ob,e⟩
 |dK kvs=>obtain⟨_,_,_,_,o,_,_,e,_⟩:=x;exact⟨_,e⟩
 |dT kvs=>obtain⟨_,_,_,_,o,_,_,e,_⟩:=x;exact⟨_,e⟩
 |set S n=>obtain⟨o,_,_,_,e,_⟩:=x;exact⟨_,e⟩
 |ins C dx fs=>obtain⟨_,_,_,e,_⟩:=x;exact⟨_,e⟩
 |own y=>obtain⟨_,e⟩:=x;exact⟨_,e⟩
 |xd fs=>obtain⟨_,⟨_,_,_,e,_⟩,_⟩:=x;exact⟨_,e⟩
 |rng lo hi=>obtain⟨_,_,_,e⟩:=x;exact⟨_,e⟩
 |frz ob u=>obtain⟨e,_⟩:=x;exact⟨_,e⟩
 |tbl ps=>exact⟨_,(show h.get? a=some _ from x)⟩
 |met f y=>exact⟨_,(show h.get? a=some _ from x)⟩
 |ext φ=>obtain⟨_,⟨_,e⟩,_⟩:=x;exact⟨_,e⟩
theorem qX{P:Program}{w:World}{H:Hp}{h:Heap}{l:List Addr}(x:HOk P w H h)(hl:∀b∈l,H b=none):HOk P w H (hideAll h l):=λa o e =>
 (x a o e).stay (λb u hb q=>hideAll_get l q λz=>by
  have:=hl b z;rcases hb with hb|hb
  ·rw[hb,e]at this;cases this
  ·rw[hb]at this;cases this) (λ_ q=>q) λ_ _ q=>q
section
variable{P:Program}{w:World}{l:List Env}{H H':Hp}{h1 h2 h3 B:Heap}{ea:Addr}{cls a0:Value}
theorem qY(un:Un (frs l) [] H H' h1 h2)(fl:FlyingW B l ea cls a0 h2)(hB:HOk P w H' B)(kp:∀b o,h1.get? b=some o→H b=none→b∉frs l→B.get? b=some o)(th:∀b o,h1.get? b=some o→b∉frs l→∃o',B.get? b=some o')(st:B.StaysIn h3)(hs:h2.UpToSlots h3):Un (frs l) [] H H' h1 h3∧HOk P w H' h3:=by
 refine⟨⟨λb o e n hb _=>st b o (kp b o e n hb),λb o e n hb hx=>?_,un.free,λb o e _=>?_,un.tups,un.frzs,un.tbls⟩,hB.kept st⟩
 ·obtain⟨sl,q⟩:=un.slot b o e n hb hx;obtain⟨_,o',ho',hd⟩:=fl.2.2.1.mem hb;rw[q]at ho';cases ho';obtain⟨sl',q'⟩:=hs b _ q hd;exact⟨sl',q'⟩
 ·by_cases hb:b∈frs l
  ·obtain⟨_,o',ho',hd⟩:=fl.2.2.1.mem hb;obtain⟨sl',q'⟩:=hs b _ ho' hd;exact⟨_,q'⟩
  ·obtain⟨o',q⟩:=th b o e hb;exact⟨o',st b o' q⟩
end
section
variable{X:Cx}{pins:List (Addr×Obj)}{σ:St}{H H':Hp}{s s':Shared}{ea C:Addr}{E:XK}
theorem Inv.fly_up(I:Inv X pins σ H s)(hex:X.ex=[])(J:Inv X pins σ H' s')(new:H' ea=none){B:Heap}{a0:Value}(fl:FlyingW B X.outer ea (.ref C) a0 s'.heap)(hB:HOk X.prog X.w H' B)(kp:∀b o,s.heap.get? b=some o→H b=none→b∉frs X.stack→B.get? b=some o)(th:∀b o,s.heap.get? b=some o→b∉frs X.stack→∃o',B.get? b=some o'):Fly X.prog X.w X.outer X.H₀ X.s₀ H' ea C s':=by
 have ub:=I.base;rw[hex]at ub;have uj:=J.base;rw[hex]at uj;have ne:∀b o,X.s₀.heap.get? b=some o→b∉frs X.outer→b∉frs X.stack:=λb o e n hb=>by
  rcases mem_cons.mp (I.stkSub b hb)with z|z
  ·have:=lt_size e;rw[z]at this;exact absurd (lt_of_lt_of_le this I.ok.above) (lt_irrefl _)
  ·exact n z
 refine⟨J.os,J.bare,uj,new,B,a0,fl,hB,λb o e n hb=>?_,λb o e hb=>?_⟩
 ·exact kp b o (ub.keep b o e n hb (by simp)) (ub.free b o e n (by simp)) (ne b o e hb)
 ·obtain⟨o',q⟩:=ub.there b o e (by simp);exact th b o' q (ne b o e hb)
structure Lv(X:Cx)(E:XK):Prop where
 ex:X.ex=[]
 stk:X.stack=X.env::X.outer
 fr:X.env.frame=some X.env.locals
 xe:X.xe=λe s'=>wpAny (model X.prog X.w) X.A (leaving X.env e) (λ_ s''=>CX1 X.prog X.w X.outer X.H₀ X.s₀ E e s'') (λe' s''=>CX1 X.prog X.w X.outer X.H₀ X.s₀ E e' s'') s'
theorem bc{P:Program}{w:World}{K:PySem.W.Frag}{mg:Str→Option Value}{base:Heap}{N:List Str}{qual:Str}{scope:Scope}{f:Addr}{cd:Value}{A:Around}{outer:List Env}{s:Shared}{H:Hp}{E:XK} :
  Lv (ic (CX1 P w) P w K mg base N qual scope f cd A outer s H E) E:=⟨rfl,rfl,rfl,rfl⟩
theorem cp(L:Lv X E):dj (CX1 X.prog X.w) X E:=by
 intro pins σ H s e s' I h;obtain⟨ea,C,H',rfl,F,hE⟩:=h;rw[L.xe];obtain⟨B,a0,fl,hB,kp,th⟩:=id F.fly;have fl':=fl;rw[L.stk]at fl';refine wpAny_leaves_onW (by rw[I.ok.frames,L.stk]) L.fr fl' λh' fl2 hs=>?_;obtain⟨u,ok⟩:=qY F.un fl hB kp th fl2.1 hs;have J:Inv X pins σ H' {s' with heap:=h'}:=I.call' (s':={s' with heap:=h'}) F.os u ok F.bare λb z=>absurd z (by simp)
 exact⟨ea,C,H',rfl,I.fly_up L.ex J F.new fl2 hB kp th,hE⟩
theorem Inv.ground(I:Inv X pins σ H s):(hideAll s.heap (frs X.stack)).StaysIn s.heap∧s.heap.FunFrames (hideAll s.heap (frs X.stack)) X.stack∧HOk X.prog X.w H (hideAll s.heap (frs X.stack)) :=
 ⟨λb o q=>of_hideAll _ q,PySem.W.funFrames_hide I.stack λenv he b hb=>mem_filterMap.mpr ⟨env,he,hb⟩,qX I.hok I.stkFree⟩
theorem xa(L:Lv X E)(I:Inv X pins σ H s){h':Heap}{vs:List Value}(hx:Heap.MadeExcOf s.heap h' ea (.ref C) vs)(hE:E (.ref C) none H):X.xe (.ref ea) {s with heap:=h'}:=by
 rw[L.xe];obtain⟨g1,g2,g3⟩:=I.ground;have g2':s.heap.FunFrames (hideAll s.heap (frs X.stack)) (X.env::X.outer):=L.stk ▸ g2;refine wpAny_leaves_madeW (s:={s with heap:=h'}) (by rw[I.ok.frames,L.stk]) L.fr g1 g2' hx λh'' t fl _ _ hs=>?_;have hs':s.heap.UpToSlots h'':=(Heap.UpToSlots.of_keeps hx.keeps).trans hs;have u:Un (frs X.stack) [] H H s.heap h'':=⟨λb o e n hb _=>fl.1 b o (hideAll_get _ e hb),λb o e n hb _=>by
   obtain⟨_,o',ho',hd⟩:=g2.mem hb;rw[e]at ho';cases ho';exact hs' b o e hd,λb o e n _=>n,λb o e _=>by
   by_cases hb:b∈frs X.stack
   ·obtain⟨_,o',ho',hd⟩:=g2.mem hb;obtain⟨sl,q⟩:=hs' b o' ho' hd;exact⟨_,q⟩
   ·exact⟨o,fl.1 b o (hideAll_get _ e hb)⟩,λ_ _ q=>q,λ_ _ _ q=>q,λb ps q=>⟨#[],by simpa using q⟩⟩
 have J:Inv X pins σ H {s with heap:=h''}:=I.call' (s':={s with heap:=h''}) rfl u (g3.kept fl.1) I.bare λb z=>absurd z (by simp)
 have new:H ea=none:=by
  cases q:H ea with
  |none=>rfl
  |some o =>
   obtain⟨ob,e⟩:=(I.hok ea o q).ex;have h2:=hx.new;rw[e]at h2;cases h2
 exact⟨ea,C,H,rfl,I.fly_up L.ex J new fl g3 (λb o e _ hb=>hideAll_get _ e hb) λb o e hb=>⟨o,hideAll_get _ e hb⟩,hE⟩
end
end L2
namespace XI
open PySem PySem.Spec PySem.W
section
variable{prog:Program}{w:World}{A:Around}{E:Value→Shared→Prop}{h:Heap}{g:Array GenState}{d:Drawn}{t:Nat}{os:OsState}{a:Addr}{o:Obj}{vs:Array Value}{nm q:Str}{C N:Addr}{bs bm:List Value}{hdct:Bool}{sn:List Str}{sub:List Value}{ab:Bool}{col:Option Bool}{dd:Option Addr}{k0 k1 k2 k3 k5:Option Value}{newId:String}
end
end XI
namespace L2
open PySem PySem.Spec PyProof.Rows
section
variable{X:Cx}{pins:List (Addr×Obj)}{σ:St}{H:Hp}{s:Shared}
def tF2(te:TE):TE:=λσ H Q=>te σ H λv H1=>∃i:Int,v=.int i∧0≤i∧i≤60∧∀y,Q (.str y) H1
theorem iz(i:Int)(h0:0≤i)(h1:i≤60):(ofString (toString i)).length≤100:=by
 have key:∀n:Fin 61,(ofString (toString ((n.val:Nat):Int))).length≤100:=by decide +kernel
 have:=key ⟨i.toNat,by omega⟩;have e:((i.toNat:Nat):Int)=i:=by omega
 rw[e]at this;exact this
theorem uy{x:Str}{j:Nat}{p1 p2 p3:Pos}{e:Expr}{te:TE}(he:PE X e te)(hx:x.length≤800):PE X (.JoinedStr [.Constant (.str x) j p1,.FormattedValue e (-1) none p2] p3) (tF2 te):=by
 intro pins s σ H Q I h;have hl:(empty++x).length≤800:=by rw[strLen_append];show 0+x.length≤800;omega
 refine JoinedStr_many (joinParts_cons (Constant_str ?_));refine⟨le_of_lt (ar (by omega)),?_⟩;refine joinParts_cons (FormattedValue_plain (thn (he pins _ σ H _ (I.tok _) h) λv s1 hpt=>?_));obtain⟨y,H1,I1,r1,q1⟩:=hpt;obtain⟨i,rfl,h0,h1,q⟩:=q1;obtain⟨t,rfl⟩:=r1;have h2:=iz i h0 h1;have h3:((empty++x)++ofString (toString i)).length≤1000:=by rw[strLen_append];omega
 refine formatField_int_small (lt_of_le_of_lt (Nat.log2_le_self _) (by omega)) ⟨le_of_lt (ar h3),?_⟩;exact joinParts_nil ⟨.str _,H1,(I1.tok _).tok _,⟨_,rfl⟩,q _⟩ (le_of_lt (ar h3))
abbrev bmV:List Value:=[.type "ValueError",.type "Exception",.type "BaseException",.type "object"]
abbrev xb(X:Cx)(x:Str)(C:Addr):Prop:=OwnCls x C bmV "ValueError.__new__" X.mg X.base
def vx(C:Addr)(E:XK)(ta:TE):TS:=λ_ σ H=>bA ta eI σ H λvs H1=>vs.length≤sizeLine∧E (.ref C) none H1
theorem cq{E:XK}(L:Lv X E){x:Str}{C:Addr}{np cpos pos:Pos}{a:Expr}{ta:TE}(O:xb X x C)(hh:X.A.handled=none)(hg:Gl X x)(ha:PE X a ta)(hs:starEach [a] X.env=[(false,eval a X.env)]:=by rfl)(hd:(x==("__debug__":Str))=false:=by decide):PS X (.Raise (some (.Call (.Name x np) [a] [] cpos)) none pos) (vx C E ta):=by
 intro pins s σ H D I h;obtain⟨tl,N,nm,q,bs,hdct,sn,sub,ab,col,dd,k0,k1,k2,k3,k5,mN,hC,hN,hni,T⟩:=O.obj;refine wpAny_Raise_call_subT (C:=C) (nm:=nm) (q:=q) (N:=N) (bs:=bs) (bm:=tl) (hdct:=hdct) (sn:=sn) (sub:=sub) (ab:=ab) (col:=col) (dd:=dd) (k0:=k0) (k1:=k1) (k2:=k2) (k3:=k3) (k5:=k5)
  PySem.F.excBase_ValueError (mN:=mN) (T.hasType PySem.F.excBase_ValueError.hasBase) hh (by rw[hs];rfl) hni (gT I hg O.bound ⟨rfl,?_⟩ hd)
 have hA:PA X [a] (bA ta eI):=aa ha ae hs;have h':=hA cpos pins s σ H (λvs H1=>vs.length≤sizeLine∧E (.ref C) none H1) I h;rw[hs]at h'⊢;refine evalArgs_plain (thn h' λus s2 hpt=>?_);obtain⟨vs,H2,I2,r2,q2⟩:=hpt;exact⟨rfl,by rw[←r2.length];exact q2.1,I2.bk _ _ hC,hN.keeps I2.bk,T.keeps I2.bk,λh' e hx=>xa L I2 hx q2.2⟩
end
end L2
namespace DL
open PySem PySem.Spec PyProof.Rows
theorem iA:entryFor table "dict.update.loop"=some Builtin.«dict.update.loop»:=entryFor_of_tree (by kernel_rfl)
theorem dk:plainId "dict.update.loop"=true:=by decide +kernel
theorem ko:typeLookup (.type "list") "keys"=pure none:=by rw[typeLookup_type,builtinLookup_eq_fast];kernel_rfl
section
variable{prog:Program}{w:World}{A:Around}{E:Value→Shared→Prop}{s:Shared}
theorem tE{a:Addr}{xs:Array Value}{k:Nat}{sl:Array (Option Value)}{u:Tok}{Q:Value→Shared→Prop}(hx:s.heap.get? a=some {cls:=.type "list",dict:=none,data:=.seq xs k,slots:=sl})(hA:A.handled=none)(h:∀h' tk e,Heap.NewExcOf s.heap h' e "AttributeError"→E (.ref e) {s with heap:=h',toks:=tk}):
  wpAny (model prog w) A (getAttrBy (.ref a) (.str "keys" u) false) Q E s:=by
 obtain⟨hp,g,d,tk,os⟩:=s;have hT:∀tk',(⟨hp,g,d,tk',os⟩:Shared).TypeIs (.ref a) "list":=λ_=>⟨_,hx,rfl⟩;have f1:=sub_AttributeError;have f3:=F.slot_list_getattribute.lookup;have f4:=F.slot_list_getattribute.bind (.ref a);have f5:=am_list_getattr_none;unfold getAttrBy
 repeat (any_goals (first|assumption|exact hT _|((with_reducible show wpAny _ _ (call (Value.builtin "list.__getattribute__") _ _) _ _ _);refine call_meets F.slot_list_getattribute (hT _) am_entry_list_getattribute (F.args_list_getattribute_2 _ _) (meets_getattribute_miss_list a xs k sl "keys" _ ko (by decide) (by size_fits)) ⟨hx,hA,λh' tk' e hx'=>?_⟩)|wp_step))
 obtain⟨t',u',he⟩:=hx'.there;show wpAny _ _ (getattributeRaised _ _ _ _ _ _ _) _ _ _;unfold getattributeRaised
 repeat (any_goals (first|assumption|wp_step))
 exact h _ _ _ hx'.of
theorem tF{a:Addr}{xs:Array Value}{k:Nat}{sl:Array (Option Value)}{Q:Option Value→Shared→Prop}(hx:s.heap.get? a=some {cls:=.type "list",dict:=none,data:=.seq xs k,slots:=sl})(hA:A.handled=none)(h:∀h' tk,(∀b o,s.heap.get? b=some o→h'.get? b=some o)→Q none {s with heap:=h',toks:=tk}):
  wpAny (model prog w) A (getAttr? (.ref a) "keys") Q E s:=by
 obtain⟨hp,g,d,tk,os⟩:=s;have f1:=sub_AttributeError;unfold getAttr? getAttrBy?
 repeat (any_goals (first|assumption|((with_reducible show wpAny _ _ (getAttrBy _ _ false) _ _ _);refine tE (s:=⟨hp,g,d,_,os⟩) hx hA λh' tk' e hx'=>?_)|wp_step))
 obtain⟨⟨oc,od,odt,osl⟩,vs,he,hc,_,_⟩:=hx'.there;simp only at hc;subst hc
 repeat (any_goals (first|assumption|with_reducible refine wpAny_loadPart_at he ?_|wp_step))
 exact h h' tk' λb o e=>hx'.keeps b o e
end
section
variable{prog:Program}{w:World}{A:Around}{E:Value→Shared→Prop}{R:Result→Shared→Prop}{I:Addr}{fp wr:List Addr}{G:Array GenState→Array GenState→Prop}{n:Nat}{P:Nat→Value→Prop}{St:Nat→Shared→Prop}
theorem pQ(W:WalksS prog w A.in1 I fp wr G n P St)(d:Addr)(hdf:d∉fp)(ad:Nat→Addr)(kk vv:Nat→Value)(hval:∀i v,P i v→v=.ref (ad i))(had:∀i,i<n→ad i∉d::wr)(D:Nat→Heap→Prop)(hD:∀i (h h':Heap),D i h→(∀b o,b∉wr→h.get? b=some o→h'.get? b=some o)→D i h')(step:∀i (s:Shared) (E:Value→Shared→Prop) (Q:Unit→Shared→Prop),i<n→D i s.heap→(∀h' tk,s.toks≤tk→SameBut d s.heap h'→D (i+1) h'→Q () {s with heap:=h',toks:=tk})→wpAny (model prog w) A.in1 (dictSet d (kk i) (vv i)) Q E s):
  ∀(k i:Nat)(s:Shared)(tk:Tok),n-i=k→i≤n→St i s→D i s.heap→(∀j,j<n→IsTup s.heap (ad j) #[kk j,vv j]) →
   (∀s',Moved (d::wr) G s s'→D n s'.heap→R (.ok (.ret .none)) s') →
   codeAny (model prog w) A (.builtin "dict.update.loop" ⟨[.ref d,.ref I,.int i tk,.none],[]⟩) R s:=by
 have hdw:d∉wr:=λh=>hdf (W.sub _ h);have hsub:∀b∈wr,b∈d::wr:=λb hb=>mem_cons_of_mem _ hb;have hadw:∀i,i<n→ad i∉wr:=λi hi h=>had i hi (mem_cons_of_mem _ h);have hadd:∀i,i<n→ad i≠d:=λi hi h=>had i hi (by rw[h];exact mem_cons_self);intro k
 induction k with
 |zero =>
  intro i s tk hk hi hst hDi htp hR;have hin:i=n:=by omega
  subst hin;refine codeAny_builtin iA ?_;rw[Around.under_plainId dk _];show wpAny _ A.in1 (pyNext (.ref I) >>= _) _ _ s;refine wpAny_bind (W.done s _ _ hst λs' hm=>?_);show wpAny _ A.in1 (Builtin.Dict.addKeywords d [] >>= λ_=>ret Value.none) _ _ s';exact wpAny_bind (wpAny_pure (wpAny_pure (hR s' (hm.mono hsub) (hD _ _ _ hDi hm.heap))))
 |succ k ih =>
  intro i s tk hk hi hst hDi htp hR;have hlt:i<n:=by omega
  refine codeAny_builtin iA ?_;rw[Around.under_plainId dk _];show wpAny _ A.in1 (pyNext (.ref I) >>= _) _ _ s;refine wpAny_bind (W.item i s _ _ hlt hst λv s' hP hst' hm=>?_);have hv:=hval i v hP;subst hv;have hDi':D i s'.heap:=hD _ _ _ hDi hm.heap;have htp':∀j,j<n→IsTup s'.heap (ad j) #[kk j,vv j]:=λj hj=>by
   obtain⟨o,ho,r⟩:=htp j hj;exact⟨o,hm.heap _ o (hadw j hj) ho,r⟩
  obtain⟨ot,hot,hct,nt,hdt⟩:=htp' i hlt;have hT:s'.TypeIs (.ref (ad i)) "tuple":=⟨ot,hot,hct⟩;refine wpAny_bind (wpAny_holding ?_);refine wpAny_bind (wpAny_tryCatch ?_);unfold Builtin.Dict.pairItems;refine wpAny_bind (wpAny_typeOf hT ?_);rw[if_pos (by decide)];generalize hDS:dictSet=DS;obtain⟨hp,g,dr,t,os⟩:=s';obtain⟨ocls,odict,odata,oslots⟩:=ot;simp only at hct hdt;subst hct hdt
  repeat (any_goals (first|assumption|with_reducible refine wpAny_loadPart_at hot ?_|wp_step))
  subst hDS;refine step i _ _ _ hlt hDi' λh' tk' htk hsb hD'=>?_;have hsb':SameBut d hp h':=hsb;have hkeep:∀b o,b∉d::wr→hp.get? b=some o→h'.get? b=some o:=λb o hb e=>by
   rw[hsb'.2 b (λz:b=d=>hb (by rw[z];exact mem_cons_self))];exact e
  refine wpAny_pure ⟨plainId_quiet dk _,?_⟩;refine ih (i+1) _ _ (by omega) hlt (W.frame _ _ _ _ hst' htk λb hb o e=>?_) hD' (λj hj=>?_) λs'' hm'' hD''=>?_
  ·rw[hsb'.2 b (λh:b=d=>hdf (by rw[←h];exact hb))];exact e
  ·obtain⟨o,ho,r⟩:=htp' j hj;exact⟨o,hkeep _ o (had j hj) ho,r⟩
  ·exact hR s'' (Moved.trans W.gtrans ((hm.mono hsub).then_heap htk λb o hb e=>hkeep b o hb e) hm'') hD''
end
section
variable{prog:Program}{w:World}{A:Around}{E:Value→Shared→Prop}{s:Shared}
theorem iB{l:Addr}{items:Array Value}{nl:Nat}{sl:Array (Option Value)}{Q:Value→Shared→Prop}(hh:A.handled=none)(hl:s.heap.get? l=some {cls:=.type "list",dict:=none,data:=.seq items nl,slots:=sl})(ad:Nat→Addr)(kk vv:Nat→Value)(hi:∀(i:Nat) (v:Value),items[i]?=some v→v=Value.ref (ad i))(ht:∀i,i<items.size→IsTup s.heap (ad i) #[kk i,vv i])(D:Nat→Heap→Prop)(hD0:∀h',h'.get? s.heap.objs.size=some {cls:=.type "dict",data:=.dict #[]}→(∀b o,s.heap.get? b=some o→h'.get? b=some o)→D 0 h')(hD:∀i (h h':Heap),D i h→(∀b o,b≤s.heap.objs.size→h.get? b=some o→h'.get? b=some o)→D i h')(step:∀i (s':Shared) (E:Value→Shared→Prop) (Q:Unit→Shared→Prop),i<items.size→D i s'.heap→(∀h' tk,s'.toks≤tk→SameBut s.heap.objs.size s'.heap h'→D (i+1) h'→Q () {s' with heap:=h',toks:=tk}) →
   wpAny (model prog w) A.in1.in1 (dictSet s.heap.objs.size (kk i) (vv i)) Q E s')(h:∀h' tk,D items.size h'→(∀b o,s.heap.get? b=some o→h'.get? b=some o)→Q (.ref s.heap.objs.size) {s with heap:=h',toks:=tk}):
  wpAny (model prog w) A (call (.type "dict") [.ref l]) Q E s:=by
 refine callType_codes (Q₁:=λobj s₁=>obj=.ref s.heap.objs.size∧s₁={s with heap:=s.heap.push {cls:=.type "dict",data:=.dict #[]}}) F.kt_called_dict (F.kt_typeCall_dict_1 _) F.entry_dict_init (kt_code_dict_new _ ⟨rfl,rfl⟩) ?_;rintro obj s₁ ⟨rfl,rfl⟩;have hnew:(s.heap.push {cls:=.type "dict",data:=.dict #[]}).get? s.heap.objs.size=some {cls:=.type "dict",data:=.dict #[]}:=get?_push_size _ rfl;have hTd:Shared.TypeIs {s with heap:=s.heap.push {cls:=.type "dict",data:=.dict #[]}} (.ref s.heap.objs.size) "dict":=⟨_,hnew,rfl⟩
 have hl':(s.heap.push {cls:=.type "dict",data:=.dict #[]}).get? l=some {cls:=.type "list",dict:=none,data:=.seq items nl,slots:=sl}:=get?_push_of_some _ hl;have hTl:Shared.TypeIs {s with heap:=s.heap.push {cls:=.type "dict",data:=.dict #[]}} (.ref l) "list":=⟨_,hl',rfl⟩
 refine⟨hTd,F.args_dict_init_2 _ _,?_⟩;unfold Builtin.«dict.__init__»;refine wpAny_bind ?_;unfold Builtin.Dict.selfAndRest;refine wpAny_bind (wpAny_notOrdered_dict hTd ?_);show wpAny _ _ (pure (s.heap.objs.size,[Value.ref l])) _ _ _;refine wpAny_pure ?_;show wpAny _ _ (Builtin.Dict.updateFrom "dict.__init__" s.heap.objs.size (.ref l) [] .none) _ _ _;unfold Builtin.Dict.updateFrom;refine wpAny_bind (wpAny_typeOf hTl ?_);rw[if_pos (by decide)];refine wpAny_bind (tF (s:={s with heap:=s.heap.push {cls:=.type "dict",data:=.dict #[]}}) hl' (show A.in1.in1.handled=none by simp[hh]) λh1 tk1 hk1=>?_);have hk1':∀b o,(s.heap.push {cls:=.type "dict",data:=.dict #[]}).get? b=some o→h1.get? b=some o:=hk1;have hL1:h1.IsList l items:=⟨_,hk1' _ _ hl',rfl,nl,rfl⟩;rw[if_pos (show(none:Option Value).isNone=true from rfl)];refine wpAny_bind (wpAny_rule ?_);refine wpAny_bind (wpAny_pyIter_list hL1 ?_);have hlS:l<s.heap.objs.size:=lt_size hl;have hS1:s.heap.objs.size<h1.objs.size:=lt_size (hk1' _ _ hnew);have k0:∀b o,s.heap.get? b=some o→h1.get? b=some o:=λb o e=>hk1' b o (get?_push_of_some _ e);have hadlt:∀i,i<items.size→ad i<s.heap.objs.size:=λi hi'=>by
  obtain⟨o,ho,_⟩:=ht i hi';exact lt_size ho
 refine wpAny_pure ⟨plainId_quiet dk _,pQ (A:=A.in1) ((Walks.list (show A.in1.in1.handled=none by simp[hh]) h1.objs.size l (ne_of_lt (lt_trans hlS hS1)) items).toS) s.heap.objs.size ?hdf ad kk vv hi ?had D ?hD' (λi s' E Q hi' hDi hq=>step i s' E Q hi' hDi hq)
  (items.size-0) 0 _ 0 (by omega) (zero_le _) ⟨⟨_,get?_push_size _ rfl,rfl,rfl⟩,hL1.push _⟩ ?hD0' ?ht' λs' hm hDn=>?_⟩
 case hdf =>
  simp only[mem_cons,not_mem_nil,or_false,not_or];exact⟨ne_of_lt hS1,ne_of_gt hlS⟩
 case had =>
  intro i hi';simp only[mem_cons,not_mem_nil,or_false,not_or];exact⟨ne_of_lt (hadlt i hi'),ne_of_lt (lt_trans (hadlt i hi') hS1)⟩
 case hD' =>
  intro i g g' hDi hk;refine hD i g g' hDi λb o hb e=>hk b o ?_ e;simp only[mem_cons,not_mem_nil,or_false];exact ne_of_lt (lt_of_le_of_lt hb hS1)
 case hD0' =>
  exact hD0 _ (get?_push_of_some _ (hk1' _ _ hnew)) λb o e=>get?_push_of_some _ (k0 b o e)
 case ht' =>
  intro j hj;obtain⟨o,ho,r⟩:=ht j hj;exact⟨o,get?_push_of_some _ (k0 _ _ ho),r⟩
 obtain⟨h',g',d',tk',os'⟩:=s';have eg:g'=s.gens:=hm.gens;have ed:d'=s.drawn:=hm.drawn;have eo:os'=s.os:=hm.os;subst eg;subst ed;subst eo;refine⟨rfl,h h' tk' hDn λb o e=>?_⟩;have hb:b<s.heap.objs.size:=lt_size e;refine hm.heap b o ?_ (get?_push_of_some _ (k0 b o e));simp only[mem_cons,not_mem_nil,or_false,not_or];exact⟨ne_of_lt hb,ne_of_lt (lt_trans hb hS1)⟩
end
end DL
namespace L2
open PySem PySem.Spec PyProof.Rows
section
variable{X:Cx}
theorem vz{pins:List (Addr×Obj)}{σ:St}{H:Hp}{s:Shared}(I:Inv X pins σ H s){a:Addr}{x y:V}(h:H a=some (.tup [x,y])):∃u v,ax x u∧ax y v∧IsTup s.heap a #[u,v]:=by
 obtain⟨_,its,r,ht⟩:=I.hok a _ h;cases r with
 |cons r1 r =>
  cases r with
  |cons r2 r=>cases r;exact⟨_,_,r1,r2,by simpa using ht⟩
theorem qZ{κ:Type}{pins:List (Addr×Obj)}{σ:St}{H:Hp}{s:Shared}(I:Inv X pins σ H s){zs:List (Addr×κ×V)}(kf:Addr×κ×V→V)(hk:∀z∈zs,H z.1=some (.tup [kf z,z.2.2])):
  ∃f:Addr×κ×V→Value×Value,∀z∈zs,ax (kf z) (f z).1∧ax z.2.2 (f z).2∧IsTup s.heap z.1 #[(f z).1,(f z).2]:=by
 have hch:∀z:Addr×κ×V,∃p:Value×Value,z∈zs→ax (kf z) p.1∧ax z.2.2 p.2∧IsTup s.heap z.1 #[p.1,p.2]:=λz=>by
  by_cases hz':z∈zs
  ·obtain⟨u,v,a,b,c⟩:=vz I (hk z hz');exact⟨(u,v),λ_=>⟨a,b,c⟩⟩
  ·exact⟨(.none,.none),λh=>absurd h hz'⟩
 exact⟨λz=>Classical.choose (hch z),λz hz=>Classical.choose_spec (hch z) hz⟩
theorem cY{α:Type}{l:List α}{i:Nat}{d:α}(h:i<l.length):l.getD i d∈l∧l[i]?=some (l.getD i d):=by
 rw[getD_eq_getElem?_getD,getElem?_eq_getElem h];exact⟨getElem_mem h,rfl⟩
theorem pR{κ:Type}{zs:List (Addr×κ×V)}{d:Addr×κ×V}{i:Nat}{v:Value}(h:(((zs.map (·.1)).map Value.ref).toArray)[i]?=some v):v=Value.ref (zs.getD i d).1:=by
 have h':((zs.map (·.1)).map Value.ref)[i]?=some v:=by simpa using h
 rw[getElem?_map,getElem?_map]at h';rw[getD_eq_getElem?_getD];cases e:zs[i]? with
 |none=>rw[e]at h';cases h'
 |some z=>rw[e]at h';exact(Option.some.inj h').symm
theorem cZ{α:Type}{l:List α}{i:Nat}{x:α}(h:l[i]?=some x):l.take (i+1)=l.take i++[x]:=by rw[take_succ,h];rfl
theorem pS{α κ:Type}{l:List α}{f:α→κ}{i:Nat}{x:α}(hn:(l.map f).Nodup)(h:l[i]?=some x):f x∉(l.take i).map f:=by
 intro hm;obtain⟨y,hy,e⟩:=mem_map.mp hm;obtain⟨j,hj,e2⟩:=mem_iff_getElem.mp hy;have hj':j<i:=by rw[length_take]at hj;omega
 have hi:i<l.length:=(List.getElem?_eq_some_iff.mp h).1;have e3:(l.map f)[j]'(by rw[length_map];omega)=(l.map f)[i]'(by rw[length_map];omega):=by
  rw[List.getElem_map,List.getElem_map];rw[List.getElem_take]at e2;rw[e2,e,(List.getElem?_eq_some_iff.mp h).2]
 have:=(getElem_inj hn).mp e3;omega
theorem gL(hc:X.calm=true):dz X (.type "dict") (λxs H Q=>∃l,∃zs:List (Addr×Key×V),xs=[.ref l]∧H l=some (.lst ((zs.map (·.1)).map V.ref))∧(∀z∈zs,H z.1=some (.tup [kV z.2.1,z.2.2]))∧zs.length≤1000 ∧
  (zs.map (·.2.1)).Nodup∧((∀d o,H d=none→Q (.ref d) (upd H d (.frz o (.dK (zs.map (·.2))))))∨∀d,H d=none→Q (.ref d) (upd H d (.dK (zs.map (·.2)))))):=by
 intro pins s σ H xs us Q I r h;obtain⟨l,zs,rfl,hl,hk,hz,hnd,q⟩:=h;obtain⟨u,rfl,ru⟩:=hX r;cases ru;obtain⟨_,its,nl,rv,ho⟩:=I.hok l _ hl;have e:=gv rv;subst e;obtain⟨f,hf⟩:=qZ I (λz=>kV z.2.1) hk;have hsz:(((zs.map (·.1)).map Value.ref).toArray).size=zs.length:=by simp
 refine DL.iB (s:=s) (I.ok.hd hc) ho (λi=>(zs.getD i (0,.inl 0,.non)).1) (λi=>(f (zs.getD i (0,.inl 0,.non))).1) (λi=>(f (zs.getD i (0,.inl 0,.non))).2) (λi v hv=>pR hv) (λi hi=>?_)
  (λi h'=>h'.DictOf (aB X.prog X.w) s.heap.objs.size ((zs.take i).map λz=>(z.2.1,(f z).2))) (λh' hg _=>?_) (λi g g' hd hk=>?_) (λi s' E Q hi hd hq=>?_) λh' tk hd hkeep=>?_
 ·rw[hsz]at hi;exact(hf _ (cY hi).1).2.2
 ·exact⟨_,#[],0,hg,⟨rfl,rfl,rfl⟩,rfl,λ_ he=>by simp at he,Pairs.nil,nodup_nil⟩
 ·obtain⟨o,es,ep,ho,r⟩:=hd;exact⟨o,es,ep,hk _ o (le_refl _) ho,r⟩
 ·rw[hsz]at hi;obtain⟨hm,hg⟩:=cY (d:=((0,.inl 0,.non):Addr×Key×V)) hi;refine wpAny_dictSet_pairs (hsz:=by rw[length_map,length_take];have:=ar hz;omega) (k:=(zs.getD i (0,.inl 0,.non)).2.1) (dA (hf _ hm).1) hd λh' hd' hs=>hq h' _ (le_succ _) hs ?_;have e1:=cZ hg;have e2:=pS hnd hg;rw[e1,map_append];unfold stored at hd';rw[if_neg]at hd'
  ·exact hd'
  ·intro ha;obtain⟨p,hp,he⟩:=List.any_eq_true.mp ha;obtain⟨z,hz',rfl⟩:=mem_map.mp hp;exact e2 (mem_map.mpr ⟨z,hz',of_decide_eq_true he⟩)
 ·rw[hsz,take_length]at hd;obtain⟨ob,hob⟩:∃ob,h'.get? s.heap.objs.size=some ob:=let⟨o,_,_,ho,_⟩:=hd;⟨o,ho⟩;have hrel:KV (zs.map (·.2)) (zs.map λz=>(z.2.1,(f z).2)):=by
   have:∀ys:List (Addr×Key×V),(∀z∈ys,z∈zs)→KV (ys.map (·.2)) (ys.map λz=>(z.2.1,(f z).2)):=by
    intro ys
    induction ys with
    |nil=>intro _;exact .nil
    |cons z ys ih=>intro hm;exact .cons ⟨rfl,(hf z (hm z (by simp))).2.1⟩ (ih λy hy=>hm y (by simp[hy]))
   exact this zs λz hz=>hz
  have hdk:∀H':Hp,bj X.prog X.w H' h' s.heap.objs.size (.dK (zs.map (·.2))):=λH'=>kh (le_of_lt (ar (by rw[length_map];exact hz))) (beq_eq_false_iff_ne.mpr (Ne.symm (ne_of_lt I.big))) hrel hd;rcases q with q|q
  ·exact⟨.ref s.heap.objs.size,_,I.laid (t':=tk) (o:=.frz ob (.dK (zs.map (·.2)))) hkeep (le_refl _) ⟨hob,hdk _⟩,rfl,q _ ob (I.hok.fresh (le_refl _))⟩
  ·exact⟨.ref s.heap.objs.size,_,I.laid (t':=tk) (o:=.dK (zs.map (·.2))) hkeep (le_refl _) (hdk _),rfl,q _ (I.hok.fresh (le_refl _))⟩
theorem ny(hc:X.calm=true):dz X (.type "dict") (λxs H Q=>∃l,∃zs:List (Addr×Key×V),xs=[.ref l]∧H l=some (.lst ((zs.map (·.1)).map V.ref))∧(∀z∈zs,H z.1=some (.tup [kV z.2.1,z.2.2]))∧zs.length≤1000∧(zs.map (·.2.1)).Nodup∧∀d o,H d=none→Q (.ref d) (upd H d (.frz o (.dK (zs.map (·.2)))))) :=
 λpins s σ H xs us Q I r ⟨l,zs,h1,h2,h3,h4,h5,q⟩=>gL hc pins s σ H xs us Q I r ⟨l,zs,h1,h2,h3,h4,h5,.inl q⟩
theorem cN(hc:X.calm=true):dz X (.type "dict") (λxs H Q=>∃l,∃zs:List (Addr×Key×V),xs=[.ref l]∧H l=some (.lst ((zs.map (·.1)).map V.ref))∧(∀z∈zs,H z.1=some (.tup [kV z.2.1,z.2.2]))∧zs.length≤1000∧(zs.map (·.2.1)).Nodup∧∀d,H d=none→Q (.ref d) (upd H d (.dK (zs.map (·.2))))) :=
 λpins s σ H xs us Q I r ⟨l,zs,h1,h2,h3,h4,h5,q⟩=>gL hc pins s σ H xs us Q I r ⟨l,zs,h1,h2,h3,h4,h5,.inr q⟩
end
def vA(h:Heap)(d:Addr)(es:Array DictEntry)(ep:Nat):Prop:=∃o,h.get? d=some o∧o.ExactDict∧o.data=.dict es ep
section
variable{prog:Program}{w:World}{A:Around}{E:Value→Shared→Prop}{s:Shared}
theorem rb{d:Addr}{es:Array DictEntry}{ep:Nat}{Q:Value→Shared→Prop}(hd:(d==sysModules)=false)(hm:vA s.heap d es ep)(hQ:Q (.ref s.heap.objs.size) {s with heap:=s.heap.push {cls:=.type "dict_keyiterator",data:=.fields #[.ref d,.int 0 0,.int es.size 0,.int ep 0]}}):
  wpAny (model prog w) A (pyIter (.ref d)) Q E s:=by
 obtain⟨o,ho,hc,hdat⟩:=id hm;have hT:s.TypeIs (.ref d) "dict":=⟨o,ho,hc.1⟩;refine wpAny_pyIter_slot hT PySem.F.slot_dict_iter (wpAny_call_entry PySem.F.slot_dict_iter hT PySem.F.entry_dict_iter ?_ (PySem.F.args_dict_iter_1 _));unfold Builtin.«dict.__iter__»;refine wpAny_bind ?_;unfold Builtin.Dict.dictSlotNone;refine wpAny_bind (wpAny_notOrdered_dict hT ?_);show wpAny _ _ (pure (Value.ref d)) _ _ s;refine wpAny_pure ?_;show wpAny _ _ (Builtin.Dict.showsAll d >>= _) _ _ s;unfold Builtin.Dict.showsAll;rw[if_neg (by rw[hd];exact Bool.false_ne_true)];refine wpAny_bind (wpAny_pure ?_);refine wpAny_bind (wpAny_dictEntries ho hdat ?_);refine wpAny_bind (wpAny_dictEpoch ho hdat ?_);refine wpAny_bind (wpAny_newObj_type (wpAny_pure ⟨_,rfl,"dict_keyiterator",_,⟨_,get?_push_size _ rfl,rfl⟩,slot_dict_keyiterator_next.lookup,?_⟩));simpa [rawInt]using hQ
theorem rc{it d:Addr}{i ep:Nat}{es:Array DictEntry}{e:DictEntry}{Q:Option Value→Shared→Prop}(hit:s.heap.IsKeyIter it d i es.size ep)(hm:vA s.heap d es ep)(hx:es[i]?=some e)(hQ:∀h',h'.IsKeyIter it d (i+1) es.size ep→SameBut it s.heap h'→Q (some e.key) {s with heap:=h'}):
  wpAny (model prog w) A (pyNext (.ref it)) Q E s:=by
 obtain⟨o,ho,hc,hd⟩:=id hit;obtain⟨od,hod,hcd,hdd⟩:=id hm;unfold pyNext;refine wpAny_bind (wpAny_attempt (wpAny_callSpecial?_slot (name:=ofString "__next__") hit.typeIs slot_dict_keyiterator_next
  (wpAny_call_entry slot_dict_keyiterator_next hit.typeIs PySem.F.entry_dict_keyiterator_next ?_ (PySem.F.args_dict_keyiterator_next_1 _))))
 refine wpAny_bind (wpAny_pure ?_);refine wpAny_bind ?_;refine wpAny_bind ?_
 first|refine wpAny_bind (wpAny_typeNameOfWhole_keyiter hit.typeIs (wpAny_pure ?_))|refine wpAny_bind (wpAny_typeNameOf_keyiter hit.typeIs (wpAny_pure ?_))
 refine wpAny_bind (wpAny_fieldsOf ho hd ?_);have hown:Builtin.Dict_items.ownsTuple "dict_keyiterator"=false:=by decide
 simp only[hown,false_eq_true,if_false];show wpAny _ _ (if (Value.ref d==Value.none)=true then _ else _) _ _ s
 rw[if_neg (show ¬((Value.ref d==Value.none)=true)from Bool.false_ne_true)];refine wpAny_bind (wpAny_pure ?_);refine wpAny_bind (wpAny_dictEntries hod hdd ?_);rw[if_neg (by simp)];refine wpAny_bind (wpAny_pure ?_);refine wpAny_bind (wpAny_dictEpoch hod hdd ?_);rw[if_neg (by simp)];refine wpAny_pure ?_;have hlt':i<es.size:=(Array.getElem?_eq_some_iff.mp hx).1;have he:es[i]=e:=(Array.getElem?_eq_some_iff.mp hx).2;simp only[show ¬((i:Int)<0)from by omega,if_false,toNat_natCast,Array.getElem?_eq_getElem hlt'];refine wpAny_bind ?_
 first|refine wpAny_bind (wpAny_typeNameOfWhole_keyiter hit.typeIs (wpAny_pure ?_))|refine wpAny_bind (wpAny_typeNameOf_keyiter hit.typeIs (wpAny_pure ?_))
 refine wpAny_bind (wpAny_isOneOf_keyiter hit.typeIs ?_);show wpAny _ _ (setField (.ref it) 1 (rawInt ((i:Int)+1)) >>= _) _ _ s;refine wpAny_bind (wpAny_setField ho hd (by simp) ?_);have hit':(s.heap.update it (Obj.mapFields (·.setIfInBounds 1 (rawInt ((i:Int)+1))))).IsKeyIter it d (i+1) es.size ep :=
  ⟨_,get?_update_self _ ho (Obj.isFreed_of_fields (Obj.data_mapFields hd _)),(Obj.cls_mapFields ..).trans hc,by rw[Obj.data_mapFields hd];simp[rawInt]⟩
 refine wpAny_bind (wpAny_holding ?_);refine wpAny_bind (wpAny_isOneOf_keyiter (s:={s with heap:=s.heap.update it (Obj.mapFields (·.setIfInBounds 1 (rawInt ((i:Int)+1))))}) hit'.typeIs ?_)
 show wpAny _ _ (pure es[i].key) _ _ _;rw[he];exact wpAny_pure (wpAny_pure ⟨_,rfl,wpAny_pure (hQ _ hit' (SameBut.update ..))⟩)
theorem tG{it d:Addr}{i ep:Nat}{es:Array DictEntry}{Q:Option Value→Shared→Prop}(hh:A.handled=none)(hit:s.heap.IsKeyIter it d i es.size ep)(hm:vA s.heap d es ep)(hge:es.size≤i)(hQ:∀h',ExtBut it s.heap h'→Q none {s with heap:=h'}):wpAny (model prog w) A (pyNext (.ref it)) Q E s:=by
 obtain⟨o,ho,hc,hd⟩:=id hit;obtain⟨od,hod,hcd,hdd⟩:=id hm;unfold pyNext;refine wpAny_bind (wpAny_attempt (wpAny_callSpecial?_slot (name:=ofString "__next__") hit.typeIs slot_dict_keyiterator_next
  (wpAny_call_entry slot_dict_keyiterator_next hit.typeIs PySem.F.entry_dict_keyiterator_next ?_ (PySem.F.args_dict_keyiterator_next_1 _))))
 refine wpAny_bind (wpAny_pure ?_);refine wpAny_bind ?_;refine wpAny_bind ?_
 first|refine wpAny_bind (wpAny_typeNameOfWhole_keyiter hit.typeIs (wpAny_pure ?_))|refine wpAny_bind (wpAny_typeNameOf_keyiter hit.typeIs (wpAny_pure ?_))
 refine wpAny_bind (wpAny_fieldsOf ho hd ?_);have hown:Builtin.Dict_items.ownsTuple "dict_keyiterator"=false:=by decide
 simp only[hown,false_eq_true,if_false];show wpAny _ _ (if (Value.ref d==Value.none)=true then _ else _) _ _ s
 rw[if_neg (show ¬((Value.ref d==Value.none)=true)from Bool.false_ne_true)];refine wpAny_bind (wpAny_pure ?_);refine wpAny_bind (wpAny_dictEntries hod hdd ?_);rw[if_neg (by simp)];refine wpAny_bind (wpAny_pure ?_);refine wpAny_bind (wpAny_dictEpoch hod hdd ?_);rw[if_neg (by simp)];refine wpAny_pure ?_;simp only[show ¬((i:Int)<0)from by omega,if_false,toNat_natCast,Array.getElem?_eq_none hge];refine wpAny_bind ?_
 first|refine wpAny_bind (wpAny_typeNameOfWhole_keyiter hit.typeIs (wpAny_pure ?_))|refine wpAny_bind (wpAny_typeNameOf_keyiter hit.typeIs (wpAny_pure ?_))
 show wpAny _ _ (setField (.ref it) 0 .none >>= _) _ _ s;refine wpAny_bind (wpAny_setField ho hd (by simp) ?_);show wpAny _ _ (newExc (.type "StopIteration") [] >>= _) _ _ _;refine wpAny_bind ?_;simp only[newExc,newTuple];refine wpAny_bind (wpAny_newObj_type ?_ (by size_fits));refine wpAny_bind (m:=firstArgMember _ _) (wpAny_of_eq (a:=Value.none) (by first|rfl|(simp only[firstArgMember];rfl)) ?_)
 refine wpAny_newObj_type ?_ (by size_fits);simp only[raiseNew];refine wpAny_bind (wpAny_handled ?_);rw[show A.in1.handled=none from hh];refine wpAny_bind (wpAny_pure (wpAny_throw ?_));refine wpAny_bind (wpAny_isInstance (T:="StopIteration") (b:=true) ⟨_,get?_push_size _ rfl,rfl⟩ isSubtype_stop ?_);exact wpAny_pure (hQ _ (((SameBut.update ..).extBut.push _).push _))
end
def Itk(d:Addr)(o:Obj)(u:HO)(ks:List V):It:=⟨λi H=>H d=some (.frz o u)∧i<ks.length,λi H x H'=>H'=H∧ks[i]?=some x,λi H=>H d=some (.frz o u)∧ks.length≤i⟩
theorem pT{P:Program}{w:World}{K:PySem.W.Frag}{tg:Expr}{d it:Addr}{o:Obj}{u:HO}{es:Array DictEntry}{ep:Nat}{ks:List V}(hx:o.ExactDict)(hd:o.data=.dict es ep)(hv:ap ks (es.toList.map (·.key))):
  Turn P w K tg (Itk d o u ks) [it] it (λi h=>h.IsKeyIter it d i es.size ep) where
 mem:=by simp
 obj:=λi h st b hb=>by
  have e:b=it:=by simpa using hb
  subst e;obtain⟨o,e,c,d⟩:=st;exact⟨o,e,λv z=>by rw[d]at z;cases z⟩
 keep:=λi h h' st k=>st.at λo e=>k it (by simp) o e
 item:=by
  intro X hP hw hK hc i pins s σ H E I hf st hg;subst hP hw hK;obtain⟨hH,hi⟩:=hg;have ho:=(I.hok d _ hH).1;have hl:ks.length=es.size:=by rw[hv.length,length_map,length_toList]
  have hi':i<es.size:=by omega
  obtain⟨v,hv1,hv2⟩:=hv.get (getElem?_eq_getElem hi);obtain⟨f0,f1,f2,f3,f4,f5⟩:=hf it (by simp);have ev:v=es[i].key:=by
   rw[getElem?_map,getElem?_toList,Array.getElem?_eq_getElem hi']at hv1;exact(Option.some.inj hv1).symm
  refine rc st ⟨o,ho,hx,hd⟩ (Array.getElem?_eq_getElem hi') λh' st' sb=>?_;have I1:Inv X pins σ H {s with heap:=h'}:=I.turned (t':=s.toks) (λb o hb e=>(sb.2 b hb).trans e) f0 f1 f3 f4 f5
  obtain⟨oi,e,c,dd⟩:=id st';exact⟨_,rfl,nY (s:={s with heap:=h'}) e c dd (by decide) ⟨ks[i],H,I1,ev ▸ hv2,⟨rfl,getElem?_eq_getElem hi⟩,st',λb hb=>(hf b hb).1⟩⟩
 done:=by
  intro X hP hw hK hc i pins s σ H E I hf st hg;subst hP hw hK;obtain⟨hH,hi⟩:=hg;have ho:=(I.hok d _ hH).1;have hl:ks.length=es.size:=by rw[hv.length,length_map,length_toList]
  obtain⟨f0,f1,f2,f3,f4,f5⟩:=hf it (by simp);exact tG (I.ok.hd hc) st ⟨o,ho,hx,hd⟩ (by omega) λh' eb=>⟨rfl,I.turned (t':=s.toks) (λb o hb e=>eb b o hb e) f0 f1 f3 f4 f5⟩
 self:=λ_ _ _ _ _ st h=>wpAny_pyIter_keyiter st h
section
variable{X:Cx}{tg:Expr}
def iDF(td:TE):TI:=λσ H R=>td σ H λv H1=>∃d o kvs,v=.ref d∧H1 d=some (.frz o (.dK kvs))∧R (Itk d o (.dK kvs) (kvs.map λp=>kV p.1)) H1
theorem xc{l:Expr}{tl:TE}(hl:PE X l tl):PI X tg l (iDF tl):=by
 intro pins s σ H R I h;refine thn (hl pins s σ H _ I h) λv s1 hpt=>?_;obtain⟨x,H1,I1,r1,q1⟩:=hpt;obtain⟨d,o,kvs,e,hH,q⟩:=q1;subst e;cases r1;obtain⟨ho,_,hsm,vs,rel,o',es,ep,ho',hx,hd,hk,hp,hn⟩:=I1.hok d _ hH;rw[ho]at ho';cases ho';refine rb hsm ⟨o,ho,hx,hd⟩ ?_;refine⟨s1.heap.objs.size,[s1.heap.objs.size],_,_,H1,rfl,I1.kept (t':=s1.toks) λb o e=>get?_push_of_some _ e,pT hx hd ?_,⟨_,get?_push_size _ rfl,rfl,rfl⟩,λb hb=>?_,q⟩
 ·have key:∀(es:List DictEntry)(vs:List (Key×Value))(kvs:List (Key×V)),Pairs (aB X.prog X.w) es vs→KV kvs vs→ap (kvs.map λp=>kV p.1) (es.map (·.key)):=by
   intro es vs kvs hp
   induction hp generalizing kvs with
   |nil=>intro r;cases r;exact .nil
   |cons h1 h2 _ ih =>
    intro r;cases r with
    |cons r1 r2 =>
     refine .cons ?_ (ih _ r2);dsimp only;rw[r1.1];rcases aM h1 with⟨i,t,e1,e2⟩|⟨x,t,e1,e2⟩
     ·rw[e1,e2];exact⟨t,rfl⟩
     ·rw[e1,e2];exact⟨t,rfl⟩
  exact key _ _ _ hp rel
 ·have e:b=s1.heap.objs.size:=by simpa using hb
  subst e;exact I1.fpOk (le_refl _) (I1.hok.fresh (le_refl _))
end
section
variable{prog:Program}{w:World}{A:Around}{E:Value→Shared→Prop}{s:Shared}
end
section
variable{X:Cx}
end
end L2
namespace HT
open PySem PyProof.Rows
section
open PySem.SeqAt
open PySem.AutoSeq1 (wpAny_loadPart')
open PySem.MeetsSeq PySem.MeetsSeq2 PySem.MeetsSeq3
end
section
variable{prog:Program}{w:World}{A:Around}{E:Value→Shared→Prop}{s:Shared}
end
end HT
namespace L2
open PySem PySem.Spec PyProof.Rows
section
variable{X:Cx}
theorem re{α β:Type}{l:List α}{f:α→β}{d:α}{e:β}{i:Nat}(h:i<l.length):(l.map f).getD i e=f (l.getD i d):=by
 rw[getD_eq_getElem?_getD,getD_eq_getElem?_getD,getElem?_map,getElem?_eq_getElem h];rfl
theorem jy{α:Type}{zs:List α}{val:α→V}{d:α}:∀{us:List Value},ap (zs.map val) us→∀(ps:List Nat),(∀i∈ps,i<zs.length)→ap ((ps.map λi=>zs.getD i d).map val) (ps.map λi=>us.getD i Value.none):=by
 intro us rv ps
 induction ps with
 |nil=>intro _;exact .nil
 |cons i ps ih =>
  intro h;refine .cons ?_ (ih λj hj=>h j (by simp[hj]));have hi:=h i (by simp);obtain⟨u,hu,r⟩:=rv.get (i:=i) (x:=val (zs.getD i d)) (by rw[getElem?_map,(cY (d:=d) hi).2];rfl);have:us.getD i Value.none=u:=by rw[getD_eq_getElem?_getD,hu];rfl
  show ax (val (zs.getD i d)) (us.getD i Value.none);rw[this];exact r
theorem lE{α:Type}{zs:List α}{val:α→V}{d:α}{us:List Value}{f:α→α→Bool}{l:Addr}{pins:List (Addr×Obj)}{σ:St}{H:Hp}{s:Shared}{Q:VK}{κ:SortKind}{E:Value→Shared→Prop}(I:Inv X pins σ H s)(rv:ap (zs.map val) us)(O:SRT.Ord (λi j=>f (zs.getD i d) (zs.getD j d)) zs.length)(pl:s.heap.IsList l us.toArray)(h64:zs.length<64)(hk:∀(A':Around) (s':Shared),A'.units≤X.A.units+2→(∀b o,s.heap.get? b=some o→s'.heap.get? b=some o)→∀Q:SortKind→Shared→Prop,2≤zs.length→Q κ s'→wpAny (model X.prog X.w) A' (keyKind' us.toArray) Q (λ_ _=>False) s')(hlt:∀(A':Around) (s':Shared),A'.units≤X.A.units+2→(∀b o,s.heap.get? b=some o→s'.heap.get? b=some o)→∀(i j:Nat) (C:Bool→Shared→Prop),i<zs.length→j<zs.length→C (f (zs.getD i d) (zs.getD j d)) s'→wpAny (model X.prog X.w) A' (keyLt' κ (us.getD i Value.none) (us.getD j Value.none)) C (λ_ _=>False) s')(q:∀zs':List α,zs'.Perm zs→zs'.Pairwise (λa b=>f a b=true)→∀p,H p=none→Q (.ref p) (upd H p (.lst (zs'.map val)))):wpAny (model X.prog X.w) X.A (call (.builtin "sorted") [.ref l]) (EP X pins σ Q) E s:=by
 have hlen:us.length=zs.length:=by rw[←rv.length,length_map]
 refine SRT.pP (κ:=κ) (f:=λi j=>f (zs.getD i d) (zs.getD j d)) (by rw[hlen];exact O) pl (by rw[hlen];exact h64) (λA' s' h1 h2 Q' h3=>hk A' s' h1 h2 Q' (by omega)) (λA' s' h1 h2 i j C hi hj=>hlt A' s' h1 h2 i j C (by omega) (by omega)) ?_;intro p h' hrow hup kp _ hg;obtain⟨c,hg⟩:=hg;rw[hlen]at hrow hup;have hin:∀i∈p.toList,i<zs.length:=λi hi=>mem_range.mp (hrow.perm.mem_iff.mp hi);have hperm:(p.toList.map λi=>zs.getD i d).Perm zs:=by
  refine(hrow.perm.map _).trans ?_;have:(List.range zs.length).map (λi=>zs.getD i d)=zs:=by
   apply ext_getElem?;intro i;rw[getElem?_map]
   by_cases hi:i<zs.length
   ·rw[getElem?_range hi,(cY (d:=d) hi).2];rfl
   ·rw[getElem?_eq_none (by rw[length_range];omega),getElem?_eq_none (by omega)];rfl
  rw[this]
 have hpl:p.size=zs.length:=hrow.size;have hpw:(p.toList.map λi=>zs.getD i d).Pairwise (λa b=>f a b=true):=by
  rw[pairwise_iff_getElem];intro i j hi hj hij;have hi':i<p.size:=by rw[length_map,length_toList]at hi;exact hi
  have hj':j<p.size:=by rw[length_map,length_toList]at hj;exact hj
  have:=hup i j hij (by omega);simp only[]at this;rw[getD_eq_getD_getElem?,getD_eq_getD_getElem?,Array.getElem?_eq_getElem hi',Array.getElem?_eq_getElem hj']at this;simpa using this
 refine⟨.ref (s.heap.objs.size+1),_,I.laid (t':=s.toks) (o:=.lst ((p.toList.map λi=>zs.getD i d).map val)) kp (le_succ _) ⟨?_,_,c,jy rv p.toList hin,hg⟩,rfl,q _ hperm hpw _ (I.hok.fresh (le_succ _))⟩;rw[length_map,hperm.length_eq,sizeLine_eq];omega
theorem oM{ns:List Int}{us:List Value}(r:ap (ns.map V.int) us):IntsAre us ns:=nb r
theorem gy:dz X (.builtin "sorted") (λxs H Q=>∃l,∃ns:List Int,xs=[.ref l]∧H l=some (.lst (ns.map V.int))∧ns.Nodup∧ns.length<64 ∧
  ∀ms:List Int,ms.Perm ns→ms.Pairwise (λa b=>a<b)→∀p,H p=none→Q (.ref p) (upd H p (.lst (ms.map V.int)))):=by
 intro pins s σ H xs us Q I r h;obtain⟨l,ns,rfl,hl,hnd,h64,q⟩:=h;obtain⟨u,rfl,ru⟩:=hX r;cases ru;obtain⟨_,its,n,rv,ho⟩:=I.hok l _ hl;have hI:=oM rv;have hlen:its.length=ns.length:=by rw[←rv.length,length_map]
 refine lE (val:=V.int) (d:=(0:Int)) (f:=λa b=>decide (a<b)) (κ:=oneType') I rv ⟨λi _=>by simp,λi j k _ _ _ h1 h2=>?_,λi j hi hj hij=>?_⟩ ⟨_,ho,rfl,n,rfl⟩ h64 (λA' s' _ _ Q' h2 hQ=>?_) (λA' s' _ _ i j C hi hj hC=>?_) λzs' h1 h2 p hp=>q zs' h1 (h2.imp λh=>by simpa using h) p hp
 ·simp only[decide_eq_true_eq]at *;omega
 ·simp only[decide_eq_true_eq];have:ns.getD i 0≠ns.getD j 0:=by
   rw[getD_eq_getElem?_getD,getD_eq_getElem?_getD,getElem?_eq_getElem hi,getElem?_eq_getElem hj];exact λe=>hij ((getElem_inj hnd).mp e)
  omega
 ·rw[ksk_kind (keys:=its.toArray) (kz:=ns) (by simpa using hI) (by rw[size_toArray];omega)];exact wpAny_pure hQ
 ·have gi:∀i,i<ns.length→∃t,its.getD i Value.none=.int (ns.getD i 0) t:=λi hi=>by
   obtain⟨v,hv,r⟩:=rv.get (i:=i) (x:=.int (ns.getD i 0)) (by rw[getElem?_map,(cY (d:=(0:Int)) hi).2];rfl);obtain⟨t,rfl⟩:=r;exact⟨t,by rw[getD_eq_getElem?_getD,hv];rfl⟩
  obtain⟨t,e1⟩:=gi i hi;obtain⟨t',e2⟩:=gi j hj;rw[e1,e2];exact kat_lt_int hC
end
def eD(H:Hp):Nat→V→V→Prop
 |0,x,y=>x=y∧cG x=true
 |n+1,x,y=>(x=y∧cG x=true)∨∃a b xs ys,x=.ref a∧y=.ref b∧H a=some (.tup xs)∧H b=some (.tup ys)∧xs.length=ys.length∧∀(i:Nat) x' y',xs[i]?=some x'→ys[i]?=some y'→eD H n x' y'
theorem lF{x:V}(f:cG x=true):eqV x x=true:=by
 cases x<;>first|rfl|(simp[eqV];done) | (exact absurd (show false=true from f) Bool.false_ne_true)
theorem bx{H:Hp}{n:Nat}{x y:V}(h:x=y∧cG x=true):eD H n x y:=by
 cases n with
 |zero=>exact h
 |succ n=>exact .inl h
section
variable{X:Cx}{pins:List (Addr×Obj)}{σ:St}{H:Hp}{s:Shared}
theorem rf(I:Inv X pins σ H s):∀(n:Nat){A:Around}{x y:V}{u v:Value},ax x u→ax y v→eD H n x y→A.units+n<cLine→EqAt A s u v true:=by
 intro n
 induction n with
 |zero =>
  intro A x y u v ru rv h hu;obtain⟨e,f⟩:=h;subst e;have:=kd (A:=A) (s:=s) ru rv f f;rw[lF f]at this;exact this
 |succ n ih =>
  intro A x y u v ru rv h hu;rcases h with⟨e,f⟩|⟨a,b,xs,ys,rfl,rfl,ha,hb,hl,hx⟩
  ·subst e;have:=kd (A:=A) (s:=s) ru rv f f;rw[lF f]at this;exact this
  ·cases ru;cases rv
   by_cases hab:a=b
   ·subst hab;exact EqAt.same _
   ·obtain⟨_,us,r1,t1⟩:=I.hok a _ ha;obtain⟨_,ws,r2,t2⟩:=I.hok b _ hb;have l1:=r1.length;have l2:=r2.length;have:=SeqAt.RcAt.tuples (A:=A) (s:=s) (e:=λ_=>true) t1 t2 (by omega) (λj h1 h2=>by
     have h1':j<xs.length:=by rw[l1];simpa using h1
     have h2':j<ys.length:=by rw[l2];simpa using h2
     obtain⟨u',hu1,hu2⟩:=r1.get (getElem?_eq_getElem h1');obtain⟨v',hv1,hv2⟩:=r2.get (getElem?_eq_getElem h2');have e1:us.toArray[j]=u':=by
      have:us[j]?=some us.toArray[j]:=by rw[getElem?_eq_getElem (by simpa using h1)];simp
      rw[hu1]at this;exact(Option.some.inj this).symm
     have e2:ws.toArray[j]=v':=by
      have:ws[j]?=some ws.toArray[j]:=by rw[getElem?_eq_getElem (by simpa using h2)];simp
      rw[hv1]at this;exact(Option.some.inj this).symm
     rw[e1,e2];exact ih hu2 hv2 (hx j _ _ (getElem?_eq_getElem h1') (getElem?_eq_getElem h2')) (by simp[Around.in1_units];omega))
    have e3:((List.range (min us.toArray.size ws.toArray.size)).all (λ_=>true)&&us.toArray.size==ws.toArray.size)=true:=by
     have:us.toArray.size=ws.toArray.size:=by simp only[size_toArray];omega
     simp[this]
    rw[e3]at this;exact EqAt.of_refs hab this
def da(H:Hp)(xs ys:List V):Prop:=xs.length=ys.length∧∀(i:Nat) x y,xs[i]?=some x→ys[i]?=some y→eD H 3 x y
theorem fq{pins:List (Addr×Obj)}{σ:St}{H:Hp}{s:Shared}(I:Inv X pins σ H s){xs ys:List V}{us ws:List Value}(r1:ap xs us)(r2:ap ys ws)(h:da H xs ys){A:Around}(hu:A.units+3<cLine):
  ∀j (h1:j<us.toArray.size) (h2:j<ws.toArray.size),EqAt A s us.toArray[j] ws.toArray[j] true:=λj h1 h2=>by
 have h1':j<xs.length:=by rw[r1.length];simpa using h1
 have h2':j<ys.length:=by rw[r2.length];simpa using h2
 obtain⟨u',hu1,hu2⟩:=r1.get (getElem?_eq_getElem h1');obtain⟨v',hv1,hv2⟩:=r2.get (getElem?_eq_getElem h2');have e1:us.toArray[j]=u':=by
  have:us[j]?=some us.toArray[j]:=by rw[getElem?_eq_getElem (by simpa using h1)];simp
  rw[hu1]at this;exact(Option.some.inj this).symm
 have e2:ws.toArray[j]=v':=by
  have:ws[j]?=some ws.toArray[j]:=by rw[getElem?_eq_getElem (by simpa using h2)];simp
  rw[hv1]at this;exact(Option.some.inj this).symm
 rw[e1,e2];exact rf I 3 hu2 hv2 (h.2 j _ _ (getElem?_eq_getElem h1') (getElem?_eq_getElem h2')) hu
theorem eO(hu:X.A.units+4<cLine):OpR X (compareOp .NotEq) (λx y H Q=>rNe x y H Q∨(∃a b xs ys,x=.ref a∧y=.ref b∧da H xs ys∧((H a=some (.lst xs)∧H b=some (.lst ys))∨(H a=some (.tup xs)∧H b=some (.tup ys)))∧Q (.bl false) H)):=by
 intro pins s σ H x y v u Q I rx ry h;rcases h with h|⟨a,b,xs,ys,rfl,rfl,hx,h,q⟩
 ·exact ol pins s σ H x y v u Q I rx ry h
 ·cases rx;cases ry;rcases h with⟨ha,hb⟩|⟨ha,hb⟩
  ·obtain⟨_,us,n1,r1,o1⟩:=I.hok a _ ha;obtain⟨_,ws,n2,r2,o2⟩:=I.hok b _ hb;have hl:=hx.1;have l1:=r1.length;have l2:=r2.length;refine RcNeAt.lists (e:=λ_=>true) ⟨_,o1,rfl,n1,rfl⟩ ⟨_,o2,rfl,n2,rfl⟩ (by simp only[size_toArray];omega) (by omega) (fq I r1 r2 hx (by simp[Around.in1_units];omega)) _ _ _ _ ⟨.bl false,H,I,?_,q⟩;show _=Value.bool false;simp
  ·obtain⟨_,us,r1,t1⟩:=I.hok a _ ha;obtain⟨_,ws,r2,t2⟩:=I.hok b _ hb;have hl:=hx.1;have l1:=r1.length;have l2:=r2.length;refine RcNeAt.tuples (e:=λ_=>true) t1 t2 (by omega) (fq I r1 r2 hx (by simp[Around.in1_units];omega)) _ _ _ _ ⟨.bl false,H,I,?_,q⟩;show _=Value.bool false;have:us.toArray.size=ws.toArray.size:=by simp only[size_toArray];omega
   simp[this]
end
section
variable{prog:Program}{w:World}{A:Around}{E:Value→Shared→Prop}{s:Shared}
end
section
variable{P:Program}{w:World}
end
section
variable{X:Cx}{o e:Expr}{td ty:TE}{apos cpos:Pos}
end
def Ext(p:Addr)(H H':Hp):Prop:=∀b o,b≠p→H b=some o→H' b=some o
theorem Ext.of{p:Addr}{H H':Hp}(s:Same H H'):Ext p H H':=λb o _ e=>s b o e
theorem Ext.upd{p:Addr}{H:Hp}{o:HO}:Ext p H (upd H p o):=λb u hb e=>by rw[ai hb];exact e
theorem Ext.trans{p:Addr}{H H1 H2:Hp}(a:Ext p H H1)(b:Ext p H1 H2):Ext p H H2:=λc o hc e=>b c o hc (a c o hc e)
def xf(te:TE):Prop:=∀σ H (Q Q':VK),(∀y H,Q y H→Q' y H)→te σ H Q→te σ H Q'
theorem rg{js:List Nat}{J:It}{te:TE}{σ:St}{H1:Hp}{Q:VK}{p:Addr}{fr:List (Option V)}(n:Nat)(hn:n≤1000)(hp:H1 p=none)(hfr:cA 1 js σ=none::fr)(R:Nat→V→Hp→Prop)(hR:∀i y H H',R i y H→Ext p H H'→R i y H')(go:∀i H',i<n→Same H1 H'→J.go i H')(stop:∀H',Same H1 H'→J.stop n H')(me:xf te)(step:∀i H' x H2,i<n→Same H1 H'→(∃ys,H' p=some (.lst ys))→J.yld i H' x H2→H2=H'∧te (some x::fr) H' λy H4=>Same H' H4∧R i y H4)(fin:∀ys H',Same H1 H'→H' p=some (.lst ys)→ys.length=n→(∀(j:Nat) y,ys[j]?=some y→R j y H')→Q (.ref p) H'):LcW 1 js (ca 0) te σ Q J H1 p:=by
 refine wZ (k:=1) (js:=js) (J:=J) (p:=p) n hn (λi ys σ' H'=>(∃o,σ'=o::fr)∧Same H1 H'∧H' p=some (.lst ys)∧ys.length=i∧∀(j:Nat) y,ys[j]?=some y→R j y H') ⟨⟨none,hfr⟩,ag hp,ac,rfl,λj y h=>by simp at h⟩
  (λi ys σ' H' h=>by have:=h.2.2.2.1;omega) (λi ys σ' H' hi h=>go i H' hi h.2.1) (λys σ' H' h=>⟨stop H' h.2.1,fin ys H' h.2.1 h.2.2.1 h.2.2.2.1 h.2.2.2.2⟩) (λi ys σ' H' hi h x H2 hy=>?_) ?_ me
 ·obtain⟨⟨o,rfl⟩,s1,hl,hlen,hrs⟩:=h;obtain⟨rfl,ht⟩:=step i H' x H2 hi s1 ⟨ys,hl⟩ hy;refine me _ _ _ _ (λy H4 h4=>?_) ht;obtain⟨s4,r4⟩:=h4;refine⟨s4 _ _ hl,⟨some x,rfl⟩,ba hp (s1.trans s4),ac,by rw[length_append,hlen];rfl,λj z hz=>?_⟩;have ex:Ext p H2 (upd H4 p (.lst (ys++[y]))):=(Ext.of s4).trans Ext.upd
  by_cases hj:j<ys.length
  ·rw[getElem?_append_left hj]at hz;exact hR _ _ _ _ (hrs j z hz) ex
  ·rw[getElem?_append_right (by omega)]at hz;have hj':j-ys.length=0:=by
    cases e:j-ys.length with
    |zero=>rfl
    |succ m=>rw[e]at hz;simp at hz
   rw[hj']at hz;have ez:y=z:=by simpa using hz
   subst ez;have ej:j=i:=by omega
   subst ej;exact hR _ _ _ _ r4 Ext.upd
 ·intro _ _ _ _ _ m q;exact m _ _ q
theorem gB{H:Hp}{p q:Addr}(hp:∃ys,H p=some (.lst ys))(hq:H q=none):q≠p:=λe=>by
 obtain⟨ys,h⟩:=hp;rw[←e,hq]at h;cases h
section
variable{X:Cx}{N:List Str}{scope:Scope}{cl:List (Str×Addr)}{k:Nat}{js:List Nat}
end
abbrev TJ:=St→Hp→(Hp→Prop)→Prop
section
variable{X:Cx}{tg:Expr}
def PJ(X:Cx)(ps:List Expr)(b:Nat)(t:TJ):Prop :=
 ∀(out:Str)(pins:List (Addr×Obj))(s:Shared)(σ:St)(H:Hp)(Q:VK),Inv X pins σ H s→out.length+b≤1000→(t σ H λH1=>∀y,Q (.str y) H1)→wpAny (model X.prog X.w) X.A (joinParts out (evalEach ps X.env)) (EP X pins σ Q) X.xe s
theorem kq:PJ X [] 0 (λσ H k=>k H):=by
 intro out pins s σ H Q I hb h;exact joinParts_nilE (joinParts_nil ⟨.str _,H,I.tok _,⟨_,rfl⟩,h _⟩ (le_of_lt (ar (by omega))))
theorem dl{x:Str}{c b:Nat}{j:Nat}{p:Pos}{ps:List Expr}{t:TJ}(hx:x.length≤c)(h:PJ X ps b t):PJ X (.Constant (.str x) j p::ps) (c+b) t:=by
 intro out pins s σ H Q I hb hq;refine joinParts_cons (Constant_str ?_);have hl:(out++x).length=out.length+x.length:=strLen_append ..;exact⟨le_of_lt (ar (by omega)),h _ pins _ σ H Q (I.tok _) (by omega) hq⟩
theorem iC{e:Expr}{te:TE}{b:Nat}{p:Pos}{ps:List Expr}{t:TJ}(he:PE X e te)(h:PJ X ps b t):PJ X (.FormattedValue e (-1) none p::ps) (100+b) (λσ H k=>te σ H λv H1=>∃i:Int,v=.int i∧0≤i∧i≤60∧t σ H1 k):=by
 intro out pins s σ H Q I hb hq;refine joinParts_cons (FormattedValue_plain (thn (he pins _ σ H _ I hq) λv s1 hpt=>?_));obtain⟨y,H1,I1,r1,q1⟩:=hpt;obtain⟨i,rfl,h0,h1,q⟩:=q1;obtain⟨tk,rfl⟩:=r1;have h2:=iz i h0 h1;have hl:(out++ofString (toString i)).length=out.length+(ofString (toString i)).length:=strLen_append ..;refine formatField_int_small (lt_of_le_of_lt (Nat.log2_le_self _) (by omega)) ⟨le_of_lt (ar (by omega)),?_⟩;exact h _ pins _ σ H1 Q (I1.tok _) (by omega) q
theorem vB{e:Expr}{te:TE}{b:Nat}{p:Pos}{ps:List Expr}{t:TJ}(he:PE X e te)(h:PJ X ps b t):PJ X (.FormattedValue e (-1) none p::ps) (100+b) (λσ H k=>te σ H λv H1=>∃x:Str,v=.str x∧x.length≤100∧t σ H1 k):=by
 intro out pins s σ H Q I hb hq;refine joinParts_cons (FormattedValue_plain (thn (he pins _ σ H _ I hq) λv s1 hpt=>?_));obtain⟨y,H1,I1,r1,q1⟩:=hpt;obtain⟨x,rfl,h2,q⟩:=q1;obtain⟨tk,rfl⟩:=r1;have hl:(out++x).length=out.length+x.length:=strLen_append ..;refine formatField_str (λt' tk=>⟨le_of_lt (ar (by omega)),?_⟩) (le_of_lt (ar (by omega)));exact h _ pins _ σ H1 Q (I1.tok _) (by omega) q
def xg(t:TJ):TE:=λσ H Q=>t σ H λH1=>∀y,Q (.str y) H1
theorem gX{p1 p2:Expr}{ps:List Expr}{pos:Pos}{b:Nat}{t:TJ}(h:PJ X (p1::p2::ps) b t)(hb:b≤1000):PE X (.JoinedStr (p1::p2::ps) pos) (xg t):=by
 intro pins s σ H Q I hq;exact JoinedStr_many (h empty pins s σ H Q I (by show 0+b≤1000;omega) hq)
theorem xh{E:XK}(L:Lv X E):PassesOwn (model X.prog X.w) X.A X.env X.xe:=by
 rw[L.xe];exact PassesOwn.leaving
theorem vC(hu:X.A.units+4<cLine):OpR X (compareOp .Eq) (λx y H Q=>rEq x y H Q∨(∃a b xs ys,x=.ref a∧y=.ref b∧da H xs ys∧((H a=some (.lst xs)∧H b=some (.lst ys))∨(H a=some (.tup xs)∧H b=some (.tup ys)))∧Q (.bl true) H)):=by
 intro pins s σ H x y v u Q I rx ry h;rcases h with h|⟨a,b,xs,ys,rfl,rfl,hx,h,q⟩
 ·exact du pins s σ H x y v u Q I rx ry h
 ·cases rx;cases ry;rcases h with⟨ha,hb⟩|⟨ha,hb⟩
  ·obtain⟨_,us,n1,r1,o1⟩:=I.hok a _ ha;obtain⟨_,ws,n2,r2,o2⟩:=I.hok b _ hb;have hl:=hx.1;have l1:=r1.length;have l2:=r2.length;refine eq_listAt (e:=λ_=>true) ⟨_,o1,rfl,n1,rfl⟩ ⟨_,o2,rfl,n2,rfl⟩ (by simp only[size_toArray];omega) (by omega) (fq I r1 r2 hx (by simp[Around.in1_units];omega)) ⟨.bl true,H,I,?_,q⟩;show _=Value.bool true;simp
  ·obtain⟨_,us,r1,t1⟩:=I.hok a _ ha;obtain⟨_,ws,r2,t2⟩:=I.hok b _ hb;have hl:=hx.1;have l1:=r1.length;have l2:=r2.length;refine SeqAt.eq_tupleAt (e:=λ_=>true) t1 t2 (by omega) (fq I r1 r2 hx (by simp[Around.in1_units];omega)) ⟨.bl true,H,I,?_,q⟩;show _=Value.bool true;have:us.toArray.size=ws.toArray.size:=by simp only[size_toArray];omega
   simp[this]
end
theorem Same.seqT{K:PySem.W.Frag}{H H':Hp}{a:Addr}{xs:List V}(e:Same H H')(h:SqT K H a xs):SqT K H' a xs:=by
 rcases h with (h|⟨o,h⟩)|h
 ·exact .inl (.inl (e _ _ h))
 ·exact .inl (.inr ⟨o,e _ _ h⟩)
 ·exact .inr h
structure Src(J:It)(H1:Hp)(xs:List V):Prop where
 go:∀i H',i<xs.length→Same H1 H'→J.go i H'
 stop:∀H',Same H1 H'→J.stop xs.length H'
 yl:∀i H' x H2,i<xs.length→Same H1 H'→J.yld i H' x H2→H2=H'∧xs[i]?=some x
theorem gY{K:PySem.W.Frag}{a:Addr}{xs:List V}{H1:Hp}(h:SqT K H1 a xs):Src (Itt K a) H1 xs :=
 ⟨λi H' hi s=>⟨xs,xs[i],s.seqT h,getElem?_eq_getElem hi⟩,λH' s=>⟨xs,s.seqT h,le_refl _⟩,λi H' x H2 _ s ⟨e,y⟩=>⟨e,y xs (by subst e;exact s.seqT h)⟩⟩
theorem gZ{K:PySem.W.Frag}{a:Addr}{xs:List V}{H1:Hp}(h:SqL K H1 a xs):Src (Itl K a) H1 xs :=
 ⟨λi H' hi s=>⟨xs,xs[i],s.seq h,getElem?_eq_getElem hi⟩,λH' s=>⟨xs,s.seq h,le_refl _⟩,λi H' x H2 _ s ⟨e,y⟩=>⟨e,y xs (by subst e;exact s.seq h)⟩⟩
theorem rh{d:Addr}{o:Obj}{u:HO}{ks:List V}{H1:Hp}(h:H1 d=some (.frz o u)):Src (Itk d o u ks) H1 ks :=
 ⟨λi H' hi s=>⟨s _ _ h,hi⟩,λH' s=>⟨s _ _ h,le_refl _⟩,λi H' x H2 _ s ⟨e,y⟩=>⟨e,y⟩⟩
theorem tH{lo:Int}{n:Nat}{H1:Hp}:Src (Itr lo n) H1 ((List.range n).map λi=>V.int (lo+(i:Nat))) :=
 ⟨λi H' hi s=>by show i<n;simpa using hi,λH' s=>by show n≤_;simp,λi H' x H2 hi s ⟨e,y⟩=>⟨e,by
  have hi':i<n:=by simpa using hi
  rw[getElem?_map,getElem?_range hi',y];rfl⟩⟩
theorem Paired.snoc{α β:Type}{R:α→β→Prop}:∀{as:List α}{bs:List β}{a:α}{b:β},Paired R as bs→R a b→Paired R (as++[a]) (bs++[b])
 |_,_,_,_,.nil,h=>.cons h .nil
 |_,_,_,_,.cons r t,h=>.cons r (Paired.snoc t h)
theorem iD{α:Type}{js:List Nat}{J:It}{tc:TT}{te:TE}{σ:St}{H1:Hp}{Q:VK}{p:Addr}{fr:List (Option V)}(zs:List α)(val:α→V)(hn:zs.length≤1000)(hp:H1 p=none)(S:Src J H1 (zs.map val))(hfr:cA 1 js σ=none::fr)(g:α→Bool)(R:α→V→Hp→Prop)(hR:∀z y H H',R z y H→Ext p H H'→R z y H')(cond:∀z H' (k:Bool→Hp→Prop),z∈zs→Same H1 H'→(∃ys,H' p=some (.lst ys))→(∀H4,Same H' H4→k (g z) H4)→tc (some (val z)::fr) H' k)(elt:∀z H' (k:VK),z∈zs→g z=true→Same H1 H'→(∃ys,H' p=some (.lst ys))→(∀y H4,Same H' H4→R z y H4→k y H4)→te (some (val z)::fr) H' k)(fin:∀ys H',Same H1 H'→H' p=some (.lst ys)→Paired (λz y=>R z y H') (zs.filter g) ys→Q (.ref p) H'):wX 1 js (ca 0) tc te σ Q J H1 p:=by
 have grow:∀{as:List α}{ys:List V}{H H':Hp},Ext p H H'→Paired (λz y=>R z y H) as ys→Paired (λz y=>R z y H') as ys:=λex r=>Paired.mapP r λa b h=>hR a b _ _ h ex;have hlen:∀{as:List α}{ys:List V}{H:Hp},Paired (λz y=>R z y H) as ys→ys.length=as.length:=λr=>(Paired.length r).symm;refine⟨λi m ys σ' H'=>m=zs.length-i∧i≤zs.length∧(∃o,σ'=o::fr)∧Same H1 H'∧H' p=some (.lst ys)∧Paired (λz y=>R z y H') ((zs.take i).filter g) ys,⟨zs.length,by simp,zero_le _,⟨none,hfr⟩,ag hp,ac,.nil⟩,?_⟩;rintro i m ys σ' H' ⟨rfl,hi,⟨o,rfl⟩,s1,hl,hys⟩
 by_cases hlt:i<zs.length
 ·have hlt':i<(zs.map val).length:=by rw[length_map];exact hlt
  refine .inr ⟨S.go i H' hlt' s1,?_,λx H2 hy=>?_⟩
  ·have h1:ys.length≤zs.length:=by
    rw[hlen hys];exact le_trans (length_filter_le _ _) (by rw[length_take];omega)
   exact lt_of_le_of_lt h1 (ar hn)
  ·obtain⟨rfl,hx⟩:=S.yl i H' x H2 hlt' s1 hy;have gz:zs[i]?=some zs[i]:=getElem?_eq_getElem hlt;have mz:=mem_of_getElem? gz;rw[getElem?_map,gz]at hx;have ex:val zs[i]=x:=Option.some.inj hx;have et:zs.take (i+1)=zs.take i++[zs[i]]:=cZ gz;subst ex;generalize zs[i]=z at gz mz et⊢;refine cond z H2 _ mz s1 ⟨ys,hl⟩ λH4 s4=>?_;cases hb:g z with
   |true =>
    rw[if_pos rfl];refine elt z H4 _ mz hb (s1.trans s4) ⟨ys,s4 _ _ hl⟩ λy H5 s5 r5=>⟨s5 _ _ (s4 _ _ hl),zs.length-(i+1),by omega,rfl,hlt,⟨_,rfl⟩,ba hp ((s1.trans s4).trans s5),ac,?_⟩;rw[et,List.filter_append,filter_cons_of_pos hb];exact Paired.snoc (grow ((Ext.of (s4.trans s5)).trans Ext.upd) hys) (hR _ _ _ _ r5 Ext.upd)
   |false =>
    rw[if_neg (by simp)];refine⟨zs.length-(i+1),by omega,rfl,hlt,⟨_,rfl⟩,s1.trans s4,s4 _ _ hl,?_⟩;rw[et,List.filter_append,filter_cons_of_neg (by simp[hb]),List.filter_nil,append_nil];exact grow (Ext.of s4) hys
 ·have e:i=zs.length:=by omega
  subst e;have st:=S.stop H' s1;rw[length_map]at st;refine .inl ⟨st,fin ys H' s1 hl ?_⟩;rw[take_length]at hys;exact hys
theorem ft{α:Type}{js:List Nat}{J:It}{te:TE}{σ:St}{H1:Hp}{Q:VK}{p:Addr}{fr:List (Option V)}(zs:List α)(val:α→V)(hn:zs.length≤1000)(hp:H1 p=none)(S:Src J H1 (zs.map val))(hfr:cA 1 js σ=none::fr)(R:α→V→Hp→Prop)(hR:∀z y H H',R z y H→Ext p H H'→R z y H')(elt:∀z H' (k:VK),z∈zs→Same H1 H'→(∃ys,H' p=some (.lst ys))→(∀y H4,Same H' H4→R z y H4→k y H4)→te (some (val z)::fr) H' k)(fin:∀ys H',Same H1 H'→H' p=some (.lst ys)→Paired (λz y=>R z y H') zs ys→Q (.ref p) H'):LcW 1 js (ca 0) te σ Q J H1 p:=by
 have grow:∀{as:List α}{ys:List V}{H H':Hp},Ext p H H'→Paired (λz y=>R z y H) as ys→Paired (λz y=>R z y H') as ys:=λex r=>Paired.mapP r λa b h=>hR a b _ _ h ex;have hlen:∀{as:List α}{ys:List V}{H:Hp},Paired (λz y=>R z y H) as ys→ys.length=as.length:=λr=>(Paired.length r).symm;refine⟨λi m ys σ' H'=>m=zs.length-i∧i≤zs.length∧(∃o,σ'=o::fr)∧Same H1 H'∧H' p=some (.lst ys)∧Paired (λz y=>R z y H') (zs.take i) ys,⟨zs.length,by simp,zero_le _,⟨none,hfr⟩,ag hp,ac,.nil⟩,?_⟩;rintro i m ys σ' H' ⟨rfl,hi,⟨o,rfl⟩,s1,hl,hys⟩
 by_cases hlt:i<zs.length
 ·have hlt':i<(zs.map val).length:=by rw[length_map];exact hlt
  refine .inr ⟨S.go i H' hlt' s1,?_,λx H2 hy=>?_⟩
  ·have h1:ys.length≤zs.length:=by
    rw[hlen hys,length_take];omega
   exact lt_of_le_of_lt h1 (ar hn)
  ·obtain⟨rfl,hx⟩:=S.yl i H' x H2 hlt' s1 hy;have gz:zs[i]?=some zs[i]:=getElem?_eq_getElem hlt;have mz:=mem_of_getElem? gz;rw[getElem?_map,gz]at hx;have ex:val zs[i]=x:=Option.some.inj hx;have et:zs.take (i+1)=zs.take i++[zs[i]]:=cZ gz;subst ex;generalize zs[i]=z at gz mz et⊢;refine elt z H2 _ mz s1 ⟨ys,hl⟩ λy H5 s5 r5=>⟨s5 _ _ hl,zs.length-(i+1),by omega,rfl,hlt,⟨_,rfl⟩,ba hp (s1.trans s5),ac,?_⟩;rw[et];exact Paired.snoc (grow ((Ext.of s5).trans Ext.upd) hys) (hR _ _ _ _ r5 Ext.upd)
 ·have e:i=zs.length:=by omega
  subst e;have st:=S.stop H' s1;rw[length_map]at st;refine .inl ⟨st,fin ys H' s1 hl ?_⟩;rw[take_length]at hys;exact hys
theorem dX{α β:Type}{R:α→V→Prop}{val:β→V}{S:α→β→Prop}{zs:List α}{ys:List V}(h:Paired R zs ys)(f:∀z y,z∈zs→R z y→∃b,y=val b∧S z b):
  ∃bs:List (α×β),bs.map (·.1)=zs∧ys=bs.map (λx=>val x.2)∧∀x∈bs,S x.1 x.2:=by
 induction h with
 |nil=>exact⟨[],rfl,rfl,by simp⟩
 |@cons a y as bs r _ ih =>
  obtain⟨cs,e1,e2,e3⟩:=ih λz y hz=>f z y (by simp[hz]);obtain⟨b,e,s⟩:=f _ _ (by simp) r;refine⟨(a,b)::cs,by rw[map_cons,e1],by rw[map_cons,←e2,e],λx hx=>?_⟩;rcases mem_cons.mp hx with rfl|hx
  ·exact s
  ·exact e3 x hx
theorem eP{α:Type}{R:α→V→Prop}{f:α→V}{zs:List α}{ys:List V}(h:Paired R zs ys)(hf:∀z y,z∈zs→R z y→y=f z):ys=zs.map f:=by
 induction h with
 |nil=>rfl
 |cons r _ ih=>rw[map_cons,←ih λz y hz=>hf z y (by simp[hz]),hf _ _ (by simp) r]
theorem tI(p:Int)(ms:List Int):inV (.int p) (ms.map V.int)=decide (p∈ms):=by
 unfold inV;rw[List.any_map,Bool.eq_iff_iff,List.any_eq_true,decide_eq_true_eq];constructor
 ·rintro⟨x,hx,e⟩;have:x=p:=by simpa [eqV]using e
  rw[←this];exact hx
 ·intro h;exact⟨p,h,by simp[eqV]⟩
theorem pU(ms:List Int):(ms.map V.int).all cG=true:=by
 rw[List.all_map,all_eq_true];intro x _;rfl
theorem fu{X:Cx}:dj (CX1 X.prog X.w) X E0:=λ_ _ _ _ _ _ _ ⟨_,_,_,_,_,h⟩=>h.elim
end L2
namespace TW
structure Nd(S:Type) where
 num:Int
 par:Int
 nm:S
 st:Option Int
section
variable{S:Type}
inductive Reach(ns:List (Nd S))(f:Int):Nd S→Prop where
 |base {n:Nd S}:n∈ns→n.par=f→Reach ns f n
 |step {m n:Nd S}:Reach ns f m→m.st=none→n∈ns→n.par=m.num→Reach ns f n
theorem Reach.mem{ns:List (Nd S)}{f:Int}{n:Nd S}(h:Reach ns f n):n∈ns:=by
 cases h<;>assumption
theorem Reach.mono{ns ms:List (Nd S)}{f:Int}{n:Nd S}(h:Reach ns f n)(hs:∀x∈ns,x∈ms):Reach ms f n:=by
 induction h with
 |base hm hp=>exact .base (hs _ hm) hp
 |step _ hf hm hp ih=>exact .step ih hf (hs _ hm) hp
def inside(ns:List (Nd S))(k:Int):List (Nd S):=ns.filter λn=>decide (n.par=k)
def dv(dn:List Int)(n:Nd S):Bool:=decide (n.par∈dn)
structure Walk(ns:List (Nd S))(f:Int)(dn:List Int)(fd:List (Nd S))(pd:List Int):Prop where
 perm:fd.Perm (ns.filter (dv dn))
 reach:∀n∈fd,Reach ns f n
 cover:∀k,(k∈pd∨k∈dn)↔(k=f∨∃m∈fd,m.st=none∧m.num=k)
theorem Walk.start(ns:List (Nd S))(f:Int):Walk ns f [] [] [f]:=by
 refine⟨?_,by simp,λk=>by simp⟩;have e:ns.filter (dv [])=[]:=by
  rw[List.filter_eq_nil_iff];intro a _;simp[dv]
 rw[e]
theorem dD{α:Type}(p q:α→Bool)(hd:∀x,p x=true→q x=true→False):∀l:List α,
  (l.filter p++l.filter q).Perm (l.filter λx=>p x||q x)
 |[]=>by simp
 |x::l=>by
  have ih:=dD p q hd l;cases hp:p x with
  |true =>
   have hq:q x=false:=by
    cases h:q x with
    |false=>rfl
    |true=>exact(hd x hp h).elim
   rw[filter_cons_of_pos hp,filter_cons_of_neg (by simp[hq]),filter_cons_of_pos (by simp[hp])];exact List.Perm.cons x ih
  |false =>
   cases hq:q x with
   |true =>
    rw[filter_cons_of_neg (by simp[hp]),filter_cons_of_pos hq,filter_cons_of_pos (by simp[hq])];exact List.perm_middle.trans (List.Perm.cons x ih)
   |false =>
    rw[filter_cons_of_neg (by simp[hp]),filter_cons_of_neg (by simp[hq]),filter_cons_of_neg (by simp[hp,hq])];exact ih
def here(ns:List (Nd S))(dn:List Int)(x:Int):List (Nd S):=if x∈dn then []else inside ns x
def aX(l:List (Nd S)):List Int:=(l.filter λn=>n.st.isNone).map (·.num)
theorem lG{l:List (Nd S)}{k:Int}:k∈aX l↔∃m∈l,m.st=none∧m.num=k:=by
 unfold aX;rw[mem_map];constructor
 ·rintro⟨m,hm,e⟩;rw[mem_filter]at hm;exact⟨m,hm.1,by simpa using hm.2,e⟩
 ·rintro⟨m,hm,h,e⟩;exact⟨m,mem_filter.mpr ⟨hm,by simp[h]⟩,e⟩
theorem Walk.turn{ns:List (Nd S)}{f x:Int}{dn:List Int}{fd:List (Nd S)}{pd:List Int}(w:Walk ns f dn fd (pd++[x])):
  Walk ns f (x::dn) (fd++here ns dn x) (pd++aX (here ns dn x)):=by
 have hx:=(w.cover x).mp (.inl (by simp))
 by_cases hd:x∈dn
 ·have eh:here ns dn x=[]:=by unfold here;rw[if_pos hd]
  rw[eh];refine⟨?_,by simpa using w.reach,λk=>?_⟩
  ·have e:ns.filter (dv (x::dn))=ns.filter (dv dn):=by
    apply filter_congr;intro n _;simp only[dv,mem_cons,decide_eq_decide];constructor
    ·rintro(h|h)
     ·rw[h];exact hd
     ·exact h
    ·exact .inr
   rw[e,append_nil];exact w.perm
  ·have c:=w.cover k;rw[append_nil,←c];simp only[aX,List.filter_nil,map_nil,append_nil,mem_append,mem_cons,not_mem_nil,or_false];constructor
   ·rintro(h|h|h)
    ·exact .inl (.inl h)
    ·exact .inl (.inr h)
    ·exact .inr h
   ·rintro((h|h)|h)
    ·exact .inl h
    ·exact .inr (.inl h)
    ·exact .inr (.inr h)
 ·have eh:here ns dn x=inside ns x:=by unfold here;rw[if_neg hd]
  rw[eh];refine⟨?_,λn hn=>?_,λk=>?_⟩
  ·have e:ns.filter (dv (x::dn))=ns.filter λn=>dv dn n||decide (n.par=x):=by
    apply filter_congr;intro n _;rw[Bool.eq_iff_iff];simp only[dv,mem_cons,decide_eq_true_eq,or_eq_true];constructor
    ·rintro(h|h)
     ·exact .inr h
     ·exact .inl h
    ·rintro(h|h)
     ·exact .inr h
     ·exact .inl h
   rw[e];refine(List.Perm.append_right _ w.perm).trans (dD _ _ (λy h1 h2=>?_) ns);simp only[dv,decide_eq_true_eq]at h1 h2;rw[h2]at h1;exact hd h1
  ·rcases mem_append.mp hn with h|h
   ·exact w.reach n h
   ·unfold inside at h;rw[mem_filter]at h;obtain⟨hm,hp⟩:=h;simp only[decide_eq_true_eq]at hp;rcases hx with e|⟨m,hm',hf,e⟩
    ·exact .base hm (hp.trans e)
    ·exact .step (w.reach m hm') hf hm (hp.trans e.symm)
  ·have c:=w.cover k;simp only[mem_append,mem_cons,not_mem_nil,or_false]at c⊢;rw[lG];constructor
   ·rintro((h|⟨m,hm,h1,h2⟩)|h|h)
    ·rcases c.mp (.inl (.inl h))with e|⟨m,hm,z⟩
     ·exact .inl e
     ·exact .inr ⟨m,.inl hm,z⟩
    ·exact .inr ⟨m,.inr hm,h1,h2⟩
    ·rcases c.mp (.inl (.inr h))with e|⟨m,hm,z⟩
     ·exact .inl e
     ·exact .inr ⟨m,.inl hm,z⟩
    ·rcases c.mp (.inr h)with e|⟨m,hm,z⟩
     ·exact .inl e
     ·exact .inr ⟨m,.inl hm,z⟩
   ·rintro(e|⟨m,hm|hm,z⟩)
    ·rcases c.mpr (.inl e)with (h|h)|h
     ·exact .inl (.inl h)
     ·exact .inr (.inl h)
     ·exact .inr (.inr h)
    ·rcases c.mpr (.inr ⟨m,hm,z⟩)with (h|h)|h
     ·exact .inl (.inl h)
     ·exact .inr (.inl h)
     ·exact .inr (.inr h)
    ·exact .inl (.inr ⟨m,hm,z⟩)
theorem Walk.len{ns:List (Nd S)}{f:Int}{dn:List Int}{fd:List (Nd S)}{pd:List Int}(w:Walk ns f dn fd pd):fd.length≤ns.length:=by
 rw[w.perm.length_eq];exact length_filter_le _ _
theorem dE(l:List (Nd S)):(aX l).length≤l.length:=by
 unfold aX;rw[length_map];exact length_filter_le _ _
theorem Walk.mem{ns:List (Nd S)}{f:Int}{dn:List Int}{fd:List (Nd S)}(w:Walk ns f dn fd [])(n:Nd S):n∈fd↔Reach ns f n:=by
 constructor
 ·exact w.reach n
 ·have cov:∀k,(k=f∨∃m∈fd,m.st=none∧m.num=k)→k∈dn:=λk h=>by
   rcases (w.cover k).mpr h with z|z
   ·simp at z
   ·exact z
  have back:∀x,x∈ns→x.par∈dn→x∈fd:=λx hx hp=>w.perm.mem_iff.mpr (mem_filter.mpr ⟨hx,by simp[dv,hp]⟩);intro h
  induction h with
  |base hm hp=>exact back _ hm (cov _ (.inl hp))
  |step _ hf hm hp ih=>exact back _ hm (cov _ (.inr ⟨_,ih,hf,hp.symm⟩))
def cL(ns:List (Nd S)):Prop:=ns.Pairwise λa b=>a.num<b.num
def kr(ns:List (Nd S)):Prop:=(ns.map λn=>(n.par,n.nm)).Nodup
structure Tree(ns:List (Nd S)):Prop where
 rise:cL ns
 own:kr ns
 down:∀n∈ns,Reach ns 0 n
theorem rj{t:List (Nd S)}(h:cL t){a b:Nd S}(ha:a∈t)(hb:b∈t)(e:a.num=b.num):a=b:=by
 unfold cL at h
 induction t with
 |nil=>simp at ha
 |cons x r ih =>
  rw[pairwise_cons]at h;rcases mem_cons.mp ha with ea|ha'
  ·rcases mem_cons.mp hb with eb|hb'
   ·rw[ea,eb]
   ·have:=h.1 b hb';rw[←ea]at this;omega
  ·rcases mem_cons.mp hb with eb|hb'
   ·have:=h.1 a ha';rw[←eb]at this;omega
   ·exact ih h.2 ha' hb'
end
end TW
namespace TW
section
variable{S:Type}
inductive PathTo(ns:List (Nd S)):Int→List S→Prop where
 |top:PathTo ns 0 []
 |node {n:Nd S} {p:List S}:n∈ns→PathTo ns n.par p→PathTo ns n.num (p++[n.nm])
structure Tree1(ns:List (Nd S)):Prop extends Tree ns where
 pos:∀n∈ns,1≤n.num
theorem Tree1.inj{ns:List (Nd S)}(T:Tree1 ns){a b:Nd S}(ha:a∈ns)(hb:b∈ns)(e:a.num=b.num):a=b:=rj T.rise ha hb e
theorem PathTo.zero{ns:List (Nd S)}(T:Tree1 ns){k:Int}{p:List S}(h:PathTo ns k p)(e:k=0):p=[]:=by
 cases h with
 |top=>rfl
 |@node n p hm _=>have:=T.pos n hm;omega
theorem PathTo.inv{ns:List (Nd S)}(T:Tree1 ns){k:Int}{p:List S}(h:PathTo ns k p){n:Nd S}(hn:n∈ns)(e:k=n.num):∃q,p=q++[n.nm]∧PathTo ns n.par q:=by
 cases h with
 |top=>have:=T.pos n hn;omega
 |@node m q hm hq =>
  have:m=n:=T.inj hm hn e;subst this;exact⟨q,rfl,hq⟩
theorem PathTo.uniq{ns:List (Nd S)}(T:Tree1 ns){k:Int}{p:List S}(h:PathTo ns k p):∀{q:List S},PathTo ns k q→p=q:=by
 induction h with
 |top=>intro q hq;exact(hq.zero T rfl).symm
 |@node n p hm _ ih =>
  intro q hq;obtain⟨q',e,hq'⟩:=hq.inv T hm rfl;rw[e,ih hq']
theorem PathTo.ex{ns:List (Nd S)}(T:Tree1 ns){n:Nd S}(hn:n∈ns):∃p,PathTo ns n.num p:=by
 have key:∀x,Reach ns 0 x→∃p,PathTo ns x.num p:=by
  intro x r
  induction r with
  |base hm hp=>exact⟨_,.node hm (by rw[hp];exact .top)⟩
  |step _ _ hm hp ih =>
   obtain⟨p,h⟩:=ih;exact⟨_,.node hm (by rw[hp];exact h)⟩
 exact key n (T.down n hn)
inductive Und(ns:List (Nd S))(g:Int):Int→Prop where
 |here:Und ns g g
 |up {n:Nd S}:n∈ns→Und ns g n.par→Und ns g n.num
theorem Und.zero{ns:List (Nd S)}(T:Tree1 ns){g k:Int}(h:Und ns g k)(e:k=0):g=0:=by
 cases h with
 |here=>exact e
 |@up n hm _=>have:=T.pos n hm;omega
theorem Und.inv{ns:List (Nd S)}(T:Tree1 ns){g k:Int}(h:Und ns g k){n:Nd S}(hn:n∈ns)(e:k=n.num)(hg:k≠g):Und ns g n.par:=by
 cases h with
 |here=>exact absurd rfl hg
 |@up m hm hu =>
  have:m=n:=T.inj hm hn e;subst this;exact hu
theorem jz{ns:List (Nd S)}(T:Tree1 ns){n:Nd S}(hn:n∈ns):n.par=0∨∃m∈ns,m.st=none∧m.num=n.par:=by
 have:=T.down n hn;cases this with
 |base _ hp=>exact .inl hp
 |@step m _ hr hf _ hp=>exact .inr ⟨m,hr.mem,hf,hp.symm⟩
theorem jA{ns:List (Nd S)}(T:Tree1 ns){g:Int}{n:Nd S}(h:Reach ns g n):Und ns g n.num∧∃p q,PathTo ns n.num (p++q)∧q≠[]∧PathTo ns g p:=by
 induction h with
 |@base n hm hp =>
  obtain⟨p,h⟩:=PathTo.ex T hm;obtain⟨q,e,hq⟩:=h.inv T hm rfl;refine⟨.up hm (by rw[hp];exact .here),q,[n.nm],by rw[←e];exact h,by simp,by rw[←hp];exact hq⟩
 |@step m n hr hf hm hp ih =>
  obtain⟨hu,p,q,h1,h2,h3⟩:=ih;refine⟨.up hm (by rw[hp];exact hu),p,q++[n.nm],?_,by simp,h3⟩;rw[←append_assoc];exact .node hm (by rw[hp];exact h1)
theorem iE{ns:List (Nd S)}(T:Tree1 ns){g:Int}{n:Nd S}(h:Reach ns g n):n.num≠g:=by
 obtain⟨_,p,q,h1,h2,h3⟩:=jA T h;intro e;rw[e]at h1;have:=h1.uniq T h3;have hl:=congrArg length this;rw[length_append]at hl;have:q.length≠0:=λz=>h2 (length_eq_zero_iff.mp z);omega
theorem pV{ns:List (Nd S)}(T:Tree1 ns){g:Int}(hg:1≤g):∀{k:Int}{p:List S},PathTo ns k p→∀{n:Nd S},n∈ns→k=n.num→Und ns g k→k≠g→Reach ns g n:=by
 intro k p h
 induction h with
 |top=>intro n hn e;have:=T.pos n hn;omega
 |@node m p hm hp ih =>
  intro n hn e hu hne;have:m=n:=T.inj hm hn e;subst this;have hu':=hu.inv T hm rfl hne
  by_cases hpg:m.par=g
  ·exact .base hm hpg
  ·rcases jz T hm with h0|⟨r,hr,hf,er⟩
   ·have:=hu'.zero T h0;omega
   ·exact .step (ih hr er.symm hu' hpg) hf hm er.symm
theorem db{ns:List (Nd S)}(T:Tree1 ns){g:Int}(hg:1≤g){n:Nd S}(hn:n∈ns):Reach ns g n↔n.num≠g∧Und ns g n.num:=by
 constructor
 ·intro h;exact⟨iE T h,(jA T h).1⟩
 ·rintro⟨h1,h2⟩;obtain⟨p,hp⟩:=PathTo.ex T hn;exact pV T hg hp hn rfl h2 h1
end
end TW
namespace TW
section
variable{S:Type}
theorem jB{t:List (Nd S)}:cL t↔(t.map (·.num)).Pairwise (λa b:Int=>a<b):=by
 unfold cL;rw[pairwise_map]
def iF(t:List (Nd S))(p:Int):Prop:=p=0∨∃m∈t,m.st=none∧m.num=p
theorem made{t u:List (Nd S)}{n:Nd S}(T:Tree1 t)(hp:u.Perm (n::t))(hr:cL u)(h1:1≤n.num)(hf:iF t n.par)(ho:∀m∈t,¬(m.par=n.par∧m.nm=n.nm)):Tree1 u:=by
 have hm:∀x,x∈u↔x=n∨x∈t:=λx=>by rw[hp.mem_iff,mem_cons]
 have ht:∀x,x∈t→x∈u:=λx hx=>(hm x).mpr (.inr hx);refine⟨⟨hr,?_,λx hx=>?_⟩,λx hx=>?_⟩
 ·unfold kr;rw[(hp.map λn:Nd S=>(n.par,n.nm)).nodup_iff,map_cons,nodup_cons];refine⟨λhx=>?_,T.own⟩;obtain⟨m,h2,e⟩:=mem_map.mp hx;injection e with e1 e2
  exact ho m h2 ⟨e1,e2⟩
 ·rcases (hm x).mp hx with e|hx
  ·subst e;rcases hf with e|⟨m,h2,h3,e⟩
   ·exact .base hx e
   ·exact .step ((T.down m h2).mono ht) h3 hx e.symm
  ·exact(T.down x hx).mono ht
 ·rcases (hm x).mp hx with e|hx
  ·subst e;exact h1
  ·exact T.pos x hx
def put(z:Nd S)(m:Nd S):Nd S:=if m.num=z.num then z else m
theorem oN(z m:Nd S):(put z m).num=m.num:=by
 unfold put
 split
 ·rename_i h;exact h.symm
 ·rfl
theorem bG{z m:Nd S}(h:m.num≠z.num):put z m=m:=by unfold put;rw[if_neg h]
theorem dF{z m:Nd S}(h:m.num=z.num):put z m=z:=by unfold put;rw[if_pos h]
theorem rp(z:Nd S)(t:List (Nd S)):(t.map (put z)).map (·.num)=t.map (·.num):=by
 rw[map_map];apply map_congr_left;intro m _;exact oN z m
theorem lH{z:Nd S}{t:List (Nd S)}(h:cL t):cL (t.map (put z)):=by
 rw[jB,rp,←jB];exact h
theorem oO{z:Nd S}{t:List (Nd S)}(T:Tree1 t):∀n∈t.map (put z),1≤n.num:=λn hn=>by
 obtain⟨m,hm,rfl⟩:=mem_map.mp hn;rw[oN];exact T.pos m hm
theorem wrote{t:List (Nd S)}{y z:Nd S}(T:Tree1 t)(hy:y∈t)(e1:z.num=y.num)(e2:z.par=y.par)(e3:z.nm=y.nm)(hs:y.st≠none):Tree1 (t.map (put z)):=by
 have par:∀m∈t,(put z m).par=m.par∧(put z m).nm=m.nm:=λm hm=>by
  by_cases h:m.num=z.num
  ·have:m=y:=T.inj hm hy (h.trans e1);subst this;rw[dF h];exact⟨e2,e3⟩
  ·rw[bG h];exact⟨rfl,rfl⟩
 refine⟨⟨lH T.rise,?_,λn hn=>?_⟩,oO T⟩
 ·have:(t.map (put z)).map (λn=>(n.par,n.nm))=t.map (λn=>(n.par,n.nm)):=by
   rw[map_map];apply map_congr_left;intro m hm;show((put z m).par,(put z m).nm)=_;rw[(par m hm).1,(par m hm).2]
  unfold kr;rw[this];exact T.own
 ·obtain⟨m,hm,rfl⟩:=mem_map.mp hn;have key:∀x,Reach t 0 x→Reach (t.map (put z)) 0 (put z x):=by
   intro x r
   induction r with
   |@base x hx hp=>exact .base (mem_map.mpr ⟨x,hx,rfl⟩) (by rw[(par x hx).1];exact hp)
   |@step a x ra hf hx hp ih =>
    have ha:put z a=a:=bG λe=>hs (by rw[←T.inj ra.mem hy (e.trans e1)];exact hf);rw[ha]at ih;exact .step ih hf (mem_map.mpr ⟨x,hx,rfl⟩) (by rw[(par x hx).1];exact hp)
  exact key m (T.down m hm)
theorem jC{t:List (Nd S)}{k:Int}{n:Nd S}(r:Reach t 0 n)(h:¬Und t k n.num){u:List (Nd S)}(hu:∀x∈t,¬Und t k x.num→x∈u):Reach u 0 n:=by
 induction r with
 |@base n hm hp=>exact .base (hu n hm h) hp
 |@step m n rm hf hn hp ih=>exact .step (ih λhx=>h (.up hn (by rw[hp];exact hx))) hf (hu n hn h) hp
theorem dropped{t:List (Nd S)}{k:Int}(T:Tree1 t){p:Nd S→Bool}(hp:∀n∈t,p n=true↔¬Und t k n.num):Tree1 (t.filter p):=by
 refine⟨⟨T.rise.sublist filter_sublist,T.own.sublist (filter_sublist.map _),λn hn=>?_⟩,λn hn=>T.pos n (mem_filter.mp hn).1⟩;obtain⟨h1,h2⟩:=mem_filter.mp hn;exact jC (T.down n h1) ((hp n h1).mp h2) λx hx hu=>mem_filter.mpr ⟨hx,(hp x hx).mpr hu⟩
theorem moved{t:List (Nd S)}{y z:Nd S}(T:Tree1 t)(hy:y∈t)(e1:z.num=y.num)(e4:z.st=y.st)(hf:iF t z.par)(hi:z.par≠0→¬Und t y.num z.par)(ho:∀m∈t,m.num≠y.num→¬(m.par=z.par∧m.nm=z.nm)):Tree1 (t.map (put z)):=by
 have hz:z∈t.map (put z):=mem_map.mpr ⟨y,hy,dF e1.symm⟩;have other:∀m∈t,m.num≠y.num→m∈t.map (put z):=λm hm h=>mem_map.mpr ⟨m,hm,bG (by rw[e1];exact h)⟩;have free:∀n∈t,¬Und t y.num n.num→Reach (t.map (put z)) 0 n:=λn hn h=>jC (T.down n hn) h λx hx hu=>other x hx λe=>hu (by rw[e];exact .here);have rz:Reach (t.map (put z)) 0 z:=by
  rcases hf with e|⟨m,h2,h3,e⟩
  ·exact .base hz e
  ·have h0:z.par≠0:=λe'=>by have:=T.pos m h2;omega
   exact .step (free m h2 (by rw[e];exact hi h0)) h3 hz e.symm
 refine⟨⟨lH T.rise,?_,λn hn=>?_⟩,oO T⟩
 ·have h:=T.own;have hr:=T.rise;unfold kr cL Nodup at *;rw[pairwise_map]at h;rw[map_map,pairwise_map];have both:=h.and hr;refine both.imp_of_mem λ{a b} ha hb hab=>?_;obtain⟨h1,h2⟩:=hab;show((put z a).par,(put z a).nm)≠((put z b).par,(put z b).nm)
  by_cases ea:a.num=y.num
  ·have eb:b.num≠y.num:=by omega
   rw[dF (by rw[e1];exact ea),bG (by rw[e1];exact eb)];intro e;injection e with q1 q2
   exact ho b hb eb ⟨q1.symm,q2.symm⟩
  ·by_cases eb:b.num=y.num
   ·rw[dF (m:=b) (by rw[e1];exact eb),bG (by rw[e1];exact ea)];intro e;injection e with q1 q2
    exact ho a ha ea ⟨q1,q2⟩
   ·rw[bG (by rw[e1];exact ea),bG (by rw[e1];exact eb)];exact h1
 ·obtain⟨m,hm,rfl⟩:=mem_map.mp hn
  by_cases em:m.num=y.num
  ·rw[dF (by rw[e1];exact em)];exact rz
  ·rw[bG (by rw[e1];exact em)]
   by_cases hu:Und t y.num m.num
   ·have r:Reach t y.num m:=(db T (T.pos y hy) hm).mpr ⟨em,hu⟩;clear hu em hm hn
    induction r with
    |@base n hn hp =>
     have hzs:z.st=none:=by
      rcases jz T hn with e|⟨a,ha,h3,e⟩
      ·have:=T.pos y hy;omega
      ·have:a=y:=T.inj ha hy (e.trans hp);subst this;rw[e4];exact h3
     have hne:n.num≠y.num:=iE T (.base hn hp);exact .step rz hzs (other n hn hne) (by rw[hp,e1])
    |@step a n ra hfa hn hp ih=>exact .step ih hfa (other n hn (iE T (.step ra hfa hn hp))) hp
   ·exact free m hm hu
end
end TW
namespace TW
section
variable{S:Type}
inductive Deed(S:Type) where
 |make (n p:Int) (nm:S) (st:Option Int)
 |write (n st:Int)
 |move (n p:Int) (nm:S)
 |drop (n:Int)
inductive Wd where
 |known|noNode|notFile|notFolder|inside|taken
def cQ(t:List (Nd S))(k:Int):Prop:=∃m∈t,m.num=k
inductive Told(t:List (Nd S)):Deed S→Sum Wd (List (Nd S))→Prop where
 |mKnown {n p:Int} {nm:S} {st:Option Int}:cQ t n→Told t (.make n p nm st) (.inl .known)
 |mNo {n p:Int} {nm:S} {st:Option Int}:¬cQ t n→p≠0→¬cQ t p→Told t (.make n p nm st) (.inl .noNode)
 |mFile {n p:Int} {nm:S} {st:Option Int} {m:Nd S}:¬cQ t n→p≠0→m∈t→m.num=p→m.st≠none→Told t (.make n p nm st) (.inl .notFolder)
 |mTaken {n p:Int} {nm:S} {st:Option Int} {m:Nd S}:¬cQ t n→iF t p→m∈t→m.par=p→m.nm=nm→Told t (.make n p nm st) (.inl .taken)
 |made {n p:Int} {nm:S} {st:Option Int} {u:List (Nd S)}:¬cQ t n→iF t p→(∀m∈t,¬(m.par=p∧m.nm=nm))→u.Perm (⟨n,p,nm,st⟩::t)→cL u→Told t (.make n p nm st) (.inr u)
 |wNo {n st:Int}:¬cQ t n→Told t (.write n st) (.inl .noNode)
 |wFold {n st:Int} {y:Nd S}:y∈t→y.num=n→y.st=none→Told t (.write n st) (.inl .notFile)
 |wrote {n st:Int} {y:Nd S}:y∈t→y.num=n→y.st≠none→Told t (.write n st) (.inr (t.map (put ⟨n,y.par,y.nm,some st⟩)))
 |vNo {n p:Int} {nm:S}:¬cQ t n→Told t (.move n p nm) (.inl .noNode)
 |vNoP {n p:Int} {nm:S}:cQ t n→p≠0→¬cQ t p→Told t (.move n p nm) (.inl .noNode)
 |vFile {n p:Int} {nm:S} {m:Nd S}:cQ t n→p≠0→m∈t→m.num=p→m.st≠none→Told t (.move n p nm) (.inl .notFolder)
 |vIn {n p:Int} {nm:S}:cQ t n→iF t p→p≠0→Und t n p→Told t (.move n p nm) (.inl .inside)
 |vTaken {n p:Int} {nm:S} {m:Nd S}:cQ t n→iF t p→(p≠0→¬Und t n p)→m∈t→m.num≠n→m.par=p→m.nm=nm→Told t (.move n p nm) (.inl .taken)
 |moved {n p:Int} {nm:S} {y:Nd S}:y∈t→y.num=n→iF t p→(p≠0→¬Und t n p)→(∀m∈t,m.num≠n→¬(m.par=p∧m.nm=nm))→Told t (.move n p nm) (.inr (t.map (put ⟨n,p,nm,y.st⟩)))
 |dNo {n:Int}:¬cQ t n→Told t (.drop n) (.inl .noNode)
 |dropped {n:Int} {f:Nd S→Bool}:cQ t n→(∀m∈t,f m=true↔¬Und t n m.num)→Told t (.drop n) (.inr (t.filter f))
theorem cn{t:List (Nd S)}{p:Int}(h:iF t p)(h0:p≠0)(hn:¬cQ t p):False:=by
 rcases h with h|⟨m,hm,_,e⟩
 ·exact h0 h
 ·exact hn ⟨m,hm,e⟩
theorem bi{t:List (Nd S)}(T:Tree1 t){p:Int}{m:Nd S}(h:iF t p)(h0:p≠0)(hm:m∈t)(e:m.num=p)(hs:m.st≠none):False:=by
 rcases h with h|⟨y,hy,h2,e2⟩
 ·exact h0 h
 ·have:=T.inj hm hy (e.trans e2.symm);subst this;exact hs h2
theorem rq{t u:List (Nd S)}(ht:cL t)(hu:cL u)(h:t.Perm u):t=u:=by
 have main:∀{l m:List (Nd S)},cL l→cL m→(∀x,x∈l↔x∈m)→l=m:=by
  intro l
  induction l with
  |nil =>
   intro m _ _ h;cases m with
   |nil=>rfl
   |cons b m=>exact absurd ((h b).mpr (by simp)) (by simp)
  |cons a l ih =>
   intro m hl hm h;cases m with
   |nil=>exact absurd ((h a).mp (by simp)) (by simp)
   |cons b m =>
    unfold cL at hl hm ih;rw[pairwise_cons]at hl hm;have e:a=b:=by
     rcases mem_cons.mp ((h a).mp (by simp))with e|h1
     ·exact e
     ·rcases mem_cons.mp ((h b).mpr (by simp))with e|h2
      ·exact e.symm
      ·have:=hl.1 b h2;have:=hm.1 a h1;omega
    subst e;rw[ih hl.2 hm.2 λx=>?_];constructor
    ·intro hx;rcases mem_cons.mp ((h x).mp (by simp[hx]))with e|h1
     ·subst e;have:=hl.1 x hx;omega
     ·exact h1
    ·intro hx;rcases mem_cons.mp ((h x).mpr (by simp[hx]))with e|h1
     ·subst e;have:=hm.1 x hx;omega
     ·exact h1
 exact main ht hu λx=>h.mem_iff
theorem Told.one{t:List (Nd S)}(T:Tree1 t){d:Deed S}{r r':Sum Wd (List (Nd S))}(h:Told t d r)(h':Told t d r'):r=r':=by
 have hno:∀{k:Int}{m:Nd S},m∈t→m.num=k→¬cQ t k→False:=λhm e hn=>hn ⟨_,hm,e⟩;have one:∀{k:Int}{a b:Nd S},a∈t→a.num=k→b∈t→b.num=k→a=b:=λha ea hb eb=>T.inj ha hb (ea.trans eb.symm);cases h with
 |mKnown a1=>cases h'<;>first|rfl|(exfalso;contradiction)
 |mNo a1 a2 a3=>cases h' with
  |mKnown b1=>exact absurd b1 a1
  |mNo=>rfl
  |mFile b1 b2 b3 b4 b5=>exact(hno b3 b4 a3).elim
  |mTaken b1 b2=>exact(cn b2 a2 a3).elim
  |made b1 b2=>exact(cn b2 a2 a3).elim
 |mFile a1 a2 a3 a4 a5=>cases h' with
  |mKnown b1=>exact absurd b1 a1
  |mNo b1 b2 b3=>exact(hno a3 a4 b3).elim
  |mFile=>rfl
  |mTaken b1 b2=>exact(bi T b2 a2 a3 a4 a5).elim
  |made b1 b2=>exact(bi T b2 a2 a3 a4 a5).elim
 |mTaken a1 a2 a3 a4 a5=>cases h' with
  |mKnown b1=>exact absurd b1 a1
  |mNo b1 b2 b3=>exact(cn a2 b2 b3).elim
  |mFile b1 b2 b3 b4 b5=>exact(bi T a2 b2 b3 b4 b5).elim
  |mTaken=>rfl
  |made b1 b2 b3=>exact(b3 _ a3 ⟨a4,a5⟩).elim
 |made a1 a2 a3 a4 a5=>cases h' with
  |mKnown b1=>exact absurd b1 a1
  |mNo b1 b2 b3=>exact(cn a2 b2 b3).elim
  |mFile b1 b2 b3 b4 b5=>exact(bi T a2 b2 b3 b4 b5).elim
  |mTaken b1 b2 b3 b4 b5=>exact(a3 _ b3 ⟨b4,b5⟩).elim
  |made b1 b2 b3 b4 b5=>rw[rq a5 b5 (a4.trans b4.symm)]
 |wNo a1=>cases h' with
  |wNo=>rfl
  |wFold b1 b2=>exact(hno b1 b2 a1).elim
  |wrote b1 b2=>exact(hno b1 b2 a1).elim
 |wFold a1 a2 a3=>cases h' with
  |wNo b1=>exact(hno a1 a2 b1).elim
  |wFold=>rfl
  |wrote b1 b2 b3=>rw[one a1 a2 b1 b2]at a3;exact absurd a3 b3
 |wrote a1 a2 a3=>cases h' with
  |wNo b1=>exact(hno a1 a2 b1).elim
  |wFold b1 b2 b3=>rw[one b1 b2 a1 a2]at b3;exact absurd b3 a3
  |wrote b1 b2 b3=>rw[one b1 b2 a1 a2]
 |vNo a1=>cases h' with
  |vNo=>rfl
  |vNoP=>rfl
  |vFile b1=>exact absurd b1 a1
  |vIn b1=>exact absurd b1 a1
  |vTaken b1=>exact absurd b1 a1
  |moved b1 b2=>exact(hno b1 b2 a1).elim
 |vNoP a1 a2 a3=>cases h' with
  |vNo=>rfl
  |vNoP=>rfl
  |vFile b1 b2 b3 b4=>exact(hno b3 b4 a3).elim
  |vIn b1 b2=>exact(cn b2 a2 a3).elim
  |vTaken b1 b2=>exact(cn b2 a2 a3).elim
  |moved b1 b2 b3=>exact(cn b3 a2 a3).elim
 |vFile a1 a2 a3 a4 a5=>cases h' with
  |vNo b1=>exact absurd a1 b1
  |vNoP b1 b2 b3=>exact(hno a3 a4 b3).elim
  |vFile=>rfl
  |vIn b1 b2=>exact(bi T b2 a2 a3 a4 a5).elim
  |vTaken b1 b2=>exact(bi T b2 a2 a3 a4 a5).elim
  |moved b1 b2 b3=>exact(bi T b3 a2 a3 a4 a5).elim
 |vIn a1 a2 a3 a4=>cases h' with
  |vNo b1=>exact absurd a1 b1
  |vNoP b1 b2 b3=>exact(cn a2 b2 b3).elim
  |vFile b1 b2 b3 b4 b5=>exact(bi T a2 b2 b3 b4 b5).elim
  |vIn=>rfl
  |vTaken b1 b2 b3=>exact absurd a4 (b3 a3)
  |moved b1 b2 b3 b4=>exact absurd a4 (b4 a3)
 |vTaken a1 a2 a3 a4 a5 a6 a7=>cases h' with
  |vNo b1=>exact absurd a1 b1
  |vNoP b1 b2 b3=>exact(cn a2 b2 b3).elim
  |vFile b1 b2 b3 b4 b5=>exact(bi T a2 b2 b3 b4 b5).elim
  |vIn b1 b2 b3 b4=>exact absurd b4 (a3 b3)
  |vTaken=>rfl
  |moved b1 b2 b3 b4 b5=>exact(b5 _ a4 a5 ⟨a6,a7⟩).elim
 |moved a1 a2 a3 a4 a5=>cases h' with
  |vNo b1=>exact(hno a1 a2 b1).elim
  |vNoP b1 b2 b3=>exact(cn a3 b2 b3).elim
  |vFile b1 b2 b3 b4 b5=>exact(bi T a3 b2 b3 b4 b5).elim
  |vIn b1 b2 b3 b4=>exact absurd b4 (a4 b3)
  |vTaken b1 b2 b3 b4 b5 b6 b7=>exact(a5 _ b4 b5 ⟨b6,b7⟩).elim
  |moved b1 b2=>rw[one b1 b2 a1 a2]
 |dNo a1=>cases h' with
  |dNo=>rfl
  |dropped b1=>exact absurd b1 a1
 |dropped a1 a2=>cases h' with
  |dNo b1=>exact absurd a1 b1
  |dropped b1 b2 =>
   congr 1
   apply filter_congr;intro m hm;rw[Bool.eq_iff_iff,a2 m hm,b2 m hm]
def Deed.pos:Deed S→Prop
 |.make n _ _ _=>1≤n
 |_=>True
theorem Told.tree{t u:List (Nd S)}(T:Tree1 t){d:Deed S}(h:Told t d (.inr u))(hp:d.pos):Tree1 u:=by
 generalize er:(Sum.inr u:Sum Wd (List (Nd S)))=r at h;cases h with
 |made a1 a2 a3 a4 a5 =>
  injection er with er
  subst er;exact TW.made T a4 a5 hp a2 λm hm=>a3 m hm
 |wrote a1 a2 a3 =>
  injection er with er
  subst er a2;exact TW.wrote T a1 rfl rfl rfl a3
 |moved a1 a2 a3 a4 a5 =>
  injection er with er
  subst er a2;exact TW.moved T a1 rfl rfl a3 a4 a5
 |dropped a1 a2 =>
  injection er with er
  subst er;exact TW.dropped T a2
 |_=>cases er
theorem Told.len{t u:List (Nd S)}{d:Deed S}(h:Told t d (.inr u)):u.length≤t.length+1:=by
 generalize er:(Sum.inr u:Sum Wd (List (Nd S)))=r at h;cases h with
 |made a1 a2 a3 a4 a5 =>
  injection er with er
  subst er;rw[a4.length_eq];simp
 |wrote a1 a2 a3 =>
  injection er with er
  subst er;simp
 |moved a1 a2 a3 a4 a5 =>
  injection er with er
  subst er;simp
 |dropped a1 a2 =>
  injection er with er
  subst er;exact Nat.le_succ_of_le (length_filter_le _ _)
 |_=>cases er
end
end TW
namespace TW
section
variable{S:Type}
end
end TW
namespace L2
open PySem PySem.Spec PyProof.Rows
section
variable{P:Program}{w:World}{K:PySem.W.Frag}{mg:Str→Option Value}{base:Heap}
theorem Fun.okX{x qual:Str}{st:Stmt}{f:Addr}{fd:FuncData}{N ps:List Str}{k:Nat}{sp:Sp}(F:Fun K x qual st f fd)(S:FnScope N ps (ah st))(len:∀vs H Q E,sp vs H Q E→vs.length=ps.length)(hbody:∀(cdv:Value) (A:Around) (outer:List Env) (s:Shared) (H:Hp) (vs:List V) (Q:VK) (E:XK),Room k (A.deeper (envOfC qual (ah st) s.heap.objs.size f cdv))→sp vs H Q E →
   ∃t,PSs (ic (CX1 P w) P w K mg base N qual (ah st) f cdv A outer s H E) (bn st) t∧t {nx:=λ_ H'=>Q .non H',rt:=Q} (start N vs) H):FnOk P w K mg base (CX1 P w) (k+1) f fd ps sp:=by
 obtain⟨oc,od,kV,doc,pm,an,cdv,ct,osl,rfl,lk,hcd⟩:=F.ex;exact uw lk hcd S len λA outer s H vs Q E hr hsp=>hbody cdv A outer s H vs Q E hr hsp
theorem LcOk.mk'{X:Cx}{scope:Scope}{cl:List (Str×Addr)}(fs:List Str)(hk:scope.kind=.function)(hc:closureFor scope X.env=pure cl)(hn:∀x∈scope.names,x.2=.local→scope.names.lookup x.1=some .local)(hnc:∀x∈scope.names,x.2≠.cell)(hcl:∀y∈cl,X.env.cells.lookup y.1=some y.2)(hfs:cl.map (·.1)=fs)(hall:scope.names.all (λy=>!(y.2==.free)||fs.contains y.1)=true):LcOk X scope cl:=by
 refine⟨hk,hc,hn,hnc,λx c h=>hcl (x,c) (PySem.mem_of_lookup h),λx h=>?_⟩;have hm:∃k,(x,k)∈(relabel scope X.env).names∧(k=.cell∨k=.free):=by
  rcases h with h|h
  ·exact⟨_,PySem.mem_of_lookup h,.inl rfl⟩
  ·exact⟨_,PySem.mem_of_lookup h,.inr rfl⟩
 obtain⟨k,hm,hk'⟩:=hm;unfold relabel at hm;obtain⟨⟨y,k0⟩,hy,e⟩:=mem_map.mp hm;have hfree:x=y∧k0=.free:=by
  cases k0 with
  |free =>
   simp only at e
   split at e
   ·injection e with e1 e2;exact⟨e1.symm,rfl⟩
   ·injection e with e1 e2;exact⟨e1.symm,rfl⟩
  |cell=>exact absurd rfl (hnc _ hy)
  |_ =>
   exfalso
   have e2:k=_:=(congrArg Prod.snd e).symm;simp at e2;rcases hk' with z|z<;>rw[z]at e2<;>cases e2
 obtain⟨rfl,rfl⟩:=hfree;have:=all_eq_true.mp hall _ hy;have hin:fs.contains x=true:=by simpa using this
 rw[←hfs]at hin;have hmem:x∈cl.map (·.1):=List.contains_iff_mem.mp hin;cases e:cl.lookup x with
 |some c=>exact⟨c,rfl⟩
 |none =>
  exfalso
  obtain⟨y,hy,ey⟩:=mem_map.mp hmem;have:=List.lookup_eq_none_iff.mp e y hy;rw[ey]at this;simp at this
end
end L2
namespace TK
open PySem L2
abbrev Nd:=TW.Nd Str
def stV:Option Int→V
 |none=>.non
 |some i=>.int i
def vals(n:Nd):List V:=[.int n.num,.int n.par,.str n.nm,stV n.st]
abbrev ZN:=List (Addr×Nd)
def aN(zs:ZN):List V:=(zs.map (·.1)).map V.ref
def nds(zs:ZN):List Nd:=zs.map (·.2)
def At(H:Hp)(zs:ZN):Prop:=∀z∈zs,H z.1=some (.tup (vals z.2))
theorem At.same{H H':Hp}{zs:ZN}(h:At H zs)(s:Same H H'):At H' zs:=λz hz=>s _ _ (h z hz)
theorem bT(zs:ZN):(aN zs).length=zs.length:=by simp[aN]
theorem aY(zs:ZN):(nds zs).length=zs.length:=by simp[nds]
theorem cr{zs:ZN}{i:Nat}{x:V}(h:(aN zs)[i]?=some x):∃z,zs[i]?=some z∧x=.ref z.1:=by
 unfold aN at h;rw[getElem?_map,getElem?_map]at h;cases e:zs[i]? with
 |none=>rw[e]at h;cases h
 |some z=>rw[e]at h;exact⟨z,rfl,(Option.some.inj h).symm⟩
theorem lI{zs:ZN}{i:Nat}{z:Addr×Nd}(h:zs[i]?=some z):(aN zs)[i]?=some (.ref z.1):=by
 unfold aN;rw[getElem?_map,getElem?_map,h];rfl
theorem at0(n:Nd):atI (vals n) 0=some (.int n.num):=rfl
theorem at1(n:Nd):atI (vals n) 1=some (.int n.par):=rfl
theorem at2(n:Nd):atI (vals n) 2=some (.str n.nm):=rfl
theorem at3(n:Nd):atI (vals n) 3=some (stV n.st):=rfl
theorem au{n:Nat}(h:n≤1000):n≤sizeLine:=le_of_lt (ar h)
theorem le2:2≤sizeLine:=au (by decide)
theorem iG{A:Around}{k:Nat}(hr:Room k A):A.units+4<cLine:=lt_of_le_of_lt (Nat.add_le_add_left (by decide:4≤64) _) hr.units
def ins(zs:ZN)(k:Int):ZN:=zs.filter λz=>decide (z.2.par=k)
theorem oP(zs:ZN)(k:Int):nds (ins zs k)=TW.inside (nds zs) k:=by
 unfold nds ins TW.inside;rw[filter_map];rfl
theorem dG(zs:ZN)(z:Addr×Nd)(k:Int):ins (zs++[z]) k=if z.2.par=k then ins zs k++[z]else ins zs k:=by
 unfold ins;rw[List.filter_append]
 by_cases h:z.2.par=k
 ·rw[if_pos h,filter_cons_of_pos (by simp[h])];rfl
 ·rw[if_neg h,filter_cons_of_neg (by simp[h])];simp
theorem tJ{zs:ZN}{k:Int}{z:Addr×Nd}(h:z∈ins zs k):z∈zs:=(mem_filter.mp h).1
theorem jD(zs:ZN)(z:Addr×Nd):aN (zs++[z])=aN zs++[.ref z.1]:=by simp[aN]
theorem rA{zs:ZN}(h:aN zs=[]):zs=[]:=by
 cases zs with
 |nil=>rfl
 |cons a r=>simp[aN]at h
structure Mem(H0 H:Hp)(d:Addr)(L:Int→Addr)(kvs:List (Key×V))(xs:ZN)(dn:List Int):Prop where
 dict:H d=some (.dK kvs)
 d0:H0 d=none
 len:kvs.length≤xs.length
 val:∀k:Int,aS kvs (Sum.inl k:Key)=if k∈dn∨ins xs k=[]then none else some (.ref (L k))
 at':∀k,k∉dn→ins xs k≠[]→H (L k)=some (.lst (aN (ins xs k)))∧H0 (L k)=none
 inj:∀k k',k∉dn→k'∉dn→ins xs k≠[]→ins xs k'≠[]→L k=L k'→k=k'
 same:Same H0 H
theorem Mem.grow{H0 H H':Hp}{d:Addr}{L:Int→Addr}{kvs:List (Key×V)}{xs:ZN}{dn:List Int}(m:Mem H0 H d L kvs xs dn)(s:Same H H'):Mem H0 H' d L kvs xs dn :=
 ⟨s _ _ m.dict,m.d0,m.len,m.val,λk h1 h2=>⟨s _ _ (m.at' k h1 h2).1,(m.at' k h1 h2).2⟩,m.inj,m.same.trans s⟩
theorem Mem.other{H0 H:Hp}{d p:Addr}{L:Int→Addr}{kvs:List (Key×V)}{xs:ZN}{dn:List Int}{is:List Int}{o:HO}(m:Mem H0 H d L kvs xs dn)(hp:H p=some (.lst (is.map V.int)))(h0:H0 p=none):Mem H0 (upd H p o) d L kvs xs dn:=by
 refine⟨?_,m.d0,m.len,m.val,λk h1 h2=>⟨?_,(m.at' k h1 h2).2⟩,m.inj,ba h0 m.same⟩
 ·rw[ai]
  ·exact m.dict
  ·intro e;have:=m.dict;rw[e,hp]at this;cases this
 ·have e1:=(m.at' k h1 h2).1;rw[ai]
  ·exact e1
  ·intro e;rw[e,hp]at e1;injection e1 with e1
   injection e1 with e1
   have hne:=h2;cases hk:ins xs k with
   |nil=>exact h2 hk
   |cons a r =>
    rw[hk]at e1;cases is with
    |nil=>simp[aN]at e1
    |cons i r'=>simp[aN]at e1
theorem Mem.start{H0:Hp}{d:Addr}(h:H0 d=none):Mem H0 (upd H0 d (.dK [])) d (λ_=>d) [] [] [] :=
 ⟨ac,h,by simp,λk=>by rw[if_pos (.inr rfl)];rfl,λk _ h=>absurd rfl h,λk k' _ _ h=>absurd rfl h,ag h⟩
theorem Mem.hit{H0 H:Hp}{d:Addr}{L:Int→Addr}{kvs:List (Key×V)}{xs:ZN}{z:Addr×Nd}(m:Mem H0 H d L kvs xs [])(hp:ins xs z.2.par≠[]):
  Mem H0 (upd H (L z.2.par) (.lst (aN (ins xs z.2.par)++[.ref z.1]))) d L kvs (xs++[z]) []:=by
 have e1:=(m.at' z.2.par (by simp) hp);have hd:d≠L z.2.par:=λe=>by
  have:=m.dict;rw[e,e1.1]at this;cases this
 have ne:∀k,ins (xs++[z]) k=[]↔ins xs k=[]:=λk=>by
  rw[dG]
  by_cases h:z.2.par=k
  ·rw[if_pos h];subst h;simp[hp]
  ·rw[if_neg h]
 refine⟨by rw[ai hd];exact m.dict,m.d0,by have:=m.len;simp;omega,λk=>?_,λk h1 h2=>?_,λk k' _ _ h2 h3 e=>m.inj k k' (by simp) (by simp) (λh=>h2 ((ne k).mpr h)) (λh=>h3 ((ne k').mpr h)) e,ba e1.2 m.same⟩
 ·rw[m.val k];simp only[ne k]
 ·have h2':ins xs k≠[]:=λh=>h2 ((ne k).mpr h);refine⟨?_,(m.at' k h1 h2').2⟩
  by_cases h:z.2.par=k
  ·subst h;rw[ac,dG,if_pos rfl,jD]
  ·rw[ai,dG,if_neg h]
   ·exact(m.at' k h1 h2').1
   ·intro e;exact h (m.inj _ _ (by simp) (by simp) hp h2' e.symm)
theorem Mem.fresh{H0 H:Hp}{d q:Addr}{L:Int→Addr}{kvs:List (Key×V)}{xs:ZN}{z:Addr×Nd}(m:Mem H0 H d L kvs xs [])(hp:ins xs z.2.par=[])(hq:H q=none):
  Mem H0 (upd (upd (upd H q (.lst [])) d (.dK (cH kvs (Sum.inl z.2.par:Key) (.ref q)))) q (.lst ([]++[.ref z.1]))) d (λk=>if k=z.2.par then q else L k) (cH kvs (Sum.inl z.2.par:Key) (.ref q)) (xs++[z]) []:=by
 have hdq:d≠q:=λe=>by
  have:=m.dict;rw[e,hq]at this;cases this
 have lq:∀k,ins xs k≠[]→L k≠q:=λk h e=>by
  have:=(m.at' k (by simp) h).1;rw[e,hq]at this;cases this
 have ld:∀k,ins xs k≠[]→L k≠d:=λk h e=>by
  have:=(m.at' k (by simp) h).1;rw[e,m.dict]at this;cases this
 have q0:H0 q=none:=m.same.free hq;have e2:∀k,k≠z.2.par→ins (xs++[z]) k=ins xs k:=λk h=>by rw[dG,if_neg (λe=>h e.symm)]
 have e3:ins (xs++[z]) z.2.par=[z]:=by rw[dG,if_pos rfl,hp];rfl
 refine⟨by rw[ai hdq,ac],m.d0,?_,λk=>?_,λk h1 h2=>?_,λk k' _ _ h2 h3 e=>?_,?_⟩
 ·have h1:=m.len;have h2:=cM kvs (Sum.inl z.2.par:Key) (.ref q);rw[length_append,length_singleton];omega
 ·rw[lj]
  by_cases h:k=z.2.par
  ·subst h;rw[if_pos rfl,if_neg (by rw[e3];simp),if_pos rfl]
  ·rw[if_neg (λe=>h (Sum.inl.inj e)),m.val k,e2 k h,if_neg h]
 ·by_cases h:k=z.2.par
  ·subst h;simp only[if_true];exact⟨by rw[ac,e3];rfl,q0⟩
  ·rw[e2 k h]at h2;simp only[if_neg h];refine⟨?_,(m.at' k h1 h2).2⟩;rw[ai (lq k h2),ai (ld k h2),ai (lq k h2),e2 k h];exact(m.at' k h1 h2).1
 ·by_cases h:k=z.2.par
  ·by_cases h':k'=z.2.par
   ·rw[h,h']
   ·rw[e2 k' h']at h3;simp only[if_pos h,if_neg h']at e;exact absurd e.symm (lq k' h3)
  ·rw[e2 k h]at h2
   by_cases h':k'=z.2.par
   ·simp only[if_neg h,if_pos h']at e;exact absurd e (lq k h2)
   ·rw[e2 k' h']at h3;simp only[if_neg h,if_neg h']at e;exact m.inj k k' (by simp) (by simp) h2 h3 e
 ·exact ba q0 (ba m.d0 (m.same.trans (ag hq)))
theorem pW{κ:Type}[DecidableEq κ](kvs:List (κ×V))(k j:κ):aS (cx kvs k) j=if j=k then none else aS kvs j:=by
 induction kvs with
 |nil=>simp[cx,aS]
 |cons p r ih =>
  by_cases e:p.1=k
  ·rw[pL e,ih]
   by_cases h:j=k
   ·rw[if_pos h,if_pos h]
   ·rw[if_neg h,if_neg h,aK (λz=>h (z.symm.trans e))]
  ·rw[pM e]
   by_cases h:p.1=j
   ·rw[aQ h,if_neg (λz=>e (h.trans z)),aQ h]
   ·rw[aK h,ih,aK h]
theorem Mem.drop{H0 H:Hp}{d:Addr}{L:Int→Addr}{kvs:List (Key×V)}{xs:ZN}{dn:List Int}(m:Mem H0 H d L kvs xs dn)(x:Int):Mem H0 (upd H d (.dK (cx kvs (Sum.inl x:Key)))) d L (cx kvs (Sum.inl x:Key)) xs (x::dn):=by
 have ld:∀k,k∉dn→ins xs k≠[]→L k≠d:=λk h0 h e=>by
  have:=(m.at' k h0 h).1;rw[e,m.dict]at this;cases this
 have no:∀k,k∉x::dn→k∉dn:=λk h h'=>h (mem_cons_of_mem _ h');refine⟨ac,m.d0,le_trans (ll _ _) m.len,λk=>?_,λk h1 h2=>?_,λk k' h0 h1 h2 h3 e=>m.inj k k' (no k h0) (no k' h1) h2 h3 e,ba m.d0 m.same⟩
 ·rw[pW,m.val k]
  by_cases h:k=x
  ·rw[if_pos (by rw[h]),if_pos (.inl (by rw[h];simp))]
  ·rw[if_neg (λe=>h (Sum.inl.inj e))];simp[h]
 ·rw[ai (ld k (no k h1) h2)];exact m.at' k (no k h1) h2
theorem Mem.skip{H0 H:Hp}{d:Addr}{L:Int→Addr}{kvs:List (Key×V)}{xs:ZN}{dn:List Int}(m:Mem H0 H d L kvs xs dn){x:Int}(hx:x∈dn∨ins xs x=[]):Mem H0 H d L kvs xs (x::dn):=by
 have no:∀k,k∉x::dn→k∉dn:=λk h h'=>h (mem_cons_of_mem _ h');refine⟨m.dict,m.d0,m.len,λk=>?_,λk h1 h2=>m.at' k (no k h1) h2,λk k' h0 h1 h2 h3 e=>m.inj k k' (no k h0) (no k' h1) h2 h3 e,m.same⟩;rw[m.val k]
 by_cases h:k=x
 ·subst h;rw[if_pos hx,if_pos (.inl (by simp))]
 ·simp[h]
theorem rB{Q:VK}{H0 H:Hp}{d q:Addr}{L:Int→Addr}{kvs:List (Key×V)}{zs:ZN}{dn:List Int}{x:Int}(m:Mem H0 H d L kvs zs dn)(hq:H q=some (.lst []))(k:∀hl Hc kvs' hs,Mem H0 Hc d L kvs' zs (x::dn)→Hc hl=some (.lst (aN hs))→nds hs=TW.here (nds zs) dn x→(∀z∈hs,z∈zs)→(∀p,p≠d→Hc p=H p)→(hs=[]→hl=q)→Q (.ref hl) Hc):
  ∃kvs k,H d=some (.dK kvs)∧V.int x=kV k∧(∀v,aS kvs k=some v→Q v (upd H d (.dK (cx kvs k))))∧(aS kvs k=none→Q (.ref q) H):=by
 refine⟨kvs,.inl x,m.dict,rfl,λv hv=>?_,λhn=>?_⟩
 ·rw[m.val x]at hv
  by_cases h:x∈dn∨ins zs x=[]
  ·rw[if_pos h]at hv;cases hv
  ·rw[if_neg h]at hv;have h1:x∉dn:=λz=>h (.inl z);have h2:ins zs x≠[]:=λz=>h (.inr z);cases hv;have a:=(m.at' x h1 h2).1;have ld:L x≠d:=λe=>by rw[e,m.dict]at a;cases a
   refine k (L x) _ _ (ins zs x) (m.drop x) (by rw[ai ld];exact a) ?_ (λz hz=>tJ hz) (λp hp=>ai hp) (λe=>absurd e h2);rw[oP];unfold TW.here;rw[if_neg h1]
 ·rw[m.val x]at hn
  by_cases h:x∈dn∨ins zs x=[]
  ·refine k q _ _ [] (m.skip h) hq ?_ (by simp) (λp _=>rfl) (λ_=>rfl);unfold TW.here
   by_cases h1:x∈dn
   ·rw[if_pos h1];rfl
   ·rw[if_neg h1];rcases h with h|h
    ·exact absurd h h1
    ·rw[←oP,h]
  ·rw[if_neg h]at hn;cases hn
theorem oQ{H:Hp}{p hl:Addr}{hs:ZN}{is:List Int}(hp:H p=some (.lst (is.map V.int)))(h:H hl=some (.lst (aN hs)))(hne:hs≠[]):hl≠p:=by
 intro e;rw[e,hp]at h;injection h with h
 injection h with h
 cases hs with
 |nil=>exact hne rfl
 |cons a r =>
  cases is with
  |nil=>simp[aN]at h
  |cons i r'=>simp[aN]at h
def jE(H:Hp)(p:Addr):Nat:=match H p with
 |some (.lst xs)=>xs.length
 |_=>0
theorem fw{H:Hp}{p:Addr}{xs:List V}(h:H p=some (.lst xs)):jE H p=xs.length:=by unfold jE;rw[h]
def dc(l:List Nd):List V:=(l.map (·.num)).map V.int
def gM(K:PySem.W.Frag)(H:Hp)(a:Addr):Prop:=∃ns:List Int,SqL K H a (ns.map V.int)
theorem gM.same{K:PySem.W.Frag}{H H':Hp}{a:Addr}(h:gM K H a)(s:Same H H'):gM K H' a:=let⟨ns,e⟩:=h;⟨ns,s.seq e⟩
theorem lJ{ns:List Int}{i:Int}(h0:0≤i)(h1:i<ns.length):∃j,atI (ns.map V.int) i=some (.int j):=by
 refine⟨ns[i.toNat]'(by omega),?_⟩;have:=ka (xs:=ns.map V.int) (j:=i.toNat) (v:=.int (ns[i.toNat]'(by omega))) (by rw[getElem?_map,getElem?_eq_getElem (by omega)];rfl);rw[show((i.toNat:Nat):Int)=i by omega]at this;exact this
def Has(P:Program)(w:World)(K:PySem.W.Frag)(mg:Str→Option Value)(base:Heap)(k:Nat)(x:Str)(ps:List Str)(sp:Sp):Prop:=∃f fd,FnOk P w K mg base CX0 k f fd ps sp∧mg x=some (.ref f)∧keepIn K (.ref f)=true∧aG K fd ps []
def tp(z:Addr×Nd):gR:=(z.1,z.2.num,[.int z.2.par,.str z.2.nm,stV z.2.st])
def un(t:gR):Addr×Nd:=(t.1,match t.2.2 with
 |[.int p,.str s,.int i]=>⟨t.2.1,p,s,some i⟩
 |[.int p,.str s,_]=>⟨t.2.1,p,s,none⟩
 | _=>⟨0,0,"",none⟩)
theorem uz(z:Addr×Nd):un (tp z)=z:=by
 obtain⟨a,⟨n,p,s,st⟩⟩:=z;cases st<;>rfl
theorem back{zs:ZN}{ts:List gR}(h:ts.Perm (zs.map tp)):(ts.map un).Perm zs∧(ts.map un).map tp=ts:=by
 constructor
 ·have:=h.map un;rw[map_map]at this;have e:zs.map (un∘tp)=zs.map id:=map_congr_left λz _=>uz z;rw[e,List.map_id]at this;exact this
 ·rw[map_map,map_congr_left (g:=id)]
  ·simp
  ·intro t ht;obtain⟨z,_,rfl⟩:=mem_map.mp (h.mem_iff.mp ht);show tp (un (tp z))=tp z;rw[uz]
theorem oR(zs:ZN):((zs.map tp).map (·.1)).map V.ref=aN zs:=by
 unfold aN;simp only[map_map];rfl
theorem vD{n:Nat}{j:Int}(h0:0≤j)(h1:j<n):seqIndex? j n=some j.toNat:=(jY (by unfold ixN;rw[if_pos h0,if_pos h1])).1
def ci(zs:ZN):List (Key×V):=zs.map λz=>((Sum.inl z.2.num:Key),V.ref z.1)
theorem ku{zs:ZN}(hn:((nds zs).map (·.num)).Nodup){z:Addr×Nd}(hz:z∈zs):aS (ci zs) (Sum.inl z.2.num:Key)=some (.ref z.1):=by
 induction zs with
 |nil=>simp at hz
 |cons y zs ih =>
  have hn':y.2.num∉(nds zs).map (·.num)∧((nds zs).map (·.num)).Nodup:=by simpa [nds]using hn
  show aS (((Sum.inl y.2.num:Key),V.ref y.1)::ci zs) _=_;rcases mem_cons.mp hz with e|hz'
  ·subst e;exact aQ rfl
  ·rw[aK]
   ·exact ih hn'.2 hz'
   ·intro e;injection e with e
    exact hn'.1 (mem_map.mpr ⟨z.2,mem_map.mpr ⟨z,hz',rfl⟩,e.symm⟩)
theorem nz{zs:ZN}{k:Int}(h:∀z∈zs,z.2.num≠k):aS (ci zs) (Sum.inl k:Key)=none:=by
 induction zs with
 |nil=>rfl
 |cons y zs ih =>
  show aS (((Sum.inl y.2.num:Key),V.ref y.1)::ci zs) _=_;rw[aK]
  ·exact ih λz hz=>h z (mem_cons_of_mem _ hz)
  ·intro e;injection e with e
   exact h y (by simp) e
def gS(H:Hp)(d:Addr)(zs:ZN):Prop:=∃o,H d=some (.frz o (.dK (ci zs)))
theorem gS.same{H H':Hp}{d:Addr}{zs:ZN}(h:gS H d zs)(s:Same H H'):gS H' d zs:=let⟨o,e⟩:=h;⟨o,s _ _ e⟩
theorem gS.get{H:Hp}{d:Addr}{zs:ZN}(h:gS H d zs)(hn:((nds zs).map (·.num)).Nodup){z:Addr×Nd}(hz:z∈zs):cK H d (.int z.2.num) (some (.ref z.1)):=by
 obtain⟨o,e⟩:=h;exact .inl ⟨ci zs,Sum.inl z.2.num,.inr ⟨o,e⟩,rfl,(ku hn hz).symm⟩
theorem gS.not{H:Hp}{d:Addr}{zs:ZN}(h:gS H d zs){k:Int}(hk:∀z∈zs,z.2.num≠k):cK H d (.int k) none:=by
 obtain⟨o,e⟩:=h;exact .inl ⟨ci zs,Sum.inl k,.inr ⟨o,e⟩,rfl,(nz hk).symm⟩
theorem cB{ns:List Nd}(T:TW.Tree1 ns):(ns.map (·.num)).Nodup:=by
 have h:=T.rise;unfold TW.cL at h;unfold Nodup;rw[pairwise_map];exact h.imp λh e=>by omega
theorem tK{ys:List V}{zs:ZN}{H:Hp}{p:Addr}{g:Addr×Nd→List V}(hlen:ys.length=zs.length)(h:∀(i:Nat) y,ys[i]?=some y→∃q z,zs[i]?=some z∧y=.ref q∧q≠p∧H q=some (.tup (g z))):
  ∃as:List (Addr×(Addr×Nd)),as.map (·.2)=zs∧ys=(as.map (·.1)).map V.ref∧∀a∈as,a.1≠p∧H a.1=some (.tup (g a.2)):=by
 induction ys generalizing zs with
 |nil =>
  have:zs=[]:=length_eq_zero_iff.mp hlen.symm;subst this;exact⟨[],rfl,rfl,by simp⟩
 |cons y ys ih =>
  cases zs with
  |nil=>simp at hlen
  |cons z zs =>
   obtain⟨as,e1,e2,e3⟩:=ih (zs:=zs) (by simpa using hlen) λi x hx=>by simpa using h (i+1) x (by simpa using hx)
   obtain⟨q,z',f1,f2,f3,f4⟩:=h 0 y rfl;have:z=z':=by simpa using f1
   subst this;refine⟨(q,z)::as,by simp[e1],by simp[e2,f2],λa ha=>?_⟩;rcases mem_cons.mp ha with rfl|ha
   ·exact⟨f3,f4⟩
   ·exact e3 a ha
theorem iH{κ:Type}[DecidableEq κ]{kvs:List (κ×V)}(hn:(kvs.map (·.1)).Nodup){k:κ}{v:V}(h:(k,v)∈kvs):aS kvs k=some v:=by
 induction kvs with
 |nil=>simp at h
 |cons y kvs ih =>
  have hn':y.1∉kvs.map (·.1)∧(kvs.map (·.1)).Nodup:=by simpa using hn
  rcases mem_cons.mp h with e|h'
  ·subst e;exact aQ rfl
  ·rw[aK]
   ·exact ih hn'.2 h'
   ·intro e;exact hn'.1 (mem_map.mpr ⟨_,h',e.symm⟩)
theorem kx{κ:Type}[DecidableEq κ]{kvs:List (κ×V)}{k:κ}(h:k∉kvs.map (·.1)):aS kvs k=none:=by
 induction kvs with
 |nil=>rfl
 |cons y kvs ih =>
  have h':¬k=y.1∧k∉kvs.map (·.1):=by simpa using h
  rw[aK (λe=>h'.1 e.symm)];exact ih h'.2
def dm(P:Program)(w:World)(K:PySem.W.Frag)(mg:Str→Option Value)(base:Heap)(k:Nat)(x:Str)(ps:List Str)(sp:Sp):Prop:=∃f fd,FnOk P w K mg base (CX1 P w) k f fd ps sp∧mg x=some (.ref f)∧keepIn K (.ref f)=true∧aG K fd ps []
structure Tre(H:Hp)(t:Addr)(zs:ZN):Prop where
 tup:H t=some (.tup (aN zs))
 nod:At H zs
 tr:TW.Tree1 (nds zs)
 len:zs.length≤30
theorem Tre.same{H H':Hp}{t:Addr}{zs:ZN}(h:Tre H t zs)(s:Same H H'):Tre H' t zs:=⟨s _ _ h.tup,h.nod.same s,h.tr,h.len⟩
theorem pX{ns:List Nd}(T:TW.Tree1 ns){f:Int}{dn:List Int}{fd:List Nd}(wk:TW.Walk ns f dn fd []):(fd.map (·.num)).Nodup:=by
 have h:=cB T;have:(fd.map (·.num)).Perm ((ns.filter (TW.dv dn)).map (·.num)):=wk.perm.map _;exact this.nodup_iff.mpr (h.sublist (filter_sublist.map _))
theorem _root_.L2.Same.rd{H H':Hp}(s:Same H H'){a:Addr}{u:HO}(r:Rd H a u):Rd H' a u:=by
 rcases r with r|⟨o,r⟩
 ·exact .inl (s _ _ r)
 ·exact .inr ⟨o,s _ _ r⟩
def eE(as:List (Addr×(Addr×Nd))):List (Key×V):=as.map λa=>((Sum.inl a.2.2.num:Key),V.ref a.1)
def bd(n:Nd):List V:=[.int n.par,.str n.nm,stV n.st]
structure Book(H:Hp)(d:Addr)(as:List (Addr×(Addr×Nd)))(zs:ZN):Prop where
 dict:Rd H d (.dK (eE as))
 of:as.map (·.2)=zs
 at':∀a∈as,H a.1=some (.tup (bd a.2.2))
theorem Book.same{H H':Hp}{d:Addr}{as:List (Addr×(Addr×Nd))}{zs:ZN}(b:Book H d as zs)(s:Same H H'):Book H' d as zs:=⟨s.rd b.dict,b.of,λa ha=>s _ _ (b.at' a ha)⟩
theorem eQ{as:List (Addr×(Addr×Nd))}{zs:ZN}(h:as.map (·.2)=zs):(eE as).map (·.1)=((nds zs).map (·.num)).map (Sum.inl:Int→Key):=by
 rw[←h];unfold eE nds;simp only[map_map];rfl
theorem rC{as:List (Addr×(Addr×Nd))}{zs:ZN}(h:as.map (·.2)=zs)(hn:((nds zs).map (·.num)).Nodup):((eE as).map (·.1)).Nodup:=by
 rw[eQ h];unfold Nodup at hn⊢;rw[pairwise_map];exact hn.imp λh e=>h (by injection e)
theorem Book.get{H:Hp}{d:Addr}{as:List (Addr×(Addr×Nd))}{zs:ZN}(b:Book H d as zs)(hn:((nds zs).map (·.num)).Nodup){z:Addr×Nd}(hz:z∈zs):∃q,cK H d (.int z.2.num) (some (.ref q))∧H q=some (.tup (bd z.2)):=by
 have:z∈as.map (·.2):=by rw[b.of];exact hz
 obtain⟨a,ha,rfl⟩:=mem_map.mp this;refine⟨a.1,.inl ⟨eE as,Sum.inl a.2.2.num,b.dict,rfl,?_⟩,b.at' a ha⟩;exact(iH (rC b.of hn) (mem_map.mpr ⟨a,ha,rfl⟩)).symm
theorem Book.not{H:Hp}{d:Addr}{as:List (Addr×(Addr×Nd))}{zs:ZN}(b:Book H d as zs){k:Int}(hk:∀z∈zs,z.2.num≠k):cK H d (.int k) none:=by
 refine .inl ⟨eE as,Sum.inl k,b.dict,rfl,(kx λhm=>?_).symm⟩;rw[eQ b.of]at hm;obtain⟨i,hi,e⟩:=mem_map.mp hm;obtain⟨n,hn,rfl⟩:=mem_map.mp hi;obtain⟨z,hz,rfl⟩:=mem_map.mp hn;injection e with e
 exact hk z hz e
abbrev iI(x:Str)(mg:Str→Option Value)(base:Heap)(C:Addr):Prop:=PyProof.Rows.OwnCls x C bmV "ValueError.__new__" mg base
theorem tL(o:Option Int):(!decide (stV o=V.non))=o.isSome:=by cases o<;>simp[stV]
theorem fz(zs:ZN):zs.map (λz=>V.ref z.1)=aN zs:=by simp[aN]
def xX:TW.Wd→Str
 |.known=>"Known"
 |.noNode=>"NoNode"
 |.notFile=>"NotFile"
 |.notFolder=>"NotFolder"
 |.inside=>"Inside"
 |.taken=>"Taken"
abbrev tM(mg:Str→Option Value)(base:Heap)(cls:TW.Wd→Addr):Prop:=∀w,iI (xX w) mg base (cls w)
structure Outs(H:Hp)(t:List Nd)(d:TW.Deed Str)(cls:TW.Wd→Addr)(Q:VK)(E:XK):Prop where
 ok:∀us t' H',Same H H'→H' t'=some (.tup (aN us))→At H' us→TW.Told t d (.inr (nds us))→Q (.ref t') H'
 no:∀w H',Same H H'→TW.Told t d (.inl w)→E (.ref (cls w)) none H'
theorem lK{K:PySem.W.Frag}{H:Hp}{l:Addr}{zs:ZN}{Q:VK}(hl:SqL K H l (aN zs)∨SqT K H l (aN zs))(hA:At H zs)(hn:((nds zs).map (·.num)).Nodup)(h64:zs.length<64)(q:∀us t' H',Same H H'→H' t'=some (.tup (aN us))→At H' us→us.Perm zs→TW.cL (nds us)→Q (.ref t') H'):
  ∃l',∃ts:List gR,[V.ref l]=[V.ref l']∧(SqL K H l' ((ts.map (·.1)).map V.ref)∨SqT K H l' ((ts.map (·.1)).map V.ref))∧(∀z∈ts,H z.1=some (.tup (.int z.2.1::z.2.2)))∧(ts.map (·.2.1)).Nodup∧ts.length<64 ∧
   ∀ts':List gR,ts'.Perm ts→ts'.Pairwise (λa b=>a.2.1<b.2.1)→∀p,H p=none→∃p' ys,[V.ref p]=[V.ref p']∧((SqL K (upd H p (.lst ((ts'.map (·.1)).map V.ref))) p' ys∧∀l,upd H p (.lst ((ts'.map (·.1)).map V.ref)) l=none→Q (.ref l) (upd (upd H p (.lst ((ts'.map (·.1)).map V.ref))) l (.tup ys))) ∨
    (SqT K (upd H p (.lst ((ts'.map (·.1)).map V.ref))) p' ys∧Q (.ref p') (upd H p (.lst ((ts'.map (·.1)).map V.ref))))):=by
 have hnum:(zs.map tp).map (·.2.1)=(nds zs).map (·.num):=by
  unfold nds;simp only[map_map];rfl
 refine⟨l,zs.map tp,rfl,by rw[oR];exact hl,λz hz=>?_,by rw[hnum];exact hn,by rw[length_map];exact h64,λts pm up p hp=>?_⟩
 ·obtain⟨y,hy,rfl⟩:=mem_map.mp hz;exact hA y hy
 ·obtain⟨pm2,eb⟩:=back pm;have er:(ts.map (·.1)).map V.ref=aN (ts.map un):=by rw[←oR,eb]
  rw[er];refine⟨p,_,rfl,.inl ⟨SqL.of ac,λl hl=>?_⟩⟩;refine q (ts.map un) l _ ((ag hp).trans (ag hl)) ac ?_ pm2 ?_
  ·intro z hz;exact((ag hp).trans (ag hl)) _ _ (hA z (pm2.mem_iff.mp hz))
  ·unfold nds TW.cL;rw[pairwise_map];have up2:((ts.map un).map tp).Pairwise (λa b=>a.2.1<b.2.1):=by rw[eb];exact up
   rw[pairwise_map]at up2;exact up2
def jF:TW.Deed Str→List V
 |.make n p nm st=>[.str "make",.int n,.int p,.str nm,stV st]
 |.write n st=>[.str "write",.int n,.int st]
 |.move n p nm=>[.str "move",.int n,.int p,.str nm]
 |.drop n=>[.str "drop",.int n]
def cR:TW.Deed Str→Prop
 |.make n p nm _=>1≤n∧n≤60∧0≤p∧p≤60∧nm.length≤100
 |.write n _=>1≤n∧n≤60
 |.move n p nm=>1≤n∧n≤60∧0≤p∧p≤60∧nm.length≤100
 |.drop n=>1≤n∧n≤60
theorem cR.pos{d:TW.Deed Str}(h:cR d):d.pos:=by
 cases d<;>first|exact h.1|trivial
theorem bX{zs:ZN}{z:Addr×Nd}(h:z∈zs):z.2∈nds zs:=mem_map.mpr ⟨z,h,rfl⟩
theorem ky{zs:ZN}{n:Nd}(h:n∈nds zs):∃z∈zs,z.2=n:=mem_map.mp h
theorem dY{zs:ZN}{k:Int}(h:¬∃z∈zs,z.2.num=k):¬TW.cQ (nds zs) k:=λ⟨m,hm,e⟩=>by
 obtain⟨z,hz,rfl⟩:=ky hm;exact h ⟨z,hz,e⟩
theorem lL{zs:ZN}{k:Int}{z:Addr×Nd}(hz:z∈zs)(e:z.2.num=k):TW.cQ (nds zs) k:=⟨z.2,bX hz,e⟩
def oS(bs:List (Addr×Nd)):List (Key×V):=bs.map λb=>((Sum.inl b.2.num:Key),V.ref b.1)
theorem pY{bs:List (Addr×Nd)}(hn:(bs.map (·.2.num)).Nodup){b:Addr×Nd}(hb:b∈bs):aS (oS bs) (Sum.inl b.2.num:Key)=some (.ref b.1):=by
 refine iH ?_ (mem_map.mpr ⟨b,hb,rfl⟩);unfold oS;rw[map_map];unfold Nodup at hn⊢;rw[pairwise_map]at hn⊢;exact hn.imp λh e=>h (by injection e)
def top(i:Nat):Stmt:=PySem.Challenge.pw_treewatch_k93_whole_edges_by_hand.main.body.getD i (.Pass ⟨0,0,0,0⟩)
abbrev dH:Stmt:=dU (top 44) 0
abbrev dI:Stmt:=dU (top 44) 1
abbrev eR:Stmt:=dU (top 44) 2
abbrev dq:Stmt:=dU (top 44) 4
abbrev cS:Stmt:=dU (top 44) 5
abbrev dJ:Stmt:=dU (top 44) 6
abbrev vE:Stmt:=top 14
abbrev rD:Stmt:=top 15
abbrev vF:Stmt:=top 16
abbrev vG:Stmt:=top 17
abbrev vH:Stmt:=top 18
abbrev vI:Stmt:=top 20
abbrev oT:Stmt:=top 21
abbrev rE:Stmt:=top 22
abbrev nA:Stmt:=top 23
abbrev rF:Stmt:=top 24
abbrev oU:Stmt:=top 25
abbrev rG:Stmt:=top 26
abbrev cT:Stmt:=top 28
abbrev bY:Stmt:=top 29
abbrev dL:Stmt:=top 30
abbrev eS:Stmt:=top 31
abbrev dM:Stmt:=top 35
abbrev fG:Stmt:=top 36
abbrev eT:Stmt:=top 37
abbrev bZ:Stmt:=top 39
abbrev cj:Stmt:=top 40
abbrev aJ:Stmt:=top 41
abbrev de:Stmt:=top 42
abbrev rH:Stmt:=top 46
abbrev rJ:Stmt:=top 47
abbrev dy:Stmt:=top 48
structure Txt(mg:Str→Option Value):Prop where
 isin:mg "isinstance"=none
 dict:mg "dict"=none
 len:mg "len"=none
 tuple:mg "tuple"=none
 list:mg "list"=none
 range:mg "range"=none
 sorted:mg "sorted"=none
 reversed:mg "reversed"=none
 ValueError:mg "ValueError"=none
 str:mg "str"=none
 set:mg "set"=none
 max:mg "max"=none
 min:mg "min"=none
 sum:mg "sum"=none
 zip:mg "zip"=none
 enumerate:mg "enumerate"=none
 all:mg "all"=none
 int:mg "int"=none
 bool:mg "bool"=none
 top:∃t,mg "TOP"=some (.int 0 t)
 letters:∃t,mg "LETTERS"=some (.str "abcdefghijklmnopqrstuvwxyz" t)
section
variable{P:Program}{w:World}{K:PySem.W.Frag}{mg:Str→Option Value}{base:Heap}
def oV:Sp:=λvs H Q _=>∃t f zs,vs=[.ref t,.int f]∧H t=some (.tup (aN zs))∧At H zs∧zs.length≤100∧∀fd dn l H',TW.Walk (nds zs) f dn fd []→H' l=some (.lst (dc fd))→Same H H'→Q (.ref l) H'
theorem iJ:FnScope ["nodes","folder","members","node","found","pending","here"] ["nodes","folder"] (ah vE):=fsc
theorem vJ{f:Addr}{fd:FuncData}(F:Fun K "numbers_inside" "numbers_inside" vE f fd)(T:Txt mg):FnOk P w K mg base CX0 1 f fd ["nodes","folder"] oV:=by
 refine F.ok iJ (λvs H Q E h=>?_) (λcdv A outer s H vs Q E hr h=>?_)
 ·obtain⟨t,f,zs,rfl,_⟩:=h;rfl
 ·obtain⟨t,f,zs,rfl,ht,hA,hl,k⟩:=h;refine⟨_,af (ao (i:=2) iJ.nd rfl (Or.inl rfl) ln)
   (af (ce PassesOwn.never rfl (cF (pv 0)) (aE (i:=3) iJ.nd rfl (Or.inl rfl)) (aj (aT (eZ plainAttrs_list PySem.F.slot_list_append PySem.F.type_list_append br
     (eZ plainAttrs_dict PySem.F.slot_dict_setdefault PySem.F.type_dict_setdefault jf (pv 2) (aa (aC aw (pv 3) ak (λ_ _=>rfl)) (aa (cw ae) ae))) (aa (pv 3) ae)))))
   (af (ao (i:=4) iJ.nd rfl (Or.inl rfl) (cw ae))
   (af (ao (i:=5) iJ.nd rfl (Or.inl rfl) (cw (aa (pv 1) ae)))
   (af (lf PassesOwn.never (qm (pv 5) (λ_=>rfl))
    (af (ao (i:=6) iJ.nd rfl (Or.inl rfl) (qF (pv 2) (uX plainAttrs_list slot_list_pop type_list_pop uY (pv 5)) (cw ae) ⟨rfl,rfl,rfl,rfl⟩))
    (aj (ce PassesOwn.never rfl (cm (pv 6)) (aE (i:=3) iJ.nd rfl (Or.inl rfl))
     (af (aT (eZ plainAttrs_list PySem.F.slot_list_append PySem.F.type_list_append br (pv 4) (aa (aC aw (pv 3) ak (λ_ _=>rfl)) ae)))
     (aj (aZ (am mO (aC aw (pv 3) ak (λ_ _=>rfl)) cb (ay _)) (aj (aT (eZ plainAttrs_list PySem.F.slot_list_append PySem.F.type_list_append br (pv 5) (aa (aC aw (pv 3) ak (λ_ _=>rfl)) ae)))) aD)))))))
   (aj (av (pv 4))))))),?_⟩
  refine λd hd=>?_;have z100:∀{n:Nat},n≤100→n<sizeLine:=λh=>ar (by omega);refine⟨_,rfl,t,rfl,⟨_,SqT.of (bQ hd ht)⟩,eW (xs:=aN zs) (λi σ H'=>∃L kvs on,σ=[some (.ref t),some (.int f),some (.ref d),on,none,none,none]∧Mem H H' d L kvs (zs.take i) [])
   ⟨_,_,_,rfl,Mem.start hd⟩ (λi σ H' _ h=>?_) (λi x σ H' hx h=>?_) (λσ H' h=>?_)⟩
  ·obtain⟨_,_,_,_,m⟩:=h;exact SqT.of (m.same _ _ ht)
  ·obtain⟨L,kvs,on,rfl,m⟩:=h;obtain⟨z,gz,rfl⟩:=cr hx;have mz:=mem_of_getElem? gz;have ez:zs.take (i+1)=zs.take i++[z]:=by rw[take_succ,gz];rfl
   have hkl:kvs.length≤100:=by have:=m.len;rw[length_take]at this;omega
   refine⟨_,rfl,.inr (.inr (.inl ⟨rfl,.inl ⟨_,m.dict⟩⟩)),_,rfl,z.1,_,_,_,rfl,rfl,SqT.of (m.same _ _ (hA z mz)),at1 z.2,zero_le _,λq hq=>?_⟩;have m':=m.grow (ag (o:=.lst []) hq);refine⟨d,kvs,.inl z.2.par,.ref q,rfl,rfl,m'.dict,z100 hkl,λv hv=>?_,λhn=>?_⟩
   ·rw[m.val]at hv
    by_cases h:z.2.par∈([]:List Int)∨ins (zs.take i) z.2.par=[]
    ·rw[if_pos h]at hv;cases hv
    ·rw[if_neg h]at hv;cases hv;have h2:ins (zs.take i) z.2.par≠[]:=λz=>h (.inr z);have a:=(m'.at' z.2.par (by simp) h2).1;refine⟨.inl ⟨rfl,_,SqL.of a⟩,_,rfl,_,_,_,rfl,rfl,a,?_,?_⟩
     ·refine z100 ?_;rw[bT];exact le_trans (Sublist.length_le (Sublist.trans filter_sublist (take_sublist _ _))) hl
     ·refine⟨L,kvs,_,rfl,?_⟩;rw[ez];exact m'.hit h2
   ·rw[m.val]at hn
    by_cases h:z.2.par∈([]:List Int)∨ins (zs.take i) z.2.par=[]
    ·have h2:ins (zs.take i) z.2.par=[]:=h.resolve_left (by simp);have hqd:q≠d:=λe=>by rw[e,m.dict]at hq;cases hq
     have a:upd (upd H' q (.lst [])) d (.dK (cH kvs (Sum.inl z.2.par:Key) (.ref q))) q=some (.lst []):=by rw[ai hqd];exact ac
     refine⟨.inl ⟨rfl,_,SqL.of a⟩,_,rfl,q,[],_,rfl,rfl,a,z100 (zero_le _),?_⟩;have fr:=m.fresh (z:=z) h2 hq;rw[←ez]at fr;exact⟨_,_,_,rfl,fr⟩
    ·rw[if_neg h]at hn;cases hn
  ·obtain⟨L,kvs,on,rfl,m⟩:=h;rw[bT,take_length]at m;refine⟨zero_le _,λpf hpf=>⟨_,rfl,au (by simp),λpp hpp=>?_⟩⟩;have m1:=(m.grow (ag (o:=.lst []) hpf)).grow (ag (o:=.lst [.int f]) hpp);have hpf0:H pf=none:=m.same.free hpf;have hne:pp≠pf:=λe=>by rw[e,ac]at hpp;cases hpp
   have hpp0:H pp=none:=by rw[ai hne]at hpp;exact m.same.free hpp
   dsimp only[ca,qg];refine lg (λσ H'=>∃L kvs dn fd pd on oh,σ=[some (.ref t),some (.int f),some (.ref d),on,some (.ref pf),some (.ref pp),oh]∧pd.length≤fd.length+1∧Mem H H' d L kvs zs dn∧TW.Walk (nds zs) f dn fd pd∧H' pf=some (.lst (dc fd))∧H' pp=some (.lst (pd.map V.int)))
    (λσ H'=>2*(zs.length-jE H' pf)+jE H' pp) ⟨L,kvs,[],[],[f],_,_,rfl,le_refl _,m1,TW.Walk.start _ _,by rw[ai (Ne.symm hne),ac];rfl,ac⟩ (λσ H' h=>?_) ?_
   ·obtain⟨L,kvs,dn,fd,pd,on,oh,rfl,hpl,m,wk,ef,ep⟩:=h;refine⟨_,rfl,_,.inl ⟨_,SqL.of ep,rfl⟩,?_⟩
    by_cases hpd:pd=[]
    ·subst hpd;exact aP ⟨_,rfl,k fd dn pf H' wk ef m.same⟩
    ·obtain⟨pd',x,rfl⟩:∃pd' x,pd=pd'++[x]:=⟨pd.dropLast,pd.getLast hpd,(List.dropLast_concat_getLast hpd).symm⟩;have et:(!((pd'++[x]).map V.int).isEmpty)=true:=by simp
     rw[if_pos et];have elast:((pd'++[x]).map V.int)[((pd'++[x]).map V.int).length-1]?=some (.int x):=by simp
     have edrop:((pd'++[x]).map V.int).dropLast=pd'.map V.int:=by simp
     refine⟨_,rfl,d,rfl,.inl ⟨_,Rd.of m.dict⟩,_,rfl,.inl ⟨rfl,_,SqL.of ep⟩,pp,_,.int x,rfl,rfl,ep,elast,zero_le _,λq hq=>?_⟩;rw[edrop]at hq⊢;have m2:=(m.other (o:=.lst (pd'.map V.int)) ep hpp0).grow (ag (o:=.lst []) hq);have hqp:q≠pp:=λe=>by rw[e,ac]at hq;cases hq
     have hqf:q≠pf:=λe=>by rw[e,ai (Ne.symm hne),ef]at hq;cases hq
     refine rB m2 ac λhl Hc kvs' hs m3 ehl eh hsub hkeep hnil=>?_;have df:pf≠d:=λe=>by have:=m.dict;rw[←e,ef]at this;cases this
     have dp:pp≠d:=λe=>by have:=m.dict;rw[←e,ep]at this;cases this
     have ef3:Hc pf=some (.lst (dc fd)):=by rw[hkeep pf df,ai (Ne.symm hqf),ai (Ne.symm hne)];exact ef
     have ep3:Hc pp=some (.lst (pd'.map V.int)):=by rw[hkeep pp dp,ai (Ne.symm hqp),ac]
     have hlf:hl≠pf:=by
      by_cases h:hs=[]
      ·rw[hnil h];exact hqf
      ·exact oQ ef3 ehl h
     have hlp:hl≠pp:=by
      by_cases h:hs=[]
      ·rw[hnil h];exact hqp
      ·exact oQ ep3 ehl h
     have wk':=wk.turn;rw[←eh]at wk';have hlen:=wk'.len;rw[length_append,aY,aY]at hlen;rw[length_append,length_singleton]at hpl;refine⟨_,rfl,hl,rfl,⟨_,SqL.of ehl⟩,cW (xs:=aN hs) (λj σ H'=>∃on,σ=[some (.ref t),some (.int f),some (.ref d),on,some (.ref pf),some (.ref pp),some (.ref hl)]∧Mem H H' d L kvs' zs (x::dn)∧H' hl=some (.lst (aN hs)) ∧
      H' pf=some (.lst (dc (fd++nds (hs.take j))))∧H' pp=some (.lst ((pd'++TW.aX (nds (hs.take j))).map V.int))) ⟨_,rfl,m3,ehl,by rw[ef3];simp[nds],by rw[ep3];simp[nds,TW.aX]⟩
      (λj σ H' _ h=>?_) (λj y σ H' hy h=>?_) (λσ H' h=>?_)⟩
     ·obtain⟨_,_,_,e,_⟩:=h;exact SqL.of e
     ·obtain⟨on,rfl,m4,e1,e2,e3⟩:=h;obtain⟨z,gz,rfl⟩:=cr hy;have mz:=hsub z (mem_of_getElem? gz);have ez:hs.take (j+1)=hs.take j++[z]:=by rw[take_succ,gz];rfl
      have l1:(dc (fd++nds (hs.take j))).length≤100:=by
       unfold dc;rw[length_map,length_map,length_append,aY,length_take];omega
      have l2:((pd'++TW.aX (nds (hs.take j))).map V.int).length≤1000:=by
       have:=TW.dE (nds (hs.take j));rw[aY,length_take]at this;rw[length_map,length_append];omega
      have g0:∀{Hx:Hp},Same H Hx→Hx z.1=some (.tup (vals z.2)):=λs=>s _ _ (hA z mz);have e4:dc (fd++nds (hs.take (j+1)))=dc (fd++nds (hs.take j))++[.int z.2.num]:=by rw[ez];simp[dc,nds]
      have m5:Mem H (upd H' pf (.lst (dc (fd++nds (hs.take j))++[.int z.2.num]))) d L kvs' zs (x::dn):=m4.other e2 hpf0;have e5:(upd H' pf (.lst (dc (fd++nds (hs.take j))++[.int z.2.num]))) hl=some (.lst (aN hs)):=by rw[ai hlf];exact e1
      have e6:(upd H' pf (.lst (dc (fd++nds (hs.take j))++[.int z.2.num]))) pp=some (.lst ((pd'++TW.aX (nds (hs.take j))).map V.int)):=by rw[ai hne];exact e3
      refine⟨_,rfl,.inl ⟨rfl,_,SqL.of e2⟩,_,rfl,z.1,_,_,_,rfl,rfl,SqT.of (g0 m4.same),at0 z.2,pf,_,_,rfl,rfl,e2,z100 l1,?_⟩;refine⟨_,rfl,z.1,_,_,_,rfl,rfl,SqT.of (g0 m5.same),at3 z.2,rfl,_,rfl,?_⟩;cases est:z.2.st with
      |none =>
       have e7:TW.aX (nds (hs.take (j+1)))=TW.aX (nds (hs.take j))++[z.2.num]:=by rw[ez];simp[TW.aX,nds,est]
       refine bh ⟨_,rfl,.inl ⟨rfl,_,SqL.of e6⟩,_,rfl,z.1,_,_,_,rfl,rfl,SqT.of (g0 m5.same),at0 z.2,pp,_,_,rfl,rfl,e6,ar l2,?_⟩;refine⟨_,rfl,m5.other e6 hpp0,by rw[ai hlp];exact e5,by rw[ai (Ne.symm hne),ac,e4],?_⟩;rw[ac,e7];simp
      |some i =>
       have e7:TW.aX (nds (hs.take (j+1)))=TW.aX (nds (hs.take j)):=by rw[ez];simp[TW.aX,nds,est]
       refine aP ⟨_,rfl,m5,e5,by rw[ac,e4],?_⟩;rw[e6,e7]
     ·obtain⟨on,rfl,m4,e1,e2,e3⟩:=h;rw[bT,take_length]at e2 e3;refine⟨⟨L,kvs',x::dn,_,_,on,_,rfl,?_,m4,wk',e2,e3⟩,?_⟩
      ·have:=TW.dE (nds hs);rw[aY]at this;rw[length_append,length_append,aY];omega
      show 2*(zs.length-jE H' pf)+jE H' pp<_;rw[fw e2,fw e3,fw ef,fw ep];have:=TW.dE (nds hs);rw[aY]at this;simp only[dc,length_map,length_append,aY,length_singleton];omega
   ·rintro σ H Q Q' mo ⟨v,e,k,tv,q⟩;exact⟨v,e,k,tv,mo _ _ q⟩
def dw:Sp:=λvs H Q _=>∃t zs,vs=[.ref t]∧H t=some (.tup (aN zs))∧At H zs∧zs.length≤100∧((nds zs).map (·.num)).Nodup∧∀d H',Same H H'→gS H' d zs→Q (.ref d) H'
theorem xi:FnScope ["tree"] ["tree"] (ah rD):=fsc
theorem vK{f:Addr}{fd:FuncData}(F:Fun K "by_number" "by_number" rD f fd)(T:Txt mg):FnOk P w K mg base CX0 1 f fd ["tree"] dw:=by
 refine F.ok xi (λvs H Q E h=>?_) (λcdv A outer s H vs Q E hr h=>?_)
 ·obtain⟨t,zs,rfl,_⟩:=h;rfl
 ·obtain⟨t,zs,rfl,ht,hA,hl,hnd,k⟩:=h;refine⟨_,aj (av (aO (ny rfl) rfl T.dict boot_dict (aa (io (N:=["node"]) (k:=1) (js:=[]) (g:=ca 0) rfl (gw rfl (by decide +kernel) (by decide +kernel) (by decide +kernel)) rfl (λi j x h=>by simp at h)
   (cF (pv 0)) (λs H fp=>aE (i:=0) (show(["node"]:List Str).Nodup by decide +kernel) rfl (Or.inl rfl) (Or.inr rfl))
   (λs H fp=>aA (aa (aC (r:=ik K) aw (pv 0) ak (λ_ _=>rfl)) (aa (pv 0) ae)))) ae))),?_⟩
  refine⟨_,rfl,t,rfl,⟨_,SqT.of ht⟩,λp hp=>?_⟩;refine rg (fr:=[]) zs.length (by omega) hp rfl (λi y H'=>∃q z,zs[i]?=some z∧y=.ref q∧q≠p∧H' q=some (.tup [.int z.2.num,.ref z.1])) (λi y H1 H2 h ex=>?_) (λi H' hi s1=>?_) (λH' s1=>?_) ?_ (λi H' x H2 hi s1 hpl hy=>?_) (λys H' s1 hp' hlen hys=>?_)
  ·obtain⟨q,z,e1,e2,e3,e4⟩:=h;exact⟨q,z,e1,e2,e3,ex q _ e3 e4⟩
  ·exact⟨_,_,SqT.of (s1 _ _ ht),lI (getElem?_eq_getElem hi)⟩
  ·exact⟨_,SqT.of (s1 _ _ ht),by rw[bT];exact le_refl _⟩
  ·rintro _ _ _ _ m ⟨v1,b1,p1,xs,i1,v2,c1,c2,c3,c4,v3,b3,hz,q⟩;exact⟨v1,b1,p1,xs,i1,v2,c1,c2,c3,c4,v3,b3,hz,λl hl=>m _ _ (q l hl)⟩
  ·obtain⟨rfl,hx⟩:=hy;obtain⟨z,gz,rfl⟩:=cr (hx _ (SqT.of (s1 _ _ ht)));have mz:=mem_of_getElem? gz;refine⟨rfl,_,rfl,z.1,_,_,_,rfl,rfl,SqT.of (s1 _ _ (hA z mz)),at0 z.2,_,rfl,le2,λq hq=>⟨ag hq,q,z,gz,rfl,gB hpl hq,ac⟩⟩
  ·obtain⟨as,e1,e2,e3⟩:=tK (g:=λz=>[.int z.2.num,.ref z.1]) hlen hys;have e4:as.length=zs.length:=by rw[←e1,length_map]
   have e5:(as.map λa=>((Sum.inl a.2.2.num:Key),V.ref a.2.1))=ci zs:=by rw[←e1];unfold ci;rw[map_map];rfl
   refine⟨p,as.map λa=>(a.1,(Sum.inl a.2.2.num:Key),V.ref a.2.1),rfl,?_,?_,?_,?_,λd o hd=>?_⟩
   ·rw[hp',e2,map_map,map_map,map_map];rfl
   ·intro z hz;obtain⟨a,ha,rfl⟩:=mem_map.mp hz;exact(e3 a ha).2
   ·rw[length_map];omega
   ·rw[map_map];have:(as.map ((λx:Addr×Key×V=>x.2.1)∘λa=>(a.1,(Sum.inl a.2.2.num:Key),V.ref a.2.1)))=((nds zs).map (·.num)).map (Sum.inl:Int→Key):=by
     rw[←e1];unfold nds;simp only[map_map];rfl
    rw[this];unfold Nodup at hnd⊢;rw[pairwise_map];exact hnd.imp λh e=>h (by injection e)
   ·refine k d _ (s1.trans (ag hd)) ⟨o,?_⟩;rw[ac,map_map];exact congrArg (λx=>some (HO.frz o (.dK x))) e5
abbrev rK(mg:Str→Option Value)(base:Heap)(C:Addr):Prop:=PyProof.Rows.OwnCls "NoNode" C bmV "ValueError.__new__" mg base
def iK(C:Addr):Sp:=λvs H Q E=>∃d k zs,vs=[.ref d,.int k]∧gS H d zs∧((nds zs).map (·.num)).Nodup∧0≤k∧k≤60∧(∀z∈zs,z.2.num=k→Q (.ref z.1) H)∧((∀z∈zs,z.2.num≠k)→E (.ref C) none H)
theorem xj:FnScope ["nodes","number"] ["nodes","number"] (ah vF):=fsc
theorem vL{f C:Addr}{fd:FuncData}(F:Fun K "node_of" "node_of" vF f fd)(O:rK mg base C):FnOk P w K mg base (CX1 P w) 1 f fd ["nodes","number"] (iK C):=by
 refine F.okX xj (λvs H Q E h=>?_) (λcdv A outer s H vs Q E hr h=>?_)
 ·obtain⟨d,k,zs,rfl,_⟩:=h;rfl
 ·obtain⟨d,k,zs,rfl,hd,hnd,h0,h1,q1,q2⟩:=h;refine⟨_,af (aZ (di (gp (bO hr) (pv 1) (pv 0))) (aj (cq bc O hr.hd rfl (uy (pv 1) (by decide +kernel)))) aD) (aj (av (sU (bO hr) (pv 0) (pv 1) (λ_ _=>rfl)))),?_⟩
  by_cases hk:∀z∈zs,z.2.num≠k
  ·refine⟨_,rfl,_,rfl,d,_,rfl,hd.not hk,_,rfl,?_⟩;exact bh ⟨_,rfl,k,rfl,h0,h1,λy=>⟨au (show 1≤1000 by decide),q2 hk⟩⟩
  ·obtain⟨z,hz,e⟩:∃z∈zs,z.2.num=k:=by
    by_cases h:∃z∈zs,z.2.num=k
    ·exact h
    ·exact absurd (λz hz e=>h ⟨z,hz,e⟩) hk
   subst e;refine⟨_,rfl,_,rfl,d,_,rfl,hd.get hnd hz,_,rfl,?_⟩;exact aP ⟨_,rfl,_,rfl,d,_,rfl,hd.get hnd hz,q1 z hz rfl⟩
def oW(C:Addr):Sp:=λvs H Q E=>∃t k zs,vs=[.ref t,.int k]∧Tre H t zs∧0≤k∧k≤60 ∧
 ((k=0∨∃z∈zs,z.2.num=k)→∀(ms:List Int)(l:Addr)(H':Hp),Same H H'→ms.Pairwise (λa b:Int=>a<b)→ms.length≤zs.length→(∀x,x∈ms↔∃n∈nds zs,n.num=x∧TW.Reach (nds zs) k n)→H' l=some (.lst (ms.map V.int))→Q (.ref l) H') ∧
 (k≠0→(∀z∈zs,z.2.num≠k)→∀H',Same H H'→E (.ref C) none H')
theorem xk:FnScope ["tree","number"] ["tree","number"] (ah vH):=fsc
theorem vM{f C:Addr}{fd:FuncData}(F:Fun K "below" "below" vH f fd)(T:Txt mg)(CB:Has P w K mg base 1 "by_number" ["tree"] dw)(CN:dm P w K mg base 1 "node_of" ["nodes","number"] (iK C))(CI:Has P w K mg base 1 "numbers_inside" ["nodes","folder"] oV):
  FnOk P w K mg base (CX1 P w) 2 f fd ["tree","number"] (oW C):=by
 obtain⟨fB,fdB,GB,mB,kB,bB⟩:=CB;obtain⟨fN,fdN,GN,mN,kN,bN⟩:=CN;obtain⟨fI,fdI,GI,mI,kI,bI⟩:=CI;obtain⟨tt,hT⟩:=T.top;refine F.okX xk (λvs H Q E h=>?_) (λcdv A outer s H vs Q E hr h=>?_)
 ·obtain⟨t,k,zs,rfl,_⟩:=h;rfl
 ·obtain⟨t,k,zs,rfl,tr,h0,h1,q1,q2⟩:=h;have hnd:=cB tr.tr;have hl:=tr.len;refine⟨_,af (aZ (am ol (pv 1) (jP (v:=.int 0) rfl hT ⟨_,rfl⟩) (ay _))
    (aj (aT (al (E:=E) GN hr rfl mN kN bN .nil (cp bc) (aa (al GB hr rfl mB kB bB .nil aI (aa (pv 0) ae)) (aa (pv 1) ae))))) aD)
   (aj (av (bp gy rfl T.sorted boot_sorted (aa (al GI hr rfl mI kI bI .nil aI (aa (pv 0) (aa (pv 1) ae))) ae)))),?_⟩
  have main:∀H1,Same H H1→(k=0∨∃z∈zs,z.2.num=k)→uN (tCB (λxs H Q=>∃l,∃ns:List Int,xs=[.ref l]∧H l=some (.lst (ns.map V.int))∧ns.Nodup∧ns.length<64∧∀ms:List Int,ms.Perm ns→ms.Pairwise (λa b=>a<b)→∀p,H p=none→Q (.ref p) (upd H p (.lst (ms.map V.int))))
    (bA (ou oV [] E0 (bA (eA 0) (bA (eA 1) eI))) eI)) {nx:=λ_ H'=>Q .non H',rt:=Q} [some (.ref t),some (.int k)] H1:=by
   intro H1 s1 hk;refine⟨_,rfl,_,rfl,t,k,zs,rfl,s1 _ _ tr.tup,tr.nod.same s1,by omega,λfd dn l H2 wk el s2=>?_⟩;have hfl:=wk.len;rw[aY]at hfl;refine⟨l,fd.map (λn:Nd=>n.num),rfl,(show H2 l=some (.lst ((fd.map λn:Nd=>n.num).map V.int))from el),pX tr.tr wk,by rw[length_map];omega,λms hp hs p hpn=>?_⟩;refine q1 hk ms p _ ((s1.trans s2).trans (ag hpn)) hs (by rw[hp.length_eq,length_map];exact hfl) (λx=>?_) ac;rw[hp.mem_iff,mem_map];constructor
   ·rintro⟨n,hn,e⟩;have:=(wk.mem n).mp hn;exact⟨n,this.mem,e,this⟩
   ·rintro⟨n,_,e,hr⟩;exact⟨n,(wk.mem n).mpr hr,e⟩
  refine⟨_,rfl,rfl,_,rfl,?_⟩
  by_cases hk0:k=0
  ·have:decide (V.int k=V.int 0)=true:=by simp[hk0]
   rw[this];exact aP (main H (Same.refl _) (.inl hk0))
  ·have:decide (V.int k=V.int 0)=false:=by simp[hk0]
   rw[this];refine bh ?_;refine⟨_,rfl,t,zs,rfl,tr.tup,tr.nod,by omega,hnd,λd H1 s1 nd1=>?_⟩;refine⟨_,rfl,d,k,zs,rfl,nd1,hnd,h0,h1,λz hz e=>main H1 s1 (.inr ⟨z,hz,e⟩),λhk=>q2 hk0 hk H1 s1⟩
def oX(CN CF:Addr):Sp:=λvs H Q E=>∃d p zs,vs=[.ref d,.int p]∧gS H d zs∧At H zs∧((nds zs).map (·.num)).Nodup∧0≤p∧p≤60 ∧
 (TW.iF (nds zs) p→Q .non H)∧(p≠0→(∀z∈zs,z.2.num≠p)→E (.ref CN) none H)∧(∀z∈zs,z.2.num=p→p≠0→z.2.st≠none→E (.ref CF) none H)
theorem xl:FnScope ["nodes","number"] ["nodes","number"] (ah vG):=fsc
theorem vN{f CN CF:Addr}{fd:FuncData}(F:Fun K "check_folder" "check_folder" vG f fd)(T:Txt mg)(O:iI "NotFolder" mg base CF)(CNo:dm P w K mg base 1 "node_of" ["nodes","number"] (iK CN)):
  FnOk P w K mg base (CX1 P w) 2 f fd ["nodes","number"] (oX CN CF):=by
 obtain⟨fN,fdN,GN,mN,kN,bN⟩:=CNo;obtain⟨tt,hT⟩:=T.top;refine F.okX xl (λvs H Q E h=>?_) (λcdv A outer s H vs Q E hr h=>?_)
 ·obtain⟨d,p,zs,rfl,_⟩:=h;rfl
 ·obtain⟨d,p,zs,rfl,hd,hA,hnd,h0,h1,q1,q2,q3⟩:=h;refine⟨_,aj (aZ (PW.pt (pw_and (am ol (pv 1) (jP (v:=.int 0) rfl hT ⟨_,rfl⟩) (ay _)) (pw_and1 (am jT (aC aw (al (E:=E) GN hr rfl mN kN bN .nil (cp bc) (aa (pv 0) (aa (pv 1) ae))) ak (λ_ _=>rfl)) cb (ay _)))))
   (aj (cq bc O hr.hd rfl (gX (dl (c:=100) (by decide +kernel) (iC (pv 1) (dl (c:=100) (by decide +kernel) kq))) (by decide)))) aD),?_⟩
  refine⟨_,rfl,rfl,_,rfl,?_⟩
  by_cases hp0:p=0
  ·have:decide (V.int p=V.int 0)=true:=by simp[hp0]
   rw[this];exact aP (aP (q1 (.inl hp0)))
  ·have:decide (V.int p=V.int 0)=false:=by simp[hp0]
   rw[this];refine bh ⟨_,rfl,_,rfl,d,p,zs,rfl,hd,hnd,h0,h1,λz hz e=>?_,λhk=>q2 hp0 hk⟩;refine⟨z.1,_,_,_,rfl,rfl,SqT.of (hA z hz),at3 z.2,rfl,_,rfl,?_⟩;rw[tL];cases hs:z.2.st with
   |none=>exact aP (q1 (.inr ⟨z.2,bX hz,hs,e⟩))
   |some i=>exact bh ⟨_,rfl,p,rfl,h0,h1,λy=>⟨au (show 1≤1000 by decide),q3 z hz e hp0 (by rw[hs];simp)⟩⟩
def lM(CT:Addr):Sp:=λvs H Q E=>∃t k p nm zs,vs=[.ref t,.int k,.int p,.str nm]∧H t=some (.tup (aN zs))∧At H zs∧0≤p∧p≤60∧nm.length≤100 ∧
 ((∀z∈zs,z.2.num≠k→¬(z.2.par=p∧z.2.nm=nm))→Q .non H)∧(∀z∈zs,z.2.num≠k→z.2.par=p→z.2.nm=nm→E (.ref CT) none H)
theorem uB:FnScope ["tree","number","parent","name","node"] ["tree","number","parent","name"] (ah vI):=fsc
theorem vO{f CT:Addr}{fd:FuncData}(F:Fun K "check_place" "check_place" vI f fd)(O:iI "Taken" mg base CT):FnOk P w K mg base (CX1 P w) 1 f fd ["tree","number","parent","name"] (lM CT):=by
 refine F.okX uB (λvs H Q E h=>?_) (λcdv A outer s H vs Q E hr h=>?_)
 ·obtain⟨t,k,p,nm,zs,rfl,_⟩:=h;rfl
 ·obtain⟨t,k,p,nm,zs,rfl,ht,hA,h0,h1,hn,q1,q2⟩:=h;refine⟨_,aj (ce (xh bc) rfl (cF (pv 0)) (aE (i:=4) uB.nd rfl (Or.inl rfl))
   (aj (aZ (PW.pt (pw_and (am ol (aC aw (pv 4) ak (λ_ _=>rfl)) (pv 1) (ay _)) (pw_and (am du (aC aw (pv 4) ak (λ_ _=>rfl)) (pv 2) (ay _)) (pw_and1 (am du (aC aw (pv 4) ak (λ_ _=>rfl)) (pv 3) (ay _))))))
    (aj (cq bc O hr.hd rfl (gX (dl (c:=100) (by decide +kernel) (iC (pv 2) (dl (c:=100) (by decide +kernel) (vB (pv 3) kq)))) (by decide)))) aD))),?_⟩
  refine⟨_,rfl,t,rfl,⟨_,SqT.of ht⟩,eW (xs:=aN zs) (λi σ H'=>(∃on,σ=[some (.ref t),some (.int k),some (.int p),some (.str nm),on])∧H'=H∧∀z∈zs.take i,z.2.num≠k→¬(z.2.par=p∧z.2.nm=nm)) ⟨⟨none,rfl⟩,rfl,by simp⟩ (λi σ H' _ h=>by rw[h.2.1];exact SqT.of ht) (λi x σ H' hx h=>?_) (λσ H' h=>?_)⟩
  ·obtain⟨⟨on,rfl⟩,rfl,hi⟩:=h;obtain⟨z,gz,rfl⟩:=cr hx;have mz:=mem_of_getElem? gz;have az:SqT K H' z.1 (vals z.2):=SqT.of (hA z mz);have et:zs.take (i+1)=zs.take i++[z]:=cZ gz;have nxt:(z.2.num≠k→¬(z.2.par=p∧z.2.nm=nm))→∀y∈zs.take (i+1),y.2.num≠k→¬(y.2.par=p∧y.2.nm=nm):=λhz y hy=>by
    rw[et]at hy;rcases mem_append.mp hy with hy|hy
    ·exact hi y hy
    ·have e:y=z:=by simpa using hy
     subst e;exact hz
   refine⟨_,rfl,z.1,_,_,_,rfl,rfl,az,at0 z.2,_,rfl,rfl,_,rfl,?_⟩
   by_cases hk:z.2.num=k
   ·have e1:(!decide (V.int z.2.num=V.int k))=false:=by simp[hk]
    rw[e1];exact aP (aP ⟨⟨_,rfl⟩,rfl,nxt λh=>absurd hk h⟩)
   ·have e1:(!decide (V.int z.2.num=V.int k))=true:=by simp[hk]
    rw[e1];refine bh ⟨_,rfl,z.1,_,_,_,rfl,rfl,az,at1 z.2,_,rfl,rfl,_,rfl,?_⟩
    by_cases hp:z.2.par=p
    ·have e2:decide (V.int z.2.par=V.int p)=true:=by simp[hp]
     rw[e2];refine bh ⟨_,rfl,z.1,_,_,_,rfl,rfl,az,at2 z.2,_,rfl,rfl,_,rfl,?_⟩
     by_cases hm:z.2.nm=nm
     ·have e3:decide (V.str z.2.nm=V.str nm)=true:=by simp[hm]
      rw[e3];exact bh ⟨_,rfl,p,rfl,h0,h1,_,rfl,nm,rfl,hn,λy=>⟨au (show 1≤1000 by decide),q2 z mz hk hp hm⟩⟩
     ·have e3:decide (V.str z.2.nm=V.str nm)=false:=by simp[hm]
      rw[e3];exact aP ⟨⟨_,rfl⟩,rfl,nxt λ_ h=>hm h.2⟩
    ·have e2:decide (V.int z.2.par=V.int p)=false:=by simp[hp]
     rw[e2];exact aP (aP ⟨⟨_,rfl⟩,rfl,nxt λ_ h=>hp h.1⟩)
  ·obtain⟨_,rfl,hi⟩:=h;rw[bT,take_length]at hi;exact q1 hi
def iL:Sp:=λvs H Q _=>∃t c n zs,vs=[.ref t,.ref c]∧H t=some (.tup (aN zs))∧At H zs∧H c=some (.tup (vals n))∧zs.length≤100∧∀us t' H',Same H H'→H' t'=some (.tup (aN us))→At H' us→nds us=(nds zs).map (TW.put n)→Q (.ref t') H'
theorem vP:FnScope ["tree","changed"] ["tree","changed"] (ah oT):=fsc
theorem tN{f:Addr}{fd:FuncData}(F:Fun K "with_node" "with_node" oT f fd)(T:Txt mg):FnOk P w K mg base CX0 1 f fd ["tree","changed"] iL:=by
 refine F.ok vP (λvs H Q E h=>?_) (λcdv A outer s H vs Q E hr h=>?_)
 ·obtain⟨t,c,n,zs,rfl,_⟩:=h;rfl
 ·obtain⟨t,c,n,zs,rfl,ht,hA,hc,hl,q⟩:=h;refine⟨_,aj (av (aO bw rfl T.tuple rfl (aa (io (N:=["node","changed"]) (cl:=[("changed",s.heap.objs.size+1)]) (k:=1) (js:=[1]) (g:=ca 0) rfl
    (LcOk.mk' ["changed"] rfl rfl (by decide +kernel) (by decide +kernel) ?hcl rfl (by decide +kernel)) rfl ?hj (cF (pv 0)) (λs H fp=>aE (i:=0) (show(["node","changed"]:List Str).Nodup by decide +kernel) rfl (Or.inl rfl) (Or.inr rfl))
    (λs H fp=>qf (am du (aC (r:=ik K) aw (pv 0) ak (λ_ _=>rfl)) (aC (r:=ik K) aw (pv 1) ak (λ_ _=>rfl)) (ay _)) (pv 1) (pv 0))) ae))),?_⟩
  case hcl =>
   intro y hy;rcases mem_cons.mp hy with e|hy
   ·rw[e];rfl
   ·cases hy
  case hj =>
   intro i j x h1 h2
   match i,h1,h2 with
   |0,h1,h2 =>
    cases h1;cases h2;exact⟨rfl,Or.inr (Or.inl rfl),(show((ah oT).names.lookup ("changed":Str)≠some NameKind.local)by decide +kernel),by first|exact Or.inl rfl|exact Or.inr rfl⟩
   |i+1,h1,h2=>simp at h1
  refine⟨_,rfl,t,rfl,⟨_,SqT.of ht⟩,λp hp=>?_⟩;refine ft (fr:=[some (.ref c)]) zs (λz=>V.ref z.1) (by omega) hp (gY (by rw[fz];exact SqT.of ht)) rfl (λz y H'=>y=.ref (if z.2.num=n.num then c else z.1)) (λz y H H' h _=>h) (λz H' k mz s1 _ hk=>?_) (λys H' s1 hp' hys=>?_)
  ·refine⟨_,rfl,z.1,_,_,_,rfl,rfl,SqT.of (s1 _ _ (hA z mz)),at0 z.2,_,rfl,c,_,_,_,rfl,rfl,SqT.of (s1 _ _ hc),at0 n,rfl,_,rfl,?_⟩
   by_cases e:z.2.num=n.num
   ·have e1:decide (V.int z.2.num=V.int n.num)=true:=by simp[e]
    rw[e1];exact bh ⟨_,rfl,hk _ H' (Same.refl _) (by rw[if_pos e])⟩
   ·have e1:decide (V.int z.2.num=V.int n.num)=false:=by simp[e]
    rw[e1];exact aP ⟨_,rfl,hk _ H' (Same.refl _) (by rw[if_neg e])⟩
  ·have ey:=eP (f:=λz:Addr×Nd=>V.ref (if z.2.num=n.num then c else z.1)) hys (λz y _ h=>h);refine⟨p,_,rfl,.inl ⟨SqL.of hp',λl hl'=>?_⟩⟩;have er:aN (zs.map λz=>if z.2.num=n.num then (c,n)else z)=ys:=by
    rw[ey,←fz,map_map];apply map_congr_left;intro z _;show V.ref (if z.2.num=n.num then (c,n)else z).1=_
    by_cases e:z.2.num=n.num
    ·rw[if_pos e,if_pos e]
    ·rw[if_neg e,if_neg e]
   refine q (zs.map λz=>if z.2.num=n.num then (c,n)else z) l _ (s1.trans (ag hl')) (by rw[er];exact ac) (λy hy=>?_) ?_
   ·obtain⟨z,mz,rfl⟩:=mem_map.mp hy
    by_cases e:z.2.num=n.num
    ·rw[if_pos e];exact(s1.trans (ag hl')) _ _ hc
    ·rw[if_neg e];exact(s1.trans (ag hl')) _ _ (hA z mz)
   ·unfold nds;rw[map_map,map_map];apply map_congr_left;intro z _;show(if z.2.num=n.num then (c,n)else z).2=TW.put n z.2
    unfold TW.put
    by_cases e:z.2.num=n.num
    ·rw[if_pos e,if_pos e]
    ·rw[if_neg e,if_neg e]
def nB(cls:TW.Wd→Addr):Sp:=λvs H Q E=>∃t n p nm st zs,vs=[.ref t,.int n,.int p,.str nm,stV st]∧Tre H t zs∧zs.length≤29∧cR (.make n p nm st)∧Outs H (nds zs) (.make n p nm st) cls Q E
theorem rL:FnScope ["tree","number","parent","name","stamp","nodes"] ["tree","number","parent","name","stamp"] (ah rE):=fsc
theorem tO{f:Addr}{fd:FuncData}{cls:TW.Wd→Addr}(F:Fun K "make" "make" rE f fd)(T:Txt mg)(O:tM mg base cls)(CB:Has P w K mg base 1 "by_number" ["tree"] dw)(CF:dm P w K mg base 2 "check_folder" ["nodes","number"] (oX (cls .noNode) (cls .notFolder)))(CL:dm P w K mg base 1 "check_place" ["tree","number","parent","name"] (lM (cls .taken))):FnOk P w K mg base (CX1 P w) 3 f fd ["tree","number","parent","name","stamp"] (nB cls):=by
 obtain⟨fB,fdB,GB,mB,kB,bB⟩:=CB;obtain⟨fF,fdF,GF,mF,kF,bF⟩:=CF;obtain⟨fL,fdL,GL,mL,kL,bL⟩:=CL;refine F.okX rL (λvs H Q E h=>?_) (λcdv A outer s H vs Q E hr h=>?_)
 ·obtain⟨t,n,p,nm,st,zs,rfl,_⟩:=h;rfl
 ·obtain⟨t,n,p,nm,st,zs,rfl,tr,hl,⟨hn1,hn2,hp1,hp2,hnm⟩,o⟩:=h;have hr1:Room 1 _:=hr.mono (by decide);have hnd:=cB tr.tr;refine⟨_,af (ao (i:=5) rL.nd rfl (Or.inl rfl) (al GB hr1 rfl mB kB bB .nil aI (aa (pv 0) ae)))
   (af (aZ (di (gn (bO hr) (pv 1) (pv 5))) (aj (cq bc (O .known) hr.hd rfl (uy (pv 1) (by decide +kernel)))) aD)
   (af (aT (al (E:=E) GF hr rfl mF kF bF .nil (cp bc) (aa (pv 5) (aa (pv 2) ae))))
   (af (aT (al (E:=E) GL hr1 rfl mL kL bL .nil (cp bc) (aa (pv 0) (aa (pv 1) (aa (pv 2) (aa (pv 3) ae))))))
   (aj (av (aO bw rfl T.tuple rfl (aa (bp fo rfl T.sorted boot_sorted (aa (aU (qV.or sN) (pv 0) (aA (aa (aA (aa (pv 1) (aa (pv 2) (aa (pv 3) (aa (pv 4) ae))))) ae))) ae)) ae))))))),?_⟩
  refine⟨_,rfl,t,zs,rfl,tr.tup,tr.nod,by omega,hnd,λd H1 s1 nd1=>?_⟩
  by_cases hk:∃z∈zs,z.2.num=n
  ·obtain⟨z,hz,e⟩:=hk;subst e;exact⟨_,rfl,_,rfl,d,_,rfl,nd1.get hnd hz,_,rfl,bh ⟨_,rfl,_,rfl,by omega,hn2,λy=>⟨au (show 1≤1000 by decide),o.no .known H1 s1 (.mKnown (lL hz rfl))⟩⟩⟩
  ·have hno:=dY hk;refine⟨_,rfl,_,rfl,d,_,rfl,nd1.not (λz hz e=>hk ⟨z,hz,e⟩),_,rfl,aP ?_⟩;refine⟨_,rfl,_,rfl,d,p,zs,rfl,nd1,tr.nod.same s1,hnd,hp1,hp2,λhF=>?_,λh0 hz=>o.no .noNode H1 s1 (.mNo hno h0 (dY λ⟨z,hz',e⟩=>hz z hz' e)),λz hz e h0 hs=>o.no .notFolder H1 s1 (.mFile hno h0 (bX hz) e hs)⟩;refine⟨_,rfl,_,rfl,_,rfl,_,rfl,t,n,p,nm,zs,rfl,s1 _ _ tr.tup,tr.nod.same s1,hp1,hp2,hnm,λhfree=>?_,λz hz _ e1 e2=>o.no .taken H1 s1 (.mTaken hno hF (bX hz) e1 e2)⟩;refine⟨_,rfl,_,rfl,_,rfl,_,rfl,_,rfl,(show 4≤sizeLine from au (by decide)),λq hq=>⟨(show 1≤sizeLine from au (by decide)),λc hc=>?_⟩⟩;have s2:Same H1 (upd (upd H1 q (.tup [.int n,.int p,.str nm,stV st])) c (.tup [.ref q])):=(ag hq).trans (ag hc);have gq:upd (upd H1 q (.tup [.int n,.int p,.str nm,stV st])) c (.tup [.ref q]) q=some (.tup (vals ⟨n,p,nm,st⟩)):=bQ hc ac;have gc:upd (upd H1 q (.tup [.int n,.int p,.str nm,stV st])) c (.tup [.ref q]) c=some (.tup [.ref q]):=ac;generalize upd (upd H1 q (.tup [.int n,.int p,.str nm,stV st])) c (.tup [.ref q])=H2 at s2 gq gc⊢;have fin:∀(l:Addr)(H3:Hp),Same H2 H3→SqT K H3 l (aN (zs++[(q,⟨n,p,nm,st⟩)]))→tCB (λxs H Q=>∃l,∃zs:List gR,xs=[.ref l]∧(SqL K H l ((zs.map (·.1)).map V.ref)∨SqT K H l ((zs.map (·.1)).map V.ref))∧(∀z∈zs,H z.1=some (.tup (.int z.2.1::z.2.2)))∧(zs.map (·.2.1)).Nodup∧zs.length<64 ∧
     ∀zs':List gR,zs'.Perm zs→zs'.Pairwise (λa b=>a.2.1<b.2.1)→∀p,H p=none→Q (.ref p) (upd H p (.lst ((zs'.map (·.1)).map V.ref)))) (bA (tC (.ref l)) eI) [] H3 (λx H1=>(λxs H Q=>∃p ys,xs=[V.ref p]∧((SqL K H p ys∧∀l,H l=none→Q (V.ref l) (upd H l (.tup ys)))∨(SqT K H p ys∧Q (.ref p) H))) [x] H1 Q):=by
    intro l H3 s3 hl3;have s123:=(s1.trans s2).trans s3;refine lK (.inr hl3) (λz hz=>?_) ?_ (by rw[length_append];simp;omega) (λus t' H' s' ht' hA' hp hrise=>?_)
    ·rcases mem_append.mp hz with h|h
     ·exact s123 _ _ (tr.nod z h)
     ·have e:z=(q,⟨n,p,nm,st⟩):=by simpa using h
      subst e;exact s3 _ _ gq
    ·have e:(nds (zs++[(q,(⟨n,p,nm,st⟩:Nd))])).map (·.num)=(nds zs).map (·.num)++[n]:=by simp[nds]
     rw[e,List.nodup_append];refine⟨hnd,by simp,λa ha b hb e=>?_⟩;have eb:b=n:=by simpa using hb
     obtain⟨m,hm,em⟩:=mem_map.mp ha;exact hno ⟨m,hm,by rw[em,e,eb]⟩
    ·refine o.ok us t' H' (s123.trans s') ht' hA' (.made hno hF (λm hm=>?_) ?_ hrise)
     ·obtain⟨z,hz,rfl⟩:=ky hm;exact hfree z hz λe=>hno ⟨z.2,hm,e⟩
     ·have:(nds us).Perm (nds (zs++[(q,⟨n,p,nm,st⟩)])):=hp.map _;refine this.trans ?_;unfold nds;rw[map_append];exact List.perm_append_comm
   by_cases hz:zs=[]
   ·subst hz;exact .inl ⟨t,c,_,rfl,rfl,SqT.of ((s1.trans s2) _ _ tr.tup),SqT.of gc,fin c H2 (Same.refl _) (SqT.of gc)⟩
   ·refine .inr ⟨t,c,_,_,rfl,rfl,SqT.of ((s1.trans s2) _ _ tr.tup),SqT.of gc,?_,?_,λh=>absurd h (List.cons_ne_nil _ _),λ_ l hl3=>fin l _ (ag hl3) (by rw[jD];exact SqT.of ac)⟩
    ·intro e;exact hz (rA e)
    ·rw[bT];exact au (by show zs.length+1≤1000;omega)
def kA(cls:TW.Wd→Addr):Sp:=λvs H Q E=>∃t n st zs,vs=[.ref t,.int n,.int st]∧Tre H t zs∧cR (.write n st)∧Outs H (nds zs) (.write n st) cls Q E
theorem oY:FnScope ["tree","number","stamp","node"] ["tree","number","stamp"] (ah nA):=fsc
theorem rM{f:Addr}{fd:FuncData}{cls:TW.Wd→Addr}(F:Fun K "write" "write" nA f fd)(O:tM mg base cls)(CB:Has P w K mg base 1 "by_number" ["tree"] dw)(CN:dm P w K mg base 1 "node_of" ["nodes","number"] (iK (cls .noNode)))(CW:Has P w K mg base 1 "with_node" ["tree","changed"] iL):FnOk P w K mg base (CX1 P w) 2 f fd ["tree","number","stamp"] (kA cls):=by
 obtain⟨fB,fdB,GB,mB,kB,bB⟩:=CB;obtain⟨fN,fdN,GN,mN,kN,bN⟩:=CN;obtain⟨fW,fdW,GW,mW,kW,bW⟩:=CW;refine F.okX oY (λvs H Q E h=>?_) (λcdv A outer s H vs Q E hr h=>?_)
 ·obtain⟨t,n,st,zs,rfl,_⟩:=h;rfl
 ·obtain⟨t,n,st,zs,rfl,tr,⟨hn1,hn2⟩,o⟩:=h;have hnd:=cB tr.tr;have hl:=tr.len;refine⟨_,af (ao (i:=3) oY.nd rfl (Or.inl rfl) (al (E:=E) GN hr rfl mN kN bN .nil (cp bc) (aa (al GB hr rfl mB kB bB .nil aI (aa (pv 0) ae)) (aa (pv 1) ae))))
   (af (aZ (am mO (aC aw (pv 3) ak (λ_ _=>rfl)) cb (ay _)) (aj (cq bc (O .notFile) hr.hd rfl (gX (dl (c:=100) (by decide +kernel) (iC (pv 1) (dl (c:=100) (by decide +kernel) kq))) (by decide)))) aD)
   (aj (av (al GW hr rfl mW kW bW .nil aI (aa (pv 0) (aa (aA (aa (pv 1) (aa (aC aw (pv 3) ak (λ_ _=>rfl)) (aa (aC aw (pv 3) ak (λ_ _=>rfl)) (aa (pv 2) ae))))) ae)))))),?_⟩
  refine⟨_,rfl,t,zs,rfl,tr.tup,tr.nod,by omega,hnd,λd H1 s1 nd1=>?_⟩;refine⟨_,rfl,d,n,zs,rfl,nd1,hnd,by omega,hn2,λz hz e=>?_,λhk=>o.no .noNode H1 s1 (.wNo (dY λ⟨z,hz,e⟩=>hk z hz e))⟩;subst e;have az:SqT K H1 z.1 (vals z.2):=SqT.of (s1 _ _ (tr.nod z hz));refine⟨_,rfl,z.1,_,_,_,rfl,rfl,az,at3 z.2,rfl,_,rfl,?_⟩;cases hs:z.2.st with
  |none=>exact bh ⟨_,rfl,_,rfl,by omega,hn2,λy=>⟨au (show 1≤1000 by decide),o.no .notFile H1 s1 (.wFold (bX hz) rfl hs)⟩⟩
  |some i =>
   refine aP ⟨_,rfl,_,rfl,_,rfl,z.1,_,_,_,rfl,rfl,az,at1 z.2,_,rfl,z.1,_,_,_,rfl,rfl,az,at2 z.2,_,rfl,(show 4≤sizeLine from au (by decide)),λc hc=>?_⟩;have s2:=s1.trans (ag (o:=.tup [.int z.2.num,.int z.2.par,.str z.2.nm,.int st]) hc);refine⟨t,c,⟨z.2.num,z.2.par,z.2.nm,some st⟩,zs,rfl,s2 _ _ tr.tup,tr.nod.same s2,ac,by omega,λus t' H' s' ht' hA' e=>o.ok us t' H' (s2.trans s') ht' hA' ?_⟩;rw[e];exact .wrote (bX hz) rfl (by rw[hs];simp)
def nC(cls:TW.Wd→Addr):Sp:=λvs H Q E=>∃t n p nm zs,vs=[.ref t,.int n,.int p,.str nm]∧Tre H t zs∧cR (.move n p nm)∧Outs H (nds zs) (.move n p nm) cls Q E
theorem nE:FnScope ["tree","number","parent","name","nodes","node"] ["tree","number","parent","name"] (ah rF):=fsc
theorem tP{f:Addr}{fd:FuncData}{cls:TW.Wd→Addr}(F:Fun K "move" "move" rF f fd)(O:tM mg base cls)(CB:Has P w K mg base 1 "by_number" ["tree"] dw)(CN:dm P w K mg base 1 "node_of" ["nodes","number"] (iK (cls .noNode)))(CF:dm P w K mg base 2 "check_folder" ["nodes","number"] (oX (cls .noNode) (cls .notFolder)))(CE:dm P w K mg base 2 "below" ["tree","number"] (oW (cls .noNode)))(CL:dm P w K mg base 1 "check_place" ["tree","number","parent","name"] (lM (cls .taken)))(CW:Has P w K mg base 1 "with_node" ["tree","changed"] iL):FnOk P w K mg base (CX1 P w) 3 f fd ["tree","number","parent","name"] (nC cls):=by
 obtain⟨fB,fdB,GB,mB,kB,bB⟩:=CB;obtain⟨fN,fdN,GN,mN,kN,bN⟩:=CN;obtain⟨fF,fdF,GF,mF,kF,bF⟩:=CF;obtain⟨fE,fdE,GE,mE,kE,bE⟩:=CE;obtain⟨fL,fdL,GL,mL,kL,bL⟩:=CL;obtain⟨fW,fdW,GW,mW,kW,bW⟩:=CW;refine F.okX nE (λvs H Q E h=>?_) (λcdv A outer s H vs Q E hr h=>?_)
 ·obtain⟨t,n,p,nm,zs,rfl,_⟩:=h;rfl
 ·obtain⟨t,n,p,nm,zs,rfl,tr,⟨hn1,hn2,hp1,hp2,hnm⟩,o⟩:=h;have hnd:=cB tr.tr;have hl:=tr.len;have hT:=tr.tr;have hr1:Room 1 _:=hr.mono (by decide);refine⟨_,af (ao (i:=4) nE.nd rfl (Or.inl rfl) (al GB hr1 rfl mB kB bB .nil aI (aa (pv 0) ae)))
   (af (ao (i:=5) nE.nd rfl (Or.inl rfl) (al (E:=E) GN hr1 rfl mN kN bN .nil (cp bc) (aa (pv 4) (aa (pv 1) ae))))
   (af (aT (al (E:=E) GF hr rfl mF kF bF .nil (cp bc) (aa (pv 4) (aa (pv 2) ae))))
   (af (aZ (PW.pt (pw_or (am du (pv 2) (pv 1) (ay _)) (pw_or1 (am pG (pv 2) (al (E:=E) GE hr rfl mE kE bE .nil (cp bc) (aa (pv 0) (aa (pv 1) ae))) rfl))))
    (aj (cq bc (O .inside) hr.hd rfl (gX (dl (c:=100) (by decide +kernel) (iC (pv 2) (dl (c:=100) (by decide +kernel) (iC (pv 1) (dl (c:=100) (by decide +kernel) kq))))) (by decide)))) aD)
   (af (aT (al (E:=E) GL hr1 rfl mL kL bL .nil (cp bc) (aa (pv 0) (aa (pv 1) (aa (pv 2) (aa (pv 3) ae))))))
   (aj (av (al GW hr1 rfl mW kW bW .nil aI (aa (pv 0) (aa (aA (aa (pv 1) (aa (pv 2) (aa (pv 3) (aa (aC aw (pv 5) ak (λ_ _=>rfl)) ae))))) ae))))))))),?_⟩
  refine⟨_,rfl,t,zs,rfl,tr.tup,tr.nod,by omega,hnd,λd H1 s1 nd1=>?_⟩;refine⟨_,rfl,_,rfl,d,n,zs,rfl,nd1,hnd,by omega,hn2,λz hz e=>?_,λhk=>o.no .noNode H1 s1 (.vNo (dY λ⟨z,hz,e⟩=>hk z hz e))⟩;subst e;have hh:TW.cQ (nds zs) z.2.num:=lL hz rfl;refine⟨_,rfl,_,rfl,d,p,zs,rfl,nd1,tr.nod.same s1,hnd,hp1,hp2,λhF=>?_,λh0 hk=>o.no .noNode H1 s1 (.vNoP hh h0 (dY λ⟨y,hy,e⟩=>hk y hy e)),λy hy e h0 hs=>o.no .notFolder H1 s1 (.vFile hh h0 (bX hy) e hs)⟩;have insd:∀H2,Same H1 H2→p≠0→TW.Und (nds zs) z.2.num p→∀y:Str,E (.ref (cls .inside)) none H2:=λH2 s2 h0 hu _=>o.no .inside H2 (s1.trans s2) (.vIn hh hF h0 hu);have rest:∀H2,Same H1 H2→(p≠0→¬TW.Und (nds zs) z.2.num p)→qg (ut (ou (lM (cls .taken)) [] E (bA (eA 0) (bA (eA 1) (bA (eA 2) (bA (eA 3) eI)))))) (uN (ou iL [] E0 (bA (eA 0) (bA (wL (bA (eA 1) (bA (eA 2) (bA (eA 3) (bA (tOp (ik K) (eA 5) (tC (.int 3))) eI))))) eI))))
    {nx:=λ_ H'=>Q .non H',rt:=Q} [some (.ref t),some (.int z.2.num),some (.int p),some (.str nm),some (.ref d),some (.ref z.1)] H2:=by
   intro H2 s2 hu;have s12:=s1.trans s2;refine⟨_,rfl,_,rfl,_,rfl,_,rfl,t,z.2.num,p,nm,zs,rfl,s12 _ _ tr.tup,tr.nod.same s12,hp1,hp2,hnm,λhfree=>?_,λy hy hne e1 e2=>o.no .taken H2 s12 (.vTaken hh hF hu (bX hy) hne e1 e2)⟩;refine⟨_,rfl,_,rfl,_,rfl,_,rfl,_,rfl,z.1,_,_,_,rfl,rfl,SqT.of (s12 _ _ (tr.nod z hz)),at3 z.2,(show 4≤sizeLine from au (by decide)),λc hc=>?_⟩;have s3:=s12.trans (ag (o:=.tup [.int z.2.num,.int p,.str nm,stV z.2.st]) hc);refine⟨t,c,⟨z.2.num,p,nm,z.2.st⟩,zs,rfl,s3 _ _ tr.tup,tr.nod.same s3,ac,by omega,λus t' H' s' ht' hA' e=>o.ok us t' H' (s3.trans s') ht' hA' ?_⟩;rw[e];refine .moved (bX hz) rfl hF hu λm hm hne h=>?_;obtain⟨y,hy,rfl⟩:=ky hm;exact hfree y hy hne h
  refine⟨_,rfl,_,rfl,rfl,_,rfl,?_⟩
  by_cases hpn:p=z.2.num
  ·have e1:decide (V.int p=V.int z.2.num)=true:=by simp[hpn]
   rw[e1];exact bh (bh ⟨_,rfl,p,rfl,hp1,hp2,_,rfl,_,rfl,by omega,hn2,λy=>⟨au (show 1≤1000 by decide),insd H1 (Same.refl _) (by omega) (by rw[hpn];exact .here) y⟩⟩)
  ·have e1:decide (V.int p=V.int z.2.num)=false:=by simp[hpn]
   rw[e1];refine aP ⟨_,rfl,_,rfl,_,rfl,t,z.2.num,zs,rfl,tr.same s1,by omega,hn2,λ_ ms l H2 s2 hms _ hm hl2=>?_,λh0 hk=>absurd rfl (hk z hz)⟩;refine⟨l,_,rfl,.inl (SqL.of hl2),rfl,pU ms,_,rfl,?_⟩;show if (inV (.int p) (ms.map V.int))=true then _ else _
   rw[tI]
   by_cases hin:p∈ms
   ·rw[decide_eq_true hin];obtain⟨m,hm1,hm2,hm3⟩:=(hm p).mp hin;have hu:TW.Und (nds zs) z.2.num p:=by rw[←hm2];exact((TW.db hT hn1 hm1).mp hm3).2
    have h0:p≠0:=by have:=hT.pos m hm1;omega
    exact bh ⟨_,rfl,p,rfl,hp1,hp2,_,rfl,_,rfl,by omega,hn2,λy=>⟨au (show 1≤1000 by decide),insd H2 s2 h0 hu y⟩⟩
   ·rw[decide_eq_false hin];refine aP (rest H2 s2 λh0 hu=>?_);rcases hF with e|⟨m,hm1,hm2,hm3⟩
    ·exact h0 e
    ·refine hin ((hm p).mpr ⟨m,hm1,hm3,(TW.db hT hn1 hm1).mpr ⟨by rw[hm3];exact hpn,by rw[hm3];exact hu⟩⟩)
def nG(cls:TW.Wd→Addr):Sp:=λvs H Q E=>∃t n zs,vs=[.ref t,.int n]∧Tre H t zs∧cR (.drop n)∧Outs H (nds zs) (.drop n) cls Q E
theorem rN:FnScope ["tree","number","gone"] ["tree","number"] (ah oU):=fsc
def lN(n:Int)(ms:List Int)(m:Nd):Bool:=!decide (m.num=n∨m.num∈ms)
theorem tQ{f:Addr}{fd:FuncData}{cls:TW.Wd→Addr}(F:Fun K "drop" "drop" oU f fd)(T:Txt mg)(CB:Has P w K mg base 1 "by_number" ["tree"] dw)(CN:dm P w K mg base 1 "node_of" ["nodes","number"] (iK (cls .noNode)))(CE:dm P w K mg base 2 "below" ["tree","number"] (oW (cls .noNode))):FnOk P w K mg base (CX1 P w) 3 f fd ["tree","number"] (nG cls):=by
 obtain⟨fB,fdB,GB,mB,kB,bB⟩:=CB;obtain⟨fN,fdN,GN,mN,kN,bN⟩:=CN;obtain⟨fE,fdE,GE,mE,kE,bE⟩:=CE;refine F.okX rN (λvs H Q E h=>?_) (λcdv A outer s H vs Q E hr h=>?_)
 ·obtain⟨t,n,zs,rfl,_⟩:=h;rfl
 ·obtain⟨t,n,zs,rfl,tr,⟨hn1,hn2⟩,o⟩:=h;have hnd:=cB tr.tr;have hl:=tr.len;have hT:=tr.tr;have hr1:Room 1 _:=hr.mono (by decide);refine⟨_,af (aT (al (E:=E) GN hr1 rfl mN kN bN .nil (cp bc) (aa (al GB hr1 rfl mB kB bB .nil aI (aa (pv 0) ae)) (aa (pv 1) ae))))
   (af (ao (i:=2) rN.nd rfl (Or.inr rfl) (aO (cN rfl) rfl T.dict boot_dict (aa (io (N:=["inner"]) (k:=1) (js:=[]) (g:=ca 0) rfl (gw rfl (by decide +kernel) (by decide +kernel) (by decide +kernel)) rfl (λi j x h=>by simp at h)
    (cm (al (E:=E) GE hr rfl mE kE bE .nil (cp bc) (aa (pv 0) (aa (pv 1) ae)))) (λs H fp=>aE (i:=0) (show(["inner"]:List Str).Nodup by decide +kernel) rfl (Or.inl rfl) (Or.inr rfl))
    (λs H fp=>aA (aa (pv 0) (aa ji ae)))) ae)))
   (af (sV (bO hr) (pv 2) (pv 1) ji rfl)
   (aj (av (aO bw rfl T.tuple rfl (aa (ip (N:=["node","gone"]) (cl:=[("gone",s.heap.objs.size+1)]) (k:=1) (js:=[2]) (g:=ca 0) rfl
    (LcOk.mk' ["gone"] rfl rfl (by decide +kernel) (by decide +kernel) ?hcl rfl (by decide +kernel)) rfl ?hj (cF (pv 0)) (λs H fp=>aE (i:=0) (show(["node","gone"]:List Str).Nodup by decide +kernel) rfl (Or.inl rfl) (Or.inr rfl))
    (λs H fp=>di (gp (bO hr) (aC (r:=ik K) aw (pv 0) ak (λ_ _=>rfl)) (pv 1))) (λs H fp=>pv 0)) ae)))))),?_⟩
  case hcl =>
   intro y hy;rcases mem_cons.mp hy with e|hy
   ·rw[e];rfl
   ·cases hy
  case hj =>
   intro i j x h1 h2
   match i,h1,h2 with
   |0,h1,h2 =>
    cases h1;cases h2;exact⟨rfl,Or.inr (Or.inl rfl),(show((ah oU).names.lookup ("gone":Str)≠some NameKind.local)by decide +kernel),by first|exact Or.inl rfl|exact Or.inr rfl⟩
   |i+1,h1,h2=>simp at h1
  refine⟨_,rfl,t,zs,rfl,tr.tup,tr.nod,by omega,hnd,λd H1 s1 nd1=>?_⟩;refine⟨_,rfl,d,n,zs,rfl,nd1,hnd,by omega,hn2,λz hz e=>?_,λhk=>o.no .noNode H1 s1 (.dNo (dY λ⟨z,hz,e⟩=>hk z hz e))⟩;refine⟨_,rfl,_,rfl,t,n,zs,rfl,tr.same s1,by omega,hn2,λ_ ms l H2 s2 hms hml0 hm hl2=>?_,λh0 hk=>absurd e (hk z hz)⟩;have hml:ms.length≤1000:=by omega
  refine⟨l,rfl,⟨_,SqL.of hl2⟩,λp hp=>?_⟩;refine ft (fr:=[]) ms V.int hml hp (gZ (SqL.of hl2)) rfl (λm y H'=>∃q,y=.ref q∧q≠p∧H' q=some (.tup [.int m,.bl true])) (λm y H H' ⟨q,e,ne,h⟩ ex=>⟨q,e,ne,ex q _ ne h⟩) (λm H' k _ s3 hpl hk=>?_) (λys H3 s3 hp3 hys=>?_)
  ·exact⟨_,rfl,le2,λq hq=>hk _ _ (ag hq) ⟨q,rfl,gB hpl hq,ac⟩⟩
  ·obtain⟨bs,e1,e2,e3⟩:=dX (val:=V.ref) (S:=λ(m:Int) (q:Addr)=>H3 q=some (.tup [.int m,.bl true])) hys (λm y _ ⟨q,e,_,h⟩=>⟨q,e,h⟩);have s123:=(s1.trans s2).trans s3;have hbl:bs.length=ms.length:=by rw[←e1,length_map]
   refine⟨p,bs.map λx=>(x.2,(Sum.inl x.1:Key),V.bl true),rfl,by rw[hp3,e2,map_map,map_map];rfl,λy hy=>?_,by rw[length_map];omega,?_,λg hg=>?_⟩
   ·obtain⟨x,hx,rfl⟩:=mem_map.mp hy;exact e3 x hx
   ·rw[map_map];have:(bs.map ((λx:Addr×Key×V=>x.2.1)∘λx=>(x.2,(Sum.inl x.1:Key),V.bl true)))=ms.map (Sum.inl:Int→Key):=by rw[←e1,map_map];rfl
    rw[this];unfold Nodup;rw[pairwise_map];exact hms.imp λh e=>by injection e with e;omega
   ·have ekv:(bs.map λx=>(x.2,(Sum.inl x.1:Key),V.bl true)).map (·.2)=ms.map λm=>((Sum.inl m:Key),V.bl true):=by rw[←e1,map_map,map_map];rfl
    rw[ekv];have s4:=s123.trans (ag (o:=.dK (ms.map λm=>((Sum.inl m:Key),V.bl true))) hg);have s5:Same H (upd (upd H3 g (.dK (ms.map λm=>((Sum.inl m:Key),V.bl true)))) g (.dK (cH (ms.map λm=>((Sum.inl m:Key),V.bl true)) (Sum.inl n:Key) (.bl true)))):=ba (s123.free hg) s4;refine⟨_,rfl,_,rfl,g,_,rfl,qB.k (k:=Sum.inl n) ac (ar (by rw[length_map];exact hml)),?_⟩;have hgo:(upd (upd H3 g (.dK (ms.map λm=>((Sum.inl m:Key),V.bl true)))) g (.dK (cH (ms.map λm=>((Sum.inl m:Key),V.bl true)) (Sum.inl n:Key) (.bl true)))) g=some (.dK (cH (ms.map λm=>((Sum.inl m:Key),V.bl true)) (Sum.inl n:Key) (.bl true))):=ac;generalize upd (upd H3 g (.dK (ms.map λm=>((Sum.inl m:Key),V.bl true)))) g (.dK (cH (ms.map λm=>((Sum.inl m:Key),V.bl true)) (Sum.inl n:Key) (.bl true)))=H5 at s5 hgo⊢;have hval:∀k:Int,(!(aS (cH (ms.map λm=>((Sum.inl m:Key),V.bl true)) (Sum.inl n:Key) (.bl true)) (Sum.inl k:Key)).isSome) = !decide (k=n∨k∈ms):=λk=>by
     rw[lj]
     by_cases e:k=n
     ·subst e;simp
     ·have e':¬(Sum.inl k:Key)=Sum.inl n:=λh=>e (by injection h);rw[if_neg e']
      by_cases hk:k∈ms
      ·have:aS (ms.map λm=>((Sum.inl m:Key),V.bl true)) (Sum.inl k:Key)=some (.bl true):=by
        refine iH ?_ (mem_map.mpr ⟨k,hk,rfl⟩);rw[map_map];unfold Nodup;rw[pairwise_map];exact hms.imp λh e=>by injection e with e;omega
       rw[this];simp[hk]
      ·have:aS (ms.map λm=>((Sum.inl m:Key),V.bl true)) (Sum.inl k:Key)=none:=by
        refine kx λhx=>hk ?_;rw[map_map]at hx;obtain⟨m,hm',e⟩:=mem_map.mp hx;injection e with e
        rw[←e];exact hm'
       rw[this];simp[e,hk]
    refine⟨_,rfl,t,rfl,⟨_,SqT.of (s5 _ _ tr.tup)⟩,λp2 hp2=>?_⟩;refine iD (fr:=[some (.ref g)]) zs (λz=>V.ref z.1) (by omega) hp2 (gY (by rw[fz];exact SqT.of (s5 _ _ tr.tup))) rfl (λz=>lN n ms z.2) (λz y _=>y=.ref z.1) (λz y H H' h _=>h) (λz H' k mz s6 _ hk=>?_) (λz H' k mz _ s6 _ hk=>?_) (λys H6 s6 hp6 hys=>?_)
    ·refine⟨_,rfl,z.1,_,_,_,rfl,rfl,SqT.of (s6 _ _ (s5 _ _ (tr.nod z mz))),at0 z.2,_,rfl,g,_,rfl,cK.k (k:=Sum.inl z.2.num) (s6 _ _ hgo),_,rfl,?_⟩;rw[hval];exact hk H' (Same.refl _)
    ·exact⟨_,rfl,hk _ H' (Same.refl _) rfl⟩
    ·have ey:=eP (f:=λz:Addr×Nd=>V.ref z.1) hys (λz y _ h=>h);refine⟨p2,_,rfl,.inl ⟨SqL.of hp6,λl6 hl6=>?_⟩⟩;have s56:=(s5.trans s6).trans (ag (o:=.tup ys) hl6);refine o.ok (zs.filter λz=>lN n ms z.2) l6 _ s56 (by rw[ac,ey,fz]) (λy hy=>s56 _ _ (tr.nod y (mem_filter.mp hy).1)) ?_;have en:nds (zs.filter λz=>lN n ms z.2)=(nds zs).filter (lN n ms):=by
      unfold nds;rw[filter_map];rfl
     rw[en];refine .dropped ⟨z.2,bX hz,e⟩ λm hm'=>?_;unfold lN;rw[Bool.not_eq_true',decide_eq_false_iff_not];constructor
     ·intro h hu
      by_cases em:m.num=n
      ·exact h (.inl em)
      ·exact h (.inr ((hm m.num).mpr ⟨m,hm',rfl,(TW.db hT hn1 hm').mpr ⟨em,hu⟩⟩))
     ·intro h hx;rcases hx with em|hx
      ·exact h (by rw[em];exact .here)
      ·obtain⟨m',h1,h2,h3⟩:=(hm m.num).mp hx;have:m'=m:=hT.inj h1 hm' h2;subst this;exact h ((TW.db hT hn1 h1).mp h3).2
def kG(cls:TW.Wd→Addr):Sp:=λvs H Q E=>∃t d dd zs,vs=[.ref t,.ref d]∧Tre H t zs∧zs.length≤29∧H d=some (.tup (jF dd))∧cR dd∧Outs H (nds zs) dd cls Q E
theorem rO:FnScope ["tree","deed","word"] ["tree","deed"] (ah rG):=fsc
theorem tR{f:Addr}{fd:FuncData}{cls:TW.Wd→Addr}(F:Fun K "done" "done" rG f fd)(CM:dm P w K mg base 3 "make" ["tree","number","parent","name","stamp"] (nB cls))(CW:dm P w K mg base 2 "write" ["tree","number","stamp"] (kA cls))(CV:dm P w K mg base 3 "move" ["tree","number","parent","name"] (nC cls))(CD:dm P w K mg base 3 "drop" ["tree","number"] (nG cls)):FnOk P w K mg base (CX1 P w) 4 f fd ["tree","deed"] (kG cls):=by
 obtain⟨fM,fdM,GM,mM,kM,bM⟩:=CM;obtain⟨fW,fdW,GW,mW,kW,bW⟩:=CW;obtain⟨fV,fdV,GV,mV,kV',bV⟩:=CV;obtain⟨fD,fdD,GD,mD,kD,bD⟩:=CD;refine F.okX rO (λvs H Q E h=>?_) (λcdv A outer s H vs Q E hr h=>?_)
 ·obtain⟨t,d,dd,zs,rfl,_⟩:=h;rfl
 ·obtain⟨t,d,dd,zs,rfl,tr,hl,hd,hok,o⟩:=h;have hr2:Room 2 _:=hr.mono (by decide);refine⟨_,af (ao (i:=2) rO.nd rfl (Or.inl rfl) (aC aw (pv 1) ak (λ_ _=>rfl)))
   (af (aZ (am du (pv 2) aR (ay _)) (aj (av (al (E:=E) GM hr rfl mM kM bM .nil (cp bc) (aa (pv 0) (aa (aC aw (pv 1) ak (λ_ _=>rfl)) (aa (aC aw (pv 1) ak (λ_ _=>rfl)) (aa (aC aw (pv 1) ak (λ_ _=>rfl)) (aa (aC aw (pv 1) ak (λ_ _=>rfl)) ae)))))))) aD)
   (af (aZ (am du (pv 2) aR (ay _)) (aj (av (al (E:=E) GW hr2 rfl mW kW bW .nil (cp bc) (aa (pv 0) (aa (aC aw (pv 1) ak (λ_ _=>rfl)) (aa (aC aw (pv 1) ak (λ_ _=>rfl)) ae)))))) aD)
   (af (aZ (am du (pv 2) aR (ay _)) (aj (av (al (E:=E) GV hr rfl mV kV' bV .nil (cp bc) (aa (pv 0) (aa (aC aw (pv 1) ak (λ_ _=>rfl)) (aa (aC aw (pv 1) ak (λ_ _=>rfl)) (aa (aC aw (pv 1) ak (λ_ _=>rfl)) ae))))))) aD)
   (af (aZ (am du (pv 2) aR (ay _)) (aj (av (al (E:=E) GD hr rfl mD kD bD .nil (cp bc) (aa (pv 0) (aa (aC aw (pv 1) ak (λ_ _=>rfl)) ae))))) aD)
   (aj la))))),?_⟩
  have sd:SqT K H d (jF dd):=SqT.of hd;cases dd with
  |make n p nm st =>
   refine⟨_,rfl,d,_,_,_,rfl,rfl,sd,rfl,?_⟩;refine⟨_,rfl,rfl,_,rfl,bh ⟨_,rfl,_,rfl,d,_,_,_,rfl,rfl,sd,rfl,_,rfl,d,_,_,_,rfl,rfl,sd,rfl,_,rfl,d,_,_,_,rfl,rfl,sd,rfl,_,rfl,d,_,_,_,rfl,rfl,sd,rfl,t,n,p,nm,st,zs,rfl,tr,hl,hok,o⟩⟩
  |write n st =>
   refine⟨_,rfl,d,_,_,_,rfl,rfl,sd,rfl,?_⟩;refine⟨_,rfl,rfl,_,rfl,aP ⟨_,rfl,rfl,_,rfl,bh ⟨_,rfl,_,rfl,d,_,_,_,rfl,rfl,sd,rfl,_,rfl,d,_,_,_,rfl,rfl,sd,rfl,t,n,st,zs,rfl,tr,hok,o⟩⟩⟩
  |move n p nm =>
   refine⟨_,rfl,d,_,_,_,rfl,rfl,sd,rfl,?_⟩;refine⟨_,rfl,rfl,_,rfl,aP ⟨_,rfl,rfl,_,rfl,aP ⟨_,rfl,rfl,_,rfl,bh ⟨_,rfl,_,rfl,d,_,_,_,rfl,rfl,sd,rfl,_,rfl,d,_,_,_,rfl,rfl,sd,rfl,_,rfl,d,_,_,_,rfl,rfl,sd,rfl,t,n,p,nm,zs,rfl,tr,hok,o⟩⟩⟩⟩
  |drop n =>
   refine⟨_,rfl,d,_,_,_,rfl,rfl,sd,rfl,?_⟩;refine⟨_,rfl,rfl,_,rfl,aP ⟨_,rfl,rfl,_,rfl,aP ⟨_,rfl,rfl,_,rfl,aP ⟨_,rfl,rfl,_,rfl,bh ⟨_,rfl,_,rfl,d,_,_,_,rfl,rfl,sd,rfl,t,n,zs,rfl,tr,hok,o⟩⟩⟩⟩⟩
end
theorem lO{X:Cx}{e:Expr}:PT X e (λ_ _ _=>False):=λ_ _ _ _ _ _ h=>h.elim
theorem lP{X:Cx}{e:Expr}:PE X e (λ_ _ _=>False):=λ_ _ _ _ _ _ h=>h.elim
theorem iM(H:Hp):At H []:=λz hz=>by cases hz
section
variable{P:Program}{w:World}{K:PySem.W.Frag}{mg:Str→Option Value}{base:Heap}
def rP:Sp:=λvs H Q _=>∃t u zs,vs=[.ref t,.ref u]∧H t=some (.tup (aN zs))∧At H zs∧H u=some (.tup [])∧∀H',Same H H'→Q .non H'
theorem oZ:FnScope ["old","new","goal","node","number"] ["old","new"] (ah cT):=fsc
theorem vQ{f:Addr}{fd:FuncData}(F:Fun K "check_kinds" "check_kinds" cT f fd)(CB:Has P w K mg base 1 "by_number" ["tree"] dw):FnOk P w K mg base CX0 2 f fd ["old","new"] rP:=by
 obtain⟨fB,fdB,GB,mB,kB,bB⟩:=CB;refine F.ok oZ (λvs H Q E h=>?_) (λcdv A outer s H vs Q E hr h=>?_)
 ·obtain⟨t,u,zs,rfl,_⟩:=h;rfl
 ·obtain⟨t,u,zs,rfl,ht,hA,hu,q⟩:=h;refine⟨_,af (ao (i:=2) oZ.nd rfl (Or.inl rfl) (al GB hr rfl mB kB bB .nil aI (aa (pv 1) ae)))
   (aj (ce PassesOwn.never rfl (cF (pv 0)) (aE (i:=3) oZ.nd rfl (Or.inl rfl))
    (af (ao (i:=4) oZ.nd rfl (Or.inl rfl) (aC aw (pv 3) ak (λ_ _=>rfl)))
    (aj (aZ (PW.pt (pw_and (di (gn (bO hr) (pv 4) (pv 2))) (pw_and1 lO))) cV aD))))),?_⟩
  refine⟨_,rfl,u,[],rfl,hu,iM H,by decide,by simp[nds],λd H1 s1 nd1=>?_⟩;refine⟨_,rfl,t,rfl,⟨_,SqT.of (s1 _ _ ht)⟩,eW (xs:=aN zs) (λi σ H'=>(∃x3 x4,σ=[some (.ref t),some (.ref u),some (.ref d),x3,x4])∧H'=H1) ⟨⟨_,_,rfl⟩,rfl⟩ (λi σ H' _ h=>by rw[h.2];exact SqT.of (s1 _ _ ht)) (λi x σ H' hx h=>?_) (λσ H' h=>?_)⟩
  ·obtain⟨⟨x3,x4,rfl⟩,rfl⟩:=h;obtain⟨z,gz,rfl⟩:=cr hx;have mz:=mem_of_getElem? gz;refine⟨_,rfl,z.1,_,_,_,rfl,rfl,SqT.of (s1 _ _ (hA z mz)),at0 z.2,_,rfl,_,rfl,d,_,rfl,nd1.not (λy hy=>by cases hy),_,rfl,aP (aP ⟨⟨_,_,rfl⟩,rfl⟩)⟩
  ·obtain⟨⟨x3,x4,rfl⟩,rfl⟩:=h;exact q _ s1
def rQ:Sp:=λvs H Q _=>∃t d zs,vs=[.ref t,.ref d]∧H t=some (.tup (aN zs))∧At H zs∧zs.length≤100∧((nds zs).map (·.num)).Nodup∧gS H d []∧∀e H',Same H H'→H' e=some (.dK [])→Q (.ref e) H'
theorem pb:FnScope ["now","goal","nodes","needed","staying","at"] ["now","goal"] (ah bY):=fsc
theorem vR{f:Addr}{fd:FuncData}(F:Fun K "nodes_needed" "nodes_needed" bY f fd)(CB:Has P w K mg base 1 "by_number" ["tree"] dw):FnOk P w K mg base CX0 2 f fd ["now","goal"] rQ:=by
 obtain⟨fB,fdB,GB,mB,kB,bB⟩:=CB;refine F.ok pb (λvs H Q E h=>?_) (λcdv A outer s H vs Q E hr h=>?_)
 ·obtain⟨t,d,zs,rfl,_⟩:=h;rfl
 ·obtain⟨t,d,zs,rfl,ht,hA,hl,hnd,hd,q⟩:=h;refine⟨_,af (ao (i:=2) pb.nd rfl (Or.inl rfl) (al GB hr rfl mB kB bB .nil aI (aa (pv 0) ae)))
   (af (ao (i:=3) pb.nd rfl (Or.inl rfl) ln)
   (af (ce PassesOwn.never rfl (cm (ip (N:=["number","goal"]) (cl:=[("goal",s.heap.objs.size+1)]) (k:=1) (js:=[1]) (g:=ca 0) rfl
     (LcOk.mk' ["goal"] rfl rfl (by decide +kernel) (by decide +kernel) ?hcl rfl (by decide +kernel)) rfl ?hj (xc (pv 2)) (λs H fp=>aE (i:=0) (show(["number","goal"]:List Str).Nodup by decide +kernel) rfl (Or.inl rfl) (Or.inr rfl))
     (λs H fp=>di (gn (bO hr) (pv 0) (pv 1))) (λs H fp=>pv 0))) (aE (i:=4) pb.nd rfl (Or.inl rfl)) cV)
   (aj (av (pv 3))))),?_⟩
  case hcl =>
   intro y hy;rcases mem_cons.mp hy with e|hy
   ·rw[e];rfl
   ·cases hy
  case hj =>
   intro i j x h1 h2
   match i,h1,h2 with
   |0,h1,h2 =>
    cases h1;cases h2;exact⟨rfl,Or.inr (Or.inl rfl),(show((ah bY).names.lookup ("goal":Str)≠some NameKind.local)by decide +kernel),by first|exact Or.inl rfl|exact Or.inr rfl⟩
   |i+1,h1,h2=>simp at h1
  refine⟨_,rfl,t,zs,rfl,ht,hA,hl,hnd,λn H1 s1 nd1=>?_⟩;refine λe he=>?_;have s2:=ag (o:=.dK []) he;have ge:upd H1 e (.dK []) e=some (.dK []):=ac;have nd2:=nd1.same s2;generalize upd H1 e (.dK [])=H2 at s2 ge nd2⊢;obtain⟨o,ho⟩:=nd2;have hd2:=(hd.same s1).same s2;refine⟨_,rfl,n,o,ci zs,rfl,ho,λp hp=>?_⟩;refine iD (fr:=[some (.ref d)]) (ci zs) (λx=>kV x.1) (by unfold ci;rw[length_map];omega) hp (rh ho) rfl (λ_=>false) (λ_ _ _=>False) (λ_ _ _ _ h _=>h) (λx H' k mx s3 _ hk=>?_) (λx H' k mx g=>by cases g) (λys H3 s3 hp3 hys=>?_)
  ·obtain⟨z,mz,rfl⟩:=mem_map.mp mx;exact⟨_,rfl,_,rfl,d,_,rfl,(hd2.same s3).not (λy hy=>by cases hy),_,rfl,hk H' (Same.refl _)⟩
  ·have e0:(ci zs).filter (λ_=>false)=[]:=by simp
   rw[e0]at hys;cases hys;refine⟨p,rfl,⟨_,SqL.of hp3⟩,cW (xs:=[]) (λi σ H'=>σ=[some (.ref t),some (.ref d),some (.ref n),some (.ref e),none,none]∧H'=H3) ⟨rfl,rfl⟩ (λi σ H' _ h=>by rw[h.2];exact SqL.of hp3) (λi x σ H' hx h=>by simp at hx) (λσ H' h=>?_)⟩;obtain⟨rfl,rfl⟩:=h;exact⟨_,rfl,q e _ ((s1.trans s2).trans s3) (s3 _ _ ge)⟩
def rR:Sp:=λvs H Q _=>∃t d zs,vs=[.ref t,.ref d]∧H t=some (.tup (aN zs))∧At H zs∧zs.length≤100∧((nds zs).map (·.num)).Nodup∧gS H d [] ∧
 (∀z∈zs,z.2.par=0→∀r H',Same H H'→H' r=some (.tup [.str "drop",.int z.2.num])→Q (.ref r) H')∧((∀z∈zs,z.2.par≠0)→∀H',Same H H'→Q .non H')
theorem rS:FnScope ["now","goal","needed","node"] ["now","goal"] (ah dL):=fsc
theorem vS{f:Addr}{fd:FuncData}(F:Fun K "next_drop" "next_drop" dL f fd)(T:Txt mg)(CN:Has P w K mg base 2 "nodes_needed" ["now","goal"] rQ):FnOk P w K mg base CX0 3 f fd ["now","goal"] rR:=by
 obtain⟨fN,fdN,GN,mN,kN,bN⟩:=CN;obtain⟨tt,hT⟩:=T.top;refine F.ok rS (λvs H Q E h=>?_) (λcdv A outer s H vs Q E hr h=>?_)
 ·obtain⟨t,d,zs,rfl,_⟩:=h;rfl
 ·obtain⟨t,d,zs,rfl,ht,hA,hl,hnd,hd,q1,q2⟩:=h;refine⟨_,af (ao (i:=2) rS.nd rfl (Or.inl rfl) (al GN hr rfl mN kN bN .nil aI (aa (pv 0) (aa (pv 1) ae))))
   (af (ce PassesOwn.never rfl (cF (pv 0)) (aE (i:=3) rS.nd rfl (Or.inl rfl))
    (aj (aZ (PW.pt (pw_and (di (gp (bO hr) (aC aw (pv 3) ak (λ_ _=>rfl)) (pv 2))) (pw_and1 (PW.pt (pw_or (am du (aC aw (pv 3) ak (λ_ _=>rfl)) (jP (v:=.int 0) rfl hT ⟨_,rfl⟩) (ay _)) (pw_or1 (di (gn (bO hr) (aC aw (pv 3) ak (λ_ _=>rfl)) (pv 1)))))))))
     (aj (av (aA (aa aR (aa (aC aw (pv 3) ak (λ_ _=>rfl)) ae))))) aD)))
   (aj (av cb))),?_⟩
  refine⟨_,rfl,_,rfl,t,d,zs,rfl,ht,hA,hl,hnd,hd,λe H1 s1 he=>?_⟩;have ht1:=s1 _ _ ht;have hd1:=hd.same s1;have hno:∀k:Int,cK H1 e (.int k) none:=λk=>.inl ⟨[],Sum.inl k,.inl he,rfl,rfl⟩;refine⟨_,rfl,t,rfl,⟨_,SqT.of ht1⟩,eW (xs:=aN zs) (λi σ H'=>(∃x3,σ=[some (.ref t),some (.ref d),some (.ref e),x3])∧H'=H1∧∀z∈zs.take i,z.2.par≠0) ⟨⟨_,rfl⟩,rfl,by simp⟩ (λi σ H' _ h=>by rw[h.2.1];exact SqT.of ht1) (λi x σ H' hx h=>?_) (λσ H' h=>?_)⟩
  ·obtain⟨⟨x3,rfl⟩,rfl,hi⟩:=h;obtain⟨z,gz,rfl⟩:=cr hx;have mz:=mem_of_getElem? gz;have az:SqT K H' z.1 (vals z.2):=SqT.of (s1 _ _ (hA z mz));have et:zs.take (i+1)=zs.take i++[z]:=cZ gz;refine⟨_,rfl,z.1,_,_,_,rfl,rfl,az,at0 z.2,_,rfl,e,_,rfl,hno _,_,rfl,bh ?_⟩;refine⟨_,rfl,z.1,_,_,_,rfl,rfl,az,at1 z.2,rfl,_,rfl,?_⟩
   by_cases hp:z.2.par=0
   ·rw[show decide (V.int z.2.par=V.int 0)=true by simp[hp]];refine bh (bh ⟨_,rfl,z.1,_,_,_,rfl,rfl,az,at0 z.2,le2,λr hr'=>?_⟩);exact q1 z mz hp r _ (s1.trans (ag hr')) ac
   ·rw[show decide (V.int z.2.par=V.int 0)=false by simp[hp]];refine aP ⟨_,rfl,z.1,_,_,_,rfl,rfl,az,at1 z.2,_,rfl,d,_,rfl,hd1.not (λy hy=>by cases hy),_,rfl,aP ⟨⟨_,rfl⟩,rfl,λy hy=>?_⟩⟩;rw[et]at hy;rcases mem_append.mp hy with hy|hy
    ·exact hi y hy
    ·have e:y=z:=by simpa using hy
     subst e;exact hp
  ·obtain⟨⟨x3,rfl⟩,rfl,hi⟩:=h;refine q2 (λz hz=>hi z ?_) _ s1;rw[bT,take_length];exact hz
def rT:Sp:=λvs H Q _=>∃t u zs,vs=[.ref t,.ref u]∧H t=some (.tup (aN zs))∧At H zs∧zs.length≤100∧((nds zs).map (·.num)).Nodup∧H u=some (.tup [])∧∀l H',Same H H'→H' l=some (.lst [])→Q (.ref l) H'
theorem pc:FnScope ["now","new","nodes","deeds","node","number"] ["now","new"] (ah eS):=fsc
theorem vT{f:Addr}{fd:FuncData}(F:Fun K "placings" "placings" eS f fd)(CB:Has P w K mg base 1 "by_number" ["tree"] dw):FnOk P w K mg base CX0 2 f fd ["now","new"] rT:=by
 obtain⟨fB,fdB,GB,mB,kB,bB⟩:=CB;refine F.ok pc (λvs H Q E h=>?_) (λcdv A outer s H vs Q E hr h=>?_)
 ·obtain⟨t,u,zs,rfl,_⟩:=h;rfl
 ·obtain⟨t,u,zs,rfl,ht,hA,hl,hnd,hu,q⟩:=h;refine⟨_,af (ao (i:=2) pc.nd rfl (Or.inl rfl) (al GB hr rfl mB kB bB .nil aI (aa (pv 0) ae)))
   (af (ao (i:=3) pc.nd rfl (Or.inl rfl) (cw ae))
   (af (ce PassesOwn.never rfl (cF (pv 1)) (aE (i:=4) pc.nd rfl (Or.inl rfl)) cV) (aj (av (pv 3))))),?_⟩
  refine⟨_,rfl,t,zs,rfl,ht,hA,hl,hnd,λn H1 s1 nd1=>⟨zero_le _,λl hl=>?_⟩⟩;have s2:=ag (o:=.lst []) hl;have gl:upd H1 l (.lst []) l=some (.lst []):=ac;generalize upd H1 l (.lst [])=H2 at s2 gl⊢;have hu2:=s2 _ _ (s1 _ _ hu);refine⟨_,rfl,u,rfl,⟨_,SqT.of hu2⟩,eW (xs:=[]) (λi σ H'=>(∃x4,σ=[some (.ref t),some (.ref u),some (.ref n),some (.ref l),x4,none])∧H'=H2) ⟨⟨_,rfl⟩,rfl⟩ (λi σ H' _ h=>by rw[h.2];exact SqT.of hu2) (λi x σ H' hx h=>by simp at hx) (λσ H' h=>?_)⟩;obtain⟨⟨x4,rfl⟩,rfl⟩:=h;exact⟨_,rfl,q l _ (s1.trans s2) gl⟩
def rU:Sp:=λvs H Q _=>∃t u,vs=[.ref t,.ref u]∧H t=some (.tup [])∧H u=some (.tup [])∧∀l H',Same H H'→H' l=some (.lst [])→Q (.ref l) H'
theorem uC:FnScope ["now","new","goal"] ["now","new"] (ah fG):=fsc
theorem vU{f:Addr}{fd:FuncData}(F:Fun K "writes" "writes" fG f fd)(CB:Has P w K mg base 1 "by_number" ["tree"] dw):FnOk P w K mg base CX0 2 f fd ["now","new"] rU:=by
 obtain⟨fB,fdB,GB,mB,kB,bB⟩:=CB;refine F.ok uC (λvs H Q E h=>?_) (λcdv A outer s H vs Q E hr h=>?_)
 ·obtain⟨t,u,rfl,_⟩:=h;rfl
 ·obtain⟨t,u,rfl,ht,hu,q⟩:=h;refine⟨_,af (ao (i:=2) uC.nd rfl (Or.inr rfl) (al GB hr rfl mB kB bB .nil aI (aa (pv 1) ae)))
   (aj (av (ip (N:=["node","goal"]) (cl:=[("goal",s.heap.objs.size+1)]) (k:=1) (js:=[2]) (g:=ca 0) rfl
     (LcOk.mk' ["goal"] rfl rfl (by decide +kernel) (by decide +kernel) ?hcl rfl (by decide +kernel)) rfl ?hj (cF (pv 0)) (λs H fp=>aE (i:=0) (show(["node","goal"]:List Str).Nodup by decide +kernel) rfl (Or.inl rfl) (Or.inr rfl))
     (λs H fp=>lO) (λs H fp=>lP)))),?_⟩
  case hcl =>
   intro y hy;rcases mem_cons.mp hy with e|hy
   ·rw[e];rfl
   ·cases hy
  case hj =>
   intro i j x h1 h2
   match i,h1,h2 with
   |0,h1,h2 =>
    cases h1;cases h2;exact⟨rfl,Or.inr (Or.inl rfl),(show((ah fG).names.lookup ("goal":Str)≠some NameKind.local)by decide +kernel),by first|exact Or.inl rfl|exact Or.inr rfl⟩
   |i+1,h1,h2=>simp at h1
  refine⟨_,rfl,u,[],rfl,hu,iM H,by decide,by simp[nds],λd H1 s1 nd1=>?_⟩;refine⟨_,rfl,t,rfl,⟨_,SqT.of (s1 _ _ ht)⟩,λp hp=>?_⟩;refine iD (α:=V) (fr:=[some (.ref d)]) [] id (zero_le _) hp (gY (SqT.of (s1 _ _ ht))) rfl (λ_=>false) (λ_ _ _=>False) (λ_ _ _ _ h _=>h) (λx H' k mx=>by cases mx) (λx H' k mx=>by cases mx) (λys H3 s3 hp3 hys=>?_);cases hys;exact q p H3 (s1.trans s3) hp3
def rV:Sp:=λvs H Q _=>∃(t u l:Addr) (zs:ZN) (rs:List Addr),vs=[.ref t,.ref u,.ref l]∧H t=some (.tup (aN zs))∧At H zs∧zs.length≤100∧((nds zs).map (·.num)).Nodup∧H u=some (.tup [])∧H l=some (.lst (rs.map V.ref))∧rs.length≤100∧(∀r∈rs,∃n:Int,H r=some (.tup [.str "drop",.int n])) ∧
 (∀z∈zs,z.2.par=0→∀r H',Same H H'→H' r=some (.tup [.str "drop",.int z.2.num])→Q (.ref r) H')∧((∀z∈zs,z.2.par≠0)→∀H',Same H H'→Q .non H')
theorem jG:FnScope ["now","new","deeds","drop","left","deed","moved"] ["now","new","deeds"] (ah dM):=fsc
theorem vV{f:Addr}{fd:FuncData}(F:Fun K "next_deed" "next_deed" dM f fd)(T:Txt mg)(CB:Has P w K mg base 1 "by_number" ["tree"] dw)(CD:Has P w K mg base 3 "next_drop" ["now","goal"] rR)(CP:Has P w K mg base 2 "placings" ["now","new"] rT):FnOk P w K mg base CX0 4 f fd ["now","new","deeds"] rV:=by
 obtain⟨fB,fdB,GB,mB,kB,bB⟩:=CB;obtain⟨fD,fdD,GD,mD,kD,bD⟩:=CD;obtain⟨fP,fdP,GP,mP,kP,bP⟩:=CP;refine F.ok jG (λvs H Q E h=>?_) (λcdv A outer s H vs Q E hr h=>?_)
 ·obtain⟨t,u,l,zs,rs,rfl,_⟩:=h;rfl
 ·obtain⟨t,u,l,zs,rs,rfl,ht,hA,hl,hnd,hu,hL,hrl,hrs,q1,q2⟩:=h;have hr1:Room 1 _:=hr.mono (by decide);have hr2:Room 2 _:=hr.mono (by decide);refine⟨_,af (ao (i:=3) jG.nd rfl (Or.inl rfl) (al GD hr rfl mD kD bD .nil aI (aa (pv 0) (aa (al GB hr1 rfl mB kB bB .nil aI (aa (pv 1) ae)) ae))))
   (af (aZ (am jT (pv 3) cb (ay _)) (aj (av (pv 3))) aD)
   (af (ao (i:=4) jG.nd rfl (Or.inl rfl) (al GP hr2 rfl mP kP bP .nil aI (aa (pv 0) (aa (pv 1) ae))))
   (af (ce PassesOwn.never rfl (cm (pv 4)) (aE (i:=5) jG.nd rfl (Or.inl rfl)) cV)
   (af (ao (i:=6) jG.nd rfl (Or.inl rfl) (aO (cN rfl) rfl T.dict boot_dict (aa (ip (N:=["deed"]) (cl:=[]) (k:=1) (js:=[]) (g:=ca 0) rfl (gw rfl (by decide +kernel) (by decide +kernel) (by decide +kernel)) rfl (λi j x h=>by simp at h)
    (cm (pv 2)) (λs H fp=>aE (i:=0) (show(["deed"]:List Str).Nodup by decide +kernel) rfl (Or.inl rfl) (Or.inr rfl))
    (λs H fp=>am du (aC (r:=ik K) aw (pv 0) ak (λ_ _=>rfl)) aR (ay _)) (λs H fp=>lP)) ae)))
   (af (ce PassesOwn.never rfl (cm (pv 4)) (aE (i:=5) jG.nd rfl (Or.inl rfl)) cV)
   (aj (av cb))))))),?_⟩
  refine⟨_,rfl,_,rfl,u,[],rfl,hu,iM H,by decide,by simp[nds],λd H1 s1 nd1=>?_⟩;refine⟨t,d,zs,rfl,s1 _ _ ht,hA.same s1,hl,hnd,nd1,λz hz hp r H2 s2 hr2=>?_,λhno H2 s2=>?_⟩
  ·exact⟨_,rfl,rfl,_,rfl,bh ⟨_,rfl,q1 z hz hp r H2 (s1.trans s2) hr2⟩⟩
  ·have s12:=s1.trans s2;refine⟨_,rfl,rfl,_,rfl,aP ⟨_,rfl,_,rfl,t,u,zs,rfl,s12 _ _ ht,hA.same s12,hl,hnd,s12 _ _ hu,λk H3 s3 hk=>?_⟩⟩;have s13:=s12.trans s3;refine⟨_,rfl,k,rfl,⟨_,SqL.of hk⟩,cW (xs:=[]) (λi σ H'=>(∃x5,σ=[some (.ref t),some (.ref u),some (.ref l),some .non,some (.ref k),x5,none])∧H'=H3) ⟨⟨_,rfl⟩,rfl⟩ (λi σ H' _ h=>by rw[h.2];exact SqL.of hk) (λi x σ H' hx h=>by simp at hx) (λσ H' h=>?_)⟩;obtain⟨⟨x5,rfl⟩,rfl⟩:=h;have hL3:=s13 _ _ hL;refine⟨_,rfl,l,rfl,⟨_,SqL.of hL3⟩,λp hp=>?_⟩;refine iD (fr:=[]) rs V.ref (by omega) hp (gZ (SqL.of hL3)) rfl (λ_=>false) (λ_ _ _=>False) (λ_ _ _ _ h _=>h) (λx H'' kk mx s4 _ hk'=>?_) (λx H' k mx g=>by cases g) (λys H4 s4 hp4 hys=>?_)
   ·obtain⟨n,hn⟩:=hrs x mx;refine⟨_,rfl,x,_,0,_,rfl,rfl,SqT.of (s4 _ _ (s13 _ _ hn)),rfl,rfl,_,rfl,?_⟩;rw[show decide (V.str ("drop":Str)=V.str ("move":Str))=false by decide +kernel];exact hk' H'' (Same.refl _)
   ·have e0:rs.filter (λ_=>false)=[]:=by simp
    rw[e0]at hys;cases hys;refine⟨p,[],rfl,hp4,λz hz=>(by cases hz),by decide,by simp,λg hg=>?_⟩;have s5:=ag (o:=.dK []) hg;have hk5:=s5 _ _ (s4 _ _ hk);have s15:=(s13.trans s4).trans s5;show qg _ _ _ _ (upd H4 g (.dK []));generalize upd H4 g (.dK [])=H5 at s5 hk5 s15⊢;refine⟨_,rfl,k,rfl,⟨_,SqL.of hk5⟩,cW (xs:=[]) (λi σ H'=>(∃x5,σ=[some (.ref t),some (.ref u),some (.ref l),some .non,some (.ref k),x5,some (.ref g)])∧H'=H5) ⟨⟨_,rfl⟩,rfl⟩ (λi σ H' _ h=>by rw[h.2];exact SqL.of hk5) (λi x σ H' hx h=>by simp at hx) (λσ H' h=>?_)⟩;obtain⟨⟨x5,rfl⟩,rfl⟩:=h;exact q2 hno _ s15
def lQ:Sp:=λvs H Q _=>∃t u zs y,vs=[.ref t,.ref u]∧Tre H t zs∧zs.length≤29∧H u=some (.tup [])∧y∈zs∧y.2.par=0∧(∀z∈zs,z.2.par=0→z=y)∧cR (.drop y.2.num)∧TW.Told (nds zs) (.drop y.2.num) (.inr []) ∧
 ∀l r H',Same H H'→H' l=some (.lst [.ref r])→H' r=some (.tup [.str "drop",.int y.2.num])→Q (.ref l) H'
theorem jH:FnScope ["old","new","deeds","now","deed"] ["old","new"] (ah eT):=fsc
theorem tT{f:Addr}{fd:FuncData}{cls:TW.Wd→Addr}(F:Fun K "in_steps" "in_steps" eT f fd)(CK:Has P w K mg base 2 "check_kinds" ["old","new"] rP)(CN:Has P w K mg base 4 "next_deed" ["now","new","deeds"] rV)(CW:Has P w K mg base 2 "writes" ["now","new"] rU)(CD:dm P w K mg base 4 "done" ["tree","deed"] (kG cls)):FnOk P w K mg base CX0 5 f fd ["old","new"] lQ:=by
 obtain⟨fK,fdK,GK,mK,kK,bK⟩:=CK;obtain⟨fN,fdN,GN,mN,kN,bN⟩:=CN;obtain⟨fW,fdW,GW,mW,kW,bW⟩:=CW;obtain⟨fD,fdD,GD,mD,kD,bD⟩:=CD;refine F.ok jH (λvs H Q E h=>?_) (λcdv A outer s H vs Q E hr h=>?_)
 ·obtain⟨t,u,zs,y,rfl,_⟩:=h;rfl
 ·obtain⟨t,u,zs,y,rfl,tr,hl,hu,hy,hy0,hone,hok,told,q⟩:=h;have hr2:Room 2 _:=hr.mono (by decide);have hnd:=cB tr.tr;refine⟨_,af (aT (al GK hr2 rfl mK kK bK .nil aI (aa (pv 0) (aa (pv 1) ae))))
   (af (ao (i:=2) jH.nd rfl (Or.inl rfl) (cw ae))
   (af (ao (i:=3) jH.nd rfl (Or.inl rfl) (pv 0))
   (af (ao (i:=4) jH.nd rfl (Or.inl rfl) (al GN hr rfl mN kN bN .nil aI (aa (pv 3) (aa (pv 1) (aa (pv 2) ae)))))
   (af (lf PassesOwn.never (am jT (pv 4) cb (ay _))
    (af (aT (eZ plainAttrs_list PySem.F.slot_list_append PySem.F.type_list_append br (pv 2) (aa (pv 4) ae)))
    (af (ao (i:=3) jH.nd rfl (Or.inl rfl) (al GD hr rfl mD kD bD .nil fu (aa (pv 3) (aa (pv 4) ae))))
    (aj (ao (i:=4) jH.nd rfl (Or.inl rfl) (al GN hr rfl mN kN bN .nil aI (aa (pv 3) (aa (pv 1) (aa (pv 2) ae)))))))))
   (aj (av (aU va (pv 2) (al GW hr2 rfl mW kW bW .nil aI (aa (pv 3) (aa (pv 1) ae)))))))))),?_⟩
  refine⟨_,rfl,_,rfl,t,u,zs,rfl,tr.tup,tr.nod,hu,λH1 s1=>⟨zero_le _,λl hlf=>?_⟩⟩;have s2:=ag (o:=.lst []) hlf;have gl:upd H1 l (.lst []) l=some (.lst []):=ac;have fl:H l=none:=s1.free hlf;generalize upd H1 l (.lst [])=H2 at s2 gl⊢;have s12:=s1.trans s2;have tr2:=tr.same s12;refine⟨_,rfl,_,rfl,_,rfl,_,rfl,t,u,l,zs,[],rfl,tr2.tup,tr2.nod,by omega,hnd,s12 _ _ hu,gl,by decide,λr hr=>(by cases hr),λz hz hp r H3 s3 hr3=>?_,λhno=>absurd hy0 (hno y hy)⟩;have ez:=hone z hz hp;subst ez;have s13:=s12.trans s3;have gl3:=s3 _ _ gl;refine lg (λσ H'=>(σ=[some (.ref t),some (.ref u),some (.ref l),some (.ref t),some (.ref r)]∧H'=H3)∨∃t',σ=[some (.ref t),some (.ref u),some (.ref l),some (.ref t'),some .non]∧Same H H'∧H' l=some (.lst [.ref r])∧H' t'=some (.tup [])∧H' r=some (.tup [.str "drop",.int z.2.num]))
   (λσ H'=>match σ with | [_,_,_,_,some (.ref _)]=>1 | _=>0) (.inl ⟨rfl,rfl⟩) (λσ H' h=>?_) ?_
  ·rcases h with⟨rfl,rfl⟩|⟨t',rfl,s4,gl4,gt4,gr4⟩
   ·refine⟨_,rfl,rfl,_,rfl,bh ?_⟩;refine⟨_,rfl,.inl ⟨rfl,_,SqL.of gl3⟩,_,rfl,l,_,_,rfl,rfl,gl3,ar (by decide),?_⟩;have nl:r≠l:=λe=>by rw[e,gl3]at hr3;cases hr3
    have s4:Same H (upd H' l (.lst ([]++[.ref r]))):=ba fl s13;have gl4:upd H' l (.lst ([]++[V.ref r])) l=some (.lst [.ref r]):=ac;have gr4:upd H' l (.lst ([]++[V.ref r])) r=some (.tup [.str "drop",.int z.2.num]):=by rw[ai nl];exact hr3
    generalize upd H' l (.lst ([]++[V.ref r]))=H4 at s4 gl4 gr4⊢;refine⟨_,rfl,_,rfl,t,r,.drop z.2.num,zs,rfl,tr.same s4,hl,gr4,hok,⟨λus t' H5 s5 ht' hA' td=>?_,λwd H5 s5 td=>absurd (told.one tr.tr td) (by intro h;cases h)⟩⟩;have eu:us=[]:=by
     have:=told.one tr.tr td;injection this with e
     cases us with
     |nil=>rfl
     |cons a r=>cases e
    subst eu;have s45:=s4.trans s5;refine⟨_,rfl,_,rfl,_,rfl,t',u,l,[],[r],rfl,ht',iM _,by decide,by simp[nds],s45 _ _ hu,s5 _ _ gl4,(show 1≤100 by decide),λr' hr'=>?_,λy hy=>(by cases hy),λ_ H6 s6=>?_⟩
    ·have:r'=r:=by simpa using hr'
     rw[this];exact⟨_,s5 _ _ gr4⟩
    ·exact⟨.inr ⟨t',rfl,s45.trans s6,s6 _ _ (s5 _ _ gl4),s6 _ _ ht',s6 _ _ (s5 _ _ gr4)⟩,Nat.zero_lt_one⟩
   ·refine⟨_,rfl,rfl,_,rfl,aP ?_⟩;refine⟨_,rfl,_,rfl,_,rfl,t',u,rfl,gt4,s4 _ _ hu,λk H5 s5 hk=>?_⟩;refine⟨l,k,_,_,rfl,rfl,s5 _ _ gl4,hk,(show 1≤sizeLine from au (by decide)),λp hp=>?_⟩;exact q p r _ ((s4.trans s5).trans (ag hp)) ac (bQ hp (s5 _ _ gr4))
  ·rintro _ _ _ _ m ⟨v,e,e2,b,e3,h⟩;exact⟨v,e,e2,b,e3,m _ _ h⟩
end
end TK
namespace TB
open PySem PySem.SetTable
theorem pZ{t:SetTable}{l:List Nat}(T:Tb t l)(mk:Mk t.mask)(hl:l.length≤t.mask)(h:Int):∃j,t.freeSlot h=some (j,false)∧j∉l∧j≤t.mask:=by
 obtain⟨j₀,hj₀,hj₀'⟩:=nu t.mask l hl;obtain⟨n₀,hn₀,en₀⟩:=cover mk.cyc h hj₀;obtain⟨N,hNle,hN,hNno⟩:=qO (λm=>pos t.mask h m∉l) n₀ (by rw[en₀];exact hj₀');have hp:=ly t (λ_=>h+1) h N (st t.mask h) (10*turns t.mask) (by omega) (λm hm=>by
  have hin:pos t.mask h m∈l:=by
   by_cases z:pos t.mask h m∈l
   ·exact z
   ·exact(hNno m hm z).elim
  obtain⟨i,hi,e⟩:=mem_iff_getElem.mp hin;exact⟨i,tf T (by show l[i]?=some (pos t.mask h m);rw[getElem?_eq_getElem hi,e]),by rw[beq_eq_false_iff_ne];omega⟩) (qP T hN)
 refine⟨pos t.mask h N,?_,hN,iu _ _ _⟩;unfold SetTable.freeSlot;have hp':t.probe (λ_=>h+1) h (t.probeStart h)=some (.empty (pos t.mask h N) none):=hp;rw[hp'];rfl
theorem tU{t:SetTable}{l:List Nat}(T:Tb t l)(mk:Mk t.mask)(hl:l.length+1≤t.mask)(es:Array (Int×Value))(hes:es.size=l.length)(h:Int)(x:Value):
  ∃p t' l',layNew t es h x=(insertAt es p (h,x),t',false,false)∧Tb t' l'∧l'.length=l.length+1∧t'.mask=t.mask∧t'.plain=t.plain∧t'.led=t.led:=by
 obtain⟨j,hf,hj,hjm⟩:=pZ T mk (by omega) h;obtain⟨T1,hp1,hm1⟩:=vq T hj hjm;have hlen:(l.take (below l.toArray j)++j::l.drop (below l.toArray j)).length=l.length+1:=by
  rw[length_append,length_cons,length_take,length_drop];have:=(cg T.up j).1;omega
 have hsz:(insertAt es (t.put j).2 (h,x)).size=l.length+1:=by
  rw[←length_toList,SetTable.toList_insertAt,length_append,length_cons,length_take,length_drop,length_toList,hes,hp1];have:=(cg T.up j).1;omega
 have hfit:(t.put j).1.fits (insertAt es (t.put j).2 (h,x)).size=true:=ki T1 (by rw[hlen,hsz]) (by rw[hsz,hm1];exact hl);refine⟨(t.put j).2,(t.put j).1,_,?_,T1,hlen,hm1,rfl,rfl⟩;unfold layNew;rw[hf];show(insertAt es (t.put j).2 (h,x),(t.put j).1.orStandIn (insertAt es (t.put j).2 (h,x)).size,false,!((t.put j).1.fits (insertAt es (t.put j).2 (h,x)).size))=_;rw[hfit];unfold SetTable.orStandIn;rw[if_pos hfit];rfl
theorem qa{t:SetTable}(es:Array (Int×Value))(h0:0<es.size)(h60:es.size≤60):
  ∃es' t' l',relayAll t es (grown es.size)=(es',t',false)∧es'.toList.Perm es.toList∧Tb t' l'∧l'.length=es.size∧Mk t'.mask∧es.size*5<t'.mask*3∧t'.plain=t.plain∧t'.led=t.led:=by
 have hw:grown es.size=es.size*4:=by unfold SetTable.grown;rw[if_neg (by omega)]
 obtain⟨hmk,hle,h256⟩:=ir (w:=es.size*4) (by omega);rw[hw];obtain⟨t',zs,e,hm,hled,hpl,T,hperm,_⟩:=jw (t:=t) (hashes:=es.map (·.1)) (wanted:=es.size*4) hmk.cyc (by rw[size_map];omega);rw[size_map]at hperm;have hlen:zs.length=es.size:=by
  have:=hperm.length_eq;rw[length_map,length_range]at this;exact this
 have hp:(((zs.map (·.2)).toArray).filterMap (λi=>es[i]?)).toList.Perm es.toList:=by
  rw[Array.toList_filterMap];exact(hperm.filterMap _).trans (by rw[filterMap_getElem?_range])
 have hsz:(((zs.map (·.2)).toArray).filterMap (λi=>es[i]?)).size=es.size:=by
  rw[←length_toList,hp.length_eq,length_toList]
 have hfit:t'.fits (((zs.map (·.2)).toArray).filterMap (λi=>es[i]?)).size=true:=ki T (by rw[hsz,length_map,hlen]) (by rw[hsz,hm];omega);have hcov:coversAll (zs.map (·.2)).toArray es.size=true:=by
  unfold coversAll;exact List.isPerm_iff.mpr hperm
 refine⟨((zs.map (·.2)).toArray).filterMap (λi=>es[i]?),t',zs.map (·.1),?_,hp,T,by rw[length_map,hlen],by rw[hm];exact hmk,by rw[hm];omega,hpl,hled⟩;unfold relayAll;rw[e];dsimp only;rw[hcov,hfit];rfl
def bt(w:World):Bool:=w.params.followText "set-order"
def fH(tk:Int→Tok)(n:Int):Int×Value:=(hashInt n,.int n (tk n))
structure ISt(w:World)(es:Array (Int×Value))(t:SetTable)(ns:List Int):Prop where
 ent:∃tk,es.toList=ns.map (fH tk)
 nd:ns.Nodup
 tb:∃l,Tb t l∧l.length=ns.length
 mkm:Mk t.mask
 room:ns.length*5<t.mask*3
 pl:t.plain=true
 led:bt w=false→t.led=true
def IS(w:World)(h:Heap)(a:Addr)(ns:List Int):Prop:=∃o es ep t,h.get? a=some o∧o.ExactSet∧o.data=.set es ep t∧ISt w es t ns
theorem ISt.size{w:World}{es:Array (Int×Value)}{t:SetTable}{ns:List Int}(h:ISt w es t ns):es.size=ns.length:=by
 obtain⟨tk,e⟩:=h.ent;rw[←length_toList,e,length_map]
theorem ISt.fits{w:World}{es:Array (Int×Value)}{t:SetTable}{ns:List Int}(h:ISt w es t ns):t.fits es.size=true:=by
 obtain⟨l,T,hl⟩:=h.tb;have:=h.mkm.ge;have:=h.room;exact ki T (by rw[hl,h.size]) (by rw[h.size];omega)
theorem ISt.elems{prog:Program}{w:World}{es:Array (Int×Value)}{t:SetTable}{ns:List Int}(h:ISt w es t ns):ElemsOf (intKind prog w) es.toList:=by
 obtain⟨tk,e⟩:=h.ent;rw[e];intro z hz;obtain⟨n,hn,rfl⟩:=mem_map.mp hz;exact⟨⟨n,intKind_is _ _ _ _,rfl⟩,rfl⟩
theorem cD{es':List (Int×Value)}:∀{l:List (Int×Value)},es'.Perm l→∀{tk:Int→Tok}{ns:List Int},l=ns.map (fH tk)→∃ns':List Int,ns'.Perm ns∧es'=ns'.map (fH tk):=by
 intro l p tk ns e;have hall:∀z∈es',∃n,z=fH tk n:=λz hz=>by
  have:=p.mem_iff.mp hz;rw[e]at this;obtain⟨n,hn,e⟩:=mem_map.mp this;exact⟨n,e.symm⟩
 obtain⟨ns',e'⟩:∃ns':List Int,es'=ns'.map (fH tk):=by
  clear p e
  induction es' with
  |nil=>exact⟨[],rfl⟩
  |cons z es' ih =>
   obtain⟨n,hn⟩:=hall z mem_cons_self;obtain⟨ns',e⟩:=ih λy hy=>hall y (mem_cons_of_mem _ hy);exact⟨n::ns',by rw[hn,e];rfl⟩
 refine⟨ns',?_,e'⟩;have hv:∀m:List Int,(m.map (fH tk)).map (λz=>match z.2 with | .int n _=>n | _=>0)=m:=λm=>by
  rw[map_map]
  induction m with
  |nil=>rfl
  |cons x m ih=>rw[map_cons,ih];rfl
 have:=p.map (λz=>match z.2 with | .int n _=>n | _=>0);rw[e',e,hv,hv]at this;exact this
theorem rW{tk:Int→Tok}{ns:List Int}{n:Int}{t:Tok}(hn:n∉ns):∃tk',(fH tk' n=(hashInt n,Value.int n t))∧ns.map (fH tk')=ns.map (fH tk):=by
 refine⟨λm=>if m=n then t else tk m,by show(hashInt n,Value.int n (if n=n then t else tk n))=_;rw[if_pos rfl],?_⟩
 apply map_congr_left;intro m hm;show(hashInt m,Value.int m (if m=n then t else tk m))=_;rw[if_neg (by rintro rfl;exact hn hm)];rfl
section
variable{prog:Program}{w:World}{A:Around}{E:Value→Shared→Prop}{s:Shared}
theorem add_int{a:Addr}{ns:List Int}{n:Int}{t0:Tok}{Q:Bool→Shared→Prop}(hS:IS w s.heap a ns)(hroom:ns.length<60)(h:∀r h' ns',SameBut a s.heap h'→IS w h' a ns'→((n∈ns∧ns'=ns)∨(n∉ns∧ns'.Perm (n::ns)))→Q r {s with heap:=h'}):
  wpAny (model prog w) A (setAddHashed a (.int n t0) (hashInt n)) Q E s:=by
 obtain⟨o,es,ep,t,ho,hex,hd,S⟩:=id hS;have hsz:=S.size;have hf:=S.fits;have hel:ElemsOf (intKind prog w) es.toList:=S.elems;have hkey:(intKind prog w).is n (.int n t0)=true:=intKind_is _ _ _ _;have hb:es.size<scanBound:=by unfold scanBound;omega
 have hge:=S.mkm.ge;have hrm:=S.room;unfold setAddHashed setAddHashedIn;refine wpAny_holding (wpAny_bind (wpAny_setState_of ho hd hf ?_));dsimp only;rw[byScan_of (knd:=intKind prog w) (x:=.int n t0) rfl hb hel];simp only[↓reduceIte];unfold setAddByScan;refine wpAny_bind ?_;refine wpAny_bind (wpAny_rule ?_);refine wpAny_bind (wpAny_setScan_of (knd:=intKind prog w) (k:=n) hkey ho hd hf hel ?_);obtain⟨tk,hent⟩:=S.ent;cases hr:List.findIdx? (λe=>(intKind prog w).is n e.2) es.toList with
 |some j =>
  dsimp only;obtain⟨hj,hpj,_⟩:=List.findIdx?_eq_some_iff_getElem.mp hr;have hin:n∈ns:=by
   have hm:es.toList[j]∈es.toList:=getElem_mem hj;generalize es.toList[j]=z at hm hpj;rw[hent]at hm;obtain⟨m,hm1,rfl⟩:=mem_map.mp hm;have:=(intKind prog w).inj _ n m hpj (intKind_is _ _ _ _);rw[this];exact hm1
  refine wpAny_pure (wpAny_pure ?_);have e:s={s with heap:=s.heap}:=by cases s;rfl
  have:=h false s.heap ns (SameBut.refl a s.heap) hS (.inl ⟨hin,rfl⟩);rw[e];exact this
 |none =>
  dsimp only;have hnin:n∉ns:=λhin=>by
   have:=List.findIdx?_eq_none_iff.mp hr (fH tk n) (by rw[hent];exact mem_map.mpr ⟨n,hin,rfl⟩);have h2:(intKind prog w).is n (fH tk n).2=true:=intKind_is _ _ _ _;rw[h2]at this;cases this
  obtain⟨l,T,hl⟩:=S.tb;obtain⟨p,t1,l1,e1,T1,hl1,hm1,hp1,hled1⟩:=tU T S.mkm (by omega) es (by omega) (hashInt n) (.int n t0);rw[e1];dsimp only;obtain⟨tk',htk1,htk2⟩:=rW (tk:=tk) (t:=t0) hnin;obtain⟨ns1,hns1,hes1⟩:=cD (es':=(insertAt es p (hashInt n,Value.int n t0)).toList) (l:=(n::ns).map (fH tk')) (tk:=tk') (ns:=n::ns) (by
   refine(SetTable.insertAt_perm es p _).trans ?_;rw[Array.toList_push,hent,←htk2,map_cons,htk1];exact List.perm_append_singleton _ _) rfl
  have hn1:ns1.length=ns.length+1:=by rw[hns1.length_eq,length_cons]
  have hnd1:ns1.Nodup:=hns1.nodup_iff.mpr (nodup_cons.mpr ⟨hnin,S.nd⟩);have hsz1:(insertAt es p (hashInt n,Value.int n t0)).size=ns1.length:=by rw[←length_toList,hes1,length_map]
  refine wpAny_bind (wpAny_pure ?_);rw[hp1,S.pl];simp only[if_true];refine wpAny_bind ?_;rw[hashByValue_scannable 8 (x:=.int n t0) rfl];refine wpAny_pure ?_;simp only[plainKind,if_true];refine wpAny_bind (wpAny_storeSet_of ho hd ?_ (by rw[hsz1];exact qT (by omega)));have ho1:=stored ho hd (insertAt es p (hashInt n,Value.int n t0)) t1;have hsb1:=SameBut.update s.heap a (Obj.putSet (insertAt es p (hashInt n,Value.int n t0)) t1);have hfill:t1.fill=ns1.length:=by rw[fj T1,hl1,hl,hn1]
  by_cases hfull:t1.tooFull=true
  ·rw[hfull];simp only[Bool.not_false,Bool.and_self,if_true];obtain⟨es2,t2,l2,e2,p2,T2,hl2,hmk2,hrm2,hp2,hled2⟩:=qa (t:=t1) (insertAt es p (hashInt n,Value.int n t0)) (by omega) (by omega);rw[e2];dsimp only;obtain⟨ns2,hns2,hes2⟩:=cD p2 hes1;have hn2:ns2.length=ns1.length:=hns2.length_eq;have hsz2:es2.size=ns2.length:=by rw[←length_toList,hes2,length_map]
   refine wpAny_bind (wpAny_pure ?_);refine wpAny_bind (wpAny_storeSet_of ho1 rfl ?_ (by rw[hsz2];exact qT (by omega)));have ho2:=stored (s:={s with heap:=s.heap.update a (Obj.putSet (insertAt es p (hashInt n,Value.int n t0)) t1)}) ho1 rfl es2 t2
   refine wpAny_pure (wpAny_pure (h true _ ns2 (hsb1.trans (SameBut.update _ a _)) ⟨_,es2,_,t2,ho2,hex,rfl,⟨⟨tk',hes2⟩,hns2.nodup_iff.mpr hnd1,⟨l2,T2,by omega⟩,hmk2,by rw[hn2,←hsz1];exact hrm2,by rw[hp2,hp1];exact S.pl,λz=>by rw[hled2,hled1];exact S.led z⟩⟩ (.inr ⟨hnin,hns2.trans hns1⟩)))
  ·have hnf:t1.tooFull=false:=by simpa using hfull
   rw[hnf];simp only[Bool.and_false,false_eq_true,if_false];refine wpAny_pure (wpAny_pure (h true _ ns1 hsb1 ⟨_,_,_,t1,ho1,hex,rfl,⟨⟨tk',hes1⟩,hnd1,⟨l1,T1,by omega⟩,by rw[hm1];exact S.mkm,?_,by rw[hp1];exact S.pl,λz=>by rw[hled1];exact S.led z⟩⟩ (.inr ⟨hnin,hns1⟩)));unfold SetTable.tooFull at hnf;rw[decide_eq_false_iff_not,hfill]at hnf;omega
end
theorem iN:entryFor table "set.__iter__"=some Builtin.«frozenset.__iter__» :=
 entryFor_alias (id':="frozenset.__iter__") (by kernel_rfl) rfl (by decide +kernel) (by kernel_rfl)
theorem bu:Slot "set_iterator" "__next__" "set_iterator.__next__" :=
 .of (owner:="set_iterator") (n:="__next__") (by rw[typeLookup_type,builtinLookup_eq_fast];kernel_rfl) (by decide +kernel) (by decide +kernel) (by decide +kernel)
  (by first|exact .inl (by decide +kernel)|exact .inr (by decide +kernel)) (by rw[isSubtype_type];kernel_rfl)
theorem fO:Slot "set_iterator" "__iter__" "set_iterator.__iter__" :=
 .of (owner:="set_iterator") (n:="__iter__") (by rw[typeLookup_type,builtinLookup_eq_fast];kernel_rfl) (by decide +kernel) (by decide +kernel) (by decide +kernel)
  (by first|exact .inl (by decide +kernel)|exact .inr (by decide +kernel)) (by rw[isSubtype_type];kernel_rfl)
theorem eF:entryFor table "set_iterator.__next__"=some Builtin.«set_iterator.__next__»:=entryFor_of_tree (by kernel_rfl)
theorem lR:Manifest.owners.lookup (String.ofList ['r','o','t','a','r','e','t','i','_','t','e','s'].reverse)=some Manifest.sig_set_iterator:=by kernel_rfl
theorem fT(a:Value):argsOk "set_iterator.__next__" ⟨[a],[]⟩:=by
 unfold argsOk;rw[signature?_of (id:="set_iterator.__next__") (n:=['_','_','t','x','e','n','_','_']) (o:=['r','o','t','a','r','e','t','i','_','t','e','s']) (by kernel_rfl) lR];kernel_rfl
theorem kH(a:Value):argsOk "set_iterator.__iter__" ⟨[a],[]⟩:=by
 unfold argsOk;rw[signature?_of (id:="set_iterator.__iter__") (n:=['_','_','r','e','t','i','_','_']) (o:=['r','o','t','a','r','e','t','i','_','t','e','s']) (by kernel_rfl) lR];kernel_rfl
theorem jg:∃b,entryFor table "set_iterator.__iter__"=some b∧b=Builtin.«dict_keyiterator.__iter__» :=
 ⟨_,entryFor_alias (id':="dict_keyiterator.__iter__") (by kernel_rfl) rfl (by decide +kernel) (by kernel_rfl),rfl⟩
theorem jI{α:Type}(next:Nat→Nat):∀(fuel k:Nat)(left:List α)(out:Array α),left.length=fuel→(pickOrder.go next fuel k left out).toList.Perm (out.toList++left)
 |0,k,left,out,h=>by
  have:left=[]:=length_eq_zero_iff.mp h;subst this;rw[append_nil];exact .rfl
 |fuel+1,k,left,out,h=>by
  unfold pickOrder.go;have hlt:next k % left.length<left.length:=mod_lt _ (by omega);rw[getElem?_eq_getElem hlt];dsimp only;refine(jI next fuel (k+1) _ _ (by rw[List.length_eraseIdx,if_pos hlt];omega)).trans ?_;rw[Array.toList_push,append_assoc];refine List.Perm.append_left _ ?_;rw[List.singleton_append];rw[List.eraseIdx_eq_take_drop_succ];refine List.perm_middle.symm.trans ?_;rw[List.getElem_cons_drop,List.take_append_drop]
def dN(w:World)(a:Addr)(ep:Nat)(es:Array (Int×Value)):Array (Int×Value):=if bt w then pickOrder (w.params.setOrder a ep) es else es
theorem iO(w:World)(a:Addr)(ep:Nat)(es:Array (Int×Value)):(dN w a ep es).toList.Perm es.toList:=by
 unfold dN
 split
 ·exact jI _ _ _ _ _ rfl
 ·exact .rfl
theorem lS(w:World)(a:Addr)(ep:Nat)(es:Array (Int×Value)):(dN w a ep es).size=es.size:=by
 rw[←length_toList,(iO w a ep es).length_eq,length_toList]
def nH(w:World)(t:SetTable)(h:Heap)(I a:Addr)(n ep i:Nat):Prop :=
 ∃o slot,h.get? I=some o∧o.cls=.type "set_iterator"∧o.data=.fields #[.int (slot:Nat) 0,.int (i:Nat) 0,.ref a,.int (n:Nat) 0,.int (ep:Nat) 0]∧(bt w=false→below t.place slot=i)
theorem nH.typeIs{w:World}{t:SetTable}{s:Shared}{I a:Addr}{n ep i:Nat}(x:nH w t s.heap I a n ep i):s.TypeIs (.ref I) "set_iterator":=let⟨o,_,ho,hc,_⟩:=x;⟨o,ho,hc⟩
section
variable{prog:Program}{w:World}{A:Around}{E:Value→Shared→Prop}{s:Shared}
theorem gC{es:Array (Int×Value)}{t:SetTable}{ns:List Int}(S:ISt w es t ns):(!t.plain&&decide (es.size>1))=false:=by rw[S.pl];rfl
theorem rX{a:Addr}{o:Obj}{es:Array (Int×Value)}{ep:Nat}{t:SetTable}{ns:List Int}{Q:Value→Shared→Prop}(S:ISt w es t ns)(ho:s.heap.get? a=some o)(hex:o.ExactSet)(hd:o.data=.set es ep t)(hQ:Q (.ref s.heap.objs.size) {s with heap:=s.heap.push {cls:=.type "set_iterator",data:=.fields #[.int 0 0,.int 0 0,.ref a,.int es.size 0,.int ep 0]}}):wpAny (model prog w) A (pyIter (.ref a)) Q E s:=by
 have hT:s.TypeIs (.ref a) "set":=⟨o,ho,hex.1⟩;refine wpAny_pyIter_slot hT F.slot_set_iter (wpAny_call_entry F.slot_set_iter hT iN ?_ (F.args_set_iter_1 _));unfold Builtin.«frozenset.__iter__» Builtin.Frozenset.slot0;refine wpAny_bind ?_;show wpAny _ _ (pure a) _ _ s;refine wpAny_pure ?_;unfold Builtin.Frozenset.sizeOf;refine wpAny_bind (wpAny_bind (wpAny_setEntries_of ho hd S.fits (wpAny_pure ?_)));refine wpAny_bind ?_;unfold setDrawn;refine wpAny_bind (wpAny_setState_of ho hd S.fits ?_);unfold setsByText;refine wpAny_bind (wpAny_bind (wpAny_askSetting (wpAny_pure ?_)));refine wpAny_pure ?_;have hdr:(!(model prog w).w.params.followText "set-order"&&(!t.plain&&decide (es.size>1)))=false:=by rw[gC S,Bool.and_false]
 show wpAny _ _ (if (!(model prog w).w.params.followText "set-order"&&(!t.plain&&decide (es.size>1)))=true then _ else _) _ _ _
 rw[hdr];simp only[false_eq_true,if_false];refine wpAny_bind (wpAny_pure ?_);refine wpAny_bind (wpAny_setEpoch_of ho hd S.fits ?_);refine wpAny_bind (wpAny_newObj_type (wpAny_pure ⟨_,rfl,"set_iterator",_,⟨_,get?_push_size _ rfl,rfl⟩,bu.lookup,?_⟩));simpa [rawInt]using hQ
theorem lT{a:Addr}{o:Obj}{es:Array (Int×Value)}{ep slot i:Nat}{t:SetTable}{ns:List Int}{Q:Option (Value×Nat)→Shared→Prop}(S:ISt w es t ns)(ho:s.heap.get? a=some o)(hd:o.data=.set es ep t)(hs:bt w=false→below t.place slot=i)(h1:∀v slot',(dN w a ep es)[i]?.map (·.2)=some v→(bt w=false→below t.place slot'=i+1)→Q (some (v,slot')) s)(h2:(dN w a ep es)[i]?=none→Q none s):wpAny (model prog w) A (setNext a slot i ep) Q E s:=by
 unfold setNext;refine wpAny_bind (wpAny_setState_of ho hd S.fits ?_);unfold setsByText;refine wpAny_bind (wpAny_bind (wpAny_askSetting (wpAny_pure ?_)));show wpAny _ _ (if bt w=true then _ else _) _ _ _;cases hb:bt w with
 |true =>
  simp only[if_true,bne_self_eq_false,false_eq_true,if_false];refine wpAny_bind ?_;unfold setWalk;refine wpAny_bind (wpAny_setState_of ho hd S.fits ?_);unfold setsByText;refine wpAny_bind (wpAny_bind (wpAny_askSetting (wpAny_pure ?_)));show wpAny _ _ (if bt w=true then _ else _) _ _ _;rw[hb];simp only[if_true];refine wpAny_bind (wpAny_askSetting (wpAny_pure ?_));have e:dN w a ep es=pickOrder (w.params.setOrder a ep) es:=by unfold dN;rw[hb];rfl
  rw[e]at h1 h2;show wpAny _ _ (pure (((pickOrder (w.params.setOrder a ep) es)[i]?).map λe=>(e.2,slot))) _ _ _;cases hx:(pickOrder (w.params.setOrder a ep) es)[i]? with
  |none=>exact wpAny_pure (h2 hx)
  |some x=>exact wpAny_pure (h1 x.2 slot (by rw[hx];rfl) (λz=>absurd (hb.symm.trans z) (by decide)))
 |false =>
  simp only[false_eq_true,if_false];have e:dN w a ep es=es:=by unfold dN;rw[hb];rfl
  rw[e]at h1 h2;show wpAny _ _ (if (!t.plain&&decide (es.size>1))=true then _ else _) _ _ _
  rw[gC S];simp only[false_eq_true,if_false];refine wpAny_bind ?_;show wpAny _ _ (if (!t.led && !es.isEmpty)=true then _ else _) _ _ _
  rw[S.led hb];simp only[Bool.not_true,Bool.false_and,false_eq_true,if_false];refine wpAny_pure ?_;have hsl:=hs hb;obtain⟨l,T,hl⟩:=S.tb;have hlen:l.length=es.size:=by rw[hl,S.size]
  rw[hsl]
  by_cases hi:i<es.size
  ·have e1:es[i]?=some es[i]:=Array.getElem?_eq_getElem hi;have e2:t.place[i]?=some (l[i]'(by omega)):=by rw[T.pl,List.getElem?_toArray,getElem?_eq_getElem (by omega)]
   rw[e1,e2];refine wpAny_pure (h1 _ _ (by rw[e1];rfl) λ_=>?_);obtain⟨b1,b2,b3⟩:=cg T.up (l[i]'(by omega)+1);rw[T.pl];rcases Nat.lt_trichotomy (below l.toArray (l[i]'(by omega)+1)) (i+1)with z|z|z
   ·have:=b3 i (by omega) (by omega);omega
   ·exact z
   ·have hi2:i+1<l.length:=by omega
    have q1:=b2 (i+1) hi2 z;have q2:=pairwise_iff_getElem.mp T.up i (i+1) (by omega) hi2 (by omega);omega
  ·have e1:es[i]?=none:=Array.getElem?_eq_none (by omega);rw[e1];exact wpAny_pure (h2 e1)
theorem tV{I a:Addr}{o:Obj}{es:Array (Int×Value)}{ep i:Nat}{t:SetTable}{ns:List Int}{Q:Option Value→Shared→Prop}(S:ISt w es t ns)(hi:i<es.size)(hit:nH w t s.heap I a es.size ep i)(ho:s.heap.get? a=some o)(hd:o.data=.set es ep t)(hne:a≠I)(hQ:∀v h',(dN w a ep es)[i]?.map (·.2)=some v→nH w t h' I a es.size ep (i+1)→SameBut I s.heap h'→Q (some v) {s with heap:=h'}):wpAny (model prog w) A (pyNext (.ref I)) Q E s:=by
 obtain⟨oi,slot,hoi,hci,hdi,hsl⟩:=id hit;unfold pyNext;refine wpAny_bind (wpAny_attempt (wpAny_callSpecial?_slot (name:=ofString "__next__") hit.typeIs bu
  (wpAny_call_entry bu hit.typeIs eF ?_ (fT _))))
 unfold Builtin.«set_iterator.__next__»;refine wpAny_bind (wpAny_pure ?_);refine wpAny_bind (wpAny_fieldsOf hoi hdi ?_);dsimp only;refine wpAny_bind (wpAny_setEntries_of ho hd S.fits ?_);rw[if_neg (by simp)];show wpAny _ _ (setNext a (toNat (slot:Int)) (toNat (i:Int)) (toNat (ep:Int)) >>= _) _ _ _;rw[toNat_natCast,toNat_natCast,toNat_natCast];refine wpAny_bind (lT S ho hd hsl (λv slot' hv hs'=>?_) λhn=>?_)
 ·dsimp only;refine wpAny_bind (wpAny_setField hoi hdi (by simp) ?_);have h1:(s.heap.update I (Obj.mapFields (·.setIfInBounds 0 (rawInt (slot':Nat))))).get? I=some _:=get?_update_self _ hoi (Obj.isFreed_of_fields (Obj.data_mapFields hdi _));refine wpAny_bind (wpAny_setField h1 (Obj.data_mapFields hdi _) (by simp) ?_);have h2:=get?_update_self (Obj.mapFields (·.setIfInBounds 1 (rawInt ((i:Int)+1)))) h1 (Obj.isFreed_of_fields (Obj.data_mapFields (Obj.data_mapFields hdi _) _));refine wpAny_pure ⟨_,rfl,wpAny_pure (hQ v _ hv ⟨_,slot',h2,?_,?_,hs'⟩ ((SameBut.update ..).trans (SameBut.update ..)))⟩
  ·rw[Obj.cls_mapFields,Obj.cls_mapFields];exact hci
  ·rw[Obj.data_mapFields (Obj.data_mapFields hdi _)];simp[rawInt]
 ·exfalso
  rw[Array.getElem?_eq_none_iff,lS]at hn;omega
theorem vW{I a:Addr}{o:Obj}{es:Array (Int×Value)}{ep:Nat}{t:SetTable}{ns:List Int}{Q:Option Value→Shared→Prop}(hh:A.handled=none)(S:ISt w es t ns)(hit:nH w t s.heap I a es.size ep es.size)(ho:s.heap.get? a=some o)(hd:o.data=.set es ep t)(hQ:∀h',ExtBut I s.heap h'→Q none {s with heap:=h'}):wpAny (model prog w) A (pyNext (.ref I)) Q E s:=by
 obtain⟨oi,slot,hoi,hci,hdi,hsl⟩:=id hit;unfold pyNext;refine wpAny_bind (wpAny_attempt (wpAny_callSpecial?_slot (name:=ofString "__next__") hit.typeIs bu
  (wpAny_call_entry bu hit.typeIs eF ?_ (fT _))))
 unfold Builtin.«set_iterator.__next__»;refine wpAny_bind (wpAny_pure ?_);refine wpAny_bind (wpAny_fieldsOf hoi hdi ?_);dsimp only;refine wpAny_bind (wpAny_setEntries_of ho hd S.fits ?_);rw[if_neg (by simp)];show wpAny _ _ (setNext a (toNat (slot:Int)) (toNat (es.size:Int)) (toNat (ep:Int)) >>= _) _ _ _;rw[toNat_natCast,toNat_natCast,toNat_natCast];refine wpAny_bind (lT S ho hd hsl (λv slot' hv hs'=>?_) λhn=>?_)
 ·exfalso
  have:(dN w a ep es)[es.size]?=none:=Array.getElem?_eq_none (by rw[lS];exact le_refl _);rw[this]at hv;cases hv
 ·dsimp only;refine wpAny_bind (wpAny_setField hoi hdi (by simp) ?_);show wpAny _ _ (newExc (.type "StopIteration") [] >>= _) _ _ _;refine wpAny_bind ?_;simp only[newExc,newTuple];refine wpAny_bind (wpAny_newObj_type ?_ (by size_fits));refine wpAny_bind (m:=firstArgMember _ _) (wpAny_of_eq (a:=Value.none) (by first|rfl|(simp only[firstArgMember];rfl)) ?_)
  refine wpAny_newObj_type ?_ (by size_fits);simp only[raiseNew];refine wpAny_bind (wpAny_handled ?_);rw[show A.in1.handled=none from hh];refine wpAny_bind (wpAny_pure (wpAny_throw ?_));refine wpAny_bind (wpAny_isInstance (T:="StopIteration") (b:=true) ⟨_,get?_push_size _ rfl,rfl⟩ isSubtype_stop ?_);exact wpAny_pure (hQ _ (((SameBut.update ..).extBut.push _).push _))
theorem tW{I a:Addr}{n ep i:Nat}{t:SetTable}{Q:Value→Shared→Prop}(hit:nH w t s.heap I a n ep i)(h:Q (.ref I) s):wpAny (model prog w) A (pyIter (.ref I)) Q E s:=by
 obtain⟨b,hb,e⟩:=jg;subst e;refine wpAny_pyIter_slot hit.typeIs fO (wpAny_call_entry fO hit.typeIs hb ?_ (kH _));show wpAny _ _ (ret (.ref I)) _ _ s;exact wpAny_pure ⟨_,rfl,"set_iterator",_,hit.typeIs,bu.lookup,h⟩
theorem qb{es:Array (Int×Value)}{t:SetTable}{ns:List Int}{ep:Nat}(S:ISt w es t ns)(hh:A.handled=none)(I a:Addr)(hne:a≠I)(o:Obj)(hd:o.data=.set es ep t):
  Walks prog w A I [I,a] [I] es.size (λi v=>(dN w a ep es)[i]?.map (·.2)=some v) (λi h=>nH w t h I a es.size ep i∧h.get? a=some o) where
 sub:=λb hb=>by simp at hb;simp[hb]
 frame:=λi h h' st hk=>by
  obtain⟨⟨oi,slot,h1,h2⟩,h3⟩:=st;exact⟨⟨oi,slot,hk I (by simp) _ h1,h2⟩,hk a (by simp) _ h3⟩
 item:=λi s Q E hi st hQ=>by
  refine tV S hi st.1 st.2 hd hne λv h' hv hit' hs'=>?_;exact hQ v h' s.toks hv ⟨hit',hs'.extBut a o hne st.2⟩ λb o hb e=>hs'.extBut b o (λh=>hb (by simp[h])) e
 done:=λs Q E st hQ=>vW hh S st.1 st.2 hd λh' he'=>hQ h' s.toks λb o hb e=>he' b o (λh=>hb (by simp[h])) e
 self:=λ_ _ _ _ st hQ=>tW st.1 hQ
theorem rY{r:Addr}{Q:Bool→Shared→Prop}(hT:s.TypeIs (.ref r) "set")(h:Q false s):wpAny (model prog w) A (Builtin.List.listLengthHint (.ref r)) Q E s:=by
 unfold Builtin.List.listLengthHint;refine wpAny_bind (wpAny_specialOf hT PySem.F.slot_set_len.lookup ?_);generalize hid:("set.__len__":String)=id0
 wp_delta
 rw[show splitId id0=some ("set","__len__")from by subst hid;decide +kernel];subst hid;refine wpAny_bind (wpAny_isInstance (T:="set") (b:=true) hT (by rw[isSubtype_type];kernel_rfl) ?_);refine wpAny_ite_split (λhab=>absurd hab (by decide)) (λ_=>?_);refine wpAny_ite_split (λ_=>?_) (λhab=>absurd (by decide +kernel) hab);refine wpAny_bind (wpAny_typeOf hT ?_);exact wpAny_pure h
theorem tX{es:Array (Int×Value)}{t:SetTable}{ns:List Int}{ep:Nat}{a:Addr}{o:Obj}(S:ISt w es t ns)(hex:o.ExactSet)(hd:o.data=.set es ep t):
  KdlSrc prog w "set" a a es.size (λi v=>(dN w a ep es)[i]?.map (·.2)=some v) (λh=>h.get? a=some o) where
 type:=λ_ hm=>⟨o,hm,hex.1⟩
 there:=λ_ hm=>⟨lt_size hm,lt_size hm⟩
 keep:=λ_ _ hm hk=>hk a (.inl rfl) o hm
 notList:=by decide
 notTuple:=by decide
 hint:=λ_ _ _ _ hm hq=>rY ⟨o,hm,hex.1⟩ hq
 iter:=λA s hh hm=>⟨{cls:=.type "set_iterator",data:=.fields #[.int 0 0,.int 0 0,.ref a,.int es.size 0,.int ep 0]},_,(λ_ _ hq=>rX S hm hex hd hq),qb S hh _ a (ne_of_lt (lt_size hm)) o hd,
  ⟨⟨_,0,get?_push_size _ rfl,rfl,rfl,λ_=>by
   obtain⟨l,T,hl⟩:=S.tb;obtain⟨b1,b2,b3⟩:=cg T.up 0;rw[T.pl];rcases Nat.eq_zero_or_pos (below l.toArray 0)with z|z
   ·exact z
   ·have:=b2 0 (by omega) z;omega⟩,get?_push_of_some _ hm⟩⟩
end
theorem IS.at{w:World}{h h':Heap}{S:Addr}{ns:List Int}(x:IS w h S ns)(k:∀o,h.get? S=some o→h'.get? S=some o):IS w h' S ns:=by
 obtain⟨o,es,ep,t,ho,r⟩:=x;exact⟨o,es,ep,t,k o ho,r⟩
theorem lU{w:World}{h:Heap}{a:Addr}(ho:h.get? a=some {cls:=.type "set",dict:=none,data:=.set #[] 0 (.fresh 0 0 (!bt w))}):IS w h a [] :=
 ⟨_,#[],0,_,ho,⟨rfl,rfl,rfl⟩,rfl,⟨⟨λ_=>0,rfl⟩,nodup_nil,⟨[],⟨rfl,rfl,Pairwise.nil,λ_ h=>by simp at h⟩,rfl⟩,Or.inl rfl,(by show 0<21;decide),rfl,λz=>by show(!bt w)=true;rw[z];rfl⟩⟩
section
variable{prog:Program}{w:World}{A:Around}{R:Result→Shared→Prop}{I:Addr}{fp wr:List Addr}{G:Array GenState→Array GenState→Prop}{n:Nat}{P:Nat→Value→Prop}{St:Nat→Shared→Prop}
end
section
variable{prog:Program}{w:World}{A:Around}{E:Value→Shared→Prop}{s:Shared}
theorem jh(a:Value){Q₁:Value→Shared→Prop}(h:Q₁ (.ref s.heap.objs.size) {s with heap:=s.heap.push {cls:=.type "set",dict:=none,data:=.set #[] 0 (.fresh 0 0 (!bt w))}}):
  codeAny (model prog w) A (.call (.builtin "set.__new__") ⟨[.type "set",a],[]⟩) (wants Q₁ E) s:=by
 refine codeAny_of_tree ?_;show wpAny _ A.in1 (do checkBuiltinCall "set.__new__" ⟨[.type "set",a],[]⟩;again (.builtin "set.__new__" ⟨[.type "set",a],[]⟩)) _ _ s
 refine wpAny_bind (wpAny_of_eq (F.newCall_set_1 a) (wpAny_pure ⟨plainId_quiet F.plain_set_new _,codeAny_builtin F.entry_set_new ?_⟩));rw[Around.under_plainId F.plain_set_new _];unfold Builtin.«set.__new__» Builtin.Frozenset.newClass;have hsub:=sub_set_self;obtain⟨hp,g,d,tk,os⟩:=s;dsimp only
 wp_walk
 refine wpAny_askSetting (wpAny_pure ?_);dsimp only;simp only[newObj];refine wpAny_bind (wpAny_alloc (wpAny_pure ?_));exact wpAny_pure h
set_option maxRecDepth 100000 in
set_option maxHeartbeats 3200000 in
theorem kO{x:Value}{Q:Value→Shared→Prop}(h:wpAny (model prog w) A.in1.in1 (Builtin.«set.__init__» ⟨[.ref s.heap.objs.size,x],[]⟩)
   (λfin s'=>match fin with | .done f=>wants (λr s₂=>r=.none∧Q (.ref s.heap.objs.size) s₂) E (.ok f) s' | .again c'=>c'.quiet=true∧codeAny (model prog w) A.in1 c' (wants (λr s₂=>r=.none∧Q (.ref s.heap.objs.size) s₂) E) s')
   (λe s'=>wants (λr s₂=>r=.none∧Q (.ref s.heap.objs.size) s₂) E (.error e) s') {s with heap:=s.heap.push {cls:=.type "set",dict:=none,data:=.set #[] 0 (.fresh 0 0 (!bt w))}}):
  wpAny (model prog w) A (call (.type "set") [x]) Q E s:=by
 obtain⟨c,tl,hmro⟩:=F.called_set.mro;have hmade:=F.called_set.made;have hsub:=F.called_set.sub;refine wpAny_call (codeAny_of_tree ?_);show wpAny _ _ (callAny (.type "set") _) _ _ _;refine wpAny_pure ⟨Code.quiet_builtin _ (by decide +kernel),codeAny_builtin F.entry_type_call ?_⟩;rw[Around.under_plain (weight_type_call_type "set" [x] []) rfl];have h1:=F.called_set.notType;have h2:=F.called_set.canCreate;have hct:=F.typeCall_set_1 x
 repeat (any_goals (first|assumption|wp_step))
 refine codeAny_mono (jh x (E:=E) (Q₁:=λobj s₁=>obj=.ref s.heap.objs.size∧s₁={s with heap:=s.heap.push {cls:=.type "set",dict:=none,data:=.set #[] 0 (.fresh 0 0 (!bt w))}}) ⟨rfl,rfl⟩) λr s₁ hr=>?_
 cases r with
 |error e=>exact hr
 |ok fl =>
  cases fl with
  |ret obj =>
   obtain⟨rfl,rfl⟩:=hr;have hS:(s.heap.push {cls:=.type "set",dict:=none,data:=.set #[] 0 (.fresh 0 0 (!bt w))}).get? s.heap.objs.size=some {cls:=.type "set",dict:=none,data:=.set #[] 0 (.fresh 0 0 (!bt w))}:=get?_push_size _ rfl;have hT:Shared.TypeIs {s with heap:=s.heap.push {cls:=.type "set",dict:=none,data:=.set #[] 0 (.fresh 0 0 (!bt w))}} (.ref s.heap.objs.size) "set":=⟨_,hS,rfl⟩
   have hli:=F.called_set.init.lookup;have hbi:=F.called_set.init.bind (.ref s.heap.objs.size)
   repeat (any_goals (first|assumption|wp_step))
   refine codeAny_mono (codeAny_call_builtin (R:=wants (λr s₂=>r=.none∧Q (.ref s.heap.objs.size) s₂) E) F.called_set.init.plain F.entry_set_init (check_set_init_1 hT ?_)) λr₂ s₂ hr₂=>?_
   ·exact h
   ·cases r₂ with
    |error e=>exact hr₂
    |ok fl₂ =>
     cases fl₂ with
     |ret r =>
      obtain⟨rfl,hq⟩:=hr₂
      repeat (any_goals (first|assumption|wp_step))
     |_=>exact hr₂.elim
  |_=>exact hr.elim
end
end TB
namespace SRT
open PySem PySem.W PyProof.Rows
section
variable{prog:Program}{w:World}{A:Around}{E:Value→Shared→Prop}{s:Shared}
theorem lV{f:Nat→Nat→Bool}{vs:List Value}{κ:SortKind}{Q:Value→Shared→Prop}(O:Ord f vs.length)(h64:vs.length<64)(hk:∀(A':Around) (s':Shared),A'.units≤A.units+1→(∀b o,s.heap.get? b=some o→s'.heap.get? b=some o)→∀Q:SortKind→Shared→Prop,2≤vs.length→Q κ s'→wpAny (model prog w) A' (keyKind' vs.toArray) Q (λ_ _=>False) s')(hlt:∀(A':Around) (s':Shared),A'.units≤A.units+1→(∀b o,s.heap.get? b=some o→s'.heap.get? b=some o)→∀(i j:Nat) (C:Bool→Shared→Prop),i<vs.length→j<vs.length→C (f i j) s'→wpAny (model prog w) A' (keyLt' κ (vs.getD i Value.none) (vs.getD j Value.none)) C (λ_ _=>False) s')(h:∀(p:Array Nat) (h':Heap),Row vs.length p→Up f p vs.length→(∀b o,s.heap.get? b=some o→h'.get? b=some o)→(∃k,h'.get? s.heap.objs.size=some (seqObj "list" (toArray (p.toList.map λi=>vs.getD i Value.none)) k))→Q (.ref s.heap.objs.size) {s with heap:=h'}):
  wpAny (model prog w) A (do
   let l ← newList vs
   let _ ← holding [l] (call (.builtin "list.sort") [l] [])
   ret l) (λfin s'=>∃v,fin=.done (.ret v)∧Q v s') E s:=by
 refine wpAny_bind (wpAny_newList ?_ (by rw[sizeLine_eq];omega));have hoL:(s.heap.push (seqObj "list" vs.toArray 0)).get? s.heap.objs.size=some (seqObj "list" vs.toArray 0):=get?_push_size _ rfl;have keep:∀b o,s.heap.get? b=some o→(s.heap.push (seqObj "list" vs.toArray 0)).get? b=some o:=λb o q=>get?_push_of_some _ q;have neD:∀b o,s.heap.get? b=some o→b≠s.heap.objs.size:=λb o q=>ne_of_lt (lt_size q);show wpAny _ _ _ _ _ {s with heap:=s.heap.push (seqObj "list" vs.toArray 0)}
 refine wpAny_bind (wpAny_holding (wpAny_call_entry slot_list_sort ⟨_,hoL,rfl⟩ entry_list_sort (fm (κ:=κ) (s:={s with heap:=s.heap.push (seqObj "list" vs.toArray 0)}) O hoL h64 ?_ ?_ λp hr hu=>⟨_,rfl,?_⟩) (args_list_sort _)))
 ·intro s' hs' Q' h2 hq;exact hk _ s' (by simp[Around.in1_units]) (λb o e=>hs' b o (neD b o e) (keep b o e)) Q' h2 hq
 ·intro s' hs' i j C hi hj hC;exact hlt _ s' (by simp[Around.in1_units]) (λb o e=>hs' b o (neD b o e) (keep b o e)) i j C hi hj hC
 ·refine wpAny_pure ⟨_,rfl,h p _ hr hu (λb o e=>?_) ?_⟩
  ·unfold sortedHeap;rw[get?_update_ne _ _ _ _ (neD b o e)];refine get?_push_of_some _ (get?_push_of_some _ ?_);rw[get?_update_ne _ _ _ _ (neD b o e)];exact keep b o e
  ·unfold sortedHeap;obtain⟨e1,ho1⟩:∃e1,((s.heap.push (seqObj "list" vs.toArray 0)).update s.heap.objs.size (Obj.mapSeq λ_=>(#[]:Array Value))).get? s.heap.objs.size=some (seqObj "list" #[] e1):=⟨_,get?_update_seq hoL λ_=>#[]⟩;exact⟨_,get?_update_seq (get?_push_of_some _ (get?_push_of_some _ ho1)) _⟩
theorem lW{T:String}{r d:Addr}{n:Nat}{P:Nat→Value→Prop}{OK:Heap→Prop}{Q:List Value→Shared→Prop}(K:KdlSrc prog w T r d n P OK)(hh:A.handled=none)(hok:OK s.heap)(hn:n≤sizeLine)(hQ:∀h' tk acc,(∀b o,s.heap.get? b=some o→h'.get? b=some o)→s.heap.objs.size<h'.objs.size→ItemsOf P acc n→Q acc.toList {s with heap:=h',toks:=tk}):wpAny (model prog w) A (collect (.ref r)) Q E s:=by
 unfold collect;refine wpAny_bind (wpAny_runValue (codeAny_builtin entry_proto_collect' ?_));show wpAny _ _ (do again (.builtin "list.__iadd__" ⟨[←newList [],.ref r],[]⟩)) _ _ s
 refine wpAny_bind (wpAny_newList (wpAny_pure ⟨Code.quiet_builtin _ (by decide +kernel),codeAny_builtin entry_list_iadd' ?_⟩));rw[Around.under_plainId PySem.F.plain_list_iadd _];show wpAny _ _ (Builtin.List.listExtendWith (.ref s.heap.objs.size) (.ref r) (.ref s.heap.objs.size)) _ _ {s with heap:=s.heap.push (seqObj "list" #[] 0)}
 have hlt:=K.there _ hok;have hS:(s.heap.push (seqObj "list" #[] 0)).get? s.heap.objs.size=some (seqObj "list" #[] 0):=get?_push_size _ rfl;have key:=PySem.W.kdl_extend (A:=A) (s:={s with heap:=s.heap.push (seqObj "list" #[] 0)}) (R:=λr s'=>∃h' tk acc c',r=.ok (.ret (.ref s.heap.objs.size))∧s'={s with heap:=h',toks:=tk}∧(∀b o,s.heap.get? b=some o→h'.get? b=some o)∧h'.get? s.heap.objs.size=some {cls:=.type "list",dict:=none,data:=.seq acc c',slots:=#[]}∧ItemsOf P acc n)
  K hh (K.keep _ _ hok λb _ o e=>get?_push_of_some _ e) s.heap.objs.size (ne_of_gt hlt.1) (ne_of_gt hlt.2) (.ref s.heap.objs.size) 0 hS (λh' tk acc' c' hk hS' hacc=>⟨h',tk,acc',c',rfl,rfl,λb o e=>hk b o (ne_of_lt (lt_size e)) (get?_push_of_some _ e),hS',hacc⟩) hn
 have fin:∀(h':Heap)(tk:Nat)(acc:Array Value)(c':Nat),(∀b o,s.heap.get? b=some o→h'.get? b=some o)→h'.get? s.heap.objs.size=some {cls:=.type "list",dict:=none,data:=.seq acc c',slots:=#[]}→ItemsOf P acc n→wpAny (model prog w) A (do
   let o ← load s.heap.objs.size
   match o.data with
   |.seq xs _=>pure xs.toList
   | _=>unsupported "internal:collect") Q E {s with heap:=h',toks:=tk}:=λh' tk acc c' hk hS' hacc=>by
  refine wpAny_bind (wpAny_load hS' ?_);exact wpAny_pure (hQ h' tk acc hk (lt_size hS') hacc)
 refine wpAny_mono key (λfn s' hf=>?_) λe s' hf=>?_
 ·cases fn with
  |done f =>
   obtain⟨h',tk,acc,c',e1,e2,hk,hS',hacc⟩:=hf;cases e1;subst e2;exact fin h' tk acc c' hk hS' hacc
  |again c =>
   refine⟨hf.1,codeAny_mono hf.2 λr s' hr=>?_⟩;obtain⟨h',tk,acc,c',e1,e2,hk,hS',hacc⟩:=hr;subst e1 e2;exact fin h' tk acc c' hk hS' hacc
 ·obtain⟨h',tk,acc,c',e1,_⟩:=hf;cases e1
theorem nJ{T:String}{r d:Addr}{n:Nat}{P:Nat→Value→Prop}{OK:Heap→Prop}{κ:SortKind}{Q:Value→Shared→Prop}(K:KdlSrc prog w T r d n P OK)(hh:A.handled=none)(hok:OK s.heap)(hn:n≤sizeLine)(hQ:∀(h1:Heap) (tk:Nat) (vs:List Value),(∀b o,s.heap.get? b=some o→h1.get? b=some o)→s.heap.objs.size<h1.objs.size→ItemsOf P vs.toArray n→∃f:Nat→Nat→Bool,Ord f vs.length∧vs.length<64 ∧
   (∀(A':Around) (s':Shared),A'.units≤A.units+2→(∀b o,s.heap.get? b=some o→s'.heap.get? b=some o)→∀Q:SortKind→Shared→Prop,2≤vs.length→Q κ s'→wpAny (model prog w) A' (keyKind' vs.toArray) Q (λ_ _=>False) s') ∧
   (∀(A':Around) (s':Shared),A'.units≤A.units+2→(∀b o,s.heap.get? b=some o→s'.heap.get? b=some o)→∀(i j:Nat) (C:Bool→Shared→Prop),i<vs.length→j<vs.length→C (f i j) s'→wpAny (model prog w) A' (keyLt' κ (vs.getD i Value.none) (vs.getD j Value.none)) C (λ_ _=>False) s') ∧
   ∀(p:Array Nat) (h':Heap),Row vs.length p→Up f p vs.length→(∀b o,s.heap.get? b=some o→h'.get? b=some o)→(∃k,h'.get? h1.objs.size=some (seqObj "list" (toArray (p.toList.map λi=>vs.getD i Value.none)) k))→Q (.ref h1.objs.size) {s with heap:=h',toks:=tk}):
  wpAny (model prog w) A (call (.builtin "sorted") [.ref r]) Q E s:=by
 refine Calls.call_function_entry kind_sorted plain_sorted entry_sorted (args_sorted1 _) ?_;unfold Builtin.«sorted»;refine wpAny_bind (m:=checkCount "sorted" 1 1 _) (wpAny_pure ?_);refine wpAny_bind (lW K hh hok hn λh1 tk acc hk hlt hacc=>?_);obtain⟨f,O,h64,hkk,hltt,hq⟩:=hQ h1 tk acc.toList hk hlt (by rw[Array.toArray_toList];exact hacc);exact lV (s:={s with heap:=h1,toks:=tk}) O h64 (λA' s' hu hk'=>hkk A' s' (by have:=hu;simp only[Around.in1_units]at this;omega) λb o e=>hk' b o (hk b o e)) (λA' s' hu hk'=>hltt A' s' (by have:=hu;simp only[Around.in1_units]at this;omega) λb o e=>hk' b o (hk b o e))
  λp h' hr hu' hk' hg=>hq p h' hr hu' (λb o e=>hk' b o (hk b o e)) hg
end
end SRT
namespace L2
open PySem PySem.Spec PyProof.Rows
section
variable{X:Cx}
def bz(w:World)(a:Addr)(ns:List Int):HO:=.ext λh=>TB.IS w h a ns
theorem Inv.intS{pins:List (Addr×Obj)}{σ:St}{H:Hp}{s:Shared}(I:Inv X pins σ H s){a:Addr}{ns:List Int}(h:H a=some (bz X.w a ns)):TB.IS X.w s.heap a ns:=(I.hok a _ h).1
theorem Inv.layS{pins:List (Addr×Obj)}{σ:St}{H:Hp}{s:Shared}(I:Inv X pins σ H s){h':Heap}{t':Nat}{a:Addr}{ns:List Int}(k:∀b u,s.heap.get? b=some u→h'.get? b=some u)(hp:s.heap.objs.size≤a)(hS:TB.IS X.w h' a ns):
  Inv X pins σ (upd H a (bz X.w a ns)) {s with heap:=h',toks:=t'}:=by
 obtain⟨o,es,ep,t,ho,r⟩:=id hS;exact I.laid k hp ⟨hS,⟨o,ho⟩,λh1 h2 hI hh=>hI.at hh⟩
theorem dO(hc:X.calm=true):dz X (.builtin "sorted") (λxs H Q=>∃l,∃ns:List Int,xs=[.ref l]∧H l=some (bz X.w l ns)∧ns.length≤60 ∧
  ∀ms:List Int,ms.Perm ns→ms.Pairwise (λa b=>a<b)→∀p,H p=none→Q (.ref p) (upd H p (.lst (ms.map V.int)))):=by
 intro pins s σ H xs us Q I r h;obtain⟨l,ns,rfl,hl,h60,q⟩:=h;obtain⟨u,rfl,ru⟩:=hX r;cases ru;obtain⟨o,es,ep,t,ho,hex,hd,S⟩:=I.intS hl;obtain⟨tk0,hent⟩:=S.ent;obtain⟨ns',hperm,hord⟩:=TB.cD (TB.iO X.w l ep es) hent;have hnd':ns'.Nodup:=hperm.nodup_iff.mpr S.nd;have hl':ns'.length=ns.length:=hperm.length_eq;refine SRT.nJ (κ:=oneType') (TB.tX S hex hd) (I.ok.hd hc) ho (by rw[S.size,sizeLine_eq];omega) λh1 tk vs hk1 hlt1 hit=>?_;have evs:vs=ns'.map λn=>Value.int n (tk0 n):=by
  apply ext_getElem?;intro i;have hvl:vs.length=es.size:=by have:=hit.1;rw[size_toArray]at this;exact this
  by_cases hi:i<vs.length
  ·have:Option.map (λx=>x.2) (TB.dN X.w l ep es)[i]?=some vs[i]:=hit.2 i vs[i] (by rw[List.getElem?_toArray];exact getElem?_eq_getElem hi);rw[getElem?_eq_getElem hi,getElem?_map];rw[←getElem?_toList,hord,getElem?_map]at this;cases e:ns'[i]? with
   |none=>rw[e]at this;cases this
   |some n =>
    rw[e]at this;have e2:(TB.fH tk0 n).2=vs[i]:=Option.some.inj this;show some vs[i]=some (Value.int n (tk0 n));rw[←e2];rfl
  ·rw[getElem?_eq_none (by omega),getElem?_eq_none (by rw[length_map,hl',←S.size];omega)]
 have hvl:vs.length=ns'.length:=by rw[evs,length_map]
 have gd:∀i,i<ns'.length→vs.getD i Value.none=.int (ns'.getD i 0) (tk0 (ns'.getD i 0)):=λi hi=>by
  rw[evs,re (d:=(0:Int)) hi]
 have rv:ap (ns'.map V.int) vs:=by
  rw[evs];clear hperm hord hnd' hl' evs hvl gd hit
  induction ns' with
  |nil=>exact .nil
  |cons n ns' ih=>exact .cons ⟨_,rfl⟩ ih
 refine⟨λi j=>decide (ns'.getD i 0<ns'.getD j 0),⟨λi _=>by simp,λi j k _ _ _ h1 h2=>?_,λi j hi hj hij=>?_⟩,by omega,λA' s' _ _ Q' h2 hQ=>?_,λA' s' _ _ i j C hi hj hC=>?_,λp h' hrow hup kp hg=>?_⟩
 ·simp only[decide_eq_true_eq]at *;omega
 ·simp only[decide_eq_true_eq];have:ns'.getD i 0≠ns'.getD j 0:=by
   rw[getD_eq_getElem?_getD,getD_eq_getElem?_getD,getElem?_eq_getElem (by omega),getElem?_eq_getElem (by omega)];exact λe=>hij ((getElem_inj hnd').mp e)
  omega
 ·rw[ksk_kind (keys:=vs.toArray) (kz:=ns') (by simpa using oM rv) (by rw[size_toArray];omega)];exact wpAny_pure hQ
 ·rw[gd i (by omega),gd j (by omega)];exact kat_lt_int hC
 ·obtain⟨c,hg⟩:=hg;rw[hvl]at hrow hup;have hin:∀i∈p.toList,i<ns'.length:=λi hi=>mem_range.mp (hrow.perm.mem_iff.mp hi);have hperm2:(p.toList.map λi=>ns'.getD i 0).Perm ns':=by
   refine(hrow.perm.map _).trans ?_;have:(List.range ns'.length).map (λi=>ns'.getD i 0)=ns':=by
    apply ext_getElem?;intro i;rw[getElem?_map]
    by_cases hi:i<ns'.length
    ·rw[getElem?_range hi,(cY (d:=(0:Int)) hi).2];rfl
    ·rw[getElem?_eq_none (by rw[length_range];omega),getElem?_eq_none (by omega)];rfl
   rw[this]
  have hpl:p.size=ns'.length:=hrow.size;have hpw:(p.toList.map λi=>ns'.getD i 0).Pairwise (λa b=>a<b):=by
   rw[pairwise_iff_getElem];intro i j hi hj hij;have hi':i<p.size:=by rw[length_map,length_toList]at hi;exact hi
   have hj':j<p.size:=by rw[length_map,length_toList]at hj;exact hj
   have:=hup i j hij (by omega);simp only[]at this;rw[getD_eq_getD_getElem?,getD_eq_getD_getElem?,Array.getElem?_eq_getElem hi',Array.getElem?_eq_getElem hj']at this;simpa using this
  refine⟨.ref h1.objs.size,_,I.laid (t':=tk) (o:=.lst ((p.toList.map λi=>ns'.getD i 0).map V.int)) kp (le_of_lt hlt1) ⟨?_,_,c,jy rv p.toList hin,hg⟩,rfl,q _ (hperm2.trans hperm) hpw _ (I.hok.fresh (le_of_lt hlt1))⟩;rw[length_map,hperm2.length_eq,sizeLine_eq];omega
end
end L2
namespace TB
open PySem PySem.SetTable
theorem tY{mask finger moves:Nat}{led plain:Bool}{hashes:Array Int}(c:Cyc mask)(hl:hashes.size≤mask+1):
  ∃(t':SetTable) (zs:List (Nat×Nat)),SetTable.laid mask finger moves led plain hashes=some (t',(zs.map (·.2)).toArray)∧t'.mask=mask∧t'.led=led∧t'.plain=plain ∧
   Tb t' (zs.map (·.1))∧(zs.map (·.2)).Perm (List.range hashes.size):=by
 obtain⟨owner,e,L⟩:=gK c hashes hl;refine⟨{mask:=mask,place:=((live mask owner).map (·.1)).toArray,dummies:=#[],finger:=finger,led:=led,moves:=moves,plain:=plain},live mask owner,?_,rfl,rfl,rfl,⟨rfl,rfl,?_,?_⟩,?_⟩
 ·unfold laid;rw[e];rfl
 ·unfold Up live;rw[List.map_filterMap];have e1:((List.range (mask+1)).filterMap λj=>((owner.getD j none).map (j,·)).map (·.1))=(List.range (mask+1)).filter λj=>(owner.getD j none).isSome:=by
   generalize List.range (mask+1)=l
   induction l with
   |nil=>rfl
   |cons x l ih =>
    cases ex:owner.getD x none with
    |none=>rw[filterMap_cons_none (by rw[ex];rfl),filter_cons_of_neg (by simp[ex])];exact ih
    |some i=>rw[filterMap_cons_some (b:=x) (by rw[ex];rfl),filter_cons_of_pos (by simp[ex]),ih]
  rw[e1];exact Pairwise.sublist filter_sublist List.pairwise_lt_range
 ·intro j hj;obtain⟨z,hz,rfl⟩:=mem_map.mp hj;unfold live at hz;obtain⟨k,hk,e1⟩:=mem_filterMap.mp hz;cases ex:owner.getD k none with
  |none=>rw[ex]at e1;cases e1
  |some i =>
   rw[ex]at e1;have e2:(k,i)=z:=Option.some.inj e1;subst e2;have:=mem_range.mp hk;show k≤mask;omega
 ·have:=L.perm;rw[length_toList]at this;exact this
theorem lX{es:Array (Int×Value)}{zs:List (Nat×Nat)}(h:(zs.map (·.2)).Perm (List.range es.size)):(((zs.map (·.2)).toArray).filterMap (λi=>es[i]?)).toList.Perm es.toList:=by
 rw[Array.toList_filterMap];exact(h.filterMap _).trans (by rw[filterMap_getElem?_range])
section
variable{prog:Program}{w:World}{A:Around}{E:Value→Shared→Prop}{s:Shared}
theorem rZ{a:Addr}{ns:List Int}{wanted:Nat}{Q:Unit→Shared→Prop}(hS:IS w s.heap a ns)(hw:wanted≤255)(hroom:ns.length*5<(sizeAbove wanted-1)*3)(h:∀h' ns' o es ep t,SameBut a s.heap h'→h'.get? a=some o→o.ExactSet→o.data=.set es ep t→ISt w es t ns'→ns'.Perm ns→t.mask=sizeAbove wanted-1→Q () {s with heap:=h'}):wpAny (model prog w) A (setRelay a wanted) Q E s:=by
 obtain⟨o,es,ep,t,ho,hex,hd,S⟩:=hS;obtain⟨hmk,hle,h256⟩:=ir hw;have hsz:=S.size;have hge:=hmk.ge;unfold setRelay;refine wpAny_bind (wpAny_setState_of ho hd S.fits ?_);dsimp only;rw[if_neg (by rw[sizeLine_eq];omega)];obtain⟨t',zs,e,hm,hled,hpl,T,hperm,_⟩:=jw (t:=t) (hashes:=es.map (·.1)) (wanted:=wanted) hmk.cyc (by rw[size_map];omega);rw[size_map]at hperm;have hp:=lX hperm;have hsz2:(((zs.map (·.2)).toArray).filterMap (λi=>es[i]?)).size=es.size:=by rw[←length_toList,hp.length_eq,length_toList]
 obtain⟨tk,hent⟩:=S.ent;obtain⟨ns',hns',hes'⟩:=cD hp hent;have hzl:zs.length=es.size:=by
  have:=hperm.length_eq;rw[length_map,length_range]at this;exact this
 have hnl:ns'.length=ns.length:=hns'.length_eq;refine wpAny_bind ?_;rw[e];show wpAny _ _ (@ite _ _ _ _ _) _ _ _;rw[if_neg (by rw[hsz2];simp)];refine wpAny_pure ?_;dsimp only;refine wpAny_storeSet_of ho hd ?_ (by rw[hsz2,sizeLine_eq];omega);exact h _ ns' _ _ _ t' (SameBut.update s.heap a _) (stored ho hd _ t') hex rfl ⟨⟨tk,hes'⟩,hns'.nodup_iff.mpr S.nd,⟨_,T,by rw[length_map];omega⟩,by rw[hm];exact hmk,by rw[hm,hnl];exact hroom,by rw[hpl];exact S.pl,λz=>by rw[hled];exact S.led z⟩ hns' hm
theorem kQ{a:Addr}{ns:List Int}{more:Nat}{Q:Unit→Shared→Prop}(hS:IS w s.heap a ns)(hw:ns.length+more≤120)(h:∀h' ns' o es ep t,SameBut a s.heap h'→h'.get? a=some o→o.ExactSet→o.data=.set es ep t→ISt w es t ns'→ns'.Perm ns→(ns.length+more)*5<t.mask*3→Q () {s with heap:=h'}):wpAny (model prog w) A (setRoomFor a more) Q E s:=by
 obtain⟨o,es,ep,t,ho,hex,hd,S⟩:=id hS;obtain⟨l,T,hl⟩:=S.tb;have hfill:t.fill=ns.length:=by rw[fj T,hl]
 have hpl:t.place.size=ns.length:=by rw[T.pl,size_toArray,hl]
 unfold setRoomFor;refine wpAny_bind (wpAny_setState_of ho hd S.fits ?_);dsimp only
 by_cases hc:(t.fill+more)*5≥t.mask*3
 ·have e:t.roomFor more=some ((t.place.size+more)*2):=by unfold SetTable.roomFor;rw[if_pos hc]
  rw[e];dsimp only;rw[hpl];obtain⟨hmk,hle,_⟩:=ir (w:=(ns.length+more)*2) (by omega);have hge:=hmk.ge;have hge2:=S.mkm.ge;refine rZ hS (by omega) (by omega) λh' ns' o' es' ep' t' hsb ho' hex' hd' S' hp hm=>h h' ns' o' es' ep' t' hsb ho' hex' hd' S' hp ?_;rw[hm];omega
 ·have e:t.roomFor more=none:=by unfold SetTable.roomFor;rw[if_neg hc]
  rw[e];dsimp only;have es':s={s with heap:=s.heap}:=by cases s;rfl
  rw[es'];exact wpAny_pure (h s.heap ns o es ep t (SameBut.refl a s.heap) ho hex hd S (.refl _) (by rw[hfill]at hc;omega))
theorem jJ{a b:Addr}{ns:List Int}{each:Sem Unit}{Q:Unit→Shared→Prop}(hab:a≠b)(ha:IS w s.heap a [])(hb:IS w s.heap b ns)(hn:ns.length≤60)(h:∀h' ns',SameBut a s.heap h'→IS w h' a ns'→ns'.Perm ns→Q () {s with heap:=h'}):wpAny (model prog w) A (setMerge a b each) Q E s:=by
 obtain⟨ob,eb,epb,tb,hob,hexb,hdb,Sb⟩:=id hb;unfold setMerge;have hne:(a==b)=false:=by simpa using hab
 rw[hne];simp only[false_eq_true,if_false];refine wpAny_bind (wpAny_setState_of hob hdb Sb.fits ?_);dsimp only;have es':s={s with heap:=s.heap}:=by cases s;rfl
 by_cases he:eb.isEmpty=true
 ·rw[he];simp only[if_true];have hz:ns=[]:=by
   have:=Sb.size;have h0:eb.size=0:=by simpa [isEmpty]using he
   exact length_eq_zero_iff.mp (by omega)
  subst hz;rw[es'];exact wpAny_pure (h s.heap [] (SameBut.refl a s.heap) ha (.refl _))
 ·have he':eb.isEmpty=false:=by simpa using he
  rw[he'];simp only[false_eq_true,if_false];have hsb:=Sb.size;refine wpAny_bind (kQ ha (by rw[length_nil];omega) λh1 ns1 o1 es1 ep1 t1 hs1 ho1 hex1 hd1 S1 hp1 hrm1=>?_);have e1:ns1=[]:=hp1.eq_nil;subst e1;rw[length_nil,zero_add]at hrm1;have hob1:h1.get? b=some ob:=(hs1.2 b (Ne.symm hab)).trans hob;refine wpAny_bind (wpAny_setState_of (s:={s with heap:=h1}) ho1 hd1 S1.fits ?_);dsimp only;obtain⟨l1,T1,hl1⟩:=S1.tb;have hfill1:t1.fill=0:=by rw[fj T1,hl1];rfl
  obtain⟨lb,Tb1,hlb⟩:=Sb.tb;obtain⟨tk,hent⟩:=Sb.ent;have hge1:=S1.mkm.ge;cases hr:t1.road tb with
  |slotForSlot =>
   dsimp only;refine wpAny_storeSet_of (s:={s with heap:=h1}) ho1 hd1 ?_ (by rw[hsb,sizeLine_eq];omega);refine h _ ns (hs1.trans (SameBut.update ..)) ⟨_,_,_,_,stored (s:={s with heap:=h1}) ho1 hd1 _ _,hex1,rfl,⟨⟨tk,hent⟩,Sb.nd,⟨lb,⟨Tb1.pl,Tb1.nd,Tb1.up,Tb1.le⟩,hlb⟩,Sb.mkm,Sb.room,by show(t1.plain&&tb.plain)=true;rw[S1.pl,Sb.pl];rfl,λz=>by show(t1.led&&tb.led)=true;rw[S1.led z,Sb.led z];rfl⟩⟩ (.refl _)
  |clean =>
   dsimp only;obtain⟨t',zs,e,hm,hled,hpl,T,hperm⟩:=tY (mask:=t1.mask) (finger:=t1.finger) (moves:=t1.moves) (led:=t1.led&&tb.led) (plain:=t1.plain&&tb.plain) (hashes:=eb.map (·.1)) S1.mkm.cyc (by rw[size_map];omega);rw[size_map]at hperm;have hp:=lX hperm;have hsz2:(((zs.map (·.2)).toArray).filterMap (λi=>eb[i]?)).size=eb.size:=by rw[←length_toList,hp.length_eq,length_toList]
   obtain⟨ns',hns',hes'⟩:=cD hp hent;have hzl:zs.length=eb.size:=by
    have:=hperm.length_eq;rw[length_map,length_range]at this;exact this
   have hnl:ns'.length=ns.length:=hns'.length_eq;refine wpAny_bind ?_;rw[e];show wpAny _ _ (@ite _ _ _ _ _) _ _ _;rw[if_neg (by rw[hsz2];simp)];refine wpAny_pure ?_;dsimp only;refine wpAny_storeSet_of (s:={s with heap:=h1}) ho1 hd1 ?_ (by rw[hsz2,hsb,sizeLine_eq];omega);exact h _ ns' (hs1.trans (SameBut.update ..)) ⟨_,_,_,_,stored (s:={s with heap:=h1}) ho1 hd1 _ _,hex1,rfl,⟨⟨tk,hes'⟩,hns'.nodup_iff.mpr Sb.nd,⟨_,T,by rw[length_map];omega⟩,by rw[hm];exact S1.mkm,by rw[hm,hnl,←hsb];exact hrm1,by rw[hpl,S1.pl,Sb.pl];rfl,λz=>by rw[hled,S1.led z,Sb.led z];rfl⟩⟩ hns'
  |oneByOne =>
   exfalso
   unfold SetTable.road at hr;rw[hfill1]at hr;simp only[bne_self_eq_false,false_eq_true,if_false]at hr
   split at hr<;>cases hr
theorem tZ{b:Addr}{o:Obj}{es:Array (Int×Value)}{ep:Nat}{t:SetTable}{ns:List Int}{Q:Array (Int×Value)→Shared→Prop}(S:ISt w es t ns)(ho:s.heap.get? b=some o)(hd:o.data=.set es ep t)(h:Q (dN w b ep es) s):wpAny (model prog w) A (setWalk b) Q E s:=by
 unfold setWalk;refine wpAny_bind (wpAny_setState_of ho hd S.fits ?_);unfold setsByText;refine wpAny_bind (wpAny_bind (wpAny_askSetting (wpAny_pure ?_)));show wpAny _ _ (if bt w=true then _ else _) _ _ _;unfold dN at h;cases hb:bt w with
 |true =>
  rw[hb]at h;simp only[if_true]at h⊢;exact wpAny_bind (wpAny_askSetting (wpAny_pure h))
 |false =>
  rw[hb]at h;simp only[false_eq_true,if_false]at h⊢;show wpAny _ _ (if (!t.plain&&decide (es.size>1))=true then _ else _) _ _ _
  rw[gC S];simp only[false_eq_true,if_false];refine wpAny_bind ?_;show wpAny _ _ (if (!t.led&&decide (es.size>1))=true then _ else _) _ _ _
  rw[S.led hb];simp only[Bool.not_true,Bool.false_and,false_eq_true,if_false];exact wpAny_pure (wpAny_pure h)
theorem lY{b:Addr}{os:List Addr}{f:Option Addr}{o:Obj}{es:Array (Int×Value)}{ep:Nat}{t:SetTable}{ns:List Int}{Q:Array (Int×Value)→Shared→Prop}(S:ISt w es t ns)(ho:s.heap.get? b=some o)(hd:o.data=.set es ep t)(h:Q (dN w b ep es) s):wpAny (model prog w) A (setWalkUnseen b os f) Q E s:=by
 unfold setWalkUnseen;refine wpAny_bind (wpAny_setState_of ho hd S.fits ?_);dsimp only;refine wpAny_bind ?_;unfold setsByText;refine wpAny_bind (wpAny_askSetting (wpAny_pure ?_));have hc:((model prog w).w.params.followText "set-order"||t.led&&t.plain||decide (es.size≤1))=true:=by
  cases hb:bt w with
  |true =>
   have:(model prog w).w.params.followText "set-order"=true:=hb;rw[this];rfl
  |false=>rw[S.led hb,S.pl];simp
 show wpAny _ _ (if ((model prog w).w.params.followText "set-order"||t.led&&t.plain||decide (es.size≤1))=true then _ else _) _ _ _
 rw[hc];simp only[if_true];exact tZ S ho hd h
theorem se{a b:Addr}{ms ns:List Int}{each:Sem Unit}{Q:Unit→Shared→Prop}(hab:a≠b)(ha:IS w s.heap a ms)(hb:IS w s.heap b ns)(hn:ms.length+ns.length≤60)(hE:∀(h':Heap) (Q':Unit→Shared→Prop),SameBut a s.heap h'→Q' () {s with heap:=h'}→wpAny (model prog w) A each Q' E {s with heap:=h'})(h:∀h' us,SameBut a s.heap h'→IS w h' a us→(∀x,x∈us↔x∈ms∨x∈ns)→Q () {s with heap:=h'}):wpAny (model prog w) A (setMerge a b each) Q E s:=by
 by_cases hms:ms=[]
 ·subst hms;exact jJ hab ha hb (by omega) λh' ns' hsb hS hp=>h h' ns' hsb hS λx=>by rw[hp.mem_iff];simp
 ·obtain⟨ob,eb,epb,tb,hob,hexb,hdb,Sb⟩:=id hb;have hml:0<ms.length:=List.length_pos_iff.mpr hms;unfold setMerge;have hne:(a==b)=false:=by simpa using hab
  rw[hne];simp only[false_eq_true,if_false];refine wpAny_bind (wpAny_setState_of hob hdb Sb.fits ?_);dsimp only;have es':s={s with heap:=s.heap}:=by cases s;rfl
  by_cases he:eb.isEmpty=true
  ·rw[he];simp only[if_true];have hz:ns=[]:=by
    have:=Sb.size;have h0:eb.size=0:=by simpa [isEmpty]using he
    exact length_eq_zero_iff.mp (by omega)
   subst hz;rw[es'];exact wpAny_pure (h s.heap ms (SameBut.refl a s.heap) ha λx=>by simp)
  ·have he':eb.isEmpty=false:=by simpa using he
   rw[he'];simp only[false_eq_true,if_false];have hsb:=Sb.size;refine wpAny_bind (kQ ha (by omega) λh1 ns1 o1 es1 ep1 t1 hs1 ho1 hex1 hd1 S1 hp1 hrm1=>?_);have hob1:h1.get? b=some ob:=(hs1.2 b (Ne.symm hab)).trans hob;refine wpAny_bind (wpAny_setState_of (s:={s with heap:=h1}) ho1 hd1 S1.fits ?_);dsimp only;obtain⟨l1,T1,hl1⟩:=S1.tb;have hfill1:t1.fill≠0:=by rw[fj T1,hl1,hp1.length_eq];omega
   have hroad:t1.road tb=.oneByOne:=by
    unfold SetTable.road;rw[if_pos (by simpa using hfill1)]
   rw[hroad];dsimp only;refine wpAny_bind (lY (s:={s with heap:=h1}) Sb hob1 hdb ?_);obtain⟨tk,hent⟩:=Sb.ent;obtain⟨ns',hns',hord⟩:=cD (iO w b epb eb) hent;have hnl:ns'.length=ns.length:=hns'.length_eq;rw[←Array.forIn_toList,hord];refine wpAny_bind ?_;refine wpAny_forIn_list _ (λrest _ s'=>∃h' us i,s'={s with heap:=h'}∧rest=(ns'.drop i).map (fH tk)∧SameBut a s.heap h'∧IS w h' a us∧(∀x,x∈us↔x∈ms∨x∈ns'.take i)∧us.length≤ms.length+i∧i≤ns'.length) _ ?_ ?_ _ _
    ⟨h1,ns1,0,rfl,rfl,hs1,⟨o1,es1,ep1,t1,ho1,hex1,hd1,S1⟩,λx=>by rw[hp1.mem_iff];simp,by rw[hp1.length_eq];omega,zero_le _⟩
   ·rintro⟨hh,xx⟩ rest bb s' ⟨h',us,i,rfl,hr,hsb',hS',hmem,hlen,hi⟩;have hlt:i<ns'.length:=by
     rcases Nat.lt_or_ge i ns'.length with z|z
     ·exact z
     ·rw[List.drop_of_length_le z]at hr;cases hr
    rw[List.drop_eq_getElem_cons hlt,map_cons]at hr;injection hr with hr1 hr2
    have hr3:hh=hashInt ns'[i]∧xx=Value.int ns'[i] (tk ns'[i]):=by
     have:(hh,xx)=(hashInt ns'[i],Value.int ns'[i] (tk ns'[i])):=hr1;injection this with q1 q2
     exact⟨q1,q2⟩
    obtain⟨rfl,rfl⟩:=hr3;refine wpAny_bind (wpAny_holding (add_int (s:={s with heap:=h'}) hS' (by omega) λr h2 us2 hsb2 hS2 hor=>?_));refine wpAny_bind (hE h2 _ (hsb'.trans hsb2) ?_);have hob2:h2.get? b=some ob:=((hsb'.trans hsb2).2 b (Ne.symm hab)).trans hob;refine wpAny_bind (wpAny_setState_of (s:={s with heap:=h2}) hob2 hdb Sb.fits ?_);rw[if_neg (by simp)];refine wpAny_pure ⟨h2,us2,i+1,rfl,hr2,hsb'.trans hsb2,hS2,λx=>?_,?_,hlt⟩
    ·have ht:ns'.take (i+1)=ns'.take i++[ns'[i]]:=by rw[take_succ,getElem?_eq_getElem hlt];rfl
     rw[ht,mem_append,List.mem_singleton];rcases hor with⟨hin,e⟩|⟨_,e⟩
     ·rw[e,hmem x];constructor
      ·rintro(z|z)
       ·exact .inl z
       ·exact .inr (.inl z)
      ·rintro(z|z|z)
       ·exact .inl z
       ·exact .inr z
       ·rw[z];exact(hmem _).mp hin
     ·rw[e.mem_iff,mem_cons,hmem x];constructor
      ·rintro(z|z|z)
       ·exact .inr (.inr z)
       ·exact .inl z
       ·exact .inr (.inl z)
      ·rintro(z|z|z)
       ·exact .inr (.inl z)
       ·exact .inr (.inr z)
       ·exact .inl z
    ·rcases hor with⟨_,e⟩|⟨_,e⟩
     ·rw[e];omega
     ·have:=e.length_eq;rw[length_cons]at this;omega
   ·rintro bb s' ⟨h',us,i,rfl,hr,hsb',hS',hmem,hlen,hi⟩;have hie:ns'.drop i=[]:=by simpa using hr.symm
    have hin:i=ns'.length:=by
     have:=congrArg length hie;rw[length_drop,length_nil]at this;omega
    refine wpAny_pure (h h' us hsb' hS' λx=>?_);rw[hmem x,hin,take_length,hns'.mem_iff]
end
theorem kR:entryFor table "set.__or__"=some Builtin.«frozenset.__or__» :=
 entryFor_alias (id':="frozenset.__or__") (by kernel_rfl) rfl (by decide +kernel) (by kernel_rfl)
section
variable{prog:Program}{w:World}{A:Around}{E:Value→Shared→Prop}{s:Shared}
theorem vX{Q:Value→Shared→Prop}(h:∀h',(∀b o,s.heap.get? b=some o→h'.get? b=some o)→IS w h' s.heap.objs.size []→Q (.ref s.heap.objs.size) {s with heap:=h'}):wpAny (model prog w) A (newSet (.type "set")) Q E s:=by
 unfold newSet setsByText;refine wpAny_bind (wpAny_bind (wpAny_askSetting (wpAny_pure ?_)));dsimp only;simp only[newObj];exact wpAny_bind (wpAny_alloc (wpAny_pure (h _ (λb o e=>get?_push_of_some _ e) (lU (get?_push_size _ rfl)))))
theorem kS{a:Addr}{Q:Bool→Shared→Prop}(hT:s.TypeIs (.ref a) "set")(h:Q true s):wpAny (model prog w) A (Builtin.Frozenset.isAnySet (.ref a)) Q E s:=by
 unfold Builtin.Frozenset.isAnySet;refine wpAny_bind (wpAny_isInstance (b:=true) hT sub_set_self ?_);exact wpAny_pure h
theorem ua{a:Addr}{ns:List Int}{Q:Value→Shared→Prop}(ha:IS w s.heap a ns)(hn:ns.length≤60)(h:∀h' us,(∀b o,s.heap.get? b=some o→h'.get? b=some o)→IS w h' s.heap.objs.size us→us.Perm ns→Q (.ref s.heap.objs.size) {s with heap:=h'}):wpAny (model prog w) A (Builtin.Frozenset.copyOf a) Q E s:=by
 obtain⟨o,es,ep,t,ho,hex,hd,S⟩:=id ha;have hT:s.TypeIs (.ref a) "set":=⟨o,ho,hex.1⟩;unfold Builtin.Frozenset.copyOf Builtin.Frozenset.baseOf;refine wpAny_bind ?_;refine wpAny_bind (wpAny_isInstance (b:=true) hT sub_set_self ?_);refine wpAny_pure ?_;simp only[if_true];refine wpAny_bind (vX λh1 hk hS=>?_);refine wpAny_bind ?_;show wpAny _ _ (pure s.heap.objs.size) _ _ _;refine wpAny_pure ?_;have hlt:a<s.heap.objs.size:=lt_size ho;refine wpAny_bind (jJ (s:={s with heap:=h1}) (ne_of_gt hlt) hS (ha.at λo e=>hk a o e) hn λh' us hsb hS' hp=>?_);refine wpAny_pure (h h' us (λb o e=>?_) hS' hp);rw[hsb.2 b (ne_of_lt (lt_size e))];exact hk b o e
theorem sf{a b:Addr}{ms ns:List Int}{Q:Value→Shared→Prop}(hab:a≠b)(ha:IS w s.heap a ms)(hb:IS w s.heap b ns)(hn:ms.length+ns.length≤60)(h:∀h' us,(∀b o,s.heap.get? b=some o→h'.get? b=some o)→IS w h' s.heap.objs.size us→(∀x,x∈us↔x∈ms∨x∈ns)→Q (.ref s.heap.objs.size) {s with heap:=h'}):wpAny (model prog w) A (binaryOp .BitOr (.ref a) (.ref b)) Q E s:=by
 obtain⟨oa,ea,epa,ta,hoa,hexa,hda,Sa⟩:=id ha;obtain⟨ob,eb,epb,tb,hob,hexb,hdb,Sb⟩:=id hb;have hTa:s.TypeIs (.ref a) "set":=⟨oa,hoa,hexa.1⟩;have hTb:s.TypeIs (.ref b) "set":=⟨ob,hob,hexb.1⟩;refine wpAny_binaryOp_same hTa hTb F.fills_set_or F.slot_set_or (wpAny_call_entry F.slot_set_or hTa kR ?_ (F.args_set_or_2 _ _));unfold Builtin.«frozenset.__or__»;refine wpAny_bind ?_;unfold Builtin.Frozenset.slot1;refine wpAny_bind (wpAny_pure (wpAny_pure ?_));dsimp only;simp only[false_eq_true,if_false];refine wpAny_bind ?_;refine wpAny_bind (kS hTa ?_);show wpAny _ _ (Builtin.Frozenset.isAnySet (.ref b)) _ _ _;refine kS hTb ?_;simp only[Bool.not_true,false_eq_true,if_false];refine wpAny_bind ?_;show wpAny _ _ (pure a) _ _ _;refine wpAny_pure ?_;refine wpAny_bind ?_;refine wpAny_bind (ua ha (by omega) λh1 us hk hS hp=>?_);have hne:(Value.ref b != Value.ref a)=true:=by
  rw[bne_iff_ne];intro e;injection e with e
  exact hab e.symm
 rw[hne];simp only[if_true];refine wpAny_bind ?_;show wpAny _ _ (pure s.heap.objs.size) _ _ _;refine wpAny_pure ?_;refine wpAny_bind ?_;refine wpAny_holding ?_;unfold Builtin.Frozenset.updateFrom;have hob1:h1.get? b=some ob:=hk b ob hob;have hTb1:Shared.TypeIs {s with heap:=h1} (.ref b) "set":=⟨ob,hob1,hexb.1⟩
 refine wpAny_bind (kS hTb1 ?_);simp only[if_true];refine wpAny_bind ?_;show wpAny _ _ (pure b) _ _ _;refine wpAny_pure ?_;unfold Builtin.Frozenset.merge;refine wpAny_bind (wpAny_setEpoch_of (s:={s with heap:=h1}) hob1 hdb Sb.fits ?_);have hbn:s.heap.objs.size≠b:=ne_of_gt (lt_size hob);refine se (s:={s with heap:=h1}) hbn hS (hb.at λo e=>hk b o e) (by rw[hp.length_eq];exact hn) (λh' Q' hsb hq=>?_) λh' vs hsb hS' hmem=>?_
 ·unfold Builtin.Frozenset.unchanged;have hob2:h'.get? b=some ob:=(hsb.2 b (Ne.symm hbn)).trans hob1;refine wpAny_bind (wpAny_setEpoch_of (s:={s with heap:=h'}) hob2 hdb Sb.fits ?_);rw[if_neg (by simp)];exact wpAny_pure hq
 ·refine wpAny_pure (wpAny_pure ⟨_,rfl,(λe=>nomatch e),h h' vs (λc o e=>?_) hS' λx=>by rw[hmem x,hp.mem_iff]⟩);rw[hsb.2 c (ne_of_lt (lt_size e))];exact hk c o e
theorem sg{d:Addr}{od:Obj}{ed:Array DictEntry}{epd:Nat}{ks:List Int}{Q:Value→Shared→Prop}(hod:s.heap.get? d=some od)(hexd:od.ExactDict)(hdd:od.data=.dict ed epd)(hsm:(d==sysModules)=false)(hk:∀(i:Nat) (e:DictEntry),ed[i]?=some e→∃k t,ks[i]?=some k∧e.key=.int k t∧e.hash=hashInt k)(hlen:ed.size=ks.length)(hn:ks.length≤60)(h:∀h' us,(∀b o,s.heap.get? b=some o→h'.get? b=some o)→IS w h' s.heap.objs.size us→(∀x,x∈us↔x∈ks)→Q (.ref s.heap.objs.size) {s with heap:=h'}):wpAny (model prog w) A (call (.type "set") [.ref d]) Q E s:=by
 refine kO ?_;have hS:(s.heap.push {cls:=.type "set",dict:=none,data:=.set #[] 0 (.fresh 0 0 (!bt w))}).get? s.heap.objs.size=some {cls:=.type "set",dict:=none,data:=.set #[] 0 (.fresh 0 0 (!bt w))}:=get?_push_size _ rfl;have hI:IS w (s.heap.push {cls:=.type "set",dict:=none,data:=.set #[] 0 (.fresh 0 0 (!bt w))}) s.heap.objs.size []:=lU hS;have hod1:(s.heap.push {cls:=.type "set",dict:=none,data:=.set #[] 0 (.fresh 0 0 (!bt w))}).get? d=some od:=get?_push_of_some _ hod;have hkeep:∀b o,s.heap.get? b=some o→(s.heap.push {cls:=.type "set",dict:=none,data:=.set #[] 0 (.fresh 0 0 (!bt w))}).get? b=some o:=λb o e=>get?_push_of_some _ e;have hdS:s.heap.objs.size≠d:=ne_of_gt (lt_size hod);generalize (s.heap.push {cls:=.type "set",dict:=none,data:=.set #[] 0 (.fresh 0 0 (!bt w))})=h0 at hS hI hod1 hkeep⊢;have hT:Shared.TypeIs {s with heap:=h0} (.ref d) "dict":=⟨od,hod1,hexd.1⟩
 have hTS:Shared.TypeIs {s with heap:=h0} (.ref s.heap.objs.size) "set":=⟨_,hS,rfl⟩
 have h1:isSubtype (.type "dict") (.type "set")=pure false:=by rw[isSubtype_type];kernel_rfl
 have h2:isSubtype (.type "dict") (.type "frozenset")=pure false:=by rw[isSubtype_type];kernel_rfl
 generalize hU:@Builtin.Frozenset.updateFrom=U;unfold Builtin.«set.__init__» noKeywords
 wp_walk
 rw[hdd];refine wpAny_pure ?_;refine wpAny_bind (wpAny_dictEntries (s:={s with heap:=h0}) hod1 hdd ?_);refine wpAny_bind (kQ (s:={s with heap:=h0}) hI (by rw[length_nil];omega) λh3 ns3 o3 es3 ep3 t3 hs3 ho3 hex3 hd3 S3 hp3 _=>?_);have e3:ns3=[]:=hp3.eq_nil;subst e3;have hod3:h3.get? d=some od:=(hs3.2 d (Ne.symm hdS)).trans hod1;refine wpAny_bind (wpAny_dictEntries (s:={s with heap:=h3}) hod3 hdd ?_);refine wpAny_bind ?_;rw[Std.Legacy.Range.forIn_eq_forIn_range'];simp only[Std.Legacy.Range.size,Nat.sub_zero,Nat.add_sub_cancel,Nat.div_one];refine wpAny_forIn_list _ (λrest _ s'=>∃h' us i,s'={s with heap:=h'}∧rest=range' i (ed.size-i)∧i≤ed.size∧SameBut s.heap.objs.size h0 h'∧IS w h' s.heap.objs.size us∧(∀x,x∈us↔x∈ks.take i)∧us.length≤i) _ ?_ ?_ _ _
  ⟨h3,[],0,rfl,by simp,zero_le _,hs3,⟨o3,es3,ep3,t3,ho3,hex3,hd3,S3⟩,λx=>by simp,le_refl _⟩
 ·rintro x rest b s' ⟨h',us,i,rfl,hr,hi,hsb,hS',hmem,hl⟩;have hlt:i<ed.size:=by
   rcases Nat.lt_or_ge i ed.size with h|h
   ·exact h
   ·rw[Nat.sub_eq_zero_of_le h]at hr;simp at hr
  obtain⟨rfl,hrest⟩:x=i∧rest=range' (i+1) (ed.size-(i+1)):=by
   have e:ed.size-i=(ed.size-(i+1))+1:=by omega
   rw[e,List.range'_succ]at hr;injection hr with h1 h2
   exact⟨h1,h2⟩
  have hod':h'.get? d=some od:=(hsb.2 d (Ne.symm hdS)).trans hod1;refine wpAny_bind (wpAny_dictEntries (s:={s with heap:=h'}) hod' hdd ?_);have hx:ed[x]?=some ed[x]:=Array.getElem?_eq_getElem hlt;obtain⟨k,kt,hk1,hk2,hk3⟩:=hk x _ hx;rw[hx];show wpAny _ _ (holding [ed[x].key] (setAddHashed s.heap.objs.size ed[x].key ed[x].hash) >>= _) _ _ _;rw[hk2,hk3];refine wpAny_bind (wpAny_holding (add_int (s:={s with heap:=h'}) hS' (by omega) λr h2 us2 hsb2 hS2 hor=>?_));have hod2:h2.get? d=some od:=(hsb2.2 d (Ne.symm hdS)).trans hod';refine wpAny_bind (wpAny_dictEpoch (s:={s with heap:=h2}) hod2 hdd ?_);rw[if_neg (by simp)];refine wpAny_pure ⟨h2,us2,x+1,rfl,hrest,hlt,hsb.trans hsb2,hS2,λy=>?_,?_⟩
  ·have ht:ks.take (x+1)=ks.take x++[k]:=by rw[take_succ,hk1];rfl
   rw[ht,mem_append,List.mem_singleton];rcases hor with⟨hin,e⟩|⟨_,e⟩
   ·rw[e,hmem y];constructor
    ·exact .inl
    ·rintro(z|z)
     ·exact z
     ·rw[z];exact(hmem _).mp hin
   ·rw[e.mem_iff,mem_cons,hmem y];exact Or.comm
  ·rcases hor with⟨_,e⟩|⟨_,e⟩
   ·rw[e];omega
   ·have:=e.length_eq;rw[length_cons]at this;omega
 ·rintro b s' ⟨h',us,i,rfl,hr,hi,hsb,hS',hmem,hl⟩;have hin:i=ed.size:=by
   have:=congrArg length hr;rw[length_nil,List.length_range']at this;omega
  refine wpAny_pure (wpAny_pure ⟨rfl,h h' us (λc o e=>?_) hS' λx=>?_⟩)
  ·rw[hsb.2 c (ne_of_lt (lt_size e))];exact hkeep c o e
  ·rw[hmem x,hin,hlen,take_length]
end
end TB
namespace L2
open PySem PySem.Spec PyProof.Rows
section
variable{X:Cx}
theorem Inv.dK{pins:List (Addr×Obj)}{σ:St}{H:Hp}{s:Shared}(I:Inv X pins σ H s){a:Addr}{kvs:List (Key×V)}(h:Rd H a (.dK kvs)):
  kvs.length≤sizeLine∧(a==sysModules)=false∧∃vs,KV kvs vs∧s.heap.DictOf (aB X.prog X.w) a vs:=by
 rcases h with h|⟨o,h⟩
 ·obtain⟨hz,hsm,vs,rel,dd⟩:=I.hok a _ h;exact⟨hz,hsm,vs,rel,dd⟩
 ·obtain⟨_,hz,hsm,vs,rel,dd⟩:=I.hok a _ h;exact⟨hz,hsm,vs,rel,dd⟩
def jK:V→Bool
 |.non=>true
 |.int _=>true
 |.str _=>true
 |_=>false
theorem eU{x:V}(h:jK x=true):cG x=true:=by cases x<;>first|rfl|cases h
theorem sh{x y:V}(hx:jK x=true)(hy:jK y=true):eqV x y=decide (x=y):=by
 cases x<;>cases y<;>simp_all [eqV,jK]<;>rw[Bool.eq_iff_iff]<;>simp
def OT(H:Hp)(x:V)(o:Option (List V)):Prop:=(x=.non∧o=none)∨∃a xs,x=.ref a∧H a=some (.tup xs)∧o=some xs∧∀v∈xs,jK v=true
theorem vY{xs ys:List V}(hl:xs.length=ys.length):((List.range xs.length).all λi=>decide (xs.getD i .non=ys.getD i .non))=decide (xs=ys):=by
 rw[Bool.eq_iff_iff,all_eq_true,decide_eq_true_eq];constructor
 ·intro h;apply ext_getElem?;intro i
  by_cases hi:i<xs.length
  ·have:=h i (mem_range.mpr hi);rw[decide_eq_true_eq,getD_eq_getElem?_getD,getD_eq_getElem?_getD,getElem?_eq_getElem hi,getElem?_eq_getElem (by omega)]at this;rw[getElem?_eq_getElem hi,getElem?_eq_getElem (by omega)];exact congrArg some this
  ·rw[getElem?_eq_none (by omega),getElem?_eq_none (by omega)]
 ·intro h i hi;rw[h];simp
theorem si(hu:X.A.units+1<cLine):OpR X (compareOp .NotEq) (λx y H Q=>∃ox oy,OT H x ox∧OT H y oy∧Q (.bl (!decide (ox=oy))) H):=by
 intro pins s σ H x y v u Q I rx ry h;obtain⟨ox,oy,hx,hy,q⟩:=h;have hu0:X.A.units<cLine:=by omega
 rcases hx with⟨rfl,rfl⟩|⟨a,xs,rfl,ha,rfl,fx⟩<;>rcases hy with⟨rfl,rfl⟩|⟨b,ys,rfl,hb,rfl,fy⟩<;>cases rx<;>cases ry
 ·exact RcNeAt.none_none _ _ _ _ ⟨.bl false,H,I,rfl,q⟩
 ·obtain⟨_,ws,r2,t2⟩:=I.hok b _ hb;exact RcNeAt.none_tuple t2 hu0 _ _ _ _ ⟨.bl true,H,I,rfl,q⟩
 ·obtain⟨_,us,r1,t1⟩:=I.hok a _ ha;exact RcNeAt.tuple_none t1 hu0 _ _ _ _ ⟨.bl true,H,I,rfl,q⟩
 ·obtain⟨_,us,r1,t1⟩:=I.hok a _ ha;obtain⟨_,ws,r2,t2⟩:=I.hok b _ hb;have l1:=r1.length;have l2:=r2.length;refine RcNeAt.tuples (e:=λi=>decide (xs.getD i .non=ys.getD i .non)) t1 t2 hu0 (λj h1 h2=>?_) _ _ _ _ ⟨.bl _,H,I,rfl,?_⟩
  ·have h1':j<xs.length:=by rw[l1];simpa using h1
   have h2':j<ys.length:=by rw[l2];simpa using h2
   obtain⟨u',hu1,hu2⟩:=r1.get (getElem?_eq_getElem h1');obtain⟨v',hv1,hv2⟩:=r2.get (getElem?_eq_getElem h2');have e1:us.toArray[j]=u':=by
    have:us[j]?=some us.toArray[j]:=by rw[getElem?_eq_getElem (by simpa using h1)];simp
    rw[hu1]at this;exact(Option.some.inj this).symm
   have e2:ws.toArray[j]=v':=by
    have:ws[j]?=some ws.toArray[j]:=by rw[getElem?_eq_getElem (by simpa using h2)];simp
    rw[hv1]at this;exact(Option.some.inj this).symm
   rw[e1,e2,getD_eq_getElem?_getD,getD_eq_getElem?_getD,getElem?_eq_getElem h1',getElem?_eq_getElem h2'];have f1:=fx _ (getElem_mem h1');have f2:=fy _ (getElem_mem h2');show EqAt _ _ _ _ (decide (xs[j]=ys[j]));rw[←sh f1 f2];exact kd hu2 hv2 (eU f1) (eU f2)
  ·have e:((List.range (min us.toArray.size ws.toArray.size)).all (λi=>decide (xs.getD i .non=ys.getD i .non))&&us.toArray.size==ws.toArray.size)=decide (some xs=some ys):=by
    simp only[size_toArray,←l1,←l2]
    by_cases hl:xs.length=ys.length
    ·rw[←hl,Nat.min_self,vY hl];simp
    ·have:(xs.length==ys.length)=false:=by simpa using hl
     rw[this,Bool.and_false];refine(decide_eq_false ?_).symm;intro e;injection e with e
     exact hl (by rw[e])
   rw[e];exact q
end
theorem cu{α:Type}[DecidableEq α]:∀{l m:List α},l.Nodup→(∀x∈l,x∈m)→l.length≤m.length
 |[],_,_,_=>zero_le _
 |x::l,m,hn,h=>by
  obtain⟨h1,h2⟩:=nodup_cons.mp hn;have hx:=h x mem_cons_self;have ih:=cu (l:=l) (m:=m.erase x) h2 λy hy=>(List.mem_erase_of_ne (by rintro rfl;exact h1 hy)).mpr (h y (mem_cons_of_mem _ hy));rw[List.length_erase_of_mem hx]at ih;have:=List.length_pos_of_mem hx;rw[length_cons];omega
section
variable{X:Cx}
theorem cO:dz X (.type "set") (λxs H Q=>∃d kvs,∃ks:List Int,xs=[.ref d]∧Rd H d (.dK kvs)∧kvs.map (·.1)=ks.map (Sum.inl:Int→Key)∧ks.length≤60 ∧
  ∀ms:List Int,ms.Nodup→(∀x,x∈ms↔x∈ks)→∀q,H q=none→Q (.ref q) (upd H q (bz X.w q ms))):=by
 intro pins s σ H xs us Q I r h;obtain⟨d,kvs,ks,rfl,hH,hks,hl,q⟩:=h;obtain⟨u,rfl,ru⟩:=hX r;cases ru;obtain⟨hz,hsm,vs,rel,o,es,ep,ho,hx,hd,hk,hp,hn⟩:=I.dK hH;have hlen:es.size=ks.length:=by
  have e1:=hp.length;have e2:=rel.length;have e3:=congrArg length hks;rw[length_map,length_map]at e3;rw[length_toList]at e1;omega
 have key:∀(es:List DictEntry)(vs:List (Key×Value))(kvs:List (Key×V))(ks:List Int),Pairs (aB X.prog X.w) es vs→KV kvs vs→kvs.map (·.1)=ks.map (Sum.inl:Int→Key)→(∀e∈es,∃k,(aB X.prog X.w).is k e.key=true∧e.hash=(aB X.prog X.w).hash k) →
   ∀(i:Nat)(e:DictEntry),es[i]?=some e→∃k t,ks[i]?=some k∧e.key=.int k t∧e.hash=hashInt k:=by
  intro es vs kvs ks hp
  induction hp generalizing kvs ks with
  |nil=>intro _ _ _ i e he;simp at he
  |@cons e0 kv0 es0 kvs0 h1 h2 _ ih =>
   intro r hks hk i e he;cases r with
   |@cons p _ kvs1 _ r1 r2 =>
    cases ks with
    |nil=>simp at hks
    |cons k ks =>
     rw[map_cons,map_cons]at hks;injection hks with g1 g2
     cases i with
     |zero =>
      have ee:e0=e:=by simpa using he
      subst ee;have g3:kv0.1=Sum.inl k:=r1.1.symm.trans g1;rw[g3]at h1;obtain⟨k',hk1,hk2⟩:=hk _ mem_cons_self;have g4:k'=Sum.inl k:=(aB X.prog X.w).inj _ _ _ hk1 h1;subst g4;have h1':hJ (Sum.inl k) e0.key=true:=h1;rcases aM h1' with⟨j,t,e1,e2⟩|⟨y,t,e1,e2⟩
      ·injection e1 with e1
       subst e1;exact⟨k,t,rfl,e2,hk2⟩
      ·cases e1
     |succ i=>exact ih _ ks r2 g2 (λe he=>hk e (mem_cons_of_mem _ he)) i e (by simpa using he)
 refine TB.sg (ks:=ks) ho hx hd hsm (λi e he=>?_) hlen hl λh' us hkeep hS hmem=>?_
 ·exact key es.toList vs kvs ks hp rel hks (λe he=>hk e (by simpa using he)) i e (by rw[getElem?_toList];exact he)
 ·have hnd:us.Nodup:=by obtain⟨_,_,_,_,_,_,_,S⟩:=hS;exact S.nd
  exact⟨.ref s.heap.objs.size,_,I.layS (t':=s.toks) hkeep (le_refl _) hS,rfl,q us hnd hmem _ (I.hok.fresh (le_refl _))⟩
theorem lZ:OpR X (binaryOp .BitOr) (λx y H Q=>∃a b,∃ms ns:List Int,x=.ref a∧y=.ref b∧a≠b∧H a=some (bz X.w a ms)∧H b=some (bz X.w b ns)∧ms.length+ns.length≤60 ∧
  ∀us:List Int,us.Nodup→(∀x,x∈us↔x∈ms∨x∈ns)→∀q,H q=none→Q (.ref q) (upd H q (bz X.w q us))):=by
 intro pins s σ H x y v u Q I rx ry h;obtain⟨a,b,ms,ns,rfl,rfl,hab,ha,hb,hl,q⟩:=h;cases rx;cases ry;refine TB.sf hab (I.intS ha) (I.intS hb) hl λh' us hkeep hS hmem=>?_;have hnd:us.Nodup:=by obtain⟨_,_,_,_,_,_,_,S⟩:=hS;exact S.nd
 exact⟨.ref s.heap.objs.size,_,I.layS (t':=s.toks) hkeep (le_refl _) hS,rfl,q us hnd hmem _ (I.hok.fresh (le_refl _))⟩
end
end L2
namespace TW
section
variable{S:Type}
def aH(t:List (Nd S))(k:Int):Option (Nd S):=t.find? λn=>n.num==k
theorem dt{t:List (Nd S)}(T:Tree1 t){m:Nd S}(hm:m∈t){k:Int}(e:m.num=k):aH t k=some m:=by
 subst e;unfold aH;cases h:t.find? λn=>n.num==m.num with
 |none=>have:=List.find?_eq_none.mp h m hm;simp at this
 |some y =>
  have h1:=List.find?_some h;have h2:=List.mem_of_find?_eq_some h;have h3:y.num=m.num:=by simpa using h1
  rw[T.inj h2 hm h3]
theorem iP{t:List (Nd S)}{k:Int}(h:∀m∈t,m.num≠k):aH t k=none:=by
 unfold aH;rw[List.find?_eq_none];intro m hm;simpa using h m hm
end
end TW
namespace TW
section
variable{S:Type}
structure Row(S:Type) where
 k:Int
 o:Option (Nd S)
 n:Option (Nd S)
structure Chg(t u:List (Nd S))(rs:List (Row S)):Prop where
 up:rs.Pairwise λa b=>a.k<b.k
 mem:∀r,r∈rs↔r.o=aH t r.k∧r.n=aH u r.k∧r.o≠r.n
theorem ck{t:List (Nd S)}{k:Int}{m:Nd S}(h:aH t k=some m):m∈t∧m.num=k:=by
 unfold aH at h;have h1:=List.find?_some h;have h2:=List.mem_of_find?_eq_some h;exact⟨h2,by simpa using h1⟩
theorem pe:∀{a b:List (Row S)},a.Pairwise (λx y=>x.k<y.k)→b.Pairwise (λx y=>x.k<y.k)→(∀r,r∈a↔r∈b)→a=b
 |[],[],_,_,_=>rfl
 |[],y::b,_,_,h=>absurd ((h y).mpr mem_cons_self) (by simp)
 |x::a,[],_,_,h=>absurd ((h x).mp mem_cons_self) (by simp)
 |x::a,y::b,ha,hb,h=>by
  obtain⟨a1,a2⟩:=pairwise_cons.mp ha;obtain⟨b1,b2⟩:=pairwise_cons.mp hb;have e:x=y:=by
   rcases mem_cons.mp ((h x).mp mem_cons_self)with e|e
   ·exact e
   ·rcases mem_cons.mp ((h y).mpr mem_cons_self)with e'|e'
    ·exact e'.symm
    ·have q1:=b1 x e;have q2:=a1 y e';omega
  subst e
  congr 1
  refine pe a2 b2 λr=>⟨λhr=>?_,λhr=>?_⟩
  ·rcases mem_cons.mp ((h r).mp (mem_cons_of_mem _ hr))with e|e
   ·have:=a1 r hr;rw[e]at this;omega
   ·exact e
  ·rcases mem_cons.mp ((h r).mpr (mem_cons_of_mem _ hr))with e|e
   ·have:=b1 r hr;rw[e]at this;omega
   ·exact e
theorem Chg.uniq{t u:List (Nd S)}{a b:List (Row S)}(ha:Chg t u a)(hb:Chg t u b):a=b:=pe ha.up hb.up λr=>(ha.mem r).trans (hb.mem r).symm
theorem Chg.nil{t:List (Nd S)}{a:List (Row S)}(h:Chg t t a):a=[]:=by
 cases a with
 |nil=>rfl
 |cons x a =>
  obtain⟨h1,h2,h3⟩:=(h.mem x).mp mem_cons_self;exact absurd (h1.trans h2.symm) h3
def cP(t u:List (Nd S))(k:Int):Row S:=⟨k,aH t k,aH u k⟩
theorem sj[DecidableEq (Nd S)]{t u:List (Nd S)}{ns:List Int}(hu:ns.Pairwise (· < ·))(hm:∀k,aH t k≠none∨aH u k≠none→k∈ns∨aH t k=aH u k):Chg t u ((ns.map (cP t u)).filter λr=>decide (r.o≠r.n)):=by
 refine⟨?_,λr=>?_⟩
 ·refine Pairwise.filter _ ?_;rw[pairwise_map];exact hu
 ·rw[mem_filter,mem_map,decide_eq_true_eq];constructor
  ·rintro⟨⟨k,hk,rfl⟩,hne⟩;exact⟨rfl,rfl,hne⟩
  ·rintro⟨h1,h2,h3⟩;refine⟨⟨r.k,?_,?_⟩,h3⟩
   ·have h4:aH t r.k≠aH u r.k:=by rw[←h1,←h2];exact h3
    have h5:aH t r.k≠none∨aH u r.k≠none:=by
     by_cases z:aH t r.k=none
     ·exact .inr λz2=>h4 (z.trans z2.symm)
     ·exact .inl z
    rcases hm r.k h5 with z|z
    ·exact z
    ·exact absurd z h4
   ·show(⟨r.k,aH t r.k,aH u r.k⟩:Row S)=r;rw[←h1,←h2]
end
end TW
namespace L2
open PySem PySem.Spec PyProof.Rows
end L2
namespace TK
open PySem L2
instance decNd:DecidableEq (TW.Nd Str):=λa b=>Classical.propDecidable _
abbrev Row:=TW.Row Str
def cI(H:Hp)(v:V)(o:Option Nd):Prop:=(v=.non∧o=none)∨∃q n,v=.ref q∧H q=some (.tup (bd n))∧o=some n
theorem cI.same{H H':Hp}{v:V}{o:Option Nd}(h:cI H v o)(s:Same H H'):cI H' v o:=by
 rcases h with h|⟨q,n,e,h,e2⟩
 ·exact .inl h
 ·exact .inr ⟨q,n,e,s _ _ h,e2⟩
theorem iQ(n:Nd):∀v∈bd n,jK v=true:=λv hv=>by
 unfold bd at hv;simp only[mem_cons,not_mem_nil,or_false]at hv;rcases hv with rfl|rfl|rfl
 ·rfl
 ·rfl
 ·cases n.st<;>rfl
theorem cI.ot{H:Hp}{v:V}{o:Option Nd}(h:cI H v o):OT H v (o.map bd):=by
 rcases h with⟨e,e2⟩|⟨q,n,e,h,e2⟩
 ·exact .inl ⟨e,by rw[e2];rfl⟩
 ·exact .inr ⟨q,bd n,e,h,by rw[e2];rfl,iQ n⟩
theorem qc{a b:Nd}(h:bd a=bd b)(e:a.num=b.num):a=b:=by
 obtain⟨n1,p1,m1,s1⟩:=a;obtain⟨n2,p2,m2,s2⟩:=b;unfold bd at h;simp only[List.cons.injEq,V.int.injEq,V.str.injEq,and_true]at h;obtain⟨h1,h2,h3⟩:=h;have h4:s1=s2:=by
  cases s1<;>cases s2<;>simp_all [stV]
 simp only at e;subst e h1 h2 h4;rfl
def uc(r:Row):Prop:=(∀n,r.o=some n→n.num=r.k)∧∀n,r.n=some n→n.num=r.k
theorem uc.eq{r:Row}(h:uc r):r.o.map bd=r.n.map bd↔r.o=r.n:=by
 obtain⟨k,o,n⟩:=r;constructor
 ·intro e;cases o with
  |none=>cases n with
   |none=>rfl
   |some b=>cases e
  |some a=>cases n with
   |none=>cases e
   |some b =>
    have e2:bd a=bd b:=Option.some.inj e;exact congrArg some (qc e2 ((h.1 a rfl).trans (h.2 b rfl).symm))
 ·intro e;show o.map bd=n.map bd;have:o=n:=e;rw[this]
structure RowAt(H:Hp)(e:Addr)(r:Row):Prop where
 at':∃vo vn,H e=some (.tup [.int r.k,vo,vn])∧cI H vo r.o∧cI H vn r.n
 ok:uc r
theorem RowAt.same{H H':Hp}{e:Addr}{r:Row}(h:RowAt H e r)(s:Same H H'):RowAt H' e r:=by
 obtain⟨⟨vo,vn,h1,h2,h3⟩,hk⟩:=h;exact⟨⟨vo,vn,s _ _ h1,h2.same s,h3.same s⟩,hk⟩
abbrev ZR:=List (Addr×Row)
def bH(es:ZR):List V:=es.map λe=>V.ref e.1
def aL(es:ZR):List Row:=es.map (·.2)
structure ChgAt(H:Hp)(c:Addr)(es:ZR):Prop where
 tup:H c=some (.tup (bH es))
 at':∀e∈es,RowAt H e.1 e.2
 len:es.length≤60
theorem ChgAt.same{H H':Hp}{c:Addr}{es:ZR}(h:ChgAt H c es)(s:Same H H'):ChgAt H' c es:=⟨s _ _ h.tup,λe he=>(h.at' e he).same s,h.len⟩
theorem ma{t u:List Nd}(k:Int):uc (TW.cP t u k):=⟨λn h=>(TW.ck h).2,λn h=>(TW.ck h).2⟩
theorem jL{H:Hp}{v w:V}{o:Option Nd}(hv:cI H v o)(hw:cI H w o):eD H 2 v w:=by
 rcases hv with⟨rfl,rfl⟩|⟨q,n,rfl,hq,rfl⟩
 ·rcases hw with⟨rfl,_⟩|⟨q,n,_,_,e⟩
  ·exact bx ⟨rfl,rfl⟩
  ·cases e
 ·rcases hw with⟨_,e⟩|⟨q2,n2,rfl,hq2,e⟩
  ·cases e
  ·have:n=n2:=Option.some.inj e;subst this;exact .inr ⟨q,q2,_,_,rfl,rfl,hq,hq2,rfl,λi x y hx hy=>by
    have e:x=y:=Option.some.inj (hx.symm.trans hy);subst e;exact bx ⟨rfl,eU (iQ n x (mem_of_getElem? hx))⟩⟩
theorem iR{H:Hp}{es fs:ZR}(h:aL es=aL fs)(he:∀e∈es,RowAt H e.1 e.2)(hf:∀e∈fs,RowAt H e.1 e.2):da H (bH es) (bH fs):=by
 have hl:es.length=fs.length:=by
  have:=congrArg length h;unfold aL at this;rw[length_map,length_map]at this;exact this
 refine⟨by unfold bH;rw[length_map,length_map];exact hl,λi x y hx hy=>?_⟩;unfold bH at hx hy;rw[getElem?_map]at hx hy;cases ga:es[i]? with
 |none=>rw[ga]at hx;cases hx
 |some a =>
  cases gb:fs[i]? with
  |none=>rw[gb]at hy;cases hy
  |some b =>
   rw[ga]at hx;rw[gb]at hy;have ex:V.ref a.1=x:=Option.some.inj hx;have ey:V.ref b.1=y:=Option.some.inj hy;subst ex ey;have e:a.2=b.2:=by
    have h1:(aL es)[i]?=some a.2:=by unfold aL;rw[getElem?_map,ga];rfl
    have h2:(aL fs)[i]?=some b.2:=by unfold aL;rw[getElem?_map,gb];rfl
    rw[h,h2]at h1;exact(Option.some.inj h1).symm
   obtain⟨⟨vo,vn,a1,a2,a3⟩,_⟩:=he a (mem_of_getElem? ga);obtain⟨⟨wo,wn,b1,b2,b3⟩,_⟩:=hf b (mem_of_getElem? gb);rw[←e]at b1 b2 b3;refine .inr ⟨a.1,b.1,_,_,rfl,rfl,a1,b1,rfl,λj x' y' hx' hy'=>?_⟩
   match j,hx',hy' with
   |0,hx',hy' =>
    cases hx';cases hy';exact bx ⟨rfl,rfl⟩
   |1,hx',hy' =>
    cases hx';cases hy';exact jL a2 b2
   |2,hx',hy' =>
    cases hx';cases hy';exact jL a3 b3
   |j+3,hx',hy'=>simp at hx'
theorem Book.optV{H:Hp}{d:Addr}{as:List (Addr×(Addr×Nd))}{zs:ZN}(b:Book H d as zs)(T:TW.Tree1 (nds zs))(k:Int):∃r,cK H d (.int k) r∧cI H (r.getD .non) (TW.aH (nds zs) k):=by
 by_cases hk:∃z∈zs,z.2.num=k
 ·obtain⟨z,hz,rfl⟩:=hk;obtain⟨q,hq1,hq2⟩:=b.get (cB T) hz;refine⟨_,hq1,?_⟩;rw[TW.dt T (bX hz) rfl];exact .inr ⟨q,z.2,rfl,hq2,rfl⟩
 ·refine⟨none,b.not λz hz e=>hk ⟨z,hz,e⟩,?_⟩;rw[TW.iP λm hm e=>?_]
  ·exact .inl ⟨rfl,rfl⟩
  ·obtain⟨z,hz,rfl⟩:=ky hm;exact hk ⟨z,hz,e⟩
theorem iS{as:List (Addr×(Addr×Nd))}{zs:ZN}(h:as.map (·.2)=zs):(eE as).map (·.1)=((nds zs).map (·.num)).map (Sum.inl:Int→Key):=eQ h
theorem gO{es:ZR}{t u:List Nd}{ns:List Int}(h:aL es=ns.map (TW.cP t u)):aL (es.filter λe=>!decide (e.2.o=e.2.n))=(ns.map (TW.cP t u)).filter λr=>decide (r.o≠r.n):=by
 rw[←h];unfold aL;rw[filter_map]
 congr 1
 apply filter_congr;intro e _;show(!decide (e.2.o=e.2.n))=decide (e.2.o≠e.2.n)
 by_cases z:e.2.o=e.2.n<;>simp[z]
theorem jM{t:List Nd}{k:Int}(h:TW.aH t k≠none):k∈t.map (·.num):=by
 cases e:TW.aH t k with
 |none=>exact absurd e h
 |some m =>
  obtain⟨h1,h2⟩:=TW.ck e;exact mem_map.mpr ⟨m,h1,h2⟩
section
variable{P:Program}{w:World}{K:PySem.W.Frag}{mg:Str→Option Value}{base:Heap}
def nL:Sp:=λvs H Q _=>∃t zs,vs=[.ref t]∧Tre H t zs∧∀d as H',Same H H'→H d=none→Book H' d as zs→H' d=some (.dK (eE as))→Q (.ref d) H'
theorem vZ:FnScope ["tree"] ["tree"] (ah bZ):=fsc
theorem ud{f:Addr}{fd:FuncData}(F:Fun K "parts_by_number" "parts_by_number" bZ f fd)(T:Txt mg):FnOk P w K mg base CX0 1 f fd ["tree"] nL:=by
 refine F.ok vZ (λvs H Q E h=>?_) (λcdv A outer s H vs Q E hr h=>?_)
 ·obtain⟨t,zs,rfl,_⟩:=h;rfl
 ·obtain⟨t,zs,rfl,tr,k⟩:=h;have hnd:=cB tr.tr;have hl:=tr.len;have ht:=tr.tup;have hA:=tr.nod;refine⟨_,aj (av (aO (cN rfl) rfl T.dict boot_dict (aa (io (N:=["node"]) (k:=1) (js:=[]) (g:=ca 0) rfl (gw rfl (by decide +kernel) (by decide +kernel) (by decide +kernel)) rfl (λi j x h=>by simp at h)
   (cF (pv 0)) (λs H fp=>aE (i:=0) (show(["node"]:List Str).Nodup by decide +kernel) rfl (Or.inl rfl) (Or.inr rfl))
   (λs H fp=>aA (aa (aC (r:=ik K) aw (pv 0) ak (λ_ _=>rfl)) (aa (ig (r:=wO K) qw (pv 0) (jW ak) jV) ae)))) ae))),?_⟩
  refine⟨_,rfl,t,rfl,⟨_,SqT.of ht⟩,λp hp=>?_⟩;refine rg (fr:=[]) zs.length (by omega) hp rfl (λi y H'=>∃q t' z,zs[i]?=some z∧y=.ref q∧q≠p∧t'≠p∧H' q=some (.tup [.int z.2.num,.ref t'])∧H' t'=some (.tup (bd z.2))) (λi y H1 H2 h ex=>?_) (λi H' hi s1=>?_) (λH' s1=>?_) ?_ (λi H' x H2 hi s1 hpl hy=>?_) (λys H' s1 hp' hlen hys=>?_)
  ·obtain⟨q,t',z,e1,e2,e3,e4,e5,e6⟩:=h;exact⟨q,t',z,e1,e2,e3,e4,ex q _ e3 e5,ex t' _ e4 e6⟩
  ·exact⟨_,_,SqT.of (s1 _ _ ht),lI (getElem?_eq_getElem hi)⟩
  ·exact⟨_,SqT.of (s1 _ _ ht),by rw[bT];exact le_refl _⟩
  ·rintro _ _ _ _ m ⟨v1,b1,p1,xs,i1,v2,c1,c2,c3,c4,v3,b3,i3,d0,a3,xs3,d1,d2,d3,q⟩;refine⟨v1,b1,p1,xs,i1,v2,c1,c2,c3,c4,v3,b3,i3,d0,a3,xs3,d1,d2,d3,λl hl=>?_⟩;obtain⟨hz',q'⟩:=q l hl;exact⟨hz',λl' hl'=>m _ _ (q' l' hl')⟩
  ·obtain⟨rfl,hx⟩:=hy;obtain⟨z,gz,rfl⟩:=cr (hx _ (SqT.of (s1 _ _ ht)));have mz:=mem_of_getElem? gz;have hz1:=s1 _ _ (hA z mz);have ecut:jX (vals z.2) (some 1) none=bd z.2:=rfl;refine⟨rfl,_,rfl,z.1,_,_,_,rfl,rfl,SqT.of hz1,at0 z.2,_,rfl,_,rfl,z.1,_,rfl,SqT.of hz1,(by intro h;exact absurd h.1 (show ¬HT.sIx 4 0 (some 1)=0 by decide)),λt' ht'=>?_⟩;rw[ecut];have s2:=ag (o:=.tup (bd z.2)) ht';have hpl2:∃ys,upd H2 t' (.tup (bd z.2)) p=some (.lst ys):=let⟨ys,e⟩:=hpl;⟨ys,s2 _ _ e⟩;refine⟨le2,λq hq=>⟨s2.trans (ag hq),q,t',z,gz,rfl,gB hpl2 hq,gB hpl ht',ac,bQ hq ac⟩⟩
  ·obtain⟨as,e1,e2,e3⟩:∃as:List ((Addr×Addr)×(Addr×Nd)),as.map (·.2)=zs∧ys=(as.map (·.1.1)).map V.ref∧∀a∈as,H' a.1.1=some (.tup [.int a.2.2.num,.ref a.1.2])∧H' a.1.2=some (.tup (bd a.2.2)):=by
    clear hp';have main:∀(ys:List V)(xs:ZN),ys.length=xs.length→(∀(i:Nat) y,ys[i]?=some y→∃q t' z,xs[i]?=some z∧y=.ref q∧q≠p∧t'≠p∧H' q=some (.tup [.int z.2.num,.ref t'])∧H' t'=some (.tup (bd z.2))) →
      ∃as:List ((Addr×Addr)×(Addr×Nd)),as.map (·.2)=xs∧ys=(as.map (·.1.1)).map V.ref∧∀a∈as,H' a.1.1=some (.tup [.int a.2.2.num,.ref a.1.2])∧H' a.1.2=some (.tup (bd a.2.2)):=by
     intro ys
     induction ys with
     |nil =>
      intro xs hl _;have:xs=[]:=length_eq_zero_iff.mp hl.symm;subst this;exact⟨[],rfl,rfl,by simp⟩
     |cons y ys ih =>
      intro xs hl h;cases xs with
      |nil=>simp at hl
      |cons x xs =>
       obtain⟨as,e1,e2,e3⟩:=ih xs (by simpa using hl) λi y hy=>by simpa using h (i+1) y (by simpa using hy)
       obtain⟨q,t',z,f1,f2,f3,f4,f5,f6⟩:=h 0 y rfl;have:x=z:=by simpa using f1
       subst this;refine⟨((q,t'),x)::as,by simp[e1],by simp[e2,f2],λa ha=>?_⟩;rcases mem_cons.mp ha with rfl|ha
       ·exact⟨f5,f6⟩
       ·exact e3 a ha
    exact main ys zs hlen hys
   have hal:as.length=zs.length:=by rw[←e1,length_map]
   refine⟨p,as.map λa=>(a.1.1,(Sum.inl a.2.2.num:Key),V.ref a.1.2),rfl,?_,?_,?_,?_,λd hd=>?_⟩
   ·rw[hp',e2,map_map,map_map,map_map];rfl
   ·intro z hz;obtain⟨a,ha,rfl⟩:=mem_map.mp hz;exact(e3 a ha).1
   ·rw[length_map];omega
   ·rw[map_map];have:(as.map ((λx:Addr×Key×V=>x.2.1)∘λa=>(a.1.1,(Sum.inl a.2.2.num:Key),V.ref a.1.2)))=((nds zs).map (·.num)).map (Sum.inl:Int→Key):=by
     rw[←e1];unfold nds;simp only[map_map];rfl
    rw[this];unfold Nodup at hnd⊢;rw[pairwise_map];exact hnd.imp λh e=>h (by injection e)
   ·have sd:=ag (o:=.dK ((as.map λa=>(a.1.1,(Sum.inl a.2.2.num:Key),V.ref a.1.2)).map (·.2))) hd;have ed:upd H' d (.dK ((as.map λa=>(a.1.1,(Sum.inl a.2.2.num:Key),V.ref a.1.2)).map (·.2))) d=some (.dK (eE (as.map λa=>(a.1.2,a.2)))):=by
     rw[ac];refine congrArg (λx=>some (HO.dK x)) ?_;unfold eE;simp only[map_map];rfl
    refine k d (as.map λa=>(a.1.2,a.2)) _ (s1.trans sd) (s1.free hd) ⟨.inl ed,by rw[map_map];exact e1,λa ha=>?_⟩ ed;obtain⟨b,hb,rfl⟩:=mem_map.mp ha;exact sd _ _ (e3 b hb).2
def unl(e:Addr×Row):Bool:=!decide (e.2.o=e.2.n)
def md:Sp:=λvs H Q _=>∃l es,vs=[.ref l]∧H l=some (.lst (bH es))∧(∀e∈es,RowAt H e.1 e.2)∧es.length≤60∧∀c H',Same H H'→ChgAt H' c (es.filter unl)→Q (.ref c) H'
theorem xm:FnScope ["entries"] ["entries"] (ah cj):=fsc
theorem wa{f:Addr}{fd:FuncData}(F:Fun K "unlike_entries" "unlike_entries" cj f fd)(T:Txt mg):FnOk P w K mg base CX0 1 f fd ["entries"] md:=by
 refine F.ok xm (λvs H Q E h=>?_) (λcdv A outer s H vs Q E hr h=>?_)
 ·obtain⟨l,es,rfl,_⟩:=h;rfl
 ·obtain⟨l,es,rfl,hl,he,hn,k⟩:=h;refine⟨_,aj (av (aO bw rfl T.tuple rfl (aa (ip (N:=["entry"]) (cl:=[]) (k:=1) (js:=[]) (g:=ca 0) rfl (gw rfl (by decide +kernel) (by decide +kernel) (by decide +kernel)) rfl (λi j x h=>by simp at h)
   (cm (pv 0)) (λs H fp=>aE (i:=0) (show(["entry"]:List Str).Nodup by decide +kernel) rfl (Or.inl rfl) (Or.inr rfl))
   (λs H fp=>am (si (bO hr)) (aC (r:=ik K) aw (pv 0) ak (λ_ _=>rfl)) (aC (r:=ik K) aw (pv 0) ak (λ_ _=>rfl)) (ay _)) (λs H fp=>pv 0)) ae))),?_⟩
  refine⟨_,rfl,l,rfl,⟨_,SqL.of hl⟩,λp hp=>?_⟩;refine iD (fr:=[]) es (λe=>V.ref e.1) (by omega) hp (gZ (SqL.of hl)) rfl unl (λe y _=>y=.ref e.1) (λe y H H' h _=>h) (λe H' k' me s1 _ hk=>?_) (λe H' k' me _ s1 _ hk=>⟨_,rfl,hk _ H' (Same.refl _) rfl⟩) (λys H' s1 hp' hys=>?_)
  ·obtain⟨⟨vo,vn,h1,h2,h3⟩,ok⟩:=(he e me).same s1;refine⟨_,rfl,e.1,_,_,_,rfl,rfl,SqT.of h1,rfl,_,rfl,e.1,_,_,_,rfl,rfl,SqT.of h1,rfl,_,_,h2.ot,h3.ot,_,rfl,?_⟩;have eb:(!decide (e.2.o.map bd=e.2.n.map bd))=unl e:=by
    unfold unl;have:=ok.eq
    by_cases z:e.2.o=e.2.n
    ·rw[decide_eq_true (this.mpr z),decide_eq_true z]
    ·rw[decide_eq_false (λq=>z (this.mp q)),decide_eq_false z]
   rw[eb];exact hk H' (Same.refl _)
  ·have ey:=eP (f:=λe:Addr×Row=>V.ref e.1) hys (λe y _ h=>h);refine⟨p,_,rfl,.inl ⟨SqL.of hp',λc hc=>?_⟩⟩;have s2:=s1.trans (ag (o:=.tup ys) hc);exact k c _ s2 ⟨by rw[ac,ey];rfl,λe me=>(he e (mem_filter.mp me).1).same s2,le_trans (length_filter_le _ _) hn⟩
end
def cbS(i:Nat):Stmt:=(bn aJ).getD i (.Pass ⟨0,0,0,0⟩)
def CN:List Str:=["one","other","before","after","numbers"]
theorem ue:FnScope CN ["one","other"] (ah aJ):=fsc
abbrev CbX(P:Program)(w:World)(K:PySem.W.Frag)(mg:Str→Option Value)(base:Heap)(f:Addr)(cdv:Value)(A:Around)(outer:List Env)(s:Shared)(H:Hp)(E:XK):Cx:=(ic CX0 P w K mg base CN "change_between" (ah aJ) f cdv A outer s H E).nox
section
variable{P:Program}{w:World}{K:PySem.W.Frag}{mg:Str→Option Value}{base:Heap}{f:Addr}{cdv:Value}{A:Around}{outer:List Env}{s:Shared}{H0:Hp}{E:XK}
theorem cb2(T:Txt mg):∃t,PS (CbX P w K mg base f cdv A outer s H0 E) (cbS 2) t∧∀(D:Ends)(H:Hp)(x0 x1 x4:Option V)(d d2:Addr)(as bs:List (Addr×(Addr×Nd)))(zs us:ZN),Book H d as zs→Book H d2 bs us→zs.length≤30→us.length≤30 →
   (∀(l:Addr)(ns:List Int)(H':Hp),Same H H'→H' l=some (.lst (ns.map V.int))→ns.Pairwise (· < ·)→ns.length≤60→(∀k,k∈ns↔k∈(nds zs).map (·.num)∨k∈(nds us).map (·.num))→D.nx [x0,x1,some (.ref d),some (.ref d2),some (.ref l)] H')→t D [x0,x1,some (.ref d),some (.ref d2),x4] H:=by
 refine⟨_,ao (i:=4) ue.nd rfl (Or.inl rfl) (bp (dO rfl) rfl T.sorted boot_sorted (aa (aU lZ (aO cO rfl T.set rfl (aa (pv 2) ae)) (aO cO rfl T.set rfl (aa (pv 3) ae))) ae)),?_⟩;intro D H x0 x1 x4 d d2 as bs zs us bk bk2 hl1 hl2 q;refine⟨_,rfl,d,_,(nds zs).map (·.num),rfl,bk.dict,iS bk.of,by rw[length_map,aY];omega,λm1 hn1 hm1 p1 hp1=>?_⟩;have s1:=ag (o:=bz (CbX P w K mg base f cdv A outer s H0 E).w p1 m1) hp1;have g1:upd H p1 (bz (CbX P w K mg base f cdv A outer s H0 E).w p1 m1) p1=some (bz (CbX P w K mg base f cdv A outer s H0 E).w p1 m1):=ac;generalize upd H p1 (bz (CbX P w K mg base f cdv A outer s H0 E).w p1 m1)=H1 at s1 g1⊢;refine⟨_,rfl,d2,_,(nds us).map (·.num),rfl,(bk2.same s1).dict,iS bk2.of,by rw[length_map,aY];omega,λm2 hn2 hm2 p2 hp2=>?_⟩;have s2:=s1.trans (ag (o:=bz (CbX P w K mg base f cdv A outer s H0 E).w p2 m2) hp2);have g2:upd H1 p2 (bz (CbX P w K mg base f cdv A outer s H0 E).w p2 m2) p2=some (bz (CbX P w K mg base f cdv A outer s H0 E).w p2 m2):=ac;have g1':upd H1 p2 (bz (CbX P w K mg base f cdv A outer s H0 E).w p2 m2) p1=some (bz (CbX P w K mg base f cdv A outer s H0 E).w p1 m1):=bQ hp2 g1;have hne:p1≠p2:=λe=>by rw[←e,g1]at hp2;cases hp2
 generalize upd H1 p2 (bz (CbX P w K mg base f cdv A outer s H0 E).w p2 m2)=H2 at s2 g2 g1'⊢;have k1:m1.length≤30:=by
  have:=cu hn1 λx hx=>(hm1 x).mp hx;rw[length_map,aY]at this;omega
 have k2:m2.length≤30:=by
  have:=cu hn2 λx hx=>(hm2 x).mp hx;rw[length_map,aY]at this;omega
 refine⟨p1,p2,m1,m2,rfl,rfl,hne,g1',g2,by omega,λm3 hn3 hm3 p3 hp3=>?_⟩;have k3:m3.length≤60:=by
  have:=cu (m:=m1++m2) hn3 λx hx=>mem_append.mpr ((hm3 x).mp hx);rw[length_append]at this;omega
 have s3:=s2.trans (ag (o:=bz (CbX P w K mg base f cdv A outer s H0 E).w p3 m3) hp3);refine⟨p3,m3,rfl,ac,k3,λns hns hup l hl=>?_⟩;have s4:=s3.trans (ag (o:=.lst (ns.map V.int)) hl);refine q l ns _ s4 ac hup (by rw[hns.length_eq];exact k3) λk=>?_;rw[hns.mem_iff,hm3 k,hm1 k,hm2 k]
theorem cb3(hr:Room 1 (A.deeper (PyProof.Rows.envOfC "change_between" (ah aJ) s.heap.objs.size f cdv)))(CU:Has P w K mg base 1 "unlike_entries" ["entries"] md):
  ∃t,PS (CbX P w K mg base f cdv A outer s H0 E) (cbS 3) t∧∀(D:Ends)(H:Hp)(x0 x1:Option V)(d d2 l:Addr)(as bs:List (Addr×(Addr×Nd)))(zs us:ZN)(ns:List Int),Book H d as zs→Book H d2 bs us→TW.Tree1 (nds zs)→TW.Tree1 (nds us)→H l=some (.lst (ns.map V.int))→ns.Pairwise (· < ·)→ns.length≤60→(∀k,k∈ns↔k∈(nds zs).map (·.num)∨k∈(nds us).map (·.num)) →
   (∀c es H',Same H H'→ChgAt H' c es→TW.Chg (nds zs) (nds us) (aL es)→D.rt (.ref c) H')→t D [x0,x1,some (.ref d),some (.ref d2),some (.ref l)] H:=by
 obtain⟨fU,fdU,GU,mU,kU,bU⟩:=CU;refine⟨_,av (al GU hr rfl mU kU bU .nil aI (aa (io (N:=["number","after","before"]) (cl:=[("before",s.heap.objs.size+1),("after",s.heap.objs.size+2)]) (k:=1) (js:=[3,2]) (g:=ca 0) rfl
   (LcOk.mk' ["before","after"] rfl rfl (by decide +kernel) (by decide +kernel) ?hcl rfl (by decide +kernel)) rfl ?hj (cm (pv 4)) (λs H fp=>aE (i:=0) (show(["number","after","before"]:List Str).Nodup by decide +kernel) rfl (Or.inl rfl) (Or.inr rfl))
   (λs H fp=>aA (aa (pv 0) (aa (fc (bO hr) (pv 2) (pv 0) ⟨rfl,rfl,rfl,rfl⟩) (aa (fc (bO hr) (pv 1) (pv 0) ⟨rfl,rfl,rfl,rfl⟩) ae))))) ae)),?_⟩
 case hcl =>
  intro y hy;rcases mem_cons.mp hy with e|hy
  ·rw[e];rfl
  ·rcases mem_cons.mp hy with e|hy
   ·rw[e];rfl
   ·cases hy
 case hj =>
  intro i j x h1 h2
  match i,h1,h2 with
  |0,h1,h2 =>
   cases h1;cases h2;exact⟨rfl,Or.inr (Or.inl rfl),(show((ah aJ).names.lookup ("after":Str)≠some NameKind.local)by decide +kernel),by first|exact Or.inl rfl|exact Or.inr rfl⟩
  |1,h1,h2 =>
   cases h1;cases h2;exact⟨rfl,Or.inr (Or.inl rfl),(show((ah aJ).names.lookup ("before":Str)≠some NameKind.local)by decide +kernel),by first|exact Or.inl rfl|exact Or.inr rfl⟩
  |i+2,h1,h2=>simp at h1
 intro D H x0 x1 d d2 l as bs zs us ns bk bk2 T1 T2 hl hup hn hm q;refine⟨_,rfl,l,rfl,⟨_,SqL.of hl⟩,λp hp=>?_⟩;refine ft (fr:=[some (.ref d2),some (.ref d)]) ns V.int (by omega) hp (gZ (SqL.of hl)) rfl (λk y H'=>∃c vo vn,y=.ref c∧c≠p∧H' c=some (.tup [.int k,vo,vn])∧cI H' vo (TW.aH (nds zs) k)∧cI H' vn (TW.aH (nds us) k)∧vo≠.ref p∧vn≠.ref p) (λk y H H' h ex=>?_) (λk H' kk mk s1 hpl hk=>?_) (λys H' s1 hp' hys=>?_)
 ·obtain⟨c,vo,vn,e,ne,h1,h2,h3,n1,n2⟩:=h;have ov:∀{v:V}{o:Option Nd},v≠.ref p→cI H v o→cI H' v o:=λhv h=>by
   rcases h with h|⟨q,n,e,h,e2⟩
   ·exact .inl h
   ·exact .inr ⟨q,n,e,ex q _ (λz=>hv (by rw[e,z])) h,e2⟩
  exact⟨c,vo,vn,e,ne,ex c _ ne h1,ov n1 h2,ov n2 h3,n1,n2⟩
 ·obtain⟨r1,hr1,ho1⟩:=(bk.same s1).optV T1 k;obtain⟨r2,hr2,ho2⟩:=(bk2.same s1).optV T2 k;have np:∀{v:V}{o:Option Nd},cI H' v o→v≠.ref p:=λh e=>by
   rcases h with⟨h,_⟩|⟨q,n,e2,h,_⟩
   ·rw[h]at e;cases e
   ·rw[e2]at e;injection e with e
    obtain⟨ys,hy⟩:=hpl;rw[e,hy]at h;cases h
  refine⟨_,rfl,_,rfl,d,rfl,.inl ⟨_,(bk.same s1).dict⟩,_,rfl,r1,hr1,_,rfl,d2,rfl,.inl ⟨_,(bk2.same s1).dict⟩,_,rfl,r2,hr2,(show 3≤sizeLine from au (by decide)),λc hc=>?_⟩;have s2:=ag (o:=.tup [.int k,r1.getD .non,r2.getD .non]) hc;exact hk _ _ s2 ⟨c,_,_,rfl,gB hpl hc,ac,ho1.same s2,ho2.same s2,np ho1,np ho2⟩
 ·obtain⟨cs,e1,e2,e3⟩:=dX (val:=V.ref) (S:=λ(k:Int) (c:Addr)=>RowAt H' c (TW.cP (nds zs) (nds us) k)) hys (λk y _ ⟨c,vo,vn,e,_,h1,h2,h3,_⟩=>⟨c,e,⟨vo,vn,h1,h2,h3⟩,ma k⟩);have hcl:cs.length=ns.length:=by rw[←e1,length_map]
  have er:aL (cs.map λx=>(x.2,TW.cP (nds zs) (nds us) x.1))=ns.map (TW.cP (nds zs) (nds us)):=by
   unfold aL;rw[map_map,←e1,map_map];rfl
  refine⟨p,cs.map λx=>(x.2,TW.cP (nds zs) (nds us) x.1),rfl,by rw[hp',e2];unfold bH;rw[map_map];rfl,λe he=>?_,by rw[length_map];omega,λc H2 s2 hc=>?_⟩
  ·obtain⟨x,hx,rfl⟩:=mem_map.mp he;exact e3 x hx
  ·refine q c _ H2 (s1.trans s2) hc ?_;have:aL ((cs.map λx=>(x.2,TW.cP (nds zs) (nds us) x.1)).filter unl)=_:=gO er;rw[this];refine TW.sj hup λk hk=>.inl ((hm k).mpr ?_);rcases hk with h|h
   ·exact .inl (jM h)
   ·exact .inr (jM h)
def sk:Sp:=λvs H Q _=>∃t u zs us,vs=[.ref t,.ref u]∧Tre H t zs∧Tre H u us∧∀c es H',Same H H'→ChgAt H' c es→TW.Chg (nds zs) (nds us) (aL es)→Q (.ref c) H'
theorem wb{f:Addr}{fd:FuncData}(F:Fun K "change_between" "change_between" aJ f fd)(T:Txt mg)(CP:Has P w K mg base 1 "parts_by_number" ["tree"] nL)(CU:Has P w K mg base 1 "unlike_entries" ["entries"] md):FnOk P w K mg base CX0 2 f fd ["one","other"] sk:=by
 obtain⟨fP,fdP,GP,mP,kP,bP⟩:=CP;refine F.ok ue (λvs H Q E h=>?_) (λcdv A outer s H vs Q E hr h=>?_)
 ·obtain⟨t,u,zs,us,rfl,_⟩:=h;rfl
 ·obtain⟨t,u,zs,us,rfl,tr,tr2,q⟩:=h;have hr1:Room 1 _:=hr.mono (by decide);obtain⟨t2,p2,h2⟩:=cb2 (P:=P) (w:=w) (K:=K) (base:=base) (f:=f) (cdv:=cdv) (A:=A) (outer:=outer) (s:=s) (H0:=H) (E:=E) T;obtain⟨t3,p3,h3⟩:=cb3 (P:=P) (w:=w) (base:=base) (f:=f) (cdv:=cdv) (A:=A) (outer:=outer) (s:=s) (H0:=H) (E:=E) hr1 CU;refine⟨_,af (ao (i:=2) ue.nd rfl (Or.inr rfl) (al GP hr1 rfl mP kP bP .nil aI (aa (pv 0) ae)))
   (af (ao (i:=3) ue.nd rfl (Or.inr rfl) (al GP hr1 rfl mP kP bP .nil aI (aa (pv 1) ae))) (af p2 (aj p3))),?_⟩
  refine⟨_,rfl,t,zs,rfl,tr,λd as H1 s1 _ bk _=>?_⟩;refine⟨_,rfl,u,us,rfl,tr2.same s1,λd2 bs H2 s2 _ bk2 _=>?_⟩;refine h2 _ H2 _ _ _ d d2 as bs zs us (bk.same s2) bk2 tr.len tr2.len λl ns H3 s3 hl hup hn hm=>?_;exact h3 _ H3 _ _ d d2 l as bs zs us ns ((bk.same s2).same s3) (bk2.same s3) tr.tr tr2.tr hl hup hn hm λc es H4 s4 hc hch=>q c es H4 (((s1.trans s2).trans s3).trans s4) hc hch
end
end TK
namespace L2
open PySem PySem.Spec PyProof.Rows
section
variable{X:Cx}
end
end L2
namespace TK
open PySem L2
def dP(es:ZR):List (Key×V):=es.map λe=>((Sum.inl e.2.k:Key),V.ref e.1)
section
variable{P:Program}{w:World}{K:PySem.W.Frag}{mg:Str→Option Value}{base:Heap}
def nN:Sp:=λvs H Q _=>∃c es,vs=[.ref c]∧ChgAt H c es∧(es.map (·.2.k)).Nodup∧∀d H',Same H H'→H d=none→H' d=some (.dK (dP es))→Q (.ref d) H'
theorem wc:FnScope ["tree"] ["tree"] (ah rD):=fsc
theorem uf{f:Addr}{fd:FuncData}(F:Fun K "by_number" "by_number" rD f fd)(T:Txt mg):FnOk P w K mg base CX0 1 f fd ["tree"] nN:=by
 refine F.ok wc (λvs H Q E h=>?_) (λcdv A outer s H vs Q E hr h=>?_)
 ·obtain⟨c,es,rfl,_⟩:=h;rfl
 ·obtain⟨c,es,rfl,hc,hnd,q⟩:=h;have hlen:=hc.len;refine⟨_,aj (av (aO (cN rfl) rfl T.dict boot_dict (aa (io (N:=["node"]) (k:=1) (js:=[]) (g:=ca 0) rfl (gw rfl (by decide +kernel) (by decide +kernel) (by decide +kernel)) rfl (λi j x h=>by simp at h)
   (cF (pv 0)) (λs H fp=>aE (i:=0) (show(["node"]:List Str).Nodup by decide +kernel) rfl (Or.inl rfl) (Or.inr rfl))
   (λs H fp=>aA (aa (aC (r:=ik K) aw (pv 0) ak (λ_ _=>rfl)) (aa (pv 0) ae)))) ae))),?_⟩
  refine⟨_,rfl,c,rfl,⟨_,SqT.of hc.tup⟩,λp hp=>?_⟩;refine ft (fr:=[]) es (λe=>V.ref e.1) (by omega) hp (gY (SqT.of hc.tup)) rfl (λe y H'=>∃q,y=.ref q∧q≠p∧H' q=some (.tup [.int e.2.k,.ref e.1])) (λe y H H' ⟨q,e1,ne,h⟩ ex=>⟨q,e1,ne,ex q _ ne h⟩) (λe H' kk me s1 hpl hk=>?_) (λys H' s1 hp' hys=>?_)
  ·obtain⟨⟨vo,vn,h1,_,_⟩,_⟩:=(hc.at' e me).same s1;refine⟨_,rfl,e.1,_,_,_,rfl,rfl,SqT.of h1,rfl,_,rfl,le2,λq hq=>?_⟩;exact hk _ _ (ag hq) ⟨q,rfl,gB hpl hq,ac⟩
  ·obtain⟨cs,e1,e2,e3⟩:=dX (val:=V.ref) (S:=λ(e:Addr×Row) (q:Addr)=>H' q=some (.tup [.int e.2.k,.ref e.1])) hys (λe y _ ⟨q,e,_,h⟩=>⟨q,e,h⟩);have hcl:cs.length=es.length:=by rw[←e1,length_map]
   have ek:(cs.map λx=>(x.2,(Sum.inl x.1.2.k:Key),V.ref x.1.1)).map (·.2)=dP es:=by
    unfold dP;rw[map_map,←e1,map_map];rfl
   refine⟨p,cs.map λx=>(x.2,(Sum.inl x.1.2.k:Key),V.ref x.1.1),rfl,?_,λz hz=>?_,by rw[length_map];omega,?_,λd hd=>?_⟩
   ·rw[hp',e2,map_map,map_map];rfl
   ·obtain⟨x,hx,rfl⟩:=mem_map.mp hz;exact e3 x hx
   ·have e4:(cs.map λx=>(x.2,(Sum.inl x.1.2.k:Key),V.ref x.1.1)).map (·.2.1)=(es.map (·.2.k)).map (Sum.inl:Int→Key):=by
     rw[←e1];simp only[map_map];rfl
    rw[e4];unfold Nodup at hnd⊢;rw[pairwise_map];exact hnd.imp λh e=>h (by injection e)
   ·rw[ek];exact q d _ (s1.trans (ag hd)) (s1.free hd) ac
end
theorem iT{H:Hp}{d:Addr}{es:ZR}(hd:H d=some (.dK (dP es)))(hn:(es.map (·.2.k)).Nodup)(k:Int):(∃e∈es,e.2.k=k∧cK H d (.int k) (some (.ref e.1)))∨((∀e∈es,e.2.k≠k)∧cK H d (.int k) none):=by
 have hb:((es.map λe=>(e.1,(⟨e.2.k,0,"",none⟩:Nd))).map (·.2.num)).Nodup:=by rw[map_map];exact hn
 have hK:dP es=oS (es.map λe=>(e.1,(⟨e.2.k,0,"",none⟩:Nd))):=by unfold dP oS;rw[map_map];rfl
 by_cases h:∃e∈es,e.2.k=k
 ·obtain⟨e,he,rfl⟩:=h;refine .inl ⟨e,he,rfl,.inl ⟨dP es,Sum.inl e.2.k,.inl hd,rfl,?_⟩⟩;rw[hK];exact(pY hb (b:=(e.1,⟨e.2.k,0,"",none⟩)) (mem_map.mpr ⟨e,he,rfl⟩)).symm
 ·have h':∀e∈es,e.2.k≠k:=λe he z=>h ⟨e,he,z⟩;refine .inr ⟨h',.inl ⟨dP es,Sum.inl k,.inl hd,rfl,?_⟩⟩
  symm
  refine kx λhp=>?_;unfold dP at hp;rw[map_map]at hp;obtain⟨e,he,z⟩:=mem_map.mp hp;have z':(Sum.inl e.2.k:Key)=Sum.inl k:=z;injection z' with z'
  exact h' e he z'
def joS(i:Nat):Stmt:=(bn de).getD i (.Pass ⟨0,0,0,0⟩)
def JN:List Str:=["one","other","earlier","later","entries","number","first","last"]
theorem nP:FnScope JN ["one","other"] (ah de):=fsc
abbrev JX(P:Program)(w:World)(K:PySem.W.Frag)(mg:Str→Option Value)(base:Heap)(f:Addr)(cdv:Value)(A:Around)(outer:List Env)(s:Shared)(H:Hp)(E:XK):Cx:=(ic CX0 P w K mg base JN "joined" (ah de) f cdv A outer s H E).nox
theorem nQ{t u:List Nd}{es:ZR}(h:TW.Chg t u (aL es)){e:Addr×Row}(he:e∈es):e.2.o=TW.aH t e.2.k∧e.2.n=TW.aH u e.2.k:=by
 obtain⟨h1,h2,_⟩:=(h.mem e.2).mp (mem_map.mpr ⟨e,he,rfl⟩);exact⟨h1,h2⟩
theorem hG{t u:List Nd}{es:ZR}(h:TW.Chg t u (aL es)){k:Int}(hk:∀e∈es,e.2.k≠k):TW.aH t k=TW.aH u k:=by
 by_cases z:TW.aH t k=TW.aH u k
 ·exact z
 ·have:=(h.mem ⟨k,TW.aH t k,TW.aH u k⟩).mpr ⟨rfl,rfl,z⟩;obtain⟨e,he,e2⟩:=mem_map.mp this;exact absurd (by rw[e2]) (hk e he)
theorem kT{t u:List Nd}{es:ZR}(h:TW.Chg t u (aL es)):(es.map (·.2.k)).Nodup:=by
 have:=h.up;unfold aL at this;rw[pairwise_map]at this;unfold Nodup;rw[pairwise_map];exact this.imp λh e=>by omega
theorem cI.over{H:Hp}{l:Addr}{xs:List V}{o':HO}{v:V}{o:Option Nd}(h:cI H v o)(hl:H l=some (.lst xs)):cI (upd H l o') v o:=by
 rcases h with h|⟨q,n,e,h,e2⟩
 ·exact .inl h
 ·refine .inr ⟨q,n,e,?_,e2⟩;rw[ai]
  ·exact h
  ·rintro rfl;rw[hl]at h;cases h
theorem RowAt.over{H:Hp}{l:Addr}{xs:List V}{o':HO}{e:Addr}{r:Row}(h:RowAt H e r)(hl:H l=some (.lst xs)):RowAt (upd H l o') e r:=by
 obtain⟨⟨vo,vn,h1,h2,h3⟩,hk⟩:=h;refine⟨⟨vo,vn,?_,h2.over hl,h3.over hl⟩,hk⟩;rw[ai]
 ·exact h1
 ·rintro rfl;rw[hl]at h1;cases h1
structure Jo(H0 H:Hp)(c c2 d d2 l l2:Addr)(es fs gs:ZR)(ns:List Int)(t v:List Nd)(i:Nat):Prop where
 s0:Same H0 H
 c1:∀e∈es,RowAt H e.1 e.2
 c2':∀e∈fs,RowAt H e.1 e.2
 d1:H d=some (.dK (dP es))
 d2':H d2=some (.dK (dP fs))
 l1:H l=some (.lst (bH gs))
 l2':H l2=some (.lst (ns.map V.int))
 at':∀g∈gs,RowAt H g.1 g.2
 rw':aL gs=(ns.take i).map (TW.cP t v)
theorem Jo.more{H0 H:Hp}{c c2 d d2 l l2 q:Addr}{es fs gs:ZR}{ns:List Int}{t v:List Nd}{i:Nat}{k:Int}{vo vn:V}(h:Jo H0 H c c2 d d2 l l2 es fs gs ns t v i)(hl0:H0 l=none)(hln:l2≠l)(hk:ns[i]?=some k)(hq:H q=none)(ho:cI H vo (TW.aH t k))(hn:cI H vn (TW.aH v k)):
  Jo H0 (upd (upd H q (.tup [.int k,vo,vn])) l (.lst (bH gs++[.ref q]))) c c2 d d2 l l2 es fs (gs++[(q,TW.cP t v k)]) ns t v (i+1):=by
 have s1:=ag (o:=.tup [.int k,vo,vn]) hq;have hl1:=s1 _ _ h.l1;have ndl:∀{a:Addr}{u:List (Key×V)},H a=some (.dK u)→upd (upd H q (.tup [.int k,vo,vn])) l (.lst (bH gs++[.ref q])) a=some (.dK u):=λ{a u} ha=>by
  rw[ai]
  ·exact s1 _ _ ha
  ·rintro rfl;rw[h.l1]at ha;cases ha
 refine⟨ba hl0 (h.s0.trans s1),λe he=>((h.c1 e he).same s1).over hl1,λe he=>((h.c2' e he).same s1).over hl1,ndl h.d1,ndl h.d2',?_,?_,λg hg=>?_,?_⟩
 ·rw[ac];unfold bH;rw[map_append];rfl
 ·rw[ai hln];exact s1 _ _ h.l2'
 ·rcases mem_append.mp hg with hg|hg
  ·exact((h.at' g hg).same s1).over hl1
  ·have e:g=(q,TW.cP t v k):=by simpa using hg
   subst e;have r:RowAt (upd H q (.tup [.int k,vo,vn])) q (TW.cP t v k):=⟨⟨vo,vn,ac,ho.same s1,hn.same s1⟩,ma k⟩;exact r.over hl1
 ·have ht:ns.take (i+1)=ns.take i++[k]:=by rw[take_succ,hk];rfl
  rw[ht,map_append,←h.rw'];unfold aL;rw[map_append];rfl
section
variable{P:Program}{w:World}{K:PySem.W.Frag}{mg:Str→Option Value}{base:Heap}{f:Addr}{cdv:Value}{A:Around}{outer:List Env}{s:Shared}{H0:Hp}{E:XK}
abbrev joσ(c c2 d d2 l:Addr)(x5 x6 x7:Option V):St:=[some (.ref c),some (.ref c2),some (.ref d),some (.ref d2),some (.ref l),x5,x6,x7]
theorem jo3(T:Txt mg)(hr:Room 1 (A.deeper (PyProof.Rows.envOfC "joined" (ah de) s.heap.objs.size f cdv))):
  ∃rd,PS (JX P w K mg base f cdv A outer s H0 E) (joS 3) rd∧∀(D:Ends)(H:Hp)(c c2 d d2 l:Addr)(es fs:ZR)(t u v:List Nd),H0 l=none→Same H0 H→H l=some (.lst [])→ChgAt H c es→ChgAt H c2 fs→H d=some (.dK (dP es))→H d2=some (.dK (dP fs))→TW.Chg t u (aL es)→TW.Chg u v (aL fs)→es.length≤30→fs.length≤30 →
   (∀(ns:List Int)(gs:ZR)(x5 x6 x7:Option V)(H':Hp),Same H0 H'→H' l=some (.lst (bH gs))→(∀g∈gs,RowAt H' g.1 g.2)→aL gs=ns.map (TW.cP t v)→ns.Pairwise (· < ·)→ns.length≤60→(∀k,k∈ns↔(∃e∈es,e.2.k=k)∨∃e∈fs,e.2.k=k)→D.nx (joσ c c2 d d2 l x5 x6 x7) H')→rd D (joσ c c2 d d2 l none none none) H:=by
 refine⟨_,ce PassesOwn.never rfl (cm (bp (dO rfl) rfl T.sorted boot_sorted (aa (aU lZ (aO cO rfl T.set rfl (aa (pv 2) ae)) (aO cO rfl T.set rfl (aa (pv 3) ae))) ae))) (aE (i:=5) nP.nd rfl (Or.inl rfl))
  (af (ao (i:=6) nP.nd rfl (Or.inl rfl) (lp (bO hr) (pv 2) (pv 5) (fc (bO hr) (pv 3) (pv 5) ⟨rfl,rfl,rfl,rfl⟩) ⟨rfl,rfl,rfl,rfl⟩))
  (af (ao (i:=7) nP.nd rfl (Or.inl rfl) (lp (bO hr) (pv 3) (pv 5) (fc (bO hr) (pv 2) (pv 5) ⟨rfl,rfl,rfl,rfl⟩) ⟨rfl,rfl,rfl,rfl⟩))
  (af (aZ (PW.pt (pw_and (di (gn (bO hr) (pv 5) (pv 2))) (pw_and (di (gn (bO hr) (pv 5) (pv 3))) (pw_and1 (am (si (bO hr)) (aC aw (pv 6) ak (λ_ _=>rfl)) (aC aw (pv 7) ak (λ_ _=>rfl)) (ay _)))))) (aj la) aD)
  (aj (aT (eZ plainAttrs_list PySem.F.slot_list_append PySem.F.type_list_append br (pv 4) (aa (aA (aa (pv 5) (aa (aC aw (pv 6) ak (λ_ _=>rfl)) (aa (aC aw (pv 7) ak (λ_ _=>rfl)) ae)))) ae))))))),?_⟩
 intro D H c c2 d d2 l es fs t u v hl0 s0 hl hc hc2 hd hd2 ch1 ch2 le1 le2' q;have nd1:=kT ch1;have nd2:=kT ch2;have ke:(dP es).map (·.1)=(es.map (·.2.k)).map (Sum.inl:Int→Key):=by unfold dP;rw[map_map,map_map];rfl
 have kf:(dP fs).map (·.1)=(fs.map (·.2.k)).map (Sum.inl:Int→Key):=by unfold dP;rw[map_map,map_map];rfl
 refine⟨_,rfl,d,_,es.map (·.2.k),rfl,.inl hd,ke,by rw[length_map];omega,λm1 hn1 hm1 p1 hp1=>?_⟩;have s1:=ag (o:=bz (JX P w K mg base f cdv A outer s H0 E).w p1 m1) hp1;have g1:upd H p1 (bz (JX P w K mg base f cdv A outer s H0 E).w p1 m1) p1=some (bz (JX P w K mg base f cdv A outer s H0 E).w p1 m1):=ac;generalize upd H p1 (bz (JX P w K mg base f cdv A outer s H0 E).w p1 m1)=H1 at s1 g1⊢;refine⟨_,rfl,d2,_,fs.map (·.2.k),rfl,.inl (s1 _ _ hd2),kf,by rw[length_map];omega,λm2 hn2 hm2 p2 hp2=>?_⟩;have s2:=s1.trans (ag (o:=bz (JX P w K mg base f cdv A outer s H0 E).w p2 m2) hp2);have g2:upd H1 p2 (bz (JX P w K mg base f cdv A outer s H0 E).w p2 m2) p2=some (bz (JX P w K mg base f cdv A outer s H0 E).w p2 m2):=ac;have g1':upd H1 p2 (bz (JX P w K mg base f cdv A outer s H0 E).w p2 m2) p1=some (bz (JX P w K mg base f cdv A outer s H0 E).w p1 m1):=bQ hp2 g1;have hne:p1≠p2:=λe=>by rw[←e,g1]at hp2;cases hp2
 generalize upd H1 p2 (bz (JX P w K mg base f cdv A outer s H0 E).w p2 m2)=H2 at s2 g2 g1'⊢;have k1:m1.length≤30:=by
  have:=cu hn1 λx hx=>(hm1 x).mp hx;rw[length_map]at this;omega
 have k2:m2.length≤30:=by
  have:=cu hn2 λx hx=>(hm2 x).mp hx;rw[length_map]at this;omega
 refine⟨p1,p2,m1,m2,rfl,rfl,hne,g1',g2,by omega,λm3 hn3 hm3 p3 hp3=>?_⟩;have k3:m3.length≤60:=by
  have:=cu (m:=m1++m2) hn3 λx hx=>mem_append.mpr ((hm3 x).mp hx);rw[length_append]at this;omega
 have s3:=s2.trans (ag (o:=bz (JX P w K mg base f cdv A outer s H0 E).w p3 m3) hp3);refine⟨p3,m3,rfl,ac,k3,λns hns hup l2 hl2=>?_⟩;have s4:=s3.trans (ag (o:=.lst (ns.map V.int)) hl2);have g4:upd (upd H2 p3 (bz (JX P w K mg base f cdv A outer s H0 E).w p3 m3)) l2 (.lst (ns.map V.int)) l2=some (.lst (ns.map V.int)):=ac;generalize upd (upd H2 p3 (bz (JX P w K mg base f cdv A outer s H0 E).w p3 m3)) l2 (.lst (ns.map V.int))=H4 at s4 g4⊢;have hln:l2≠l:=λe=>by
  have h1:=s3 _ _ hl;rw[e,h1]at hl2;cases hl2
 have hnl:ns.length≤60:=by rw[hns.length_eq];exact k3
 have hmem:∀k,k∈ns↔(∃e∈es,e.2.k=k)∨∃e∈fs,e.2.k=k:=λk=>by
  rw[hns.mem_iff,hm3 k,hm1 k,hm2 k,mem_map,mem_map]
 have J0:Jo H0 H4 c c2 d d2 l l2 es fs [] ns t v 0:=⟨s0.trans s4,λe he=>(hc.at' e he).same s4,λe he=>(hc2.at' e he).same s4,s4 _ _ hd,s4 _ _ hd2,s4 _ _ hl,g4,by simp,by simp[aL]⟩;refine⟨l2,rfl,⟨_,SqL.of g4⟩,cW (xs:=ns.map V.int) (λi σ H'=>∃gs x5 x6 x7,σ=joσ c c2 d d2 l x5 x6 x7∧Jo H0 H' c c2 d d2 l l2 es fs gs ns t v i) ⟨[],none,none,none,rfl,J0⟩ (λi σ H' _ ⟨_,_,_,_,_,J⟩=>SqL.of J.l2') (λi x σ H' hx h=>?_) (λσ H' h=>?_)⟩
 ·obtain⟨gs,x5,x6,x7,rfl,J⟩:=h;rw[getElem?_map]at hx;cases gx:ns[i]? with
  |none=>rw[gx]at hx;cases hx
  |some k =>
   rw[gx]at hx;cases hx;have hi:i<ns.length:=(List.getElem?_eq_some_iff.mp gx).1;have hgl:gs.length≤60:=by
    have:=congrArg length J.rw';unfold aL at this;rw[length_map,length_map,length_take]at this;omega
   have isd1:IsD H' d:=.inl ⟨_,.inl J.d1⟩;have isd2:IsD H' d2:=.inl ⟨_,.inl J.d2'⟩;have small:(bH gs).length<sizeLine:=ar (by unfold bH;rw[length_map];omega);rcases iT J.d1 nd1 k with⟨e1,he1,ek1,gd1⟩|⟨no1,gd1⟩
   ·obtain⟨⟨vo1,vn1,a1,a2,a3⟩,_⟩:=J.c1 e1 he1;obtain⟨r1,r2⟩:=nQ ch1 he1;rw[ek1]at a1 r1 r2;rcases iT J.d2' nd2 k with⟨e2,he2,ek2,gd2⟩|⟨no2,gd2⟩
    ·obtain⟨⟨vo2,vn2,b1,b2,b3⟩,_⟩:=J.c2' e2 he2;obtain⟨w1,w2⟩:=nQ ch2 he2;rw[ek2]at b1 w1 w2;refine⟨_,rfl,d,rfl,isd1,_,rfl,_,rfl,d2,rfl,isd2,_,rfl,_,gd2,_,gd1,?_⟩;refine⟨_,rfl,d2,rfl,isd2,_,rfl,_,rfl,d,rfl,isd1,_,rfl,_,gd1,_,gd2,?_⟩;refine⟨_,rfl,_,rfl,d,_,rfl,gd1,_,rfl,bh ⟨_,rfl,_,rfl,d2,_,rfl,gd2,_,rfl,bh ⟨_,rfl,e1.1,_,_,_,rfl,rfl,SqT.of a1,rfl,_,rfl,e2.1,_,_,_,rfl,rfl,SqT.of b1,rfl,_,_,a3.ot,b2.ot,_,rfl,?_⟩⟩⟩;have e6:(!decide (e1.2.n.map bd=e2.2.o.map bd))=false:=by rw[r2,w1];simp
     rw[e6];refine aP ⟨_,rfl,.inl ⟨rfl,_,SqL.of J.l1⟩,_,rfl,_,rfl,e1.1,_,_,_,rfl,rfl,SqT.of a1,rfl,_,rfl,e2.1,_,_,_,rfl,rfl,SqT.of b1,rfl,(show 3≤sizeLine from au (by decide)),λq hq=>⟨l,_,_,rfl,rfl,bQ hq J.l1,small,?_⟩⟩;exact⟨_,_,_,_,rfl,J.more hl0 hln gx hq (by rw[←r1];exact a2) (by rw[←w2];exact b3)⟩
    ·have out:=hG ch2 no2;refine⟨_,rfl,d,rfl,isd1,_,rfl,_,rfl,d2,rfl,isd2,_,rfl,_,gd2,_,gd1,?_⟩;refine⟨_,rfl,d2,rfl,isd2,_,rfl,_,rfl,d,rfl,isd1,_,rfl,_,gd1,_,gd2,?_⟩;refine⟨_,rfl,_,rfl,d,_,rfl,gd1,_,rfl,bh ⟨_,rfl,_,rfl,d2,_,rfl,gd2,_,rfl,aP (aP ?_)⟩⟩;refine⟨_,rfl,.inl ⟨rfl,_,SqL.of J.l1⟩,_,rfl,_,rfl,e1.1,_,_,_,rfl,rfl,SqT.of a1,rfl,_,rfl,e1.1,_,_,_,rfl,rfl,SqT.of a1,rfl,(show 3≤sizeLine from au (by decide)),λq hq=>⟨l,_,_,rfl,rfl,bQ hq J.l1,small,?_⟩⟩;exact⟨_,_,_,_,rfl,J.more hl0 hln gx hq (by rw[←r1];exact a2) (by rw[←out,←r2];exact a3)⟩
   ·have out1:=hG ch1 no1;rcases iT J.d2' nd2 k with⟨e2,he2,ek2,gd2⟩|⟨no2,gd2⟩
    ·obtain⟨⟨vo2,vn2,b1,b2,b3⟩,_⟩:=J.c2' e2 he2;obtain⟨w1,w2⟩:=nQ ch2 he2;rw[ek2]at b1 w1 w2;refine⟨_,rfl,d,rfl,isd1,_,rfl,_,rfl,d2,rfl,isd2,_,rfl,_,gd2,_,gd1,?_⟩;refine⟨_,rfl,d2,rfl,isd2,_,rfl,_,rfl,d,rfl,isd1,_,rfl,_,gd1,_,gd2,?_⟩;refine⟨_,rfl,_,rfl,d,_,rfl,gd1,_,rfl,aP (aP ?_)⟩;refine⟨_,rfl,.inl ⟨rfl,_,SqL.of J.l1⟩,_,rfl,_,rfl,e2.1,_,_,_,rfl,rfl,SqT.of b1,rfl,_,rfl,e2.1,_,_,_,rfl,rfl,SqT.of b1,rfl,(show 3≤sizeLine from au (by decide)),λq hq=>⟨l,_,_,rfl,rfl,bQ hq J.l1,small,?_⟩⟩;exact⟨_,_,_,_,rfl,J.more hl0 hln gx hq (by rw[out1,←w1];exact b2) (by rw[←w2];exact b3)⟩
    ·exfalso
     rcases (hmem k).mp (mem_of_getElem? gx)with⟨e,he,z⟩|⟨e,he,z⟩
     ·exact no1 e he z
     ·exact no2 e he z
 ·obtain⟨gs,x5,x6,x7,rfl,J⟩:=h;have:=J.rw';rw[length_map,take_length]at this;exact q ns gs x5 x6 x7 H' J.s0 J.l1 J.at' this hup hnl hmem
def we:Sp:=λvs H Q _=>∃c c2 es fs t u v,vs=[.ref c,.ref c2]∧ChgAt H c es∧ChgAt H c2 fs∧TW.Chg t u (aL es)∧TW.Chg u v (aL fs)∧es.length≤30∧fs.length≤30∧∀c' gs H',Same H H'→ChgAt H' c' gs→TW.Chg t v (aL gs)→Q (.ref c') H'
theorem xn{f:Addr}{fd:FuncData}(F:Fun K "joined" "joined" de f fd)(T:Txt mg)(CB:Has P w K mg base 1 "by_number" ["tree"] nN)(CU:Has P w K mg base 1 "unlike_entries" ["entries"] md):FnOk P w K mg base CX0 2 f fd ["one","other"] we:=by
 obtain⟨fB,fdB,GB,mB,kB,bB⟩:=CB;obtain⟨fU,fdU,GU,mU,kU,bU⟩:=CU;refine F.ok nP (λvs H Q E h=>?_) (λcdv A outer s H vs Q E hr h=>?_)
 ·obtain⟨c,c2,es,fs,t,u,v,rfl,_⟩:=h;rfl
 ·obtain⟨c,c2,es,fs,t,u,v,rfl,hc,hc2,ch1,ch2,l1,l2,q⟩:=h;have hr1:Room 1 _:=hr.mono (by decide);obtain⟨t3,p3,h3⟩:=jo3 (P:=P) (w:=w) (K:=K) (base:=base) (f:=f) (cdv:=cdv) (A:=A) (outer:=outer) (s:=s) (H0:=H) (E:=E) T hr1;refine⟨_,af (ao (i:=2) nP.nd rfl (Or.inl rfl) (al GB hr1 rfl mB kB bB .nil aI (aa (pv 0) ae)))
   (af (ao (i:=3) nP.nd rfl (Or.inl rfl) (al GB hr1 rfl mB kB bB .nil aI (aa (pv 1) ae)))
   (af (ao (i:=4) nP.nd rfl (Or.inl rfl) (cw ae)) (af p3
   (aj (av (al GU hr1 rfl mU kU bU .nil aI (aa (pv 4) ae))))))),?_⟩
  refine⟨_,rfl,c,es,rfl,hc,kT ch1,λd H1 s1 _ hd=>?_⟩;refine⟨_,rfl,c2,fs,rfl,hc2.same s1,kT ch2,λd2 H2 s2 _ hd2=>?_⟩;refine⟨zero_le _,λl hl=>?_⟩;have s3:=ag (o:=.lst []) hl;have s12:=s1.trans s2;refine h3 _ _ c c2 d d2 l es fs t u v (s12.free hl) (s12.trans s3) ac ((hc.same s12).same s3) ((hc2.same s12).same s3) (s3 _ _ (s2 _ _ hd)) (s3 _ _ hd2) ch1 ch2 l1 l2 λns gs x5 x6 x7 H4 s4 hl4 hg4 hrows hup hn hm=>?_;have hgl:gs.length≤60:=by
   have:=congrArg length hrows;unfold aL at this;rw[length_map,length_map]at this;omega
  refine⟨_,rfl,l,gs,rfl,hl4,hg4,hgl,λc' H5 s5 hc'=>?_⟩;refine q c' _ H5 (s4.trans s5) hc' ?_;have e1:aL (gs.filter unl)=_:=gO hrows;rw[e1];refine TW.sj hup λk hk=>?_
  by_cases z:TW.aH t k=TW.aH v k
  ·exact .inr z
  ·refine .inl ((hm k).mpr ?_)
   by_cases a:∃e∈es,e.2.k=k
   ·exact .inl a
   ·by_cases b:∃e∈fs,e.2.k=k
    ·exact .inr b
    ·exact absurd ((hG ch1 λe he ek=>a ⟨e,he,ek⟩).trans (hG ch2 λe he ek=>b ⟨e,he,ek⟩)) z
end
end TK
namespace L2
open PySem PySem.Spec PyProof.Rows
section
variable{X:Cx}
end
end L2
namespace TW
section
variable{S:Type}
end
end TW
namespace L2
open PySem PySem.Spec PyProof.Rows
end L2
namespace TK
open PySem L2
theorem ug(o:Option Int):cG (stV o)=true:=by cases o<;>rfl
theorem nR(H:Hp)(n:Nd)(k:Nat):∀(i:Nat) x y,(vals n)[i]?=some x→(vals n)[i]?=some y→eD H k x y:=λi x y h1 h2=>by
 have e:x=y:=Option.some.inj (h1.symm.trans h2);subst e;refine bx ⟨rfl,?_⟩
 match i,h1 with
 |0,h=>cases h;rfl
 |1,h=>cases h;rfl
 |2,h=>cases h;rfl
 |3,h=>cases h;exact ug _
 |i+4,h=>simp[vals]at h
end TK
namespace L2
open PySem PySem.Spec PyProof.Rows
section
variable{X:Cx}{tg:Expr}
def xY(te:TE):TE:=λσ H Q=>te σ H λv H1=>∃i:Int,v=.int i∧-60≤i∧i≤60∧∀y,Q (.str y) H1
theorem mf(i:Int)(h0:-60≤i)(h1:i≤60):(ofString (toString i)).length≤100:=by
 have key:∀n:Fin 121,(ofString (toString ((n.val:Nat)-60:Int))).length≤100:=by decide +kernel
 have:=key ⟨(i+60).toNat,by omega⟩;have e:(((i+60).toNat:Nat)-60:Int)=i:=by omega
 rw[e]at this;exact this
theorem sm{x:Str}{j:Nat}{p1 p2 p3:Pos}{e:Expr}{te:TE}(he:PE X e te)(hx:x.length≤800):PE X (.JoinedStr [.Constant (.str x) j p1,.FormattedValue e (-1) none p2] p3) (xY te):=by
 intro pins s σ H Q I h;have hl:(empty++x).length≤800:=by rw[strLen_append];show 0+x.length≤800;omega
 refine JoinedStr_many (joinParts_cons (Constant_str ?_));refine⟨le_of_lt (ar (by omega)),?_⟩;refine joinParts_cons (FormattedValue_plain (thn (he pins _ σ H _ (I.tok _) h) λv s1 hpt=>?_));obtain⟨y,H1,I1,r1,q1⟩:=hpt;obtain⟨i,rfl,h0,h1,q⟩:=q1;obtain⟨t,rfl⟩:=r1;have h2:=mf i h0 h1;have h3:((empty++x)++ofString (toString i)).length≤1000:=by rw[strLen_append];omega
 refine formatField_int_small (lt_of_le_of_lt (Nat.log2_le_self _) (by omega)) ⟨le_of_lt (ar h3),?_⟩;exact joinParts_nil ⟨.str _,H1,(I1.tok _).tok _,⟨_,rfl⟩,q _⟩ (le_of_lt (ar h3))
end
theorem mh{xs:List V}{k:Nat}(h:k≤xs.length):jX xs (some (k:Int)) none=xs.drop k:=by
 unfold jX;rw[HT.qu,HT.oz,Nat.min_eq_left h,List.take_of_length_le (by rw[length_drop];exact le_refl _)]
end L2
namespace TK
open PySem L2
def aW(H H':Hp):Prop:=∀b xs,H b=some (.tup xs)→H' b=some (.tup xs)
theorem aW.refl(H:Hp):aW H H:=λ_ _ h=>h
theorem aW.trans{H1 H2 H3:Hp}(a:aW H1 H2)(b:aW H2 H3):aW H1 H3:=λp xs h=>b p xs (a p xs h)
theorem gP{H H':Hp}(s:Same H H'):aW H H':=λb xs h=>s b _ h
theorem Tre.ts{H H':Hp}{t:Addr}{z:ZN}(h:Tre H t z)(s:aW H H'):Tre H' t z:=⟨s _ _ h.tup,λz hz=>s _ _ (h.nod z hz),h.tr,h.len⟩
theorem cI.ts{H H':Hp}{v:V}{o:Option Nd}(h:cI H v o)(s:aW H H'):cI H' v o:=by
 rcases h with h|⟨q,n,e,h,e2⟩
 ·exact .inl h
 ·exact .inr ⟨q,n,e,s _ _ h,e2⟩
theorem RowAt.ts{H H':Hp}{e:Addr}{r:Row}(h:RowAt H e r)(s:aW H H'):RowAt H' e r:=by
 obtain⟨⟨vo,vn,h1,h2,h3⟩,hk⟩:=h;exact⟨⟨vo,vn,s _ _ h1,h2.ts s,h3.ts s⟩,hk⟩
theorem ChgAt.ts{H H':Hp}{c:Addr}{es:ZR}(h:ChgAt H c es)(s:aW H H'):ChgAt H' c es:=⟨s _ _ h.tup,λe he=>(h.at' e he).ts s,h.len⟩
theorem nU{H:Hp}{a:Addr}{xs ys:List V}(h:H a=some (.lst xs)):aW H (upd H a (.lst ys)):=λb zs hb=>by
 rw[ai (λe=>by rw[e,h]at hb;cases hb)];exact hb
theorem so{H:Hp}{a C dx:Addr}{fs gs:List (Str×V)}(h:H a=some (.ins C dx fs)):aW H (upd H a (.ins C dx gs)):=λb zs hb=>by
 rw[ai (λe=>by rw[e,h]at hb;cases hb)];exact hb
def Off(S:List Addr)(H H':Hp):Prop:=∀b o,H b=some o→b∉S→H' b=some o
def flW(t:Addr)(most dn:Int)(kl ml:Addr):List (Str×V):=[("tree",.ref t),("most",.int most),("deeds_done",.int dn),("kept",.ref kl),("marks_seen",.ref ml)]
def fl2(t:Addr)(m:Int):List (Str×V):=[("tree",.ref t),("most",.int m)]
def fl3(t:Addr)(m:Int):List (Str×V):=[("tree",.ref t),("most",.int m),("deeds_done",.int 0)]
def fl4(t:Addr)(m:Int)(kl:Addr):List (Str×V):=[("tree",.ref t),("most",.int m),("deeds_done",.int 0),("kept",.ref kl)]
theorem k12:¬(("tree":Str)="most"):=by decide +kernel
theorem k13:¬(("tree":Str)="deeds_done"):=by decide +kernel
theorem k14:¬(("tree":Str)="kept"):=by decide +kernel
theorem k15:¬(("tree":Str)="marks_seen"):=by decide +kernel
theorem k23:¬(("most":Str)="deeds_done"):=by decide +kernel
theorem k24:¬(("most":Str)="kept"):=by decide +kernel
theorem k25:¬(("most":Str)="marks_seen"):=by decide +kernel
theorem k34:¬(("deeds_done":Str)="kept"):=by decide +kernel
theorem k35:¬(("deeds_done":Str)="marks_seen"):=by decide +kernel
theorem k45:¬(("kept":Str)="marks_seen"):=by decide +kernel
theorem iU{f:Str}{v:V}{r:List (Str×V)}:((f,v)::r).lookup f=some v:=by rw[List.lookup_cons,beq_self_eq_true]
theorem bg{f g:Str}{v:V}{r:List (Str×V)}(h:¬g=f):((g,v)::r).lookup f=r.lookup f:=by
 have:(f==g)=false:=by simpa using λe:f=g=>h e.symm
 rw[List.lookup_cons,this]
theorem sq{f:Str}{v w:V}{r:List (Str×V)}:aV f v ((f,w)::r)=(f,v)::r:=by
 show(if f=f then _ else _)=_;rw[if_pos rfl]
theorem bv{f g:Str}{v w:V}{r:List (Str×V)}(h:¬g=f):aV f v ((g,w)::r)=(g,w)::aV f v r:=by
 show(if g=f then _ else _)=_;rw[if_neg h]
section
variable{t t' kl ml:Addr}{most dn dn':Int}
theorem fX:(flW t most dn kl ml).lookup ("tree":Str)=some (.ref t):=iU
theorem sr:(flW t most dn kl ml).lookup ("most":Str)=some (.int most):=by unfold flW;rw[bg k12,iU]
theorem dg:(flW t most dn kl ml).lookup ("deeds_done":Str)=some (.int dn):=by unfold flW;rw[bg k13,bg k23,iU]
theorem dQ:(flW t most dn kl ml).lookup ("kept":Str)=some (.ref kl):=by unfold flW;rw[bg k14,bg k24,bg k34,iU]
theorem cE:(flW t most dn kl ml).lookup ("marks_seen":Str)=some (.ref ml):=by unfold flW;rw[bg k15,bg k25,bg k35,bg k45,iU]
theorem cJ{m:Str}(h1:¬(("tree":Str)=m))(h2:¬(("most":Str)=m))(h3:¬(("deeds_done":Str)=m))(h4:¬(("kept":Str)=m))(h5:¬(("marks_seen":Str)=m)):(flW t most dn kl ml).lookup m=none:=by
 unfold flW;rw[bg h1,bg h2,bg h3,bg h4,bg h5];rfl
theorem wf:aV "tree" (.ref t') (flW t most dn kl ml)=flW t' most dn kl ml:=sq
theorem wg:aV "deeds_done" (.int dn') (flW t most dn kl ml)=flW t most dn' kl ml:=by unfold flW;rw[bv k13,bv k23,sq]
theorem ph:(flW t most dn kl ml).length<1000:=by show 5<1000;decide
end
structure WCls(K:PySem.W.Frag)(mg:Str→Option Value)(C:Addr):Prop where
 cl:Cls K C
 nT:cv K C "tree"
 nM:cv K C "most"
 nD:cv K C "deeds_done"
 nK:cv K C "kept"
 nS:cv K C "marks_seen"
 mgC:mg "Watch"=some (.ref C)
structure WAt(C:Addr)(H:Hp)(w kl ml t:Addr)(z:ZN)(most dn:Int)(ks:List (Addr×ZR))(ms:List Int):Prop where
 ob:∃dx,H w=some (.ins C dx (flW t most dn kl ml))
 tr:Tre H t z
 kp:H kl=some (.lst (ks.map λx=>V.ref x.1))
 mks:H ml=some (.lst (ms.map V.int))
 ne:kl≠ml
 ch:∀x∈ks,ChgAt H x.1 x.2
theorem WAt.same{C:Addr}{H H':Hp}{w kl ml t:Addr}{z:ZN}{most dn:Int}{ks:List (Addr×ZR)}{ms:List Int}(h:WAt C H w kl ml t z most dn ks ms)(s:Same H H'):WAt C H' w kl ml t z most dn ks ms :=
 ⟨let⟨dx,e⟩:=h.ob;⟨dx,s _ _ e⟩,h.tr.same s,s _ _ h.kp,s _ _ h.mks,h.ne,λx hx=>(h.ch x hx).same s⟩
section
variable{P:Program}{w:World}{K:PySem.W.Frag}{mg:Str→Option Value}{base:Heap}
def iV(C:Addr):Sp:=λvs H Q _=>∃p dx t z m,vs=[.ref p,.ref t,.int m]∧H p=some (.ins C dx [])∧Tre H t z∧∀kl ml H',H kl=none→H ml=none→WAt C H' p kl ml t z m 0 [] []→Off [p] H H'→Q .non H'
theorem wj:FnScope ["self","tree","most"] ["self","tree","most"] (ah dH):=fsc
theorem uh{f C:Addr}{fd:FuncData}(F:Fun K "__init__" "Watch.__init__" dH f fd)(T:WCls K mg C):FnOk P w K mg base CX0 1 f fd ["self","tree","most"] (iV C):=by
 refine F.ok wj (λvs H Q E h=>?_) (λcdv A outer s H vs Q E hr h=>?_)
 ·obtain⟨p,dx,t,z,m,rfl,_⟩:=h;rfl
 ·obtain⟨p,dx,t,z,m,rfl,hp,tr,k⟩:=h;refine⟨_,af (gk (pv 0) (pv 1) rfl) (af (gk (pv 0) (pv 2) rfl) (af (gk (pv 0) ak rfl) (af (gk (pv 0) (cw ae) rfl) (aj (gk (pv 0) (cw ae) rfl))))),?_⟩;refine⟨_,rfl,_,rfl,p,C,dx,[],rfl,hp,T.cl,T.nT,(by show 0<1000;decide),?_⟩;refine⟨_,rfl,_,rfl,p,C,dx,_,rfl,ac,T.cl,T.nM,(by show 1<1000;decide),?_⟩;refine⟨_,rfl,p,C,dx,_,rfl,ac,T.cl,T.nD,(by rw[show aV "most" (V.int m) (aV "tree" (V.ref t) [])=fl2 t m from bv k12];show 2<1000;decide),?_⟩;have e3:aV "deeds_done" (V.int 0) (aV "most" (V.int m) (aV "tree" (V.ref t) []))=fl3 t m:=by
   rw[show aV "most" (V.int m) (aV "tree" (V.ref t) [])=fl2 t m from bv k12];unfold fl2;rw[bv k13,bv k23];rfl
  rw[e3];have hp3:upd (upd (upd H p (.ins C dx (aV "tree" (V.ref t) []))) p (.ins C dx (aV "most" (V.int m) (aV "tree" (V.ref t) [])))) p (.ins C dx (fl3 t m)) p=some (.ins C dx (fl3 t m)):=ac;have o3:Off [p] H (upd (upd (upd H p (.ins C dx (aV "tree" (V.ref t) []))) p (.ins C dx (aV "most" (V.int m) (aV "tree" (V.ref t) [])))) p (.ins C dx (fl3 t m))):=λb o e hb=>by
   have hb':b≠p:=by simpa using hb
   rw[ai hb',ai hb',ai hb'];exact e
  have f3:∀b,upd (upd (upd H p (.ins C dx (aV "tree" (V.ref t) []))) p (.ins C dx (aV "most" (V.int m) (aV "tree" (V.ref t) [])))) p (.ins C dx (fl3 t m)) b=none→H b=none:=λb e=>by
   have hb':b≠p:=λz=>by rw[z,hp3]at e;cases e
   rw[ai hb',ai hb',ai hb']at e;exact e
  generalize upd (upd (upd H p (.ins C dx (aV "tree" (V.ref t) []))) p (.ins C dx (aV "most" (V.int m) (aV "tree" (V.ref t) [])))) p (.ins C dx (fl3 t m))=H3 at hp3 o3 f3⊢;refine⟨zero_le _,λkl hkl=>?_⟩;have nk:p≠kl:=aq hp3 hkl;refine⟨_,rfl,p,C,dx,_,rfl,by rw[ai nk];exact hp3,T.cl,T.nK,(by show 3<1000;decide),?_⟩;have e4:aV "kept" (V.ref kl) (fl3 t m)=fl4 t m kl:=by
   unfold fl3;rw[bv k14,bv k24,bv k34];rfl
  rw[e4];refine⟨zero_le _,λml hml=>?_⟩;have hmp:ml≠p:=λz=>by rw[z,ac]at hml;cases hml
  have hmk:ml≠kl:=λz=>by rw[ai hmp,z,ac]at hml;cases hml
  have hml3:H3 ml=none:=by rw[ai hmp,ai hmk]at hml;exact hml
  refine⟨_,rfl,p,C,dx,_,rfl,by rw[ai (Ne.symm hmp)];exact ac,T.cl,T.nS,(by show 4<1000;decide),?_⟩;have e5:aV "marks_seen" (V.ref ml) (fl4 t m kl)=flW t m 0 kl ml:=by
   unfold fl4;rw[bv k15,bv k25,bv k35,bv k45];rfl
  rw[e5];refine k kl ml _ (f3 kl hkl) (f3 ml hml3) ⟨⟨dx,ac⟩,?_,?_,?_,Ne.symm hmk,by simp⟩ λb o e hb=>?_
  ·refine tr.ts λb xs e=>?_;have hbp:b≠p:=λz=>by rw[z,hp]at e;cases e
   have e3':=o3 b _ e (by simpa using hbp);rw[ai hbp,ai (aq e3' hml3),ai hbp,ai (aq e3' hkl)];exact e3'
  ·rw[ai (Ne.symm nk),ai (Ne.symm hmk),ai (Ne.symm nk),ac];rfl
  ·rw[ai hmp,ac];rfl
  ·have hbp:b≠p:=by simpa using hb
   have e3':=o3 b _ e hb;rw[ai hbp,ai (aq e3' hml3),ai hbp,ai (aq e3' hkl)];exact e3'
def iW(C:Addr):Sp:=λvs H Q _=>∃p kl ml t z m dn ks ms,vs=[.ref p]∧WAt C H p kl ml t z m dn ks ms∧Q (.ref t) H
theorem wl:FnScope ["self"] ["self"] (ah eR):=fsc
theorem ui{f C:Addr}{fd:FuncData}(F:Fun K "now" "Watch.now" eR f fd)(T:WCls K mg C):FnOk P w K mg base CX0 1 f fd ["self"] (iW C):=by
 refine F.ok wl (λvs H Q E h=>?_) (λcdv A outer s H vs Q E hr h=>?_)
 ·obtain⟨p,kl,ml,t,z,m,dn,ks,ms,rfl,_⟩:=h;rfl
 ·obtain⟨p,kl,ml,t,z,m,dn,ks,ms,rfl,W,q⟩:=h;obtain⟨dx,hp⟩:=W.ob;exact⟨_,aj (av (be (pv 0) rfl)),_,rfl,p,C,dx,_,_,rfl,hp,T.cl,T.nT,fX,q⟩
def eG(m:Int)(ks:List (Addr×ZR)):List (Addr×ZR):=if m<(ks.length:Int)then ks.drop 1 else ks
def dZ(C:Addr)(cls:TW.Wd→Addr):Sp:=λvs H Q E=>∃p kl ml t z m dn ks ms d dd,vs=[.ref p,.ref d]∧WAt C H p kl ml t z m dn ks ms∧z.length≤29∧ks.length≤100∧0≤m∧H d=some (.tup (jF dd))∧cR dd ∧
 (∀t' us c es H',TW.Told (nds z) dd (.inr (nds us))→TW.Chg (nds z) (nds us) (aL es)→WAt C H' p kl ml t' us m (dn+1) (eG m (ks++[(c,es)])) ms→Off [p,kl] H H'→aW H H'→Q .non H') ∧
 ∀wd H',Same H H'→TW.Told (nds z) dd (.inl wd)→E (.ref (cls wd)) none H'
theorem pi:FnScope ["self","deed","behind"] ["self","deed"] (ah dI):=fsc
theorem ss{f C:Addr}{fd:FuncData}{cls:TW.Wd→Addr}(F:Fun K "deed" "Watch.deed" dI f fd)(Tx:Txt mg)(T:WCls K mg C)(CD:dm P w K mg base 4 "done" ["tree","deed"] (kG cls))(CC:Has P w K mg base 2 "change_between" ["one","other"] sk):FnOk P w K mg base (CX1 P w) 5 f fd ["self","deed"] (dZ C cls):=by
 obtain⟨fD,fdD,GD,mD,kD,bD⟩:=CD;obtain⟨fC,fdC,GC,mC,kC,bC⟩:=CC;refine F.okX pi (λvs H Q E h=>?_) (λcdv A outer s H vs Q E hr h=>?_)
 ·obtain⟨p,kl,ml,t,z,m,dn,ks,ms,d,dd,rfl,_⟩:=h;rfl
 ·have hr2:Room 2 _:=hr.mono (by decide);refine⟨_,af (ao (i:=2) pi.nd rfl (Or.inl rfl) (al (E:=E) GD hr rfl mD kD bD .nil (cp bc) (aa (be (pv 0) rfl) (aa (pv 1) ae))))
   (af (aT (eZ plainAttrs_list PySem.F.slot_list_append PySem.F.type_list_append br (be (pv 0) rfl) (aa (al GC hr2 rfl mC kC bC .nil aI (aa (be (pv 0) rfl) (aa (pv 2) ae))) ae)))
   (af (aZ (am uu (bp bf rfl Tx.len boot_len (aa (be (pv 0) rfl) ae)) (be (pv 0) rfl) (ay _)) (aj (aT (eZ plainAttrs_list slot_list_pop type_list_pop qA (be (pv 0) rfl) (aa ak ae)))) aD)
   (af (gk (pv 0) (pv 2) rfl) (aj (pE (pv 0) ak uV))))),?_⟩
  obtain⟨p,kl,ml,t,z,m,dn,ks,ms,d,dd,rfl,W,hz,hks,hm,hd,hok,qo,qE⟩:=h;obtain⟨dx,hp⟩:=W.ob;refine⟨_,rfl,p,C,dx,_,_,rfl,hp,T.cl,T.nT,fX,_,rfl,t,d,dd,z,rfl,W.tr,hz,hd,hok,⟨λus t' H1 s1 ht' hA told=>?_,λwd H1 s1 told=>qE wd H1 s1 told⟩⟩;have W1:=W.same s1;have hp1:=s1 _ _ hp;have Tb:Tre H1 t' us:=⟨ht',hA,told.tree W.tr.tr hok.pos,by have:=told.len;rw[aY,aY]at this;omega⟩;refine⟨_,rfl,p,C,dx,_,_,rfl,hp1,T.cl,T.nK,dQ,.inl ⟨rfl,_,SqL.of W1.kp⟩,_,rfl,p,C,dx,_,_,rfl,hp1,T.cl,T.nT,fX,_,rfl,t,t',z,us,rfl,W1.tr,Tb,λc es H2 s2 hc hch=>?_⟩;have W2:=W1.same s2;have hp2:=s2 _ _ hp1;have npk:p≠kl:=nX hp2 W2.kp (by intro h;cases h);refine⟨kl,_,_,rfl,rfl,W2.kp,ar (by rw[length_map];omega),?_⟩;have t3:=nU (ys:=(ks.map λx=>V.ref x.1)++[.ref c]) W2.kp;have hk3:upd H2 kl (.lst ((ks.map λx=>V.ref x.1)++[.ref c])) kl=some (.lst ((ks++[(c,es)]).map λx=>V.ref x.1)):=by rw[ac,map_append];rfl
  have hp3:upd H2 kl (.lst ((ks.map λx=>V.ref x.1)++[.ref c])) p=some (.ins C dx (flW t m dn kl ml)):=by rw[ai npk];exact hp2
  have o3:Off [p,kl] H2 (upd H2 kl (.lst ((ks.map λx=>V.ref x.1)++[.ref c]))):=λb o e hb=>by
   rw[ai (λz=>hb (by rw[z];simp))];exact e
  generalize upd H2 kl (.lst ((ks.map λx=>V.ref x.1)++[.ref c]))=H3 at t3 hk3 hp3 o3⊢;have fin:∀H4,aW H3 H4→Off [p,kl] H3 H4→H4 kl=some (.lst ((eG m (ks++[(c,es)])).map λx=>V.ref x.1))→H4 p=some (.ins C dx (flW t m dn kl ml))→qg (wI K (eA 0) (eA 2) "tree") (oq K (eA 0) (tC (.int 1)) wK "deeds_done") {nx:=λ_ H'=>Q .non H',rt:=Q} [some (.ref p),some (.ref d),some (.ref t')] H4:=λH4 t4 o4 hk4 hp4=>by
   refine⟨_,rfl,_,rfl,p,C,dx,_,rfl,hp4,T.cl,T.nT,ph,?_⟩;rw[wf];have t5:=so (gs:=flW t' m dn kl ml) hp4;refine⟨_,rfl,p,C,dx,_,_,rfl,ac,T.cl,T.nD,dg,_,_,rfl,rfl,dx,_,ac,ph,?_⟩;rw[wg];have t6:aW (upd H4 p (.ins C dx (flW t' m dn kl ml))) (upd (upd H4 p (.ins C dx (flW t' m dn kl ml))) p (.ins C dx (flW t' m (dn+1) kl ml))):=so ac;have s12:=s1.trans s2;have t46:aW H2 (upd (upd H4 p (.ins C dx (flW t' m dn kl ml))) p (.ins C dx (flW t' m (dn+1) kl ml))):=((t3.trans t4).trans t5).trans t6;have nmp:ml≠p:=nX W2.mks hp2 (by intro h;cases h);refine qo t' us c es _ told hch ⟨⟨dx,ac⟩,(Tb.same s2).ts t46,by rw[ai (Ne.symm npk),ai (Ne.symm npk)];exact hk4,?_,W.ne,λx hx=>?_⟩ (λb o e hb=>?_) ((gP s12).trans t46)
   ·rw[ai nmp,ai nmp];have nmk:ml∉[p,kl]:=by simp[nmp,Ne.symm W.ne]
    exact o4 _ _ (o3 _ _ W2.mks nmk) nmk
   ·have hx':x∈ks++[(c,es)]:=by
     unfold eG at hx
     split at hx
     ·exact List.drop_subset _ _ hx
     ·exact hx
    rcases mem_append.mp hx' with h|h
    ·exact(W2.ch x h).ts t46
    ·have:x=(c,es):=by simpa using h
     rw[this];exact hc.ts t46
   ·have hb':b≠p:=λz=>hb (by rw[z];simp);rw[ai hb',ai hb'];exact o4 _ _ (o3 _ _ (s12 _ _ e) hb) hb
  refine⟨_,rfl,p,C,dx,_,_,rfl,hp3,T.cl,T.nK,dQ,kl,_,rfl,.inl (SqL.of hk3),_,rfl,p,C,dx,_,_,rfl,hp3,T.cl,T.nM,sr,_,_,rfl,rfl,_,rfl,?_⟩;have hlen:((ks++[(c,es)]).map λx=>V.ref x.1).length=ks.length+1:=by rw[length_map,length_append];rfl
  by_cases hc2:m<((ks++[(c,es)]).length:Int)
  ·have e1:decide (m<(((ks++[(c,es)]).map λx=>V.ref x.1).length:Int))=true:=by rw[length_map];exact decide_eq_true hc2
   rw[e1];refine bh ?_;have hne:∃y,((ks++[(c,es)]).map λx=>V.ref x.1)[0]?=some y:=by
    cases ks with
    |nil=>exact⟨_,rfl⟩
    |cons a r=>exact⟨_,rfl⟩
   obtain⟨y,hy⟩:=hne;refine⟨_,rfl,p,C,dx,_,_,rfl,hp3,T.cl,T.nK,dQ,.inl ⟨rfl,_,SqL.of hk3⟩,kl,_,0,0,y,rfl,rfl,hk3,by decide,by decide,?_,hy,?_⟩
   ·rw[hlen];exact vD (Int.le_refl 0) (by omega)
   ·have ek:((ks++[(c,es)]).map λx=>V.ref x.1).eraseIdx 0=(eG m (ks++[(c,es)])).map λx=>V.ref x.1:=by
     unfold eG;rw[if_pos hc2,map_drop];cases hh:(ks++[(c,es)]).map λx=>V.ref x.1 with
     |nil=>rfl
     |cons a r=>rfl
    rw[ek];exact fin _ (nU hk3) (λb o e hb=>by rw[ai (λz=>hb (by rw[z];simp))];exact e) ac (by rw[ai npk];exact hp3)
  ·have e1:decide (m<(((ks++[(c,es)]).map λx=>V.ref x.1).length:Int))=false:=by rw[length_map];exact decide_eq_false hc2
   rw[e1];refine aP ?_;exact fin H3 (aW.refl _) (λb o e _=>e) (by unfold eG;rw[if_neg hc2];exact hk3) hp3
end
theorem wm{t u:List Nd}{es:ZR}(h:TW.Chg t u (aL es)){e:Addr×Row}(he:e∈es):e.2.k∈t.map (·.num)∨e.2.k∈u.map (·.num):=by
 obtain⟨h1,h2,h3⟩:=(h.mem e.2).mp (mem_map.mpr ⟨e,he,rfl⟩);cases a:TW.aH t e.2.k with
 |some m =>
  obtain⟨m1,m2⟩:=TW.ck a;exact .inl (mem_map.mpr ⟨m,m1,m2⟩)
 |none =>
  cases b:TW.aH u e.2.k with
  |some m =>
   obtain⟨m1,m2⟩:=TW.ck b;exact .inr (mem_map.mpr ⟨m,m1,m2⟩)
  |none=>exact absurd (h1.trans (a.trans (b.symm.trans h2.symm))) h3
theorem uk{t u:List Nd}{es:ZR}(h:TW.Chg t u (aL es)):(es.map (·.2.k)).Nodup:=by
 have:=h.up;unfold aL at this;rw[pairwise_map]at this;unfold Nodup;rw[pairwise_map];exact this.imp λh e=>by omega
theorem pj{t u:List Nd}{es:ZR}{ms:List Int}(h:TW.Chg t u (aL es))(ht:∀n∈t,n.num∈ms)(hu:∀n∈u,n.num∈ms):es.length≤ms.length:=by
 have:=cu (m:=ms) (uk h) λk hk=>by
  obtain⟨e,he,rfl⟩:=mem_map.mp hk;rcases wm h he with q|q<;>obtain⟨m,m1,m2⟩:=mem_map.mp q<;>rw[←m2]
  ·exact ht m m1
  ·exact hu m m1
 rw[length_map]at this;exact this
theorem su(t:List Nd):TW.Chg t t (aL []):=by
 refine⟨Pairwise.nil,λr=>⟨λh=>?_,λh=>?_⟩⟩
 ·cases h
 ·exact absurd (h.1.trans h.2.1.symm) h.2.2
structure Hist(ks:List (Addr×ZR))(U:Nat→List Nd)(M:List Int):Prop where
 step:∀j x,ks[j]?=some x→TW.Chg (U j) (U (j+1)) (aL x.2)
 num:∀j,j≤ks.length→∀n∈U j,n.num∈M
 few:M.length≤30
section
variable{P:Program}{w:World}{K:PySem.W.Frag}{mg:Str→Option Value}{base:Heap}
def dh(C CM:Addr):Sp:=λvs H Q E=>∃p kl ml t z m dn ks ms mark U M,vs=[.ref p,.int mark]∧WAt C H p kl ml t z m dn ks ms∧Hist ks U M∧ks.length≤100∧-60≤mark∧mark≤60 ∧
 ((mark<0∨dn<mark)→∀H',Same H H'→E (.ref CM) none H') ∧
 (0≤mark→mark≤dn→(ks.length:Int)-(dn-mark)<0→∀H',Same H H'→Q .non H') ∧
 ∀j:Nat,0≤mark→mark≤dn→(ks.length:Int)-(dn-mark)=j→∀c es H',Same H H'→ChgAt H' c es→TW.Chg (U j) (U ks.length) (aL es)→Q (.ref c) H'
theorem mm:FnScope ["self","mark","older","whole","change"] ["self","mark"] (ah dq):=fsc
theorem qd{f C CM:Addr}{fd:FuncData}(F:Fun K "since" "Watch.since" dq f fd)(Tx:Txt mg)(T:WCls K mg C)(O:iI "NoMark" mg base CM)(CJ:Has P w K mg base 2 "joined" ["one","other"] we):FnOk P w K mg base (CX1 P w) 3 f fd ["self","mark"] (dh C CM):=by
 obtain⟨fJ,fdJ,GJ,mJ,kJ,bJ⟩:=CJ;refine F.okX mm (λvs H Q E h=>?_) (λcdv A outer s H vs Q E hr h=>?_)
 ·obtain⟨p,kl,ml,t,z,m,dn,ks,ms,mark,U,M,rfl,_⟩:=h;rfl
 ·refine⟨_,af (aZ (PW.pt (pw_or (am om (pv 1) ak (ay _)) (pw_or1 (am uu (pv 1) (be (pv 0) rfl) (ay _))))) (aj (cq (E:=E) bc O hr.hd rfl (sm (pv 1) (by decide +kernel)))) aD)
   (af (ao (i:=2) mm.nd rfl (Or.inl rfl) (aU mH (bp bf rfl Tx.len boot_len (aa (be (pv 0) rfl) ae)) (aU mH (be (pv 0) rfl) (pv 1))))
   (af (aZ (am om (pv 2) ak (ay _)) (aj (av cb)) aD)
   (af (ao (i:=3) mm.nd rfl (Or.inl rfl) (aA ae))
   (af (ce (xh bc) rfl (cm (ig sP (be (pv 0) rfl) (jW (pv 2)) jV)) (aE (i:=4) mm.nd rfl (Or.inl rfl))
    (aj (ao (i:=3) mm.nd rfl (Or.inl rfl) (al GJ hr rfl mJ kJ bJ .nil aI (aa (pv 3) (aa (pv 4) ae))))))
   (aj (av (pv 3))))))),?_⟩
  obtain⟨p,kl,ml,t,z,m,dn,ks,ms,mark,U,M,rfl,W,hi,hks,hm1,hm2,qE,qN,qC⟩:=h;obtain⟨dx,hp⟩:=W.ob;refine⟨_,rfl,_,_,rfl,rfl,_,rfl,?_⟩
  by_cases h0:mark<0
  ·rw[decide_eq_true h0];refine bh (bh ?_);exact⟨_,rfl,mark,rfl,hm1,hm2,λy=>⟨(show 1≤sizeLine from au (by decide)),qE (.inl h0) H (Same.refl _)⟩⟩
  rw[decide_eq_false h0];refine aP ⟨_,rfl,_,rfl,p,C,dx,_,_,rfl,hp,T.cl,T.nD,dg,_,_,rfl,rfl,_,rfl,?_⟩
  by_cases h1:dn<mark
  ·rw[decide_eq_true h1];refine bh ?_;exact⟨_,rfl,mark,rfl,hm1,hm2,λy=>⟨(show 1≤sizeLine from au (by decide)),qE (.inr h1) H (Same.refl _)⟩⟩
  rw[decide_eq_false h1];refine aP ?_;refine⟨_,rfl,p,C,dx,_,_,rfl,hp,T.cl,T.nK,dQ,kl,_,rfl,.inl (SqL.of W.kp),_,rfl,p,C,dx,_,_,rfl,hp,T.cl,T.nD,dg,_,rfl,_,_,rfl,rfl,_,_,rfl,rfl,?_⟩;rw[length_map];refine⟨_,rfl,_,_,rfl,rfl,_,rfl,?_⟩
  by_cases h2:(ks.length:Int)-(dn-mark)<0
  ·rw[decide_eq_true h2];exact bh (qN (by omega) (by omega) h2 H (Same.refl _))
  rw[decide_eq_false h2];refine aP ⟨zero_le _,λc0 hc0=>?_⟩;have s1:=ag (o:=.tup []) hc0;have C0:ChgAt (upd H c0 (.tup [])) c0 []:=⟨ac,by simp,by simp⟩;generalize upd H c0 (.tup [])=H1 at s1 C0⊢;obtain⟨j,hj⟩:∃j:Nat,(ks.length:Int)-(dn-mark)=j:=⟨((ks.length:Int)-(dn-mark)).toNat,by omega⟩;have hjl:j≤ks.length:=by omega
  have W1:=W.same s1;have hp1:=s1 _ _ hp;dsimp only;rw[hj];refine⟨_,rfl,p,C,dx,_,_,rfl,hp1,T.cl,T.nK,dQ,_,rfl,_,rfl,kl,_,rfl,SqL.of W1.kp,λl hl=>?_⟩;rw[mh (by rw[length_map];exact hjl)];have s2:=ag (o:=.lst ((ks.map λx=>V.ref x.1).drop j)) hl;have hl2:upd H1 l (.lst ((ks.map λx=>V.ref x.1).drop j)) l=some (.lst ((ks.map λx=>V.ref x.1).drop j)):=ac;generalize upd H1 l (.lst ((ks.map λx=>V.ref x.1).drop j))=H2 at s2 hl2⊢;refine⟨l,rfl,⟨_,SqL.of hl2⟩,cW (xs:=(ks.map λx=>V.ref x.1).drop j) (λi σ H'=>∃c es x4,σ=[some (.ref p),some (.int mark),some (.int j),some (.ref c),x4]∧Same H2 H'∧ChgAt H' c es∧TW.Chg (U j) (U (j+i)) (aL es)) ⟨c0,[],none,rfl,Same.refl _,C0.same s2,su _⟩ (λi σ H' _ h=>?_) (λi x σ H' hx h=>?_) (λσ H' h=>?_)⟩
  ·obtain⟨c,es,x4,rfl,s3,_⟩:=h;exact SqL.of (s3 _ _ hl2)
  ·obtain⟨c,es,x4,rfl,s3,hc,hch⟩:=h;rw[getElem?_drop,getElem?_map]at hx;cases hk:ks[j+i]? with
   |none=>rw[hk]at hx;cases hx
   |some y =>
    rw[hk]at hx;have ey:V.ref y.1=x:=Option.some.inj hx;subst ey;have hy:=mem_of_getElem? hk;have hlt:j+i<ks.length:=(List.getElem?_eq_some_iff.mp hk).1;have hst:=hi.step _ _ hk;have l1:=pj hch (hi.num j hjl) (hi.num (j+i) (by omega));have l2:=pj hst (hi.num (j+i) (by omega)) (hi.num (j+i+1) (by omega));have hfew:=hi.few;refine⟨_,rfl,_,rfl,c,y.1,es,y.2,U j,U (j+i),U (j+i+1),rfl,hc,((W1.ch y hy).same s2).same s3,hch,hst,by omega,by omega,λc' gs H4 s4 hc' hch'=>?_⟩;exact⟨c',gs,_,rfl,s3.trans s4,hc',hch'⟩
  ·obtain⟨c,es,x4,rfl,s3,hc,hch⟩:=h;have hle:j+((ks.map λx=>V.ref x.1).drop j).length=ks.length:=by rw[length_drop,length_map];omega
   rw[hle]at hch;exact⟨_,rfl,qC j (by omega) (by omega) hj c es H' ((s1.trans s2).trans s3) hc hch⟩
end
structure Past(ts:List (List Nd))(z:List Nd)(most:Int)(ks:List (Addr×ZR))(M:List Int):Prop where
 pos:0<ts.length
 m0:0≤most
 len:(ks.length:Int)=min ((ts.length:Int)-1) most
 last:ts[ts.length-1]?=some z
 step:∀j x,ks[j]?=some x→TW.Chg (ts.getD (ts.length-1-ks.length+j) []) (ts.getD (ts.length-1-ks.length+j+1) []) (aL x.2)
 num:∀t∈ts,∀n∈t,n.num∈M
theorem iX{α:Type}{ts:List α}{u d:α}{i:Nat}(h:i<ts.length):(ts++[u]).getD i d=ts.getD i d:=by
 rw[getD_eq_getElem?_getD,getD_eq_getElem?_getD,getElem?_append_left h]
theorem sv{α:Type}{ts:List α}{u d:α}:(ts++[u]).getD ts.length d=u:=by
 rw[getD_eq_getElem?_getD,getElem?_append_right (le_refl _),sub_self];rfl
theorem Past.at_last{ts:List (List Nd)}{z:List Nd}{most:Int}{ks:List (Addr×ZR)}{M:List Int}(h:Past ts z most ks M):ts.getD (ts.length-1) []=z:=by
 rw[getD_eq_getElem?_getD,h.last];rfl
theorem Past.next{ts:List (List Nd)}{z u:List Nd}{most:Int}{ks:List (Addr×ZR)}{M:List Int}(h:Past ts z most ks M){c:Addr}{es:ZR}(hc:TW.Chg z u (aL es)){k:Int}(hu:∀n∈u,n.num∈k::M):Past (ts++[u]) u most (eG most (ks++[(c,es)])) (k::M):=by
 have hp:=h.pos;have hl:=h.len;have hm:=h.m0;have h1:(ks++[(c,es)]).length=ks.length+1:=by rw[length_append];rfl
 have h2:(ts++[u]).length=ts.length+1:=by rw[length_append];rfl
 have one:∀j x,(ks++[(c,es)])[j]?=some x→TW.Chg ((ts++[u]).getD (ts.length-1-ks.length+j) []) ((ts++[u]).getD (ts.length-1-ks.length+j+1) []) (aL x.2):=λj x hj=>by
  by_cases hlt:j<ks.length
  ·rw[getElem?_append_left hlt]at hj;rw[iX (by omega),iX (by omega)];exact h.step j x hj
  ·have hj2:j<(ks++[(c,es)]).length:=(List.getElem?_eq_some_iff.mp hj).1;have ej:j=ks.length:=by omega
   subst ej;rw[getElem?_append_right (le_refl _),sub_self]at hj;have ex:(c,es)=x:=Option.some.inj hj;subst ex;have e1:ts.length-1-ks.length+ks.length=ts.length-1:=by omega
   have e2:ts.length-1+1=ts.length:=by omega
   rw[e1,e2,sv,iX (by omega),h.at_last];exact hc
 refine⟨by omega,hm,?_,?_,?_,λt ht n hn=>?_⟩
 ·unfold eG
  by_cases hc2:most<((ks++[(c,es)]).length:Int)
  ·rw[if_pos hc2,length_drop,h1,h2];rw[h1]at hc2;omega
  ·rw[if_neg hc2,h1,h2];rw[h1]at hc2;omega
 ·rw[h2,Nat.add_sub_cancel,getElem?_append_right (le_refl _),sub_self];rfl
 ·intro j x hj;unfold eG at hj⊢
  by_cases hc2:most<((ks++[(c,es)]).length:Int)
  ·rw[if_pos hc2]at hj;rw[if_pos hc2,length_drop,h1,h2];rw[getElem?_drop]at hj;have:=one (1+j) x hj;have hj2:1+j<(ks++[(c,es)]).length:=(List.getElem?_eq_some_iff.mp hj).1;have e1:ts.length+1-1-(ks.length+1-1)+j=ts.length-1-ks.length+(1+j):=by omega
   rw[e1];exact this
  ·rw[if_neg hc2]at hj;rw[if_neg hc2,h1,h2];rw[h1]at hc2;have e1:ts.length+1-1-(ks.length+1)+j=ts.length-1-ks.length+j:=by omega
   rw[e1];exact one j x hj
 ·rcases mem_append.mp ht with ht|ht
  ·exact mem_cons_of_mem _ (h.num t ht n hn)
  ·have:t=u:=by simpa using ht
   subst this;exact hu n hn
theorem Past.hist{ts:List (List Nd)}{z:List Nd}{most:Int}{ks:List (Addr×ZR)}{M:List Int}(h:Past ts z most ks M)(hM:M.length≤30):Hist ks (λj=>ts.getD (ts.length-1-ks.length+j) []) M:=by
 have hp:=h.pos;have hl:=h.len;refine⟨λj x hj=>h.step j x hj,λj hj n hn=>?_,hM⟩;have hlt:ts.length-1-ks.length+j<ts.length:=by omega
 rw[getD_eq_getElem?_getD,getElem?_eq_getElem hlt]at hn;exact h.num _ (getElem_mem hlt) n hn
theorem pk{n k:Nat}(h:k<n):ixN n (k:Int)=some k:=by
 unfold ixN;rw[if_pos (by omega),if_pos (by omega),toNat_natCast]
section
variable{P:Program}{w:World}{K:PySem.W.Frag}{mg:Str→Option Value}{base:Heap}
def iY(C:Addr):Sp:=λvs H Q _=>∃p kl ml t z m dn ks ms,vs=[.ref p]∧WAt C H p kl ml t z m dn ks ms∧ms.length≤100∧∀H',WAt C H' p kl ml t z m dn ks (ms++[dn])→Off [ml] H H'→aW H H'→Q (.int ms.length) H'
theorem wp:FnScope ["self"] ["self"] (ah cS):=fsc
theorem WAt.marks{C:Addr}{H:Hp}{p kl ml t:Addr}{z:ZN}{m dn:Int}{ks:List (Addr×ZR)}{ms ns:List Int}(W:WAt C H p kl ml t z m dn ks ms):WAt C (upd H ml (.lst (ns.map V.int))) p kl ml t z m dn ks ns∧Off [ml] H (upd H ml (.lst (ns.map V.int)))∧aW H (upd H ml (.lst (ns.map V.int))):=by
 have ts:=nU (ys:=ns.map V.int) W.mks;have of:Off [ml] H (upd H ml (.lst (ns.map V.int))):=λb o e hb=>by rw[ai (by simpa using hb)];exact e
 obtain⟨dx,hp⟩:=W.ob;refine⟨⟨⟨dx,of _ _ hp ?_⟩,W.tr.ts ts,of _ _ W.kp (by simpa using W.ne),ac,W.ne,λx hx=>(W.ch x hx).ts ts⟩,of,ts⟩;have:p≠ml:=nX hp W.mks (by intro h;cases h);simpa using this
theorem ul{f C:Addr}{fd:FuncData}(F:Fun K "reader" "Watch.reader" cS f fd)(Tx:Txt mg)(T:WCls K mg C):FnOk P w K mg base CX0 1 f fd ["self"] (iY C):=by
 refine F.ok wp (λvs H Q E h=>?_) (λcdv A outer s H vs Q E hr h=>?_)
 ·obtain⟨p,kl,ml,t,z,m,dn,ks,ms,rfl,_⟩:=h;rfl
 ·obtain⟨p,kl,ml,t,z,m,dn,ks,ms,rfl,W,hm,q⟩:=h;obtain⟨dx,hp⟩:=W.ob;refine⟨_,af (aT (eZ plainAttrs_list PySem.F.slot_list_append PySem.F.type_list_append br (be (pv 0) rfl) (aa (be (pv 0) rfl) ae)))
   (aj (av (aU mH (bp bf rfl Tx.len boot_len (aa (be (pv 0) rfl) ae)) ak))),?_⟩
  refine⟨_,rfl,p,C,dx,_,_,rfl,hp,T.cl,T.nS,cE,.inl ⟨rfl,_,SqL.of W.mks⟩,_,rfl,p,C,dx,_,_,rfl,hp,T.cl,T.nD,dg,ml,_,_,rfl,rfl,W.mks,ar (by rw[length_map];omega),?_⟩;have e1:ms.map V.int++[V.int dn]=(ms++[dn]).map V.int:=by rw[map_append];rfl
  rw[e1];obtain⟨W2,of,ts⟩:=W.marks (ns:=ms++[dn]);obtain⟨dx2,hp2⟩:=W2.ob;refine⟨_,rfl,p,C,dx2,_,_,rfl,hp2,T.cl,T.nS,cE,ml,_,rfl,.inl (SqL.of W2.mks),_,_,rfl,rfl,?_⟩;dsimp only;rw[show(((ms++[dn]).map V.int).length:Int)-1=(ms.length:Int)by rw[length_map,length_append];show((ms.length+1:Nat):Int)-1=_;omega];exact q _ W2 of ts
def fY(C CR:Addr):Sp:=λvs H Q E=>∃p kl ml t z m dn ks ms r U M,vs=[.ref p,.int r]∧WAt C H p kl ml t z m dn ks ms∧Hist ks U M∧ks.length≤100∧-60≤r∧r≤60∧dn≤60∧(∀x∈ms,0≤x∧x≤dn) ∧
 ((r<0∨(ms.length:Int)≤r)→∀H',Same H H'→E (.ref CR) none H') ∧
 ∀(k:Nat)(mark:Int),r=k→ms[k]?=some mark →
  ((ks.length:Int)-(dn-mark)<0→∀q H',WAt C H' p kl ml t z m dn ks (ms.set k dn)→Off [ml] H H'→aW H H'→H' q=some (.tup [.str "tree",.ref t])→Q (.ref q) H') ∧
  ∀j:Nat,(ks.length:Int)-(dn-mark)=j→∀q c es H',WAt C H' p kl ml t z m dn ks (ms.set k dn)→Off [ml] H H'→aW H H'→ChgAt H' c es→TW.Chg (U j) (U ks.length) (aL es)→H' q=some (.tup [.str "change",.ref c])→Q (.ref q) H'
theorem uD:FnScope ["self","number","change"] ["self","number"] (ah dJ):=fsc
theorem sw{f C CM CR fS:Addr}{fd fdS:FuncData}(F:Fun K "read" "Watch.read" dJ f fd)(Tx:Txt mg)(T:WCls K mg C)(O:iI "NoReader" mg base CR)(GS:FnOk P w K mg base (CX1 P w) 3 fS fdS ["self","mark"] (dh C CM))(mS:Meth K C "since" fS)(bS:aG K fdS ["self","mark"] []):FnOk P w K mg base (CX1 P w) 4 f fd ["self","number"] (fY C CR):=by
 refine F.okX uD (λvs H Q E h=>?_) (λcdv A outer s H vs Q E hr h=>?_)
 ·obtain⟨p,kl,ml,t,z,m,dn,ks,ms,r,U,M,rfl,_⟩:=h;rfl
 ·refine⟨_,af (aZ (PW.pt (pw_or (am om (pv 1) ak (ay _)) (pw_or1 (am wF (pv 1) (bp bf rfl Tx.len boot_len (aa (be (pv 0) rfl) ae)) (ay _))))) (aj (cq (E:=E) bc O hr.hd rfl (sm (pv 1) (by decide +kernel)))) aD)
   (af (ao (i:=2) uD.nd rfl (Or.inl rfl) (cy (E:=E) (pv 0) T.cl mS GS hr bS .nil (cp bc) (aa (aC kb (be (pv 0) rfl) (pv 1) (λ_ _=>rfl)) ae)))
   (af (qi (be (pv 0) rfl) (uQ (be (pv 0) rfl) (pv 1) qx))
   (af (aZ (am mO (pv 2) cb (ay _)) (aj (av (aA (aa aR (aa (be (pv 0) rfl) ae))))) aD)
   (aj (av (aA (aa aR (aa (pv 2) ae)))))))),?_⟩
  obtain⟨p,kl,ml,t,z,m,dn,ks,ms,r,U,M,rfl,W,hi,hks,hr1,hr2,hdn,hms,qE,qR⟩:=h;obtain⟨dx,hp⟩:=W.ob;refine⟨_,rfl,_,_,rfl,rfl,_,rfl,?_⟩
  by_cases h0:r<0
  ·rw[decide_eq_true h0];refine bh (bh ?_);exact⟨_,rfl,r,rfl,hr1,hr2,λy=>⟨(show 1≤sizeLine from au (by decide)),qE (.inl h0) H (Same.refl _)⟩⟩
  rw[decide_eq_false h0];refine aP ⟨_,rfl,_,rfl,p,C,dx,_,_,rfl,hp,T.cl,T.nS,cE,ml,_,rfl,.inl (SqL.of W.mks),_,_,rfl,rfl,_,rfl,?_⟩;rw[length_map]
  by_cases h1:(ms.length:Int)≤r
  ·rw[decide_eq_true h1];refine bh ?_;exact⟨_,rfl,r,rfl,hr1,hr2,λy=>⟨(show 1≤sizeLine from au (by decide)),qE (.inr h1) H (Same.refl _)⟩⟩
  rw[decide_eq_false h1];refine aP ?_;obtain⟨k,rfl⟩:∃k:Nat,r=k:=⟨r.toNat,by omega⟩;have hk:k<ms.length:=by omega
  have hmk:ms[k]?=some ms[k]:=getElem?_eq_getElem hk;obtain⟨m0,m1⟩:=hms _ (getElem_mem hk);obtain⟨qN,qC⟩:=qR k ms[k] rfl hmk;have at1:atI (ms.map V.int) (k:Int)=some (.int ms[k]):=ka (by rw[getElem?_map,hmk];rfl);have el:(ms.map V.int).set k (.int dn)=(ms.set k dn).map V.int:=by rw[List.map_set]
  have no:(flW t m dn kl ml).lookup ("since":Str)=none:=cJ (by decide +kernel) (by decide +kernel) (by decide +kernel) (by decide +kernel) (by decide +kernel);refine⟨_,rfl,p,dx,_,rfl,hp,no,_,rfl,p,C,dx,_,_,rfl,hp,T.cl,T.nS,cE,_,rfl,ml,_,_,_,rfl,rfl,SqL.of W.mks,at1,p,kl,ml,t,z,m,dn,ks,ms,ms[k],U,M,rfl,W,hi,hks,by omega,by omega,λh=>(by omega),λ_ _ hl H1 s1=>?_,λj _ _ hl c es H1 s1 hc hch=>?_⟩
  ·have W1:=W.same s1;have hp1:=s1 _ _ hp;refine⟨_,rfl,p,C,dx,_,_,rfl,hp1,T.cl,T.nD,dg,_,rfl,p,C,dx,_,_,rfl,hp1,T.cl,T.nS,cE,_,rfl,ml,_,_,k,rfl,rfl,W1.mks,pk (by rw[length_map];exact hk),?_⟩;rw[el];obtain⟨W2,of,ts⟩:=W1.marks (ns:=ms.set k dn);obtain⟨dx2,hp2⟩:=W2.ob;generalize upd H1 ml (.lst ((ms.set k dn).map V.int))=H2 at W2 of ts hp2⊢;refine⟨_,rfl,rfl,_,rfl,bh ⟨_,rfl,p,C,dx2,_,_,rfl,hp2,T.cl,T.nT,fX,le2,λq' hq=>?_⟩⟩;have s3:=ag (o:=.tup [.str "tree",.ref t]) hq;exact qN hl q' _ (W2.same s3) (λb o e hb=>s3 _ _ (of _ _ (s1 _ _ e) hb)) (((gP s1).trans ts).trans (gP s3)) ac
  ·have W1:=W.same s1;have hp1:=s1 _ _ hp;refine⟨_,rfl,p,C,dx,_,_,rfl,hp1,T.cl,T.nD,dg,_,rfl,p,C,dx,_,_,rfl,hp1,T.cl,T.nS,cE,_,rfl,ml,_,_,k,rfl,rfl,W1.mks,pk (by rw[length_map];exact hk),?_⟩;rw[el];obtain⟨W2,of,ts⟩:=W1.marks (ns:=ms.set k dn);generalize upd H1 ml (.lst ((ms.set k dn).map V.int))=H2 at W2 of ts⊢;refine⟨_,rfl,rfl,_,rfl,aP ⟨_,rfl,le2,λq' hq=>?_⟩⟩;have s3:=ag (o:=.tup [.str "change",.ref c]) hq;exact qC j hl q' c es _ (W2.same s3) (λb o e hb=>s3 _ _ (of _ _ (s1 _ _ e) hb)) (((gP s1).trans ts).trans (gP s3)) ((hc.ts ts).same s3) hch ac
def nV(K:PySem.W.Frag):Sp:=λvs H Q _=>∃a k,vs=[.ref a,.int k]∧0≤k∧gM K H a∧∀r H',Same H H'→Q (.int r) H'
theorem wq:FnScope ["_law_script","_law_k"] ["_law_script","_law_k"] (ah rH):=fsc
theorem um{f:Addr}{fd:FuncData}(F:Fun K "_law_cell" "_law_cell" rH f fd)(T:Txt mg):FnOk P w K mg base CX0 1 f fd ["_law_script","_law_k"] (nV K):=by
 refine F.ok wq (λvs H Q E h=>?_) (λcdv A outer s H vs Q E hr h=>?_)
 ·obtain⟨a,k,rfl,_⟩:=h;rfl
 ·obtain⟨a,k,rfl,hk,⟨ns,ea⟩,q⟩:=h;refine⟨_,af (aZ (am om (pv 1) (bp bf rfl T.len boot_len (aa (pv 0) ae)) (ay _)) (aj (av (aC kb (pv 0) (pv 1) (λ_ _=>rfl)))) aD)
   (af (aZ (am (nw hr.units0) (pv 0) (cw ae) (ay _)) (aj (av ak)) aD)
   (aj (av (aU cf (aU jR (aC kb (pv 0) (aU jS (pv 1) (bp bf rfl T.len boot_len (aa (pv 0) ae))) (λ_ _=>rfl)) ak) (pv 1))))),?_⟩
  refine⟨_,rfl,_,rfl,a,_,rfl,.inl (ea),_,_,rfl,rfl,_,rfl,?_⟩;rw[length_map]
  by_cases h:k<(ns.length:Int)
  ·rw[decide_eq_true h];obtain⟨j,ej⟩:=lJ hk h;exact bh ⟨_,rfl,_,rfl,a,_,_,_,rfl,rfl,ea,ej,q _ _ (Same.refl _)⟩
  ·rw[decide_eq_false h];refine aP ⟨_,rfl,zero_le _,λp hp=>⟨a,p,_,rfl,rfl,((ag hp).seq ea),SqL.of ac,_,rfl,?_⟩⟩
   by_cases h0:ns=[]
   ·subst h0;exact bh (q _ _ (ag hp))
   ·have hne:¬ns.map V.int=[]:=by simpa using h0
    rw[decide_eq_false hne];have hpos:0<ns.length:=List.length_pos_iff.mpr h0;have hm1:0≤k % (ns.length:Int):=emod_nonneg _ (by omega);have hm2:k % (ns.length:Int)<ns.length:=Int.emod_lt_of_pos _ (by omega);obtain⟨j,ej⟩:=lJ hm1 hm2;have ej':atI (ns.map V.int) (k % ((ns.map V.int).length:Int))=some (.int j):=by rw[length_map];exact ej
    exact aP ⟨_,rfl,_,rfl,_,rfl,a,_,rfl,.inl (((ag hp).seq ea)),_,_,rfl,rfl,by rw[length_map];omega,a,_,_,_,rfl,rfl,((ag hp).seq ea),ej',_,_,rfl,rfl,.inr ⟨by decide,by decide⟩,_,rfl,_,_,rfl,rfl,q _ _ (ag hp)⟩
def iZ(K:PySem.W.Frag):Sp:=λvs H Q _=>∃a k m,vs=[.ref a,.int k,.int m]∧0≤k∧0<m∧gM K H a∧∀r H',0≤r→r<m→Same H H'→Q (.int r) H'
theorem sx:FnScope ["_law_script","_law_k","_law_many","_law_drawn"] ["_law_script","_law_k","_law_many"] (ah rJ):=fsc
theorem uo{f:Addr}{fd:FuncData}(F:Fun K "_law_pick" "_law_pick" rJ f fd)(T:Txt mg)(C:Has P w K mg base 1 "_law_cell" ["_law_script","_law_k"] (nV K)):FnOk P w K mg base CX0 2 f fd ["_law_script","_law_k","_law_many"] (iZ K):=by
 obtain⟨fC,fdC,GC,mC,kC,bC⟩:=C;refine F.ok sx (λvs H Q E h=>?_) (λcdv A outer s H vs Q E hr h=>?_)
 ·obtain⟨a,k,m,rfl,_⟩:=h;rfl
 ·obtain⟨a,k,m,rfl,hk,hm,hS,q⟩:=h;refine⟨_,(af (ao (i:=3) sx.nd rfl (Or.inl rfl) (aU jS (aU jR (aU cf (al GC hr rfl mC kC bC .nil aI (aa (pv 0) (aa (pv 1) ae))) (aU jR ak (aU cf (pv 1) ak))) ak) ak))
   (aj (av (aU jS (aU jS (aU cf (aU jR (pv 3) (pv 3)) (aU sH (pv 3) ak)) ak) (pv 2))))),?_⟩
  refine⟨_,rfl,_,rfl,a,k,rfl,hk,hS,λr H1 s1=>?_⟩;refine⟨_,rfl,_,_,rfl,rfl,_,_,rfl,rfl,.inl ⟨by decide,by decide⟩,_,_,rfl,rfl,_,_,rfl,rfl,.inr ⟨by decide,by decide⟩,_,_,rfl,rfl,(by decide:(0:Int)<2147483399),?_⟩;generalize hd:(r+6151*(k+1))*40692 % 2147483399=dr;have d0:0≤dr:=by rw[←hd];exact emod_nonneg _ (by decide)
  have d1:dr<2147483399:=by rw[←hd];exact Int.emod_lt_of_pos _ (by decide)
  refine⟨_,rfl,_,rfl,_,_,rfl,rfl,.inl ⟨by omega,by omega⟩,_,rfl,_,_,rfl,rfl,⟨by decide,by decide⟩,_,_,rfl,rfl,_,_,rfl,rfl,(by decide:(0:Int)<2147483629),_,rfl,_,_,rfl,rfl,hm,?_⟩;exact q _ _ (emod_nonneg _ (by omega)) (Int.emod_lt_of_pos _ hm) s1
end
end TK
namespace TW
section
variable{S:Type}
def grow(pre:List (Nd S))(f:Nat→Nd S)(k:Nat):List (Nd S):=pre++(List.range k).map f
theorem gD{pre:List (Nd S)}{f:Nat→Nd S}{k:Nat}:grow pre f (k+1)=grow pre f k++[f k]:=by
 unfold grow;rw[range_succ,map_append,←append_assoc];rfl
theorem bq{pre:List (Nd S)}{f:Nat→Nd S}{k:Nat}{m:Nd S}:m∈grow pre f k↔m∈pre∨∃j,j<k∧f j=m:=by
 unfold grow;rw[mem_append,mem_map];constructor
 ·rintro(h|⟨j,h,e⟩)
  ·exact .inl h
  ·exact .inr ⟨j,mem_range.mp h,e⟩
 ·rintro(h|⟨j,h,e⟩)
  ·exact .inl h
  ·exact .inr ⟨j,mem_range.mpr h,e⟩
theorem sy{pre:List (Nd S)}{f:Nat→Nd S}{k:Nat}:(grow pre f k).length=pre.length+k:=by
 unfold grow;rw[length_append,length_map,length_range]
structure Grows(pre:List (Nd S))(f:Nat→Nd S)(b:Nat):Prop where
 tr:Tree1 pre
 num:∀j,(f j).num<(f (j+1)).num
 pos:1≤(f 0).num
 lo:∀m∈pre,m.num<(f 0).num
 fold:∀j,iF pre (f j).par
 nm:∀m∈pre,∀j,j<b→¬(m.par=(f j).par∧m.nm=(f j).nm)
 own:∀i j,i<j→j<b→(f i).nm≠(f j).nm
variable{pre:List (Nd S)}{f:Nat→Nd S}{b:Nat}
theorem Grows.up(G:Grows pre f b){i j:Nat}(h:i<j):(f i).num<(f j).num:=by
 induction j with
 |zero=>omega
 |succ j ih =>
  have:=G.num j
  by_cases e:i=j
  ·subst e;exact this
  ·have:=ih (by omega);omega
theorem Grows.up0(G:Grows pre f b)(i:Nat):(f 0).num≤(f i).num:=by
 cases i with
 |zero=>exact Int.le_refl _
 |succ i=>exact Int.le_of_lt (G.up (Nat.zero_lt_succ i))
theorem Grows.inj(G:Grows pre f b){i j:Nat}(h:(f i).num=(f j).num):i=j:=by
 rcases Nat.lt_trichotomy i j with q|q|q
 ·have:=G.up q;omega
 ·exact q
 ·have:=G.up q;omega
theorem Grows.told(G:Grows pre f b){k:Nat}(hk:k<b)(T:Tree1 (grow pre f k)):Told (grow pre f k) (.make (f k).num (f k).par (f k).nm (f k).st) (.inr (grow pre f (k+1))):=by
 have lt:∀m∈grow pre f k,m.num<(f k).num:=λm hm=>by
  rcases bq.mp hm with h|⟨j,h,rfl⟩
  ·have:=G.lo m h;have:=G.up0 k;omega
  ·exact G.up h
 refine .made (λ⟨m,hm,e⟩=>?_) ?_ (λm hm=>?_) ?_ ?_
 ·have:=lt m hm;omega
 ·rcases G.fold k with h|⟨m,h1,h2,h3⟩
  ·exact .inl h
  ·exact .inr ⟨m,bq.mpr (.inl h1),h2,h3⟩
 ·rcases bq.mp hm with h|⟨j,h,rfl⟩
  ·exact G.nm m h k hk
  ·exact λ⟨_,e⟩=>G.own j k h hk e
 ·rw[gD];exact List.perm_append_comm
 ·rw[gD];unfold cL;rw[List.pairwise_append];refine⟨T.rise,List.pairwise_singleton _ _,λx hx y hy=>?_⟩;have:y=f k:=by simpa using hy
  subst this;exact lt x hx
theorem Grows.tree(G:Grows pre f b):∀{k:Nat},k≤b→Tree1 (grow pre f k)
 |0,_=>by unfold grow;simpa using G.tr
 | k+1,h=>(G.told (by omega) (G.tree (k:=k) (by omega))).tree (G.tree (k:=k) (by omega)) (by
   show 1≤(f k).num;have:=G.pos;have:=G.up0 k;omega)
def dR(f:Nat→Nd S)(b:Nat):List (Row S):=(List.range b).map λj=>⟨(f j).num,none,some (f j)⟩
theorem Grows.chg(G:Grows pre f b){a k:Nat}(hk:k≤b)(ha:a≤k):Chg (grow pre f a) (grow pre f k) ((dR f k).drop a):=by
 have Tk:=G.tree hk;have Ta:=G.tree (le_trans ha hk);have sub:∀m,m∈grow pre f a→m∈grow pre f k:=λm hm=>by
  rcases bq.mp hm with h|⟨j,h,e⟩
  ·exact bq.mpr (.inl h)
  ·exact bq.mpr (.inr ⟨j,by omega,e⟩)
 refine⟨Pairwise.sublist (List.drop_sublist _ _) ?_,λr=>?_⟩
 ·unfold dR;rw[pairwise_map];exact List.pairwise_lt_range.imp λh=>G.up h
 ·constructor
  ·intro hr;obtain⟨i,hi⟩:=List.mem_iff_getElem?.mp hr;unfold dR at hi;rw[getElem?_drop,getElem?_map]at hi;have hlt:a+i<k:=by
    by_cases q:a+i<k
    ·exact q
    ·rw[getElem?_eq_none (by rw[length_range];omega)]at hi;cases hi
   rw[getElem?_range hlt]at hi;have er:=Option.some.inj hi;subst er;refine⟨(iP λm hm e=>?_).symm,(dt Tk (bq.mpr (.inr ⟨a+i,hlt,rfl⟩)) rfl).symm,by simp⟩;rcases bq.mp hm with h|⟨j,h,rfl⟩
   ·have q1:=G.lo m h;have q2:=G.up0 (a+i);have q3:m.num=(f (a+i)).num:=e;omega
   ·have:j=a+i:=G.inj e;omega
  ·rintro⟨h1,h2,h3⟩;cases e:aH (grow pre f a) r.k with
   |some m =>
    obtain⟨m1,m2⟩:=ck e;rw[h1,h2,e,dt Tk (sub m m1) m2]at h3;exact absurd rfl h3
   |none =>
    cases e2:aH (grow pre f k) r.k with
    |none=>rw[h1,h2,e,e2]at h3;exact absurd rfl h3
    |some m =>
     obtain⟨m1,m2⟩:=ck e2;have out:m∉grow pre f a:=λhm=>by rw[dt Ta hm m2]at e;cases e
     rcases bq.mp m1 with h|⟨j,h,rfl⟩
     ·exact absurd (bq.mpr (.inl h)) out
     ·have hj:a≤j:=by
       by_cases q:a≤j
       ·exact q
       ·exact absurd (bq.mpr (.inr ⟨j,by omega,rfl⟩)) out
      have er:r=⟨(f j).num,none,some (f j)⟩:=by
       cases r with
       |mk rk ro rn =>
        dsimp only at h1 h2 m2 e e2;rw[h1,h2,e,e2,m2]
      rw[er];refine List.mem_iff_getElem?.mpr ⟨j-a,?_⟩;unfold dR;rw[getElem?_drop,getElem?_map,show a+(j-a)=j by omega,getElem?_range h];rfl
theorem sC{t:List (Nd S)}{n:Int}(h:cQ t n)(hu:∀m∈t,Und t n m.num):Told t (.drop n) (.inr []):=by
 have:Told t (.drop n) (.inr (t.filter λ_=>false)):=.dropped h λm hm=>by
  constructor
  ·intro h;cases h
  ·intro h;exact absurd (hu m hm) h
 rwa [show t.filter (λ_=>false)=[]by simp]at this
theorem ja:Tree1 ([]:List (Nd S)):=⟨⟨Pairwise.nil,nodup_nil,λn h=>by cases h⟩,λn h=>by cases h⟩
theorem sD{x:Nd S}(h1:1≤x.num)(h0:x.par=0):Tree1 [x]:=made ja (List.Perm.refl _) (List.pairwise_singleton _ _) h1 (.inl h0) λm h=>by cases h
theorem mn{x y:Nd S}{u:List (Nd S)}(h1:1≤x.num)(h0:x.par=0)(hs:x.st=none)(hy:1≤y.num)(hp:y.par=x.num)(hu:u.Perm (y::[x]))(hr:cL u):Tree1 u:=by
 refine made (sD h1 h0) hu hr hy (.inr ⟨x,List.mem_singleton.mpr rfl,hs,hp.symm⟩) λm hm=>?_;have:m=x:=by simpa using hm
 subst this;intro ⟨e,_⟩;omega
theorem mq{x y:Nd S}{u:List (Nd S)}(hp:y.par=x.num)(hu:∀m,m∈u↔m=x∨m=y):Told u (.drop x.num) (.inr []):=by
 refine sC ⟨x,(hu x).mpr (.inl rfl),rfl⟩ λm hm=>?_;rcases (hu m).mp hm with e|e
 ·subst e;exact .here
 ·subst e;exact .up hm (by rw[hp];exact .here)
end
end TW
namespace L2
open PySem PyProof PyProof.Rows
section
variable{X:Cx}{pos:Pos}
def xo(K:PySem.W.Frag)(te:TE)(i j:Nat):TS:=λD σ H=>te σ H λv H1=>∃a y1 y2,v=.ref a∧SqT K H1 a [y1,y2]∧D.nx ((σ.set j (some y2)).set i (some y1)) H1
theorem mr{x1 x2:Str}{p1 p2 tpos:Pos}{k:Nat}{value:Expr}{te:TE}{i j:Nat}(hc:X.calm=true)(hN:X.N.Nodup)(hi:X.N[i]?=some x1)(hj:X.N[j]?=some x2)(hx1:Loc X.env.scope x1)(hx2:Loc X.env.scope x2)(hf1:X.env.scope.names.lookup x1=some .local)(hf2:X.env.scope.names.lookup x2=some .local)(he:PE X value te)(hs:swapsWithSole [.Tuple [.Name x1 p1,.Name x2 p2] k tpos] value pos.line X.env=pure false:=by rfl)(hw:swappedStores [.Tuple [.Name x1 p1,.Name x2 p2] k tpos] value X.env=pure (some [x1,x2]):=by rfl):PS X (.Assign [.Tuple [.Name x1 p1,.Name x2 p2] k tpos] value pos) (xo X.K te i j):=by
 intro pins s σ H D I h;refine Assign_Tuple_swapped (names:=[x1,x2]) (thn (he pins s σ H _ I h) λv s1 ⟨x,H1,I1,r1,q1⟩=>?_) hs hw;obtain⟨a,y1,y2,rfl,hq,q⟩:=q1;cases r1;obtain⟨its,rv,ht,hz⟩:=I1.tuple hq;cases rv with
 |@cons _ u1 _ _ r1 rv=>cases rv with
  |@cons _ u2 _ _ r2 rv=>cases rv with
   |nil =>
    refine unpackItems_tuple (items:=#[u1,u2]) (I1.ok.hd hc) ht λh' hx=>?_;have I2:Inv X pins σ H1 {s1 with heap:=h'}:=I1.kept (t':=s1.toks) λb o e=>hx b o (ne_of_lt (lt_size e)) e
    show wpAny _ _ (assignInOrder [bindName X.env x2,bindName X.env x1] [u2,u1]) _ _ _;refine assignInOrder_cons (wpAny_bindName (eV I2 hN hj hx2 r2 (λs2 I3=>?_) (.inr hf2)));refine assignInOrder_cons (wpAny_bindName (eV I3 hN hi hx1 r1 (λs3 I4=>?_) (.inr hf1)));exact assignInOrder_nil ⟨_,H1,I4,q⟩
end
end L2
namespace TK
open PySem L2
def ltr(z:Str)(i:Nat):Str:=⟨#[z.cps.toList.getD i default]⟩
def sA:Str:="abcdefgh"
def sB:Str:="cdefghijk"
theorem nW{z:Str}{n i:Nat}(hz:z.cps.toList.length=n)(h:i<n):atI z.cps.toList (i:Int)=some (z.cps.toList.getD i default):=ka (by
 rw[getD_eq_getElem?_getD,getElem?_eq_getElem (by omega)];rfl)
theorem pq(z:Str)(i:Nat):(ltr z i).length≤100:=by show 1≤100;decide
def fA(i:Nat):Nd:=⟨(i:Int)+1,0,ltr sA i,some (i:Int)⟩
def fB(o:Int)(i:Nat):Nd:=⟨20+(i:Int),o,ltr sB i,some (i:Int)⟩
def nI(i o:Int):Nd:=⟨i,o,"b",some 7⟩
def nO(o:Int):Nd:=⟨o,0,"a",none⟩
def nF(o:Int):Nd:=⟨o+5,o,"b",none⟩
theorem xZ:∀j,j<8→∀i,i<j→ltr sA i≠ltr sA j:=by decide +kernel
theorem ya:∀j,j<9→∀i,i<j→ltr sB i≠ltr sB j:=by decide +kernel
theorem noB:∀j,j<9→("b":Str)≠ltr sB j:=by decide +kernel
theorem xp:TW.Grows [] fA 8:=⟨TW.ja,λj=>(by show(j:Int)+1<((j+1:Nat):Int)+1;omega),(by decide),λm h=>(by cases h),λj=>.inl rfl,λm h=>(by cases h),λi j h1 h2=>xZ j h2 i h1⟩
theorem uE{i o:Int}(h1:1≤i)(h2:i<o):TW.Tree1 [nI i o,nO o]:=TW.mn (x:=nO o) (y:=nI i o) (by show 1≤o;omega) rfl rfl h1 rfl (List.Perm.refl _) (by
 unfold TW.cL;exact pairwise_cons.mpr ⟨λy hy=>by
  have:y=nO o:=by simpa using hy
  subst this;exact h2,List.pairwise_singleton _ _⟩)
theorem xq{o:Int}(h1:1≤o):TW.Tree1 [nO o,nF o]:=TW.mn (x:=nO o) (y:=nF o) h1 rfl rfl (by show 1≤o+5;omega) rfl (List.Perm.swap _ _ _) (by
 unfold TW.cL;exact pairwise_cons.mpr ⟨λy hy=>by
  have:y=nF o:=by simpa using hy
  subst this;show o<o+5;omega,List.pairwise_singleton _ _⟩)
theorem uF{i o:Int}(h1:1≤i)(h2:i<o)(h3:o≤8):TW.Grows [nI i o,nO o] (fB o) 9:=by
 refine⟨uE h1 h2,λj=>?_,(show(1:Int)≤20+((0:Nat):Int)by decide),λm hm=>?_,λj=>.inr ⟨nO o,by simp,rfl,rfl⟩,λm hm j hj=>?_,λi j h1 h2=>ya j h2 i h1⟩
 ·show 20+(j:Int)<20+((j+1:Nat):Int);omega
 ·have:m=nI i o∨m=nO o:=by simpa using hm
  rcases this with rfl|rfl
  ·show i<20+((0:Nat):Int);omega
  ·show o<20+((0:Nat):Int);omega
 ·have:m=nI i o∨m=nO o:=by simpa using hm
  rcases this with rfl|rfl
  ·exact λh=>noB j hj h.2
  ·intro h;have:(0:Int)=o:=h.1;omega
theorem xr(i o:Int):TW.Told [nI i o,nO o] (.drop o) (.inr []):=TW.mq (x:=nO o) (y:=nI i o) rfl λm=>by simp[or_comm]
theorem xt(o:Int):TW.Told [nO o,nF o] (.drop o) (.inr []):=TW.mq (x:=nO o) (y:=nF o) rfl λm=>by simp
theorem jb{α:Type}(g:Nat→α)(k:Nat):(List.range (k+1)).map g=(List.range k).map g++[g k]:=by rw[range_succ,map_append];rfl
theorem sE{α:Type}{g:Nat→α}{d:α}{n k:Nat}(h:k<n):((List.range n).map g).getD k d=g k:=by
 rw[getD_eq_getElem?_getD,getElem?_map,getElem?_range h];rfl
def LWN:List Str:=["_law_script","_law_inner","_law_outer","_law_old","_law_most","_law_many","_law_watch","_law_reader","_law_k","_law_due"]
theorem jc:FnScope LWN ["_law_script"] (ah dy):=fsc
abbrev LWX(P:Program)(w:World)(K:PySem.W.Frag)(mg:Str→Option Value)(base:Heap)(f:Addr)(cdv:Value)(A:Around)(outer:List Env)(s:Shared)(H:Hp)(E:XK):Cx:=(ic CX0 P w K mg base LWN "law" (ah dy) f cdv A outer s H E).nox
def lwS(i:Nat):Stmt:=(bn dy).getD i (.Pass ⟨0,0,0,0⟩)
abbrev lwσ(a:Addr)(x1 x2 x3 x4 x5 x6 x7 x8 x9:Option V):St:=[some (.ref a),x1,x2,x3,x4,x5,x6,x7,x8,x9]
theorem le4:4≤sizeLine:=au (by decide)
section
variable{P:Program}{w:World}{K:PySem.W.Frag}{mg:Str→Option Value}{base:Heap}{f C:Addr}{cdv:Value}{A:Around}{outer:List Env}{s:Shared}{H0:Hp}{E:XK}
theorem lw0(hr:Room 5 (A.deeper (PyProof.Rows.envOfC "law" (ah dy) s.heap.objs.size f cdv)))(CP:Has P w K mg base 2 "_law_pick" ["_law_script","_law_k","_law_many"] (iZ K)):
  ∃rd,PS (LWX P w K mg base f cdv A outer s H0 E) (lwS 0) rd∧∀(D:Ends)(H:Hp)(a:Addr)(x1 x2 x3 x4 x5 x6 x7 x8 x9:Option V),gM K H a→(∀i o H',Same H H'→1≤i→i≤4→5≤o→o≤8→D.nx (lwσ a (some (.int i)) (some (.int o)) x3 x4 x5 x6 x7 x8 x9) H')→rd D (lwσ a x1 x2 x3 x4 x5 x6 x7 x8 x9) H:=by
 obtain⟨fP,fdP,GP,mP,kP,bP⟩:=CP;have hr2:Room 2 _:=hr.mono (by decide);refine⟨_,qi (aA (aa (aU cf ak (al GP hr2 rfl mP kP bP .nil aI (aa (pv 0) (aa ak (aa ak ae))))) (aa (aU cf ak (al GP hr2 rfl mP kP bP .nil aI (aa (pv 0) (aa ak (aa ak ae))))) ae)))
  (uP (n:=2) rfl (lc (aE (i:=1) jc.nd rfl (Or.inl rfl)) (lc (aE (i:=2) jc.nd rfl (Or.inr rfl)) sG))),?_⟩
 intro D H a x1 x2 x3 x4 x5 x6 x7 x8 x9 hS q;refine⟨_,rfl,a,_,_,rfl,by decide,by decide,hS,λr1 H1 p0 p1 s1=>⟨_,_,rfl,rfl,?_⟩⟩;refine⟨_,rfl,a,_,_,rfl,by decide,by decide,hS.same s1,λr2 H2 q0 q1 s2=>⟨_,_,rfl,rfl,le2,λt ht=>?_⟩⟩;exact⟨t,_,rfl,SqT.of ac,rfl,_,_,rfl,_,_,rfl,rfl,q _ _ _ ((s1.trans s2).trans (ag ht)) (by omega) (by omega) (by omega) (by omega)⟩
theorem lw1:∃rd,PS (LWX P w K mg base f cdv A outer s H0 E) (lwS 1) rd∧∀(D:Ends)(H:Hp)(a:Addr)(i o:Int)(x3 x4 x5 x6 x7 x8 x9:Option V),1≤i→i<o →
  (∀t r1 r2 H',Same H H'→Tre H' t [(r1,nI i o),(r2,nO o)]→D.nx (lwσ a (some (.int i)) (some (.int o)) (some (.ref t)) x4 x5 x6 x7 x8 x9) H')→rd D (lwσ a (some (.int i)) (some (.int o)) x3 x4 x5 x6 x7 x8 x9) H:=by
 refine⟨_,ao (i:=3) jc.nd rfl (Or.inl rfl) (aA (aa (aA (aa (pv 1) (aa (pv 2) (aa aR (aa ak ae))))) (aa (aA (aa (pv 2) (aa ak (aa aR (aa cb ae))))) ae))),?_⟩;intro D H a i o x3 x4 x5 x6 x7 x8 x9 h1 h2 q;refine⟨_,rfl,_,rfl,le4,λr1 hr1=>⟨_,rfl,le4,λr2 hr2=>⟨le2,λt ht=>?_⟩⟩⟩;have g1:upd H r1 (.tup [.int i,.int o,.str "b",.int 7]) r1=some (.tup (vals (nI i o))):=ac;have s1:=ag (o:=.tup [.int i,.int o,.str "b",.int 7]) hr1;have g2:upd (upd H r1 (.tup [.int i,.int o,.str "b",.int 7])) r2 (.tup [.int o,.int 0,.str "a",.non]) r2=some (.tup (vals (nO o))):=ac;have s2:=ag (o:=.tup [.int o,.int 0,.str "a",.non]) hr2;have s3:=ag (o:=.tup [.ref r1,.ref r2]) ht;refine q t r1 r2 _ ((s1.trans s2).trans s3) ⟨ac,λz hz=>?_,uE h1 h2,(show 2≤30 by decide)⟩;have:z=(r1,nI i o)∨z=(r2,nO o):=by simpa using hz
 rcases this with rfl|rfl
 ·exact s3 _ _ (s2 _ _ g1)
 ·exact s3 _ _ g2
theorem jN{H:Hp}{r1 r2:Addr}{n:Int}(h1:H r1=some (.tup [.str "drop",.int n]))(h2:H r2=some (.tup [.str "drop",.int n])):da H [.ref r1] [.ref r2]:=⟨rfl,λi x y hx hy=>by
 match i,hx,hy with
 |0,hx,hy =>
  cases hx;cases hy;refine .inr ⟨r1,r2,_,_,rfl,rfl,h1,h2,rfl,λj x y hx hy=>?_⟩
  match j,hx,hy with
  |0,hx,hy=>cases hx;cases hy;exact bx ⟨rfl,rfl⟩
  |1,hx,hy=>cases hx;cases hy;exact bx ⟨rfl,rfl⟩
  |j+2,hx,hy=>simp at hx
 | i+1,hx,hy=>simp at hx⟩
theorem lw2(hr:Room 5 (A.deeper (PyProof.Rows.envOfC "law" (ah dy) s.heap.objs.size f cdv)))(CI:Has P w K mg base 5 "in_steps" ["old","new"] lQ):
  ∃rd,PS (LWX P w K mg base f cdv A outer s H0 E) (lwS 2) rd∧∀(D:Ends)(H:Hp)(a t r1 r2:Addr)(i o:Int)(x1 x4 x5 x6 x7 x8 x9:Option V),5≤o→o≤8→Tre H t [(r1,nI i o),(r2,nO o)] →
   (∀H',Same H H'→D.nx (lwσ a x1 (some (.int o)) (some (.ref t)) x4 x5 x6 x7 x8 x9) H')→rd D (lwσ a x1 (some (.int o)) (some (.ref t)) x4 x5 x6 x7 x8 x9) H:=by
 obtain⟨fI,fdI,GI,mI,kI,bI⟩:=CI;have hu4:=iG hr;refine⟨_,aZ (am (eO hu4) (al GI hr rfl mI kI bI .nil aI (aa (pv 3) (aa (aA ae) ae))) (cw (aa (aA (aa aR (aa (pv 2) ae))) ae)) (ay _)) (aj (av ji)) aD,?_⟩;intro D H a t r1 r2 i o x1 x4 x5 x6 x7 x8 x9 h1 h2 T q;refine⟨_,rfl,zero_le _,λu hu=>?_⟩;have s1:=ag (o:=.tup []) hu;have gu:upd H u (.tup []) u=some (.tup []):=ac;generalize upd H u (.tup [])=H1 at s1 gu⊢;refine⟨t,u,_,(r2,nO o),rfl,T.same s1,(show 2≤29 by decide),gu,by simp,rfl,λz hz hp=>?_,⟨by show 1≤o;omega,by show o≤60;omega⟩,xr i o,λl r H2 s2 hl hr'=>?_⟩
 ·have:z=(r1,nI i o)∨z=(r2,nO o):=by simpa using hz
  rcases this with rfl|rfl
  ·have:o=0:=hp;omega
  ·rfl
 refine⟨_,rfl,le2,λr3 hr3=>⟨(show 1≤sizeLine from au (by decide)),λl2 hl2=>?_⟩⟩;have s3:=ag (o:=.tup [.str "drop",.int o]) hr3;have g3:upd H2 r3 (.tup [.str "drop",.int o]) r3=some (.tup [.str "drop",.int o]):=ac;generalize upd H2 r3 (.tup [.str "drop",.int o])=H3 at s3 g3 hl2⊢;have s4:=ag (o:=.lst [.ref r3]) hl2;refine .inr ⟨l,l2,_,_,rfl,rfl,jN (s4 _ _ (s3 _ _ hr')) (s4 _ _ g3),.inl ⟨s4 _ _ (s3 _ _ hl),ac⟩,_,rfl,aP (q _ (((s1.trans s2).trans s3).trans s4))⟩
theorem lw3(hr:Room 5 (A.deeper (PyProof.Rows.envOfC "law" (ah dy) s.heap.objs.size f cdv)))(CI:Has P w K mg base 5 "in_steps" ["old","new"] lQ):
  ∃rd,PS (LWX P w K mg base f cdv A outer s H0 E) (lwS 3) rd∧∀(D:Ends)(H:Hp)(a:Addr)(o:Int)(x1 x3 x4 x5 x6 x7 x8 x9:Option V),5≤o→o≤8 →
   (∀H',Same H H'→D.nx (lwσ a x1 (some (.int o)) x3 x4 x5 x6 x7 x8 x9) H')→rd D (lwσ a x1 (some (.int o)) x3 x4 x5 x6 x7 x8 x9) H:=by
 obtain⟨fI,fdI,GI,mI,kI,bI⟩:=CI;have hu4:=iG hr;refine⟨_,aZ (am (eO hu4) (al GI hr rfl mI kI bI .nil aI (aa (aA (aa (aA (aa (pv 2) (aa ak (aa aR (aa cb ae))))) (aa (aA (aa (aU cf (pv 2) ak) (aa (pv 2) (aa aR (aa cb ae))))) ae))) (aa (aA ae) ae))) (cw (aa (aA (aa aR (aa (pv 2) ae))) ae)) (ay _)) (aj (av ji)) aD,?_⟩;intro D H a o x1 x3 x4 x5 x6 x7 x8 x9 h1 h2 q;refine⟨_,rfl,le4,λr1 hr1=>⟨_,rfl,_,_,rfl,rfl,_,rfl,le4,λr2 hr2=>⟨le2,λt ht=>⟨zero_le _,λu hu=>?_⟩⟩⟩⟩;have g1:upd H r1 (.tup [.int o,.int 0,.str "a",.non]) r1=some (.tup (vals (nO o))):=ac;have s1:=ag (o:=.tup [.int o,.int 0,.str "a",.non]) hr1;generalize upd H r1 (.tup [.int o,.int 0,.str "a",.non])=H1 at s1 g1 hr2 ht hu⊢;have g2:upd H1 r2 (.tup [.int (o+5),.int o,.str "b",.non]) r2=some (.tup (vals (nF o))):=ac;have s2:=ag (o:=.tup [.int (o+5),.int o,.str "b",.non]) hr2;generalize upd H1 r2 (.tup [.int (o+5),.int o,.str "b",.non])=H2 at s2 g2 ht hu⊢;have g3:upd H2 t (.tup [.ref r1,.ref r2]) t=some (.tup (aN [(r1,nO o),(r2,nF o)])):=ac;have s3:=ag (o:=.tup [.ref r1,.ref r2]) ht;generalize upd H2 t (.tup [.ref r1,.ref r2])=H3 at s3 g3 hu⊢;have s4:=ag (o:=.tup []) hu;have gu:upd H3 u (.tup []) u=some (.tup []):=ac;generalize upd H3 u (.tup [])=H4 at s4 gu⊢;have T:Tre H4 t [(r1,nO o),(r2,nF o)]:=⟨s4 _ _ g3,λz hz=>by
  have:z=(r1,nO o)∨z=(r2,nF o):=by simpa using hz
  rcases this with rfl|rfl
  ·exact s4 _ _ (s3 _ _ (s2 _ _ g1))
  ·exact s4 _ _ (s3 _ _ g2),xq (by omega),(show 2≤30 by decide)⟩
 refine⟨t,u,_,(r1,nO o),rfl,T,(show 2≤29 by decide),gu,by simp,rfl,λz hz hp=>?_,⟨by show 1≤o;omega,by show o≤60;omega⟩,xt o,λl r H5 s5 hl hr'=>?_⟩
 ·have:z=(r1,nO o)∨z=(r2,nF o):=by simpa using hz
  rcases this with rfl|rfl
  ·rfl
  ·have:o=0:=hp;omega
 refine⟨_,rfl,le2,λr3 hr3=>⟨(show 1≤sizeLine from au (by decide)),λl2 hl2=>?_⟩⟩;have s6:=ag (o:=.tup [.str "drop",.int o]) hr3;have g6:upd H5 r3 (.tup [.str "drop",.int o]) r3=some (.tup [.str "drop",.int o]):=ac;generalize upd H5 r3 (.tup [.str "drop",.int o])=H6 at s6 g6 hl2⊢;have s7:=ag (o:=.lst [.ref r3]) hl2;refine .inr ⟨l,l2,_,_,rfl,rfl,jN (s7 _ _ (s6 _ _ hr')) (s7 _ _ g6),.inl ⟨s7 _ _ (s6 _ _ hl),ac⟩,_,rfl,aP (q _ ((((((s1.trans s2).trans s3).trans s4).trans s5).trans s6).trans s7))⟩
theorem lw4(hr:Room 5 (A.deeper (PyProof.Rows.envOfC "law" (ah dy) s.heap.objs.size f cdv)))(CP:Has P w K mg base 2 "_law_pick" ["_law_script","_law_k","_law_many"] (iZ K)):
  ∃rd,PS (LWX P w K mg base f cdv A outer s H0 E) (lwS 4) rd∧∀(D:Ends)(H:Hp)(a:Addr)(x1 x2 x3 x4 x5 x6 x7 x8 x9:Option V),gM K H a→(∀(m n:Nat) H',Same H H'→m≤2→5≤n→n≤8→D.nx (lwσ a x1 x2 x3 (some (.int m)) (some (.int n)) x6 x7 x8 x9) H')→rd D (lwσ a x1 x2 x3 x4 x5 x6 x7 x8 x9) H:=by
 obtain⟨fP,fdP,GP,mP,kP,bP⟩:=CP;have hr2:Room 2 _:=hr.mono (by decide);refine⟨_,mr (i:=4) (j:=5) rfl jc.nd rfl rfl (Or.inl rfl) (Or.inl rfl) rfl rfl (aA (aa (al GP hr2 rfl mP kP bP .nil aI (aa (pv 0) (aa ak (aa ak ae)))) (aa (aU cf ak (al GP hr2 rfl mP kP bP .nil aI (aa (pv 0) (aa ak (aa ak ae))))) ae))),?_⟩;intro D H a x1 x2 x3 x4 x5 x6 x7 x8 x9 hS q;refine⟨_,rfl,a,_,_,rfl,by decide,by decide,hS,λr1 H1 p0 p1 s1=>?_⟩;refine⟨_,rfl,a,_,_,rfl,by decide,by decide,hS.same s1,λr2 H2 q0 q1 s2=>⟨_,_,rfl,rfl,le2,λt ht=>?_⟩⟩;obtain⟨m,rfl⟩:∃m:Nat,r1=m:=⟨r1.toNat,by omega⟩;obtain⟨n,hn⟩:∃n:Nat,5+r2=n:=⟨(5+r2).toNat,by omega⟩;dsimp only;rw[hn];exact⟨t,_,_,rfl,SqT.of ac,q m n _ ((s1.trans s2).trans (ag ht)) (by omega) (by omega) (by omega)⟩
end
def mkD(n:Nd):TW.Deed Str:=.make n.num n.par n.nm n.st
structure Gro(C:Addr)(pre:List Nd)(g:Nat→Nd)(c:Nat)(H H':Hp)(p kl ml:Addr)(m:Int)(ms:List Int)(i:Nat)(t:Addr)(z:ZN)(ks:List (Addr×ZR))(M:List Int):Prop where
 wat:WAt C H' p kl ml t z m i ks ms
 eq:nds z=TW.grow pre g i
 past:Past ((List.range (i+1)).map (TW.grow pre g)) (nds z) m ks M
 few:M.length≤c+i
 ts:aW H H'
section
variable{C p kl ml t:Addr}{pre:List Nd}{g:Nat→Nd}{c b i:Nat}{H H' H'':Hp}{m:Int}{ms:List Int}{z:ZN}{ks:List (Addr×ZR)}{M:List Int}
theorem Gro.same(h:Gro C pre g c H H' p kl ml m ms i t z ks M)(s:Same H' H''):Gro C pre g c H H'' p kl ml m ms i t z ks M:=⟨h.wat.same s,h.eq,h.past,h.few,h.ts.trans (gP s)⟩
theorem Gro.klen(h:Gro C pre g c H H' p kl ml m ms i t z ks M):(ks.length:Int)=min (i:Int) m:=by
 have:=h.past.len;rw[length_map,length_range]at this;omega
theorem Gro.zlen(h:Gro C pre g c H H' p kl ml m ms i t z ks M):z.length=pre.length+i:=by
 rw[←aY,h.eq,TW.sy]
theorem Gro.start(hm:0≤m)(W:WAt C H' p kl ml t z m 0 [] ms)(e:nds z=pre)(ts:aW H H'):Gro C pre g pre.length H H' p kl ml m ms 0 t z [] (pre.map (·.num)):=by
 refine⟨W,by rw[e];unfold TW.grow;simp,⟨Nat.zero_lt_one,hm,?_,?_,λj x hj=>by simp at hj,λt ht n hn=>?_⟩,by rw[length_map];exact le_refl _,ts⟩
 ·show(0:Int)=min ((1:Int)-1) m;omega
 ·show some (TW.grow pre g 0)=some (nds z);rw[e];unfold TW.grow;simp
 ·have:t=TW.grow pre g 0:=by simpa using ht
  rw[this]at hn;unfold TW.grow at hn;exact mem_map.mpr ⟨n,by simpa using hn,rfl⟩
theorem Gro.step{d:Addr}{cls:TW.Wd→Addr}{Q:VK}{E:XK}(G:TW.Grows pre g b)(hi:i<b)(hb:pre.length+b≤29)(h:Gro C pre g c H H' p kl ml m ms i t z ks M)(hd:H' d=some (.tup (jF (mkD (g i)))))(ok:cR (mkD (g i)))(q:∀H'' t' z' ks' M',Gro C pre g c H H'' p kl ml m ms (i+1) t' z' ks' M'→Q .non H''):dZ C cls [.ref p,.ref d] H' Q E:=by
 have hz:=h.zlen;have hk:=h.klen;have told:=G.told hi (G.tree (le_of_lt hi));rw[←h.eq]at told;refine⟨p,kl,ml,t,z,m,i,ks,ms,d,mkD (g i),rfl,h.wat,by omega,by omega,h.past.m0,hd,ok,λt' us cc es H2 told2 hch W of tS=>?_,λwd H2 s2 told2=>absurd (told.one h.wat.tr.tr told2) (by intro h;cases h)⟩;have eu:TW.grow pre g (i+1)=nds us:=by
  have:=told.one h.wat.tr.tr told2;injection this
 refine q H2 t' us (eG m (ks++[(cc,es)])) ((g i).num::M) ⟨?_,eu.symm,?_,by rw[length_cons];have:=h.few;omega,h.ts.trans tS⟩
 ·rw[show((i+1:Nat):Int)=(i:Int)+1 by omega];exact W
 ·rw[jb,eu];refine h.past.next (c:=cc) hch λn hn=>?_;rw[←eu,TW.gD]at hn;rcases mem_append.mp hn with hn|hn
  ·refine mem_cons_of_mem _ (h.past.num (nds z) ?_ n (by rw[h.eq];exact hn));exact mem_of_getElem? h.past.last
  ·have:n=g i:=by simpa using hn
   rw[this];exact mem_cons_self
theorem Gro.hist(h:Gro C pre g c H H' p kl ml m ms i t z ks M)(hc:c+i≤30):Hist ks (λj=>((List.range (i+1)).map (TW.grow pre g)).getD (((List.range (i+1)).map (TW.grow pre g)).length-1-ks.length+j) []) M:=h.past.hist (by have:=h.few;omega)
theorem Gro.uAt(h:Gro C pre g c H H' p kl ml m ms i t z ks M){j:Nat}(hj:i-ks.length+j≤i):((List.range (i+1)).map (TW.grow pre g)).getD (((List.range (i+1)).map (TW.grow pre g)).length-1-ks.length+j) []=TW.grow pre g (i-ks.length+j):=by
 rw[length_map,length_range,Nat.add_sub_cancel];exact sE (by omega)
end
section
variable{P:Program}{w:World}{K:PySem.W.Frag}{mg:Str→Option Value}{base:Heap}{f C fI fQ fD fR fN fS CM CR:Addr}{cdv:Value}{A:Around}{outer:List Env}{s:Shared}{H0:Hp}{E:XK}{cls:TW.Wd→Addr}{fdI fdB fdD fdR fdN fdS:FuncData}
theorem lw5(TC:WCls K mg C)(hr:Room 5 (A.deeper (PyProof.Rows.envOfC "law" (ah dy) s.heap.objs.size f cdv)))(M:Mk K C fI)(GI:FnOk P w K mg base CX0 1 fI fdI ["self","tree","most"] (iV C))(bI:aG K fdI ["self","tree","most"] []):
  ∃rd,PS (LWX P w K mg base f cdv A outer s H0 E) (lwS 5) rd∧∀(D:Ends)(H:Hp)(a:Addr)(m:Int)(x1 x2 x3 x5 x6 x7 x8 x9:Option V),
   (∀p kl ml t H',Same H H'→WAt C H' p kl ml t [] m 0 [] []→D.nx (lwσ a x1 x2 x3 (some (.int m)) x5 (some (.ref p)) (some (.int 0)) x8 x9) H')→rd D (lwσ a x1 x2 x3 (some (.int m)) x5 x6 x7 x8 x9) H:=by
 have hr2:Room 2 _:=hr.mono (by decide);refine⟨_,mr (i:=6) (j:=7) rfl jc.nd rfl rfl (Or.inl rfl) (Or.inl rfl) rfl rfl (aA (aa (ow M GI hr2 rfl TC.mgC bI .nil aI (aa (aA ae) (aa (pv 4) ae))) (aa ak ae))),?_⟩;intro D H a m x1 x2 x3 x5 x6 x7 x8 x9 q;refine⟨zero_le _,λt ht=>?_⟩;have s1:=ag (o:=.tup []) ht;have T1:Tre (upd H t (.tup [])) t []:=⟨ac,iM _,TW.ja,zero_le _⟩;generalize upd H t (.tup [])=H1 at s1 T1⊢;refine⟨_,rfl,λp dx hpn hdn hdp=>?_⟩;have s2:Same H1 (upd (upd H1 dx (.own p)) p (.ins C dx [])):=λb o e=>by
  rw[ai (aq e hpn),ai (aq e hdn)];exact e
 refine⟨p,dx,t,[],m,rfl,ac,T1.same s2,λkl ml H2 hkl hml W of=>⟨rfl,?_⟩⟩;have s3:Same H1 H2:=λb o e=>of _ _ (s2 _ _ e) (by simpa using aq e hpn);refine⟨le2,λr hr'=>?_⟩;have s4:=ag (o:=.tup [.ref p,.int 0]) hr';exact⟨r,_,_,rfl,SqT.of ac,q p kl ml t _ ((s1.trans s3).trans s4) (W.same s4)⟩
theorem lw6(TC:WCls K mg C)(hr:Room 5 (A.deeper (PyProof.Rows.envOfC "law" (ah dy) s.heap.objs.size f cdv)))(GB:FnOk P w K mg base CX0 1 fQ fdB ["self"] (iY C))(mB:Meth K C "reader" fQ)(bB:aG K fdB ["self"] []):
  ∃rd,PS (LWX P w K mg base f cdv A outer s H0 E) (lwS 6) rd∧∀(D:Ends)(H:Hp)(a p kl ml t:Addr)(z:ZN)(m dn:Int)(ks:List (Addr×ZR))(x1 x2 x3 x4 x5 x7 x8 x9:Option V),WAt C H p kl ml t z m dn ks [] →
   (∀H',WAt C H' p kl ml t z m dn ks [dn]→aW H H'→D.nx (lwσ a x1 x2 x3 x4 x5 (some (.ref p)) (some (.int 0)) x8 x9) H')→rd D (lwσ a x1 x2 x3 x4 x5 (some (.ref p)) x7 x8 x9) H:=by
 have hr1:Room 1 _:=hr.mono (by decide);refine⟨_,ao (i:=7) jc.nd rfl (Or.inl rfl) (eX (pv 6) TC.cl mB GB hr1 bB .nil aI),?_⟩;intro D H a p kl ml t z m dn ks x1 x2 x3 x4 x5 x7 x8 x9 W q;obtain⟨dx,hp⟩:=W.ob;exact⟨_,rfl,p,dx,_,rfl,hp,cJ (by decide +kernel) (by decide +kernel) (by decide +kernel) (by decide +kernel) (by decide +kernel),p,kl,ml,t,z,m,_,ks,[],rfl,W,by decide,λH2 W2 of2 t2=>q _ W2 t2⟩
theorem lw7(T:Txt mg)(TC:WCls K mg C)(hr:Room 5 (A.deeper (PyProof.Rows.envOfC "law" (ah dy) s.heap.objs.size f cdv)))(GD:FnOk P w K mg base (CX1 P w) 5 fD fdD ["self","deed"] (dZ C cls))(mD:Meth K C "deed" fD)(bD:aG K fdD ["self","deed"] []):
  ∃rd,PS (LWX P w K mg base f cdv A outer s H0 E) (lwS 7) rd∧∀(D:Ends)(H:Hp)(a p kl ml t:Addr)(m:Nat)(x1 x2 x3 x5 x7 x8 x9:Option V),m≤2→WAt C H p kl ml t [] m 0 [] [0] →
   (∀t z ks M x8 H',Gro C [] fA 0 H H' p kl ml m [0] (m+1) t z ks M→D.nx (lwσ a x1 x2 x3 (some (.int m)) x5 (some (.ref p)) x7 x8 x9) H')→rd D (lwσ a x1 x2 x3 (some (.int m)) x5 (some (.ref p)) x7 x8 x9) H:=by
 refine⟨_,ce PassesOwn.never rfl (gf rfl T.range (aa (aU cf (pv 4) ak) ae)) (aE (i:=8) jc.nd rfl (Or.inl rfl)) (aj (aT (cy (pv 6) TC.cl mD GD hr bD .nil fu (aa (aA (aa aR (aa (aU cf (pv 8) ak) (aa ak (aa (aC nc aR (pv 8) (λ_ _=>rfl)) (aa (pv 8) ae)))))) ae)))),?_⟩;intro D H a p kl ml t m x1 x2 x3 x5 x7 x8 x9 hm W q;refine⟨_,rfl,_,_,rfl,rfl,_,rfl,by omega,by omega,?_⟩;refine jj (n:=((m:Int)+1).toNat) (λi σ H'=>∃t z ks M x8,σ=lwσ a x1 x2 x3 (some (.int m)) x5 (some (.ref p)) x7 x8 x9∧Gro C [] fA 0 H H' p kl ml m [0] i t z ks M) ⟨t,[],_,_,_,rfl,Gro.start (by omega) W rfl (aW.refl _)⟩ (λi σ H' hi h=>?_) (λσ H' h=>?_)
 ·obtain⟨t,z,ks,M,x8,rfl,G⟩:=h;rw[show(0:Int)+(i:Int)=((i:Nat):Int)by omega];obtain⟨dx,hp⟩:=G.wat.ob;refine⟨_,rfl,p,dx,_,rfl,hp,cJ (by decide +kernel) (by decide +kernel) (by decide +kernel) (by decide +kernel) (by decide +kernel),_,rfl,_,_,rfl,rfl,_,rfl,sA,_,_,rfl,rfl,au (by decide +kernel),nW (n:=8) (by decide +kernel) (by omega),_,rfl,au (show 5≤1000 by decide),λd hd=>?_⟩;have s1:=ag (o:=.tup (jF (mkD (fA i)))) hd;dsimp only[eI,append_nil];refine(G.same s1).step xp (by omega) (by decide) ac ⟨by show 1≤(i:Int)+1;omega,by show(i:Int)+1≤60;omega,by show(0:Int)≤0;omega,by show(0:Int)≤60;omega,pq _ _⟩ λH2 t' z' ks' M' G'=>?_;exact⟨t',z',ks',M',_,rfl,G'⟩
 ·obtain⟨t,z,ks,M,x8,rfl,G⟩:=h;rw[show((m:Int)+1).toNat=m+1 by omega]at G;exact q t z ks M x8 H' G
theorem mt{H:Hp}{z:Addr×Nd}(h:H z.1=some (.tup (vals z.2))):eD H 2 (.ref z.1) (.ref z.1):=.inr ⟨z.1,z.1,vals z.2,vals z.2,rfl,rfl,h,h,rfl,nR H z.2 1⟩
theorem mv{H:Hp}{t:Addr}{z:ZN}(T:Tre H t z):eD H 3 (.ref t) (.ref t):=.inr ⟨t,t,aN z,aN z,rfl,rfl,T.tup,T.tup,rfl,λi x y hx hy=>by
 obtain⟨u,hu,rfl⟩:=cr hx;rw[hx]at hy;have e:=Option.some.inj hy;rw[←e];exact mt (T.nod u (mem_of_getElem? hu))⟩
theorem gE{H:Hp}{x:Str}{v u:V}(h:eD H 3 v u):da H [.str x,v] [.str x,u]:=⟨rfl,λi a b ha hb=>by
 match i,ha,hb with
 |0,ha,hb=>cases ha;cases hb;exact bx ⟨rfl,rfl⟩
 |1,ha,hb=>cases ha;cases hb;exact h
 | i+2,ha,hb=>simp at ha⟩
theorem jd{H:Hp}{c e:Addr}(h1:H c=some (.tup []))(h2:H e=some (.tup [])):eD H 3 (.ref c) (.ref e):=.inr ⟨c,e,[],[],rfl,rfl,h1,h2,rfl,λi x y h=>by simp at h⟩
theorem lw8(TC:WCls K mg C)(hr:Room 5 (A.deeper (PyProof.Rows.envOfC "law" (ah dy) s.heap.objs.size f cdv)))(GR:FnOk P w K mg base (CX1 P w) 4 fR fdR ["self","number"] (fY C CR))(mR:Meth K C "read" fR)(bR:aG K fdR ["self","number"] [])(GN:FnOk P w K mg base CX0 1 fN fdN ["self"] (iW C))(mN:Meth K C "now" fN)(bN:aG K fdN ["self"] []):
  ∃rd,PS (LWX P w K mg base f cdv A outer s H0 E) (lwS 8) rd∧∀(D:Ends)(H1 H:Hp)(a p kl ml t:Addr)(z:ZN)(m:Nat)(ks:List (Addr×ZR))(M:List Int)(x1 x2 x3 x4 x5 x8 x9:Option V),m≤2→Gro C [] fA 0 H1 H p kl ml m [0] (m+1) t z ks M →
   (∀H',aW H H'→D.nx (lwσ a x1 x2 x3 x4 x5 (some (.ref p)) (some (.int 0)) x8 x9) H')→rd D (lwσ a x1 x2 x3 x4 x5 (some (.ref p)) (some (.int 0)) x8 x9) H:=by
 have hr4:Room 4 _:=hr.mono (by decide);have hr1:Room 1 _:=hr.mono (by decide);have hu4:=iG hr;refine⟨_,aZ (PW.pt (pw_or (am (eO hu4) (cy (pv 6) TC.cl mR GR hr4 bR .nil fu (aa (pv 7) ae)) (aA (aa aR (aa (eX (pv 6) TC.cl mN GN hr1 bN .nil aI) ae))) (ay _))
  (pw_or1 (am (eO hu4) (cy (pv 6) TC.cl mR GR hr4 bR .nil fu (aa (pv 7) ae)) (aA (aa aR (aa (aA ae) ae))) (ay _))))) (aj (av ji)) aD,?_⟩
 intro D H1 H a p kl ml t z m ks M x1 x2 x3 x4 x5 x8 x9 hm G q;have hk:=G.klen;have hi:=G.hist (by omega);obtain⟨dx,hp⟩:=G.wat.ob;refine⟨_,rfl,p,dx,_,rfl,hp,cJ (by decide +kernel) (by decide +kernel) (by decide +kernel) (by decide +kernel) (by decide +kernel),_,rfl,p,kl,ml,t,z,m,_,ks,[0],0,_,M,rfl,G.wat,hi,by omega,by decide,by decide,by omega,λx hx=>?_,λh=>?_,λk mark ek hmk=>⟨λhl q' H2 W2 of ts hq=>?_,λj hl q' c es H2 W2 of ts hc hch hq=>?_⟩⟩
 ·have:x=0:=by simpa using hx
  omega
 ·have:([(0:Int)].length:Int)=1:=rfl;omega
 ·obtain rfl:k=0:=by omega
  have W2':WAt C H2 p kl ml t z m ((m+1:Nat):Int) ks [((m+1:Nat):Int)]:=W2;obtain⟨dx2,hp2⟩:=W2.ob;refine⟨_,rfl,p,dx2,_,rfl,hp2,cJ (by decide +kernel) (by decide +kernel) (by decide +kernel) (by decide +kernel) (by decide +kernel),p,kl,ml,t,z,m,_,ks,_,rfl,W2,le2,λq2 hq2=>?_⟩;have s3:=ag (o:=.tup [.str "tree",.ref t]) hq2;refine .inr ⟨q',q2,_,_,rfl,rfl,gE (mv (W2.tr.same s3)),.inr ⟨s3 _ _ hq,ac⟩,_,rfl,aP ?_⟩;have W3:=W2'.same s3;have t3:=ts.trans (gP s3);generalize upd H2 q2 (.tup [.str "tree",.ref t])=H3 at W3 t3⊢;obtain⟨dx3,hp3⟩:=W3.ob;refine⟨_,rfl,p,dx3,_,rfl,hp3,cJ (by decide +kernel) (by decide +kernel) (by decide +kernel) (by decide +kernel) (by decide +kernel),_,rfl,p,kl,ml,t,z,m,_,ks,_,0,_,M,rfl,W3,hi,by omega,by decide,by decide,by omega,λx hx=>?_,λh=>?_,λk mark ek hmk=>⟨λhl q' H4 W4 of4 ts4 hq4=>?_,λj hl q' c es H4 W4 of4 ts4 hc hch hq4=>?_⟩⟩
  ·have:x=((m+1:Nat):Int):=by simpa using hx
   omega
  ·have:([((m+1:Nat):Int)].length:Int)=1:=rfl;omega
  ·obtain rfl:k=0:=by omega
   have em:((m+1:Nat):Int)=mark:=Option.some.inj hmk;omega
  ·obtain rfl:k=0:=by omega
   have em:((m+1:Nat):Int)=mark:=Option.some.inj hmk;have ej:j=ks.length:=by omega
   subst ej;have ee:es=[]:=List.map_eq_nil_iff.mp (show aL es=[]from hch.nil);subst ee;refine⟨zero_le _,λe0 he0=>?_⟩;have s6:=ag (o:=.tup []) he0;have g6:upd H4 e0 (.tup []) e0=some (.tup []):=ac;generalize upd H4 e0 (.tup [])=H6 at s6 g6⊢;refine⟨le2,λq2 hq2=>?_⟩;have s7:=ag (o:=.tup [.str "change",.ref e0]) hq2;have s67:=s6.trans s7;refine .inr ⟨q',q2,_,_,rfl,rfl,gE (jd (s67 _ _ hc.tup) (s7 _ _ g6)),.inr ⟨s67 _ _ hq4,ac⟩,_,rfl,aP (q _ ((t3.trans ts4).trans (gP s67)))⟩
 ·obtain rfl:k=0:=by omega
  have em:(0:Int)=mark:=Option.some.inj hmk;omega
theorem lw9(TC:WCls K mg C)(hr:Room 5 (A.deeper (PyProof.Rows.envOfC "law" (ah dy) s.heap.objs.size f cdv)))(M:Mk K C fI)(GI:FnOk P w K mg base CX0 1 fI fdI ["self","tree","most"] (iV C))(bI:aG K fdI ["self","tree","most"] []):
  ∃rd,PS (LWX P w K mg base f cdv A outer s H0 E) (lwS 9) rd∧∀(D:Ends)(H:Hp)(a t:Addr)(z:ZN)(x1 x2 x4 x5 x6 x7 x8 x9:Option V),Tre H t z →
   (∀p kl ml H',Same H H'→WAt C H' p kl ml t z 20 0 [] []→D.nx (lwσ a x1 x2 (some (.ref t)) x4 x5 (some (.ref p)) x7 x8 x9) H')→rd D (lwσ a x1 x2 (some (.ref t)) x4 x5 x6 x7 x8 x9) H:=by
 have hr2:Room 2 _:=hr.mono (by decide);refine⟨_,ao (i:=6) jc.nd rfl (Or.inl rfl) (ow M GI hr2 rfl TC.mgC bI .nil aI (aa (pv 3) (aa ak ae))),?_⟩;intro D H a t z x1 x2 x4 x5 x6 x7 x8 x9 T q;refine⟨_,rfl,λp dx hpn hdn hdp=>?_⟩;have s2:Same H (upd (upd H dx (.own p)) p (.ins C dx [])):=λb o e=>by
  rw[ai (aq e hpn),ai (aq e hdn)];exact e
 refine⟨p,dx,t,z,20,rfl,ac,T.same s2,λkl ml H2 hkl hml W of=>⟨rfl,?_⟩⟩;exact q p kl ml H2 (λb o e=>of _ _ (s2 _ _ e) (by simpa using aq e hpn)) W
theorem yb(T:Txt mg)(TC:WCls K mg C)(hr:Room 5 (A.deeper (PyProof.Rows.envOfC "law" (ah dy) s.heap.objs.size f cdv)))(GD:FnOk P w K mg base (CX1 P w) 5 fD fdD ["self","deed"] (dZ C cls))(mD:Meth K C "deed" fD)(bD:aG K fdD ["self","deed"] []):
  ∃rd,PS (LWX P w K mg base f cdv A outer s H0 E) (lwS 10) rd∧∀(D:Ends)(H:Hp)(a p kl ml t:Addr)(z:ZN)(i o:Int)(n:Nat)(x1 x3 x4 x7 x8 x9:Option V),n≤8→1≤i→i<o→o≤8→nds z=[nI i o,nO o]→WAt C H p kl ml t z 20 0 [] [] →
   (∀t z ks M x8 H',Gro C [nI i o,nO o] (fB o) 2 H H' p kl ml 20 [] n t z ks M→D.nx (lwσ a x1 (some (.int o)) x3 x4 (some (.int n)) (some (.ref p)) x7 x8 x9) H')→rd D (lwσ a x1 (some (.int o)) x3 x4 (some (.int n)) (some (.ref p)) x7 x8 x9) H:=by
 refine⟨_,ce PassesOwn.never rfl (gf rfl T.range (aa (pv 5) ae)) (aE (i:=8) jc.nd rfl (Or.inl rfl)) (aj (aT (cy (pv 6) TC.cl mD GD hr bD .nil fu (aa (aA (aa aR (aa (aU cf ak (pv 8)) (aa (pv 2) (aa (aC nc aR (pv 8) (λ_ _=>rfl)) (aa (pv 8) ae)))))) ae)))),?_⟩;intro D H a p kl ml t z i o n x1 x3 x4 x7 x8 x9 hn h1 h2 h3 hz W q;have GB:=uF h1 h2 h3;refine⟨_,rfl,_,rfl,by omega,by omega,?_⟩;refine jj (n:=(n:Int).toNat) (λj σ H'=>∃t z ks M x8,σ=lwσ a x1 (some (.int o)) x3 x4 (some (.int n)) (some (.ref p)) x7 x8 x9∧Gro C [nI i o,nO o] (fB o) 2 H H' p kl ml 20 [] j t z ks M) ⟨t,z,_,_,_,rfl,Gro.start (by decide) W hz (aW.refl _)⟩ (λj σ H' hj h=>?_) (λσ H' h=>?_)
 ·obtain⟨t,z,ks,M,x8,rfl,G⟩:=h;rw[show(0:Int)+(j:Int)=((j:Nat):Int)by omega];obtain⟨dx,hp⟩:=G.wat.ob;refine⟨_,rfl,p,dx,_,rfl,hp,cJ (by decide +kernel) (by decide +kernel) (by decide +kernel) (by decide +kernel) (by decide +kernel),_,rfl,_,_,rfl,rfl,_,rfl,_,rfl,sB,_,_,rfl,rfl,au (by decide +kernel),nW (n:=9) (by decide +kernel) (by omega),_,rfl,au (show 5≤1000 by decide),λd hd=>?_⟩;have s1:=ag (o:=.tup (jF (mkD (fB o j)))) hd;dsimp only[eI,append_nil];refine(G.same s1).step GB (by omega) (show 2+9≤29 by decide) ac ⟨by show 1≤20+(j:Int);omega,by show 20+(j:Int)≤60;omega,by show 0≤o;omega,by show o≤60;omega,pq _ _⟩ λH2 t' z' ks' M' G'=>?_;exact⟨t',z',ks',M',_,rfl,G'⟩
 ·obtain⟨t,z,ks,M,x8,rfl,G⟩:=h;rw[show(n:Int).toNat=n by omega]at G;exact q t z ks M x8 H' G
end
def wt(o:Int)(j:Nat):Row:=⟨(fB o j).num,none,some (fB o j)⟩
theorem uq{H:Hp}{o:Int}{j:Nat}{q e:Addr}(hq:H q=some (.tup [.int o,.str (ltr sB j),.int j]))(he:H e=some (.tup [.int (20+(j:Int)),.non,.ref q])):RowAt H e (wt o j) :=
 ⟨⟨.non,.ref q,he,.inl ⟨rfl,rfl⟩,.inr ⟨q,fB o j,rfl,hq,rfl⟩⟩,λn h=>(by cases h),λn h=>(by cases h;rfl)⟩
section
variable{P:Program}{w:World}{K:PySem.W.Frag}{mg:Str→Option Value}{base:Heap}{f C fI fQ fD fR fN fS CM CR:Addr}{cdv:Value}{A:Around}{outer:List Env}{s:Shared}{H0:Hp}{E:XK}{cls:TW.Wd→Addr}{fdI fdB fdD fdR fdN fdS:FuncData}
theorem yc(T:Txt mg):∃rd,PS (LWX P w K mg base f cdv A outer s H0 E) (lwS 11) rd∧∀(D:Ends)(H:Hp)(a:Addr)(o:Int)(n:Nat)(x1 x3 x4 x6 x7 x8 x9:Option V),n≤8 →
   (∀c es H',Same H H'→ChgAt H' c es→aL es=TW.dR (fB o) n→D.nx (lwσ a x1 (some (.int o)) x3 x4 (some (.int n)) x6 x7 x8 (some (.ref c))) H')→rd D (lwσ a x1 (some (.int o)) x3 x4 (some (.int n)) x6 x7 x8 x9) H:=by
 refine⟨_,ao (i:=9) jc.nd rfl (Or.inl rfl) (aO bw rfl T.tuple rfl (aa (io (N:=["_law_k","_law_outer"]) (cl:=[("_law_outer",s.heap.objs.size+1)]) (k:=1) (js:=[2]) (g:=ca 0) rfl
    (LcOk.mk' ["_law_outer"] rfl rfl (by decide +kernel) (by decide +kernel) ?hcl rfl (by decide +kernel)) rfl ?hj (gf rfl T.range (aa (pv 5) ae)) (λs H fp=>aE (i:=0) (show(["_law_k","_law_outer"]:List Str).Nodup by decide +kernel) rfl (Or.inl rfl) (Or.inr rfl))
    (λs H fp=>aA (aa (aU cf ak (pv 0)) (aa cb (aa (aA (aa (pv 1) (aa (aC (r:=wQ) nc aR (pv 0) (λ_ _=>rfl)) (aa (pv 0) ae)))) ae))))) ae)),?_⟩
 case hcl =>
  intro y hy;rcases mem_cons.mp hy with e|hy
  ·rw[e];rfl
  ·cases hy
 case hj =>
  intro i j x h1 h2
  match i,h1,h2 with
  |0,h1,h2 =>
   cases h1;cases h2;exact⟨rfl,Or.inr (Or.inl rfl),(show((ah dy).names.lookup ("_law_outer":Str)≠some NameKind.local)by decide +kernel),by first|exact Or.inl rfl|exact Or.inr rfl⟩
  |i+1,h1,h2=>simp at h1
 intro D H a o n x1 x3 x4 x6 x7 x8 x9 hn q;refine⟨_,rfl,_,rfl,by omega,by omega,λp hp=>?_⟩;refine ft (fr:=[some (.int o)]) (List.range (n:Int).toNat) (λi=>V.int (0+(i:Nat))) (by rw[length_range];omega) hp tH rfl (λi y H'=>∃e q,y=.ref e∧e≠p∧q≠p∧H' q=some (.tup [.int o,.str (ltr sB i),.int i])∧H' e=some (.tup [.int (20+(i:Int)),.non,.ref q])) (λi y H H' h ex=>let⟨e,q,h1,h2,h3,h4,h5⟩:=h;⟨e,q,h1,h2,h3,ex _ _ h3 h4,ex _ _ h2 h5⟩) (λi H' k mi s1 hpp hk=>?_) (λys H' s1 hp' hys=>?_)
 ·have hi:i<n:=by have:=mem_range.mp mi;omega
  obtain⟨ys0,hpp⟩:=hpp;rw[show(0:Int)+(i:Int)=((i:Nat):Int)by omega];refine⟨_,rfl,_,_,rfl,rfl,_,rfl,_,rfl,sB,_,_,rfl,rfl,au (by decide +kernel),nW (n:=9) (by decide +kernel) (by omega),_,rfl,au (show 3≤1000 by decide),λqq hq=>⟨au (show 3≤1000 by decide),λe he=>?_⟩⟩;have s2:=ag (o:=.tup [.int o,.str (ltr sB i),.int i]) hq;have g2:upd H' qq (.tup [.int o,.str (ltr sB i),.int i]) qq=some (.tup [.int o,.str (ltr sB i),.int i]):=ac;have s3:=ag (o:=.tup [.int (20+(i:Int)),.non,.ref qq]) he;exact hk _ _ (s2.trans s3) ⟨e,qq,rfl,Ne.symm (aq (s2 _ _ hpp) he),Ne.symm (aq hpp hq),s3 _ _ g2,ac⟩
 ·obtain⟨bs,e1,e2,e3⟩:=dX (val:=V.ref) (S:=λ(i:Nat) (e:Addr)=>RowAt H' e (wt o i)) hys (λm y _ ⟨x,q,e,_,_,h4,h5⟩=>⟨x,e,uq h4 h5⟩);refine⟨p,_,rfl,.inl ⟨SqL.of hp',λl hl'=>?_⟩⟩;have s2:=ag (o:=.tup ys) hl';have hl:bs.length=n:=by
   have:=congrArg length e1;rw[length_map,length_range]at this;omega
  refine q l (bs.map λx=>(x.2,wt o x.1)) _ (s1.trans s2) ⟨?_,λe he=>?_,by rw[length_map];omega⟩ ?_
  ·rw[ac,e2];unfold bH;rw[map_map];rfl
  ·obtain⟨x,hx,rfl⟩:=mem_map.mp he;exact(e3 x hx).same s2
  ·unfold aL TW.dR;rw[map_map,show n=(n:Int).toNat by omega,←e1,map_map];rfl
theorem ChgAt.from{H:Hp}{c:Addr}{es:ZR}{k:Nat}{l:Addr}(h:ChgAt H c es)(hl:H l=some (.tup ((bH es).drop k))):ChgAt H l (es.drop k):=⟨by rw[hl];unfold bH;rw[map_drop],λe he=>h.at' e (List.drop_subset _ _ he),by have:=h.len;rw[length_drop];omega⟩
theorem yd(TC:WCls K mg C)(hr:Room 5 (A.deeper (PyProof.Rows.envOfC "law" (ah dy) s.heap.objs.size f cdv)))(GS:FnOk P w K mg base (CX1 P w) 3 fS fdS ["self","mark"] (dh C CM))(mS:Meth K C "since" fS)(bS:aG K fdS ["self","mark"] []):
  ∃rd,PS (LWX P w K mg base f cdv A outer s H0 E) (lwS 12) rd∧∀(D:Ends)(H1 H:Hp)(a p kl ml t c:Addr)(z:ZN)(i o:Int)(n:Nat)(ks:List (Addr×ZR))(M:List Int)(es:ZR)(x1 x2 x3 x4 x7 x8:Option V),5≤n→n≤8→1≤i→i<o→o≤8→Gro C [nI i o,nO o] (fB o) 2 H1 H p kl ml 20 [] n t z ks M→ChgAt H c es→aL es=TW.dR (fB o) n →
   (∀H',Same H H'→D.nx (lwσ a x1 x2 x3 x4 (some (.int n)) (some (.ref p)) x7 x8 (some (.ref c))) H')→rd D (lwσ a x1 x2 x3 x4 (some (.int n)) (some (.ref p)) x7 x8 (some (.ref c))) H:=by
 have hr3:Room 3 _:=hr.mono (by decide);have hu4:=iG hr;refine⟨_,aZ (PW.pt (pw_or (am (eO hu4) (cy (pv 6) TC.cl mS GS hr3 bS .nil fu (aa ak ae)) (pv 9) (ay _)) (pw_or (am (eO hu4) (cy (pv 6) TC.cl mS GS hr3 bS .nil fu (aa (pv 5) ae)) (aA ae) (ay _))
  (pw_or1 (am (eO hu4) (cy (pv 6) TC.cl mS GS hr3 bS .nil fu (aa ak ae)) (ig qw (pv 9) (jW ak) jV) (ay _)))))) (aj (av ji)) aD,?_⟩
 intro D H1 H a p kl ml t c z i o n ks M es x1 x2 x3 x4 x7 x8 hn5 hn8 h1 h2 h3 G hc he q;have GB:=uF h1 h2 h3;have hk:=G.klen;have hkl:ks.length=n:=by omega
 have hi:=G.hist (by omega);have uA:∀j,j≤n→_:=λj hj=>G.uAt (j:=j) (by omega);have el:es.length=n:=by
  have:=congrArg length he;unfold aL TW.dR at this;rw[length_map,length_map,length_range]at this;exact this
 have one:∀(j:Nat)(_:j≤n)(H2:Hp)(Q:VK)(E':XK),Same H H2→(∀c' es' H3,Same H2 H3→ChgAt H3 c' es'→aL es'=(TW.dR (fB o) n).drop j→Q (.ref c') H3)→dh C CM [.ref p,.int (j:Int)] H2 Q E':=λj hj H2 Q E' s2 q2=>by
  refine⟨p,kl,ml,t,z,20,_,ks,[],j,_,M,rfl,(G.same s2).wat,hi,by omega,by omega,by omega,λh=>(by omega),λ_ _ h=>(by omega),λj' _ _ hj' c' es' H3 s3 hc' hch=>q2 c' es' H3 s3 hc' ?_⟩;have ej:j'=j:=by omega
  subst ej;rw[uA j' hj,uA ks.length (by omega)]at hch;rw[hkl,show n-n+j'=j' by omega,show n-n+n=n by omega]at hch;exact hch.uniq (GB.chg (by omega) hj)
 obtain⟨dx,hp⟩:=G.wat.ob;have no:(flW t 20 n kl ml).lookup ("since":Str)=none:=cJ (by decide +kernel) (by decide +kernel) (by decide +kernel) (by decide +kernel) (by decide +kernel);refine⟨_,rfl,p,dx,_,rfl,hp,no,?_⟩;dsimp only[bA,tC,eI,append_nil];refine one 0 (by omega) H _ _ (Same.refl _) λc1 e1 H2 s2 hc1 er1=>?_;refine⟨_,rfl,.inr ⟨c1,c,_,_,rfl,rfl,iR (er1.trans he.symm) hc1.at' (hc.same s2).at',.inr ⟨hc1.tup,s2 _ _ hc.tup⟩,_,rfl,aP ?_⟩⟩;refine⟨_,rfl,p,dx,_,rfl,s2 _ _ hp,no,_,rfl,?_⟩;dsimp only[bA,tC,eI,append_nil];refine one n (by omega) H2 _ _ s2 λc2 e2 H3 s3 hc2 er2=>?_;have s13:=s2.trans s3;refine⟨zero_le _,λu hu=>?_⟩;have s4:=ag (o:=.tup []) hu;have gu:upd H3 u (.tup []) u=some (.tup []):=ac;generalize upd H3 u (.tup [])=H4 at s4 gu⊢;have s14:=s13.trans s4;have ee:e2=[]:=by
  have:aL e2=[]:=by
   rw[er2,List.drop_eq_nil_iff];unfold TW.dR;rw[length_map,length_range];exact le_refl _
  exact List.map_eq_nil_iff.mp this
 subst ee;refine .inr ⟨c2,u,[],[],rfl,rfl,⟨rfl,λi x y h=>by simp at h⟩,.inr ⟨s4 _ _ hc2.tup,gu⟩,_,rfl,aP ?_⟩;refine⟨_,rfl,p,dx,_,rfl,s14 _ _ hp,no,?_⟩;dsimp only[bA,tC,eI,append_nil];refine one 1 (by omega) H4 _ _ s14 λc3 e3 H5 s5 hc3 er3=>?_;have s15:=s14.trans s5;have hc5:=hc.same s15;have rl:(bH es).length=n:=by unfold bH;rw[length_map];exact el
 refine⟨_,rfl,_,rfl,c,_,rfl,SqT.of hc5.tup,λh=>?_,λl hl=>?_⟩
 ·have h0:=h.1;rw[show(some (1:Int))=some ((1:Nat):Int)from rfl,HT.oz,rl]at h0;omega
 rw[show(some (1:Int))=some ((1:Nat):Int)from rfl,mh (by rw[rl];omega)];have s6:=ag (o:=.tup ((bH es).drop 1)) hl;have hd:=(hc5.same s6).from (k:=1) ac;have er:aL (es.drop 1)=(TW.dR (fB o) n).drop 1:=by rw[←he];unfold aL;rw[map_drop]
 exact .inr ⟨c3,l,_,_,rfl,rfl,iR (er3.trans er.symm) (hc3.same s6).at' hd.at',.inr ⟨s6 _ _ hc3.tup,hd.tup⟩,_,rfl,aP (q _ (s15.trans s6))⟩
theorem ye(T:Txt mg)(TC:WCls K mg C)(hr:Room 5 (A.deeper (PyProof.Rows.envOfC "law" (ah dy) s.heap.objs.size f cdv)))(GR:FnOk P w K mg base (CX1 P w) 4 fR fdR ["self","number"] (fY C CR))(mR:Meth K C "read" fR)(bR:aG K fdR ["self","number"] [])(GN:FnOk P w K mg base CX0 1 fN fdN ["self"] (iW C))(mN:Meth K C "now" fN)(bN:aG K fdN ["self"] [])(GB:FnOk P w K mg base CX0 1 fQ fdB ["self"] (iY C))(mB:Meth K C "reader" fQ)(bB:aG K fdB ["self"] []):
  ∃rd,PS (LWX P w K mg base f cdv A outer s H0 E) (lwS 13) rd∧∀(D:Ends)(H1 H:Hp)(a p kl ml t:Addr)(z:ZN)(i o:Int)(n:Nat)(ks:List (Addr×ZR))(M:List Int)(x1 x2 x3 x4 x7 x8 x9:Option V),n≤8→Gro C [nI i o,nO o] (fB o) 2 H1 H p kl ml 20 [] n t z ks M →
   (∀H',D.rt (.bl true) H')→rd D (lwσ a x1 x2 x3 x4 (some (.int n)) (some (.ref p)) x7 x8 x9) H:=by
 have hr4:Room 4 _:=hr.mono (by decide);have hr1:Room 1 _:=hr.mono (by decide);have hu4:=iG hr;refine⟨_,av (uM (oo (vC hu4) (cy (pv 6) TC.cl mR GR hr4 bR .nil fu (aa (eX (pv 6) TC.cl mB GB hr1 bB .nil aI) ae)) (aA (aa aR (aa (aA ae) ae))) (ay _))
  (uL (oo du (bp bf rfl T.len boot_len (aa (eX (pv 6) TC.cl mN GN hr1 bN .nil aI) ae)) (aU cf (pv 5) ak) (ay _)))),?_⟩
 intro D H1 H a p kl ml t z i o n ks M x1 x2 x3 x4 x7 x8 x9 hn G q;have hk:=G.klen;have hz:=G.zlen;have hi:=G.hist (by omega);obtain⟨dx,hp⟩:=G.wat.ob;refine⟨_,rfl,p,dx,_,rfl,hp,cJ (by decide +kernel) (by decide +kernel) (by decide +kernel) (by decide +kernel) (by decide +kernel),_,rfl,p,dx,_,rfl,hp,cJ (by decide +kernel) (by decide +kernel) (by decide +kernel) (by decide +kernel) (by decide +kernel),p,kl,ml,t,z,20,_,ks,[],rfl,G.wat,by decide,λH2 W2 of2 t2=>?_⟩;have W2':WAt C H2 p kl ml t z 20 (n:Int) ks [(n:Int)]:=W2;refine⟨p,kl,ml,t,z,20,_,ks,_,0,_,M,rfl,W2',hi,by omega,by decide,by decide,by omega,λx hx=>?_,λh=>?_,λk mark ek hmk=>⟨λhl q' H4 W4 of4 ts4 hq4=>?_,λj hl q' c es H4 W4 of4 ts4 hc hch hq4=>?_⟩⟩
 ·have:x=(n:Int):=by simpa using hx
  omega
 ·have:([(n:Int)].length:Int)=1:=rfl;omega
 ·obtain rfl:k=0:=by omega
  have em:(n:Int)=mark:=Option.some.inj hmk;omega
 ·obtain rfl:k=0:=by omega
  have em:(n:Int)=mark:=Option.some.inj hmk;have ej:j=ks.length:=by omega
  subst ej;have ee:es=[]:=List.map_eq_nil_iff.mp (show aL es=[]from hch.nil);subst ee;refine⟨zero_le _,λe0 he0=>?_⟩;have s6:=ag (o:=.tup []) he0;have g6:upd H4 e0 (.tup []) e0=some (.tup []):=ac;generalize upd H4 e0 (.tup [])=H6 at s6 g6⊢;refine⟨le2,λq2 hq2=>?_⟩;have s7:=ag (o:=.tup [.str "change",.ref e0]) hq2;have s67:=s6.trans s7;refine .inr ⟨q',q2,_,_,rfl,rfl,gE (jd (s67 _ _ hc.tup) (s7 _ _ g6)),.inr ⟨s67 _ _ hq4,ac⟩,_,rfl,bh ?_⟩;have W5:=W4.same s67;generalize upd H6 q2 (.tup [.str "change",.ref e0])=H7 at W5⊢;obtain⟨dx5,hp5⟩:=W5.ob;refine⟨_,rfl,p,dx5,_,rfl,hp5,cJ (by decide +kernel) (by decide +kernel) (by decide +kernel) (by decide +kernel) (by decide +kernel),p,kl,ml,t,z,20,_,ks,_,rfl,W5,t,_,rfl,.inr (SqT.of W5.tr.tup),_,rfl,_,_,rfl,rfl,rfl,?_⟩;rw[show decide (V.int (((aN z).length:Nat):Int)=V.int ((n:Int)+2))=true by
   rw[bT,hz];show decide (V.int ((2+n:Nat):Int)=V.int ((n:Int)+2))=true;simp;omega]
  exact q _
def pr(K:PySem.W.Frag):Sp:=λvs H Q _=>∃(a:Addr) (ns:List Int),vs=[.ref a]∧SqL K H a (ns.map V.int)∧ns.length≤63∧∀H',Q (.bl true) H'
theorem wu{f C CM CR fI fD fR fQ fN fS:Addr}{cls:TW.Wd→Addr}{fd fdI fdD fdR fdB fdN fdS:FuncData}(F:Fun K "law" "law" dy f fd)(T:Txt mg)(TC:WCls K mg C)(M:Mk K C fI)(GI:FnOk P w K mg base CX0 1 fI fdI ["self","tree","most"] (iV C))(bI:aG K fdI ["self","tree","most"] [])(GD:FnOk P w K mg base (CX1 P w) 5 fD fdD ["self","deed"] (dZ C cls))(mD:Meth K C "deed" fD)(bD:aG K fdD ["self","deed"] [])(GR:FnOk P w K mg base (CX1 P w) 4 fR fdR ["self","number"] (fY C CR))(mR:Meth K C "read" fR)(bR:aG K fdR ["self","number"] [])(GB:FnOk P w K mg base CX0 1 fQ fdB ["self"] (iY C))(mB:Meth K C "reader" fQ)(bB:aG K fdB ["self"] [])(GN:FnOk P w K mg base CX0 1 fN fdN ["self"] (iW C))(mN:Meth K C "now" fN)(bN:aG K fdN ["self"] [])(GS:FnOk P w K mg base (CX1 P w) 3 fS fdS ["self","mark"] (dh C CM))(mS:Meth K C "since" fS)(bS:aG K fdS ["self","mark"] [])(CP:Has P w K mg base 2 "_law_pick" ["_law_script","_law_k","_law_many"] (iZ K))(CI:Has P w K mg base 5 "in_steps" ["old","new"] lQ):FnOk P w K mg base CX0 6 f fd ["_law_script"] (pr K):=by
 refine F.ok jc (λvs H Q E h=>?_) (λcdv A outer s H vs Q E hr h=>?_)
 ·obtain⟨a,ns,rfl,_⟩:=h;rfl
 ·obtain⟨a,ns0,rfl,hS0,hn,q⟩:=h;have hS:gM K H a:=⟨ns0,hS0⟩;obtain⟨r0,p0,h0⟩:=lw0 (outer:=outer) (H0:=H) (E:=E) hr CP;obtain⟨r1,p1,h1⟩:=lw1 (P:=P) (w:=w) (K:=K) (mg:=mg) (base:=base) (f:=f) (cdv:=cdv) (A:=A) (outer:=outer) (s:=s) (H0:=H) (E:=E);obtain⟨r2,p2,h2⟩:=lw2 (outer:=outer) (H0:=H) (E:=E) hr CI;obtain⟨r3,p3,h3⟩:=lw3 (outer:=outer) (H0:=H) (E:=E) hr CI;obtain⟨r4,p4,h4⟩:=lw4 (outer:=outer) (H0:=H) (E:=E) hr CP;obtain⟨r5,p5,h5⟩:=lw5 (outer:=outer) (H0:=H) (E:=E) TC hr M GI bI;obtain⟨r6,p6,h6⟩:=lw6 (outer:=outer) (H0:=H) (E:=E) TC hr GB mB bB;obtain⟨r7,p7,h7⟩:=lw7 (outer:=outer) (H0:=H) (E:=E) T TC hr GD mD bD;obtain⟨r8,p8,h8⟩:=lw8 (outer:=outer) (H0:=H) (E:=E) TC hr GR mR bR GN mN bN;obtain⟨r9,p9,h9⟩:=lw9 (outer:=outer) (H0:=H) (E:=E) TC hr M GI bI;obtain⟨r10,p10,h10⟩:=yb (outer:=outer) (H0:=H) (E:=E) T TC hr GD mD bD;obtain⟨r11,p11,h11⟩:=yc (P:=P) (w:=w) (K:=K) (base:=base) (f:=f) (cdv:=cdv) (A:=A) (outer:=outer) (s:=s) (H0:=H) (E:=E) T;obtain⟨r12,p12,h12⟩:=yd (outer:=outer) (H0:=H) (E:=E) TC hr GS mS bS;obtain⟨r13,p13,h13⟩:=ye (outer:=outer) (H0:=H) (E:=E) T TC hr GR mR bR GN mN bN GB mB bB;refine⟨_,af p0 (af p1 (af p2 (af p3 (af p4 (af p5 (af p6 (af p7 (af p8 (af p9 (af p10 (af p11 (af p12 (aj p13))))))))))))),?_⟩;refine h0 _ H a none none none none none none none none none hS λi o H1 s1 i1 i4 o5 o8=>?_;refine h1 _ H1 a i o _ _ _ _ _ _ _ i1 (by omega) λt r1 r2 H2 s2 T2=>?_;refine h2 _ H2 a t r1 r2 i o _ _ _ _ _ _ _ o5 o8 T2 λH3 s3=>?_;refine h3 _ H3 a o _ _ _ _ _ _ _ _ o5 o8 λH4 s4=>?_;refine h4 _ H4 a _ _ _ _ _ _ _ _ _ (hS.same (((s1.trans s2).trans s3).trans s4)) λm n H5 s5 m2 n5 n8=>?_;refine h5 _ H5 a m _ _ _ _ _ _ _ _ λp kl ml tt H6 s6 W6=>?_;refine h6 _ H6 a p kl ml tt [] m 0 [] _ _ _ _ _ _ _ _ W6 λH7 W7 t7=>?_;refine h7 _ H7 a p kl ml tt m _ _ _ _ _ _ _ m2 W7 λt8 z8 ks M' x8 H8 G8=>?_;refine h8 _ H7 H8 a p kl ml t8 z8 m ks M' _ _ _ _ _ _ _ m2 G8 λH9 t9=>?_;have T9:Tre H9 t _:=((((((T2.same s3).same s4).same s5).same s6).ts t7).ts G8.ts).ts t9;refine h9 _ H9 a t _ _ _ _ _ _ _ _ _ T9 λp2 kl2 ml2 H10 s10 W10=>?_;refine h10 _ H10 a p2 kl2 ml2 t _ i o n _ _ _ _ _ _ n8 i1 (by omega) o8 rfl W10 λt11 z11 ks11 M11 x11 H11 G11=>?_;refine h11 _ H11 a o n _ _ _ _ _ _ _ n8 λc es H12 s12 hc he=>?_;refine h12 _ H10 H12 a p2 kl2 ml2 t11 c z11 i o n ks11 M11 es _ _ _ _ _ _ n5 n8 i1 (by omega) o8 (G11.same s12) hc he λH13 s13=>?_;exact h13 _ H10 H13 a p2 kl2 ml2 t11 z11 i o n ks11 M11 _ _ _ _ _ _ _ n8 ((G11.same s12).same s13) q
end
end TK
namespace TK
open PySem PySem.W PyProof.Rows L2
theorem dS{K:PySem.W.Frag}{h:Heap}{mg:Str→Option Value}{x:Str}{C:Addr}{bB:List Value}{nid:String}(X:K.In h)(hb:mg x=some (.ref C))(q:excIn K C bB nid=true):OwnCls x C bB nid mg h:=by
 have hobj:∃bm N nm q' bs hdct sn sub ab col dd k0 k1 k2 k3 k5 mN,h.get? C=some (excClassObj nm q' C N bs bm hdct sn sub ab col dd k0 k1 k2 k3 k5 nid)∧h.Ns N mN∧mN "__init__"=none∧OwnTail h bB bm:=by
  unfold excIn at q
  split at q
  case h_2=>exact absurd q (by simp)
  case h_1 d0 c0 s0 hK =>
   split at q
   case h_2=>exact absurd q (by simp)
   case h_1 C1 b1 u0 u1 u2 u3 u4 u5 e1 e2 =>
    rw[and_eq_true,and_eq_true,and_eq_true,and_eq_true,and_eq_true]at q;obtain⟨⟨⟨⟨⟨y1,y2⟩,y3⟩,g4⟩,g5⟩,y6⟩:=q;have g1:C1=C:=beq_iff_eq.mp y1;have g2:u4=nid:=beq_iff_eq.mp y2;have g3:c0.hasDel=false:=by simpa using y3
    have g6:nsIn K c0.ns "__init__"=some none:=beq_iff_eq.mp y6;clear y1 y2 y3 y6;cases c0;cases s0;dsimp only at e1 e2 g3 g5 g6;subst g1 g2 g3 e1 e2;exact⟨_,_,_,_,_,_,_,_,_,_,_,_,_,_,_,_,_,X _ _ hK,Heap.Ns.of_isNs (PySem.W.isNs_of_in X g5),PySem.W.nsMap_none_of_in X g5 g6,PySem.W.tail_of_in X g4⟩
 exact⟨hb,hobj⟩
theorem yf{α:Type}{P:List α→Prop}{us:List α}(hl:us.length=0)(h:P []):P us:=by cases us with|nil=>exact h|cons a r=>cases hl
theorem xu{α:Type}{P:List α→Prop}{us:List α}(hl:us.length=1)(h:∀a0,P [a0]):P us:=by cases us with|nil=>cases hl|cons a r=>exact yf (P:=λr=>P (a::r)) (Nat.succ.inj hl) (h a)
theorem xv{α:Type}{P:List α→Prop}{us:List α}(hl:us.length=2)(h:∀a0 a1,P [a0,a1]):P us:=by cases us with|nil=>cases hl|cons a r=>exact xu (P:=λr=>P (a::r)) (Nat.succ.inj hl) (h a)
theorem xw{α:Type}{P:List α→Prop}{us:List α}(hl:us.length=3)(h:∀a0 a1 a2,P [a0,a1,a2]):P us:=by cases us with|nil=>cases hl|cons a r=>exact xv (P:=λr=>P (a::r)) (Nat.succ.inj hl) (h a)
theorem xy{α:Type}{P:List α→Prop}{us:List α}(hl:us.length=4)(h:∀a0 a1 a2 a3,P [a0,a1,a2,a3]):P us:=by cases us with|nil=>cases hl|cons a r=>exact xw (P:=λr=>P (a::r)) (Nat.succ.inj hl) (h a)
theorem yg{α:Type}{P:List α→Prop}{us:List α}(hl:us.length=5)(h:∀a0 a1 a2 a3 a4,P [a0,a1,a2,a3,a4]):P us:=by cases us with|nil=>cases hl|cons a r=>exact xy (P:=λr=>P (a::r)) (Nat.succ.inj hl) (h a)
abbrev gA(K:PySem.W.Frag)(x:Str)(f:Addr):Prop:=nsIn K mainGlobals x=some (some (.ref f))
abbrev gN(K:PySem.W.Frag)(x:Str):Prop:=nsIn K mainGlobals x=some none
theorem fh{P:Program}{w:World}{K:PySem.W.Frag}{mg:Str→Option Value}{base h:Heap}{k:Nat}{x q:Str}{st:Stmt}{f:Addr}{fd:FuncData}{ps:List Str}{sp:Sp}(X:K.In h)(G:h.Ns mainGlobals mg)(F:Fun K x q st f fd)(a:gA K x f)(b:aG K fd ps [])(O:FnOk P w K mg base CX0 k f fd ps sp):Has P w K mg base k x ps sp:=⟨f,fd,O,mg_of X G a,F.kp,b⟩
theorem fhX{P:Program}{w:World}{K:PySem.W.Frag}{mg:Str→Option Value}{base h:Heap}{k:Nat}{x q:Str}{st:Stmt}{f:Addr}{fd:FuncData}{ps:List Str}{sp:Sp}(X:K.In h)(G:h.Ns mainGlobals mg)(F:Fun K x q st f fd)(a:gA K x f)(b:aG K fd ps [])(O:FnOk P w K mg base (CX1 P w) k f fd ps sp):dm P w K mg base k x ps sp:=⟨f,fd,O,mg_of X G a,F.kp,b⟩
theorem fb1{K:PySem.W.Frag}{x q a0:Str}{st:Stmt}{f:Addr}{fd:FuncData}(F:Fun K x q st f fd)(h:∀(kV doc pm:Value) (an:Option Addr) (cdv ct v0:Value),bindArgs (fnOf x q (cz st) (bn st) (ah st) .none kV doc pm an cdv ct) ⟨[v0],[]⟩=pure (List.zip [a0] [v0]):=by intros;rfl):aG K fd [a0] []:=F.binds λkV doc pm an cdv ct us hl=>xu (P:=λus=>bindArgs _ ⟨us,[]⟩=pure (List.zip _ us)) hl (h kV doc pm an cdv ct)
theorem fb2{K:PySem.W.Frag}{x q a0 a1:Str}{st:Stmt}{f:Addr}{fd:FuncData}(F:Fun K x q st f fd)(h:∀(kV doc pm:Value) (an:Option Addr) (cdv ct v0 v1:Value),bindArgs (fnOf x q (cz st) (bn st) (ah st) .none kV doc pm an cdv ct) ⟨[v0,v1],[]⟩=pure (List.zip [a0,a1] [v0,v1]):=by intros;rfl):aG K fd [a0,a1] []:=F.binds λkV doc pm an cdv ct us hl=>xv (P:=λus=>bindArgs _ ⟨us,[]⟩=pure (List.zip _ us)) hl (h kV doc pm an cdv ct)
theorem fb3{K:PySem.W.Frag}{x q a0 a1 a2:Str}{st:Stmt}{f:Addr}{fd:FuncData}(F:Fun K x q st f fd)(h:∀(kV doc pm:Value) (an:Option Addr) (cdv ct v0 v1 v2:Value),bindArgs (fnOf x q (cz st) (bn st) (ah st) .none kV doc pm an cdv ct) ⟨[v0,v1,v2],[]⟩=pure (List.zip [a0,a1,a2] [v0,v1,v2]):=by intros;rfl):aG K fd [a0,a1,a2] []:=F.binds λkV doc pm an cdv ct us hl=>xw (P:=λus=>bindArgs _ ⟨us,[]⟩=pure (List.zip _ us)) hl (h kV doc pm an cdv ct)
theorem fb4{K:PySem.W.Frag}{x q a0 a1 a2 a3:Str}{st:Stmt}{f:Addr}{fd:FuncData}(F:Fun K x q st f fd)(h:∀(kV doc pm:Value) (an:Option Addr) (cdv ct v0 v1 v2 v3:Value),bindArgs (fnOf x q (cz st) (bn st) (ah st) .none kV doc pm an cdv ct) ⟨[v0,v1,v2,v3],[]⟩=pure (List.zip [a0,a1,a2,a3] [v0,v1,v2,v3]):=by intros;rfl):aG K fd [a0,a1,a2,a3] []:=F.binds λkV doc pm an cdv ct us hl=>xy (P:=λus=>bindArgs _ ⟨us,[]⟩=pure (List.zip _ us)) hl (h kV doc pm an cdv ct)
theorem fb5{K:PySem.W.Frag}{x q a0 a1 a2 a3 a4:Str}{st:Stmt}{f:Addr}{fd:FuncData}(F:Fun K x q st f fd)(h:∀(kV doc pm:Value) (an:Option Addr) (cdv ct v0 v1 v2 v3 v4:Value),bindArgs (fnOf x q (cz st) (bn st) (ah st) .none kV doc pm an cdv ct) ⟨[v0,v1,v2,v3,v4],[]⟩=pure (List.zip [a0,a1,a2,a3,a4] [v0,v1,v2,v3,v4]):=by intros;rfl):aG K fd [a0,a1,a2,a3,a4] []:=F.binds λkV doc pm an cdv ct us hl=>yg (P:=λus=>bindArgs _ ⟨us,[]⟩=pure (List.zip _ us)) hl (h kV doc pm an cdv ct)
theorem wv{l:PySem.W.OpenLaw}{w:World}{K:PySem.W.Frag}{h:Heap}{mg:Str→Option Value}{fa f1 f2 f3 f4 f5 f6 f7 f8 f9 f10 f11 f12 f13 f14 f15 f16 f17 f18 f19 f20 f21 f22 f23 f24 f25 f26 f27 f28 f29 f30 f31 f32 OWatch:Addr}(X:K.In h)(G:h.Ns mainGlobals mg)(hfa:mg "law"=some (.ref fa)){d1 d2 d3 d4 d5 d6 d7 d8 d9 d10 d11 d12 d13 d14 d15 d16 d17 d18 d19 d20 d21 d22 d23 d24 d25 d26 d27 d28 d29 d30 d31 d32:FuncData}{t1:Tok}(a1:gA K "numbers_inside" f1)(F1:Fun K "numbers_inside" "numbers_inside" vE f1 d1)(a2:gA K "by_number" f2)(F2:Fun K "by_number" "by_number" rD f2 d2)(a3:gA K "node_of" f3)(F3:Fun K "node_of" "node_of" vF f3 d3)(a4:gA K "check_folder" f4)(F4:Fun K "check_folder" "check_folder" vG f4 d4)(a5:gA K "below" f5)(F5:Fun K "below" "below" vH f5 d5)(a6:gA K "parts_by_number" f6)(F6:Fun K "parts_by_number" "parts_by_number" bZ f6 d6)(a7:gA K "unlike_entries" f7)(F7:Fun K "unlike_entries" "unlike_entries" cj f7 d7)(a8:gA K "change_between" f8)(F8:Fun K "change_between" "change_between" aJ f8 d8)(a9:gA K "joined" f9)(F9:Fun K "joined" "joined" de f9 d9)(a10:gA K "check_place" f10)(F10:Fun K "check_place" "check_place" vI f10 d10)(a11:gA K "with_node" f11)(F11:Fun K "with_node" "with_node" oT f11 d11)(a12:gA K "make" f12)(F12:Fun K "make" "make" rE f12 d12)(a13:gA K "write" f13)(F13:Fun K "write" "write" nA f13 d13)(a14:gA K "move" f14)(F14:Fun K "move" "move" rF f14 d14)(a15:gA K "drop" f15)(F15:Fun K "drop" "drop" oU f15 d15)(a16:gA K "done" f16)(F16:Fun K "done" "done" rG f16 d16)(a17:gA K "check_kinds" f17)(F17:Fun K "check_kinds" "check_kinds" cT f17 d17)(a18:gA K "nodes_needed" f18)(F18:Fun K "nodes_needed" "nodes_needed" bY f18 d18)(a19:gA K "next_drop" f19)(F19:Fun K "next_drop" "next_drop" dL f19 d19)(a20:gA K "placings" f20)(F20:Fun K "placings" "placings" eS f20 d20)(a21:gA K "next_deed" f21)(F21:Fun K "next_deed" "next_deed" dM f21 d21)(a22:gA K "writes" f22)(F22:Fun K "writes" "writes" fG f22 d22)(a23:gA K "in_steps" f23)(F23:Fun K "in_steps" "in_steps" eT f23 d23)(a24:findIn K (.ref OWatch) "__init__"=some (some (.ref f24)))(i24:isFn K (.ref f24)=true)(F24:Fun K "__init__" "Watch.__init__" dH f24 d24)(a25:findIn K (.ref OWatch) "deed"=some (some (.ref f25)))(i25:isFn K (.ref f25)=true)(F25:Fun K "deed" "Watch.deed" dI f25 d25)(a26:findIn K (.ref OWatch) "now"=some (some (.ref f26)))(i26:isFn K (.ref f26)=true)(F26:Fun K "now" "Watch.now" eR f26 d26)(a27:findIn K (.ref OWatch) "since"=some (some (.ref f27)))(i27:isFn K (.ref f27)=true)(F27:Fun K "since" "Watch.since" dq f27 d27)(a28:findIn K (.ref OWatch) "reader"=some (some (.ref f28)))(i28:isFn K (.ref f28)=true)(F28:Fun K "reader" "Watch.reader" cS f28 d28)(a29:findIn K (.ref OWatch) "read"=some (some (.ref f29)))(i29:isFn K (.ref f29)=true)(F29:Fun K "read" "Watch.read" dJ f29 d29)(a30:gA K "_law_cell" f30)(F30:Fun K "_law_cell" "_law_cell" rH f30 d30)(a31:gA K "_law_pick" f31)(F31:Fun K "_law_pick" "_law_pick" rJ f31 d31)(a32:gA K "law" f32)(F32:Fun K "law" "law" dy f32 d32)(z1:gN K "isinstance")(z2:gN K "dict")(z3:gN K "len")(z4:gN K "tuple")(z5:gN K "list")(z6:gN K "range")(z7:gN K "sorted")(z8:gN K "reversed")(z9:gN K "ValueError")(z10:gN K "str")(z11:gN K "set")(z12:gN K "max")(z13:gN K "min")(z14:gN K "sum")(z15:gN K "zip")(z16:gN K "enumerate")(z17:gN K "all")(z18:gN K "int")(z19:gN K "bool")(v1t:nsIn K mainGlobals "TOP"=some (some (.int 0 t1))){t2:Tok}(v2t:nsIn K mainGlobals "LETTERS"=some (some (.str "abcdefghijklmnopqrstuvwxyz" t2))){B0 B1 B2 B3 B4 B5 CM CR:Addr}(x0:nsIn K mainGlobals "Inside"=some (some (.ref B0)))(q0:excIn K B0 bmV "ValueError.__new__"=true)(x1:nsIn K mainGlobals "Known"=some (some (.ref B1)))(q1:excIn K B1 bmV "ValueError.__new__"=true)(x2:nsIn K mainGlobals "NoNode"=some (some (.ref B2)))(q2:excIn K B2 bmV "ValueError.__new__"=true)(x3:nsIn K mainGlobals "NotFile"=some (some (.ref B3)))(q3:excIn K B3 bmV "ValueError.__new__"=true)(x4:nsIn K mainGlobals "NotFolder"=some (some (.ref B4)))(q4:excIn K B4 bmV "ValueError.__new__"=true)(x5:nsIn K mainGlobals "Taken"=some (some (.ref B5)))(q5:excIn K B5 bmV "ValueError.__new__"=true)(xM:nsIn K mainGlobals "NoMark"=some (some (.ref CM)))(qM:excIn K CM bmV "ValueError.__new__"=true)(xR:nsIn K mainGlobals "NoReader"=some (some (.ref CR)))(qR:excIn K CR bmV "ValueError.__new__"=true)(aWatch:nsIn K mainGlobals "Watch"=some (some (.ref OWatch)))(pgWatch:plainGet K OWatch empty=true)(hdWatch:hasDictIn K OWatch=true)(poWatch:plainOver K OWatch=true)(saWatch:findIn K (.ref OWatch) "__setattr__"=some (some (.builtin "object.__setattr__")))(mkWatch:makesIn K OWatch=true)(kcWatch:keepIn K (.ref OWatch)=true)(naWatch0:findIn K (.ref OWatch) "tree"=some none)(naWatch1:findIn K (.ref OWatch) "most"=some none)(naWatch2:findIn K (.ref OWatch) "deeds_done"=some none)(naWatch3:findIn K (.ref OWatch) "kept"=some none)(naWatch4:findIn K (.ref OWatch) "marks_seen"=some none):
  ∃fd:FuncData,(∀(s:Shared)(v:Value),BindsTo s fd ⟨[v],[]⟩ [("_law_script",v)])∧∀base:Heap,K.In base→base.Ns mainGlobals mg→FnOk l.prog w K mg base CX0 6 fa fd ["_law_script"] (pr K):=by
 have e:=hfa.symm.trans (mg_of X G a32);cases e;have T:Txt mg:=⟨mg_none_of X G z1,mg_none_of X G z2,mg_none_of X G z3,mg_none_of X G z4,mg_none_of X G z5,mg_none_of X G z6,mg_none_of X G z7,mg_none_of X G z8,mg_none_of X G z9,mg_none_of X G z10,mg_none_of X G z11,mg_none_of X G z12,mg_none_of X G z13,mg_none_of X G z14,mg_none_of X G z15,mg_none_of X G z16,mg_none_of X G z17,mg_none_of X G z18,mg_none_of X G z19,⟨_,mg_of X G v1t⟩,⟨_,mg_of X G v2t⟩⟩
 let cls:TW.Wd→Addr:=λwd=>match wd with | .inside=>B0 | .known=>B1 | .noNode=>B2 | .notFile=>B3 | .notFolder=>B4 | .taken=>B5
 have TWatch:WCls K mg OWatch:=⟨⟨pgWatch,hdWatch,poWatch,saWatch⟩,naWatch0,naWatch1,naWatch2,naWatch3,naWatch4,mg_of X G aWatch⟩;have MkWatch:Mk K OWatch f24:=⟨mkWatch,a24,i24,kcWatch⟩;have M_Watch___init__:Meth K OWatch "__init__" f24:=⟨a24,i24,F24.kp⟩;have b_Watch___init__:aG K d24 ["self","tree","most"] []:=fb3 F24;have M_Watch_deed:Meth K OWatch "deed" f25:=⟨a25,i25,F25.kp⟩;have b_Watch_deed:aG K d25 ["self","deed"] []:=fb2 F25;have M_Watch_now:Meth K OWatch "now" f26:=⟨a26,i26,F26.kp⟩;have b_Watch_now:aG K d26 ["self"] []:=fb1 F26;have M_Watch_since:Meth K OWatch "since" f27:=⟨a27,i27,F27.kp⟩;have b_Watch_since:aG K d27 ["self","mark"] []:=fb2 F27;have M_Watch_reader:Meth K OWatch "reader" f28:=⟨a28,i28,F28.kp⟩;have b_Watch_reader:aG K d28 ["self"] []:=fb1 F28;have M_Watch_read:Meth K OWatch "read" f29:=⟨a29,i29,F29.kp⟩;have b_Watch_read:aG K d29 ["self","number"] []:=fb2 F29;have hb:∀(s:Shared)(v:Value),BindsTo s d32 ⟨[v],[]⟩ [("_law_script",v)]:=by
  obtain⟨_,_,_,_,_,_,_,_,_,e,_,_⟩:=F32.ex;subst e;exact λs v=>.of_eq rfl
 refine⟨d32,hb,λbase KB _=>?_⟩
 let H:=Has l.prog w K mg base
 let HX:=dm l.prog w K mg base
 have W6:tM mg base cls:=λwd=>match wd with | .inside=>dS KB (mg_of X G x0) q0 | .known=>dS KB (mg_of X G x1) q1 | .noNode=>dS KB (mg_of X G x2) q2 | .notFile=>dS KB (mg_of X G x3) q3 | .notFolder=>dS KB (mg_of X G x4) q4 | .taken=>dS KB (mg_of X G x5) q5
 have OM:iI "NoMark" mg base CM:=dS KB (mg_of X G xM) qM;have OR:iI "NoReader" mg base CR:=dS KB (mg_of X G xR) qR;have C_numbers_inside:H 1 "numbers_inside" ["nodes","folder"] oV:=fh X G F1 a1 (fb2 F1) (vJ F1 T);have C_by_number:H 1 "by_number" ["tree"] dw:=fh X G F2 a2 (fb1 F2) (vK F2 T);have C_by_number_C:H 1 "by_number" ["tree"] nN:=fh X G F2 a2 (fb1 F2) (uf F2 T);have C_node_of:HX 1 "node_of" ["nodes","number"] (iK (cls .noNode)):=fhX X G F3 a3 (fb2 F3) (vL F3 (W6 .noNode));have C_check_folder:HX 2 "check_folder" ["nodes","number"] (oX (cls .noNode) (cls .notFolder)):=fhX X G F4 a4 (fb2 F4) (vN F4 T (W6 .notFolder) C_node_of);have C_below:HX 2 "below" ["tree","number"] (oW (cls .noNode)):=fhX X G F5 a5 (fb2 F5) (vM F5 T C_by_number C_node_of C_numbers_inside);have C_parts_by_number:H 1 "parts_by_number" ["tree"] nL:=fh X G F6 a6 (fb1 F6) (ud F6 T);have C_unlike_entries:H 1 "unlike_entries" ["entries"] md:=fh X G F7 a7 (fb1 F7) (wa F7 T);have C_change_between:H 2 "change_between" ["one","other"] sk:=fh X G F8 a8 (fb2 F8) (wb F8 T C_parts_by_number C_unlike_entries);have C_joined:H 2 "joined" ["one","other"] we:=fh X G F9 a9 (fb2 F9) (xn F9 T C_by_number_C C_unlike_entries);have C_check_place:HX 1 "check_place" ["tree","number","parent","name"] (lM (cls .taken)):=fhX X G F10 a10 (fb4 F10) (vO F10 (W6 .taken));have C_with_node:H 1 "with_node" ["tree","changed"] iL:=fh X G F11 a11 (fb2 F11) (tN F11 T);have C_make:HX 3 "make" ["tree","number","parent","name","stamp"] (nB cls):=fhX X G F12 a12 (fb5 F12) (tO F12 T W6 C_by_number C_check_folder C_check_place);have C_write:HX 2 "write" ["tree","number","stamp"] (kA cls):=fhX X G F13 a13 (fb3 F13) (rM F13 W6 C_by_number C_node_of C_with_node);have C_move:HX 3 "move" ["tree","number","parent","name"] (nC cls):=fhX X G F14 a14 (fb4 F14) (tP F14 W6 C_by_number C_node_of C_check_folder C_below C_check_place C_with_node);have C_drop:HX 3 "drop" ["tree","number"] (nG cls):=fhX X G F15 a15 (fb2 F15) (tQ F15 T C_by_number C_node_of C_below);have C_done:HX 4 "done" ["tree","deed"] (kG cls):=fhX X G F16 a16 (fb2 F16) (tR F16 C_make C_write C_move C_drop);have C_check_kinds:H 2 "check_kinds" ["old","new"] rP:=fh X G F17 a17 (fb2 F17) (vQ F17 C_by_number);have C_nodes_needed:H 2 "nodes_needed" ["now","goal"] rQ:=fh X G F18 a18 (fb2 F18) (vR F18 C_by_number);have C_next_drop:H 3 "next_drop" ["now","goal"] rR:=fh X G F19 a19 (fb2 F19) (vS F19 T C_nodes_needed);have C_placings:H 2 "placings" ["now","new"] rT:=fh X G F20 a20 (fb2 F20) (vT F20 C_by_number);have C_next_deed:H 4 "next_deed" ["now","new","deeds"] rV:=fh X G F21 a21 (fb3 F21) (vV F21 T C_by_number C_next_drop C_placings);have C_writes:H 2 "writes" ["now","new"] rU:=fh X G F22 a22 (fb2 F22) (vU F22 C_by_number);have C_in_steps:H 5 "in_steps" ["old","new"] lQ:=fh X G F23 a23 (fb2 F23) (tT F23 C_check_kinds C_next_deed C_writes C_done);have G_Watch___init__:FnOk l.prog w K mg base CX0 1 f24 _ ["self","tree","most"] (iV OWatch):=uh F24 TWatch;have G_Watch_deed:FnOk l.prog w K mg base (CX1 l.prog w) 5 f25 _ ["self","deed"] (dZ OWatch cls):=ss F25 T TWatch C_done C_change_between;have G_Watch_now:FnOk l.prog w K mg base CX0 1 f26 _ ["self"] (iW OWatch):=ui F26 TWatch;have G_Watch_since:FnOk l.prog w K mg base (CX1 l.prog w) 3 f27 _ ["self","mark"] (dh OWatch CM):=qd F27 T TWatch OM C_joined;have G_Watch_reader:FnOk l.prog w K mg base CX0 1 f28 _ ["self"] (iY OWatch):=ul F28 T TWatch;have G_Watch_read:FnOk l.prog w K mg base (CX1 l.prog w) 4 f29 _ ["self","number"] (fY OWatch CR):=sw F29 T TWatch OR G_Watch_since M_Watch_since b_Watch_since;have C__law_cell:H 1 "_law_cell" ["_law_script","_law_k"] (nV K):=fh X G F30 a30 (fb2 F30) (um F30 T);have C__law_pick:H 2 "_law_pick" ["_law_script","_law_k","_law_many"] (iZ K):=fh X G F31 a31 (fb3 F31) (uo F31 T C__law_cell);exact wu F32 T TWatch MkWatch G_Watch___init__ b_Watch___init__ G_Watch_deed M_Watch_deed b_Watch_deed G_Watch_read M_Watch_read b_Watch_read G_Watch_reader M_Watch_reader b_Watch_reader G_Watch_now M_Watch_now b_Watch_now G_Watch_since M_Watch_since b_Watch_since C__law_pick C_in_steps
theorem walk{l:PySem.W.OpenLaw}{q:Program}{loose:List Str}{XP:(Str→Option Value)→Heap→Prop}{YP:World→Heap→Prop}{d:DefRec}{K:Params→PySem.W.Frag}(hn:l.most=some 63)(hdf:d.params.defaults=[])(hY:∀(w:World) (h:Heap),YP w h→(K w.params).In h)(F:∀(w:World) (mg:Str→Option Value) (fa:Addr) (h:Heap),(K w.params).In h→h.Ns mainGlobals mg→mg d.name=some (.ref fa) →
   ∃fd:FuncData,(∀(s:Shared) (u:Value),BindsTo s fd ⟨[u],[]⟩ [("_law_script",u)])∧∀base:Heap,(K w.params).In base→base.Ns mainGlobals mg→FnOk l.prog w (K w.params) mg base CX0 6 fa fd ["_law_script"] (pr (K w.params))):
  PySem.W.WalkO q loose XP YP l.row.toRowW d [] (λf vs=>PySem.call f vs) :=
 L2.sW (n:=63) (k:=6) (x:="_law_script") (CX:=λ_=>CX0) (sp:=λw=>pr (K w.params)) hn (by decide) hdf ⟨rfl,by decide,by decide⟩ hY F (λ_ _ a ns hl _ hS=>⟨a,ns,rfl,hS,hl,λ_=>rfl⟩) λ_ _ _ _ _ z=>z
end TK
end
open PySem PySem.W PyProof.Rows
def PySem.W.Fast.tw11432415051396794252:Unit:=()
def PySem.W.Fast.tw15798966462277739153:Unit:=()
def PySem.W.Fast.tw13150013886038703086:Unit:=()
def PySem.W.Fast.tw14254842731715729354:Unit:=()
def PySem.W.Fast.tw6118680505415717439:Unit:=()
def PySem.W.Fast.tw4662860634043944936:Unit:=()
def PySem.W.Fast.tw2504014571961899388:Unit:=()
def PySem.W.Fast.tw3737463632193406532:Unit:=()
def PySem.W.Fast.tw14932504112531581257:Unit:=()
def PySem.W.Fast.tw6694441609782386751:Unit:=()
def PySem.W.Fast.tw5083631963701974989:Unit:=()
def PySem.W.Fast.tw18037745428234783482:Unit:=()
def PySem.W.Fast.tw7949834561511446438:Unit:=()
def PySem.W.Fast.tw462159935187819498:Unit:=()
def PySem.W.Fast.tw17890161688929506256:Unit:=()
def PySem.W.Fast.tw893311789929687434:Unit:=()
def PySem.W.Fast.tw18277132371270735431:Unit:=()
def PySem.W.Fast.tw14726360382865231097:Unit:=()
def PySem.W.Fast.tw14849893487584354859:Unit:=()
def PySem.W.Fast.tw1947666877853654377:Unit:=()
def PySem.W.Fast.tw5065782748174544172:Unit:=()
def PySem.W.Fast.tw3227875591586283954:Unit:=()
def PySem.W.Fast.tw2956013206673700930:Unit:=()
def PySem.W.Fast.tw12185238171023962793:Unit:=()
def PySem.W.Fast.tw5270274430593180035:Unit:=()
def PySem.W.Fast.tw16160829259144870912:Unit:=()
def PySem.W.Fast.tw10270541421746960813:Unit:=()
def PySem.W.Fast.tw16993569389162019162:Unit:=()
def PySem.W.Fast.tw125931528658927027:Unit:=()
def PySem.W.Fast.tw8197956399538067317:Unit:=()
def PySem.W.Fast.tw4802279074896126648:Unit:=()
def PySem.W.Fast.tw7775654049723455019:Unit:=()
def PySem.W.Fast.tw7980144554421342035:Unit:=()
def PySem.W.Fast.tw4057948140438592164:Unit:=()
def PySem.W.Fast.tw4496740286078197102:Unit:=()
def PySem.W.Fast.tw11099736134764515719:Unit:=()
def PySem.W.Fast.tw5676663056784845547:Unit:=()
def PySem.W.Fast.tw10919426399266667783:Unit:=()
def PySem.W.Fast.tw9318627347647975558:Unit:=()
def PySem.W.Fast.tw5438416507230707975:Unit:=()
def PySem.W.Fast.tw14513068521691743139:Unit:=()
def PySem.W.Fast.tw14586691415610726511:Unit:=()
def PySem.W.Fast.tw9203768144050763567:Unit:=()
def PySem.W.Fast.tw662258776946799437:Unit:=()
def PySem.W.Fast.tw8469607449628800555:Unit:=()
def PySem.W.Fast.tw833832785324284399:Unit:=()
def PySem.W.Fast.tw12494206060889510582:Unit:=()
def PySem.W.Fast.tw13224762747030281981:Unit:=()
def PySem.W.Fast.tw5849888143312835906:Unit:=()
def PySem.W.Fast.tw18217043437819609872:Unit:=()
def PySem.W.Fast.tw16088865925572767474:Unit:=()
def PySem.W.Fast.tw4078661323195681480:Unit:=()
def PySem.W.Fast.tw4027673403438466528:Unit:=()
def PySem.W.Fast.tw17113073209286334100:Unit:=()
def PySem.W.Fast.tw12399061319998934284:Unit:=()
def PySem.W.Fast.tw13097773093447889137:Unit:=()
def PySem.W.Fast.tw13254887685248412067:Unit:=()
set_option maxRecDepth 100000 in
set_option maxHeartbeats 0 in
theorem PySem.Challenge.cw_treewatch_k93_whole_edges_by_hand_holds : PySem.Challenge.rw_treewatch_k93_whole_edges_by_hand.Holds := by
 w_on; o_law; k_head; (case hw=>w_witness2)
 k_fill
 refine TK.walk (l:=PySem.Challenge.rw_treewatch_k93_whole_edges_by_hand) rfl rfl (λw h Y=>PySem.W.kIn_of Y) ?F
 case F =>
  intro w mg fa h KX G hmg
  refine' TK.wv KX G hmg ?a1 ?F1 ?a2 ?F2 ?a3 ?F3 ?a4 ?F4 ?a5 ?F5 ?a6 ?F6 ?a7 ?F7 ?a8 ?F8 ?a9 ?F9 ?a10 ?F10 ?a11 ?F11 ?a12 ?F12 ?a13 ?F13 ?a14 ?F14 ?a15 ?F15 ?a16 ?F16 ?a17 ?F17 ?a18 ?F18 ?a19 ?F19 ?a20 ?F20 ?a21 ?F21 ?a22 ?F22 ?a23 ?F23 ?a24 ?i24 ?F24 ?a25 ?i25 ?F25 ?a26 ?i26 ?F26 ?a27 ?i27 ?F27 ?a28 ?i28 ?F28 ?a29 ?i29 ?F29 ?a30 ?F30 ?a31 ?F31 ?a32 ?F32 ?z1 ?z2 ?z3 ?z4 ?z5 ?z6 ?z7 ?z8 ?z9 ?z10 ?z11 ?z12 ?z13 ?z14 ?z15 ?z16 ?z17 ?z18 ?z19 ?v1t ?v2t ?x0 ?q0 ?x1 ?q1 ?x2 ?q2 ?x3 ?q3 ?x4 ?q4 ?x5 ?q5 ?xM ?qM ?xR ?qR ?aWatch ?pgWatch ?hdWatch ?poWatch ?saWatch ?mkWatch ?kcWatch ?naWatch0 ?naWatch1 ?naWatch2 ?naWatch3 ?naWatch4
  (case aWatch=>k_is)
  (case a1|a2|a3|a4|a5|a6|a7|a8|a9|a10|a11|a12|a13|a14|a15|a16|a17|a18|a19|a20|a21|a22|a23=>unfold TK.gA; k_is)
  (case F1|F2|F3|F4|F5|F6|F7|F8|F9|F10|F11|F12|F13|F14|F15|F16|F17|F18|F19|F20|F21|F22|F23=>apply L2.eK <;> k_is)
  (case a24|i24=>k_is)
  (case F24=>apply L2.eK <;> k_is)
  (case a25|i25=>k_is)
  (case F25=>apply L2.eK <;> k_is)
  (case a26|i26=>k_is)
  (case F26=>apply L2.eK <;> k_is)
  (case a27|i27=>k_is)
  (case F27=>apply L2.eK <;> k_is)
  (case a28|i28=>k_is)
  (case F28=>apply L2.eK <;> k_is)
  (case a29|i29=>k_is)
  (case a30|a31|a32=>unfold TK.gA; k_is)
  (case F29|F30|F31|F32=>apply L2.eK <;> k_is)
  (case z1|z2|z3|z4|z5|z6|z7|z8|z9|z10|z11|z12|z13|z14|z15|z16|z17|z18|z19=>unfold TK.gN; k_is)
  (case v1t|v2t|x0=>k_is)
  (case x1|x2|x3|x4|x5|xM|xR=>k_is)
  (case q0|q1|q2|q3|q4|q5|qM|qR=>k_exc)
  (case pgWatch|hdWatch|poWatch|saWatch|mkWatch|kcWatch|naWatch0|naWatch1|naWatch2|naWatch3|naWatch4=>k_is)
