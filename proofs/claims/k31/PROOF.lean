import PyProof.Rows.All
import Wide.All
import OpenK.AllK
import Wide.FinOn
import Lean
import PyProof.EqAt
import PyProof.EqKinds
import PyProof.TupleCall
import PyProof.CompFree
import PySem.SetTable
import PyProof.SetScanFacts
import PyProof.TupleKey
import PyProof.SetKind
import PyProof.IsRules
import PyProof.SetRoads
import PyProof.InstSpecial
import PyProof.Rows.SetFrom
import KE.KSortTup
import PyProof.StrWalks
import PyProof.EnumMake
import PyProof.ConsumeWalk
import PyProof.ListRange
import PyProof.NeKinds
import PyProof.ZipIter
import KE.KTryDeep
import OpenK.KOwn
import PyProof.RulesAs
import PyProof.NsDelKeeps
import PyProof.ExcArgsOwn
import PyProof.ExcAttrAll.ValueError
import KE.KIsAll
import OpenK.KNot
import PyProof.IsiH_list
import PyProof.Rows.FStr
import KE.KDictOf
import PyProof.AttrMissHeap
import PyProof.DictIter
import PyProof.DictWalks
import PyProof.Rows.DictUnroll
import KE.KRevIter
import KE.KDictList
import PyProof.CollectIter
import PyProof.TupleOfGen
import KE.KSortKey
import PyProof.FactsAll.NoneType_1
import PyProof.CompUse
import PyProof.Rows.FStrParts
import PyProof.StrLaws
import PySem.Challenge.RW_treewatch_k31_whole_steps
set_option Elab.async false
set_option linter.all false
set_option maxRecDepth 100000
set_option maxHeartbeats 8000000
open PySem.W (instObj methodObj hideAll hideAll_get of_hideAll lookIn plainGet findIn mroIn kitOne kia_one kitx_list kitx_dict keepIn fnOf codeIn kat_cons KatTups kat_lt_int Looks subIn ktsIn excIn nsIn mg_of mg_none_of)
open PyProof.Rows (boot_dict boot_sorted boot_str)
open PySem.F (slot_tuple_add entry_tuple_add args_tuple_add_2 slot_dict_pop slot_dict_get plainAttrs_dict slot_dict_keyiterator_next plainAttrs_list slot_list_pop type_list_pop)
open List (mem_filter mem_range mem_cons_self mem_cons_of_mem mem_cons mem_append mem_append_left getElem_inj mem_append_right size_toArray append_nil nodup_cons of_mem_zip length length_take getElem?_map mem_of_getElem? length_append length_map map_nil map_cons any_cons length_singleton find?_cons cons_append length_cons length_nil filter_cons length_filter_le toArray find?_eq_none find?_some mem_map any_map any_eq_true length_range length_eq_zero_iff getD_eq_getElem?_getD getElem?_eq_getElem getElem_mem ext_getElem? getElem?_eq_none map_map map_congr_left not_mem_nil take_succ nodup_nil map_append take_length filter_append filter_cons_of_pos filter_cons_of_neg all_eq_true filter_congr Nodup pairwise_map pairwise_cons append_assoc filter_sublist filter_map Sublist nodup_append cons_ne_nil mem_singleton take_append_drop foldl_cons any_nil)
open Nat (lt_of_lt_of_le lt_irrefl ne_of_lt le_trans le_of_lt le_refl zero_le le_succ lt_trans le_of_eq lt_of_le_of_lt lt_succ_of_lt)
open Array (length_toList toList getElem?_toList getD_eq_getD_getElem?)
open Option (map_some isSome_map)
open Bool (and_eq_true false_eq_true)
open PySem.Heap (lt_size SameBut get?_push_of_some get?_push_size size_push FlyingW)
open PySem.Calls (spliced_nil spliced_cons callWith_builtin evalArgs_plain)
open PySem.SeqAt (EqAt in_listAt RcNeAt)
open PySem.Value (float type)
open PySem (SetTable boot_len)
open PySem.Str (empty ofString ext')
open Ne (symm)
noncomputable section
namespace L2
open PySem PySem.Spec PyProof.Rows
abbrev Key:=Sum Int Str
def jv:Key→Value→Bool
 |.inl k,v=>Value.isInt k v
 |.inr x,v=>Value.isStrOf x v
def xk(w:World):Key→Int
 |.inl k=>hashInt k
 |.inr x=>hashStr w x
theorem bj:∀{k:Key}{v:Value},jv k v=true→(∃i t,k=Sum.inl i∧v=Value.int i t)∨(∃x t,k=Sum.inr x∧v=Value.str x t)
 |.inl i,v,h=>by
  obtain⟨t,e⟩:=Value.isInt_shape (k:=i) (v:=v) h;exact .inl ⟨i,t,rfl,e⟩
 |.inr x,v,h=>by
  obtain⟨t,e⟩:=Value.isStrOf_shape (x:=x) (v:=v) h;exact .inr ⟨x,t,rfl,e⟩
theorem pq(i:Int)(t:Tok):jv (.inl i) (.int i t)=true:=by simp[jv,Value.isInt]
theorem pr(x:Str)(t:Tok):jv (.inr x) (.str x t)=true:=by simp[jv,Value.isStrOf]
theorem uE(a b:Int):decide ((Sum.inl a:Key)=Sum.inl b)=(a==b):=by
 by_cases e:a=b
 ·subst e;simp
 ·have h:¬(Sum.inl a:Key)=Sum.inl b:=λq=>e (Sum.inl.inj q);rw[decide_eq_false h];exact(beq_eq_false_iff_ne.mpr e).symm
theorem uF(a b:Str):decide ((Sum.inr a:Key)=Sum.inr b)=decide (a=b):=by
 by_cases e:a=b
 ·subst e;simp
 ·have h:¬(Sum.inr a:Key)=Sum.inr b:=λq=>e (Sum.inr.inj q);rw[decide_eq_false h,decide_eq_false e]
theorem uG(a:Int)(b:Str):decide ((Sum.inl a:Key)=Sum.inr b)=false:=decide_eq_false (λq=>nomatch q)
theorem uH(a:Str)(b:Int):decide ((Sum.inr a:Key)=Sum.inl b)=false:=decide_eq_false (λq=>nomatch q)
def aU(prog:Program)(w:World):PySem.KeyKind prog w Key where
 is:=jv
 hash:=xk w
 inj:=λv a b ha hb=>by
  rcases bj ha with⟨i,t,rfl,rfl⟩|⟨x,t,rfl,rfl⟩
  ·rcases bj hb with⟨j,u,rfl,e⟩|⟨y,u,rfl,e⟩
   ·injection e with e1 _;rw[e1]
   ·exact nomatch e
  ·rcases bj hb with⟨j,u,rfl,e⟩|⟨y,u,rfl,e⟩
   ·exact nomatch e
   ·injection e with e1 _;rw[e1]
 byValue:=λk v h=>by
  rcases bj h with⟨i,t,rfl,rfl⟩|⟨x,t,rfl,rfl⟩<;>rfl
 pyHash:=λhv h=>by
  rcases bj hv with⟨i,t,rfl,rfl⟩|⟨x,t,rfl,rfl⟩
  ·exact wpAny_pyHash_int h
  ·exact wpAny_pyHash_str h
 eqBool:=λhu hv h=>by
  rcases bj hu with⟨i,t,rfl,rfl⟩|⟨x,t,rfl,rfl⟩
  ·rcases bj hv with⟨j,u,rfl,rfl⟩|⟨y,u,rfl,rfl⟩
   ·rw[uE]at h;exact wpAny_eqBool_int h
   ·rw[uG]at h;exact EqAt.int_str i t y u _ _ _ _ h
  ·rcases bj hv with⟨j,u,rfl,rfl⟩|⟨y,u,rfl,rfl⟩
   ·rw[uH]at h;exact EqAt.str_int x t j u _ _ _ _ h
   ·rw[uF]at h;exact wpAny_eqBool_str h
 «strs»:=λk x t v h=>by
  rcases bj h with⟨i,u,rfl,e⟩|⟨y,u,rfl,e⟩
  ·exact nomatch e
  ·injection e with e1 _
   subst e1;cases v<;>rfl
theorem kT(prog:Program)(w:World)(i:Int)(t:Tok):(aU prog w).is (.inl i) (.int i t)=true:=pq i t
theorem kX(prog:Program)(w:World)(x:Str)(t:Tok):(aU prog w).is (.inr x) (.str x t)=true:=pr x t
inductive V where
 |non|bl (b:Bool)|int (i:Int)|str (x:Str)|byt (b:Array UInt8)|flt (b:UInt64)|ref (a:Addr)|ty (n:String)
 deriving DecidableEq
def aN:V→Value→Prop
 |.non,u=>u=Value.none
 |.bl b,u=>u=Value.bool b
 |.int i,u=>∃t,u=Value.int i t
 |.str x,u=>∃t,u=Value.str x t
 |.byt b,u=>∃t,u=Value.bytes b t
 |.flt b,u=>∃t,u=float b t
 |.ref a,u=>u=Value.ref a
 |.ty n,u=>u=type n
abbrev aL:List V→List Value→Prop:=Paired aN
theorem aL.length{xs:List V}{us:List Value}(r:aL xs us):xs.length=us.length:=Paired.length r
theorem aL.get:∀{xs:List V}{us:List Value}{i:Nat}{x:V},aL xs us→xs[i]?=some x→∃u,us[i]?=some u∧aN x u
 |_,_,_,_,.nil,e=>by simp at e
 |_,_,0,_,.cons r _,e=>by simp at e;subst e;exact⟨_,rfl,r⟩
 |_,_,i+1,x,.cons _ t,e=>by
  obtain⟨u,h1,h2⟩:=aL.get (i:=i) (x:=x) t (by simpa using e);exact⟨u,by simpa using h1,h2⟩
theorem aL.append:∀{xs ys:List V}{us ws:List Value},aL xs us→aL ys ws→aL (xs++ys) (us++ws)
 |_,_,_,_,.nil,s=>s
 |_,_,_,_,.cons r t,s=>.cons r (aL.append t s)
theorem aL.take:∀{xs:List V}{us:List Value}(n:Nat),aL xs us→aL (xs.take n) (us.take n)
 |_,_,0,_=>.nil
 |_,_,_+1,.nil=>.nil
 |_,_,n+1,.cons r t=>.cons r (aL.take n t)
theorem aL.drop:∀{xs:List V}{us:List Value}(n:Nat),aL xs us→aL (xs.drop n) (us.drop n)
 |_,_,0,r=>r
 |_,_,_+1,.nil=>.nil
 |_,_,n+1,.cons _ t=>aL.drop n t
def eS:Option V→Option Value→Prop
 |some v,some u=>aN v u
 |none,none=>True
 |_,_=>False
def KV{κ:Type}:List (κ×V)→List (κ×Value)→Prop:=Paired λ(p:κ×V) (q:κ×Value)=>p.1=q.1∧aN p.2 q.2
def kV:Key→V
 |.inl i=>.int i
 |.inr x=>.str x
inductive HO where
 |lst (xs:List V)
 |tup (xs:List V)
 |dK (kvs:List (Key×V))|dT (kvs:List (List Key×V))
 |set (S:Int→Bool) (n:Nat)
 |ins (C dx:Addr) (fs:List (Str×V))
 |own (x:Addr)
 |xd (fs:List (Str×V))
 |met (f x:Addr)
 |rng (lo hi:Int)
 |frz (o:Obj) (u:HO)
 |tbl (ps:Array Value)
 |ext (φ:Heap→Prop)
abbrev Hp:=Addr→Option HO
def upd(H:Hp)(a:Addr)(o:HO):Hp:=λb=>if b=a then some o else H b
theorem ac{H:Hp}{a:Addr}{o:HO}:upd H a o a=some o:=by unfold upd;rw[if_pos rfl]
theorem ak{H:Hp}{a b:Addr}{o:HO}(h:b≠a):upd H a o b=H b:=by unfold upd;rw[if_neg h]
theorem wv{H:Hp}{a b:Addr}{o u:HO}(h:H a=some o)(h':H b=some u)(d:o≠u):a≠b:=by
 intro e;subst e;rw[h]at h';exact d (Option.some.inj h')
theorem cp{H:Hp}{a b:Addr}{o:HO}(h:H a=some o)(h':H b=none):a≠b:=by
 intro e;subst e;rw[h]at h';cases h'
section
variable(P:Program)(w:World)
def bq(H:Hp)(h:Heap)(a:Addr):HO→Prop
 |.lst xs=>xs.length≤sizeLine∧∃(its:List Value) (n:Nat),aL xs its∧h.get? a=some {cls:=.type "list",data:=.seq its.toArray n}
 |.tup xs=>xs.length≤sizeLine∧∃its:List Value,aL xs its∧IsTup h a its.toArray
 |.dK kvs=>kvs.length≤sizeLine∧(a==sysModules)=false∧∃vs,KV kvs vs∧h.DictOf (aU P w) a vs
 |.dT kvs=>kvs.length≤sizeLine∧(a==sysModules)=false∧∃xs:List (List Key×Addr×Value),
   Paired (λ(p:List Key×V) (q:List Key×Addr×Value)=>p.1=q.1∧H q.2.1=some (.tup (p.1.map kV))∧aN p.2 q.2.2) kvs xs ∧
   ∃o es ep,h.get? a=some o∧o.ExactDict∧o.data=.dict es ep∧es.toList=xs.map (entryOfKey (tupleKind (aU P w)))∧(xs.map (·.1)).Nodup
 |.set S n=>h.SetOf (intKind P w) a S n
 |.ins C dx fs=>H dx=some (.own a)∧fs.length≤1000∧dx≠a∧h.get? a=some (instObj C dx) ∧
   ∃mA,h.Ns1 dx mA∧(∀f,eS (fs.lookup f) (mA f))∧PySem.Within mA (fs.map (·.1))
 |.own _=>∃o,h.get? a=some o
 |.xd fs=>∃mA,h.Ns1 a mA∧∀f,eS (fs.lookup f) (mA f)
 |.rng lo hi=>∃t u v,h.get? a=some {cls:=.type "range",data:=.fields #[.int lo t,.int hi u,.int 1 v]}
 |.frz o u=>h.get? a=some o∧bq H h a u
 |.tbl ps=>h.get? a=some {cls:=.none,data:=.fields ps}
 |.met f x=>h.get? a=some (methodObj (.ref f) (.ref x))
 |.ext φ=>φ h∧(∃o,h.get? a=some o)∧∀h1 h2:Heap,φ h1→(∀o,h1.get? a=some o→h2.get? a=some o)→φ h2
def HOk(H:Hp)(h:Heap):Prop:=∀a o,H a=some o→bq P w H h a o
end
section
variable{P:Program}{w:World}{H H':Hp}{h h':Heap}{a:Addr}{o:HO}
theorem bq.lt(x:bq P w H h a o):a<h.objs.size:=by
 cases o with
 |lst xs=>obtain⟨_,_,_,_,e⟩:=x;exact lt_size e
 |tup xs=>obtain⟨_,_,_,p⟩:=x;exact p.lt
 |dK kvs=>obtain⟨_,_,_,_,o,_,_,e,_⟩:=x;exact lt_size e
 |dT kvs=>obtain⟨_,_,_,_,o,_,_,e,_⟩:=x;exact lt_size e
 |set S n=>obtain⟨o,_,_,_,e,_⟩:=x;exact lt_size e
 |ins C dx fs=>obtain⟨_,_,_,e,_⟩:=x;exact lt_size e
 |own y=>obtain⟨_,e⟩:=x;exact lt_size e
 |xd fs=>obtain⟨_,⟨_,_,_,e,_⟩,_⟩:=x;exact lt_size e
 |rng lo hi=>obtain⟨_,_,_,e⟩:=x;exact lt_size e
 |frz ob u=>obtain⟨e,_⟩:=x;exact lt_size e
 |tbl ps=>exact lt_size (show h.get? a=some _ from x)
 |met f y=>exact lt_size (show h.get? a=some _ from x)
 |ext φ=>obtain⟨_,⟨_,e⟩,_⟩:=x;exact lt_size e
theorem Paired.mapP{α β:Type}{F G:α→β→Prop}:∀{l₁:List α}{l₂:List β},Paired F l₁ l₂→(∀a b,F a b→G a b)→Paired G l₁ l₂
 |_,_,.nil,_=>.nil
 |_,_,.cons r t,f=>.cons (f _ _ r) (Paired.mapP t f)
theorem bq.stay(x:bq P w H h a o)(k:∀b u,(b=a∨H b=some (.own a))→h.get? b=some u→h'.get? b=some u)(ho:∀b,H b=some (.own a)→H' b=some (.own a))(ht:∀b xs,H b=some (.tup xs)→H' b=some (.tup xs)):bq P w H' h' a o:=by
 induction o with
 |lst xs=>obtain⟨z,its,n,r,e⟩:=x;exact⟨z,its,n,r,k _ _ (.inl rfl) e⟩
 |tup xs=>obtain⟨z,its,r,ob,e,c⟩:=x;exact⟨z,its,r,ob,k _ _ (.inl rfl) e,c⟩
 |dK kvs=>obtain⟨z,y,vs,r,ob,es,ep,e,c⟩:=x;exact⟨z,y,vs,r,ob,es,ep,k _ _ (.inl rfl) e,c⟩
 |dT kvs =>
  obtain⟨z,y,xs,r,ob,es,ep,e,c⟩:=x;exact⟨z,y,xs,Paired.mapP r λp q z=>⟨z.1,ht _ _ z.2.1,z.2.2⟩,ob,es,ep,k _ _ (.inl rfl) e,c⟩
 |set S n=>obtain⟨ob,es,ep,t,e,c⟩:=x;exact⟨ob,es,ep,t,k _ _ (.inl rfl) e,c⟩
 |ins C dx fs =>
  obtain⟨d,z,ne,e,mA,⟨od,es,ep,e2,c⟩,r⟩:=x;exact⟨ho _ d,z,ne,k _ _ (.inl rfl) e,mA,⟨od,es,ep,k _ _ (.inr d) e2,c⟩,r⟩
 |own y=>obtain⟨ob,e⟩:=x;exact⟨ob,k _ _ (.inl rfl) e⟩
 |xd fs=>obtain⟨mA,⟨od,es,ep,e,c⟩,r⟩:=x;exact⟨mA,⟨od,es,ep,k _ _ (.inl rfl) e,c⟩,r⟩
 |rng lo hi=>obtain⟨t,u,v,e⟩:=x;exact⟨t,u,v,k _ _ (.inl rfl) e⟩
 |frz ob u ih=>obtain⟨e,q⟩:=x;exact⟨k _ _ (.inl rfl) e,ih q⟩
 |tbl ps =>
  have e:h.get? a=some {cls:=.none,data:=.fields ps}:=x;show h'.get? a=some {cls:=.none,data:=.fields ps};exact k a _ (.inl rfl) e
 |met f y =>
  have e:h.get? a=some (methodObj (.ref f) (.ref y)):=x;show h'.get? a=some (methodObj (.ref f) (.ref y));exact k a _ (.inl rfl) e
 |ext φ=>obtain⟨p,⟨o,e⟩,st⟩:=x;exact⟨st _ _ p λo q=>k _ _ (.inl rfl) q,⟨o,k _ _ (.inl rfl) e⟩,st⟩
theorem HOk.lt(x:HOk P w H h)(e:H a=some o):a<h.objs.size:=(x a o e).lt
theorem HOk.fresh(x:HOk P w H h)(e:h.objs.size≤a):H a=none:=by
 cases q:H a with
 |none=>rfl
 |some u=>exact absurd (lt_of_lt_of_le (x.lt q) e) (lt_irrefl _)
theorem HOk.kept(x:HOk P w H h)(k:∀b u,h.get? b=some u→h'.get? b=some u):HOk P w H h':=λa o e =>
 (x a o e).stay (λb u _ q=>k b u q) (λ_ q=>q) λ_ _ q=>q
theorem HOk.laid(x:HOk P w H h)(k:∀b u,h.get? b=some u→h'.get? b=some u)(hp:h.objs.size≤a)(new:bq P w (upd H a o) h' a o):HOk P w (upd H a o) h':=λb u e=>by
 have hn:=x.fresh hp
 by_cases hb:b=a
 ·subst hb;rw[ac]at e;cases e;exact new
 ·rw[ak hb]at e;exact(x b u e).stay (λc v _ q=>k c v q) (λc q=>by rw[ak (cp q hn)];exact q) λc xs q=>by rw[ak (cp q hn)];exact q
end
def Rd(H:Hp)(a:Addr)(u:HO):Prop:=H a=some u∨∃o,H a=some (.frz o u)
theorem Rd.of{H:Hp}{a:Addr}{u:HO}(h:H a=some u):Rd H a u:=.inl h
theorem Rd.ok{P:Program}{w:World}{H:Hp}{h:Heap}{a:Addr}{u:HO}(r:Rd H a u)(x:HOk P w H h):bq P w H h a u:=by
 rcases r with r|⟨o,r⟩
 ·exact x a u r
 ·obtain⟨_,q⟩:=x a _ r;exact q
def Mut:Option HO→Prop
 |some (.lst _)=>True
 |some (.dK _)=>True
 |some (.dT _)=>True
 |some (.set _ _)=>True
 |some (.ins _ _ _)=>True
 |some (.ext _)=>True
 |_=>False
section
variable{P:Program}{w:World}{H:Hp}{h h':Heap}{x e:Addr}{o':HO}
theorem HOk.write(ok:HOk P w H h)(mu:Mut (H x))(he:e=x∨H e=some (.own x))(k:∀b u,b≠e→h.get? b=some u→h'.get? b=some u)(heo:∃u,h'.get? e=some u)(new:bq P w (upd H x o') h' x o'):HOk P w (upd H x o') h':=λb u q=>by
 have nown:∀c y,H c=some (.own y)→c≠x:=λc y r z=>by subst z;rw[r]at mu;exact mu
 have ntup:∀c xs,H c=some (.tup xs)→c≠x:=λc xs r z=>by subst z;rw[r]at mu;exact mu
 by_cases hb:b=x
 ·subst hb;rw[ac]at q;cases q;exact new
 ·rw[ak hb]at q
  by_cases hbe:b=e
  ·have q':H b=some (.own x):=by
    rcases he with z|z
    ·exact absurd (hbe.trans z) hb
    ·rw[hbe];exact z
   rw[q]at q';cases q';obtain⟨v,hv⟩:=heo;exact⟨v,by rw[hbe];exact hv⟩
  ·refine(ok b u q).stay (λc v hc r=>k c v ?_ r) (λc r=>by rw[ak (nown c b r)];exact r) λc xs r=>by rw[ak (ntup c xs r)];exact r
   rcases hc with rfl|hc
   ·exact hbe
   ·rintro rfl;rcases he with z|z
    ·exact nown c b hc z
    ·rw[hc]at z;cases z;exact hb rfl
end
structure Un(fs ex:List Addr)(H H':Hp)(h h':Heap):Prop where
 keep:∀b o,h.get? b=some o→H b=none→b∉fs→b∉ex→h'.get? b=some o
 slot:∀b o,h.get? b=some o→H b=none→b∈fs→b∉ex→∃sl,h'.get? b=some {o with slots:=sl}
 free:∀b o,h.get? b=some o→H b=none→b∉ex→H' b=none
 there:∀b o,h.get? b=some o→b∉ex→∃o',h'.get? b=some o'
 tups:∀b xs,H b=some (.tup xs)→H' b=some (.tup xs)
 frzs:∀b o u,H b=some (.frz o u)→H' b=some (.frz o u)
 tbls:∀b ps,H b=some (.tbl ps)→∃more,H' b=some (.tbl (ps++more))
section
variable{fs fs' ex ex':List Addr}{H H1 H2:Hp}{h h1 h2 h':Heap}{a x e:Addr}{o:HO}
theorem Un.any(u:Un fs ex H H1 h h1){b:Addr}{ob:Obj}(q:h.get? b=some ob)(n:H b=none)(hx:b∉ex):∃sl,h1.get? b=some {ob with slots:=sl}:=by
 by_cases hb:b∈fs
 ·exact u.slot b ob q n hb hx
 ·exact⟨ob.slots,u.keep b ob q n hb hx⟩
theorem Un.kept(k:∀b u,h.get? b=some u→h'.get? b=some u):Un fs ex H H h h' :=
 ⟨λb ob q _ _ _=>k b ob q,λb ob q _ _ _=>⟨ob.slots,k b ob q⟩,λ_ _ _ n _=>n,λb ob q _=>⟨ob,k b ob q⟩,λ_ _ q=>q,λ_ _ _ q=>q,λ_ ps q=>⟨#[],by rw[q];simp⟩⟩
theorem Un.refl:Un fs ex H H h h:=Un.kept λ_ _ q=>q
theorem Un.laid(k:∀b u,h.get? b=some u→h'.get? b=some u)(hp:h.objs.size≤a)(hn:H a=none):Un fs ex H (upd H a o) h h' where
 keep:=λb u q _ _ _=>k b u q
 slot:=λb u q _ _ _=>⟨u.slots,k b u q⟩
 free:=λb u q n _=>by rw[ak (ne_of_lt (lt_of_lt_of_le (lt_size q) hp))];exact n
 there:=λb u q _=>⟨u,k b u q⟩
 tups:=λb xs q=>by rw[ak (cp q hn)];exact q
 frzs:=λb u xs q=>by rw[ak (cp q hn)];exact q
 tbls:=λb ps q=>⟨#[],by rw[ak (cp q hn),q];simp⟩
theorem Un.write(mu:Mut (H x))(he:e=x∨H e=some (.own x))(k:∀b u,b≠e→h.get? b=some u→h'.get? b=some u)(heo:∃u,h'.get? e=some u):Un fs ex H (upd H x o) h h':=by
 have hx:∀b,H b=none→b≠x:=λb n z=>by subst z;rw[n]at mu;exact mu
 have hb:∀b,H b=none→b≠e:=λb n z=>by
  subst z;rcases he with r|r
  ·exact hx b n r
  ·rw[n]at r;cases r
 have hm:∀b u,H b=some u→¬Mut (some u)→b≠x:=λb u q nm z=>by subst z;rw[q]at mu;exact nm mu
 refine⟨λb u q n _ _=>k b u (hb b n) q,λb u q n _ _=>⟨u.slots,k b u (hb b n) q⟩,λb u q n _=>by rw[ak (hx b n)];exact n,λb u q _=>?_,
  λb xs q=>by rw[ak (hm b _ q λz=>z)];exact q,λb u xs q=>by rw[ak (hm b _ q λz=>z)];exact q,λb ps q=>⟨#[],by rw[ak (hm b _ q λz=>z),q];simp⟩⟩
 by_cases hbe:b=e
 ·subst hbe;exact heo
 ·exact⟨u,k b u hbe q⟩
end
def trk(h:Heap)(H:Hp):List Addr:=(List.range h.objs.size).filter λa=>(H a).isSome
def jY(h:Heap)(H:Hp):Heap:=hideAll h (trk h H)
theorem pw(h:Heap)(H:Hp):(jY h H).objs.size=h.objs.size:=PySem.W.hideAll_size _ _
theorem qi{h:Heap}{H:Hp}{b:Addr}{o:Obj}(e:h.get? b=some o)(n:H b=none):(jY h H).get? b=some o :=
 hideAll_get _ e λhm=>by
  have q:(H b).isSome=true:=(mem_filter.mp hm).2;rw[n]at q;simp at q
theorem sj{h:Heap}{H:Hp}{b:Addr}{o:Obj}(e:(jY h H).get? b=some o):h.get? b=some o∧H b=none:=by
 have e':h.get? b=some o:=of_hideAll (trk h H) e;refine⟨e',?_⟩;cases q:H b with
 |none=>rfl
 |some x =>
  have hm:b∈trk h H:=mem_filter.mpr ⟨mem_range.mpr (lt_size e'),by simp[q]⟩;have z:(jY h H).get? b=none:=PySem.W.hideAll_none (trk h H) hm;rw[z]at e;cases e
structure Mod(K:PySem.W.Frag)(mg:Str→Option Value)(base:Heap):Prop where
 kin:K.In base
 glob:base.Ns mainGlobals mg
 blt:∃mb,base.Ns builtinsNs mb∧∀x:Str,x≠"__name__"→mb x=bootBuiltins x
 nolimit:base.NoLimit
structure Cx where
 prog:Program
 w:World
 K:PySem.W.Frag
 mg:Str→Option Value
 base:Heap
 A:Around
 N:List Str
 s₀:Shared
 H₀:Hp
 env:Env
 outer:List Env
 stack:List Env
 ex:List Addr
 fn:Str→Bool
 calm:Bool
 pn:List (Addr×Obj)
 xe:Value→Shared→Prop
def frs(l:List Env):List Addr:=l.filterMap (·.frame)
abbrev Cx.fs(X:Cx):List Addr:=frs X.outer
def Vis(sc:Scope)(x:Str):Prop:=sc.names.lookup x=some .local∨sc.names.lookup x=some .cell∨sc.names.lookup x=some .free
def Loc(sc:Scope)(x:Str):Prop:=sc.names.lookup x=some .local∨sc.names.lookup x=some .cell
def xl(env:Env)(h:Heap)(m:Str→Option Value)(x:Str)(u:Value):Prop :=
 (env.kindOf x=some .local∧m x=some u)∨((env.kindOf x=some .cell∨env.kindOf x=some .free)∧∃c,env.cells.lookup x=some c∧h.IsCell c (some u))
structure Cx.Ok(X:Cx):Prop where
 mod:Mod X.K X.mg X.base
 kind:X.env.scope.kind=.function
 glob:X.env.globals=mainGlobals
 blt:X.env.builtins=builtinsNs
 above:X.s₀.heap.objs.size≤X.env.locals
 inj:∀x y c,X.env.cells.lookup x=some c→X.env.cells.lookup y=some c→x=y
 has:∀x,(X.env.kindOf x=some .cell∨X.env.kindOf x=some .free)→∃c,X.env.cells.lookup x=some c
 cab:∀x c,X.fn x=true→X.env.cells.lookup x=some c→X.s₀.heap.objs.size≤c
 hd:X.calm=true→X.A.handled=none
 frames:X.A.frames=some X.stack
 stk:X.stack=X.outer∨(X.stack=X.env::X.outer∧X.env.frame=some X.env.locals)
 exf:∀b∈X.ex,b≠X.env.locals∧∀x c,X.env.cells.lookup x=some c→c≠b
 bs:∀b o,X.base.get? b=some o→X.s₀.heap.get? b=some o∧X.H₀ b=none
 bsz:X.base.objs.size≤X.s₀.heap.objs.size
 noex:∀b o,X.base.get? b=some o→b∉X.ex
 exfs:∀b∈X.ex,b∉X.fs
 funs:X.s₀.heap.FunFrames X.base X.outer
 frf:∀b∈X.fs,X.H₀ b=none
structure Inv(X:Cx)(pins:List (Addr×Obj))(σ:List (Option V))(H:Hp)(s:Shared):Prop where
 ok:X.Ok
 os:s.os=X.s₀.os
 bare:AllBare s.gens
 base:Un X.fs X.ex X.H₀ H X.s₀.heap s.heap
 loc:∃m,s.heap.Ns X.env.locals m∧∀(i:Nat)(x:Str)(v:V),X.N[i]?=some x→σ[i]?=some (some v)→Vis X.env.scope x→∃u,aN v u∧xl X.env s.heap m x u
 cell:∀x c,X.env.cells.lookup x=some c→∃v,s.heap.IsCell c v
 free:H X.env.locals=none
 freeC:∀x c,X.env.cells.lookup x=some c→H c=none
 pin:∀p∈X.pn++pins,s.heap.get? p.1=some p.2∧H p.1=none∧p.1≠X.env.locals∧p.1∉X.fs∧∀v,p.2.data≠.cell v
 hok:HOk X.prog X.w H s.heap
 len:σ.length=X.N.length
section
variable{X:Cx}{pins:List (Addr×Obj)}{σ:List (Option V)}{H H':Hp}{s:Shared}{h':Heap}
theorem Cx.Ok.nofr(ok:X.Ok){b:Addr}{o:Obj}(e:X.base.get? b=some o):b∉X.fs:=λhb=>by
 have:=(ok.funs.mem hb).1;rw[e]at this;cases this
theorem Inv.bs(I:Inv X pins σ H s):∀b o,X.base.get? b=some o→s.heap.get? b=some o∧H b=none:=λb o e =>
 ⟨I.base.keep b o (I.ok.bs b o e).1 (I.ok.bs b o e).2 (I.ok.nofr e) (I.ok.noex b o e),I.base.free b o (I.ok.bs b o e).1 (I.ok.bs b o e).2 (I.ok.noex b o e)⟩
theorem Inv.bk(I:Inv X pins σ H s):∀b o,X.base.get? b=some o→s.heap.get? b=some o:=λb o e=>(I.bs b o e).1
theorem Inv.mod(I:Inv X pins σ H s):Mod X.K X.mg X.base:=I.ok.mod
theorem Inv.kIn(I:Inv X pins σ H s):X.K.In s.heap:=I.ok.mod.kin.keeps I.bk
theorem Inv.lt(I:Inv X pins σ H s):X.env.locals<s.heap.objs.size:=let⟨_,hn,_⟩:=I.loc;hn.lt
theorem Inv.sz(I:Inv X pins σ H s):X.s₀.heap.objs.size≤s.heap.objs.size:=le_trans I.ok.above (le_of_lt I.lt)
theorem Inv.nofs(I:Inv X pins σ H s){a:Addr}(h:s.heap.objs.size≤a):a∉X.fs:=λhb=>by
 obtain⟨_,o,ho,_⟩:=I.ok.funs.mem hb;exact absurd (lt_of_lt_of_le (lt_size ho) (le_trans I.sz h)) (lt_irrefl _)
theorem Inv.cne(I:Inv X pins σ H s):∀x c,X.env.cells.lookup x=some c→c≠X.env.locals:=λx c e z=>by
 obtain⟨v,o,ho,hd⟩:=I.cell x c e;obtain⟨m,⟨o',es,ep,ho',hd',_⟩,_⟩:=I.loc;rw[z,ho']at ho;cases ho;rw[hd']at hd;cases hd
theorem Inv.funs(I:Inv X pins σ H s):s.heap.FunFrames X.base X.outer:=by
 have all:∀(l:List Env),(∀b∈frs l,b∈X.fs)→X.s₀.heap.FunFrames X.base l→s.heap.FunFrames X.base l:=by
  intro l
  induction l with
  |nil=>intro _ _;trivial
  |cons env r ih =>
   intro hs hl;obtain⟨hk,⟨L,o,hf,hn,ho,hd⟩,hr⟩:=hl;have hL:L∈X.fs:=hs L (by unfold frs;rw[List.filterMap_cons,hf];exact mem_cons_self);obtain⟨sl,e⟩:=I.base.slot L o ho (I.ok.frf L hL) hL λz=>I.ok.exfs L z hL;exact⟨hk,⟨L,_,hf,hn,e,hd⟩,ih (λb hb=>hs b (by unfold frs;rw[List.filterMap_cons,hf];exact mem_cons_of_mem _ hb)) hr⟩
 exact all X.outer (λ_ hb=>hb) I.ok.funs
theorem Inv.stack(I:Inv X pins σ H s):s.heap.FunFrames X.base X.stack:=by
 rcases I.ok.stk with e|⟨e,hf⟩
 ·rw[e];exact I.funs
 ·rw[e];obtain⟨m,hn,_⟩:=I.loc;refine .cons (by rw[I.ok.kind];decide) hf hn ?_ I.funs;exact Heap.get?_none_of_le (le_trans I.ok.bsz I.ok.above)
theorem Inv.stkSub(I:Inv X pins σ H s):∀b∈frs X.stack,b∈X.env.locals::X.fs:=λb hb=>by
 rcases I.ok.stk with e|⟨e,hf⟩
 ·rw[e]at hb;exact mem_cons_of_mem _ hb
 ·rw[e]at hb;unfold frs at hb;rw[List.filterMap_cons,hf]at hb;exact hb
theorem Inv.stkFree(I:Inv X pins σ H s):∀b∈frs X.stack,H b=none:=λb hb=>by
 rcases mem_cons.mp (I.stkSub b hb)with e|hb
 ·rw[e];exact I.free
 ·obtain⟨_,o,ho,_⟩:=I.ok.funs.mem hb;exact I.base.free b o ho (I.ok.frf b hb) λz=>I.ok.exfs b z hb
theorem Inv.step{g':Array GenState}{t':Nat}{d':Drawn}{ch:List Addr}(I:Inv X pins σ H s)(hch:∀b∈ch,(b∈X.ex∨X.s₀.heap.objs.size≤b)∧b≠X.env.locals∧(∀x c,X.env.cells.lookup x=some c→c≠b)∧∀p∈X.pn++pins,p.1≠b)(keep:∀b o,b≠X.env.locals→b∉X.fs→b∉ch→s.heap.get? b=some o→H b=none→h'.get? b=some o)(slot:∀b o,b≠X.env.locals→b∈X.fs→b∉ch→s.heap.get? b=some o→H b=none→∃sl,h'.get? b=some {o with slots:=sl})(free:∀b o,b∉ch→s.heap.get? b=some o→H b=none→H' b=none)(there:∀b o,b∉ch→s.heap.get? b=some o→∃o',h'.get? b=some o')(tups:∀b xs,H b=some (.tup xs)→H' b=some (.tup xs))(frzs:∀b o u,H b=some (.frz o u)→H' b=some (.frz o u))(tbls:∀b ps,H b=some (.tbl ps)→∃more,H' b=some (.tbl (ps++more)))(ns:∀m,s.heap.Ns X.env.locals m→h'.Ns X.env.locals m)(hok:HOk X.prog X.w H' h')(hg:AllBare g'):
  Inv X pins σ H' {s with heap:=h',gens:=g',drawn:=d',toks:=t'}:=by
 have neL:∀b o,X.s₀.heap.get? b=some o→b≠X.env.locals:=λb o e=>ne_of_lt (lt_of_lt_of_le (lt_size e) I.ok.above);have neC:∀b o,X.s₀.heap.get? b=some o→b∉X.ex→b∉ch:=λb o e hx hb=>by
  rcases (hch b hb).1 with z|z
  ·exact hx z
  ·exact absurd (lt_of_lt_of_le (lt_size e) z) (lt_irrefl _)
 have cellK:∀x c,X.env.cells.lookup x=some c→∀v,s.heap.IsCell c v→h'.IsCell c v:=λx c e v ⟨o,ho,hd⟩=>by
  have nch:c∉ch:=λz=>(hch c z).2.2.1 x c e rfl
  by_cases hc:c∈X.fs
  ·obtain⟨sl,q⟩:=slot c o (I.cne x c e) hc nch ho (I.freeC x c e);exact⟨_,q,hd⟩
  ·exact⟨o,keep c o (I.cne x c e) hc nch ho (I.freeC x c e),hd⟩
 refine⟨I.ok,I.os,hg,⟨λb o e n hb hx=>?_,λb o e n hb hx=>?_,λb o e n hx=>?_,λb o e hx=>?_,λb xs e=>tups b xs (I.base.tups b xs e),λb o xs e=>frzs b o xs (I.base.frzs b o xs e),λb ps e=>?_⟩,?_,λx c e=>?_,?_,λx c e=>?_,λp hp=>?_,hok,I.len⟩
 ·exact keep b o (neL b o e) hb (neC b o e hx) (I.base.keep b o e n hb hx) (I.base.free b o e n hx)
 ·obtain⟨sl,e1⟩:=I.base.slot b o e n hb hx;obtain⟨sl',e2⟩:=slot b _ (neL b o e) hb (neC b o e hx) e1 (I.base.free b o e n hx);exact⟨sl',e2⟩
 ·obtain⟨o',e1⟩:=I.base.there b o e hx;exact free b o' (neC b o e hx) e1 (I.base.free b o e n hx)
 ·obtain⟨o',e1⟩:=I.base.there b o e hx;exact there b o' (neC b o e hx) e1
 ·obtain⟨m1,e1⟩:=I.base.tbls b ps e;obtain⟨m2,e2⟩:=tbls b _ e1;exact⟨m1++m2,by rw[e2,Array.append_assoc]⟩
 ·obtain⟨m,hn,hl⟩:=I.loc;refine⟨m,ns m hn,λi x v e1 e2 e3=>?_⟩;obtain⟨u,r,l⟩:=hl i x v e1 e2 e3;refine⟨u,r,?_⟩;rcases l with l|⟨k,c,e,z⟩
  ·exact .inl l
  ·exact .inr ⟨k,c,e,cellK x c e _ z⟩
 ·obtain⟨v,z⟩:=I.cell x c e;exact⟨v,cellK x c e v z⟩
 ·obtain⟨m,⟨o,_,_,ho,_⟩,_⟩:=I.loc;exact free _ o (λz=>(hch _ z).2.1 rfl) ho I.free
 ·obtain⟨v,o,ho,hd⟩:=I.cell x c e;exact free c o (λz=>(hch c z).2.2.1 x c e rfl) ho (I.freeC x c e)
 ·obtain⟨e,n,ne,nf,d⟩:=I.pin p hp;have nch:p.1∉ch:=λz=>(hch p.1 z).2.2.2 p hp rfl;exact⟨keep p.1 p.2 ne nf nch e n,free p.1 p.2 nch e n,ne,nf,d⟩
theorem Inv.un{t':Nat}(I:Inv X pins σ H s)(u:Un X.fs [] H H' s.heap h')(hok:HOk X.prog X.w H' h'):Inv X pins σ H' {s with heap:=h',toks:=t'}:=by
 obtain⟨m,⟨o,es,ep,ho,r⟩,_⟩:=id I.loc;obtain⟨sl,hL⟩:=u.any ho I.free (by simp);exact I.step (g':=s.gens) (d':=s.drawn) (ch:=[]) (λ_ z=>nomatch z) (λb o _ hb _ e n=>u.keep b o e n hb (by simp)) (λb o _ hb _ e n=>u.slot b o e n hb (by simp)) (λb o _ e n=>u.free b o e n (by simp)) (λb o _ e=>u.there b o e (by simp)) u.tups u.frzs u.tbls (λm' hm=>by
  obtain⟨o',es',ep',ho',r'⟩:=hm;rw[ho]at ho';cases ho';exact⟨_,es',ep',hL,r'⟩) hok I.bare
theorem Inv.call{g':Array GenState}{t':Nat}{d':Drawn}{ch:List Addr}(I:Inv X pins σ H s)(u:Un (frs X.stack) ch H H' s.heap h')(hok:HOk X.prog X.w H' h')(hg:AllBare g')(hch:∀b∈ch,(b∈X.ex∨X.s₀.heap.objs.size≤b)∧b≠X.env.locals∧(∀x c,X.env.cells.lookup x=some c→c≠b)∧∀p∈X.pn++pins,p.1≠b):
  Inv X pins σ H' {s with heap:=h',gens:=g',drawn:=d',toks:=t'}:=by
 obtain⟨m,⟨o,es,ep,ho,r⟩,_⟩:=id I.loc;obtain⟨sl,hL⟩:=u.any ho I.free λz=>(hch _ z).2.1 rfl;exact I.step (ch:=ch) hch (λb o hL hb hc e n=>u.keep b o e n (λz=>(mem_cons.mp (I.stkSub b z)).elim hL hb) hc) (λb o _ _ hc e n=>u.any e n hc) (λb o hc e n=>u.free b o e n hc) (λb o hc e=>u.there b o e hc) u.tups u.frzs u.tbls (λm' hm=>by
  obtain⟨o',es',ep',ho',r'⟩:=hm;rw[ho]at ho';cases ho';exact⟨_,es',ep',hL,r'⟩) hok hg
theorem Inv.turned{t':Nat}{it:Addr}(I:Inv X pins σ H s)(k:∀b o,b≠it→s.heap.get? b=some o→h'.get? b=some o)(hn:H it=none)(hL:it≠X.env.locals)(h1:it∈X.ex∨X.s₀.heap.objs.size≤it)(h2:∀x c,X.env.cells.lookup x=some c→c≠it)(h3:∀p∈X.pn++pins,p.1≠it):Inv X pins σ H {s with heap:=h',toks:=t'}:=by
 have nit:∀b u,H b=some u→b≠it:=λb u e z=>by rw[z,hn]at e;cases e
 refine I.step (g':=s.gens) (d':=s.drawn) (ch:=[it]) (λb hb=>?_) (λb o _ _ hc e _=>k b o (λz=>hc (by simp[z])) e) (λb o _ _ hc e _=>⟨o.slots,k b o (λz=>hc (by simp[z])) e⟩) (λ_ _ _ _ n=>n)
  (λb o hc e=>⟨o,k b o (λz=>hc (by simp[z])) e⟩) (λ_ _ e=>e) (λ_ _ _ e=>e) (λb ps e=>⟨#[],by rw[e];simp⟩) (λm hm=>?_) (λb u e=>?_) I.bare
 ·have e:b=it:=by simpa using hb
  subst e;exact⟨h1,hL,h2,h3⟩
 ·obtain⟨o,es,ep,ho,r⟩:=hm;exact⟨o,es,ep,k _ o (symm hL) ho,r⟩
 ·refine(I.hok b u e).stay (λc v hc q=>k c v ?_ q) (λ_ q=>q) λ_ _ q=>q;rcases hc with z|z
  ·rw[z];exact nit b u e
  ·exact nit c _ z
theorem Inv.tok(I:Inv X pins σ H s)(t:Nat):Inv X pins σ H {s with toks:=t}:=I.un (h':=s.heap) (t':=t) Un.refl I.hok
theorem Inv.kept{t':Nat}(I:Inv X pins σ H s)(k:∀b u,s.heap.get? b=some u→h'.get? b=some u):Inv X pins σ H {s with heap:=h',toks:=t'}:=I.un (Un.kept k) (I.hok.kept k)
theorem Inv.laid{a:Addr}{o:HO}{t':Nat}(I:Inv X pins σ H s)(k:∀b u,s.heap.get? b=some u→h'.get? b=some u)(hp:s.heap.objs.size≤a)(new:bq X.prog X.w (upd H a o) h' a o):
  Inv X pins σ (upd H a o) {s with heap:=h',toks:=t'}:=I.un (Un.laid k hp (I.hok.fresh hp)) (I.hok.laid k hp new)
theorem Inv.write{x e:Addr}{o:HO}{t':Nat}(I:Inv X pins σ H s)(mu:Mut (H x))(he:e=x∨H e=some (.own x))(k:∀b u,b≠e→s.heap.get? b=some u→h'.get? b=some u)(heo:∃u,h'.get? e=some u)(new:bq X.prog X.w (upd H x o) h' x o):Inv X pins σ (upd H x o) {s with heap:=h',toks:=t'}:=I.un (Un.write mu he k heo) (I.hok.write mu he k heo new)
theorem Inv.pins_of{pins':List (Addr×Obj)}(I:Inv X pins σ H s)(h:∀p∈pins',s.heap.get? p.1=some p.2∧H p.1=none∧p.1≠X.env.locals∧p.1∉X.fs∧∀v,p.2.data≠.cell v):Inv X pins' σ H s :=
 ⟨I.ok,I.os,I.bare,I.base,I.loc,I.cell,I.free,I.freeC,λp hp=>(mem_append.mp hp).elim (λz=>I.pin p (mem_append_left _ z)) (h p),I.hok,I.len⟩
theorem kY{N:List Str}(hN:N.Nodup){i j:Nat}{x:Str}(a:N[i]?=some x)(b:N[j]?=some x):i=j:=by
 obtain⟨h1,e1⟩:=List.getElem?_eq_some_iff.mp a;obtain⟨h2,e2⟩:=List.getElem?_eq_some_iff.mp b;exact(getElem_inj hN).mp (e1.trans e2.symm)
theorem gW{M:Model}{A:Around}{E:Value→Shared→Prop}{i:Nat}{x:Str}{v:V}{u:Value}{Q:Unit→Shared→Prop}(I:Inv X pins σ H s)(hN:X.N.Nodup)(hi:X.N[i]?=some x)(hx:Loc X.env.scope x)(r:aN v u)(h:∀s',Inv X pins (σ.set i (some v)) H s'→(∃a,SameBut a s.heap s'.heap∧(a=X.env.locals∨X.env.cells.lookup x=some a))→Q () s')(hf:X.fn x=true∨X.env.scope.names.lookup x=some .local:=by first|exact .inl rfl|exact .inr rfl|assumption):wpAny M A (storeName X.env x u) Q E s:=by
 obtain⟨m,hn,hl⟩:=id I.loc;have hcls:(X.env.scope.kind==.class||(X.env.scope.kind==.module&&X.env.locals != X.env.globals))=false:=by rw[I.ok.kind];rfl
 have hiσ:i<σ.length:=by rw[I.len];exact(List.getElem?_eq_some_iff.mp hi).1
 have cne:=I.cne;have tracked:∀{a:Addr}{h':Heap},(∃o,s.heap.get? a=some o∧H a=none)→SameBut a s.heap h'→HOk X.prog X.w H h':=λ{a h'} ha hs b ob e=>by
  obtain⟨_,_,hfree⟩:=ha;refine(I.hok b ob e).stay (λc w' hc q=>(hs.2 c ?_).trans q) (λ_ q=>q) λ_ _ q=>q;rintro rfl;rcases hc with rfl|hc
  ·rw[hfree]at e;cases e
  ·rw[hfree]at hc;cases hc
 rcases hx with hk|hk
 ·refine wpAny_storeName_local hk hn (λh' hn' hs=>?_) hcls;obtain⟨oL,_,_,hoL,_⟩:=id hn;refine h _ ⟨I.ok,I.os,I.bare,⟨λb o e n hb hx=>?_,λb o e n hb hx=>?_,I.base.free,λb o e hx=>?_,I.base.tups,I.base.frzs,I.base.tbls⟩,⟨_,hn',λj y v' e1 e2 e3=>?_⟩,λy c e=>?_,I.free,I.freeC,λp hp=>?_,tracked ⟨oL,hoL,I.free⟩ hs,by simpa using I.len⟩ ⟨_,hs,.inl rfl⟩
  ·exact(hs.2 b (ne_of_lt (lt_of_lt_of_le (lt_size e) I.ok.above))).trans (I.base.keep b o e n hb hx)
  ·obtain⟨sl,e1⟩:=I.base.slot b o e n hb hx;exact⟨sl,(hs.2 b (ne_of_lt (lt_of_lt_of_le (lt_size e) I.ok.above))).trans e1⟩
  ·obtain⟨o',e1⟩:=I.base.there b o e hx;exact⟨o',(hs.2 b (ne_of_lt (lt_of_lt_of_le (lt_size e) I.ok.above))).trans e1⟩
  ·by_cases hj:j=i
   ·subst hj;rw[hi]at e1;cases e1;rw[List.getElem?_set_self hiσ]at e2;cases e2;exact⟨u,r,.inl ⟨hk,by simp⟩⟩
   ·rw[List.getElem?_set_ne (symm hj)]at e2;obtain⟨u',r',q⟩:=hl j y v' e1 e2 e3;refine⟨u',r',?_⟩;rcases q with⟨k,e⟩|⟨k,c,e,z⟩
    ·refine .inl ⟨k,?_⟩;have:y≠x:=λe=>hj (kY hN e1 (e ▸ hi));simp[this,e]
    ·exact .inr ⟨k,c,e,z.sameBut hs (cne y c e)⟩
  ·obtain⟨w',z⟩:=I.cell y c e;exact⟨w',z.sameBut hs (cne y c e)⟩
  ·obtain⟨e,n,ne,nf,d⟩:=I.pin p hp;exact⟨(hs.2 p.1 ne).trans e,n,ne,nf,d⟩
 ·have hfn:X.fn x=true:=by
   rcases hf with z|z
   ·exact z
   ·rw[z]at hk;cases hk
  obtain⟨c,hc⟩:=I.ok.has x (.inl hk);obtain⟨w',z⟩:=I.cell x c hc;refine wpAny_storeName_cell I.ok.kind hk hc z (λh' hc' hs=>?_);obtain⟨oc,hoc,hocd⟩:=id z;refine h {s with heap:=h'} ⟨I.ok,I.os,I.bare,⟨λb o e n hb hx=>?_,λb o e n hb hx=>?_,I.base.free,λb o e hx=>?_,I.base.tups,I.base.frzs,I.base.tbls⟩,⟨m,hn.sameBut hs (symm (cne x c hc)),λj y v' e1 e2 e3=>?_⟩,λy c' e=>?_,I.free,I.freeC,λp hp=>?_,tracked ⟨oc,hoc,I.freeC x c hc⟩ hs,by simpa using I.len⟩ ⟨c,hs,.inr hc⟩
  ·exact(hs.2 b (ne_of_lt (lt_of_lt_of_le (lt_size e) (I.ok.cab x c hfn hc)))).trans (I.base.keep b o e n hb hx)
  ·obtain⟨sl,e1⟩:=I.base.slot b o e n hb hx;exact⟨sl,(hs.2 b (ne_of_lt (lt_of_lt_of_le (lt_size e) (I.ok.cab x c hfn hc)))).trans e1⟩
  ·obtain⟨o',e1⟩:=I.base.there b o e hx;exact⟨o',(hs.2 b (ne_of_lt (lt_of_lt_of_le (lt_size e) (I.ok.cab x c hfn hc)))).trans e1⟩
  ·by_cases hj:j=i
   ·subst hj;rw[hi]at e1;cases e1;rw[List.getElem?_set_self hiσ]at e2;cases e2;exact⟨u,r,.inr ⟨.inl hk,c,hc,hc'⟩⟩
   ·rw[List.getElem?_set_ne (symm hj)]at e2;obtain⟨u',r',q⟩:=hl j y v' e1 e2 e3;refine⟨u',r',?_⟩;rcases q with q|⟨k,c',e,z'⟩
    ·exact .inl q
    ·refine .inr ⟨k,c',e,z'.sameBut hs ?_⟩;rintro rfl;exact hj (kY hN e1 (I.ok.inj _ _ _ e hc ▸ hi))
  ·by_cases hcc:c'=c
   ·subst hcc;exact⟨_,hc'⟩
   ·obtain⟨w2,z2⟩:=I.cell y c' e;exact⟨w2,z2.sameBut hs hcc⟩
  ·obtain⟨e,n,ne,nf,d⟩:=I.pin p hp;refine⟨(hs.2 p.1 ?_).trans e,n,ne,nf,d⟩;intro q;rw[q,hoc]at e;have q':oc=p.2:=Option.some.inj e;exact d w' (by rw[←q'];exact hocd)
theorem iI{M:Model}{A:Around}{E:Value→Shared→Prop}{i:Nat}{x:Str}{v:V}{u:Value}{Q:Unit→Shared→Prop}(I:Inv X pins σ H s)(hN:X.N.Nodup)(hi:X.N[i]?=some x)(hx:Loc X.env.scope x)(r:aN v u)(h:∀s',Inv X pins (σ.set i (some v)) H s'→Q () s')(hf:X.fn x=true∨X.env.scope.names.lookup x=some .local:=by first|exact .inl rfl|exact .inr rfl|assumption):wpAny M A (storeName X.env x u) Q E s :=
 gW I hN hi hx r (λs' I' _=>h s' I') hf
theorem Inv.call'{s':Shared}{ch:List Addr}(I:Inv X pins σ H s)(ho:s'.os=s.os)(u:Un (frs X.stack) ch H H' s.heap s'.heap)(hok:HOk X.prog X.w H' s'.heap)(hg:AllBare s'.gens)(hch:∀b∈ch,(b∈X.ex∨X.s₀.heap.objs.size≤b)∧b≠X.env.locals∧(∀x c,X.env.cells.lookup x=some c→c≠b)∧∀p∈X.pn++pins,p.1≠b):Inv X pins σ H' s':=by
 obtain⟨h',g',d',t',o'⟩:=s';have e:o'=s.os:=ho;subst e;exact I.call (g':=g') (t':=t') (d':=d') u hok hg hch
end
abbrev XK:=Value→Option Addr→Hp→Prop
abbrev St:=List (Option V)
abbrev VK:=V→Hp→Prop
abbrev TE:=St→Hp→VK→Prop
abbrev TT:=St→Hp→(Bool→Hp→Prop)→Prop
abbrev TA:=St→Hp→(List V→Hp→Prop)→Prop
structure Ends where
 nx:St→Hp→Prop
 rt:VK
 bk:St→Hp→Prop:=λ_ _=>False
 ct:St→Hp→Prop:=λ_ _=>False
abbrev TS:=Ends→St→Hp→Prop
def EP(X:Cx)(pins:List (Addr×Obj))(σ:St)(Q:VK)(u:Value)(s':Shared):Prop:=∃v H',Inv X pins σ H' s'∧aN v u∧Q v H'
def TP(X:Cx)(pins:List (Addr×Obj))(σ:St)(Q:Bool→Hp→Prop)(b:Bool)(s':Shared):Prop:=∃H',Inv X pins σ H' s'∧Q b H'
def AP(X:Cx)(pins:List (Addr×Obj))(σ:St)(Q:List V→Hp→Prop)(us:List Value)(s':Shared):Prop:=∃vs H',Inv X pins σ H' s'∧aL vs us∧Q vs H'
def SP(X:Cx)(pins:List (Addr×Obj))(D:Ends)(f:Flow)(s':Shared):Prop :=
 match f with
 |.next=>∃σ' H',Inv X pins σ' H' s'∧D.nx σ' H'
 |.brk=>∃σ' H',Inv X pins σ' H' s'∧D.bk σ' H'
 |.cont=>∃σ' H',Inv X pins σ' H' s'∧D.ct σ' H'
 |.ret u=>∃v σ' H',Inv X pins σ' H' s'∧aN v u∧D.rt v H'
def PE(X:Cx)(e:Expr)(t:TE):Prop :=
 ∀(pins:List (Addr×Obj))(s:Shared)(σ:St)(H:Hp)(Q:VK),Inv X pins σ H s→t σ H Q→wpAny (model X.prog X.w) X.A (eval e X.env) (EP X pins σ Q) X.xe s
def PT(X:Cx)(e:Expr)(t:TT):Prop :=
 ∀(pins:List (Addr×Obj))(s:Shared)(σ:St)(H:Hp)(Q:Bool→Hp→Prop),Inv X pins σ H s→t σ H Q→wpAny (model X.prog X.w) X.A (isTrue e X.env (eval e X.env)) (TP X pins σ Q) X.xe s
def PW(X:Cx)(e:Expr)(t:TT):Prop :=
 ∀(whole:Sem Value)(pins:List (Addr×Obj))(s:Shared)(σ:St)(H:Hp)(Q:Bool→Hp→Prop),Inv X pins σ H s→t σ H Q→wpAny (model X.prog X.w) X.A (isTrue e X.env whole) (TP X pins σ Q) X.xe s
theorem PW.pt{X:Cx}{e:Expr}{t:TT}(h:PW X e t):PT X e t:=h _
def PA(X:Cx)(es:List Expr)(t:TA):Prop :=
 ∀(pos:Pos)(pins:List (Addr×Obj))(s:Shared)(σ:St)(H:Hp)(Q:List V→Hp→Prop),Inv X pins σ H s→t σ H Q→wpAny (model X.prog X.w) X.A (spliced (backTo pos (starEach es X.env))) (AP X pins σ Q) X.xe s
def PS(X:Cx)(st:Stmt)(t:TS):Prop :=
 ∀(pins:List (Addr×Obj))(s:Shared)(σ:St)(H:Hp)(D:Ends),Inv X pins σ H s→t D σ H→wpAny (model X.prog X.w) X.A (exec st X.env) (SP X pins D) X.xe s
def PSs(X:Cx)(st:List Stmt)(t:TS):Prop :=
 ∀(pins:List (Addr×Obj))(s:Shared)(σ:St)(H:Hp)(D:Ends),Inv X pins σ H s→t D σ H→wpAny (model X.prog X.w) X.A (execs st X.env) (SP X pins D) X.xe s
theorem thn{α:Type}{t:Sem α}{Q Q':α→Shared→Prop}{M:Model}{A:Around}{E:Value→Shared→Prop}{s:Shared}(h:wpAny M A t Q E s)(hQ:∀a s,Q a s→Q' a s):wpAny M A t Q' E s:=wpAny_mono h hQ λ_ _ x=>x
section
variable{X:Cx}
theorem bin{a b:Expr}{ta tb:TE}(ha:PE X a ta)(hb:PE X b tb){pins:List (Addr×Obj)}{s:Shared}{σ:St}{H:Hp}{R:V→V→Hp→Prop}(I:Inv X pins σ H s)(h:ta σ H λx H1=>tb σ H1 λy H2=>R x y H2){α:Type}{Q:α→Shared→Prop}{f:Value→Value→Sem α}(hf:∀v u s2 x y H2,Inv X pins σ H2 s2→aN x v→aN y u→R x y H2→wpAny (model X.prog X.w) X.A (f v u) Q X.xe s2):
  wpAny (model X.prog X.w) X.A (eval a X.env) (λv s₁=>wpAny (model X.prog X.w) X.A (eval b X.env) (λu s₂=>wpAny (model X.prog X.w) X.A (f v u) Q X.xe s₂) X.xe s₁) X.xe s:=by
 refine thn (ha pins s σ H _ I h) λv s1 hpt=>?_;obtain⟨x,H1,I1,r1,q1⟩:=hpt;refine thn (hb pins s1 σ H1 _ I1 q1) λu s2 hpt=>?_;obtain⟨y,H2,I2,r2,q2⟩:=hpt;exact hf v u s2 x y H2 I2 r1 r2 q2
def eT(i:Nat):TE:=λσ H Q=>∃v,σ[i]?=some (some v)∧Q v H
def tC(v:V):TE:=λ_ H Q=>Q v H
theorem uI{i:Nat}{x:Str}{pos:Pos}(hN:X.N[i]?=some x)(hv:Vis X.env.scope x)(hd:(x==("__debug__":Str))=false:=by decide)(hcd:(x==("__classdict__":Str))=false:=by decide):PE X (.Name x pos) (eT i):=by
 intro pins s σ H Q I h;obtain⟨v,e,h⟩:=h;obtain⟨m,hn,hl⟩:=I.loc;obtain⟨u,r,l⟩:=hl i x v hN e hv;have fin:EP X pins σ Q u s:=⟨v,H,I,r,h⟩;rcases l with⟨hk,hm⟩|⟨hk,c,hc,hcell⟩
 ·exact wpAny_Name (wpAny_loadName_local I.ok.kind hk hn hm fin) hd
 ·rcases hk with hk|hk
  ·exact wpAny_Name (wpAny_loadName_cell I.ok.kind hk hc hcell fin) hd
  ·exact wpAny_Name (wpAny_loadName_free I.ok.kind hk hc hcell fin hcd) hd
theorem ag{i j pos}:PE X (.Constant (.int i) j pos) (tC (.int i)):=λ_ _ _ H _ I h=>wpAny_Constant_int ⟨.int i,H,I.tok _,⟨_,rfl⟩,h⟩
theorem dG{b j pos}:PE X (.Constant (.bool b) j pos) (tC (.bl b)):=λ_ _ _ H _ I h=>Constant_bool ⟨.bl b,H,I,rfl,h⟩
theorem cm{j pos}:PE X (.Constant .none j pos) (tC .non):=λ_ _ _ H _ I h=>Constant_none ⟨.non,H,I,rfl,h⟩
theorem aJ{x j pos}:PE X (.Constant (.str x) j pos) (tC (.str x)):=λ_ _ _ H _ I h=>Calls.Constant_str ⟨.str x,H,I.tok _,⟨_,rfl⟩,h⟩
def Gl(X:Cx)(x:Str):Prop:=X.env.kindOf x=some .globalImplicit
theorem jZ{E:Value→Shared→Prop}{pins:List (Addr×Obj)}{s:Shared}{σ:St}{H:Hp}{x:Str}{u:Value}{pos:Pos}{Q:Value→Shared→Prop}(I:Inv X pins σ H s)(hg:Gl X x)(hm:X.mg x=some u)(h:Q u s)(hd:(x==("__debug__":Str))=false:=by decide):wpAny (model X.prog X.w) X.A (eval (.Name x pos) X.env) Q E s :=
 Calls.Name_function_global I.ok.kind hg (Calls.loadGlobal_global (by rw[I.ok.glob];exact I.mod.glob.keeps I.bk) hm h) hd
theorem ka{E:Value→Shared→Prop}{pins:List (Addr×Obj)}{s:Shared}{σ:St}{H:Hp}{x:Str}{u:Value}{pos:Pos}{Q:Value→Shared→Prop}(I:Inv X pins σ H s)(hg:Gl X x)(hm:X.mg x=none)(hv:bootBuiltins x=some u)(h:Q u s)(hn:x≠"__name__":=by decide)(hd:(x==("__debug__":Str))=false:=by decide):wpAny (model X.prog X.w) X.A (eval (.Name x pos) X.env) Q E s:=by
 obtain⟨mb,h1,h2⟩:=I.mod.blt;exact Calls.Name_function_global I.ok.kind hg (Calls.loadGlobal_builtin (by rw[I.ok.glob];exact I.mod.glob.keeps I.bk) hm (by rw[I.ok.blt];exact h1.keeps I.bk) ((h2 x hn).trans hv) h) hd
theorem dg{x:Str}{v:V}{u:Value}{pos:Pos}(hg:Gl X x)(hm:X.mg x=some u)(r:aN v u)(hd:(x==("__debug__":Str))=false:=by decide):PE X (.Name x pos) (tC v) :=
 λ_ _ _ H _ I h=>jZ I hg hm ⟨v,H,I,r,h⟩ hd
theorem sm{x:Str}{v:V}{u:Value}{pos:Pos}(hg:Gl X x)(hm:X.mg x=none)(hv:bootBuiltins x=some u)(r:aN v u)(hn:x≠"__name__":=by decide)(hd:(x==("__debug__":Str))=false:=by decide):PE X (.Name x pos) (tC v) :=
 λ_ _ _ H _ I h=>ka I hg hm hv ⟨v,H,I,r,h⟩ hn hd
def t2I(ta tb:TE)(k:Int→Int→Hp→Prop):St→Hp→Prop:=λσ H=>ta σ H λx H1=>tb σ H1 λy H2=>∃i j,x=.int i∧y=.int j∧k i j H2
def xm(ta tb:TE):TE:=λσ H Q=>t2I ta tb (λi j H2=>Q (.int (i+j)) H2) σ H
variable{a b:Expr}{ta tb:TE}{pos:Pos}
theorem uJ(ha:PE X a ta)(hb:PE X b tb):PE X (.BinOp a .Add b pos) (xm ta tb):=by
 intro pins s σ H Q I h;refine wpAny_BinOp (bin ha hb I h λv u s2 x y H2 I2 rx ry q=>?_);obtain⟨i,j,rfl,rfl,q⟩:=q;obtain⟨t,rfl⟩:=rx;obtain⟨t',rfl⟩:=ry;exact add_int ⟨.int _,H2,I2.tok _,⟨_,rfl⟩,q⟩
def PC(X:Cx)(op:CmpOp)(a b:Expr)(t:TE):Prop :=
 ∀(pins:List (Addr×Obj))(s:Shared)(σ:St)(H:Hp)(Q:VK),Inv X pins σ H s→t σ H Q →
  wpAny (model X.prog X.w) X.A (eval a X.env) (λv s₁=>wpAny (model X.prog X.w) X.A (eval b X.env) (λu s₂=>wpAny (model X.prog X.w) X.A (compareOp op v u) (EP X pins σ Q) X.xe s₂) X.xe s₁) X.xe s
def tB(t:TE):TT:=λσ H Q=>t σ H λx H1=>∃c,x=.bl c∧Q c H1
theorem bQ{op:CmpOp}{t:TE}(h:PC X op a b t)(h1:behindInMarks op b=false:=by first|exact nobehind _ (by decide) (by decide)|rfl):PT X (.Compare a [op] [b] pos) (tB t):=by
 intro pins s σ H Q I hw;refine wpAny_isTrue_Compare1 (thn (h pins s σ H _ I hw) λv s1 h1=>thn h1 λu s2 h2=>thn h2 λc s3 ⟨x,H1,I1,r1,q1⟩=>?_) h1;obtain⟨d,rfl,q⟩:=q1;cases r1;exact wpAny_truthy_bool ⟨H1,I1,q⟩
theorem iJ{e:Expr}{t:TE}(h:PE X e t)(he:∀whole,isTrue e X.env whole=(do let v ← whole;standAt e.pos;holding [v] (truthy v)):=by intro _;rfl):PT X e (tB t):=by
 intro pins s σ H Q I hw;refine isTrue_plain (thn (h pins s σ H _ I hw) λv s1 ⟨x,H1,I1,r1,q1⟩=>?_) (he _);obtain⟨d,rfl,q⟩:=q1;cases r1;exact wpAny_truthy_bool ⟨H1,I1,q⟩
variable{tA tB':TT}{rest:List Expr}
def xn(t u:TT):TT:=λσ H Q=>t σ H λc H1=>if c=true then u σ H1 Q else Q false H1
def tOr(t u:TT):TT:=λσ H Q=>t σ H λc H1=>if c=true then Q true H1 else u σ H1 Q
def xo(t:TT):TT:=λσ H Q=>t σ H λc H1=>Q (!c) H1
theorem pw_and1(ha:PT X a tA):PW X (.BoolOp .And [a] pos) tA:=by
 intro wh pins s σ H Q I h;refine isTrue_and (thn (ha pins s σ H Q I h) λc s1 e=>?_);cases c with
 |true=>exact isTrue_and_nil e
 |false=>exact e
theorem pw_or1(ha:PT X a tA):PW X (.BoolOp .Or [a] pos) tA:=by
 intro wh pins s σ H Q I h;refine isTrue_or (thn (ha pins s σ H Q I h) λc s1 e=>?_);cases c with
 |false=>exact isTrue_or_nil e
 |true=>exact e
theorem pw_and(ha:PT X a tA)(hb:PW X (.BoolOp .And (b::rest) pos) tB'):PW X (.BoolOp .And (a::b::rest) pos) (xn tA tB'):=by
 intro wh pins s σ H Q I h;refine isTrue_and (thn (ha pins s σ H _ I h) λc s1 hpt=>?_);obtain⟨H1,I1,q1⟩:=hpt;cases c with
 |true=>exact hb wh pins s1 σ H1 Q I1 q1
 |false=>exact⟨H1,I1,q1⟩
theorem pw_or(ha:PT X a tA)(hb:PW X (.BoolOp .Or (b::rest) pos) tB'):PW X (.BoolOp .Or (a::b::rest) pos) (tOr tA tB'):=by
 intro wh pins s σ H Q I h;refine isTrue_or (thn (ha pins s σ H _ I h) λc s1 hpt=>?_);obtain⟨H1,I1,q1⟩:=hpt;cases c with
 |true=>exact⟨H1,I1,q1⟩
 |false=>exact hb wh pins s1 σ H1 Q I1 q1
theorem kb(ha:PT X a tA):PT X (.UnaryOp .Not a pos) (xo tA):=by
 intro pins s σ H Q I h;exact isTrue_not (ha pins s σ H (λc H1=>Q (!c) H1) I h)
def tIf(t:TT)(ta tb:TE):TE:=λσ H Q=>t σ H λc H1=>if c=true then ta σ H1 Q else tb σ H1 Q
theorem iK{c:Expr}(hc:PT X c tA)(ha:PE X a ta)(hb:PE X b tb):PE X (.IfExp c a b pos) (tIf tA ta tb):=by
 intro pins s σ H Q I h;refine wpAny_IfExp (thn (hc pins s σ H _ I h) λd s1 hpt=>?_);obtain⟨H1,I1,q1⟩:=hpt;cases d with
 |true=>exact ha pins s1 σ H1 Q I1 q1
 |false=>exact hb pins s1 σ H1 Q I1 q1
end
def SqL(K:PySem.W.Frag)(H:Hp)(a:Addr)(xs:List V):Prop :=
 Rd H a (.lst xs) ∨
  ∃(o:Obj) (its:Array Value) (n:Nat),K.lookup a=some o∧o.cls=.type "list"∧o.dict=none∧o.data=.seq its n∧its.size≤sizeLine∧aL xs its.toList
def SqT(K:PySem.W.Frag)(H:Hp)(a:Addr)(xs:List V):Prop :=
 Rd H a (.tup xs) ∨
  ∃(o:Obj) (its:Array Value) (n:Nat),K.lookup a=some o∧o.cls=.type "tuple"∧o.data=.seq its n∧its.size≤sizeLine∧aL xs its.toList
def xp:Value→Option V
 |.none=>some .non
 |.bool b=>some (.bl b)
 |.int i _=>some (.int i)
 |.str x _=>some (.str x)
 |.bytes b _=>some (.byt b)
 |.float b _=>some (.flt b)
 |.ref a=>some (.ref a)
 |.type n=>some (.ty n)
 |_=>none
theorem aN.abs{x:V}{u:Value}(r:aN x u):xp u=some x:=by
 cases x with
 |non=>cases r;rfl
 |bl _=>cases r;rfl
 |int _=>obtain⟨t,rfl⟩:=r;rfl
 |str _=>obtain⟨t,rfl⟩:=r;rfl
 |byt _=>obtain⟨t,rfl⟩:=r;rfl
 |flt _=>obtain⟨t,rfl⟩:=r;rfl
 |ref _=>cases r;rfl
 |ty _=>cases r;rfl
theorem aN.inj{x y:V}{u:Value}(r:aN x u)(q:aN y u):x=y:=Option.some.inj (r.abs.symm.trans q.abs)
theorem aL.inj:∀{xs ys:List V}{us:List Value},aL xs us→aL ys us→xs=ys
 |_,_,_,.nil,.nil=>rfl
 |_,_,_,.cons r t,.cons r' t'=>by rw[r.inj r',aL.inj t t']
section
variable{X:Cx}{pins:List (Addr×Obj)}{σ:St}{H:Hp}{s:Shared}{a:Addr}{xs ys:List V}
theorem SqL.of{K:PySem.W.Frag}(h:H a=some (.lst xs)):SqL K H a xs:=.inl (.inl h)
theorem SqT.of{K:PySem.W.Frag}(h:H a=some (.tup xs)):SqT K H a xs:=.inl (.inl h)
theorem Inv.list(I:Inv X pins σ H s)(h:SqL X.K H a xs):∃its:List Value,aL xs its∧PlainL s.heap a its.toArray∧xs.length≤sizeLine:=by
 rcases h with h|⟨o,its,n,hk,hc,hd,hs,hz,r⟩
 ·obtain⟨z,its,n,r,e⟩:=h.ok I.hok;exact⟨its,r,⟨_,n,e,rfl,rfl,rfl⟩,z⟩
 ·refine⟨its.toList,r,⟨o,n,I.kIn a o hk,hc,hd,by simpa using hs⟩,?_⟩
  have e:=r.length;simp only[length_toList]at e;omega
theorem Inv.tuple(I:Inv X pins σ H s)(h:SqT X.K H a xs):∃its:List Value,aL xs its∧IsTup s.heap a its.toArray∧xs.length≤sizeLine:=by
 rcases h with h|⟨o,its,n,hk,hc,hs,hz,r⟩
 ·obtain⟨z,its,r,p⟩:=h.ok I.hok;exact⟨its,r,p,z⟩
 ·refine⟨its.toList,r,⟨o,I.kIn a o hk,hc,n,by simpa using hs⟩,?_⟩
  have e:=r.length;simp only[length_toList]at e;omega
theorem Inv.list_inj(I:Inv X pins σ H s)(h:SqL X.K H a xs)(h':SqL X.K H a ys):xs=ys:=by
 obtain⟨its,r,⟨o,n,e,_,_,d⟩,_⟩:=I.list h;obtain⟨its',r',⟨o',n',e',_,_,d'⟩,_⟩:=I.list h';rw[e]at e';cases e';rw[d]at d';injection d' with d1 _
 have:its=its':=by simpa using congrArg toList d1
 subst this;exact r.inj r'
theorem Inv.tuple_inj(I:Inv X pins σ H s)(h:SqT X.K H a xs)(h':SqT X.K H a ys):xs=ys:=by
 obtain⟨its,r,⟨o,e,_,n,d⟩,_⟩:=I.tuple h;obtain⟨its',r',⟨o',e',_,n',d'⟩,_⟩:=I.tuple h';rw[e]at e';cases e';rw[d]at d';injection d' with d1 _
 have:its=its':=by simpa using congrArg toList d1
 subst this;exact r.inj r'
end
abbrev Cx.wish(X:Cx)(E:Value→Shared→Prop):Cx:={X with xe:=E}
abbrev Cx.nox(X:Cx):Cx:=X.wish λ_ _=>False
theorem Cx.Ok.wish{X:Cx}(ok:X.Ok)(E:Value→Shared→Prop):(X.wish E).Ok :=
 ⟨ok.mod,ok.kind,ok.glob,ok.blt,ok.above,ok.inj,ok.has,ok.cab,ok.hd,ok.frames,ok.stk,ok.exf,ok.bs,ok.bsz,ok.noex,ok.exfs,ok.funs,ok.frf⟩
theorem Cx.Ok.unwish{X:Cx}{E:Value→Shared→Prop}(ok:(X.wish E).Ok):X.Ok :=
 ⟨ok.mod,ok.kind,ok.glob,ok.blt,ok.above,ok.inj,ok.has,ok.cab,ok.hd,ok.frames,ok.stk,ok.exf,ok.bs,ok.bsz,ok.noex,ok.exfs,ok.funs,ok.frf⟩
section
variable{X:Cx}{pins:List (Addr×Obj)}{σ:St}{H:Hp}{s:Shared}{E:Value→Shared→Prop}
theorem Inv.wish(I:Inv X pins σ H s)(E:Value→Shared→Prop):Inv (X.wish E) pins σ H s:=⟨I.ok.wish E,I.os,I.bare,I.base,I.loc,I.cell,I.free,I.freeC,I.pin,I.hok,I.len⟩
theorem Inv.unwish(I:Inv (X.wish E) pins σ H s):Inv X pins σ H s:=⟨I.ok.unwish,I.os,I.bare,I.base,I.loc,I.cell,I.free,I.freeC,I.pin,I.hok,I.len⟩
theorem SP.unwish{D:Ends}{f:Flow}{s':Shared}(h:SP (X.wish E) pins D f s'):SP X pins D f s':=by
 cases f with
 |next=>obtain⟨σ',H',I,q⟩:=h;exact⟨σ',H',I.unwish,q⟩
 |brk=>obtain⟨σ',H',I,q⟩:=h;exact⟨σ',H',I.unwish,q⟩
 |cont=>obtain⟨σ',H',I,q⟩:=h;exact⟨σ',H',I.unwish,q⟩
 |ret u=>obtain⟨v,σ',H',I,r,q⟩:=h;exact⟨v,σ',H',I.unwish,r,q⟩
theorem PSs.nox{st:List Stmt}{t:TS}(h:PSs X.nox st t):PSs X st t:=λpins s σ H D I hw =>
 wpAny_mono (h pins s σ H D (I.wish _) hw) (λ_ _ q=>q.unwish) λ_ _ z=>False.elim z
end
section
variable{X:Cx}{st:Stmt}{rest:List Stmt}{t u:TS}{e:Expr}{te:TE}{pos:Pos}
def ww:TS:=λD σ H=>D.nx σ H
def jp(t u:TS):TS:=λD σ H=>t {D with nx:=u D} σ H
theorem aA:PSs X [] ww:=λ_ _ σ H _ I h=>wpAny_execs_nil ⟨σ,H,I,h⟩
theorem ae(h1:PS X st t)(h2:PSs X rest u):PSs X (st::rest) (jp t u):=by
 intro pins s σ H D I h;refine wpAny_execs_cons (thn (h1 pins s σ H {D with nx:=u D} I h) λf s1 q=>?_);cases f with
 |next =>
  obtain⟨σ',H',I',q⟩:=q;exact h2 pins s1 σ' H' D I' q
 |ret v=>exact q
 |brk=>exact q
 |cont=>exact q
theorem aj(h1:PS X st t):PSs X [st] t:=by
 intro pins s σ H D I h;refine wpAny_execs_cons (thn (h1 pins s σ H D I h) λf s1 q=>?_);cases f with
 |next=>exact wpAny_execs_nil q
 |ret v=>exact q
 |brk=>exact q
 |cont=>exact q
def uK:TS:=λD σ H=>D.bk σ H
theorem qj:PS X (.Break pos) uK:=λ_ _ σ H _ I h=>wpAny_Break ⟨σ,H,I,h⟩
theorem Inv.quiet{pins:List (Addr×Obj)}{σ:St}{H:Hp}{s:Shared}(I:Inv X pins σ H s):interactive X.env=false:=by simp[interactive,I.ok.kind]
def uh(te:TE):TS:=λD σ H=>te σ H λ_ H1=>D.nx σ H1
theorem bX(he:PE X e te)(hs:swapsWith e none pos.line X.env=pure false:=by rfl):PS X (.Expr e pos) (uh te):=by
 intro pins s σ H D I h;exact wpAny_Expr_any (thn (he pins s σ H _ I h) λv s1 ⟨x,H1,I1,r1,q1⟩=>⟨σ,H1,I1,q1⟩) I.quiet hs
def uL(te:TE):TS:=λD σ H=>te σ H D.rt
theorem ax(he:PE X e te):PS X (.Return (some e) pos) (uL te):=by
 intro pins s σ H D I h;exact wpAny_Return_some (thn (he pins s σ H _ I h) λv s1 ⟨x,H1,I1,r1,q1⟩=>⟨x,σ,H1,I1,r1,q1⟩)
def xq(c:TT)(t u:TS):TS:=λD σ H=>c σ H λb H1=>if b=true then t D σ H1 else u D σ H1
theorem aR{c:Expr}{a b:List Stmt}{tc:TT}(hc:PT X c tc)(ha:PSs X a t)(hb:PSs X b u):PS X (.If c a b pos) (xq tc t u):=by
 intro pins s σ H D I h;refine wpAny_If (thn (hc pins s σ H _ I h) λd s1 hpt=>?_);obtain⟨H1,I1,q1⟩:=hpt;cases d with
 |true=>exact ha pins s1 σ H1 D I1 q1
 |false=>exact hb pins s1 σ H1 D I1 q1
def uM:TS:=λ_ _ _=>False
theorem qk:PS X st uM:=λ_ _ _ _ _ _ h=>h.elim
end
abbrev TG:=V→St→Hp→(St→Hp→Prop)→Prop
def PG(X:Cx)(target:Expr)(t:TG):Prop :=
 ∀(pins:List (Addr×Obj))(s:Shared)(σ:St)(H:Hp)(v:V)(u:Value)(Q:St→Hp→Prop),Inv X pins σ H s→aN v u→t v σ H Q →
  wpAny (model X.prog X.w) X.A (assign target X.env u) (λ_ s'=>∃σ' H',Inv X pins σ' H' s'∧Q σ' H') X.xe s
abbrev TIp:=V→V→Hp→VK→Prop
def PIp(X:Cx)(op:Operator)(t:TIp):Prop :=
 ∀(pins:List (Addr×Obj))(s:Shared)(σ:St)(H:Hp)(x y:V)(v u:Value)(Q:VK),Inv X pins σ H s→aN x v→aN y u→t x y H Q →
  wpAny (model X.prog X.w) X.A (inplaceOp op v u) (EP X pins σ Q) X.xe s
section
variable{X:Cx}{pos:Pos}
def be(i:Nat):TG:=λv σ H Q=>Q (σ.set i (some v)) H
theorem aG{i:Nat}{x:Str}(hN:X.N.Nodup)(hi:X.N[i]?=some x)(hx:Loc X.env.scope x)(hf:X.fn x=true∨X.env.scope.names.lookup x=some .local:=by first|exact .inl rfl|exact .inr rfl|assumption):PG X (.Name x pos) (be i):=by
 intro pins s σ H v u Q I r h;exact wpAny_assign_Name (iI I hN hi hx r (λs' I'=>⟨_,H,I',h⟩) hf)
def uN(te:TE)(g:TG):TS:=λD σ H=>te σ H λx H1=>g x σ H1 D.nx
theorem aq{i:Nat}{x:Str}{e:Expr}{te:TE}{pos':Pos}(hN:X.N.Nodup)(hi:X.N[i]?=some x)(hx:Loc X.env.scope x)(he:PE X e te)(hs:swapsWith e (some (.Name x pos')) pos.line X.env=pure false:=by rfl)(hf:X.fn x=true∨X.env.scope.names.lookup x=some .local:=by first|exact .inl rfl|exact .inr rfl|assumption):
  PS X (.Assign [.Name x pos'] e pos) (uN te (be i)):=by
 intro pins s σ H D I h;refine wpAny_Assign_Name (thn (he pins s σ H _ I h) λv s1 ⟨y,H1,I1,r1,q1⟩=>?_) hs;exact iI I1 hN hi hx r1 (λs2 I2=>⟨_,H1,I2,q1⟩) hf
def xr(i:Nat)(te:TE)(ti:TIp):TS:=λD σ H=>∃x,σ[i]?=some (some x)∧te σ H λy H1=>ti x y H1 λz H2=>D.nx (σ.set i (some z)) H2
theorem uO{i:Nat}{x:Str}{e:Expr}{te:TE}{op:Operator}{ti:TIp}{pos':Pos}(hN:X.N.Nodup)(hi:X.N[i]?=some x)(hx:Loc X.env.scope x)(he:PE X e te)(ho:PIp X op ti)(hf:X.fn x=true∨X.env.scope.names.lookup x=some .local:=by first|exact .inl rfl|exact .inr rfl|assumption):
  PS X (.AugAssign (.Name x pos') op e pos) (xr i te ti):=by
 intro pins s σ H D I h;obtain⟨v,e1,h⟩:=h;obtain⟨m,hn,hl⟩:=I.loc;have vis:Vis X.env.scope x:=by rcases hx with k|k;exact .inl k;exact .inr (.inl k)
 obtain⟨u,r,l⟩:=hl i x v hi e1 vis;refine wpAny_AugAssign_Name ?_;have go:wpAny (model X.prog X.w) X.A (eval e X.env) (λw s₂=>wpAny (model X.prog X.w) X.A (inplaceOp op u w) (λr s₃=>wpAny (model X.prog X.w) X.A (storeName X.env x r) (λ_=>SP X pins D .next) X.xe s₃) X.xe s₂) X.xe s:=by
  refine thn (he pins s σ H _ I h) λw s1 hpt=>?_;obtain⟨y,H1,I1,r1,q1⟩:=hpt;refine thn (ho pins s1 σ H1 v y u w _ I1 r r1 q1) λz s2 hpt=>?_;obtain⟨zv,H2,I2,r2,q2⟩:=hpt;exact iI I2 hN hi hx r2 (λs3 I3=>⟨_,H2,I3,q2⟩) hf
 rcases l with⟨hk,hm⟩|⟨hk,c,hc,hcell⟩
 ·exact wpAny_loadName_local I.ok.kind hk hn hm go
 ·rcases hk with hk|hk
  ·exact wpAny_loadName_cell I.ok.kind hk hc hcell go
  ·rcases hx with k|k
   ·have:X.env.scope.names.lookup x=some .free:=hk;rw[k]at this;cases this
   ·have:X.env.scope.names.lookup x=some .free:=hk;rw[k]at this;cases this
def ql(c:TT)(tb:TS):TS:=λD σ H=>∃W:Nat→St→Hp→Prop,(∃m,W m σ H)∧∀m σ H,W m σ H →
 c σ H λb H1=>if b=true then ∃N:St→Hp→Prop,(∀σ' H',N σ' H'→∃m',m'<m∧W m' σ' H')∧tb {D with nx:=N,ct:=N,bk:=D.nx} σ H1 else D.nx σ H1
theorem dZ{c:Expr}{body:List Stmt}{tc:TT}{tb:TS}(hp:PassesOwn (model X.prog X.w) X.A X.env X.xe)(hc:PT X c tc)(hb:PSs X body tb):PS X (.While c body [] pos) (ql tc tb):=by
 intro pins s σ H D I h;obtain⟨W,⟨m0,w0⟩,turn⟩:=h;refine wpAny_While (codeAny_whileLoop (λn s'=>∃σ' H',Inv X pins σ' H' s'∧W n σ' H') ?_ m0 ⟨σ,H,I,w0⟩);rintro n s1 ⟨σ1,H1,I1,w1⟩;refine wpAny_passesOwn hp (thn (hc pins s1 σ1 H1 _ I1 (turn n σ1 H1 w1)) λb s2 hpt=>?_);obtain⟨H2,I2,q2⟩:=hpt;cases b with
 |true =>
  obtain⟨N,hN,q2⟩:=q2;rw[if_pos rfl];refine wpAny_passesOwn hp (thn (hb pins s2 σ1 H2 _ I2 q2) λf s3 q3=>?_);cases f with
  |next =>
   obtain⟨σ3,H3,I3,n3⟩:=q3;obtain⟨m',hm,w3⟩:=hN σ3 H3 n3;exact⟨m',hm,σ3,H3,I3,w3⟩
  |cont =>
   obtain⟨σ3,H3,I3,n3⟩:=q3;obtain⟨m',hm,w3⟩:=hN σ3 H3 n3;exact⟨m',hm,σ3,H3,I3,w3⟩
  |brk=>exact q3
  |ret v=>exact q3
 |false =>
  rw[if_neg Bool.false_ne_true];exact wpAny_execs_nil ⟨σ1,H2,I2,q2⟩
end
structure It where
 go:Nat→Hp→Prop
 yld:Nat→Hp→V→Hp→Prop
 stop:Nat→Hp→Prop
def eU(X:Cx)(pins:List (Addr×Obj))(H:Hp)(b:Addr):Prop :=
 H b=none∧b≠X.env.locals∧b∉X.fs∧(b∈X.ex∨X.s₀.heap.objs.size≤b)∧(∀x c,X.env.cells.lookup x=some c→c≠b)∧∀p∈X.pn++pins,p.1≠b
theorem Inv.fpOk{X:Cx}{pins:List (Addr×Obj)}{σ:St}{H H':Hp}{s:Shared}{b:Addr}(I:Inv X pins σ H s)(hb:s.heap.objs.size≤b)(hn:H' b=none):eU X pins H' b:=by
 refine⟨hn,Nat.ne_of_gt (lt_of_lt_of_le I.lt hb),I.nofs hb,.inr (le_trans I.sz hb),λx c e z=>?_,λp hp z=>?_⟩
 ·obtain⟨v,q⟩:=I.cell x c e;exact absurd (lt_of_lt_of_le q.lt (by rw[z];exact hb)) (lt_irrefl _)
 ·exact absurd (lt_of_lt_of_le (lt_size (I.pin p hp).1) (by rw[z];exact hb)) (lt_irrefl _)
structure Turn(P:Program)(w:World)(K:PySem.W.Frag)(tg:Expr)(J:It)(fp:List Addr)(it:Addr)(tn:Nat→Heap→Prop):Prop where
 mem:it∈fp
 obj:∀i h,tn i h→∀b∈fp,∃o,h.get? b=some o∧∀v,o.data≠.cell v
 keep:∀i h h',tn i h→(∀b∈fp,∀o,h.get? b=some o→h'.get? b=some o)→tn i h'
 item:∀(X:Cx),X.prog=P→X.w=w→X.K=K→X.calm=true→∀(i:Nat)(pins:List (Addr×Obj))(s:Shared)(σ:St)(H:Hp)(E:Value→Shared→Prop),Inv X pins σ H s→(∀b∈fp,eU X pins H b)→tn i s.heap→J.go i H →
  wpAny (model P w) X.A (pyNext (.ref it)) (λr s1=>∃u,r=some u ∧
   wpAny (model P w) X.A (letOwnedTupleGo tg (.ref it) u) (λ_ s2=>∃x H',Inv X pins σ H' s2∧aN x u∧J.yld i H x H'∧tn (i+1) s2.heap∧∀b∈fp,H' b=none) E s1) E s
 done:∀(X:Cx),X.prog=P→X.w=w→X.K=K→X.calm=true→∀(i:Nat)(pins:List (Addr×Obj))(s:Shared)(σ:St)(H:Hp)(E:Value→Shared→Prop),Inv X pins σ H s→(∀b∈fp,eU X pins H b)→tn i s.heap→J.stop i H →
  wpAny (model P w) X.A (pyNext (.ref it)) (λr s1=>r=none∧Inv X pins σ H s1) E s
 self:∀(A:Around)(i:Nat)(s:Shared)(Q:Value→Shared→Prop)(E:Value→Shared→Prop),tn i s.heap→Q (.ref it) s→wpAny (model P w) A (pyIter (.ref it)) Q E s
abbrev TI:=St→Hp→(It→Hp→Prop)→Prop
def PIE(X:Cx)(pins:List (Addr×Obj))(σ:St)(tg:Expr)(R:It→Hp→Prop)(itv:Value)(s2:Shared):Prop :=
 ∃(it:Addr) (fp:List Addr) (tn:Nat→Heap→Prop) (J:It) (H':Hp),itv=.ref it∧Inv X pins σ H' s2∧Turn X.prog X.w X.K tg J fp it tn∧tn 0 s2.heap∧(∀b∈fp,eU X pins H' b)∧R J H'
def PI(X:Cx)(tg iter:Expr)(wi:TI):Prop :=
 ∀(pins:List (Addr×Obj))(s:Shared)(σ:St)(H:Hp)(R:It→Hp→Prop),Inv X pins σ H s→wi σ H R →
  wpAny (model X.prog X.w) X.A (eval iter X.env) (λv s1=>wpAny (model X.prog X.w) X.A (pyIter v) (PIE X pins σ tg R) X.xe s1) X.xe s
theorem nY{M:Model}{A:Around}{E:Value→Shared→Prop}{s:Shared}{tg:Expr}{it:Addr}{u:Value}{o:Obj}{n:String}{vs:Array Value}{Q:Unit→Shared→Prop}(ho:s.heap.get? it=some o)(hc:o.cls=.type n)(hd:o.data=.fields vs)(hn:["enumerate","zip","dict_itemiterator","dict_reverseitemiterator","odict_iterator","itertools.zip_longest","itertools.pairwise"].contains n=false)(hQ:Q () s):wpAny M A (letOwnedTupleGo tg (.ref it) u) Q E s:=by
 unfold letOwnedTupleGo;cases tg<;>first
  |exact wpAny_pure hQ
  | (cases u<;>first
    |exact wpAny_pure hQ
    | (refine wpAny_bind (wpAny_load ho ?_)
       rw[hc,hd];show wpAny M A (if (["enumerate","zip","dict_itemiterator","dict_reverseitemiterator","odict_iterator","itertools.zip_longest","itertools.pairwise"].contains n&&vs[0]?==some (rawInt _))=true then _ else _) Q E s
       rw[if_neg (by intro h;rw[hn,Bool.false_and]at h;cases h)];exact wpAny_pure hQ))
def Itl(K:PySem.W.Frag)(a:Addr):It :=
 ⟨λi H=>∃xs x,SqL K H a xs∧xs[i]?=some x,λi H x H'=>H'=H∧∀xs,SqL K H a xs→xs[i]?=some x,λi H=>∃xs,SqL K H a xs∧xs.length≤i⟩
def Itt(K:PySem.W.Frag)(a:Addr):It :=
 ⟨λi H=>∃xs x,SqT K H a xs∧xs[i]?=some x,λi H x H'=>H'=H∧∀xs,SqT K H a xs→xs[i]?=some x,λi H=>∃xs,SqT K H a xs∧xs.length≤i⟩
def Itr(lo:Int)(n:Nat):It:=⟨λi _=>i<n,λi H x H'=>H'=H∧x=.int (lo+i),λi _=>n≤i⟩
theorem pz{P:Program}{w:World}{K:PySem.W.Frag}{tg:Expr}(a it:Addr):Turn P w K tg (Itl K a) [it] it (λi h=>h.IsListIter it a i) where
 mem:=by simp
 obj:=λi h st b hb=>by
  have e:b=it:=by simpa using hb
  subst e;obtain⟨o,e,c,d⟩:=st;exact⟨o,e,λv z=>by rw[d]at z;cases z⟩
 keep:=λi h h' st k=>st.at λo e=>k it (by simp) o e
 item:=by
  intro X hP hw hK hc i pins s σ H E I hf st hg;subst hP hw hK;obtain⟨xs,x,hq,hx⟩:=hg;obtain⟨its,rv,p,hz⟩:=I.list hq;obtain⟨u,hu,ru⟩:=rv.get hx;obtain⟨f0,f1,f2,f3,f4,f5⟩:=hf it (by simp);refine wpAny_pyNext_list_item st p.isList (x:=u) (by simpa using hu) λh' st' sb=>?_;have I1:Inv X pins σ H {s with heap:=h'}:=I.turned (t':=s.toks) (λb o hb e=>(sb.2 b hb).trans e) f0 f1 f3 f4 f5
  obtain⟨o,e,c,d⟩:=id st';exact⟨u,rfl,nY (s:={s with heap:=h'}) e c d (by decide) ⟨x,H,I1,ru,⟨rfl,λys hy=>by rw[I.list_inj hy hq];exact hx⟩,st',λb hb=>(hf b hb).1⟩⟩
 done:=by
  intro X hP hw hK hc i pins s σ H E I hf st hg;subst hP hw hK;obtain⟨xs,hq,hx⟩:=hg;obtain⟨its,rv,p,hz⟩:=I.list hq;obtain⟨f0,f1,f2,f3,f4,f5⟩:=hf it (by simp);have hl:=rv.length;exact wpAny_pyNext_list_end (I.ok.hd hc) st p.isList (by simp;omega) λh' eb=>⟨rfl,I.turned (t':=s.toks) (λb o hb e=>eb b o hb e) f0 f1 f3 f4 f5⟩
 self:=λ_ _ _ _ _ st h=>wpAny_pyIter_listiter st h
theorem mG{P:Program}{w:World}{K:PySem.W.Frag}{tg:Expr}(a it:Addr):Turn P w K tg (Itt K a) [it] it (λi h=>h.IsTupleIter it a i) where
 mem:=by simp
 obj:=λi h st b hb=>by
  have e:b=it:=by simpa using hb
  subst e;obtain⟨o,e,c,d⟩:=st;exact⟨o,e,λv z=>by rw[d]at z;cases z⟩
 keep:=λi h h' st k=>st.at λo e=>k it (by simp) o e
 item:=by
  intro X hP hw hK hc i pins s σ H E I hf st hg;subst hP hw hK;obtain⟨xs,x,hq,hx⟩:=hg;obtain⟨its,rv,p,hz⟩:=I.tuple hq;obtain⟨u,hu,ru⟩:=rv.get hx;obtain⟨f0,f1,f2,f3,f4,f5⟩:=hf it (by simp);refine wpAny_pyNext_tuple_item st (show s.heap.IsTuple a its.toArray from p) (x:=u) (by simpa using hu) λh' st' sb=>?_;have I1:Inv X pins σ H {s with heap:=h'}:=I.turned (t':=s.toks) (λb o hb e=>(sb.2 b hb).trans e) f0 f1 f3 f4 f5
  obtain⟨o,e,c,d⟩:=id st';exact⟨u,rfl,nY (s:={s with heap:=h'}) e c d (by decide) ⟨x,H,I1,ru,⟨rfl,λys hy=>by rw[I.tuple_inj hy hq];exact hx⟩,st',λb hb=>(hf b hb).1⟩⟩
 done:=by
  intro X hP hw hK hc i pins s σ H E I hf st hg;subst hP hw hK;obtain⟨xs,hq,hx⟩:=hg;obtain⟨its,rv,p,hz⟩:=I.tuple hq;obtain⟨f0,f1,f2,f3,f4,f5⟩:=hf it (by simp);have hl:=rv.length;exact wpAny_pyNext_tuple_end (I.ok.hd hc) st (show s.heap.IsTuple a its.toArray from p) (by simp;omega) λh' eb=>⟨rfl,I.turned (t':=s.toks) (λb o hb e=>eb b o hb e) f0 f1 f3 f4 f5⟩
 self:=λ_ _ _ _ _ st h=>wpAny_pyIter_tupleiter st h
theorem mH{P:Program}{w:World}{K:PySem.W.Frag}{tg:Expr}(it:Addr)(lo:Int)(n:Nat):Turn P w K tg (Itr lo n) [it] it (λi h=>IsRangeIter h it (lo+(i:Nat)*1) ((n:Int)-(i:Nat)) 1) where
 mem:=by simp
 obj:=λi h st b hb=>by
  have e:b=it:=by simpa using hb
  subst e;exact⟨_,st,λv z=>by
   have z':Data.fields _=Data.cell v:=z;cases z'⟩
 keep:=λi h h' st k=>k it (by simp) _ st
 item:=by
  intro X hP hw hK hc i pins s σ H E I hf st hg;subst hP hw hK;obtain⟨f0,f1,f2,f3,f4,f5⟩:=hf it (by simp);have W:=Walks.range (prog:=X.prog) (w:=X.w) (I.ok.hd hc) it lo 1 n;refine W.item i s _ _ hg st λv h' tk hv st' kk=>?_;obtain⟨t,rfl⟩:=hv;have I1:Inv X pins σ H {s with heap:=h',toks:=tk}:=I.turned (λb o hb e=>kk b o (by simpa using hb) e) f0 f1 f3 f4 f5
  refine⟨_,rfl,nY (s:={s with heap:=h',toks:=tk}) (n:="range_iterator") st' rfl rfl (by decide) ⟨.int (lo+i),H,I1,⟨t,?_⟩,⟨rfl,rfl⟩,st',λb hb=>(hf b hb).1⟩⟩;rw[Int.mul_one]
 done:=by
  intro X hP hw hK hc i pins s σ H E I hf st hg;subst hP hw hK;obtain⟨f0,f1,f2,f3,f4,f5⟩:=hf it (by simp);exact wpAny_pyNext_range_end (I.ok.hd hc) st (by have:n≤i:=hg;omega) λh' eb=>⟨rfl,I.turned (t':=s.toks) (λb o hb e=>eb b o hb e) f0 f1 f3 f4 f5⟩
 self:=λ_ _ _ _ _ st h=>wpAny_pyIter_rangeiter st h
section
variable{X:Cx}{tg:Expr}
def wx(K:PySem.W.Frag)(tl:TE):TI:=λσ H R=>tl σ H λx H1=>∃a,x=.ref a∧(∃xs,SqL K H1 a xs)∧R (Itl K a) H1
def wz(K:PySem.W.Frag)(tl:TE):TI:=λσ H R=>tl σ H λx H1=>∃a,x=.ref a∧(∃xs,SqT K H1 a xs)∧R (Itt K a) H1
theorem cG{l:Expr}{tl:TE}(hl:PE X l tl):PI X tg l (wx X.K tl):=by
 intro pins s σ H R I h;refine thn (hl pins s σ H _ I h) λv s1 hpt=>?_;obtain⟨x,H1,I1,r1,q1⟩:=hpt;obtain⟨a,e,⟨xs,hq⟩,q⟩:=q1;subst e;cases r1;obtain⟨its,rv,p,hz⟩:=I1.list hq;refine wpAny_pyIter_list p.isList ?_;refine⟨s1.heap.objs.size,[s1.heap.objs.size],_,_,H1,rfl,I1.kept (t':=s1.toks) λb o e=>get?_push_of_some _ e,pz a _,⟨_,get?_push_size _ rfl,rfl,rfl⟩,λb hb=>?_,q⟩;have e:b=s1.heap.objs.size:=by simpa using hb
 subst e;exact I1.fpOk (le_refl _) (I1.hok.fresh (le_refl _))
theorem cD{l:Expr}{tl:TE}(hl:PE X l tl):PI X tg l (wz X.K tl):=by
 intro pins s σ H R I h;refine thn (hl pins s σ H _ I h) λv s1 hpt=>?_;obtain⟨x,H1,I1,r1,q1⟩:=hpt;obtain⟨a,e,⟨xs,hq⟩,q⟩:=q1;subst e;cases r1;obtain⟨its,rv,p,hz⟩:=I1.tuple hq;refine wpAny_pyIter_tuple (show s1.heap.IsTuple a its.toArray from p) ?_;refine⟨s1.heap.objs.size,[s1.heap.objs.size],_,_,H1,rfl,I1.kept (t':=s1.toks) λb o e=>get?_push_of_some _ e,mG a _,⟨_,get?_push_size _ rfl,rfl,rfl⟩,λb hb=>?_,q⟩;have e:b=s1.heap.objs.size:=by simpa using hb
 subst e;exact I1.fpOk (le_refl _) (I1.hok.fresh (le_refl _))
theorem qm{pins:List (Addr×Obj)}{σ:St}{H:Hp}{s:Shared}{R:It→Hp→Prop}{E:Value→Shared→Prop}{lo hi:Int}{t u v:Tok}{tk:Nat}(I:Inv X pins σ H s)(h1:-(2 ^ 62)≤lo)(h2:lo<2 ^ 62)(h3:-(2 ^ 62)≤hi)(h4:hi<2 ^ 62)(q:R (Itr lo (hi-lo).toNat) H):wpAny (model X.prog X.w) X.A (pyIter (.ref s.heap.objs.size)) (PIE X pins σ tg R) E {s with heap:=s.heap.push {cls:=.type "range",data:=.fields #[.int lo t,.int hi u,.int 1 v]},toks:=tk}:=by
 refine wpAny_pyIter_range (IsRange.new ..) (small_one h1 h2 h3 h4) ?_;have I1:Inv X pins σ H {s with heap:=s.heap.push {cls:=.type "range",data:=.fields #[.int lo t,.int hi u,.int 1 v]},toks:=tk}:=I.kept λb o e=>get?_push_of_some _ e
 refine⟨(s.heap.push {cls:=.type "range",data:=.fields #[.int lo t,.int hi u,.int 1 v]}).objs.size,[(s.heap.push {cls:=.type "range",data:=.fields #[.int lo t,.int hi u,.int 1 v]}).objs.size],_,_,H,rfl,
  I1.kept (t':=tk) λb o e=>get?_push_of_some _ e,mH _ lo (hi-lo).toNat,?_,λb hb=>?_,q⟩
 ·have e1:lo+((0:Nat):Int)*1=lo:=by simp
  have e2:(((hi-lo).toNat:Nat):Int)-((0:Nat):Int)=Builtin.Range.rangeSize lo hi 1:=by rw[rangeSize_one];split<;>omega
  show IsRangeIter _ _ (lo+((0:Nat):Int)*1) ((((hi-lo).toNat:Nat):Int)-((0:Nat):Int)) 1;rw[e1,e2];exact get?_push_size _ rfl
 ·have e:b=(s.heap.push {cls:=.type "range",data:=.fields #[.int lo t,.int hi u,.int 1 v]}).objs.size:=by simpa using hb
  subst e;exact I1.fpOk (le_refl _) (I1.hok.fresh (le_refl _))
def wA(ta:TA):TI:=λσ H R=>ta σ H λvs H1=>∃j:Int,vs=[.int j]∧-(2 ^ 62)≤j∧j<2 ^ 62∧R (Itr 0 j.toNat) H1
theorem gX{a:Expr}{ta:TA}{p pos:Pos}(hg:Gl X "range")(hm:X.mg "range"=none)(ha:PA X [a] ta)(hs:starEach [a] X.env=[(false,eval a X.env)]:=by rfl):PI X tg (.Call (.Name "range" p) [a] [] pos) (wA ta):=by
 intro pins s σ H R I h;refine Call_ (ka I hg hm boot_range (PyProof.Rows.callWith_type1 (thn (ha pos pins s σ H _ I h) λus s1 ⟨vs,H1,I1,r1,q1⟩=>?_) hs rfl));obtain⟨j,e,q1,q2,q⟩:=q1;subst e;cases r1 with
 |cons r rr =>
  cases rr;obtain⟨t,rfl⟩:=r;exact call_range_1 (qm I1 (by omega) (by omega) q1 q2 (by simpa using q))
def xt(wi:TI)(g:TG)(tb:TS):TS:=λD σ H=>wi σ H λJ H1=>∃W:Nat→Nat→St→Hp→Prop,(∃m,W 0 m σ H1)∧∀i m σ H,W i m σ H →
 (J.stop i H∧D.nx σ H)∨(J.go i H∧∃N:St→Hp→Prop,(∀σ' H',N σ' H'→∃m',m'<m∧W (i+1) m' σ' H')∧∀x H',J.yld i H x H'→g x σ H' λσ2 H2=>tb {D with nx:=N,ct:=N,bk:=D.nx} σ2 H2)
def kc(fp:List Addr)(h:Heap):List (Addr×Obj):=fp.filterMap λb=>(h.get? b).map λo=>(b,o)
theorem aZ{fp:List Addr}{h:Heap}{b:Addr}{o:Obj}(hb:b∈fp)(e:h.get? b=some o):(b,o)∈kc fp h:=List.mem_filterMap.mpr ⟨b,hb,by rw[e];rfl⟩
theorem pA{fp:List Addr}{h:Heap}{p:Addr×Obj}(hp:p∈kc fp h):p.1∈fp∧h.get? p.1=some p.2:=by
 obtain⟨b,hb,e⟩:=List.mem_filterMap.mp hp;cases q:h.get? b with
 |none=>rw[q]at e;cases e
 |some o =>
  rw[q]at e;have e':(b,o)=p:=Option.some.inj e;subst e';exact⟨hb,q⟩
theorem Inv.pinned{pins:List (Addr×Obj)}{σ:St}{H:Hp}{s:Shared}{fp:List Addr}(I:Inv X pins σ H s)(hf:∀b∈fp,eU X pins H b)(ho:∀b∈fp,∃o,s.heap.get? b=some o∧∀v,o.data≠.cell v):Inv X (pins++kc fp s.heap) σ H s :=
 I.pins_of λp hp=>(mem_append.mp hp).elim (λz=>I.pin p (mem_append_right _ z)) λz=>by
  obtain⟨hb,e⟩:=pA z;obtain⟨f0,f1,f2,_⟩:=hf p.1 hb;obtain⟨o,e',d⟩:=ho p.1 hb;rw[e]at e';cases e';exact⟨e,f0,f1,f2,d⟩
theorem Inv.unpinned{pins pl:List (Addr×Obj)}{σ:St}{H:Hp}{s:Shared}(I:Inv X (pins++pl) σ H s):Inv X pins σ H s:=I.pins_of λp hp=>I.pin p (mem_append_right _ (mem_append_left _ hp))
theorem cH{iter:Expr}{body:List Stmt}{wi:TI}{g:TG}{tb:TS}{pos:Pos}(hp:PassesOwn (model X.prog X.w) X.A X.env X.xe)(hc:X.calm=true)(hi:PI X tg iter wi)(hg:PG X tg g)(hb:PSs X body tb)(hs:∀x,foldedSetIterable iter X.env x=pure x:=by intro _;rfl):PS X (.For tg iter body [] pos) (xt wi g tb):=by
 intro pins s σ H D I h;refine wpAny_For (thn (hi pins s σ H _ I h) λv s1 h1=>thn h1 λitv s2 h2=>?_) hs;obtain⟨it,fp,tn,J,H2,e,I2,T,st2,f2,W,⟨m0,w0⟩,turn⟩:=h2;subst e;have stat:∀{H':Hp},(∀b∈fp,H' b=none)→∀b∈fp,eU X pins H' b:=λhn b hb=>⟨hn b hb,(f2 b hb).2⟩;refine codeAny_forLoop_any (λn s'=>∃i σ' H',Inv X pins σ' H' s'∧tn i s'.heap∧(∀b∈fp,H' b=none)∧W i n σ' H') ?_ m0 ⟨0,σ,H2,I2,st2,λb hb=>(f2 b hb).1,w0⟩;rintro n s3 ⟨i,σ3,H3,I3,st3,fr3,w3⟩;rcases turn i n σ3 H3 w3 with⟨stop,qn⟩|⟨go,N,hN,step⟩
 ·refine wpAny_passesOwn hp (thn (T.done X rfl rfl rfl hc i pins s3 σ3 H3 X.xe I3 (stat fr3) st3 stop) λr s4 hpt=>?_);obtain⟨hr,I4⟩:=hpt;subst hr;exact wpAny_execs_nil ⟨σ3,H3,I4,qn⟩
 ·refine wpAny_passesOwn hp (thn (T.item X rfl rfl rfl hc i pins s3 σ3 H3 X.xe I3 (stat fr3) st3 go) λr s4 hpt=>?_);obtain⟨u,hr,h4⟩:=hpt;subst hr;refine wpAny_passesOwn hp (thn h4 λ_ s5 hpt=>?_);obtain⟨x,H5,I5,r5,y5,st5,fr5⟩:=hpt;have I5':=I5.pinned (stat fr5) (T.obj _ _ st5);refine wpAny_passesOwn hp (thn (hg _ s5 σ3 H5 x u _ I5' r5 (step x H5 y5)) λ_ s6 hpt=>?_);obtain⟨σ6,H6,I6,q6⟩:=hpt;refine wpAny_passesOwn hp (thn (hb _ s6 σ6 H6 _ I6 q6) λf s7 q7=>?_);have again:∀{σ7:St}{H7:Hp},Inv X (pins++kc fp s5.heap) σ7 H7 s7→N σ7 H7→∃m,m<n∧∃i σ' H',Inv X pins σ' H' s7∧tn i s7.heap∧(∀b∈fp,H' b=none)∧W i m σ' H':=λ{σ7 H7} I7 n7=>by
   obtain⟨m',hm,w7⟩:=hN σ7 H7 n7;refine⟨m',hm,i+1,σ7,H7,I7.unpinned,T.keep _ _ _ st5 λb hb o e=>(I7.pin (b,o) (mem_append_right _ (mem_append_right _ (aZ hb e)))).1,λb hb=>?_,w7⟩;obtain⟨o,e,d⟩:=T.obj _ _ st5 b hb;exact(I7.pin (b,o) (mem_append_right _ (mem_append_right _ (aZ hb e)))).2.1
  cases f with
  |next=>obtain⟨σ7,H7,I7,n7⟩:=q7;exact again I7 n7
  |cont=>obtain⟨σ7,H7,I7,n7⟩:=q7;exact again I7 n7
  |brk=>obtain⟨σ7,H7,I7,q7⟩:=q7;exact⟨σ7,H7,I7.unpinned,q7⟩
  |ret v=>obtain⟨x7,σ7,H7,I7,r7,q7⟩:=q7;exact⟨x7,σ7,H7,I7.unpinned,r7,q7⟩
end
theorem eV{K:PySem.W.Frag}{a:Addr}{xs:List V}{g:TG}{tb:TS}{D:Ends}{σ:St}{H:Hp}(Pv:Nat→St→Hp→Prop)(h0:Pv 0 σ H)(hl:∀i σ H,i≤xs.length→Pv i σ H→SqL K H a xs)(hs:∀i x σ H,xs[i]?=some x→Pv i σ H→g x σ H λσ2 H2=>tb {D with nx:=Pv (i+1),ct:=Pv (i+1),bk:=D.nx} σ2 H2)(hd:∀σ H,Pv xs.length σ H→D.nx σ H):
  ∃W:Nat→Nat→St→Hp→Prop,(∃m,W 0 m σ H)∧∀i m σ H,W i m σ H →
   ((Itl K a).stop i H∧D.nx σ H)∨((Itl K a).go i H∧∃N:St→Hp→Prop,(∀σ' H',N σ' H'→∃m',m'<m∧W (i+1) m' σ' H')∧∀x H',(Itl K a).yld i H x H'→g x σ H' λσ2 H2=>tb {D with nx:=N,ct:=N,bk:=D.nx} σ2 H2):=by
 refine⟨λi m σ H=>m=xs.length-i∧i≤xs.length∧Pv i σ H,⟨xs.length,by simp,zero_le _,h0⟩,?_⟩;rintro i m σ H ⟨rfl,hi,p⟩;have q:=hl i σ H hi p
 by_cases hlt:i<xs.length
 ·refine .inr ⟨⟨xs,xs[i],q,by simp[hlt]⟩,Pv (i+1),λσ' H' p'=>⟨xs.length-(i+1),by omega,rfl,hlt,p'⟩,λx H' y=>?_⟩;obtain⟨e,y⟩:=y;subst e;exact hs i x σ _ (y xs q) p
 ·have e:i=xs.length:=by omega
  subst e;exact .inl ⟨⟨xs,q,le_refl _⟩,hd σ H p⟩
theorem gp{K:PySem.W.Frag}{a:Addr}{xs:List V}{g:TG}{tb:TS}{D:Ends}{σ:St}{H:Hp}(Pv:Nat→St→Hp→Prop)(h0:Pv 0 σ H)(hl:∀i σ H,i≤xs.length→Pv i σ H→SqT K H a xs)(hs:∀i x σ H,xs[i]?=some x→Pv i σ H→g x σ H λσ2 H2=>tb {D with nx:=Pv (i+1),ct:=Pv (i+1),bk:=D.nx} σ2 H2)(hd:∀σ H,Pv xs.length σ H→D.nx σ H):
  ∃W:Nat→Nat→St→Hp→Prop,(∃m,W 0 m σ H)∧∀i m σ H,W i m σ H →
   ((Itt K a).stop i H∧D.nx σ H)∨((Itt K a).go i H∧∃N:St→Hp→Prop,(∀σ' H',N σ' H'→∃m',m'<m∧W (i+1) m' σ' H')∧∀x H',(Itt K a).yld i H x H'→g x σ H' λσ2 H2=>tb {D with nx:=N,ct:=N,bk:=D.nx} σ2 H2):=by
 refine⟨λi m σ H=>m=xs.length-i∧i≤xs.length∧Pv i σ H,⟨xs.length,by simp,zero_le _,h0⟩,?_⟩;rintro i m σ H ⟨rfl,hi,p⟩;have q:=hl i σ H hi p
 by_cases hlt:i<xs.length
 ·refine .inr ⟨⟨xs,xs[i],q,by simp[hlt]⟩,Pv (i+1),λσ' H' p'=>⟨xs.length-(i+1),by omega,rfl,hlt,p'⟩,λx H' y=>?_⟩;obtain⟨e,y⟩:=y;subst e;exact hs i x σ _ (y xs q) p
 ·have e:i=xs.length:=by omega
  subst e;exact .inl ⟨⟨xs,q,le_refl _⟩,hd σ H p⟩
theorem gY{lo:Int}{n:Nat}{g:TG}{tb:TS}{D:Ends}{σ:St}{H:Hp}(Pv:Nat→St→Hp→Prop)(h0:Pv 0 σ H)(hs:∀i σ H,i<n→Pv i σ H→g (.int (lo+i)) σ H λσ2 H2=>tb {D with nx:=Pv (i+1),ct:=Pv (i+1),bk:=D.nx} σ2 H2)(hd:∀σ H,Pv n σ H→D.nx σ H):
  ∃W:Nat→Nat→St→Hp→Prop,(∃m,W 0 m σ H)∧∀i m σ H,W i m σ H →
   ((Itr lo n).stop i H∧D.nx σ H)∨((Itr lo n).go i H∧∃N:St→Hp→Prop,(∀σ' H',N σ' H'→∃m',m'<m∧W (i+1) m' σ' H')∧∀x H',(Itr lo n).yld i H x H'→g x σ H' λσ2 H2=>tb {D with nx:=N,ct:=N,bk:=D.nx} σ2 H2):=by
 refine⟨λi m σ H=>m=n-i∧i≤n∧Pv i σ H,⟨n,by simp,zero_le _,h0⟩,?_⟩;rintro i m σ H ⟨rfl,hi,p⟩
 by_cases hlt:i<n
 ·refine .inr ⟨hlt,Pv (i+1),λσ' H' p'=>⟨n-(i+1),by omega,rfl,hlt,p'⟩,λx H' y=>?_⟩;obtain⟨e,y⟩:=y;subst e y;exact hs i σ _ hlt p
 ·have e:i=n:=by omega
  subst e;exact .inl ⟨le_refl _,hd σ H p⟩
theorem eW{c:TT}{tb:TS}{D:Ends}{σ:St}{H:Hp}(Pv:St→Hp→Prop)(μ:St→Hp→Nat)(h0:Pv σ H)(hs:∀σ H,Pv σ H→c σ H λb H1=>if b=true then tb {D with nx:=λσ' H'=>Pv σ' H'∧μ σ' H'<μ σ H,ct:=λσ' H'=>Pv σ' H'∧μ σ' H'<μ σ H,bk:=D.nx} σ H1 else D.nx σ H1)(mono:∀σ H Q Q',(∀b H1,Q b H1→Q' b H1)→c σ H Q→c σ H Q'):ql c tb D σ H:=by
 refine⟨λm σ H=>m=μ σ H∧Pv σ H,⟨_,rfl,h0⟩,?_⟩;rintro m σ H ⟨rfl,p⟩;refine mono σ H _ _ (λb H1 q=>?_) (hs σ H p);cases b with
 |true=>exact⟨_,λσ' H' ⟨p',l⟩=>⟨_,l,rfl,p'⟩,q⟩
 |false=>exact q
abbrev R2:=V→V→Hp→VK→Prop
def OpR(X:Cx)(f:Value→Value→Sem Value)(r:R2):Prop :=
 ∀(pins:List (Addr×Obj))(s:Shared)(σ:St)(H:Hp)(x y:V)(v u:Value)(Q:VK),Inv X pins σ H s→aN x v→aN y u→r x y H Q →
  wpAny (model X.prog X.w) X.A (f v u) (EP X pins σ Q) X.xe s
def dt(X:Cx)(f:Value)(r:List V→Hp→VK→Prop):Prop :=
 ∀(pins:List (Addr×Obj))(s:Shared)(σ:St)(H:Hp)(xs:List V)(us:List Value)(Q:VK),Inv X pins σ H s→aL xs us→r xs H Q →
  wpAny (model X.prog X.w) X.A (call f us) (EP X pins σ Q) X.xe s
def xv(X:Cx)(r:V→Hp→(Bool→Hp→Prop)→Prop):Prop :=
 ∀(pins:List (Addr×Obj))(s:Shared)(σ:St)(H:Hp)(x:V)(v:Value)(Q:Bool→Hp→Prop),Inv X pins σ H s→aN x v→r x H Q →
  wpAny (model X.prog X.w) X.A (truthy v) (TP X pins σ Q) X.xe s
def tOp(r:R2)(ta tb:TE):TE:=λσ H Q=>ta σ H λx H1=>tb σ H1 λy H2=>r x y H2 Q
def rI(C:Int→Int→Prop)(g:Int→Int→V):R2:=λx y H Q=>∃i j,x=.int i∧y=.int j∧C i j∧Q (g i j) H
def rI0(g:Int→Int→V):R2:=λx y H Q=>∃i j,x=.int i∧y=.int j∧Q (g i j) H
section
variable{X:Cx}{a b c:Expr}{ta tb tc:TE}{pos:Pos}
theorem uP(ha:PE X a ta)(hb:PE X b tb){pins:List (Addr×Obj)}{s:Shared}{σ:St}{H:Hp}{R:V→V→Hp→Prop}(I:Inv X pins σ H s)(h:ta σ H λx H1=>tb σ H1 λy H2=>R x y H2){Q:Value→Shared→Prop}{f:Value→Value→Sem Value}(hf:∀v u s2 x y H2,Inv X pins σ H2 s2→aN x v→aN y u→R x y H2→wpAny (model X.prog X.w) X.A (f v u) Q X.xe s2):
  wpAny (model X.prog X.w) X.A (eval a X.env) (λv s₁=>wpAny (model X.prog X.w) X.A (eval b X.env) (λu s₂=>wpAny (model X.prog X.w) X.A (f v u) Q X.xe s₂) X.xe s₁) X.xe s:=by
 refine thn (ha pins s σ H _ I h) λv s1 hpt=>?_;obtain⟨x,H1,I1,r1,q1⟩:=hpt;refine thn (hb pins s1 σ H1 _ I1 q1) λu s2 hpt=>?_;obtain⟨y,H2,I2,r2,q2⟩:=hpt;exact hf v u s2 x y H2 I2 r1 r2 q2
theorem aE{op:Operator}{r:R2}(ho:OpR X (binaryOp op) r)(ha:PE X a ta)(hb:PE X b tb):PE X (.BinOp a op b pos) (tOp r ta tb):=by
 intro pins s σ H Q I h;exact wpAny_BinOp (uP ha hb I h λv u s2 x y H2 I2 rx ry q=>ho pins s2 σ H2 x y v u Q I2 rx ry q)
theorem opI{f:Value→Value→Sem Value}{C:Int→Int→Prop}{g:Int→Int→Int}(rule:∀(i j:Int) (t u:Tok) (s:Shared) (Q:Value→Shared→Prop) (E:Value→Shared→Prop),C i j→Q (.int (g i j) s.toks) {s with toks:=s.toks+1}→wpAny (model X.prog X.w) X.A (f (.int i t) (.int j u)) Q E s):
  OpR X f (rI C λi j=>.int (g i j)):=by
 intro pins s σ H x y v u Q I rx ry h;obtain⟨i,j,rfl,rfl,hc,q⟩:=h;obtain⟨t,rfl⟩:=rx;obtain⟨t',rfl⟩:=ry;exact rule i j t t' s _ _ hc ⟨.int (g i j),H,I.tok _,⟨_,rfl⟩,q⟩
theorem uQ{f:Value→Value→Sem Value}{g:Int→Int→Int}(rule:∀(i j:Int) (t u:Tok) (s:Shared) (Q:Value→Shared→Prop) (E:Value→Shared→Prop),Q (.int (g i j) s.toks) {s with toks:=s.toks+1}→wpAny (model X.prog X.w) X.A (f (.int i t) (.int j u)) Q E s):
  OpR X f (rI0 λi j=>.int (g i j)):=by
 intro pins s σ H x y v u Q I rx ry h;obtain⟨i,j,rfl,rfl,q⟩:=h;obtain⟨t,rfl⟩:=rx;obtain⟨t',rfl⟩:=ry;exact rule i j t t' s _ _ ⟨.int (g i j),H,I.tok _,⟨_,rfl⟩,q⟩
theorem wB{f:Value→Value→Sem Value}{g:Int→Int→Bool}(rule:∀(i j:Int) (t u:Tok) (s:Shared) (Q:Value→Shared→Prop) (E:Value→Shared→Prop),Q (.bool (g i j)) s→wpAny (model X.prog X.w) X.A (f (.int i t) (.int j u)) Q E s):
  OpR X f (rI0 λi j=>.bl (g i j)):=by
 intro pins s σ H x y v u Q I rx ry h;obtain⟨i,j,rfl,rfl,q⟩:=h;obtain⟨t,rfl⟩:=rx;obtain⟨t',rfl⟩:=ry;exact rule i j t t' s _ _ ⟨.bl (g i j),H,I,rfl,q⟩
def xw(i j:Int):Prop:=0<j∧j<1073741824
def uR(i j:Int):Prop:=(-(2 ^ 64)<i∧i<2 ^ 64)∨(-(2 ^ 64)<j∧j<2 ^ 64)
theorem uR.ok{i j:Int}(h:uR i j):IntMulOk i j:=by
 rcases h with⟨h1,h2⟩|⟨h1,h2⟩
 ·exact .of_left (intBits_le_64 h1 h2)
 ·exact .of_right (intBits_le_64 h1 h2)
theorem bg:OpR X (binaryOp .Add) (rI0 λi j=>.int (i+j)):=uQ λ_ _ _ _ _ _ _ q=>add_int q
theorem qp:OpR X (binaryOp .Sub) (rI0 λi j=>.int (i-j)):=uQ λ_ _ _ _ _ _ _ q=>sub_int q
theorem cX:OpR X (binaryOp .Mult) (rI uR λi j=>.int (i*j)):=opI λ_ _ _ _ _ _ _ hc q=>mul_int q hc.ok
theorem kd:OpR X (binaryOp .FloorDiv) (rI xw λi j=>.int (i / j)):=opI λi j _ _ _ _ _ hc q=>by
 have h1:(0:Int)<j:=hc.1;have h2:j<1073741824:=hc.2;exact floordiv_int (by omega) (by rw[Int.fdiv_eq_ediv_of_nonneg i (by omega)];exact q) (.inl (PyProof.noPylong_small (by omega)))
theorem iL:OpR X (binaryOp .Mod) (rI (λ_ j=>0<j) λi j=>.int (i % j)):=opI λi j _ _ _ _ _ hc q=>by
 have h1:(0:Int)<j:=hc;exact mod_int' (by omega) (by rw[Int.fmod_eq_emod_of_nonneg i (by omega)];exact q)
theorem so:OpR X (inplaceOp .Add) (rI0 λi j=>.int (i+j)):=uQ λ_ _ _ _ _ _ _ q=>iadd_int q
end
def uS:V→V→Bool
 |.non,.non=>true | .non,.int _=>true | .int _,.non=>true | .non,.bl _=>true | .bl _,.non=>true | .non,.str _=>true | .str _,.non=>true
 |.int _,.int _=>true | .bl _,.bl _=>true | .str _,.str _=>true | .byt _,.byt _=>true
 |.int _,.str _=>true | .str _,.int _=>true | .bl _,.str _=>true | .str _,.bl _=>true
 |_,_=>false
def rEq:R2:=λx y H Q=>uS x y=true∧Q (.bl (decide (x=y))) H
def rNe:R2:=λx y H Q=>uS x y=true∧Q (.bl (!decide (x=y))) H
theorem ke{i j:Int}:decide (V.int i=V.int j)=(i==j):=by
 rw[Bool.eq_iff_iff];simp
theorem qq{i j:Bool}:decide (V.bl i=V.bl j)=(i==j):=by
 rw[Bool.eq_iff_iff];simp
theorem nZ{i j:Str}:decide (V.str i=V.str j)=(i==j):=by
 rw[Bool.eq_iff_iff];simp
theorem oa{i j:Array UInt8}:decide (V.byt i=V.byt j)=(i.toList==j.toList):=by
 rw[Bool.eq_iff_iff];cases i;cases j;simp
section
variable{X:Cx}{a b c:Expr}{ta tb tc:TE}{pos:Pos}
theorem aV{pins:List (Addr×Obj)}{σ:St}{H:Hp}{s:Shared}{Q:VK}{k k':Bool}(I:Inv X pins σ H s)(q:Q (.bl k) H)(e:k=k'):EP X pins σ Q (.bool k') s:=by
 subst e;exact⟨.bl k,H,I,rfl,q⟩
theorem cy:OpR X (compareOp .Eq) rEq:=by
 intro pins s σ H x y v u Q I rx ry h;obtain⟨hs,q⟩:=h;cases x with
 |non =>
  cases rx;cases y with
  |non=>cases ry;exact PySem.EqNone.eq_none_none (aV I q (by simp))
  |bl j=>cases ry;exact PySem.EqNone.eq_none_bool (aV I q (by simp))
  |int j=>obtain⟨t',rfl⟩:=ry;exact PySem.EqNone.eq_none_int (aV I q (by simp))
  |str j=>obtain⟨t',rfl⟩:=ry;exact PySem.EqNone.eq_none_str (aV I q (by simp))
  |_=>exact absurd (show false=true from hs) Bool.false_ne_true
 |bl i =>
  cases rx;cases y with
  |non=>cases ry;exact PySem.EqNone.eq_bool_none (aV I q (by simp))
  |bl j=>cases ry;exact eq_bool (aV I q qq)
  |str j=>obtain⟨t',rfl⟩:=ry;exact PySem.EqMixed.eq_bool_str (aV I q (by simp))
  |_=>exact absurd (show false=true from hs) Bool.false_ne_true
 |int i =>
  obtain⟨t,rfl⟩:=rx;cases y with
  |non=>cases ry;exact PySem.EqNone.eq_int_none (aV I q (by simp))
  |int j=>obtain⟨t',rfl⟩:=ry;exact eq_int (aV I q ke)
  |str j=>obtain⟨t',rfl⟩:=ry;exact PySem.EqMixed.eq_int_str (aV I q (by simp))
  |_=>exact absurd (show false=true from hs) Bool.false_ne_true
 |str i =>
  obtain⟨t,rfl⟩:=rx;cases y with
  |non=>cases ry;exact PySem.EqNone.eq_str_none (aV I q (by simp))
  |bl j=>cases ry;exact PySem.EqMixed.eq_str_bool (aV I q (by simp))
  |int j=>obtain⟨t',rfl⟩:=ry;exact PySem.EqMixed.eq_str_int (aV I q (by simp))
  |str j=>obtain⟨t',rfl⟩:=ry;exact eq_str (aV I q nZ)
  |_=>exact absurd (show false=true from hs) Bool.false_ne_true
 |byt i =>
  obtain⟨t,rfl⟩:=rx;cases y with
  |byt j=>obtain⟨t',rfl⟩:=ry;exact PySem.W.eq_bytes (aV I q oa)
  |_=>exact absurd (show false=true from hs) Bool.false_ne_true
 |_=>cases y<;>exact absurd (show false=true from hs) Bool.false_ne_true
theorem cN:OpR X (compareOp .NotEq) rNe:=by
 intro pins s σ H x y v u Q I rx ry h;obtain⟨hs,q⟩:=h;cases x with
 |non =>
  cases rx;cases y with
  |non=>cases ry;exact PySem.EqNone.ne_none_none (aV I q (by simp))
  |bl j=>cases ry;exact PySem.EqNone.ne_none_bool (aV I q (by simp))
  |int j=>obtain⟨t',rfl⟩:=ry;exact PySem.EqNone.ne_none_int (aV I q (by simp))
  |str j=>obtain⟨t',rfl⟩:=ry;exact PySem.EqNone.ne_none_str (aV I q (by simp))
  |_=>exact absurd (show false=true from hs) Bool.false_ne_true
 |bl i =>
  cases rx;cases y with
  |non=>cases ry;exact PySem.EqNone.ne_bool_none (aV I q (by simp))
  |bl j=>cases ry;exact ne_bool (aV I q (congrArg not qq))
  |str j=>obtain⟨t',rfl⟩:=ry;exact PySem.EqMixed.ne_bool_str (aV I q (by simp))
  |_=>exact absurd (show false=true from hs) Bool.false_ne_true
 |int i =>
  obtain⟨t,rfl⟩:=rx;cases y with
  |non=>cases ry;exact PySem.EqNone.ne_int_none (aV I q (by simp))
  |int j=>obtain⟨t',rfl⟩:=ry;exact ne_int (aV I q (congrArg not ke))
  |str j=>obtain⟨t',rfl⟩:=ry;exact PySem.EqMixed.ne_int_str (aV I q (by simp))
  |_=>exact absurd (show false=true from hs) Bool.false_ne_true
 |str i =>
  obtain⟨t,rfl⟩:=rx;cases y with
  |non=>cases ry;exact PySem.EqNone.ne_str_none (aV I q (by simp))
  |bl j=>cases ry;exact PySem.EqMixed.ne_str_bool (aV I q (by simp))
  |int j=>obtain⟨t',rfl⟩:=ry;exact PySem.EqMixed.ne_str_int (aV I q (by simp))
  |str j=>obtain⟨t',rfl⟩:=ry;exact ne_str (aV I q (congrArg not nZ))
  |_=>exact absurd (show false=true from hs) Bool.false_ne_true
 |byt i =>
  obtain⟨t,rfl⟩:=rx;cases y with
  |byt j=>obtain⟨t',rfl⟩:=ry;exact PySem.W.ne_bytes (aV I q (congrArg not oa))
  |_=>exact absurd (show false=true from hs) Bool.false_ne_true
 |_=>cases y<;>exact absurd (show false=true from hs) Bool.false_ne_true
theorem qr:OpR X (compareOp .Lt) (rI0 λi j=>.bl (decide (i<j))):=wB λ_ _ _ _ _ _ _ q=>lt_int q
theorem og:OpR X (compareOp .Gt) (rI0 λi j=>.bl (decide (j<i))):=wB λ_ _ _ _ _ _ _ q=>gt_int q
theorem eG:OpR X (compareOp .Is) (λx y H Q=>y=.non∧Q (.bl (decide (x=.non))) H):=by
 intro pins s σ H x y v u Q I rx ry h;obtain⟨rfl,q⟩:=h;cases ry;refine is_none_gen (aV I q ?_);cases x<;>first
  |(cases rx;rfl)
  |(obtain⟨t,rfl⟩:=rx;rfl)
theorem iz:OpR X (compareOp .IsNot) (λx y H Q=>y=.non∧Q (.bl (!decide (x=.non))) H):=by
 intro pins s σ H x y v u Q I rx ry h;obtain⟨rfl,q⟩:=h;cases ry;refine isnot_none_gen (aV I q ?_);cases x<;>first
  |(cases rx;rfl)
  |(obtain⟨t,rfl⟩:=rx;rfl)
theorem OpR.or{f:Value→Value→Sem Value}{r r':R2}(h:OpR X f r)(h':OpR X f r'):OpR X f (λx y H Q=>r x y H Q∨r' x y H Q):=by
 intro pins s σ H x y v u Q I rx ry q;rcases q with q|q
 ·exact h pins s σ H x y v u Q I rx ry q
 ·exact h' pins s σ H x y v u Q I rx ry q
theorem au(b:Expr){op:CmpOp}(h:op≠.In:=by decide)(h2:op≠.NotIn:=by decide):behindInMarks op b=false:=by
 have e1:(op==CmpOp.In)=false:=by cases op<;>first|rfl|exact absurd rfl h
 have e2:(op==CmpOp.NotIn)=false:=by cases op<;>first|rfl|exact absurd rfl h2
 cases b<;>simp[behindInMarks,e1,e2]
theorem dH{op:CmpOp}{r:R2}(ho:OpR X (compareOp op) r)(ha:PE X a ta)(hb:PE X b tb)(hm:behindInMarks op b=false):PE X (.Compare a [op] [b] pos) (tOp r ta tb):=by
 intro pins s σ H Q I h;exact wpAny_Compare1 (uP ha hb I h λv u s2 x y H2 I2 rx ry q=>ho pins s2 σ H2 x y v u Q I2 rx ry q) hm
def wC(t:TE):TT:=λσ H Q=>t σ H λx H'=>∃k,x=.bl k∧Q k H'
theorem am{op:CmpOp}{r:R2}(ho:OpR X (compareOp op) r)(ha:PE X a ta)(hb:PE X b tb)(hm:behindInMarks op b=false):PT X (.Compare a [op] [b] pos) (wC (tOp r ta tb)):=by
 intro pins s σ H Q I h;refine wpAny_isTrue_Compare1 (thn (ha pins s σ H _ I h) λv s1 ⟨x,H1,I1,r1,q1⟩=>thn (hb pins s1 σ H1 _ I1 q1) λu s2 ⟨y,H2,I2,r2,q2⟩ =>
  thn (ho pins s2 σ H2 x y v u _ I2 r1 r2 q2) λc s3 ⟨z,H3,I3,r3,k,e,q3⟩=>?_) hm
 subst e;cases r3;exact wpAny_truthy_bool ⟨H3,I3,q3⟩
def wD(K:PySem.W.Frag)(x:V)(H:Hp)(k:Bool):Prop :=
 match x with
 |.non=>k=false
 |.bl b=>k=b
 |.int i=>k=(i != 0)
 |.str y=>y.length≤sizeLine∧k=((y.length:Int) != 0)
 |.byt y=>y.size≤sizeLine∧k=((y.size:Int) != 0)
 |.ref p=>(∃xs,SqL K H p xs∧k = !xs.isEmpty)∨(∃xs,SqT K H p xs∧k = !xs.isEmpty)∨∃kvs,H p=some (.dK kvs)∧k = !kvs.isEmpty
 |_=>False
theorem mJ{κ:Type}{kvs:List (κ×V)}{vs:List (κ×Value)}(r:KV kvs vs):(!vs.isEmpty) = !kvs.isEmpty:=by
 cases r<;>rfl
theorem iM{xs:List V}{its:List Value}(r:aL xs its):(!its.toArray.isEmpty) = !xs.isEmpty:=by
 cases r<;>simp
theorem gZ:(sizeLine:Nat)<2 ^ 63:=by rw[sizeLine_eq];decide
theorem uT:xv X (λx H Q=>∃k,wD X.K x H k∧Q k H):=by
 intro pins s σ H x v Q I rx h;obtain⟨k,e,q⟩:=h;have hl:=gZ;have hs:sizeLine=16777216:=sizeLine_eq;cases x with
 |non =>
  cases rx;have e':k=false:=e;subst e';exact truthy_none ⟨H,I,q⟩
 |bl b =>
  cases rx;have e':k=b:=e;subst e';exact wpAny_truthy_bool ⟨H,I,q⟩
 |int i =>
  obtain⟨t,rfl⟩:=rx;have e':k=(i != 0):=e;subst e';exact PySem.P.truthy_int ⟨H,I,q⟩
 |str y =>
  obtain⟨t,rfl⟩:=rx;obtain⟨hy,e'⟩:y.length≤sizeLine∧k=((y.length:Int) != 0):=e;subst e';exact PySem.P.truthy_str (by omega) ⟨H,I.tok _,q⟩
 |byt y =>
  obtain⟨t,rfl⟩:=rx;obtain⟨hy,e'⟩:y.size≤sizeLine∧k=((y.size:Int) != 0):=e;subst e';exact PySem.W.truthy_bytes (by omega) ⟨H,I.tok _,q⟩
 |ref p =>
  cases rx;have e':(∃xs,SqL X.K H p xs∧k = !xs.isEmpty)∨(∃xs,SqT X.K H p xs∧k = !xs.isEmpty)∨∃kvs,H p=some (.dK kvs)∧k = !kvs.isEmpty:=e;rcases e' with⟨xs,hx,e'⟩|⟨xs,hx,e'⟩|⟨kvs,hx,e'⟩
  ·subst e';obtain⟨its,r,pl,hz⟩:=I.list hx;have hlen:=r.length;exact wpAny_truthy_list pl.isList (by simp only[size_toArray];omega) ⟨H,I.tok _,by rw[iM r];exact q⟩
  ·subst e';obtain⟨its,r,pl,hz⟩:=I.tuple hx;have hlen:=r.length;exact truthy_tuple pl (by simp only[size_toArray];omega) ⟨H,I.tok _,by rw[iM r];exact q⟩
  ·subst e';obtain⟨hz,hS,vs,r,m⟩:kvs.length≤sizeLine∧(p==sysModules)=false∧∃vs,KV kvs vs∧s.heap.DictOf (aU X.prog X.w) p vs:=I.hok p _ hx;have hlen:kvs.length=vs.length:=Paired.length r;exact wpAny_truthy_dict hS m (by omega) ⟨H,I.tok _,by rw[mJ r];exact q⟩
 |_=>exact(show False from e).elim
theorem qu(ha:PE X a ta)(he:∀whole,isTrue a X.env whole=(do let v ← whole;standAt a.pos;holding [v] (truthy v))):
  PT X a (λσ H Q=>ta σ H λx H'=>∃k,wD X.K x H' k∧Q k H'):=by
 intro pins s σ H Q I h;exact isTrue_plain (thn (ha pins s σ H _ I h) λv s1 ⟨x,H1,I1,r1,q1⟩=>uT pins s1 σ H1 x v Q I1 r1 q1) (he _)
theorem mQ:OpR X (binaryOp .Add) (λx y H Q=>∃i j,x=.str i∧y=.str j∧i.length+j.length≤sizeLine∧Q (.str (i++j)) H):=by
 intro pins s σ H x y v u Q I rx ry h;obtain⟨i,j,rfl,rfl,hz,q⟩:=h;obtain⟨t,rfl⟩:=rx;obtain⟨t',rfl⟩:=ry;exact add_str (λt' tk=>⟨.str (i++j),H,I.tok _,⟨_,rfl⟩,q⟩) hz
theorem gs{x:V}{us:List Value}(r:aL [x] us):∃u,us=[u]∧aN x u:=by
 cases r with
 |cons r1 r2=>cases r2;exact⟨_,rfl,r1⟩
theorem ui{x y:V}{us:List Value}(r:aL [x,y] us):∃u w',us=[u,w']∧aN x u∧aN y w':=by
 cases r with
 |cons r1 r2 =>
  cases r2 with
  |cons r3 r4=>cases r4;exact⟨_,_,rfl,r1,r3⟩
end
structure ObjM(h:Heap)(x dx C:Addr)(mA:Str→Option Value):Prop where
 obj:h.get? x=some (instObj C dx)
 ns:h.Ns1 dx mA
 ne:dx≠x
theorem pB{h:Heap}{dx:Addr}{mA:Str→Option Value}(n:h.Ns1 dx mA):∃od,h.get? dx=some od∧∀name,lookIn name od=some (mA name):=by
 obtain⟨o,es,ep,ho,hd,hk,_,hm⟩:=n;refine⟨o,ho,λname=>?_⟩;have e:=hm name;unfold nsFind findBy at e;rw[←Array.find?_toList]at e;unfold lookIn;rw[hd];dsimp only
 split
 ·rename_i y q
  rw[q]at e;exact congrArg some e
 ·rename_i q
  rw[q]at e;have a:es.toList.any (·.refKey)=false:=by
   rw[List.any_eq_false];intro y hy;obtain⟨z,t,hkey⟩:=hk y (Array.mem_toList_iff.mp hy);simp[DictEntry.refKey,hkey]
  have a':¬es.toList.any (·.refKey)=true:=by rw[a];exact Bool.false_ne_true
  rw[if_neg a'];exact congrArg some e
theorem ObjM.look{h:Heap}{x dx C:Addr}{mA:Str→Option Value}(I:ObjM h x dx C mA):∃od,PySem.W.InstAt h x (instObj C dx) C (some od)∧∀name,lookIn name od=some (mA name) :=
 let⟨od,ho,hl⟩:=pB I.ns
 ⟨od,⟨I.obj,rfl,rfl,ho⟩,hl⟩
section
variable{prog:Program}{w:World}{A:Around}{E:Value→Shared→Prop}{s:Shared}{K:PySem.W.Frag}{x dx C f:Addr}{mA:Str→Option Value}{name:Str}{v:Value}
end
theorem eS.some_of{v:V}{o:Option Value}(r:eS (some v) o):∃u,o=some u∧aN v u:=by
 cases o with
 |none=>exact(show False from r).elim
 |some u=>exact⟨u,rfl,r⟩
theorem eS.none_of{o:Option Value}(r:eS none o):o=none:=by
 cases o with
 |none=>rfl
 |some u=>exact(show False from r).elim
section
variable{P:Program}{w:World}{H H':Hp}{h h':Heap}{a C dx:Addr}{fs fs':List (Str×V)}
theorem sr(hok:HOk P w H h)(e:H a=some (.ins C dx fs)):∃mA,ObjM h a dx C mA∧(∀f,eS (fs.lookup f) (mA f))∧PySem.Within mA (fs.map (·.1))∧fs.length≤1000∧H dx=some (.own a):=by
 obtain⟨d,z,ne,ob,mA,n,r,q⟩:=(show bq P w H h a (.ins C dx fs)from hok a _ e);exact⟨mA,⟨ob,n,ne⟩,r,q,z,d⟩
end
structure Cls(K:PySem.W.Frag)(C:Addr):Prop where
 pg:plainGet K C empty=true
 hd:PySem.W.hasDictIn K C=true
 po:PySem.W.plainOver K C=true
 sa:findIn K (.ref C) "__setattr__"=some (some (.builtin "object.__setattr__"))
theorem Cls.get{K:PySem.W.Frag}{C:Addr}(c:Cls K C)(f:Str):plainGet K C f=true:=c.pg
section
variable{X:Cx}{pins:List (Addr×Obj)}{σ:St}{H:Hp}{s:Shared}{a C dx:Addr}{fs:List (Str×V)}{f:Str}{v:V}{A:Around}{E:Value→Shared→Prop}
end
section
variable{X:Cx}{o e value:Expr}{f:Str}{pos pos' tpos:Pos}{ta tv:TE}
end
section
variable{X:Cx}{pins:List (Addr×Obj)}{σ:St}{H:Hp}{s:Shared}{A:Around}{E:Value→Shared→Prop}{Q:Value→Shared→Prop}{c:Value}{b:Bool}
inductive TyOf(K:PySem.W.Frag)(H:Hp):V→Value→Prop where
 |non:TyOf K H .non (.type "NoneType")
 |bl (x:Bool):TyOf K H (.bl x) (.type "bool")
 |int (i:Int):TyOf K H (.int i) (.type "int")
 |str (x:Str):TyOf K H (.str x) (.type "str")
 |flt (x:UInt64):TyOf K H (.flt x) (.type "float")
 |lst {a:Addr} {xs:List V} (e:H a=some (.lst xs)):TyOf K H (.ref a) (.type "list")
 |frz {a:Addr} {o:Obj} {xs:List V} (e:H a=some (.frz o (.lst xs))):TyOf K H (.ref a) (.type "list")
 |tup {a:Addr} {xs:List V} (e:H a=some (.tup xs)):TyOf K H (.ref a) (.type "tuple")
 |dK {a:Addr} {kvs:List (Key×V)} (e:H a=some (.dK kvs)):TyOf K H (.ref a) (.type "dict")
 |dT {a:Addr} {kvs:List (List Key×V)} (e:H a=some (.dT kvs)):TyOf K H (.ref a) (.type "dict")
 |ins {a C dx:Addr} {fs:List (Str×V)} (e:H a=some (.ins C dx fs)) (cl:Cls K C) (ha:findIn K (.ref C) "__class__"=some (some (.builtin "object.__class__")))
   (hn:PySem.W.specialIn K (.builtin "object.__class__") "__get__"=some (some (.builtin "getset_descriptor.__get__"))) (htk:PySem.W.takesIn K (.builtin "object.__class__")=some true)
   (hm:mroIn K C (.type "object")=some true):TyOf K H (.ref a) (.ref C)
theorem pC{x:V}{u t:Value}(I:Inv X pins σ H s)(rx:aN x u)(ty:TyOf X.K H x t)(e:kitOne X.K t c=some b)(h:∀tk,Q (.bool b) {s with toks:=tk}):
  wpAny (model X.prog X.w) A (call (.builtin "isinstance") [u,c]) Q E s:=by
 cases ty with
 |non=>cases (show u=Value.none from rx);exact kia_one PySem.W.kitx_none I.kIn True.intro e (λz=>nomatch z) h
 |bl y=>cases (show u=Value.bool y from rx);exact kia_one PySem.W.kitx_bool I.kIn True.intro e (λz=>nomatch z) h
 |int i=>obtain⟨t,q⟩:=(show ∃t,u=Value.int i t from rx);cases q;exact kia_one PySem.W.kitx_int I.kIn True.intro e (λz=>nomatch z) h
 |str y=>obtain⟨t,q⟩:=(show ∃t,u=Value.str y t from rx);cases q;exact kia_one PySem.W.kitx_str I.kIn True.intro e (λz=>nomatch z) h
 |flt y=>obtain⟨t,q⟩:=(show ∃t,u=float y t from rx);cases q;exact kia_one PySem.W.kitx_float I.kIn True.intro e (λz=>nomatch z) h
 |@lst a xs ea =>
  cases (show u=Value.ref a from rx);obtain⟨_,_,n,_,h1⟩:=(show bq X.prog X.w H s.heap a (.lst xs)from I.hok a _ ea);exact kia_one kitx_list I.kIn ⟨_,h1,rfl⟩ e (λz=>nomatch z) h
 |@frz a ob xs ea =>
  cases (show u=Value.ref a from rx);obtain⟨_,_,_,n,_,h1⟩:=(show bq X.prog X.w H s.heap a (.frz ob (.lst xs))from I.hok a _ ea);exact kia_one kitx_list I.kIn ⟨_,h1,rfl⟩ e (λz=>nomatch z) h
 |@tup a xs ea =>
  cases (show u=Value.ref a from rx);obtain⟨_,_,_,p⟩:=(show bq X.prog X.w H s.heap a (.tup xs)from I.hok a _ ea);obtain⟨o,h1,h2,_⟩:=p;exact kia_one PySem.W.kitx_tuple I.kIn ⟨o,h1,h2⟩ e (λz=>nomatch z) h
 |@dK a kvs ea =>
  cases (show u=Value.ref a from rx);obtain⟨_,_,vs,_,p⟩:=(show bq X.prog X.w H s.heap a (.dK kvs)from I.hok a _ ea);obtain⟨o,es,ep,h1,h2,_⟩:=p;exact kia_one kitx_dict I.kIn ⟨o,h1,h2.1⟩ e (λz=>nomatch z) h
 |@dT a kvs ea =>
  cases (show u=Value.ref a from rx);obtain⟨_,_,xs,_,o,es,ep,h1,h2,_⟩:=(show bq X.prog X.w H s.heap a (.dT kvs)from I.hok a _ ea);exact kia_one kitx_dict I.kIn ⟨o,h1,h2.1⟩ e (λz=>nomatch z) h
 |@ins a C dx fs ea cl ha hn htk hm =>
  cases (show u=Value.ref a from rx);obtain⟨mA,O,_⟩:=sr I.hok ea;obtain⟨od,J,_⟩:=O.look;exact kia_one (PySem.W.kitx_own (cl.get _) cl.hd ha hn htk hm) I.kIn J e (λz=>nomatch z) h
end
structure Room(k:Nat)(A:Around):Prop where
 hd:A.handled=none
 dp:A.depth+3*k+5<recursionLimit
 un:A.units+16*k+200<cLine
 gd:A.guards=some []
theorem Room.mono{j k:Nat}{A:Around}(r:Room k A)(h:j≤k):Room j A:=⟨r.hd,by have:=r.dp;omega,by have:=r.un;omega,r.gd⟩
theorem Room.deeper{k:Nat}{A:Around}(r:Room (k+1) A)(env:Env):Room k (A.deeper env) :=
 ⟨r.hd,by have:=r.dp;show A.depth+1+3*k+5<_;omega,by have:=r.un;show A.units+3+16*k+200<_;omega,r.gd⟩
theorem Room.depth{k:Nat}{A:Around}(r:Room k A):A.depth<recursionLimit:=by have:=r.dp;omega
theorem Room.units{k:Nat}{A:Around}(r:Room k A):A.units+64<cLine:=by have:=r.un;omega
theorem Room.units0{k:Nat}{A:Around}(r:Room k A):A.units<cLine:=by have:=r.un;omega
def jq:TA:=λ_ H Q=>Q [] H
def cO(ta:TE)(tr:TA):TA:=λσ H Q=>ta σ H λx H1=>tr σ H1 λxs H2=>Q (x::xs) H2
section
variable{X:Cx}{e:Expr}{es:List Expr}{te:TE}{t:TA}{pos:Pos}
theorem ah:PA X [] jq:=λ_ _ _ _ H Q I h=>spliced_nil ⟨[],H,I,.nil,h⟩
theorem aa(ha:PE X e te)(hr:PA X es t)(hs:starEach (e::es) X.env=(false,eval e X.env)::starEach es X.env:=by rfl):PA X (e::es) (cO te t):=by
 intro pos pins s σ H Q I h;rw[hs];show wpAny _ _ (spliced ((false,eval e X.env)::backTo pos (starEach es X.env))) _ _ s;refine spliced_cons (thn (ha pins s σ H _ I h) λu s1 hpt=>?_);obtain⟨x,H1,I1,r1,q1⟩:=hpt;exact thn (hr pos pins s1 σ H1 _ I1 q1) λus s2 ⟨xs,H2,I2,r2,q2⟩=>⟨x::xs,H2,I2,.cons r1 r2,q2⟩
def wE(t:TA):TE:=λσ H Q=>t σ H λxs H1=>xs.length≤sizeLine∧∀p,H1 p=none→Q (.ref p) (upd H1 p (.tup xs))
def wF(t:TA):TE:=λσ H Q=>t σ H λxs H1=>xs.length≤sizeLine∧∀p,H1 p=none→Q (.ref p) (upd H1 p (.lst xs))
theorem bn{x1}(h:PA X es t):PE X (.Tuple es x1 pos) (wE t):=by
 intro pins s σ H Q I hq;refine wpAny_Tuple_spliced (thn (h pos pins s σ H _ I hq) λus s1 ⟨xs,H1,I1,r,z,q⟩=>⟨by rw[←r.length];exact z,?_⟩);have hf:H1 s1.heap.objs.size=none:=I1.hok.fresh (le_refl _);refine⟨.ref s1.heap.objs.size,upd H1 s1.heap.objs.size (.tup xs),I1.laid (t':=s1.toks) (λb u e=>get?_push_of_some _ e) (le_refl _) ?_,rfl,q _ hf⟩;exact⟨z,us,r,⟨_,get?_push_size _ rfl,rfl,_,rfl⟩⟩
theorem ba(h:PA X es t):PE X (.List es pos) (wF t):=by
 intro pins s σ H Q I hq;refine wpAny_List_spliced (thn (h pos pins s σ H _ I hq) λus s1 ⟨xs,H1,I1,r,z,q⟩=>⟨by rw[←r.length];exact z,?_⟩);have hf:H1 s1.heap.objs.size=none:=I1.hok.fresh (le_refl _);refine⟨.ref s1.heap.objs.size,upd H1 s1.heap.objs.size (.lst xs),I1.laid (t':=s1.toks) (λb u e=>get?_push_of_some _ e) (le_refl _) ?_,rfl,q _ hf⟩;exact⟨z,us,0,r,get?_push_size _ rfl⟩
end
abbrev Sp:=List V→Hp→VK→XK→Prop
abbrev CXT:=List Env→Hp→Shared→XK→Value→Shared→Prop
structure Env0(P:Program)(w:World)(K:PySem.W.Frag)(mg:Str→Option Value)(base:Heap)(A:Around)(outer:List Env)(s:Shared)(H:Hp):Prop where
 frames:A.frames=some outer
 mod:Mod K mg base
 bs:∀b o,base.get? b=some o→s.heap.get? b=some o∧H b=none
 bsz:base.objs.size≤s.heap.objs.size
 funs:s.heap.FunFrames base outer
 frf:∀b∈frs outer,H b=none
 hok:HOk P w H s.heap
 bare:AllBare s.gens
def CE(outer:List Env)(P:Program)(w:World)(H:Hp)(s:Shared)(Q:VK)(u:Value)(s':Shared):Prop :=
 ∃v H',s'.os=s.os∧AllBare s'.gens∧Un (frs outer) [] H H' s.heap s'.heap∧HOk P w H' s'.heap∧aN v u∧Q v H'
def CR(CX:CXT)(outer:List Env)(P:Program)(w:World)(H:Hp)(s:Shared)(Q:VK)(E:XK)(r:Result)(s':Shared):Prop :=
 match r with
 |.ok (.ret u)=>CE outer P w H s Q u s'
 |.ok _=>False
 |.error e=>CX outer H s E e s'
structure FnOk(P:Program)(w:World)(K:PySem.W.Frag)(mg:Str→Option Value)(base:Heap)(CX:CXT)(k:Nat)(f:Addr)(fd:FuncData)(ps:List Str)(sp:Sp):Prop where
 len:∀vs H Q E,sp vs H Q E→vs.length=ps.length
 run:∀(A:Around)(outer:List Env)(s:Shared)(H:Hp)(args:Args)(us:List Value)(vs:List V)(Q:VK)(E:XK),Room k A→Env0 P w K mg base A outer s H→BindsTo s fd args (ps.zip us)→aL vs us→sp vs H Q E →
  codeAny (model P w) A (.call (.ref f) args) (CR CX outer P w H s Q E) s
theorem FnOk.imp{P:Program}{w:World}{K:PySem.W.Frag}{mg:Str→Option Value}{base:Heap}{CX:CXT}{k:Nat}{f:Addr}{fd:FuncData}{ps:List Str}{sp sp':Sp}(F:FnOk P w K mg base CX k f fd ps sp)(h:∀vs H Q E,sp' vs H Q E→sp vs H Q E):FnOk P w K mg base CX k f fd ps sp' :=
 ⟨λvs H Q E q=>F.len vs H Q E (h _ _ _ _ q),λA outer s H args us vs Q E hr he hb hv hs=>F.run A outer s H args us vs Q E hr he hb hv (h _ _ _ _ hs)⟩
section
variable{X:Cx}{pins:List (Addr×Obj)}{σ:St}{H:Hp}{s s':Shared}
theorem Inv.env0(I:Inv X pins σ H s):Env0 X.prog X.w X.K X.mg X.base X.A X.stack s H :=
 ⟨I.ok.frames,I.ok.mod,I.bs,le_trans I.ok.bsz I.sz,I.stack,I.stkFree,I.hok,I.bare⟩
theorem Inv.after{Q:VK}{u:Value}(I:Inv X pins σ H s)(h:CE X.stack X.prog X.w H s Q u s'):EP X pins σ Q u s':=by
 obtain⟨v,H',os,bare,un,hok,r,q⟩:=h;obtain⟨hh,g,d,t,os'⟩:=s';obtain rfl:os'=s.os:=os;exact⟨v,H',I.call (h':=hh) (g':=g) (d':=d) (t':=t) (ch:=[]) un hok bare (λb z=>absurd z (by simp)),r,q⟩
end
def ol(sp:Sp)(dvs:List V)(E:XK)(t:TA):TE:=λσ H Q=>t σ H λvs H1=>sp (vs++dvs) H1 Q E
def dI(K:PySem.W.Frag)(fd:FuncData)(ps:List Str)(ds:List Value):Prop :=
 ∀(s:Shared)(us:List Value),K.In s.heap→(us++ds).length=ps.length→BindsTo s fd ⟨us,[]⟩ (ps.zip (us++ds))
theorem dI.all{K:PySem.W.Frag}{fd:FuncData}{ps:List Str}(h:∀us:List Value,us.length=ps.length→bindArgs fd ⟨us,[]⟩=pure (ps.zip us)):dI K fd ps []:=λs us _ hl=>by
 rw[append_nil]at hl⊢;exact .of_eq (h us hl)
def hJ(CX:CXT)(X:Cx)(E:XK):Prop:=∀(pins:List (Addr×Obj))(σ:St)(H:Hp)(s:Shared)(e:Value)(s':Shared),Inv X pins σ H s→CX X.stack H s E e s'→X.xe e s'
section
variable{X:Cx}{CX:CXT}{k:Nat}{f C:Addr}{fd:FuncData}{ps:List Str}{sp:Sp}{dvs:List V}{ds:List Value}{E:XK}{x m:Str}{p pos apos:Pos}{e o:Expr}{es:List Expr}{ta:TE}{t:TA}
theorem uU{pins:List (Addr×Obj)}{σ:St}{H:Hp}{s:Shared}{Q:VK}{us:List Value}{vs:List V}(F:FnOk X.prog X.w X.K X.mg X.base CX k f fd ps sp)(hr:Room k X.A)(hb:dI X.K fd ps ds)(hd:aL dvs ds)(hx:hJ CX X E)(I:Inv X pins σ H s)(r:aL vs us)(h:sp (vs++dvs) H Q E):wpAny (model X.prog X.w) X.A (call (.ref f) us) (EP X pins σ Q) X.xe s:=by
 have r2:aL (vs++dvs) (us++ds):=r.append hd;have hl:(us++ds).length=ps.length:=by rw[←r2.length];exact F.len _ _ _ _ h
 refine wpAny_call (codeAny_mono (F.run X.A X.stack s H ⟨us,[]⟩ (us++ds) (vs++dvs) Q E hr I.env0 (hb s us I.kIn hl) r2 h) λr s' hq=>?_);cases r with
 |error e=>exact hx pins σ H s e s' I hq
 |ok fl =>
  cases fl with
  |ret u=>exact I.after hq
  |next=>exact False.elim hq
  |brk=>exact False.elim hq
  |cont=>exact False.elim hq
theorem al(F:FnOk X.prog X.w X.K X.mg X.base CX k f fd ps sp)(hr:Room k X.A)(hg:Gl X x)(hm:X.mg x=some (.ref f))(hk:keepIn X.K (.ref f)=true)(hb:dI X.K fd ps ds)(hd:aL dvs ds)(hx:hJ CX X E)(ha:PA X (e::es) t)(hdb:(x==("__debug__":Str))=false:=by decide)(he:starEach (e::es) X.env=(false,eval e X.env)::starEach es X.env:=by rfl)(hpl:(backTo pos (starEach es X.env)).any (·.1)=false:=by rfl):
  PE X (.Call (.Name x p) (e::es) [] pos) (ol sp dvs E t):=by
 intro pins s σ H Q I h;refine wpAny_Call_Name_kw (jZ I hg hm ?_ hdb);refine PySem.W.callWith_K (h₀:=X.base) I.ok.mod.kin hk (thn (ha pos pins s σ H _ I h) λus s1 ⟨vs,H1,I1,r,q⟩=>⟨I1.kIn,?_⟩) he hpl;exact uU F hr hb hd hx I1 r q
end
section
variable{X:Cx}{CX:CXT}{k:Nat}{f C:Addr}{fd:FuncData}{ps ks:List Str}{sp:Sp}{E:XK}{x m:Str}{p pos apos kpos:Pos}{e o:Expr}{es:List Expr}{kws:List Keyword}{te ta:TE}{t tk:TA}{nm:Option Str}
variable{g:List Value→List Value→List Value}{gV:List V→List V→List V}
end
structure FnScope(N P:List Str)(sc:Scope):Prop where
 kind:sc.kind=.function
 co:sc.isCoroutine=false
 gen:sc.isGenerator=false
 nd:N.Nodup
 pre:N.take P.length=P
 par:∀x∈P,sc.names.lookup x=some .local∨sc.names.lookup x=some .cell
 nofree:∀y∈sc.names,y.2≠.free
theorem fsc{N P:List Str}{c:Scope}(a:c.kind=.function:=by rfl)(b:c.isCoroutine=false:=by rfl)(d:c.isGenerator=false:=by rfl)(e:N.Nodup:=by decide +kernel)(f:N.take P.length=P:=by rfl)(g:∀x∈P,c.names.lookup x=some .local∨c.names.lookup x=some .cell:=by decide +kernel)(h:∀y∈c.names,y.2≠.free:=by decide +kernel):FnScope N P c:=⟨a,b,d,e,f,g,h⟩
theorem jw{kindOf:Str→Option NameKind}{x:Str}:∀{binds:List (Str×Value)}{m:Str→Option Value},(∀v,(x,v)∉binds)→bindL kindOf binds m x=m x
 |[],_,_=>rfl
 |(n,v)::r,m,h=>by
  unfold bindL;rw[jw λw hw=>h w (mem_cons_of_mem _ hw)]
  split
  ·have:x≠n:=by rintro rfl;exact h v mem_cons_self
   simp[this]
  ·rfl
theorem jx{kindOf:Str→Option NameKind}{x:Str}:∀{binds:List (Str×Value)}{m:Str→Option Value},(∀v,(x,v)∉binds)→bindC kindOf binds m x=m x
 |[],_,_=>rfl
 |(n,v)::r,m,h=>by
  unfold bindC;rw[jx λw hw=>h w (mem_cons_of_mem _ hw)]
  split
  ·rfl
  ·have:x≠n:=by rintro rfl;exact h v mem_cons_self
   simp[this]
theorem jy{kindOf:Str→Option NameKind}{x:Str}{v:Value}:∀{P:List Str}{vs:List Value}{i:Nat}{m:Str→Option Value},P.Nodup→P[i]?=some x→vs[i]?=some v→kindOf x=some .local →
  bindL kindOf (P.zip vs) m x=some v
 |[],_,_,_,_,h,_,_=>by simp at h
 |_::_,[],_,_,_,_,h,_=>by simp at h
 |p::P,w::vs,0,m,nd,h1,h2,hk=>by
  simp at h1 h2;subst h1;subst h2;show bindL kindOf ((p,w)::P.zip vs) m p=_;unfold bindL;rw[jw λv hv=>(nodup_cons.mp nd).1 (of_mem_zip hv).1,if_pos hk];simp
 |p::P,w::vs,i+1,m,nd,h1,h2,hk=>by
  show bindL kindOf ((p,w)::P.zip vs) m x=_;unfold bindL;exact jy (i:=i) (nodup_cons.mp nd).2 (by simpa using h1) (by simpa using h2) hk
theorem jz{kindOf:Str→Option NameKind}{x:Str}{v:Value}:∀{P:List Str}{vs:List Value}{i:Nat}{m:Str→Option Value},P.Nodup→P[i]?=some x→vs[i]?=some v→kindOf x≠some .local →
  bindC kindOf (P.zip vs) m x=some v
 |[],_,_,_,_,h,_,_=>by simp at h
 |_::_,[],_,_,_,_,h,_=>by simp at h
 |p::P,w::vs,0,m,nd,h1,h2,hk=>by
  simp at h1 h2;subst h1;subst h2;show bindC kindOf ((p,w)::P.zip vs) m p=_;unfold bindC;rw[jx λv hv=>(nodup_cons.mp nd).1 (of_mem_zip hv).1,if_neg hk];simp
 |p::P,w::vs,i+1,m,nd,h1,h2,hk=>by
  show bindC kindOf ((p,w)::P.zip vs) m x=_;unfold bindC;exact jz (i:=i) (nodup_cons.mp nd).2 (by simpa using h1) (by simpa using h2) hk
def start(N:List Str)(vs:List V):St:=vs.map some++List.replicate (N.length-vs.length) none
def hU(CX:CXT)(P:Program)(w:World)(K:PySem.W.Frag)(mg:Str→Option Value)(base:Heap)(N:List Str)(qual:Str)(scope:Scope)(f:Addr)(cd:Value)(A:Around)(outer:List Env)(s:Shared)(H:Hp)(E:XK):Cx where
 prog:=P
 w:=w
 K:=K
 mg:=mg
 base:=base
 A:=A.deeper (envOfC qual scope s.heap.objs.size f cd)
 N:=N
 s₀:=s
 H₀:=H
 env:=envOfC qual scope s.heap.objs.size f cd
 outer:=outer
 stack:=envOfC qual scope s.heap.objs.size f cd::outer
 ex:=[]
 calm:=true
 fn:=λ_=>true
 pn:=[]
 xe:=λe s'=>wpAny (model P w) (A.deeper (envOfC qual scope s.heap.objs.size f cd)) (leaving (envOfC qual scope s.heap.objs.size f cd) e) (λ_ s''=>CX outer H s E e s'') (λe' s''=>CX outer H s E e' s'') s'
theorem kZ{sc:Scope}{n:Nat}{x:Str}(h:sc.names.lookup x=some .cell):∃c,(cellsFrom n sc.names []).lookup x=some c:=by
 have q:=PySem.W.cellsFrom_some sc.names n [] (.inl h);exact Option.isSome_iff_exists.mp q
theorem pD{CX:CXT}{P:Program}{w:World}{K:PySem.W.Frag}{mg:Str→Option Value}{base:Heap}{N ps:List Str}{qual:Str}{scope:Scope}{f:Addr}{cd:Value}{A:Around}{outer:List Env}{s s1:Shared}{H:Hp}{E:XK}{us:List Value}{vs:List V}(S:FnScope N ps scope)(hd:A.handled=none)(e0:Env0 P w K mg base A outer s H)(hl:vs.length=ps.length)(r:aL vs us)(x:InCallC s s.heap.objs.size (bindL (envOfC qual scope s.heap.objs.size f cd).kindOf (ps.zip us) λ_=>none) (cellsFrom (s.heap.objs.size+1) scope.names []) (bindC (envOfC qual scope s.heap.objs.size f cd).kindOf (ps.zip us) λ_=>none) s1):
  Inv (hU CX P w K mg base N qual scope f cd A outer s H E) [] (start N vs) H s1:=by
 have hpl:ps.length≤N.length:=by have:=congrArg length S.pre;rw[length_take]at this;omega
 obtain⟨h1,tk,rfl,hk⟩:=x.done;have noA:∀b:Addr,b∉(hU CX P w K mg base N qual scope f cd A outer s H E).ex:=λb z=>absurd (show b∈([]:List Addr)from z) (by simp);refine⟨⟨e0.mod,S.kind,rfl,rfl,le_refl _,λy z c h1 h2=>?_,λy hy=>?_,λy c _ h=>?_,λ_=>hd,Around.frames_deeper e0.frames,.inr ⟨rfl,rfl⟩,λb z=>absurd z (noA b),e0.bs,e0.bsz,λb _ _=>noA b,λb z=>absurd z (noA b),e0.funs,e0.frf⟩,
  rfl,e0.bare,Un.kept hk,⟨_,x.toInCall.ns,λi y v h1 h2 h3=>?_⟩,λy c h=>⟨_,x.cell y c h⟩,e0.hok.fresh (le_refl _),λy c h=>?_,λp hp=>absurd (show p∈([]:List (Addr×Obj))from hp) (by simp),e0.hok.kept hk,?_⟩
 ·exact name_of_addr x.apart (PySem.mem_of_lookup h1) (PySem.mem_of_lookup h2)
 ·have hy:scope.names.lookup y=some .cell∨scope.names.lookup y=some .free:=hy;rcases hy with hy|hy
  ·exact kZ hy
  ·exact absurd rfl (S.nofree _ (PySem.mem_of_lookup hy))
 ·exact le_of_lt (x.above y c (PySem.mem_of_lookup h))
 ·have hi:i<vs.length:=by
   unfold start at h2
   by_cases hi:i<vs.length
   ·exact hi
   ·rw[List.getElem?_append_right (by simpa using hi)]at h2;rw[List.getElem?_replicate]at h2
    split at h2<;>cases h2
  have ha:vs[i]?=some v:=by
   unfold start at h2;rw[List.getElem?_append_left (by simpa using hi),getElem?_map]at h2;cases e:vs[i]? with
   |none=>rw[e]at h2;cases h2
   |some a=>rw[e]at h2;cases h2;rfl
  obtain⟨u,hu,rv⟩:=r.get ha;have hp:ps[i]?=some y:=by
   rw[←S.pre,List.getElem?_take_of_lt (by omega)];exact h1
  have ndP:ps.Nodup:=by rw[←S.pre];exact S.nd.sublist (List.take_sublist _ _)
  refine⟨u,rv,?_⟩;rcases S.par y (mem_of_getElem? hp)with k|k
  ·exact .inl ⟨k,jy ndP hp hu k⟩
  ·obtain⟨c,e⟩:=kZ (n:=s.heap.objs.size+1) k;refine .inr ⟨.inl k,c,e,?_⟩;have q:=x.cell y c e;rw[jz ndP hp hu (by show scope.names.lookup y≠_;rw[k];decide)]at q;exact q
 ·exact e0.hok.fresh (le_of_lt (x.above y c (PySem.mem_of_lookup h)))
 ·unfold start;show _=N.length;rw[length_append,length_map,List.length_replicate];omega
theorem uk{CX:CXT}{P:Program}{w:World}{K:PySem.W.Frag}{mg:Str→Option Value}{base:Heap}{k:Nat}{f:Addr}{name qual:Str}{params:Arguments}{body:List Stmt}{scope:Scope}{dV kV doc pm cdv ct oc:Value}{an od:Option Addr}{osl:Array (Option Value)}{N ps:List Str}{sp:Sp}(lk:K.lookup f=some ⟨oc,od,.func (fnOf name qual params body scope dV kV doc pm an cdv ct),osl⟩)(hcd:codeIn K cdv qual=true)(S:FnScope N ps scope)(len:∀vs H Q E,sp vs H Q E→vs.length=ps.length)(hbody:∀(A:Around) (outer:List Env) (s:Shared) (H:Hp) (vs:List V) (Q:VK) (E:XK),Room k (A.deeper (envOfC qual scope s.heap.objs.size f cdv))→sp vs H Q E →
   ∃t,PSs (hU CX P w K mg base N qual scope f cdv A outer s H E) body t∧t {nx:=λ_ H'=>Q .non H',rt:=Q} (start N vs) H):
  FnOk P w K mg base CX (k+1) f (fnOf name qual params body scope dV kV doc pm an cdv ct) ps sp:=by
 refine⟨len,λA outer s H args us vs Q E hr e0 hb r hsp=>?_⟩;have hl:=len _ _ _ _ hsp;have KX:K.In s.heap:=e0.mod.kin.keeps λb o e=>(e0.bs b o e).1;have lim:s.heap.NoLimit:=e0.mod.nolimit.keeps λb o e=>(e0.bs b o e).1;have hkind:∀y∈ps.zip us,scope.names.lookup y.1=some .local∨(scope.names.lookup y.1=some .cell∧((cellsFrom (s.heap.objs.size+1) scope.names []).lookup y.1).isSome=true):=λ⟨n,v⟩ hy=>by
  rcases S.par n (of_mem_zip hy).1 with q|q
  ·exact .inl q
  ·exact .inr ⟨q,PySem.W.cellsFrom_some _ _ _ (.inl q)⟩
 refine codeAny_call_function hr.depth (KX _ _ lk) rfl S.co S.gen rfl (PySem.W.codeRec_of KX hcd) (hb _ _ _ _ ?_);refine wpAny_newFunctionEnv_cells S.kind hkind λenv he s1 x=>?_;subst he;refine⟨lim.keeps x.toInCall.keep,codeAny_func ?_⟩;obtain⟨t,ht,hq⟩:=hbody A outer s H vs Q E (hr.deeper _) hsp;have I:Inv (hU CX P w K mg base N qual scope f cdv A outer s H E) [] (start N vs) H s1:=pD S hr.hd e0 hl r x;refine wpAny_mono (ht [] s1 (start N vs) H _ I hq) (λfl s' hs=>?_) λe s' hs=>hs;have fin:∀{σ':St}{H':Hp}{v:V}{u:Value},Inv (hU CX P w K mg base N qual scope f cdv A outer s H E) [] σ' H' s'→aN v u→Q v H'→CE outer P w H s Q u s' :=
  λ{σ' H' v u} J rv q=>⟨v,H',J.os,J.bare,J.base,J.hok,rv,q⟩
 cases fl with
 |ret u =>
  obtain⟨v,σ',H',J,rv,q⟩:=hs;exact fin J rv q
 |next =>
  obtain⟨σ',H',J,q⟩:=hs;exact fin (v:=V.non) (u:=Value.none) J rfl q
 |brk =>
  obtain⟨_,_,_,q⟩:=hs;exact False.elim q
 |cont =>
  obtain⟨_,_,_,q⟩:=hs;exact False.elim q
section
variable{X:Cx}{x:Str}{p pos:Pos}{e:Expr}{es:List Expr}{t:TA}{id T:String}{r:List V→Hp→VK→Prop}
def tCB(r:List V→Hp→VK→Prop)(t:TA):TE:=λσ H Q=>t σ H λvs H1=>r vs H1 Q
theorem br(hc:dt X (.builtin id) r)(hg:Gl X x)(hm:X.mg x=none)(hv:bootBuiltins x=some (.builtin id))(ha:PA X (e::es) t)(hn:x≠"__name__":=by decide)(hdb:(x==("__debug__":Str))=false:=by decide)(he:starEach (e::es) X.env=(false,eval e X.env)::starEach es X.env:=by rfl)(hpl:(backTo pos (starEach es X.env)).any (·.1)=false:=by rfl):PE X (.Call (.Name x p) (e::es) [] pos) (tCB r t):=by
 intro pins s σ H Q I h;refine wpAny_Call_Name_kw (ka I hg hm hv ?_ hn hdb);exact PyProof.Rows.callWith_builtin1 (thn (ha pos pins s σ H _ I h) λus s1 ⟨vs,H1,I1,r1,q1⟩=>hc pins s1 σ H1 vs us Q I1 r1 q1) he hpl
theorem bh(hc:dt X (.type T) r)(hg:Gl X x)(hm:X.mg x=none)(hv:bootBuiltins x=some (.type T))(ha:PA X (e::es) t)(hn:x≠"__name__":=by decide)(hdb:(x==("__debug__":Str))=false:=by decide)(he:starEach (e::es) X.env=(false,eval e X.env)::starEach es X.env:=by rfl)(hpl:(backTo pos (starEach es X.env)).any (·.1)=false:=by rfl):PE X (.Call (.Name x p) (e::es) [] pos) (tCB r t):=by
 intro pins s σ H Q I h;refine wpAny_Call_Name_kw (ka I hg hm hv ?_ hn hdb);exact PyProof.Rows.callWith_type1 (thn (ha pos pins s σ H _ I h) λus s1 ⟨vs,H1,I1,r1,q1⟩=>hc pins s1 σ H1 vs us Q I1 r1 q1) he hpl
end
end L2
namespace HT
open PySem PyProof.Rows
section
open PySem.SeqAt
open PySem.AutoSeq1 (wpAny_loadPart')
open PySem.MeetsSeq PySem.MeetsSeq2 PySem.MeetsSeq3
end
section
variable{prog:Program}{w:World}{A:Around}{E:Value→Shared→Prop}{s:Shared}
theorem su{t b:Addr}{vs ws:List Value}{Q:Value→Shared→Prop}(ht:IsTup s.heap t vs.toArray)(hb:IsTup s.heap b ws.toArray)(hv:vs≠[])(h1:ws=[]→Q (.ref t) s)(h2:ws≠[]→Q (.ref s.heap.objs.size) {s with heap:=s.heap.push {cls:=.type "tuple",data:=.seq (vs++ws).toArray}})(hsz:vs.length+ws.length≤sizeLine):wpAny (model prog w) A (binaryOp .Add (.ref t) (.ref b)) Q E s:=by
 obtain⟨⟨cls,dd,data,sl⟩,ho,hc,n,hd⟩:=id ht;obtain⟨⟨cls2,dd2,data2,sl2⟩,ho2,hc2,n2,hd2⟩:=id hb;simp only at hc hd hc2 hd2;subst hc hd hc2 hd2;have e:vs.toArray++ws.toArray=(vs++ws).toArray:=by simp
 by_cases hw:ws=[]
 ·exact concat_meets ⟨_,ho,rfl⟩ ⟨_,ho2,rfl⟩ noFill_tuple_add seq_tuple_add slot_tuple_add entry_tuple_add (args_tuple_add_2 _ _)
   (tuple_addW1 t b vs.toArray ws.toArray n n2 dd dd2 sl sl2 (by simpa using hv) (by simp[hw])) ⟨ho,ho2,h1 hw⟩
 ·refine concat_meets ⟨_,ho,rfl⟩ ⟨_,ho2,rfl⟩ noFill_tuple_add seq_tuple_add slot_tuple_add entry_tuple_add (args_tuple_add_2 _ _)
   (tuple_addW2 t b vs.toArray ws.toArray n n2 dd dd2 sl sl2 (by simpa using hv) (by simpa using hw) (by rw[size_toArray,size_toArray];exact hsz)) ⟨ho,ho2,?_⟩
  rw[e];exact h2 hw
def sIx(n d:Nat):Option Int→Nat
 |none=>d
 |some v=>if v<0 then (v+(n:Int)).toNat else min v.toNat n
theorem uV(n d:Nat)(hd:d≤n)(o:Option Int):sIx n d o≤n:=by
 cases o with
 |none=>exact hd
 |some v =>
  show(if v<0 then (v+(n:Int)).toNat else min v.toNat n)≤n
  by_cases hv:v<0
  ·rw[if_pos hv];omega
  ·rw[if_neg hv];exact Nat.min_le_right _ _
theorem om(v:Int)(n d:Nat):(if v<0 then max (v+(n:Int)) 0 else min v (n:Int))=((sIx n d (some v):Nat):Int):=by
 show(if v<0 then max (v+(n:Int)) 0 else min v (n:Int))=(((if v<0 then (v+(n:Int)).toNat else min v.toNat n):Nat):Int)
 by_cases hv:v<0
 ·simp only[if_pos hv];omega
 ·simp only[if_neg hv];omega
theorem mS(lo hi:Option Int)(n:Nat):Builtin.Slice.sliceAdjust lo hi 1 (n:Int)=(((sIx n 0 lo:Nat):Int),((sIx n n hi:Nat):Int)):=by
 have h1:¬((1:Int)<0):=by omega
 unfold Builtin.Slice.sliceAdjust;simp only[h1,if_false];refine Prod.ext ?_ ?_
 ·cases lo with
  |none=>rfl
  |some v=>exact om v n 0
 ·cases hi with
  |none=>rfl
  |some v=>exact om v n n
theorem mT(i j:Nat):Builtin.Slice.slicePlaces (i:Int) (j:Int) 1=j-i:=by
 unfold Builtin.Slice.slicePlaces;have h1:(1:Int)>0:=by omega
 simp only[h1,if_true,Int.ediv_one]
 split<;>omega
theorem iN{v:Value}{o:Option Int}{Q:Option Int→Shared→Prop}(p:IsPart v o)(h:Q o s):wpAny (model prog w) A (Builtin.Slice.slicePartIndex v) Q E s:=by
 cases p with
 |none=>exact slicePart_none h
 |int i t=>exact slicePart_int h
theorem hV{sl:Addr}{vl vu:Value}{lo hi:Option Int}{n:Nat}{Q:Int×Int×Nat→Shared→Prop}(hs:s.heap.IsSliceOf sl vl vu .none)(pl:IsPart vl lo)(pu:IsPart vu hi)(h:Q (((sIx n 0 lo:Nat):Int),1,sIx n n hi-sIx n 0 lo) s):wpAny (model prog w) A (Builtin.Slice.sliceApplied (.ref sl) (pure (n:Int))) Q E s:=by
 obtain⟨os,hos,hcs,hds⟩:=id hs;unfold Builtin.Slice.sliceApplied Builtin.Slice.sliceFields;refine wpAny_bind (wpAny_bind (wpAny_field hos hds (x:=vl) rfl (wpAny_bind (wpAny_field hos hds (x:=vu) rfl (wpAny_bind (wpAny_field hos hds (x:=.none) rfl (wpAny_pure ?_)))))));refine wpAny_bind (slicePart_none ?_);show wpAny _ _ (if ((1:Int)==0)=true then _ else _) _ _ s
 rw[if_neg (by decide)];refine wpAny_bind (iN pl (wpAny_bind (iN pu (wpAny_bind (wpAny_pure ?_)))));show wpAny _ _ (match Builtin.Slice.sliceAdjust lo hi 1 (n:Int)with|(lo,hi)=>pure (lo,(1:Int),Builtin.Slice.slicePlaces lo hi 1)) _ _ s
 rw[mS lo hi n];show wpAny _ _ (pure (((sIx n 0 lo:Nat):Int),(1:Int),Builtin.Slice.slicePlaces ((sIx n 0 lo:Nat):Int) ((sIx n n hi:Nat):Int) 1)) _ _ s;rw[mT];exact wpAny_pure h
theorem qv(xs:Array Value)(i k:Nat):((List.range k).filterMap λ(m:Nat)=>xs[((i:Int)+(m:Int)*1).toNat]?).toArray=((xs.toList.drop i).take k).toArray:=by
 have e:(λ(m:Nat)=>xs[((i:Int)+(m:Int)*1).toNat]?)=λm=>xs[i+m]?:=by
  funext m
  have:((i:Int)+(m:Int)*1).toNat=i+m:=by omega
  rw[this]
 rw[e];have:=pick_run xs i k;rw[List.filterMap_map]at this;have e2:((λx=>xs[x]?)∘λx=>i+x)=λm=>xs[i+m]?:=rfl;rw[e2]at this;rw[this]
theorem gu{t sl:Addr}{items:Array Value}{vl vu:Value}{lo hi:Option Int}{Q:Value→Shared→Prop}(ht:IsTup s.heap t items)(hs:s.heap.IsSliceOf sl vl vu .none)(pl:IsPart vl lo)(pu:IsPart vu hi)(hw:¬(sIx items.size 0 lo=0∧sIx items.size items.size hi=items.size))(h:Q (.ref s.heap.objs.size) {s with heap:=s.heap.push {cls:=.type "tuple",data:=.seq ((items.toList.drop (sIx items.size 0 lo)).take (sIx items.size items.size hi-sIx items.size 0 lo)).toArray}})(hsz:items.size≤sizeLine):wpAny (model prog w) A (getItem (.ref t) (.ref sl)) Q E s:=by
 have htake:sizeOk (.seq ((items.toList.drop (sIx items.size 0 lo)).take (sIx items.size items.size hi-sIx items.size 0 lo)).toArray):=by
  show((items.toList.drop (sIx items.size 0 lo)).take (sIx items.size items.size hi-sIx items.size 0 lo)).toArray.size≤sizeLine;rw[size_toArray,length_take,List.length_drop,length_toList];omega
 have hj:sIx items.size items.size hi≤items.size:=uV _ _ (le_refl _) hi;obtain⟨os,hos,hcs,hds⟩:=id hs;have hTs:s.TypeIs (.ref sl) "slice":=⟨os,hos,hcs⟩;unfold getItem
 try with_reducible refine wpAny_holding ?_
 first|refine wpAny_bind (wpAny_pure ?_)|skip
 refine wpAny_bind (wpAny_sequenceKey ht.typeIs (by decide) ?_);refine wpAny_bind (wpAny_callSpecial?_slot (name:=ofString "__getitem__") ht.typeIs PyProof.Rows.slot_tuple_getitem
  (wpAny_call_entry PyProof.Rows.slot_tuple_getitem ht.typeIs entry_tuple_getitem ?_ (args_tuple_getitem _ _)))
 show wpAny _ _ (Builtin.Tuple.tupleItemsOf (.ref t) >>= _) _ _ s;refine wpAny_bind (tupleItemsOf_ ht ?_);refine wpAny_bind (wpAny_typeOf hTs ?_);rw[if_pos (by decide)];refine wpAny_bind (hV hs pl pu ?_);have hno:¬((((sIx items.size 0 lo:Nat):Int)==0&&(1:Int)==1&&(sIx items.size items.size hi-sIx items.size 0 lo)==items.size)=true):=by
  intro q;rw[and_eq_true,and_eq_true]at q;have q1:((sIx items.size 0 lo:Nat):Int)=0:=eq_of_beq q.1.1;have q2:sIx items.size items.size hi-sIx items.size 0 lo=items.size:=eq_of_beq q.2;exact hw ⟨by omega,by omega⟩
 show wpAny _ _ (if (((sIx items.size 0 lo:Nat):Int)==0&&(1:Int)==1&&(sIx items.size items.size hi-sIx items.size 0 lo)==items.size)=true then _ else _) _ _ s
 rw[if_neg hno,qv]
 first
  |exact wpAny_bind (m:=Builtin.Tuple.tupleExact _) (wpAny_newObj_type (wpAny_pure ⟨_,rfl,wpAny_pure h⟩) htake)
  |exact wpAny_bind (m:=Builtin.Tuple.tupleExact _) (wpAny_newObj_type (wpAny_bind (wpAny_pure (wpAny_pure ⟨_,rfl,wpAny_pure h⟩))) htake)
  |exact wpAny_bind (wpAny_bind (m:=Builtin.Tuple.tupleExact _) (wpAny_newObj_type (wpAny_pure (wpAny_pure ⟨_,rfl,wpAny_pure h⟩)) htake))
  |exact wpAny_bind (wpAny_bind (m:=Builtin.Tuple.tupleExact _) (wpAny_newObj_type (wpAny_pure ⟨_,rfl,wpAny_pure h⟩) htake))
end
end HT
namespace L2
open PySem PySem.Spec PyProof.Rows
abbrev TO:=St→Hp→(Option Int→Hp→Prop)→Prop
def PO(X:Cx)(e:Option Expr)(t:TO):Prop :=
 ∀(pins:List (Addr×Obj))(s:Shared)(σ:St)(H:Hp)(Q:Option Int→Hp→Prop),Inv X pins σ H s→t σ H Q →
  wpAny (model X.prog X.w) X.A (evalPart e X.env) (λu s'=>∃o H',Inv X pins σ H' s'∧IsPart u o∧Q o H') X.xe s
def sv:TO:=λ_ H Q=>Q none H
def wG(t:TE):TO:=λσ H Q=>t σ H λx H1=>∃i,x=.int i∧Q (some i) H1
theorem mX{ns:List Int}:∀{us:List Value},aL (ns.map V.int) us→IntsAre us ns:=by
 induction ns with
 |nil=>intro us r;rw[map_nil]at r;cases r;exact .nil
 |cons n ns ih =>
  intro us r;rw[map_cons]at r;cases r with
  |cons r1 r2 =>
   obtain⟨t,e⟩:=r1;subst e;exact .cons n t (ih r2)
section
variable{X:Cx}{e:Expr}{te:TE}{lo hi:Option Expr}{tl th:TO}{pos p2:Pos}
theorem eI:PO X none sv:=by
 intro pins s σ H Q I h;rw[evalPart_none];exact wpAny_pure ⟨none,H,I,.none,h⟩
theorem bA(h:PE X e te):PO X (some e) (wG te):=by
 intro pins s σ H Q I hw;rw[evalPart_some];refine thn (h pins s σ H _ I hw) λu s1 hpt=>?_;obtain⟨x,H1,I1,r1,q1⟩:=hpt;obtain⟨i,rfl,q⟩:=q1;obtain⟨t,rfl⟩:=r1;exact⟨some i,H1,I1,.int i t,q⟩
def SlR(X:Cx)(r:V→Option Int→Option Int→Hp→VK→Prop):Prop :=
 ∀(pins:List (Addr×Obj))(s:Shared)(σ:St)(H:Hp)(x:V)(v vl vu:Value)(lo hi:Option Int)(sl:Addr)(Q:VK),Inv X pins σ H s→aN x v→s.heap.IsSliceOf sl vl vu .none→IsPart vl lo→IsPart vu hi→r x lo hi H Q →
  ∃T id,typeLookup (.type T) "__getitem__"=pure (some (.builtin id))∧s.TypeIs v T∧wpAny (model X.prog X.w) X.A (getItem v (.ref sl)) (EP X pins σ Q) X.xe s
def tSl(r:V→Option Int→Option Int→Hp→VK→Prop)(te:TE)(tl th:TO):TE:=λσ H Q=>te σ H λx H1=>tl σ H1 λl H2=>th σ H2 λu H3=>r x l u H3 Q
theorem cj{r:V→Option Int→Option Int→Hp→VK→Prop}(hr:SlR X r)(he:PE X e te)(hl:PO X lo tl)(hu:PO X hi th):PE X (.Subscript e (.Slice lo hi none p2) pos) (tSl r te tl th):=by
 intro pins s σ H Q I h;refine Subscript_ (thn (he pins s σ H _ I h) λv s1 hpt=>?_);obtain⟨x,H1,I1,r1,q1⟩:=hpt;refine wpAny_Slice (thn (hl pins s1 σ H1 _ I1 q1) λvl s2 ⟨l,H2,I2,pl,q2⟩=>thn (hu pins s2 σ H2 _ I2 q2) λvu s3 hpt=>?_);obtain⟨u,H3,I3,pu,q3⟩:=hpt;rw[evalPart_none];refine wpAny_pure ?_;have I4:Inv X pins σ H3 {s3 with heap:=s3.heap.push {cls:=.type "slice",data:=.fields #[vl,vu,.none]}}:=I3.kept (t':=s3.toks) λb ob q=>get?_push_of_some _ q
 obtain⟨T,id,hT,ht,hg⟩:=hr pins {s3 with heap:=s3.heap.push {cls:=.type "slice",data:=.fields #[vl,vu,.none]}} σ H3 x v vl vu l u s3.heap.objs.size Q I4 r1 (Heap.IsSliceOf.new ..) pl pu q3
 show wpAny (model X.prog X.w) X.A (subscriptTail e (.Slice lo hi none p2) v (.ref s3.heap.objs.size)) (EP X pins σ Q) X.xe {s3 with heap:=s3.heap.push {cls:=.type "slice",data:=.fields #[vl,vu,.none]}}
 exact tail_any (ops:=[.ref s3.heap.objs.size,v]) ht hT hg (by with_unfolding_all rfl)
def eJ(xs:List V)(lo hi:Option Int):List V:=(xs.drop (HT.sIx xs.length 0 lo)).take (HT.sIx xs.length xs.length hi-HT.sIx xs.length 0 lo)
theorem lg(xs:List V)(lo hi:Option Int):(eJ xs lo hi).length≤xs.length:=by
 unfold eJ;rw[length_take,List.length_drop];omega
def mY(K:PySem.W.Frag):V→Option Int→Option Int→Hp→VK→Prop:=λx lo hi H Q=>∃a xs,x=.ref a∧SqT K H a xs ∧
 ¬(HT.sIx xs.length 0 lo=0∧HT.sIx xs.length xs.length hi=xs.length)∧∀p,H p=none→Q (.ref p) (upd H p (.tup (eJ xs lo hi)))
theorem cY:SlR X (mY X.K):=by
 intro pins s σ H x v vl vu lo hi sl Q I rx hs pl pu h;obtain⟨a,xs,rfl,hx,hw,q⟩:=h;cases rx;obtain⟨its,r,ht,hz⟩:=I.tuple hx;have hlen:its.toArray.size=xs.length:=by rw[size_toArray];exact r.length.symm
 refine⟨"tuple",_,PyProof.Rows.slot_tuple_getitem.lookup,ht.typeIs,?_⟩;refine HT.gu ht hs pl pu (by rw[hlen];exact hw) ?_ (by rw[hlen];exact hz);rw[hlen];refine⟨.ref s.heap.objs.size,_,I.laid (t':=s.toks) (o:=.tup (eJ xs lo hi)) (λb ob q=>get?_push_of_some _ q) (le_refl _) ?_,rfl,q _ (I.hok.fresh (le_refl _))⟩;exact⟨le_trans (lg xs lo hi) hz,_,(r.drop (HT.sIx xs.length 0 lo)).take (HT.sIx xs.length xs.length hi-HT.sIx xs.length 0 lo),IsTup.new _ _⟩
def oo(K:PySem.W.Frag):R2:=λx y H Q=>∃a b xs ys,x=.ref a∧y=.ref b∧SqT K H a xs∧SqT K H b ys∧xs≠[]∧xs.length+ys.length≤sizeLine ∧
 (ys=[]→Q (.ref a) H)∧(ys≠[]→∀p,H p=none→Q (.ref p) (upd H p (.tup (xs++ys))))
theorem aL.nil_iff{xs:List V}{us:List Value}(r:aL xs us):us=[]↔xs=[]:=by
 cases r with
 |nil=>simp
 |cons _ _=>simp
theorem dJ:OpR X (binaryOp .Add) (oo X.K):=by
 intro pins s σ H x y v u Q I rx ry h;obtain⟨a,b,xs,ys,rfl,rfl,ha,hb,hx,hz,q1,q2⟩:=h;cases rx;cases ry;obtain⟨its,r1,p1,_⟩:=I.tuple ha;obtain⟨its2,r2,p2,_⟩:=I.tuple hb;refine HT.su p1 p2 (λz=>hx (r1.nil_iff.mp z)) (λz=>⟨.ref a,H,I,rfl,q1 (r2.nil_iff.mp z)⟩) (λz=>?_) (by rw[←r1.length,←r2.length];exact hz);refine⟨.ref s.heap.objs.size,_,I.laid (t':=s.toks) (o:=.tup (xs++ys)) (λb ob q=>get?_push_of_some _ q) (le_refl _) ?_,rfl,q2 (λw=>z (r2.nil_iff.mpr w)) _ (I.hok.fresh (le_refl _))⟩;exact⟨by rw[length_append];exact hz,_,r1.append r2,IsTup.new _ _⟩
end
def ixN(n:Nat)(i:Int):Option Nat:=if 0≤i then (if i<n then some i.toNat else none)else if -(n:Int)≤i then some (i+n).toNat else none
def atI{α:Type}(xs:List α)(i:Int):Option α:=(ixN xs.length i).bind λj=>xs[j]?
theorem oq{n:Nat}{i:Int}{j:Nat}(h:ixN n i=some j):seqIndex? i n=some j∧j<n∧-(n:Int)≤i∧i<n:=by
 unfold ixN at h
 by_cases h0:0≤i
 ·rw[if_pos h0]at h
  by_cases h1:i<n
  ·rw[if_pos h1]at h;have e:i.toNat=j:=Option.some.inj h;exact⟨by rw[seqIndex_of h0 h1,e],by omega,by omega,h1⟩
  ·rw[if_neg h1]at h;cases h
 ·rw[if_neg h0]at h
  by_cases h1:-(n:Int)≤i
  ·rw[if_pos h1]at h;have e:(i+n).toNat=j:=Option.some.inj h;exact⟨by rw[seqIndex_neg (by omega) h1,e],by omega,h1,by omega⟩
  ·rw[if_neg h1]at h;cases h
theorem kg{α:Type}{xs:List α}{i:Int}{v:α}(h:atI xs i=some v):∃j,seqIndex? i xs.length=some j∧xs[j]?=some v∧j<xs.length∧-(xs.length:Int)≤i∧i<xs.length:=by
 unfold atI at h;cases e:ixN xs.length i with
 |none=>rw[e]at h;cases h
 |some j =>
  rw[e]at h;obtain⟨h1,h2,h3,h4⟩:=oq e;exact⟨j,h1,h,h2,h3,h4⟩
theorem dL{α:Type}{xs:List α}{j:Nat}{v:α}(h:xs[j]?=some v):atI xs (j:Int)=some v:=by
 have hj:j<xs.length:=(List.getElem?_eq_some_iff.mp h).1;have e:ixN xs.length (j:Int)=some j:=by
  unfold ixN;rw[if_pos (by omega),if_pos (by omega)];simp
 unfold atI;rw[e];exact h
def sw(b:Expr):Prop:=∀o i,subscripted b false o i=operate [o,i] (getItem o i)
def IxR(X:Cx)(r:R2):Prop :=
 ∀(value slice:Expr)(pins:List (Addr×Obj))(s:Shared)(σ:St)(H:Hp)(x y:V)(v u:Value)(Q:VK),Inv X pins σ H s→aN x v→aN y u→r x y H Q →
  subscripted slice false v u=operate [v,u] (getItem v u)→wpAny (model X.prog X.w) X.A (subscriptTail value slice v u) (EP X pins σ Q) X.xe s
def MtR(X:Cx)(id:String)(r:V→List V→Hp→VK→Prop):Prop :=
 ∀(pins:List (Addr×Obj))(s:Shared)(σ:St)(H:Hp)(x:V)(xs:List V)(v:Value)(us:List Value)(Q:VK),Inv X pins σ H s→aN x v→aL xs us→r x xs H Q →
  wpAny (model X.prog X.w) X.A (call (.builtin id) (v::us)) (EP X pins σ Q) X.xe s
section
variable{X:Cx}{a b:Expr}{ta tb:TE}{pos:Pos}
theorem av{r:R2}(hr:IxR X r)(ha:PE X a ta)(hb:PE X b tb)(hs:sw b):PE X (.Subscript a b pos) (tOp r ta tb):=by
 intro pins s σ H Q I h;exact Subscript_ (uP ha hb I h λv u s2 x y H2 I2 rx ry q=>hr a b pins s2 σ H2 x y v u Q I2 rx ry q (hs _ _))
def xx(K:PySem.W.Frag):R2:=λx y H Q=>∃p xs i v,x=.ref p∧y=.int i∧SqL K H p xs∧atI xs i=some v∧Q v H
def cw(K:PySem.W.Frag):R2:=λx y H Q=>∃p xs i v,x=.ref p∧y=.int i∧SqT K H p xs∧atI xs i=some v∧Q v H
def xy:R2:=λx y H Q=>∃z i c,x=.str z∧y=.int i∧z.length≤sizeLine∧atI z.cps.toList i=some c∧Q (.str ⟨#[c]⟩) H
theorem cI:IxR X (xx X.K):=by
 intro value slice pins s σ H x y v u Q I rx ry h hs;obtain⟨p,xs,i,z,rfl,rfl,hq,he,q⟩:=h;cases rx;obtain⟨t,rfl⟩:=ry;obtain⟨its,r,pl,hz⟩:=I.list hq;obtain⟨j,h1,h2,h3,h4,h5⟩:=kg he;obtain⟨w,ew,rw'⟩:=r.get h2;have hl:=r.length;have hn:=gZ;have fin:EP X pins σ Q w s:=⟨z,H,I,rw',q⟩
 by_cases h0:0≤i
 ·have hj:i.toNat=j:=by
   rw[seqIndex_of h0 h5]at h1;exact Option.some.inj h1
  exact item_listR pl.isList h0 (by omega) (by rw[hj];simpa using ew) fin hs
 ·have hj:(i+(its.toArray.size:Int)).toNat=j:=by
   rw[seqIndex_neg (by omega) h4]at h1;rw[size_toArray,←hl];exact Option.some.inj h1
  exact subscriptTail_builtinR (x:=w) pl.isList.typeIs slot_list_getitem.lookup
   (wpAny_getItem_list_neg (Q:=λr s'=>r=w∧EP X pins σ Q r s') pl.isList (by omega) (by rw[size_toArray]<;>omega) (by omega) (by rw[hj];simpa using ew) ⟨rfl,fin⟩) hs
theorem ao:IxR X (cw X.K):=by
 intro value slice pins s σ H x y v u Q I rx ry h hs;obtain⟨p,xs,i,z,rfl,rfl,hq,he,q⟩:=h;cases rx;obtain⟨t,rfl⟩:=ry;obtain⟨its,r,pl,hz⟩:=I.tuple hq;obtain⟨j,h1,h2,h3,h4,h5⟩:=kg he;obtain⟨w,ew,rw'⟩:=r.get h2;have hl:=r.length;have hn:=gZ;have fin:EP X pins σ Q w s:=⟨z,H,I,rw',q⟩;exact subscriptTail_builtinR (x:=w) pl.typeIs slot_tuple_getitem.lookup
  (getItem_tuple (j:=j) (Q:=λr s'=>r=w∧EP X pins σ Q r s') pl (by omega) (by omega) (by rw[size_toArray,←hl];exact h1) (by simpa using ew) ⟨rfl,fin⟩) hs
theorem uW:IxR X xy:=by
 intro value slice pins s σ H x y v u Q I rx ry h hs;obtain⟨z,i,c,rfl,rfl,hz,he,q⟩:=h;obtain⟨t,rfl⟩:=rx;obtain⟨t',rfl⟩:=ry;obtain⟨j,h1,h2,h3,h4,h5⟩:=kg he;have hl:z.cps.toList.length=z.length:=by simp[Str.length]
 rw[hl]at h1 h4 h5;have hn:=gZ;exact tail_any (typeIs_str s z t) slot_str_getitem.lookup (getItem_str (c:=c) (by
  have e1:decide (i < -(2 ^ 63:Int))=false:=decide_eq_false (by omega);have e2:decide (i≥2 ^ 63)=false:=decide_eq_false (by omega);rw[e1,e2,Bool.or_false]) (by rw[h1];simpa using h2) ⟨.str ⟨#[c]⟩,H,I.tok _,⟨_,rfl⟩,q⟩) hs
def db:V→Bool
 |.non=>true
 |.bl _=>true
 |.int _=>true
 |.str _=>true
 |_=>false
def eqV:V→V→Bool
 |.non,.non=>true
 |.bl a,.bl b=>a==b
 |.bl a,.int b=>(if a then 1 else 0)==b
 |.int a,.bl b=>a==(if b then 1 else 0)
 |.int a,.int b=>a==b
 |.str a,.str b=>a==b
 |_,_=>false
theorem iO{A:Around}{s:Shared}{y x:V}{u v:Value}(ry:aN y u)(rx:aN x v)(fy:db y=true)(fx:db x=true):EqAt A s u v (eqV y x):=by
 cases y with
 |non =>
  cases ry;cases x with
  |non=>cases rx;exact EqAt.same _
  |bl b=>cases rx;exact EqAt.none_bool b
  |int b=>obtain⟨t,rfl⟩:=rx;exact EqAt.none_int b t
  |str b=>obtain⟨t,rfl⟩:=rx;exact EqAt.none_str b t
  |_=>exact absurd (show false=true from fx) Bool.false_ne_true
 |bl a =>
  cases ry;cases x with
  |non=>cases rx;exact EqAt.bool_none a
  |bl b=>cases rx;exact EqAt.bool_bool a b
  |int b=>obtain⟨t,rfl⟩:=rx;exact EqAt.bool_int a b t
  |str b=>obtain⟨t,rfl⟩:=rx;exact EqAt.bool_str a b t
  |_=>exact absurd (show false=true from fx) Bool.false_ne_true
 |int a =>
  obtain⟨t',rfl⟩:=ry;cases x with
  |non=>cases rx;exact EqAt.int_none a t'
  |bl b=>cases rx;exact EqAt.int_bool a t' b
  |int b=>obtain⟨t,rfl⟩:=rx;exact EqAt.int_int a t' b t
  |str b=>obtain⟨t,rfl⟩:=rx;exact EqAt.int_str a t' b t
  |_=>exact absurd (show false=true from fx) Bool.false_ne_true
 |str a =>
  obtain⟨t',rfl⟩:=ry;cases x with
  |non=>cases rx;exact EqAt.str_none a t'
  |bl b=>cases rx;exact EqAt.str_bool a t' b
  |int b=>obtain⟨t,rfl⟩:=rx;exact EqAt.str_int a t' b t
  |str b=>obtain⟨t,rfl⟩:=rx;exact EqAt.str_str a t' b t
  |_=>exact absurd (show false=true from fx) Bool.false_ne_true
 |_=>exact absurd (show false=true from fy) Bool.false_ne_true
def eqU(x:V)(u:Value):Bool:=match u with
 |.none=>eqV .non x
 |.bool b=>eqV (.bl b) x
 |.int i _=>eqV (.int i) x
 |.str z _=>eqV (.str z) x
 |_=>false
theorem qx{x y:V}{u:Value}(r:aN y u)(f:db y=true):eqU x u=eqV y x:=by
 cases y with
 |non=>cases r;rfl
 |bl b=>cases r;rfl
 |int i=>obtain⟨t,rfl⟩:=r;rfl
 |str z=>obtain⟨t,rfl⟩:=r;rfl
 |_=>exact absurd (show false=true from f) Bool.false_ne_true
theorem gv{x:V}:∀{xs:List V}{us:List Value},aL xs us→xs.all db=true→us.any (eqU x)=xs.any λy=>eqV y x
 |_,_,.nil,_=>rfl
 |y::xs,u::us,.cons r t,f=>by
  rw[List.all_cons,and_eq_true]at f;rw[any_cons,any_cons,qx r f.1,gv t f.2]
theorem eX{A:Around}{s:Shared}{x:V}{v:Value}(rx:aN x v)(fx:db x=true):∀{xs:List V}{us:List Value},aL xs us→xs.all db=true→∀u∈us,EqAt A s u v (eqU x u)
 |_,_,.nil,_=>λu hu=>by cases hu
 |y::xs,u::us,.cons r t,f=>λu' hu=>by
  rw[List.all_cons,and_eq_true]at f;rcases mem_cons.mp hu with rfl|hu
  ·rw[qx r f.1];exact iO r rx f.1 fx
  ·exact eX rx fx t f.2 u' hu
def inV(x:V)(xs:List V):Bool:=xs.any λy=>eqV y x
def rIn(K:PySem.W.Frag)(neg:Bool):R2:=λx y H Q=>∃p xs,y=.ref p∧(SqL K H p xs∨SqT K H p xs)∧db x=true∧xs.all db=true∧Q (.bl (if neg then !inV x xs else inV x xs)) H
theorem jA:OpR X (compareOp .In) (rIn X.K false):=by
 intro pins s σ H x y v u Q I rx ry h;obtain⟨p,xs,rfl,hq,fx,fs,q⟩:=h;cases ry;rcases hq with hq|hq
 ·obtain⟨its,r,pl,hz⟩:=I.list hq;refine in_listAt (eqU x) pl.isList (λw hw=>eX rx fx r fs w (by simpa using hw)) ⟨.bl _,H,I,rfl,?_⟩;rw[show its.toArray.any (eqU x)=its.any (eqU x)by simp,gv r fs];exact q
 ·obtain⟨its,r,pl,hz⟩:=I.tuple hq;refine SeqAt.in_tupleAt (eqU x) pl (λw hw=>eX rx fx r fs w (by simpa using hw)) ⟨.bl _,H,I,rfl,?_⟩;rw[show its.toArray.any (eqU x)=its.any (eqU x)by simp,gv r fs];exact q
theorem kh:OpR X (compareOp .NotIn) (rIn X.K true):=by
 intro pins s σ H x y v u Q I rx ry h;obtain⟨p,xs,rfl,hq,fx,fs,q⟩:=h;cases ry;rcases hq with hq|hq
 ·obtain⟨its,r,pl,hz⟩:=I.list hq;refine SeqAt.notIn_listAt (eqU x) pl.isList (λw hw=>eX rx fx r fs w (by simpa using hw)) ⟨.bl _,H,I,rfl,?_⟩;rw[show its.toArray.any (eqU x)=its.any (eqU x)by simp,gv r fs];exact q
 ·obtain⟨its,r,pl,hz⟩:=I.tuple hq;refine SeqAt.notIn_tupleAt (eqU x) pl (λw hw=>eX rx fx r fs w (by simpa using hw)) ⟨.bl _,H,I,rfl,?_⟩;rw[show its.toArray.any (eqU x)=its.any (eqU x)by simp,gv r fs];exact q
theorem cg:dt X (.builtin "len") (λxs H Q=>∃p ys,xs=[.ref p]∧(SqL X.K H p ys∨SqT X.K H p ys)∧Q (.int ys.length) H):=by
 intro pins s σ H xs us Q I r h;obtain⟨p,ys,rfl,hq,q⟩:=h;obtain⟨u,rfl,rx⟩:=gs r;cases rx;have hn:=gZ;rcases hq with hq|hq
 ·obtain⟨its,r',pl,hz⟩:=I.list hq;have hlen:=r'.length;exact Calls.call_len_list pl.isList (by simp only[size_toArray]<;>omega) ⟨.int ys.length,H,I.tok _,⟨s.toks+1,by rw[size_toArray,hlen]⟩,q⟩
 ·obtain⟨its,r',pl,hz⟩:=I.tuple hq;have hlen:=r'.length;exact len_tuple pl (by simp only[size_toArray]<;>omega) ⟨.int ys.length,H,I.tok _,⟨s.toks+1,by rw[size_toArray,hlen]⟩,q⟩
theorem gw:dt X (.builtin "len") (λxs H Q=>∃z,xs=[.str z]∧z.length≤sizeLine∧Q (.int z.length) H):=by
 intro pins s σ H xs us Q I r h;obtain⟨z,rfl,hz,q⟩:=h;obtain⟨u,rfl,t,rfl⟩:=gs r;have hn:=gZ;exact len_str (by omega) ⟨.int z.length,H,I.tok _,⟨_,rfl⟩,q⟩
theorem bS:dt X (.type "tuple") (λxs H Q=>∃p ys,xs=[.ref p]∧((SqL X.K H p ys∧∀l,H l=none→Q (.ref l) (upd H l (.tup ys)))∨(SqT X.K H p ys∧Q (.ref p) H))):=by
 intro pins s σ H xs us Q I r h;obtain⟨p,ys,rfl,h⟩:=h;obtain⟨u,rfl,rx⟩:=gs r;cases rx;rcases h with⟨hq,q⟩|⟨hq,q⟩
 ·obtain⟨its,r',pl,hz⟩:=I.list hq;have hlen:=r'.length;refine call_tuple_list pl.isList (λh' kp=>?_) (by simp only[size_toArray]<;>omega);have I1:Inv X pins σ H {s with heap:=h'}:=I.kept (t':=s.toks) kp
  have I2:Inv X pins σ (upd H h'.objs.size (.tup ys)) {s with heap:=h'.push {cls:=.type "tuple",data:=.seq its.toArray}} :=
   I1.laid (t':=s.toks) (λb o e=>get?_push_of_some _ e) (le_refl _) (show bq X.prog X.w _ _ _ (.tup ys)from⟨hz,its,r',IsTup.new _ _⟩)
  exact⟨.ref h'.objs.size,_,I2,rfl,q _ (I1.hok.fresh (le_refl _))⟩
 ·obtain⟨its,r',pl,hz⟩:=I.tuple hq;exact call_tuple_same pl ⟨.ref p,H,I,rfl,q⟩
def tyV(K:PySem.W.Frag)(T:String)(x:V)(H:Hp):Prop:=match x with
 |.str _=>T="str"
 |.int _=>T="int"
 |.ref p=>(T="list"∧∃xs,SqL K H p xs)∨(T="tuple"∧∃o,K.lookup p=some o∧o.cls=.type "tuple"∧o.dict=none) ∨
   (T="dict"∧((∃kvs,H p=some (.dK kvs))∨∃kvs,H p=some (.dT kvs)))∨(T="set"∧∃S n,H p=some (.set S n))
 |_=>False
theorem qy{pins:List (Addr×Obj)}{σ:St}{H:Hp}{s:Shared}{T:String}{x:V}{v:Value}(I:Inv X pins σ H s)(r:aN x v)(ty:tyV X.K T x H):
  s.TypeIs v T∧∀a,v=.ref a→∃ob,s.heap.get? a=some ob∧ob.dict=none:=by
 cases x with
 |str z =>
  obtain⟨t,rfl⟩:=r;cases (show T="str" from ty);exact⟨typeIs_str s z t,λ_ e=>nomatch e⟩
 |int i =>
  obtain⟨t,rfl⟩:=r;cases (show T="int" from ty);exact⟨typeIs_int s i t,λ_ e=>nomatch e⟩
 |ref p =>
  cases r;rcases ty with⟨rfl,xs,hq⟩|⟨rfl,o,hk,hc,hd⟩|⟨rfl,hk⟩|⟨rfl,S,n,hk⟩
  ·obtain⟨its,_,pl,_⟩:=I.list hq;refine⟨pl.isList.typeIs,λa e=>?_⟩;cases e;obtain⟨o,n,e,c,hd,_⟩:=pl;exact⟨o,e,hd⟩
  ·refine⟨⟨o,I.kIn p o hk,hc⟩,λa e=>?_⟩;cases e;exact⟨o,I.kIn _ o hk,hd⟩
  ·have z:∃o,s.heap.get? p=some o∧o.ExactDict:=by
    rcases hk with⟨kvs,hk⟩|⟨kvs,hk⟩
    ·obtain⟨_,_,_,_,o,_,_,e,ex,_⟩:=I.hok p _ hk;exact⟨o,e,ex⟩
    ·obtain⟨_,_,_,_,o,_,_,e,ex,_⟩:=I.hok p _ hk;exact⟨o,e,ex⟩
   obtain⟨o,e,ex⟩:=z;refine⟨⟨o,e,ex.1⟩,λa e2=>?_⟩;cases e2;exact⟨o,e,ex.2.1⟩
  ·obtain⟨o,_,_,_,e,ex,_⟩:=I.hok p _ hk;refine⟨⟨o,e,ex.1⟩,λa e2=>?_⟩;cases e2;exact⟨o,e,ex.2.1⟩
 |_=>exact False.elim ty
def xz(K:PySem.W.Frag)(T:String)(r:V→List V→Hp→VK→Prop)(to:TE):TE:=λσ H Q=>to σ H λx H1=>tyV K T x H1∧r x [] H1 Q
def tBM(K:PySem.W.Frag)(T:String)(r:V→List V→Hp→VK→Prop)(to:TE)(t:TA):TE:=λσ H Q=>to σ H λx H1=>tyV K T x H1∧t σ H1 λxs H2=>r x xs H2 Q
variable{o e:Expr}{es:List Expr}{to:TE}{t:TA}{name:Str}{apos cpos:Pos}{T id:String}{r:V→List V→Hp→VK→Prop}
theorem uX(pa:PlainAttrs T)(slot:Slot T name id)(hty:typeOf (.builtin id)=pure (.type "method_descriptor"))(hm:MtR X id r)(ho:PE X o to)(hbase:attributeBase o name X.env (eval o X.env)=eval o X.env:=by rfl)(hline:(apos.endLine==cpos.line)=true:=by rfl):PE X (.Call (.Attribute o name apos) [] [] cpos) (xz X.K T r to):=by
 intro pins s σ H Q I h;refine wpAny_Call_method0_late hbase hline (thn (ho pins s σ H _ I h) λv s1 hpt=>?_);obtain⟨x,H1,I1,r1,ty,q1⟩:=hpt;obtain⟨h1,h2⟩:=qy I1 r1 ty;exact⟨T,id,pa,slot,hty,h1,h2,callWith_builtin rfl (PySem.evalArgs_none (hm pins s1 σ H1 x [] v [] Q I1 r1 .nil q1))⟩
theorem eY(pa:PlainAttrs T)(slot:Slot T name id)(hty:typeOf (.builtin id)=pure (.type "method_descriptor"))(hm:MtR X id r)(ho:PE X o to)(ha:PA X (e::es) t)(hbase:attributeBase o name X.env (eval o X.env)=eval o X.env:=by rfl)(hfew:((backTo cpos (starEach (e::es) X.env)).all (λx=>!x.1)&&(backToKw cpos (keywordEach [] X.env)).all (λx=>x.1.isSome)
   && decide ((e::es).length+([]:List Keyword).length+(if ([]:List Keyword).isEmpty then 0 else 1)<30))=true:=by rfl)(hline:(apos.endLine==cpos.line)=true:=by rfl)(hs:starEach (e::es) X.env=(false,eval e X.env)::starEach es X.env:=by rfl)(hplain:(backTo cpos (starEach es X.env)).any (·.1)=false:=by rfl):
  PE X (.Call (.Attribute o name apos) (e::es) [] cpos) (tBM X.K T r to t):=by
 intro pins s σ H Q I h;refine wpAny_Call_method_late hbase hfew hline rfl (thn (ho pins s σ H _ I h) λv s1 hpt=>?_);obtain⟨x,H1,I1,r1,ty,q1⟩:=hpt;obtain⟨h1,h2⟩:=qy I1 r1 ty;refine⟨T,id,pa,slot,hty,h1,h2,?_⟩;have hA:=ha cpos pins s1 σ H1 _ I1 q1;rw[hs]at hA⊢;refine callWith_builtin (by show(false||(backTo cpos (starEach es X.env)).any (·.1))=false;rw[hplain]<;>rfl) (evalArgs_plain ?_);exact thn hA λus s2 ⟨vs,H2,I2,r2,q2⟩=>hm pins s2 σ H2 x vs v us Q I2 r1 r2 q2
end
def MtM(X:Cx)(id:String)(r:V→List V→Hp→VK→Prop):Prop :=
 ∀(pins:List (Addr×Obj))(s:Shared)(σ:St)(H:Hp)(x:V)(xs:List V)(v:Value)(us:List Value)(Q:VK),Inv X pins σ H s→aN x v→aL xs us→r x xs H Q →
  wpAny (model X.prog X.w) X.A (call (.builtin id) (v::us)) (EP X pins σ Q) X.xe s
theorem aL.one:∀{x:V}{us:List Value},aL [x] us→∃u,us=[u]∧aN x u
 |_,_,.cons r .nil=>⟨_,rfl,r⟩
theorem aL.two:∀{x y:V}{us:List Value},aL [x,y] us→∃u v,us=[u,v]∧aN x u∧aN y v
 |_,_,_,.cons r (.cons q .nil)=>⟨_,_,rfl,r,q⟩
theorem aL.zero:∀{us:List Value},aL [] us→us=[]
 |_,.nil=>rfl
theorem aL.dropLast{xs:List V}{us:List Value}(h:aL xs us):aL xs.dropLast us.dropLast:=by
 induction h with
 |nil=>exact .nil
 |cons r t ih =>
  cases t with
  |nil=>exact .nil
  |cons q t'=>exact .cons r ih
theorem aL.eraseIdx:∀{xs:List V}{us:List Value}(i:Nat),aL xs us→aL (xs.eraseIdx i) (us.eraseIdx i)
 |_,_,_,.nil=>.nil
 |_,_,0,.cons _ t=>t
 |_,_,i+1,.cons r t=>.cons r (aL.eraseIdx i t)
theorem mZ{α:Type}(l:List α):l.eraseIdx (l.length-1)=l.dropLast:=by
 induction l with
 |nil=>rfl
 |cons a r ih =>
  cases r with
  |nil=>rfl
  |cons b r =>
   have e:(a::b::r).length-1=((b::r).length-1)+1:=by
    have h1:(a::b::r).length=r.length+2:=rfl;have h2:(b::r).length=r.length+1:=rfl;omega
   rw[e,List.eraseIdx_cons_succ,ih]
   all_goals rfl
theorem jB{α:Type}:∀(l:List α)(i:Nat),(l.eraseIdx i).length≤l.length
 |[],_=>le_refl _
 |_::_,0=>le_succ _
 |_::r,i+1=>Nat.succ_le_succ (jB r i)
section
variable{X:Cx}{pins:List (Addr×Obj)}{σ:St}{H:Hp}{s:Shared}{l b:Addr}{xs ys zs:List V}
theorem Inv.lset{its its':List Value}{n:Nat}{f:Array Value→Array Value}{t':Nat}(I:Inv X pins σ H s)(hH:H l=some (.lst xs))(e:s.heap.get? l=some {cls:=.type "list",data:=.seq its.toArray n})(hf:f its.toArray=its'.toArray)(hv:aL ys its')(hz:ys.length≤sizeLine):
  Inv X pins σ (upd H l (.lst ys)) {s with heap:=s.heap.update l (Obj.mapSeq f),toks:=t'}:=by
 have q:=PySem.IsL.update e f;rw[hf]at q;refine I.write (x:=l) (e:=l) (by rw[hH];exact trivial) (.inl rfl) (λb' u hb hu=>(Heap.get?_update_other s.heap (Obj.mapSeq f) (symm hb)).trans hu) ⟨_,q⟩ ?_;exact⟨hz,its',_,hv,q⟩
theorem Inv.lnew{its:List Value}{t':Nat}(I:Inv X pins σ H s)(hv:aL ys its)(hz:ys.length≤sizeLine):
  Inv X pins σ (upd H s.heap.objs.size (.lst ys)) {s with heap:=s.heap.push {cls:=.type "list",data:=.seq its.toArray},toks:=t'} :=
 I.laid (λ_ _ q=>get?_push_of_some _ q) (le_refl _) ⟨hz,its,0,hv,get?_push_size _ rfl⟩
theorem Inv.fresh(I:Inv X pins σ H s):H s.heap.objs.size=none:=I.hok.fresh (le_refl _)
theorem Inv.lstM(I:Inv X pins σ H s)(hH:H l=some (.lst xs)):xs.length≤sizeLine∧∃(its:List Value) (n:Nat),aL xs its∧xs.length=its.length∧s.heap.get? l=some {cls:=.type "list",data:=.seq its.toArray n}:=by
 obtain⟨z,its,n,r,e⟩:=I.hok l _ hH;exact⟨z,its,n,r,r.length,e⟩
def sx:V→List V→Hp→VK→Prop:=λx vs H Q=>∃l xs y,x=.ref l∧vs=[y]∧H l=some (.lst xs)∧xs.length<sizeLine∧Q .non (upd H l (.lst (xs++[y])))
theorem bz:MtM X "list.append" sx:=by
 intro pins s σ H x vs v us Q I rx rv h;obtain⟨l,xs,y,rfl,rfl,hH,hz,q⟩:=h;cases rx;obtain⟨u,rfl,ru⟩:=rv.one;obtain⟨z,its,n,r,hl,e⟩:=I.lstM hH;refine call_meets F.slot_list_append ⟨_,e,rfl⟩ F.entry_list_append (F.args_list_append_2 _ _) (PySem.list_append l its.toArray n u (by rw[size_toArray];omega)) ⟨e,?_⟩;refine⟨.non,_,I.lset (its':=its++[u]) hH e (by simp) (r.append (.cons ru .nil)) ?_,rfl,q⟩;rw[length_append,length_singleton];omega
def xA:V→List V→Hp→VK→Prop:=λx vs H Q=>∃l xs y,x=.ref l∧vs=[]∧H l=some (.lst xs)∧xs[xs.length-1]?=some y∧Q y (upd H l (.lst xs.dropLast))
theorem uY:MtM X "list.pop" xA:=by
 intro pins s σ H x vs v us Q I rx rv h;obtain⟨l,xs,y,rfl,rfl,hH,hy,q⟩:=h;cases rx;have hus:=rv.zero;subst hus;obtain⟨z,its,n,r,hl,e⟩:=I.lstM hH;obtain⟨u,hu,ru⟩:=r.get hy;have hy':its.toArray[its.toArray.size-1]?=some u:=by
  show its.toArray[its.length-1]?=some u;rw[←getElem?_toList,←hl];exact hu
 refine call_meets F.slot_list_pop ⟨_,e,rfl⟩ F.entry_list_pop (F.args_list_pop_1 _) (MeetsSeq.list_pop_last l its.toArray n u hy' (by rw[size_toArray];omega)) ⟨e,?_⟩;refine⟨y,_,I.lset (its':=its.dropLast) hH e ?_ r.dropLast ?_,ru,q⟩
 ·show its.toArray.eraseIdxIfInBounds (its.toArray.size-1)=its.dropLast.toArray;rw[size_toArray,List.eraseIdxIfInBounds_toArray,mZ]
 ·rw[List.length_dropLast];omega
def uZ:V→List V→Hp→VK→Prop:=λx vs H Q=>∃l xs i k y,x=.ref l∧vs=[.int i]∧H l=some (.lst xs)∧-(2 ^ 63)≤i∧i<2 ^ 63∧seqIndex? i xs.length=some k∧xs[k]?=some y∧Q y (upd H l (.lst (xs.eraseIdx k)))
theorem qz:MtM X "list.pop" uZ:=by
 intro pins s σ H x vs v us Q I rx rv h;obtain⟨l,xs,i,k,y,rfl,rfl,hH,h1,h2,hk,hy,q⟩:=h;cases rx;obtain⟨u,rfl,ru⟩:=rv.one;obtain⟨t,rfl⟩:=ru;obtain⟨z,its,n,r,hl,e⟩:=I.lstM hH;obtain⟨w,hw,rw'⟩:=r.get hy;refine call_meets F.slot_list_pop ⟨_,e,rfl⟩ F.entry_list_pop (F.args_list_pop_2 _ _)
  (MeetsSeq.list_pop_at l its.toArray n i t k w (fitsIndex_both h1 h2) (by rw[size_toArray,←hl];exact hk) (by rw[←getElem?_toList];exact hw) (by rw[size_toArray];omega)) ⟨e,?_⟩
 refine⟨y,_,I.lset (its':=its.eraseIdx k) hH e ?_ (r.eraseIdx k) ?_,rw',q⟩
 ·show its.toArray.eraseIdxIfInBounds k=(its.eraseIdx k).toArray;rw[List.eraseIdxIfInBounds_toArray]
 ·have:=jB xs k;omega
def wH:R2:=λx y H Q=>∃l b xs zs,x=.ref l∧y=.ref b∧H l=some (.lst xs)∧H b=some (.lst zs)∧xs.length+zs.length≤sizeLine∧∀p,H p=none→Q (.ref p) (upd H p (.lst (xs++zs)))
theorem eZ:OpR X (binaryOp .Add) wH:=by
 intro pins s σ H x y v u Q I rx ry h;obtain⟨l,b,xs,zs,rfl,rfl,hH,hB,hz,q⟩:=h;cases rx;cases ry;obtain⟨z,its,n,r,hl,e⟩:=I.lstM hH;obtain⟨z2,its2,n2,r2,hl2,e2⟩:=I.lstM hB;refine PySem.P.add_list e e2 ?_ (by rw[size_toArray,size_toArray];omega);have ea:its.toArray++its2.toArray=(its++its2).toArray:=by simp
 rw[ea];exact⟨.ref _,_,I.lnew (t':=s.toks) (r.append r2) (by rw[length_append];omega),rfl,q _ I.fresh⟩
end
section
variable{prog:Program}{w:World}{A:Around}{E:Value→Shared→Prop}{s:Shared}
end
section
variable{X:Cx}
end
section
variable{κ:Type}[DecidableEq κ]
def aY(kvs:List (κ×V))(k:κ):Option V:=(kvs.find? λkv=>decide (kv.1=k)).map (·.2)
def bG(kvs:List (κ×V))(k:κ)(v:V):List (κ×V) :=
 if (kvs.any λkv=>decide (kv.1=k))=true then kvs.map (λkv=>if kv.1=k then (kv.1,v)else kv)else kvs++[(k,v)]
def dc(kvs:List (κ×V))(k:κ):List (κ×V):=kvs.filter λkv=>decide (kv.1≠k)
theorem bt{p:κ×V}{r:List (κ×V)}{k:κ}(e:p.1=k):aY (p::r) k=some p.2:=by simp[aY,find?_cons,e]
theorem bf{p:κ×V}{r:List (κ×V)}{k:κ}(e:¬p.1=k):aY (p::r) k=aY r k:=by simp[aY,find?_cons,e]
theorem cz(k:κ):∀kvs:List (κ×V),(kvs.any λkv=>decide (kv.1=k))=(aY kvs k).isSome
 |[]=>rfl
 |p::r=>by
  rw[any_cons]
  by_cases e:p.1=k
  ·simp only[bt e,decide_eq_true e,Bool.true_or,Option.isSome_some]
  ·rw[bf e,decide_eq_false e,Bool.false_or];exact cz k r
theorem lh(k j:κ)(y:V):∀kvs:List (κ×V),aY (kvs.map λkv=>if kv.1=k then (kv.1,y)else kv) j=(aY kvs j).map λx=>if j=k then y else x
 |[]=>rfl
 |p::r=>by
  have ih:=lh k j y r;rw[map_cons]
  by_cases h:p.1=k
  ·rw[if_pos h]
   by_cases e:p.1=j
   ·rw[bt (p:=(p.1,y)) e,bt e,map_some,if_pos (e.symm.trans h)]
   ·rw[bf (p:=(p.1,y)) e,bf e,ih]
  ·rw[if_neg h]
   by_cases e:p.1=j
   ·rw[bt (p:=p) e,bt e,map_some,if_neg (λz=>h (e.trans z))]
   ·rw[bf (p:=p) e,bf e,ih]
theorem jC(k j:κ)(y:V):∀kvs:List (κ×V),aY kvs k=none→aY (kvs++[(k,y)]) j=if j=k then some y else aY kvs j
 |[],_=>by
  by_cases e:k=j
  ·rw[if_pos e.symm];exact bt (p:=(k,y)) e
  ·rw[if_neg (λz=>e z.symm)];exact bf (p:=(k,y)) e
 |p::r,hn=>by
  rw[cons_append];have hk:¬p.1=k:=λz=>by rw[bt z]at hn;cases hn
  rw[bf hk]at hn;have ih:=jC k j y r hn
  by_cases e:p.1=j
  ·rw[bt e,bt e,if_neg (λz=>hk (e.trans z))]
  ·rw[bf e,bf e,ih]
theorem ee(kvs:List (κ×V))(k j:κ)(y:V):aY (bG kvs k y) j=if j=k then some y else aY kvs j:=by
 unfold bG
 by_cases a:(kvs.any λkv=>decide (kv.1=k))=true
 ·rw[if_pos a,lh];rw[cz]at a
  by_cases e:j=k
  ·obtain⟨x,hx⟩:=Option.isSome_iff_exists.mp a;rw[if_pos e,e,hx,map_some,if_pos rfl]
  ·rw[if_neg e];cases aY kvs j with
   |none=>rfl
   |some x=>rw[map_some,if_neg e]
 ·rw[if_neg a];refine jC k j y kvs ?_;rw[cz]at a;cases q:aY kvs k with
  |none=>rfl
  |some x=>rw[q]at a;exact(a rfl).elim
theorem dM(kvs:List (κ×V))(k:κ)(v:V):(bG kvs k v).length≤kvs.length+1:=by
 unfold bG
 split
 ·rw[length_map];omega
 ·rw[length_append,length_cons,length_nil];omega
theorem li{kvs:List (κ×V)}{k:κ}(v:V)(h:aY kvs k=none):bG kvs k v=kvs++[(k,v)]:=by
 unfold bG;rw[cz,h];exact if_neg (by decide)
theorem eS.isSome_eq{o:Option V}{u:Option Value}(r:eS o u):o.isSome=u.isSome:=by
 cases o with
 |none=>cases u with
  |none=>rfl
  |some _=>exact(show False from r).elim
 |some _=>cases u with
  |none=>exact(show False from r).elim
  |some _=>rfl
theorem eS.getD{o:Option V}{u:Option Value}{d:V}{d':Value}(r:eS o u)(rd:aN d d'):aN (o.getD d) (u.getD d'):=by
 cases o with
 |none=>cases u with
  |none=>exact rd
  |some _=>exact(show False from r).elim
 |some _=>cases u with
  |none=>exact(show False from r).elim
  |some _=>exact r
theorem KV.val{kvs:List (κ×V)}{vs:List (κ×Value)}(r:KV kvs vs)(k:κ):eS (aY kvs k) (valueAt vs k):=by
 unfold KV at r
 induction r with
 |nil=>exact True.intro
 |@cons p q ps qs h t ih =>
  obtain⟨h1,h2⟩:=h
  by_cases e:p.1=k
  ·have e':q.1=k:=h1.symm.trans e;have b:valueAt (q::qs) k=some q.2:=by simp[valueAt,find?_cons,e']
   rw[bt e,b];exact h2
  ·have e':¬q.1=k:=λz=>e (h1.trans z);have b:valueAt (q::qs) k=valueAt qs k:=by simp[valueAt,find?_cons,e']
   rw[bf e,b];exact ih
theorem KV.any{kvs:List (κ×V)}{vs:List (κ×Value)}(r:KV kvs vs)(k:κ):(kvs.any λkv=>decide (kv.1=k))=vs.any λkv=>decide (kv.1=k):=by
 unfold KV at r
 induction r with
 |nil=>rfl
 |cons h t ih=>rw[any_cons,any_cons,ih,h.1]
theorem KV.repl{kvs:List (κ×V)}{vs:List (κ×Value)}(r:KV kvs vs)(k:κ){y:V}{u:Value}(ry:aN y u):
  KV (kvs.map λkv=>if kv.1=k then (kv.1,y)else kv) (vs.map λkv=>if kv.1=k then (kv.1,u)else kv):=by
 unfold KV at r⊢
 induction r with
 |nil=>exact .nil
 |@cons p q ps qs h t ih =>
  rw[map_cons,map_cons];refine .cons ?_ ih;obtain⟨h1,h2⟩:=h
  by_cases e:p.1=k
  ·rw[if_pos e,if_pos (h1.symm.trans e)];exact⟨h1,ry⟩
  ·rw[if_neg e,if_neg (λz=>e (h1.trans z))];exact⟨h1,h2⟩
theorem KV.put{kvs:List (κ×V)}{vs:List (κ×Value)}(r:KV kvs vs)(k:κ){y:V}{u:Value}(ry:aN y u):KV (bG kvs k y) (stored vs k u):=by
 unfold bG stored;rw[r.any k]
 by_cases e:(vs.any λkv=>decide (kv.1=k))=true
 ·rw[if_pos e,if_pos e];exact r.repl k ry
 ·rw[if_neg e,if_neg e];exact Paired.snoc r ⟨rfl,ry⟩
theorem KV.drop{kvs:List (κ×V)}{vs:List (κ×Value)}(r:KV kvs vs)(k:κ):KV (dc kvs k) (without vs k):=by
 unfold KV at r⊢;unfold dc without
 induction r with
 |nil=>exact .nil
 |@cons p q ps qs h t ih =>
  obtain⟨h1,h2⟩:=h;rw[filter_cons,filter_cons]
  by_cases e:p.1=k
  ·have a:¬decide (p.1≠k)=true:=by simp[e]
   have b:¬decide (q.1≠k)=true:=by simp[h1.symm.trans e]
   rw[if_neg a,if_neg b];exact ih
  ·have e':¬q.1=k:=λz=>e (h1.trans z);have a:decide (p.1≠k)=true:=by simp[e]
   have b:decide (q.1≠k)=true:=by simp[e']
   rw[if_pos a,if_pos b];exact .cons ⟨h1,h2⟩ ih
theorem KV.length{kvs:List (κ×V)}{vs:List (κ×Value)}(r:KV kvs vs):kvs.length=vs.length:=Paired.length r
theorem lj(kvs:List (κ×V))(k:κ):(dc kvs k).length≤kvs.length:=length_filter_le _ _
end
theorem fb{P:Program}{w:World}{k:Key}{u:Value}(r:aN (kV k) u):(aU P w).is k u=true:=by
 cases k with
 |inl i=>obtain⟨t,e⟩:=(show ∃t,u=Value.int i t from r);subst e;exact kT P w i t
 |inr x=>obtain⟨t,e⟩:=(show ∃t,u=Value.str x t from r);subst e;exact kX P w x t
theorem va{a b:Key}(e:kV a=kV b):a=b:=by
 cases a with
 |inl i=>cases b with
  |inl j=>have e':V.int i=V.int j:=e;injection e' with e';rw[e']
  |inr y=>exact nomatch (show V.int i=V.str y from e)
 |inr x=>cases b with
  |inl j=>exact nomatch (show V.str x=V.int j from e)
  |inr y=>have e':V.str x=V.str y:=e;injection e' with e';rw[e']
theorem ki:∀{a b:List Key},a.map kV=b.map kV→a=b
 |[],[],_=>rfl
 |[],_::_,e=>by simp at e
 |_::_,[],e=>by simp at e
 |x::xs,y::ys,e=>by
  rw[map_cons,map_cons]at e;injection e with e1 e2
  rw[va e1,ki e2]
theorem hX{P:Program}{w:World}:∀{ks:List Key}{us:List Value},aL (ks.map kV) us→ItemsAre (aU P w) ks us
 |[],_,r=>by rw[map_nil]at r;cases r;exact .nil
 |k::ks,_,r=>by
  rw[map_cons]at r;cases r with
  |cons h t=>exact .cons (fb h) (hX t)
abbrev KT(H:Hp):List (List Key×V)→List (List Key×Addr×Value)→Prop:=Paired λp q=>p.1=q.1∧H q.2.1=some (.tup (p.1.map kV))∧aN p.2 q.2.2
theorem KT.val{H:Hp}{kvs:List (List Key×V)}{xs:List (List Key×Addr×Value)}(r:KT H kvs xs)(k:List Key):eS (aY kvs k) ((atKey xs k).map (·.2)):=by
 induction r with
 |nil=>exact True.intro
 |@cons p q ps qs h t ih =>
  obtain⟨h1,_,h2⟩:=h
  by_cases e:p.1=k
  ·have e':q.1=k:=h1.symm.trans e;have b:atKey (q::qs) k=some q.2:=by simp[atKey,find?_cons,e']
   rw[bt e,b];exact h2
  ·have e':¬q.1=k:=λz=>e (h1.trans z);have b:atKey (q::qs) k=atKey qs k:=by simp[atKey,find?_cons,e']
   rw[bf e,b];exact ih
theorem KT.repl{H:Hp}{kvs:List (List Key×V)}{xs:List (List Key×Addr×Value)}(r:KT H kvs xs)(k:List Key){y:V}{u:Value}(ry:aN y u):
  KT H (kvs.map λkv=>if kv.1=k then (kv.1,y)else kv) (xs.map (putAt k u)):=by
 induction r with
 |nil=>exact .nil
 |@cons p q ps qs h t ih =>
  rw[map_cons,map_cons];refine .cons ?_ ih;obtain⟨h1,h2,h3⟩:=h;unfold putAt
  by_cases e:p.1=k
  ·rw[if_pos e,if_pos (h1.symm.trans e)];exact⟨h1,h2,ry⟩
  ·rw[if_neg e,if_neg (λz=>e (h1.trans z))];exact⟨h1,h2,h3⟩
theorem KT.put{H:Hp}{kvs:List (List Key×V)}{xs:List (List Key×Addr×Value)}(r:KT H kvs xs)(k:List Key){b:Addr}{y:V}{u:Value}(hb:H b=some (.tup (k.map kV)))(ry:aN y u):
  KT H (bG kvs k y) (storedH xs k b u):=by
 have e:(kvs.any λkv=>decide (kv.1=k))=(atKey xs k).isSome:=by
  rw[cz,(r.val k).isSome_eq,isSome_map]
 unfold bG storedH;rw[e]
 by_cases q:(atKey xs k).isSome=true
 ·rw[if_pos q,if_pos q];exact r.repl k ry
 ·rw[if_neg q,if_neg q];exact Paired.snoc r ⟨rfl,hb,ry⟩
theorem KT.keeps{H H':Hp}{kvs:List (List Key×V)}{xs:List (List Key×Addr×Value)}(r:KT H kvs xs)(ht:∀b ys,H b=some (.tup ys)→H' b=some (.tup ys)):KT H' kvs xs :=
 Paired.mapP r λ_ _ z=>⟨z.1,ht _ _ z.2.1,z.2.2⟩
section
variable{P:Program}{w:World}{H:Hp}{h:Heap}{a:Addr}
theorem um{u:HO}(ok:HOk P w H h)(e:Rd H a u):bq P w H h a u:=e.ok ok
theorem iP{kvs:List (Key×V)}(ok:HOk P w H h)(e:Rd H a (.dK kvs)):kvs.length≤sizeLine∧(a==sysModules)=false∧∃vs,KV kvs vs∧h.DictOf (aU P w) a vs :=
 show bq P w H h a (.dK kvs)from um ok e
theorem ou{kvs:List (Key×V)}(ok:HOk P w H h)(e:H a=some (.dK kvs)):kvs.length≤sizeLine∧(a==sysModules)=false∧∃vs,KV kvs vs∧h.DictOf (aU P w) a vs:=iP ok (.inl e)
theorem hZ{ks:List Key}(ok:HOk P w H h)(e:H a=some (.tup (ks.map kV))):(tupleKind (aU P w)).is h ks a:=by
 obtain⟨_,its,r,o,h1,h2,n,h3⟩:=(show bq P w H h a (.tup (ks.map kV))from ok a _ e);exact⟨o,its.toArray,n,h1,h2,h3,by simpa using hX r⟩
theorem iQ{kvs:List (List Key×V)}(ok:HOk P w H h)(e:Rd H a (.dT kvs)):kvs.length≤sizeLine∧(a==sysModules)=false ∧
  ∃xs,KT H kvs xs∧h.DictOfH (tupleKind (aU P w)) a xs:=by
 obtain⟨z,y,xs,r,o,es,ep,h1,h2,h3,h4,h5⟩:=(show bq P w H h a (.dT kvs)from um ok e);refine⟨z,y,xs,r,o,es,ep,h1,h2,h3,h4,λx hx=>?_,h5⟩;have all:∀{l:List (List Key×V)}{m:List (List Key×Addr×Value)},KT H l m→∀x∈m,(tupleKind (aU P w)).is h x.1 x.2.1:=by
  intro l m q
  induction q with
  |nil=>intro x hx;exact nomatch hx
  |@cons p q ps qs hq t ih =>
   intro x hx;rcases mem_cons.mp hx with e|hx
   ·subst e;exact hZ ok (by rw[←hq.1];exact hq.2.1)
   ·exact ih x hx
 exact all r x hx
theorem wI{kvs:List (List Key×V)}(ok:HOk P w H h)(e:H a=some (.dT kvs)):kvs.length≤sizeLine∧(a==sysModules)=false ∧
  ∃xs,KT H kvs xs∧h.DictOfH (tupleKind (aU P w)) a xs:=iQ ok (.inl e)
end
def cA(H:Hp)(a:Addr)(y:V)(r:Option V):Prop :=
 (∃kvs k,Rd H a (.dK kvs)∧y=kV k∧r=aY kvs k)∨∃kvs k b,Rd H a (.dT kvs)∧y=.ref b∧H b=some (.tup (k.map kV))∧r=aY kvs k
def ix(H:Hp)(a:Addr)(y v:V)(H':Hp):Prop :=
 (∃kvs k,H a=some (.dK kvs)∧y=kV k∧kvs.length<sizeLine∧H'=upd H a (.dK (bG kvs k v))) ∨
 ∃kvs k b,H a=some (.dT kvs)∧y=.ref b∧H b=some (.tup (k.map kV))∧kvs.length<sizeLine∧H'=upd H a (.dT (bG kvs k v))
theorem cA.k{H:Hp}{a:Addr}{kvs:List (Key×V)}{k:Key}(e:H a=some (.dK kvs)):cA H a (kV k) (aY kvs k):=.inl ⟨kvs,k,.inl e,rfl,rfl⟩
theorem ix.k{H:Hp}{a:Addr}{kvs:List (Key×V)}{k:Key}{v:V}(e:H a=some (.dK kvs))(hl:kvs.length<sizeLine):ix H a (kV k) v (upd H a (.dK (bG kvs k v))):=.inl ⟨kvs,k,e,rfl,hl,rfl⟩
section
variable{X:Cx}{pins:List (Addr×Obj)}{σ:St}{H:Hp}{s:Shared}{a:Addr}{y v:V}{u r:Value}{o:Option V}{A:Around}{E:Value→Shared→Prop}
theorem Inv.big(I:Inv X pins σ H s):sysModules<s.heap.objs.size:=by
 have h:mainGlobals<s.heap.objs.size:=(I.mod.glob.keeps I.bk).lt;exact lt_trans (by decide) h
theorem pE{Q:Value→Shared→Prop}(hu:A.units+1<cLine)(I:Inv X pins σ H s)(g:cA H a y (some v))(ry:aN y u)(h:∀w' s',Inv X pins σ H s'→aN v w'→Q w' s'):
  wpAny (model X.prog X.w) A (getItem (.ref a) u) Q E s:=by
 rcases g with⟨kvs,k,e,ey,l⟩|⟨kvs,k,b,e,ey,eb,l⟩
 ·subst ey;obtain⟨z,hd,vs,rel,dd⟩:=iP I.hok e;obtain⟨w',hw,rw'⟩:=eS.some_of (v:=v) (o:=valueAt vs k) (by rw[l];exact rel.val k);exact wpAny_getItem_of (fb ry) dd.mapOf hw (h w' _ (I.tok _) rw')
 ·subst ey;cases (show u=Value.ref b from ry);obtain⟨z,hd,xs,rel,dd⟩:=iQ I.hok e;obtain⟨w',hw,rw'⟩:=eS.some_of (v:=v) (o:=(atKey xs k).map (·.2)) (by rw[l];exact rel.val k);obtain⟨p,hp,hp2⟩:=Option.map_eq_some_iff.mp hw;refine wpAny_getItem_heap (tupleKind_room_in1 hu) (hZ I.hok eb) dd hp ?_;rw[hp2];exact h w' _ (I.tok _) rw'
theorem xB{Q:Value→Shared→Prop}(hu:A.units+1<cLine)(I:Inv X pins σ H s)(g:cA H a y o)(ry:aN y u)(h:∀s',Inv X pins σ H s'→Q (.bool o.isSome) s'):
  wpAny (model X.prog X.w) A (compareOp .In u (.ref a)) Q E s:=by
 rcases g with⟨kvs,k,e,ey,l⟩|⟨kvs,k,b,e,ey,eb,l⟩
 ·subst ey;obtain⟨z,hd,vs,rel,dd⟩:=iP I.hok e;refine wpAny_in_of (fb ry) hd dd.mapOf ?_;rw[←(rel.val k).isSome_eq,←l];exact h _ (I.tok _)
 ·subst ey;cases (show u=Value.ref b from ry);obtain⟨z,hd,xs,rel,dd⟩:=iQ I.hok e;refine wpAny_in_heap (tupleKind_room_in1 hu) (hZ I.hok eb) hd dd ?_;have q:=(rel.val k).isSome_eq;rw[isSome_map]at q;rw[←q,←l];exact h _ (I.tok _)
theorem sy{Q:Value→Shared→Prop}(hu:A.units+1<cLine)(I:Inv X pins σ H s)(g:cA H a y o)(ry:aN y u)(h:∀s',Inv X pins σ H s'→Q (.bool (!o.isSome)) s'):
  wpAny (model X.prog X.w) A (compareOp .NotIn u (.ref a)) Q E s:=by
 rcases g with⟨kvs,k,e,ey,l⟩|⟨kvs,k,b,e,ey,eb,l⟩
 ·subst ey;obtain⟨z,hd,vs,rel,dd⟩:=iP I.hok e;refine wpAny_notIn_of (fb ry) hd dd.mapOf ?_;rw[←(rel.val k).isSome_eq,←l];exact h _ (I.tok _)
 ·subst ey;cases (show u=Value.ref b from ry);obtain⟨z,hd,xs,rel,dd⟩:=iQ I.hok e;refine wpAny_notIn_heap (tupleKind_room_in1 hu) (hZ I.hok eb) hd dd ?_;have q:=(rel.val k).isSome_eq;rw[isSome_map]at q;rw[←q,←l];exact h _ (I.tok _)
theorem iA{h':Heap}{t':Nat}{ob:HO}(I:Inv X pins σ H s)(mu:Mut (H a))(hs:SameBut a s.heap h')(he:∃q,h'.get? a=some q)(new:bq X.prog X.w (upd H a ob) h' a ob):
  Inv X pins σ (upd H a ob) {s with heap:=h',toks:=t'} :=
 I.write (x:=a) (e:=a) mu (.inl rfl) (λb q hb z=>(hs.2 b hb).trans z) he new
theorem iR{P:Program}{w:World}{H':Hp}{h':Heap}{kvs:List (Key×V)}{vs:List (Key×Value)}(z:kvs.length≤sizeLine)(hd:(a==sysModules)=false)(rel:KV kvs vs)(dd:h'.DictOf (aU P w) a vs):
  bq P w H' h' a (.dK kvs):=⟨z,hd,vs,rel,dd⟩
theorem pF{H':Hp}{Q:Unit→Shared→Prop}(hu:A.units+1<cLine)(I:Inv X pins σ H s)(g:ix H a y v H')(ry:aN y u)(rv:aN v r)(h:∀s',Inv X pins σ H' s'→Q () s'):
  wpAny (model X.prog X.w) A (setItem (.ref a) u r) Q E s:=by
 rcases g with⟨kvs,k,e,ey,l,eH⟩|⟨kvs,k,b,e,ey,eb,l,eH⟩
 ·subst ey eH;obtain⟨z,hd,vs,rel,dd⟩:=ou I.hok e;have hz:vs.length≤sizeLine:=by rw[←rel.length];exact z
  have hl:(bG kvs k v).length≤sizeLine:=by have:=dM kvs k v;omega
  refine wpAny_setItem_pairs (hsz:=hz) (fb ry) dd λh' dd' hs=>h _ ?_;have he:∃q,h'.get? a=some q:=let⟨q,_,_,hq,_⟩:=dd';⟨q,hq⟩;exact iA I (by rw[e];exact True.intro) hs he (iR hl hd (rel.put k rv) dd')
 ·subst ey eH;cases (show u=Value.ref b from ry);obtain⟨z,hd,xs,rel,dd⟩:=wI I.hok e;have hz:xs.length≤sizeLine:=by rw[←Paired.length rel];exact z
  have hl:(bG kvs k v).length≤sizeLine:=by have:=dM kvs k v;omega
  refine wpAny_setItem_heap (hsz:=hz) (tupleKind_room_in1 hu) (hZ I.hok eb) dd λh' dd' hs=>h _ ?_;obtain⟨q,es,ep,hq,h2,h3,h4,_,h5⟩:=dd';refine iA I (by rw[e];exact True.intro) hs ⟨q,hq⟩ ⟨hl,hd,_,(rel.put k eb rv).keeps λc ys ec=>?_,q,es,ep,hq,h2,h3,h4,h5⟩;rw[ak (wv ec e (λz=>nomatch z))];exact ec
end
section
variable{X:Cx}{pins:List (Addr×Obj)}{σ:St}{H:Hp}{s:Shared}{a:Addr}{kvs:List (Key×V)}{k:Key}{u:Value}{A:Around}{E:Value→Shared→Prop}
theorem wJ{v:V}{more:List Value}{Q:Value→Shared→Prop}(I:Inv X pins σ H s)(e:H a=some (.dK kvs))(ry:aN (kV k) u)(l:aY kvs k=some v)(hm:more=[]∨∃x,more=[x])(h:∀w' s',Inv X pins σ (upd H a (.dK (dc kvs k))) s'→aN v w'→Q w' s'):wpAny (model X.prog X.w) A (call (.builtin "dict.pop") (.ref a::u::more)) Q E s:=by
 obtain⟨z,hd,vs,rel,dd⟩:=ou I.hok e;obtain⟨w',hw,rw'⟩:=eS.some_of (v:=v) (o:=valueAt vs k) (by rw[←l];exact rel.val k);have hp:(keyPart u).isSome=true:=by
  cases k with
  |inl i=>obtain⟨t,q⟩:=(show ∃t,u=Value.int i t from ry);subst q;rfl
  |inr x=>obtain⟨t,q⟩:=(show ∃t,u=Value.str x t from ry);subst q;rfl
 have ha:argsOk "dict.pop" ⟨.ref a::u::more,[]⟩:=by
  rcases hm with q|⟨x,q⟩
  ·subst q;exact PySem.F.args_dict_pop_2 _ _
  ·subst q;exact PySem.F.args_dict_pop_3 _ _ _
 refine call_meetsIn slot_dict_pop dd.typeIs PySem.F.entry_dict_pop ha (meets_dict_pop_there (aU X.prog X.w) a (fb ry) more hm hp)
  ⟨vs,w',dd,by rw[←rel.length];exact z,hw,λh' dd' hs=>h w' _ ?_ rw'⟩
 have he:∃q,h'.get? a=some q:=let⟨q,_,_,hq,_⟩:=dd';⟨q,hq⟩;exact iA I (by rw[e];exact True.intro) hs he (iR (le_trans (lj kvs k) z) hd (rel.drop k) dd')
theorem vb{r:Value}{Q:Value→Shared→Prop}(I:Inv X pins σ H s)(e:H a=some (.dK kvs))(ry:aN (kV k) u)(l:aY kvs k=none)(h:∀s',Inv X pins σ H s'→Q r s'):
  wpAny (model X.prog X.w) A (call (.builtin "dict.pop") [.ref a,u,r]) Q E s:=by
 obtain⟨z,hd,vs,rel,dd⟩:=ou I.hok e;have hn:valueAt vs k=none:=eS.none_of (by rw[←l];exact rel.val k);have hp:(keyPart u).isSome=true:=by
  cases k with
  |inl i=>obtain⟨t,q⟩:=(show ∃t,u=Value.int i t from ry);subst q;rfl
  |inr x=>obtain⟨t,q⟩:=(show ∃t,u=Value.str x t from ry);subst q;rfl
 exact call_meetsIn slot_dict_pop dd.typeIs PySem.F.entry_dict_pop (PySem.F.args_dict_pop_3 _ _ _) (meets_dict_pop_default (aU X.prog X.w) a (fb ry) hd hp r) ⟨vs,dd,hn,h _ (I.tok _)⟩
end
def wK(i:Expr):Prop:=∀ov iv,subscripted i false ov iv=operate [ov,iv] (getItem ov iv)
theorem sA{prog:Program}{w:World}{A:Around}{E:Value→Shared→Prop}{s:Shared}{env:Env}{value slice:Expr}{pos:Pos}{T id:String}{Q:Value→Shared→Prop}(hl:typeLookup (.type T) "__getitem__"=pure (some (.builtin id)))(hs:wK slice)(h:wpAny (model prog w) A (eval value env) (λo s₁=>wpAny (model prog w) A (eval slice env) (λi s₂=>s₂.TypeIs o T∧wpAny (model prog w) A (getItem o i) Q E s₂) E s₁) E s):
  wpAny (model prog w) A (eval (.Subscript value slice pos) env) Q E s:=by
 refine Subscript_ (wpAny_mono h (λo s₁ h₁=>wpAny_mono h₁ (λi s₂ h₂=>?_) λ_ _ x=>x) λ_ _ x=>x);obtain⟨hT,h₂⟩:=h₂;unfold subscriptTail;refine wpAny_bind ?_;rw[getitemInPython_of_ne hT.not_modules];refine wpAny_bind (wpAny_specialOf hT hl ?_);have fin:wpAny (model prog w) A (subscripted slice false o i) (λr s₃=>wpAny (model prog w) A (letTemporaryGo value o r >>= λ_=>pure r) Q E s₃) E s₂:=by
  rw[hs o i];exact wpAny_operating (wpAny_mono h₂ (λr s₃ h₃=>wpAny_bind (wpAny_letTemporaryGo (wpAny_pure h₃))) λ_ _ x=>x)
 first
  |exact wpAny_pure (wpAny_bind fin)
  |exact wpAny_bind (wpAny_pure (wpAny_bind fin))
  |exact wpAny_bind fin
theorem ll{X:Cx}{pins:List (Addr×Obj)}{σ:St}{H:Hp}{s:Shared}{a:Addr}{y:V}{o:Option V}(I:Inv X pins σ H s)(g:cA H a y o):s.TypeIs (.ref a) "dict":=by
 rcases g with⟨kvs,k,e,_,_⟩|⟨kvs,k,b,e,_,_,_⟩
 ·obtain⟨_,_,vs,_,dd⟩:=iP I.hok e;exact dd.typeIs
 ·obtain⟨_,_,xs,_,dd⟩:=iQ I.hok e;exact dd.typeIs
def wL(td ty:TE):TE:=λσ H Q=>td σ H λx H1=>ty σ H1 λy H2=>∃a v,x=.ref a∧cA H2 a y (some v)∧Q v H2
def xC(ty td:TE):TE:=λσ H Q=>ty σ H λy H1=>td σ H1 λx H2=>∃a o,x=.ref a∧cA H2 a y o∧Q (.bl o.isSome) H2
def sC(ty td:TE):TE:=λσ H Q=>ty σ H λy H1=>td σ H1 λx H2=>∃a o,x=.ref a∧cA H2 a y o∧Q (.bl (!o.isSome)) H2
def wM(td ty tv:TE):TS:=λD σ H=>tv σ H λv H1=>td σ H1 λx H2=>ty σ H2 λy H3=>∃a H4,x=.ref a∧ix H3 a y v H4∧D.nx σ H4
section
variable{X:Cx}{o i e value:Expr}{pos pos' tpos:Pos}{td ty tv:TE}
theorem aW(hu:X.A.units+1<cLine)(ho:PE X o td)(hi:PE X i ty)(hs:wK i):PE X (.Subscript o i pos) (wL td ty):=by
 intro pins s σ H Q I h;refine sA PySem.F.slot_dict_getitem.lookup hs (thn (ho pins s σ H _ I h) λu s1 ⟨x,H1,I1,rx,q1⟩=>thn (hi pins s1 σ H1 _ I1 q1) λiv s2 hpt=>?_);obtain⟨y,H2,I2,ry,a,v,ex,g,q2⟩:=hpt;subst ex;obtain rfl:u=Value.ref a:=rx;exact⟨ll I2 g,pE hu I2 g ry λw' s3 I3 rw'=>⟨v,H2,I3,rw',q2⟩⟩
theorem dR(hu:X.A.units+1<cLine)(hi:PE X i ty)(ho:PE X o td):PC X .In i o (xC ty td):=by
 intro pins s σ H Q I h;refine thn (hi pins s σ H _ I h) λiv s1 ⟨y,H1,I1,ry,q1⟩=>thn (ho pins s1 σ H1 _ I1 q1) λu s2 hpt=>?_;obtain⟨x,H2,I2,rx,a,ov,ex,g,q2⟩:=hpt;subst ex;obtain rfl:u=Value.ref a:=rx;exact xB hu I2 g ry λs3 I3=>⟨.bl ov.isSome,H2,I3,rfl,q2⟩
theorem bZ(hu:X.A.units+1<cLine)(hi:PE X i ty)(ho:PE X o td):PC X .NotIn i o (sC ty td):=by
 intro pins s σ H Q I h;refine thn (hi pins s σ H _ I h) λiv s1 ⟨y,H1,I1,ry,q1⟩=>thn (ho pins s1 σ H1 _ I1 q1) λu s2 hpt=>?_;obtain⟨x,H2,I2,rx,a,ov,ex,g,q2⟩:=hpt;subst ex;obtain rfl:u=Value.ref a:=rx;exact sy hu I2 g ry λs3 I3=>⟨.bl (!ov.isSome),H2,I3,rfl,q2⟩
theorem fw(hu:X.A.units+1<cLine)(ho:PE X o td)(hi:PE X i ty)(hv:PE X value tv)(hs:swapsWith value (some (.Subscript o i pos')) pos.line X.env=pure false):
  PS X (.Assign [.Subscript o i pos'] value pos) (wM td ty tv):=by
 intro pins s σ H D I h;refine wpAny_Assign_Subscript (thn (hv pins s σ H _ I h) λr s1 ⟨v,H1,I1,rv,q1⟩=>thn (ho pins s1 σ H1 _ I1 q1) λu s2 ⟨x,H2,I2,rx,q2⟩=>thn (hi pins s2 σ H2 _ I2 q2) λiv s3 ⟨y,H3,I3,ry,a,H4,ex,g,q3⟩=>?_) hs;subst ex;obtain rfl:u=Value.ref a:=rx;exact pF hu I3 g ry rv λs4 I4=>⟨σ,H4,I4,q3⟩
end
theorem qA{P:Program}{w:World}{H:Hp}(h:Heap)(hb:sysModules<h.objs.size):bq P w H (h.push {cls:=.type "dict",data:=.dict #[]}) h.objs.size (.dK []) :=
 ⟨zero_le _,beq_eq_false_iff_ne.mpr (symm (ne_of_lt hb)),[],.nil,Heap.DictOf.new h⟩
def vc:TE:=λ_ H Q=>∀p,H p=none→Q (.ref p) (upd H p (.dK []))
section
variable{X:Cx}{pos:Pos}
theorem iS:PE X (.Dict [] [] pos) vc:=λpins s σ H Q I h =>
 wpAny_Dict_empty ⟨.ref s.heap.objs.size,_,I.laid (a:=s.heap.objs.size) (o:=.dK []) (t':=s.toks) (λ_ _ q=>get?_push_of_some _ q) (le_refl _) (qA s.heap I.big),rfl,h _ (I.hok.fresh (le_refl _))⟩
end
structure M2(X:Cx)(o:Expr)(m:Str)(apos:Pos)(e f:Expr)(cpos:Pos):Prop where
 base:attributeBase o m X.env (eval o X.env)=eval o X.env
 few:((backTo cpos (starEach [e,f] X.env)).all (λx=>!x.1)&&(backToKw cpos (keywordEach [] X.env)).all (λx=>x.1.isSome)
  && decide (([e,f]:List Expr).length+([]:List Keyword).length+(if ([]:List Keyword).isEmpty then 0 else 1)<30))=true
 line:(apos.endLine==cpos.line)=true
 trees:backTo cpos (starEach [e,f] X.env)=[(false,eval e X.env),(false,eval f X.env)]
def IsD(H:Hp)(a:Addr):Prop:=(∃kvs,Rd H a (.dK kvs))∨∃kvs,Rd H a (.dT kvs)
theorem qB{X:Cx}{pins:List (Addr×Obj)}{σ:St}{H:Hp}{s:Shared}{a:Addr}(I:Inv X pins σ H s)(d:IsD H a):
  s.TypeIs (.ref a) "dict"∧(∀b,Value.ref a=.ref b→∃ob,s.heap.get? b=some ob∧ob.dict=none)∧(a==sysModules)=false:=by
 rcases d with⟨kvs,e⟩|⟨kvs,e⟩
 ·obtain⟨_,hd,vs,_,dd⟩:=iP I.hok e;refine⟨dd.typeIs,λb q=>?_,hd⟩;cases q;obtain⟨ob,_,_,h1,h2,_⟩:=dd;exact⟨ob,h1,h2.2.1⟩
 ·obtain⟨_,hd,xs,_,dd⟩:=iQ I.hok e;refine⟨dd.typeIs,λb q=>?_,hd⟩;cases q;obtain⟨ob,_,_,h1,h2,_⟩:=dd;exact⟨ob,h1,h2.2.1⟩
section
variable{X:Cx}{pins:List (Addr×Obj)}{σ:St}{H:Hp}{s:Shared}{a:Addr}{y d:V}{u r:Value}{o:Option V}{A:Around}{E:Value→Shared→Prop}
theorem vd{Q:Value→Shared→Prop}(hu:A.units+1<cLine)(I:Inv X pins σ H s)(g:cA H a y o)(ry:aN y u)(rd:aN d r)(h:∀w' s',Inv X pins σ H s'→aN (o.getD d) w'→Q w' s'):
  wpAny (model X.prog X.w) A (call (.builtin "dict.get") [.ref a,u,r]) Q E s:=by
 rcases g with⟨kvs,k,e,ey,l⟩|⟨kvs,k,b,e,ey,eb,l⟩
 ·subst ey;obtain⟨z,hd,vs,rel,dd⟩:=iP I.hok e;refine call_meetsIn slot_dict_get dd.typeIs PySem.F.entry_dict_get (PySem.F.args_dict_get_3 _ _ _) (meets_dict_get_default (aU X.prog X.w) a (fb ry) hd r) ⟨_,dd.mapOf,h _ _ (I.tok _) ?_⟩;rw[l];exact(rel.val k).getD rd
 ·subst ey;cases (show u=Value.ref b from ry);obtain⟨z,hd,xs,rel,dd⟩:=iQ I.hok e;refine call_meetsIn slot_dict_get dd.typeIs PySem.F.entry_dict_get (PySem.F.args_dict_get_3 _ _ _) (meetsH_dict_get_default (tupleKind (aU X.prog X.w)) a b hd r) ⟨tupleKind_room_in1 hu,k,xs,hZ I.hok eb,dd,h _ _ (I.tok _) ?_⟩;rw[l];exact(rel.val k).getD rd
end
def ve(td ty tx:TE):TE:=λσ H Q=>td σ H λx H1=>∃a,x=.ref a∧IsD H1 a∧ty σ H1 λy H2=>tx σ H2 λz H3=>∃o,cA H3 a y o∧Q (o.getD z) H3
def vf(td ty tx:TE):TE:=λσ H Q=>td σ H λx H1=>∃a,x=.ref a∧IsD H1 a∧ty σ H1 λy H2=>tx σ H2 λz H3=>∃kvs k,H3 a=some (.dK kvs)∧y=kV k ∧
 (∀v,aY kvs k=some v→Q v (upd H3 a (.dK (dc kvs k))))∧(aY kvs k=none→Q z H3)
section
variable{X:Cx}{o e f:Expr}{apos cpos:Pos}{td ty tx:TE}
theorem iT(hu:X.A.units+1<cLine)(ho:PE X o td)(he:PE X e ty)(hf:PE X f tx)(m:M2 X o "get" apos e f cpos):PE X (.Call (.Attribute o "get" apos) [e,f] [] cpos) (ve td ty tx):=by
 intro pins s σ H Q I h;refine wpAny_Call_method m.base m.few m.line plainAttrs_dict slot_dict_get PySem.F.type_dict_get (thn (ho pins s σ H _ I h) λu s1 hpt=>?_);obtain⟨x,H1,I1,rx,a,ex,d,q1⟩:=hpt;subst ex;obtain rfl:u=Value.ref a:=rx;obtain⟨t1,t2,_⟩:=qB I1 d;refine⟨t1,t2,?_⟩;rw[m.trees];refine callWith_builtin rfl (evalArgs_plain (spliced_cons (thn (he pins s1 σ H1 _ I1 q1) λiv s2 ⟨y,H2,I2,ry,q2⟩ =>
  spliced_cons (thn (hf pins s2 σ H2 _ I2 q2) λfv s3 ⟨z,H3,I3,rz,ov,g,q3⟩=>spliced_nil ?_))))
 exact vd hu I3 g ry rz λw' s4 I4 rw'=>⟨_,H3,I4,rw',q3⟩
theorem qC(ho:PE X o td)(he:PE X e ty)(hf:PE X f tx)(m:M2 X o "pop" apos e f cpos):PE X (.Call (.Attribute o "pop" apos) [e,f] [] cpos) (vf td ty tx):=by
 intro pins s σ H Q I h;refine wpAny_Call_method m.base m.few m.line plainAttrs_dict slot_dict_pop PySem.F.type_dict_pop (thn (ho pins s σ H _ I h) λu s1 hpt=>?_);obtain⟨x,H1,I1,rx,a,ex,d,q1⟩:=hpt;subst ex;obtain rfl:u=Value.ref a:=rx;obtain⟨t1,t2,_⟩:=qB I1 d;refine⟨t1,t2,?_⟩;rw[m.trees];refine callWith_builtin rfl (evalArgs_plain (spliced_cons (thn (he pins s1 σ H1 _ I1 q1) λiv s2 ⟨y,H2,I2,ry,q2⟩ =>
  spliced_cons (thn (hf pins s2 σ H2 _ I2 q2) λfv s3 ⟨z,H3,I3,rz,kvs,k,ea,ey,q3,q4⟩=>spliced_nil ?_))))
 subst ey;cases l:aY kvs k with
 |some v=>exact wJ I3 ea ry l (.inr ⟨fv,rfl⟩) λw' s4 I4 rw'=>⟨v,_,I4,rw',q3 v l⟩
 |none=>exact vb I3 ea ry l λs4 I4=>⟨z,H3,I4,rz,q4 l⟩
end
section
variable{X:Cx}{pins:List (Addr×Obj)}{σ:St}{H:Hp}{s:Shared}{a:Addr}{kvs:List (Key×V)}{A:Around}{E:Value→Shared→Prop}
end
section
variable{X:Cx}{pins:List (Addr×Obj)}{σ:St}{H:Hp}{s:Shared}{a:Addr}{y:V}{u:Value}{A:Around}{E:Value→Shared→Prop}
end
end L2
namespace Att
open PySem PySem.W PySem.Calls PyProof.Rows
theorem iy{P:Params}{h:Heap}:∀(ns:List Int)(vs:List Value),WellAll P h vs (ns.map WData.int)→IntsAre vs ns:=by
 intro ns
 induction ns with
 |nil =>
  intro vs w;rw[map_nil]at w;cases w;exact .nil
 |cons n ns ih =>
  intro vs w;rw[map_cons]at w;cases w with
  |cons a b =>
   cases a;exact .cons _ _ (ih _ b)
theorem pG{l:OpenLaw}{n:Nat}(hn:l.most=some n){P:Params}{h:Heap}{args:List WData}{vals:List Value}(hpre:l.row.toRowW.claim.pre args=true)(hwl:WellAll P h vals args):
  ∃a vs ns,vals=[Value.ref a]∧args=[WData.list (ns.map WData.int)]∧h.get? a=some {cls:=.type "list",data:=.seq vs.toArray}∧IntsAre vs ns∧ns.length≤n:=by
 have hsh:WShape.hasAll [] args [.list .int]=true:=(pre_splitW hpre).1;have hc:l.pre.holds [] {args:=args}=true:=(pre_splitW hpre).2;obtain⟨d,r,rfl,h1,h2⟩:=hasAllW_cons hsh;obtain rfl:=hasAllW_nil h2;obtain⟨xs,rfl,h3⟩:=hasW_list h1;obtain⟨ns,rfl⟩:=items_int h3;have hlen:ns.length≤n:=by
  unfold OpenLaw.pre at hc;have h4:(WTm.not (.lt (.lit (.int (n:Int))) (.len (.arg 0)))).holds [] {args:=[.list (ns.map .int)]}=true:=by
   have h4:=(holds_andW hc).1;rw[hn]at h4;exact h4
  have h5:=condW_of h4 (w_not (w_lt w_lit (w_len_list (w_arg rfl))));rw[length_map]at h5;refine Nat.le_of_not_lt λq=>?_;have q':(n:Int)<((ns.length:Nat):Int):=by omega
  first
   |(rw[decide_eq_true q']at h5;exact absurd h5 (by decide))
   |(simp at h5;omega)
 cases hwl with
 |cons w1 w2 =>
  cases w2;cases w1 with
  |list ho hall=>exact⟨_,_,ns,rfl,rfl,ho,iy ns _ hall,hlen⟩
theorem pH(l:OpenLaw)(args:List WData):l.row.toRowW.claim.post args (.bool true) args=true :=
 postW_of (r:=l.row.toRowW) (X:=(true==true))
  (show WShape.has [] (.bool true) .bool=true by first|rfl|decide|simp[WShape.has,WShape.arms,WShape.armsAll])
  (show(WTm.eq .res (.lit (.bool true))).value [] {args:=args,res:=some (.bool true),after:=args}=some (.bool (true==true))from w_eq_bool (w_res rfl) w_lit) rfl
theorem lm{l:OpenLaw}{n:Nat}{q:Program}{loose:List Str}{XP:(Str→Option Value)→Heap→Prop}{YP:World→Heap→Prop}{d:DefRec}(hn:l.most=some n)(hdf:d.params.defaults=[])(call:∀(w:World) (s₀ s₁:Shared) (mg mb:Str→Option Value) (fa:Addr) (o:Obj) (pm cd doc:Value) (a:Addr) (vs:List Value) (ns:List Int),
   Ground q loose [] XP w s₀ mg mb s₁.heap→YP w s₁.heap →
   s₁.heap.get? fa=some o→o.data=.func (docDef d.name d.params d.body d.scope pm cd doc)→s₁.heap.CodeRec cd d.name→mg d.name=some (.ref fa) →
   s₁.heap.get? a=some {cls:=.type "list",data:=.seq vs.toArray}→IntsAre vs ns→ns.length≤n→s₁.gens=#[] →
   codeAny (model l.prog w) callerA (.call (.ref fa) ⟨[.ref a],[]⟩) (λr s'=>r=.ok (.ret (.bool true))∧OldK s₁.heap s'.heap∧s'.os=s₁.os∧AllBare s'.gens) s₁):
  WalkO q loose XP YP l.row.toRowW d [] (λf vs=>PySem.call f vs):=by
 intro w s₀ s₁ mg mb G Y fa o pm cd doc dV kV ho hd hcd hD hmg hg args vals as hpre hlay hrd hwl hlo;obtain rfl:dV=.none:=Dflts.none hD hdf;obtain rfl:kV=.none:=Dflts.noKw hD;obtain⟨a,vs,ns,rfl,rfl,hobj,hints,hlen⟩:=pG hn hpre hwl;refine enter_call (codeAny_mono (call w s₀ s₁ mg mb fa o pm cd doc a vs ns G Y ho (fd_plain hd) hcd hmg hobj hints hlen hg) λr s' hq=>?_);obtain⟨rfl,h2,h3,h4⟩:=hq;exact⟨.inl ⟨.bool true,.bool true,[],rfl,λ_=>rfl,.bool true,pH l _,λ_=>⟨List.Pairwise.nil,λ_ hm=>(nomatch hm)⟩⟩,h2,h3,h4⟩
section
variable{prog:Program}{w:World}{A:Around}{E:Value→Shared→Prop}{s:Shared}{K:Frag}
end
end Att
namespace L2
open PySem PySem.Spec PyProof.Rows
theorem jD:∀{vs:List Value}{ns:List Int},IntsAre vs ns→aL (ns.map V.int) vs
 |_,_,.nil=>.nil
 |_,_,.cons n t h=>.cons ⟨t,rfl⟩ (jD h)
def vg(H:Hp):Prop:=∀b,H b=none∨∃o xs,H b=some (.frz o (.lst xs))
theorem qD{P:Program}{w:World}{K:PySem.W.Frag}{mg mb:Str→Option Value}{CX:CXT}{k:Nat}{fa a:Addr}{fd:FuncData}{x:Str}{sp:Sp}{s₁:Shared}{vs:List Value}{ns:List Int}(KX:K.In s₁.heap)(hns:s₁.heap.Ns mainGlobals mg)(hb:s₁.heap.Ns builtinsNs mb)(hbb:∀x:Str,x≠"__name__"→mb x=bootBuiltins x)(hlim:s₁.heap.NoLimit)(hg:s₁.gens=#[])(ha:s₁.heap.get? a=some {cls:=.type "list",data:=.seq vs.toArray})(hi:IntsAre vs ns)(hl:ns.length≤sizeLine)(hr:Room k callerA)(F:∀base:Heap,K.In base→base.Ns mainGlobals mg→FnOk P w K mg base CX k fa fd [x] sp)(hbind:∀(s:Shared) (u:Value),BindsTo s fd ⟨[u],[]⟩ [(x,u)])(hsp:∀H:Hp,vg H→SqL K H a (ns.map V.int)→sp [.ref a] H (λv _=>v=.bl true) λ_ _ _=>False)(hCX:∀H e s',CX [] H s₁ (λ_ _ _=>False) e s'→False):
  codeAny (model P w) callerA (.call (.ref fa) ⟨[.ref a],[]⟩) (λr s'=>r=.ok (.ret (.bool true))∧OldK s₁.heap s'.heap∧s'.os=s₁.os∧AllBare s'.gens) s₁:=by
 have rv:=jD hi;have lenV:=hi.length;have core:∀H:Hp,vg H→SqL K H a (ns.map V.int)→HOk P w H s₁.heap→(∀b,H b≠none→b=a)→(H a≠none→K.lookup a=none) →
   codeAny (model P w) callerA (.call (.ref fa) ⟨[.ref a],[]⟩) (λr s'=>r=.ok (.ret (.bool true))∧OldK s₁.heap s'.heap∧s'.os=s₁.os∧AllBare s'.gens) s₁:=by
  intro H hO hS hok hA hK;have base_of:∀{b:Addr}{o:Obj},s₁.heap.get? b=some o→H b=none→(jY s₁.heap H).get? b=some o:=λe n=>qi e n;have noA:∀{b:Addr}{o:Obj}{es:Array DictEntry}{ep:Nat},s₁.heap.get? b=some o→o.data=.dict es ep→H b=none:=λ{b o es ep} e d=>by
   cases q:H b with
   |none=>rfl
   |some u =>
    have e':b=a:=hA b (by rw[q];simp);subst e';rw[ha]at e;cases e;have d':Data.seq vs.toArray _=Data.dict es ep:=d;cases d'
  have nsK:∀{b:Addr}{m:Str→Option Value},s₁.heap.Ns b m→(jY s₁.heap H).Ns b m:=λ{b m} ⟨o,es,ep,e,d,r⟩=>⟨o,es,ep,base_of e (noA e d),d,r⟩;have hKb:K.In (jY s₁.heap H):=λb o e=>base_of (KX b o e) (by
   cases q:H b with
   |none=>rfl
   |some u =>
    have e':b=a:=hA b (by rw[q];simp);subst e';rw[hK (by rw[q];simp)]at e;cases e)
  have hM:Mod K mg (jY s₁.heap H):=⟨hKb,nsK hns,⟨mb,nsK hb,hbb⟩,let⟨mc,h1,h2⟩:=hlim;⟨mc,nsK h1,h2⟩⟩;have e0:Env0 P w K mg (jY s₁.heap H) callerA [] s₁ H:=⟨rfl,hM,λb o e=>sj e,le_of_eq (pw _ _),trivial,λb hb=>absurd (show b∈([]:List Addr)from hb) (by simp),hok,.of_eq hg⟩;refine codeAny_mono ((F _ hKb (nsK hns)).run callerA [] s₁ H ⟨[.ref a],[]⟩ [.ref a] [.ref a] _ _ hr e0 (hbind s₁ (.ref a)) (.cons rfl .nil) (hsp H hO hS)) λr s' h=>?_;cases r with
  |error e=>exact(hCX H e s' h).elim
  |ok fl =>
   cases fl with
   |next=>exact False.elim h
   |brk=>exact False.elim h
   |cont=>exact False.elim h
   |ret u =>
    obtain⟨v,H',os,bare,un,hok',r',q⟩:=h;have q':v=.bl true:=q;subst q';obtain rfl:u=Value.bool true:=r';refine⟨rfl,OldK.of_keep λb o e=>?_,os,bare⟩;cases q:H b with
    |none=>exact un.keep b o e q (by intro z;exact absurd (show b∈([]:List Addr)from z) (by simp)) (by simp)
    |some u =>
     rcases hO b with z|⟨ob,xs,z⟩
     ·rw[q]at z;cases z
     ·have z2:=un.frzs b ob _ z;obtain⟨e1,_⟩:=hok b _ z;obtain⟨e2,_⟩:=hok' b _ z2;rw[e]at e1;cases e1;exact e2
 cases hk:K.lookup a with
 |some o =>
  have e:=KX a o hk;rw[ha]at e;cases e;refine core (λ_=>none) (λ_=>.inl rfl) (.inr ⟨_,vs.toArray,_,hk,rfl,rfl,rfl,by rw[size_toArray,lenV];exact hl,by simpa using rv⟩) (λb u z=>by have z':(none:Option HO)=some u:=z;cases z') (λb z=>absurd rfl z) λz=>absurd rfl z
 |none =>
  refine core (λb=>if b=a then some (.frz {cls:=.type "list",data:=.seq vs.toArray} (.lst (ns.map V.int)))else none) (λb=>?_) (.inl (.inr ⟨{cls:=.type "list",data:=.seq vs.toArray},if_pos rfl⟩)) (λb u z=>?_) (λb z=>?_) λ_=>hk
  ·by_cases hb:b=a
   ·exact .inr ⟨_,_,if_pos hb⟩
   ·exact .inl (if_neg hb)
  ·by_cases hb:b=a
   ·have z':=(if_pos hb).symm.trans z;cases z';subst hb;exact⟨ha,by rw[length_map];exact hl,vs,_,rv,ha⟩
   ·have z':=(if_neg hb).symm.trans z;cases z'
  ·by_cases hb:b=a
   ·exact hb
   ·exact absurd (if_neg hb) z
theorem sD{l:PySem.W.OpenLaw}{n k:Nat}{q:Program}{loose:List Str}{XP:(Str→Option Value)→Heap→Prop}{YP:World→Heap→Prop}{d:DefRec}{K:Params→PySem.W.Frag}{CX:World→CXT}{sp:World→Sp}{x:Str}(hn:l.most=some n)(hn2:n≤sizeLine)(hdf:d.params.defaults=[])(hr:Room k callerA)(hY:∀(w:World) (h:Heap),YP w h→(K w.params).In h)(F:∀(w:World) (mg:Str→Option Value) (fa:Addr) (h:Heap),(K w.params).In h→h.Ns mainGlobals mg→mg d.name=some (.ref fa) →
   ∃fd:FuncData,(∀(s:Shared) (u:Value),BindsTo s fd ⟨[u],[]⟩ [(x,u)]) ∧
    ∀base:Heap,(K w.params).In base→base.Ns mainGlobals mg→FnOk l.prog w (K w.params) mg base (CX w) k fa fd [x] (sp w))(hsp:∀(w:World) (H:Hp) (a:Addr) (ns:List Int),ns.length≤n→vg H→SqL (K w.params) H a (ns.map V.int)→sp w [.ref a] H (λv _=>v=.bl true) λ_ _ _=>False)(hCX:∀(w:World) (H:Hp) (s:Shared) (e:Value) (s':Shared),CX w [] H s (λ_ _ _=>False) e s'→False):
  PySem.W.WalkO q loose XP YP l.row.toRowW d [] (λf vs=>PySem.call f vs):=by
 refine Att.lm hn hdf λw s₀ s₁ mg mb fa o pm cd doc a vs ns G Y ho hd hcd hmg hobj hints hlen hg=>?_;have KX:=hY w _ Y;obtain⟨fd,hb,hF⟩:=F w mg fa _ KX G.T.g hmg;exact qD KX G.T.g G.T.b G.T.builtins G.T.nolimit hg hobj hints (le_trans hlen hn2) hr hF hb (λH hO hS=>hsp w H a ns hlen hO hS) λH e s'=>hCX w H s₁ e s'
def dh(s:Stmt):Arguments:=match s with
 |.FunctionDef _ a _ _ _ _ _ _ _ _=>a
 |_=>{posonlyargs:=[],args:=[],vararg:=none,kwonlyargs:=[],kw_defaults:=[],kwarg:=none,defaults:=[]}
def bH(s:Stmt):List Stmt:=match s with
 |.FunctionDef _ _ b _ _ _ _ _ _ _=>b
 |_=>[]
def ai(s:Stmt):Scope:=match s with
 |.FunctionDef _ _ _ _ _ _ sc _ _ _=>sc
 |_=>{kind:=.function,names:=[],isGenerator:=false,isCoroutine:=false}
abbrev CX0:CXT:=λ_ _ _ _ _ _=>False
abbrev E0:XK:=λ_ _ _=>False
theorem aK{X:Cx}:hJ CX0 X E0:=λ_ _ _ _ _ _ _ h=>h.elim
structure Fun(K:PySem.W.Frag)(x qual:Str)(st:Stmt)(f:Addr)(fd:FuncData):Prop where
 ex:∃(oc:Value) (od:Option Addr) (kV doc pm:Value) (an:Option Addr) (cdv ct:Value) (osl:Array (Option Value)),
  fd=fnOf x qual (dh st) (bH st) (ai st) .none kV doc pm an cdv ct∧K.lookup f=some ⟨oc,od,.func fd,osl⟩∧codeIn K cdv qual=true
 kp:keepIn K (.ref f)=true
section
variable{P:Program}{w:World}{K:PySem.W.Frag}{mg:Str→Option Value}{base:Heap}
theorem Fun.ok{x qual:Str}{st:Stmt}{f:Addr}{fd:FuncData}{N ps:List Str}{k:Nat}{sp:Sp}(F:Fun K x qual st f fd)(S:FnScope N ps (ai st))(len:∀vs H Q E,sp vs H Q E→vs.length=ps.length)(hbody:∀(cdv:Value) (A:Around) (outer:List Env) (s:Shared) (H:Hp) (vs:List V) (Q:VK) (E:XK),Room k (A.deeper (envOfC qual (ai st) s.heap.objs.size f cdv))→sp vs H Q E →
   ∃t,PSs (hU CX0 P w K mg base N qual (ai st) f cdv A outer s H E).nox (bH st) t∧t {nx:=λ_ H'=>Q .non H',rt:=Q} (start N vs) H):FnOk P w K mg base CX0 (k+1) f fd ps sp:=by
 obtain⟨oc,od,kV,doc,pm,an,cdv,ct,osl,rfl,lk,hcd⟩:=F.ex;refine uk lk hcd S len λA outer s H vs Q E hr hsp=>?_;obtain⟨t,h,q⟩:=hbody cdv A outer s H vs Q E hr hsp;exact⟨t,h.nox,q⟩
theorem Fun.binds{x qual:Str}{st:Stmt}{f:Addr}{fd:FuncData}{ps:List Str}(F:Fun K x qual st f fd)(h:∀(kV doc pm:Value) (an:Option Addr) (cdv ct:Value) (us:List Value),us.length=ps.length→bindArgs (fnOf x qual (dh st) (bH st) (ai st) .none kV doc pm an cdv ct) ⟨us,[]⟩=pure (ps.zip us)):dI K fd ps []:=by
 obtain⟨oc,od,kV,doc,pm,an,cdv,ct,osl,rfl,lk,hcd⟩:=F.ex;exact .all (h kV doc pm an cdv ct)
theorem vh{x qual:Str}{st:Stmt}{f:Addr}{oc:Value}{od an:Option Addr}{osl:Array (Option Value)}{kV doc pm cdv ct:Value}(l:K.lookup f=some ⟨oc,od,.func (fnOf x qual (dh st) (bH st) (ai st) .none kV doc pm an cdv ct),osl⟩)(c:codeIn K cdv qual=true)(k:keepIn K (.ref f)=true):Fun K x qual st f (fnOf x qual (dh st) (bH st) (ai st) .none kV doc pm an cdv ct):=⟨⟨oc,od,kV,doc,pm,an,cdv,ct,osl,rfl,l,c⟩,k⟩
end
theorem aI{A:Around}{k:Nat}(hr:Room k A):A.units+1<cLine:=lt_of_le_of_lt (Nat.add_le_add_left (by decide:1≤64) _) hr.units
theorem aC{n:Nat}(h:n≤1000):n<sizeLine:=lt_of_le_of_lt h (by decide)
section
variable{X:Cx}
theorem pv(i:Nat){x:Str}{pos:Pos}(hN:X.N[i]?=some x:=by rfl)(hv:Vis X.env.scope x:=by first|exact Or.inl rfl|exact Or.inr (Or.inl rfl)|exact Or.inr (Or.inr rfl))(hd:(x==("__debug__":Str))=false:=by decide)(hcd:(x==("__classdict__":Str))=false:=by decide):PE X (.Name x pos) (eT i):=uI hN hv hd hcd
end
theorem aD{A B:Prop}(h:B):if false=true then A else B:=by
 rw[if_neg Bool.false_ne_true];exact h
theorem aQ{A B:Prop}(h:A):if true=true then A else B:=by
 rw[if_pos rfl];exact h
theorem na{c A B:Prop}[Decidable c](h1:c→A)(h2:¬c→B):if c then A else B:=by
 by_cases h:c
 ·rw[if_pos h];exact h1 h
 ·rw[if_neg h];exact h2 h
def Same(H H':Hp):Prop:=∀b o,H b=some o→H' b=some o
theorem Same.refl(H:Hp):Same H H:=λ_ _ h=>h
theorem Same.trans{H H1 H2:Hp}(a:Same H H1)(b:Same H1 H2):Same H H2:=λc o h=>b c o (a c o h)
theorem Same.free{H H':Hp}(e:Same H H'){l:Addr}(h:H' l=Option.none):H l=Option.none:=by
 cases q:H l with
 |none=>rfl
 |some o =>
  rw[e l o q]at h;cases h
theorem Same.seq{K:PySem.W.Frag}{H H':Hp}{a:Addr}{xs:List V}(e:Same H H')(h:SqL K H a xs):SqL K H' a xs:=by
 rcases h with (h|⟨o,h⟩)|h
 ·exact .inl (.inl (e _ _ h))
 ·exact .inl (.inr ⟨o,e _ _ h⟩)
 ·exact .inr h
section
variable{κ:Type}[DecidableEq κ]
theorem pI{p:κ×V}{r:List (κ×V)}{k:κ}(e:p.1=k):dc (p::r) k=dc r k:=by
 unfold dc;rw[filter_cons,if_neg (by simp[e])]
theorem pJ{p:κ×V}{r:List (κ×V)}{k:κ}(e:¬p.1=k):dc (p::r) k=p::dc r k:=by
 unfold dc;rw[filter_cons,if_pos (by simp[e])]
end
structure LcOk(X:Cx)(scope:Scope)(cl:List (Str×Addr)):Prop where
 kind:scope.kind=.function
 clos:closureFor scope X.env=pure cl
 names:∀x∈scope.names,x.2=.local→scope.names.lookup x.1=some .local
 nocell:∀x∈scope.names,x.2≠.cell
 cells:∀x c,cl.lookup x=some c→X.env.cells.lookup x=some c
 has:∀x,((relabel scope X.env).names.lookup x=some .cell∨(relabel scope X.env).names.lookup x=some .free)→∃c,cl.lookup x=some c
abbrev cq(X:Cx)(N:List Str)(scope:Scope)(cl:List (Str×Addr))(s:Shared)(H:Hp)(ex:List Addr):Cx :=
 {X with N:=N,s₀:=s,H₀:=H,env:=compEnvC scope cl s.heap.objs.size X.env,outer:=X.stack,stack:=X.stack,ex:=ex,fn:=λ_=>false,pn:=[],xe:=λ_ _=>False}
section
variable{X:Cx}{pins:List (Addr×Obj)}{σ:St}{H:Hp}{s:Shared}{N:List Str}{scope:Scope}{cl:List (Str×Addr)}{fp:List Addr}
theorem ln(I:Inv X pins σ H s)(L:LcOk X scope cl)(hf:∀b∈fp,eU X pins H b)(ho:∀b∈fp,b<s.heap.objs.size):(cq X N scope cl s H fp).Ok where
 mod:=I.ok.mod
 kind:=L.kind
 glob:=I.ok.glob
 blt:=I.ok.blt
 above:=le_refl _
 inj:=λx y c h1 h2=>I.ok.inj x y c (L.cells x c h1) (L.cells y c h2)
 has:=λx hx=>L.has x hx
 cab:=λx c h _=>absurd h (by simp)
 hd:=I.ok.hd
 frames:=I.ok.frames
 stk:=.inl rfl
 exf:=λb hb=>⟨ne_of_lt (ho b hb),λx c h=>(hf b hb).2.2.2.2.1 x c (L.cells x c h)⟩
 bs:=I.bs
 bsz:=le_trans I.ok.bsz I.sz
 noex:=λb o e hb=>by
  rcases (hf b hb).2.2.2.1 with z|z
  ·exact I.ok.noex b o e z
  ·exact absurd (lt_of_lt_of_le (lt_size e) (le_trans I.ok.bsz z)) (lt_irrefl _)
 exfs:=λb hb hs=>by
  rcases mem_cons.mp (I.stkSub b hs)with z|z
  ·exact(hf b hb).2.1 z
  ·exact(hf b hb).2.2.1 z
 funs:=I.stack
 frf:=I.stkFree
def di(k:Nat)(js:List Nat)(σ:St):St:=List.replicate k none++js.map λj=>(σ[j]?).getD none
theorem gB{h₁:Heap}{tk:Nat}{k:Nat}{js:List Nat}(I:Inv X pins σ H s)(L:LcOk X scope cl)(hf:∀b∈fp,eU X pins H b)(ho:∀b∈fp,b<s.heap.objs.size)(hns:∃m,h₁.Ns s.heap.objs.size m)(hk:∀b o,s.heap.get? b=some o→h₁.get? b=some o)(hN:N.length=k+js.length)(hj:∀(i j:Nat) x,js[i]?=some j→N[k+i]?=some x→X.N[j]?=some x∧Vis X.env.scope x∧X.env.scope.names.lookup x≠some .local∧((relabel scope X.env).names.lookup x=some .cell∨(relabel scope X.env).names.lookup x=some .free)):
  Inv (cq X N scope cl s H fp) [] (di k js σ) H {s with heap:=h₁,toks:=tk}:=by
 obtain⟨m,hm⟩:=hns;have cellK:∀c v,s.heap.IsCell c v→h₁.IsCell c v:=λc v ⟨o,e,d⟩=>⟨o,hk c o e,d⟩;refine⟨ln I L hf ho,rfl,I.bare,Un.kept hk,⟨m,hm,λi x v e1 e2 e3=>?_⟩,λx c e=>?_,I.hok.fresh (le_refl _),λx c e=>I.freeC x c (L.cells x c e),λp hp=>absurd (show p∈([]:List (Addr×Obj))from hp) (by simp),I.hok.kept hk,?_⟩
 ·unfold di at e2
  by_cases hi:i<k
  ·rw[List.getElem?_append_left (by simpa using hi),List.getElem?_replicate]at e2
   split at e2<;>cases e2
  ·obtain⟨i',rfl⟩:∃i',i=k+i':=⟨i-k,by omega⟩;rw[List.getElem?_append_right (by simp),List.length_replicate,Nat.add_sub_cancel_left,getElem?_map]at e2;cases ej:js[i']? with
   |none=>rw[ej]at e2;cases e2
   |some j =>
    rw[ej]at e2;have e2':(σ[j]?).getD none=some v:=Option.some.inj e2;obtain⟨h1,h2,h3,h4⟩:=hj i' j x ej e1;have e4:σ[j]?=some (some v):=by
     cases q:σ[j]? with
     |none=>rw[q]at e2';cases e2'
     |some y=>rw[q]at e2';exact congrArg some e2'
    obtain⟨m0,_,hl⟩:=I.loc;obtain⟨u,r,lk⟩:=hl j x v h1 e4 h2;refine⟨u,r,.inr ⟨h4,?_⟩⟩;rcases lk with⟨q,_⟩|⟨_,c,e5,e6⟩
    ·exact absurd q h3
    ·obtain⟨c',e7⟩:=L.has x h4;have:c'=c:=Option.some.inj ((L.cells x c' e7).symm.trans e5);subst this;exact⟨c',e7,cellK c' _ e6⟩
 ·obtain⟨v,e1⟩:=I.cell x c (L.cells x c e);exact⟨v,cellK c v e1⟩
 ·unfold di;rw[length_append,List.length_replicate,length_map];exact hN.symm
theorem kj{H':Hp}{σ':St}{s':Shared}{h':Heap}(I:Inv X pins σ H s)(hf:∀b∈fp,eU X pins H b)(J:Inv (cq X N scope cl s H fp) [] σ' H' s')(hs:SameBut s.heap.objs.size s'.heap h'):Inv X pins σ H' {s' with heap:=h'}:=by
 have ne:∀b o,s.heap.get? b=some o→b≠s.heap.objs.size:=λb o e=>ne_of_lt (lt_size e);have u:=J.base;have u':Un (frs X.stack) fp H H' s.heap h' :=
  ⟨λb o e n hb hx=>(hs.2 b (ne b o e)).trans (u.keep b o e n hb hx),λb o e n hb hx=>by
   obtain⟨sl,q⟩:=u.slot b o e n hb hx;exact⟨sl,(hs.2 b (ne b o e)).trans q⟩,u.free,λb o e hx=>by
   obtain⟨o',q⟩:=u.there b o e hx;exact⟨o',(hs.2 b (ne b o e)).trans q⟩,u.tups,u.frzs,u.tbls⟩
 have nt:∀b o,H' b=some o→b≠s.heap.objs.size:=λb o e z=>by
  have:=J.free;rw[show(cq X N scope cl s H fp).env.locals=s.heap.objs.size from rfl,←z,e]at this;cases this
 refine I.call' (s':={s' with heap:=h'}) J.os u' (λb o e=>?_) J.bare λb hb=>?_
 ·refine(J.hok b o e).stay (λc v hc q=>(hs.2 c ?_).trans q) (λ_ q=>q) λ_ _ q=>q;rcases hc with z|z
  ·rw[z];exact nt b o e
  ·exact nt c _ z
 ·obtain⟨f0,f1,f2,f3,f4,f5⟩:=hf b hb;exact⟨f3,f1,f4,f5⟩
end
section
variable{prog:Program}{w:World}{A:Around}{R:Result→Shared→Prop}{s:Shared}
theorem ow{elt target iter:Expr}{scope:Scope}{pos:Pos}{it acc:Value}{env:Env}(I:Nat→Shared→Prop)(turn:∀n s,I n s→wpAny (model prog w) A (pyNext it) (λr s₁=>match r with
   |none=>R (.ok .next) s₁
   | some v=>wpAny (model prog w) A (letOwnedTupleGo target it v) (λ_ s₂=>wpAny (model prog w) A (assign target env v) (λ_ s₃=>wpAny (model prog w) A (eval elt env) (λx s₄ =>
     wpAny (model prog w) A (call (.builtin "list.append") [acc,x]) (λ_ s₅=>∃m,m<n∧I m s₅) (λ_ _=>False) s₄) (λ_ _=>False) s₃) (λ_ _=>False) s₂) (λ_ _=>False) s₁) (λ_ _=>False) s)(n:Nat)(h:I n s):codeAny (model prog w) A (.compLoop (.ListComp elt [⟨target,iter,[],0⟩] scope pos) 0 it acc env) R s:=by
 refine codeAny_loop rfl I (λn s hI=>?_) n h;show wpAny _ _ ((compTurn (.ListComp elt [⟨target,iter,[],0⟩] scope pos) 0 it acc env).onRaise (λx=>do noteFrame x env;theTreesLotGoes x)) _ _ s;refine wpAny_noted ?_;rw[compTurn_list1];refine wpAny_bind (wpAny_standAt (wpAny_bind (wpAny_mono (turn n s hI) (λr s₁ h₁=>?_) λ_ _ h'=>h'.elim)));cases r with
 |none=>exact wpAny_pure h₁
 |some v =>
  refine wpAny_bind (wpAny_mono h₁ (λ_ s₂ h₂=>?_) λ_ _ h'=>h'.elim);exact wpAny_bind (wpAny_mono h₂ (λ_ s₂ h₂=>wpAny_bind (wpAny_bind (wpAny_mono h₂ (λx s₃ h₃=>wpAny_bind (wpAny_mono h₃
   (λ_ s₄ h₄=>wpAny_pure (wpAny_pure ⟨rfl,h₄⟩)) λ_ _ h'=>h'.elim)) λ_ _ h'=>h'.elim))) λ_ _ h'=>h'.elim)
theorem iU(elt target iter c:Expr)(scope:Scope)(pos:Pos)(it acc:Value)(env:Env):
  compTurn (.ListComp elt [⟨target,iter,[c],0⟩] scope pos) 0 it acc env=(standAt iter.pos >>= λ_=>pyNext it >>= λr=>match r with
   |none=>pure (.done .next)
   |some v=>letOwnedTupleGo target it v >>= λ_=>assign target env v >>= λ_ =>
    (forIn [c] true λc r=>if r=true then do let ok ← isTrue c env (eval c env);pure (ForInStep.yield ok)else pure (ForInStep.yield r)) >>= λok =>
    if ok=true then (eval elt env >>= λx=>call (.builtin "list.append") [acc,x] >>= λ_=>pure ()) >>= λ_ =>
     again (.compLoop (.ListComp elt [⟨target,iter,[c],0⟩] scope pos) 0 it acc env)
    else again (.compLoop (.ListComp elt [⟨target,iter,[c],0⟩] scope pos) 0 it acc env)):=by rfl
theorem lp{elt target iter c:Expr}{scope:Scope}{pos:Pos}{it acc:Value}{env:Env}(I:Nat→Shared→Prop)(turn:∀n s,I n s→wpAny (model prog w) A (pyNext it) (λr s₁=>match r with
   |none=>R (.ok .next) s₁
   | some v=>wpAny (model prog w) A (letOwnedTupleGo target it v) (λ_ s₂=>wpAny (model prog w) A (assign target env v) (λ_ s₃=>wpAny (model prog w) A (isTrue c env (eval c env)) (λok s₃ =>
     if ok=true then wpAny (model prog w) A (eval elt env) (λx s₄ =>
      wpAny (model prog w) A (call (.builtin "list.append") [acc,x]) (λ_ s₅=>∃m,m<n∧I m s₅) (λ_ _=>False) s₄) (λ_ _=>False) s₃
     else ∃m,m<n∧I m s₃) (λ_ _=>False) s₃) (λ_ _=>False) s₂) (λ_ _=>False) s₁) (λ_ _=>False) s)(n:Nat)(h:I n s):codeAny (model prog w) A (.compLoop (.ListComp elt [⟨target,iter,[c],0⟩] scope pos) 0 it acc env) R s:=by
 refine codeAny_loop rfl I (λn s hI=>?_) n h;show wpAny _ _ ((compTurn (.ListComp elt [⟨target,iter,[c],0⟩] scope pos) 0 it acc env).onRaise (λx=>do noteFrame x env;theTreesLotGoes x)) _ _ s;refine wpAny_noted ?_;rw[iU];refine wpAny_bind (wpAny_standAt (wpAny_bind (wpAny_mono (turn n s hI) (λr s₁ h₁=>?_) λ_ _ h'=>h'.elim)));cases r with
 |none=>exact wpAny_pure h₁
 |some v =>
  refine wpAny_bind (wpAny_mono h₁ (λ_ s₂ h₂=>?_) λ_ _ h'=>h'.elim);refine wpAny_bind (wpAny_mono h₂ (λ_ s₃ h₃=>?_) λ_ _ h'=>h'.elim);rw[List.forIn_cons];simp only[if_true];refine wpAny_bind (wpAny_bind (wpAny_bind (wpAny_mono h₃ (λok s₄ h₄=>wpAny_pure ?_) λ_ _ h'=>h'.elim)));simp only[List.forIn_nil];refine wpAny_pure ?_;cases ok with
  |true =>
   rw[if_pos rfl]at h₄⊢;exact wpAny_bind (wpAny_bind (wpAny_mono h₄ (λx s₃ h₃=>wpAny_bind (wpAny_mono h₃ (λ_ s₄ h₄=>wpAny_pure (wpAny_pure ⟨rfl,h₄⟩)) λ_ _ h'=>h'.elim)) λ_ _ h'=>h'.elim))
  |false =>
   rw[if_neg (by simp)]at h₄⊢;exact wpAny_pure ⟨rfl,h₄⟩
end
def LcW(k:Nat)(js:List Nat)(g:TG)(te:TE)(σ:St)(Q:VK)(J:It)(H1:Hp)(p:Addr):Prop:=∃W:Nat→Nat→List V→St→Hp→Prop,
 (∃m,W 0 m [] (di k js σ) (upd H1 p (.lst [])))∧∀i m ys σ' H',W i m ys σ' H'→(J.stop i H'∧Q (.ref p) H') ∨
  (J.go i H'∧ys.length<sizeLine∧∀x H2,J.yld i H' x H2→g x σ' H2 λσ2 H3=>te σ2 H3 λy H4=>H4 p=some (.lst ys)∧∃m',m'<m∧W (i+1) m' (ys++[y]) σ2 (upd H4 p (.lst (ys++[y]))))
def tLc(k:Nat)(js:List Nat)(wi:TI)(g:TG)(te:TE):TE:=λσ H Q=>wi σ H λJ H1=>∀p,H1 p=none→LcW k js g te σ Q J H1 p
def wN(k:Nat)(js:List Nat)(g:TG)(tc:TT)(te:TE)(σ:St)(Q:VK)(J:It)(H1:Hp)(p:Addr):Prop:=∃W:Nat→Nat→List V→St→Hp→Prop,
 (∃m,W 0 m [] (di k js σ) (upd H1 p (.lst [])))∧∀i m ys σ' H',W i m ys σ' H'→(J.stop i H'∧Q (.ref p) H') ∨
  (J.go i H'∧ys.length<sizeLine∧∀x H2,J.yld i H' x H2→g x σ' H2 λσ2 H3=>tc σ2 H3 λb H4=>if b=true then te σ2 H4 λy H5=>H5 p=some (.lst ys)∧∃m',m'<m∧W (i+1) m' (ys++[y]) σ2 (upd H5 p (.lst (ys++[y])))
   else ∃m',m'<m∧W (i+1) m' ys σ2 H4)
def wO(k:Nat)(js:List Nat)(wi:TI)(g:TG)(tc:TT)(te:TE):TE:=λσ H Q=>wi σ H λJ H1=>∀p,H1 p=none→wN k js g tc te σ Q J H1 p
section
variable{X:Cx}{N:List Str}{scope:Scope}{cl:List (Str×Addr)}{k:Nat}{js:List Nat}
theorem fT{elt tg iter:Expr}{pos:Pos}{wi:TI}{g:TG}{te:TE}(hc:X.calm=true)(L:LcOk X scope cl)(hN:N.length=k+js.length)(hj:∀(i j:Nat) x,js[i]?=some j→N[k+i]?=some x→X.N[j]?=some x∧Vis X.env.scope x∧X.env.scope.names.lookup x≠some .local∧((relabel scope X.env).names.lookup x=some .cell∨(relabel scope X.env).names.lookup x=some .free))(hi:PI X tg iter wi)(hg:∀s H fp,PG (cq X N scope cl s H fp) tg g)(he:∀s H fp,PE (cq X N scope cl s H fp) elt te)(hs:∀x,foldedSetIterable iter X.env x=pure x:=by intro _;rfl):PE X (.ListComp elt [⟨tg,iter,[],0⟩] scope pos) (tLc k js wi g te):=by
 intro pins s σ H Q I h;rw[eval_ListComp];refine wpAny_comprehension_free (use:=none) rfl hs L.clos L.kind L.names ?_;refine thn (hi pins s σ H _ I h) λv s1 h1=>thn h1 λitv s2 h2=>?_;obtain⟨it,fp,tn,J,H2,e,I2,T,st2,f2,hW⟩:=h2;subst e;have hfp:∀b∈fp,b<s2.heap.objs.size:=λb hb=>by
  obtain⟨o,e,_⟩:=T.obj _ _ st2 b hb;exact lt_size e
 refine wpAny_newObj_type (wpAny_newFunctionEnv L.nocell (by intro y hy;simp at hy) (λh₁ hns hsb=>?_) L.kind);dsimp only at hns hsb⊢;obtain⟨W,⟨m0,w0⟩,turn⟩:=hW s2.heap.objs.size (I2.hok.fresh (le_refl _));have I3:Inv X pins σ (upd H2 s2.heap.objs.size (.lst [])) {s2 with heap:=s2.heap.push {cls:=.type "list",dict:=none,data:=.seq ([]:List Value).toArray}}:=I2.lnew (t':=s2.toks) .nil (zero_le _)
 generalize hA:s2.heap.push {cls:=.type "list",dict:=none,data:=.seq ([]:List Value).toArray}=hpA at hns hsb I3⊢;have hszA:hpA.objs.size=s2.heap.objs.size+1:=by rw[←hA,size_push]
 have keepA:∀b o,s2.heap.get? b=some o→hpA.get? b=some o:=λb o e=>by rw[←hA];exact get?_push_of_some _ e
 have f3:∀b∈fp,eU X pins (upd H2 s2.heap.objs.size (.lst [])) b:=λb hb=>⟨by rw[ak (ne_of_lt (hfp b hb))];exact(f2 b hb).1,(f2 b hb).2⟩;have hfp3:∀b∈fp,b<hpA.objs.size:=λb hb=>by rw[hszA];exact lt_succ_of_lt (hfp b hb)
 have keep1:∀b o,hpA.get? b=some o→h₁.get? b=some o:=λb o e=>hsb.extBut b o (ne_of_lt (lt_size e)) (get?_push_of_some _ e);have J0:=gB (N:=N) (k:=k) (js:=js) (tk:=s2.toks+([]:List (Str×Value)).length) I3 L f3 hfp3 ⟨_,hns⟩ keep1 hN hj;have st1:tn 0 h₁:=T.keep _ _ _ st2 λb hb o e=>keep1 b o (keepA b o e);have stat:∀{H':Hp},(∀b∈fp,H' b=none)→∀b∈fp,eU (cq X N scope cl {s2 with heap:=hpA} (upd H2 s2.heap.objs.size (.lst [])) fp) [] H' b:=λhn b hb =>
  ⟨hn b hb,ne_of_lt (hfp3 b hb),(ln (N:=N) I3 L f3 hfp3).exfs b hb,.inl hb,λx c h=>(f3 b hb).2.2.2.2.1 x c (L.cells x c h),λp hp=>absurd (show p∈([]:List (Addr×Obj))from hp) (by simp)⟩
 have loop:codeAny (model X.prog X.w) X.A (.compLoop (.ListComp elt [⟨tg,iter,[],0⟩] scope pos) 0 (.ref it) (.ref s2.heap.objs.size) (compEnvC scope cl hpA.objs.size X.env))
   (compPost (model X.prog X.w) X.A X.xe none (EP X pins σ Q) (.ref s2.heap.objs.size) hpA.objs.size) {s2 with heap:=h₁,toks:=s2.toks+([]:List (Str×Value)).length}:=by
  refine ow (λn s'=>∃i ys σ' H',Inv (cq X N scope cl {s2 with heap:=hpA} (upd H2 s2.heap.objs.size (.lst [])) fp) [] σ' H' s'∧tn i s'.heap∧(∀b∈fp,H' b=none)∧W i n ys σ' H') ?_ m0 ⟨0,[],_,_,J0,st1,λb hb=>(f3 b hb).1,w0⟩
  rintro n s3 ⟨i,ys,σ3,H3,J3,st3,fr3,w3⟩;rcases turn i n ys σ3 H3 w3 with⟨stop,qn⟩|⟨go,hlen,step⟩
  ·refine thn (T.done (cq X N scope cl {s2 with heap:=hpA} (upd H2 s2.heap.objs.size (.lst [])) fp) rfl rfl rfl hc i [] s3 σ3 H3 (λ_ _=>False) J3 (stat fr3) st3 stop) λr s4 hpt=>?_
   obtain⟨hr,J4⟩:=hpt;subst hr;obtain⟨m,hm,_⟩:=J4.loc;exact⟨m,hm,λh' hs'=>⟨.ref s2.heap.objs.size,H3,kj I3 f3 J4 hs',rfl,qn⟩⟩
  ·refine thn (T.item (cq X N scope cl {s2 with heap:=hpA} (upd H2 s2.heap.objs.size (.lst [])) fp) rfl rfl rfl hc i [] s3 σ3 H3 (λ_ _=>False) J3 (stat fr3) st3 go) λr s4 hpt=>?_
   obtain⟨u,hr,h4⟩:=hpt;subst hr;refine thn h4 λ_ s5 hpt=>?_;obtain⟨x,H5,J5,r5,y5,st5,fr5⟩:=hpt;have J5':=J5.pinned (stat fr5) (T.obj _ _ st5);refine thn (hg _ _ _ _ s5 σ3 H5 x u _ J5' r5 (step x H5 y5)) λ_ s6 hpt=>?_;obtain⟨σ6,H6,J6,q6⟩:=hpt;refine thn (he _ _ _ _ s6 σ6 H6 _ J6 q6) λy s7 hpt=>?_;obtain⟨vy,H7,J7,r7,q7,m',hm',w7⟩:=hpt;refine thn (bz _ s7 σ6 H7 (.ref s2.heap.objs.size) [vy] _ _ (λ_ H8=>H8=upd H7 s2.heap.objs.size (.lst (ys++[vy]))) J7 rfl (.cons r7 .nil) ⟨_,ys,vy,rfl,rfl,q7,hlen,rfl⟩) λ_ s8 hpt=>?_;obtain⟨_,H8,J8,_,e8⟩:=hpt;subst e8;refine⟨m',hm',i+1,ys++[vy],σ6,_,J8.unpinned,T.keep _ _ _ st5 λb hb o e=>(J8.pin (b,o) (mem_append_right _ (mem_append_right _ (aZ hb e)))).1,λb hb=>?_,w7⟩;obtain⟨o,e,d⟩:=T.obj _ _ st5 b hb;exact(J8.pin (b,o) (mem_append_right _ (mem_append_right _ (aZ hb e)))).2.1
 exact codeAny_compStart_list loop (T.self _ 0 _ _ _ st1 loop)
theorem du{elt tg iter c:Expr}{pos:Pos}{wi:TI}{g:TG}{tc:TT}{te:TE}(hc:X.calm=true)(L:LcOk X scope cl)(hN:N.length=k+js.length)(hj:∀(i j:Nat) x,js[i]?=some j→N[k+i]?=some x→X.N[j]?=some x∧Vis X.env.scope x∧X.env.scope.names.lookup x≠some .local∧((relabel scope X.env).names.lookup x=some .cell∨(relabel scope X.env).names.lookup x=some .free))(hi:PI X tg iter wi)(hg:∀s H fp,PG (cq X N scope cl s H fp) tg g)(ht:∀s H fp,PT (cq X N scope cl s H fp) c tc)(he:∀s H fp,PE (cq X N scope cl s H fp) elt te)(hs:∀x,foldedSetIterable iter X.env x=pure x:=by intro _;rfl):PE X (.ListComp elt [⟨tg,iter,[c],0⟩] scope pos) (wO k js wi g tc te):=by
 intro pins s σ H Q I h;rw[eval_ListComp];refine wpAny_comprehension_free (use:=none) rfl hs L.clos L.kind L.names ?_;refine thn (hi pins s σ H _ I h) λv s1 h1=>thn h1 λitv s2 h2=>?_;obtain⟨it,fp,tn,J,H2,e,I2,T,st2,f2,hW⟩:=h2;subst e;have hfp:∀b∈fp,b<s2.heap.objs.size:=λb hb=>by
  obtain⟨o,e,_⟩:=T.obj _ _ st2 b hb;exact lt_size e
 refine wpAny_newObj_type (wpAny_newFunctionEnv L.nocell (by intro y hy;simp at hy) (λh₁ hns hsb=>?_) L.kind);dsimp only at hns hsb⊢;obtain⟨W,⟨m0,w0⟩,turn⟩:=hW s2.heap.objs.size (I2.hok.fresh (le_refl _));have I3:Inv X pins σ (upd H2 s2.heap.objs.size (.lst [])) {s2 with heap:=s2.heap.push {cls:=.type "list",dict:=none,data:=.seq ([]:List Value).toArray}}:=I2.lnew (t':=s2.toks) .nil (zero_le _)
 generalize hA:s2.heap.push {cls:=.type "list",dict:=none,data:=.seq ([]:List Value).toArray}=hpA at hns hsb I3⊢;have hszA:hpA.objs.size=s2.heap.objs.size+1:=by rw[←hA,size_push]
 have keepA:∀b o,s2.heap.get? b=some o→hpA.get? b=some o:=λb o e=>by rw[←hA];exact get?_push_of_some _ e
 have f3:∀b∈fp,eU X pins (upd H2 s2.heap.objs.size (.lst [])) b:=λb hb=>⟨by rw[ak (ne_of_lt (hfp b hb))];exact(f2 b hb).1,(f2 b hb).2⟩;have hfp3:∀b∈fp,b<hpA.objs.size:=λb hb=>by rw[hszA];exact lt_succ_of_lt (hfp b hb)
 have keep1:∀b o,hpA.get? b=some o→h₁.get? b=some o:=λb o e=>hsb.extBut b o (ne_of_lt (lt_size e)) (get?_push_of_some _ e);have J0:=gB (N:=N) (k:=k) (js:=js) (tk:=s2.toks+([]:List (Str×Value)).length) I3 L f3 hfp3 ⟨_,hns⟩ keep1 hN hj;have st1:tn 0 h₁:=T.keep _ _ _ st2 λb hb o e=>keep1 b o (keepA b o e);have stat:∀{H':Hp},(∀b∈fp,H' b=none)→∀b∈fp,eU (cq X N scope cl {s2 with heap:=hpA} (upd H2 s2.heap.objs.size (.lst [])) fp) [] H' b:=λhn b hb =>
  ⟨hn b hb,ne_of_lt (hfp3 b hb),(ln (N:=N) I3 L f3 hfp3).exfs b hb,.inl hb,λx c h=>(f3 b hb).2.2.2.2.1 x c (L.cells x c h),λp hp=>absurd (show p∈([]:List (Addr×Obj))from hp) (by simp)⟩
 have loop:codeAny (model X.prog X.w) X.A (.compLoop (.ListComp elt [⟨tg,iter,[c],0⟩] scope pos) 0 (.ref it) (.ref s2.heap.objs.size) (compEnvC scope cl hpA.objs.size X.env))
   (compPost (model X.prog X.w) X.A X.xe none (EP X pins σ Q) (.ref s2.heap.objs.size) hpA.objs.size) {s2 with heap:=h₁,toks:=s2.toks+([]:List (Str×Value)).length}:=by
  refine lp (λn s'=>∃i ys σ' H',Inv (cq X N scope cl {s2 with heap:=hpA} (upd H2 s2.heap.objs.size (.lst [])) fp) [] σ' H' s'∧tn i s'.heap∧(∀b∈fp,H' b=none)∧W i n ys σ' H') ?_ m0 ⟨0,[],_,_,J0,st1,λb hb=>(f3 b hb).1,w0⟩
  rintro n s3 ⟨i,ys,σ3,H3,J3,st3,fr3,w3⟩;rcases turn i n ys σ3 H3 w3 with⟨stop,qn⟩|⟨go,hlen,step⟩
  ·refine thn (T.done (cq X N scope cl {s2 with heap:=hpA} (upd H2 s2.heap.objs.size (.lst [])) fp) rfl rfl rfl hc i [] s3 σ3 H3 (λ_ _=>False) J3 (stat fr3) st3 stop) λr s4 hpt=>?_
   obtain⟨hr,J4⟩:=hpt;subst hr;obtain⟨m,hm,_⟩:=J4.loc;exact⟨m,hm,λh' hs'=>⟨.ref s2.heap.objs.size,H3,kj I3 f3 J4 hs',rfl,qn⟩⟩
  ·refine thn (T.item (cq X N scope cl {s2 with heap:=hpA} (upd H2 s2.heap.objs.size (.lst [])) fp) rfl rfl rfl hc i [] s3 σ3 H3 (λ_ _=>False) J3 (stat fr3) st3 go) λr s4 hpt=>?_
   obtain⟨u,hr,h4⟩:=hpt;subst hr;refine thn h4 λ_ s5 hpt=>?_;obtain⟨x,H5,J5,r5,y5,st5,fr5⟩:=hpt;have J5':=J5.pinned (stat fr5) (T.obj _ _ st5);refine thn (hg _ _ _ _ s5 σ3 H5 x u _ J5' r5 (step x H5 y5)) λ_ s6 hpt=>?_;obtain⟨σ6,H6,J6,q6⟩:=hpt;refine thn (ht _ _ _ _ s6 σ6 H6 _ J6 q6) λb s6 hpt=>?_;obtain⟨H6,J6,q6⟩:=hpt;cases b with
   |true =>
    rw[if_pos rfl]at q6⊢;refine thn (he _ _ _ _ s6 σ6 H6 _ J6 q6) λy s7 hpt=>?_;obtain⟨vy,H7,J7,r7,q7,m',hm',w7⟩:=hpt;refine thn (bz _ s7 σ6 H7 (.ref s2.heap.objs.size) [vy] _ _ (λ_ H8=>H8=upd H7 s2.heap.objs.size (.lst (ys++[vy]))) J7 rfl (.cons r7 .nil) ⟨_,ys,vy,rfl,rfl,q7,hlen,rfl⟩) λ_ s8 hpt=>?_;obtain⟨_,H8,J8,_,e8⟩:=hpt;subst e8;refine⟨m',hm',i+1,ys++[vy],σ6,_,J8.unpinned,T.keep _ _ _ st5 λb hb o e=>(J8.pin (b,o) (mem_append_right _ (mem_append_right _ (aZ hb e)))).1,λb hb=>?_,w7⟩;obtain⟨o,e,d⟩:=T.obj _ _ st5 b hb;exact(J8.pin (b,o) (mem_append_right _ (mem_append_right _ (aZ hb e)))).2.1
   |false =>
    rw[if_neg (by simp)]at q6⊢;obtain⟨m',hm',w7⟩:=q6;refine⟨m',hm',i+1,ys,σ6,_,J6.unpinned,T.keep _ _ _ st5 λb hb o e=>(J6.pin (b,o) (mem_append_right _ (mem_append_right _ (aZ hb e)))).1,λb hb=>?_,w7⟩;obtain⟨o,e,d⟩:=T.obj _ _ st5 b hb;exact(J6.pin (b,o) (mem_append_right _ (mem_append_right _ (aZ hb e)))).2.1
 exact codeAny_compStart_list loop (T.self _ 0 _ _ _ st1 loop)
end
end L2
namespace TB
open PySem SetTable
section
variable{prog:Program}{w:World}{K:Type}[DecidableEq K]{knd:KeyKind prog w K}{A:Around}{E:Value→Shared→Prop}{s:Shared}
end
section
variable{prog:Program}{w:World}{K:Type}[DecidableEq K](knd:KeyKind prog w K)
variable{knd}
variable{A:Around}{E:Value→Shared→Prop}{s:Shared}
end
section
variable{prog:Program}{w:World}{K:Type}[DecidableEq K]{knd:KeyKind prog w K}{A:Around}{E:Value→Shared→Prop}{s:Shared}
end
section
variable{prog:Program}{w:World}{K:Type}[DecidableEq K]{knd:KeyKind prog w K}{A:Around}{R:Result→Shared→Prop}{I:Addr}{fp wr:List Addr}{G:Array GenState→Array GenState→Prop}{n:Nat}{P:Nat→Value→Prop}{St:Nat→Shared→Prop}
end
section
variable{prog:Program}{w:World}{K:Type}[DecidableEq K]{knd:KeyKind prog w K}{A:Around}{E:Value→Shared→Prop}{s:Shared}
end
end TB
namespace SRT
open PySem PySem.W PyProof.Rows
def run{α:Type}(f:Nat→Nat→Bool):KasT α→α
 |.ret a=>a
 |.ask i j k=>run f (k (f i j))
theorem eu{α β:Type}(f:Nat→Nat→Bool)(g:α→KasT β):∀t:KasT α,run f (t.bind g)=run f (g (run f t))
 |.ret a=>rfl
 |.ask i j k=>eu f g (k (f i j))
def gC{α:Type}(f:Nat→Nat→Bool)(n:Nat):KasT α→Prop
 |.ret _=>True
 |.ask i j k=>i<n∧j<n∧gC f n (k (f i j))
theorem dj{α β:Type}{f:Nat→Nat→Bool}{n:Nat}{g:α→KasT β}:∀{t:KasT α},gC f n t→gC f n (g (run f t))→gC f n (t.bind g)
 |.ret a,_,h=>h
 |.ask i j k,h,h'=>⟨h.1,h.2.1,dj (t:=k (f i j)) h.2.2 h'⟩
theorem oz{α:Type}{f:Nat→Nat→Bool}{n:Nat}{cmp:Nat→Nat→(Bool→Shared→Prop)→Shared→Prop}{s:Shared}(hc:∀i j C,i<n→j<n→C (f i j) s→cmp i j C s)(Q:α→Shared→Prop):∀t:KasT α,gC f n t→Q (run f t) s→t.kasWp cmp Q s
 |.ret a,_,h=>h
 |.ask i j k,p,h=>hc i j _ p.1 p.2.1 (oz hc Q (k (f i j)) p.2.2 h)
structure Ord(f:Nat→Nat→Bool)(n:Nat):Prop where
 irr:∀i,i<n→f i i=false
 tr:∀i j k,i<n→j<n→k<n→f i j=true→f j k=true→f i k=true
 tot:∀i j,i<n→j<n→i≠j→f i j=true∨f j i=true
section
variable{f:Nat→Nat→Bool}{n:Nat}
structure Row(n:Nat)(p:Array Nat):Prop where
 perm:p.toList.Perm (List.range n)
theorem Row.size{p:Array Nat}(r:Row n p):p.size=n:=by have:=r.perm.length_eq;simpa using this
theorem Row.lt{p:Array Nat}(r:Row n p){i:Nat}(hi:i<n):p.getD i 0<n:=by
 have hs:=r.size;have:p.getD i 0∈p.toList:=by
  rw[getD_eq_getD_getElem?,Array.getElem?_eq_getElem (by omega)];exact Array.getElem_mem_toList (by omega)
 exact mem_range.mp (r.perm.mem_iff.mp this)
theorem Row.ne{p:Array Nat}(r:Row n p){i j:Nat}(hi:i<n)(hj:j<n)(hij:i≠j):p.getD i 0≠p.getD j 0:=by
 have hs:=r.size;have nd:p.toList.Nodup:=r.perm.nodup_iff.mpr List.nodup_range;rw[getD_eq_getD_getElem?,getD_eq_getD_getElem?,Array.getElem?_eq_getElem (by omega),Array.getElem?_eq_getElem (by omega)];intro e;have e':p.toList[i]'(by simpa using (by omega:i<p.size))=p.toList[j]'(by simpa using (by omega:j<p.size)):=by simpa using e
 exact hij ((getElem_inj nd).mp e')
theorem Row.rev{p:Array Nat}(r:Row n p)(i j:Nat):Row n (kas_rev p i j):=⟨(Array.perm_iff_toList_perm.mp (mirror_perm p i j _)).trans r.perm⟩
theorem Row.bub{p:Array Nat}(r:Row n p)(i j:Nat):Row n (bubble p i j):=⟨(Array.perm_iff_toList_perm.mp (bubble_perm p i j)).trans r.perm⟩
def Up(f:Nat→Nat→Bool)(p:Array Nat)(m:Nat):Prop:=∀i j,i<j→j<m→f (p.getD i 0) (p.getD j 0)=true
theorem sE(O:Ord f n){p:Array Nat}(r:Row n p){m:Nat}(hm:m<n)(h1:1≤m)(u:Up f p m)(h:f (p.getD m 0) (p.getD (m-1) 0)=false):Up f p (m+1):=by
 have hl:f (p.getD (m-1) 0) (p.getD m 0)=true:=by
  rcases O.tot _ _ (r.lt (i:=m) hm) (r.lt (i:=m-1) (by omega)) (r.ne hm (by omega) (by omega))with z|z
  ·rw[h]at z;cases z
  ·exact z
 intro i j hij hj
 by_cases e:j=m
 ·subst e
  by_cases e2:i=j-1
  ·rw[e2];exact hl
  ·exact O.tr _ _ _ (r.lt (by omega)) (r.lt (by omega)) (r.lt hm) (u i (j-1) (by omega) (by omega)) hl
 ·exact u i j hij (by omega)
theorem kl(O:Ord f n){p:Array Nat}(r:Row n p):∀(fuel m:Nat),1≤m→m+fuel≤n→Up f p m →
  m≤run f (kas_asc p fuel m)∧run f (kas_asc p fuel m)≤m+fuel∧Up f p (run f (kas_asc p fuel m))∧(run f (kas_asc p fuel m)<m+fuel→f (p.getD (run f (kas_asc p fuel m)) 0) (p.getD (run f (kas_asc p fuel m)-1) 0)=true)
 |0,m,_,_,u=>⟨le_refl _,le_refl _,u,λh=>absurd h (by simp[kas_asc,run])⟩
 |fuel+1,m,h1,hm,u=>by
  cases e:f (p.getD m 0) (p.getD (m-1) 0)with
  |true =>
   have er:run f (kas_asc p (fuel+1) m)=m:=by
    show run f (if f (p.getD m 0) (p.getD (m-1) 0)=true then KasT.ret m else kas_asc p fuel (m+1))=m
    rw[e,if_pos rfl];rfl
   rw[er];exact⟨le_refl _,by omega,u,λ_=>e⟩
  |false =>
   have er:run f (kas_asc p (fuel+1) m)=run f (kas_asc p fuel (m+1)):=by
    show run f (if f (p.getD m 0) (p.getD (m-1) 0)=true then KasT.ret m else kas_asc p fuel (m+1))=_
    rw[e,if_neg (by simp)]
   rw[er];obtain⟨a1,a2,a3,a4⟩:=kl O r fuel (m+1) (by omega) (by omega) (sE O r (by omega) h1 u e);exact⟨by omega,by omega,a3,λh=>a4 (by omega)⟩
def vi(f:Nat→Nat→Bool)(p:Array Nat)(m:Nat):Prop:=∀i j,i<j→j<m→f (p.getD j 0) (p.getD i 0)=true
theorem km(O:Ord f n){p:Array Nat}(r:Row n p):∀(fuel m:Nat),1≤m→m+fuel≤n→vi f p m →
  ∃m',run f (kas_desc fuel p m 0)=(p,m',0)∧m≤m'∧m'≤m+fuel∧vi f p m'
 |0,m,_,_,u=>⟨m,rfl,le_refl _,le_refl _,u⟩
 |fuel+1,m,h1,hm,u=>by
  cases e:f (p.getD m 0) (p.getD (m-1) 0)with
  |true =>
   have er:run f (kas_desc (fuel+1) p m 0)=run f (kas_desc fuel p (m+1) 0):=by
    show run f (if f (p.getD m 0) (p.getD (m-1) 0)=true then (if 0>0 then _ else kas_desc fuel p (m+1) 0)else _)=_
    rw[e,if_pos rfl,if_neg (by omega)]
   rw[er];obtain⟨m',a1,a2,a3,a4⟩:=km O r fuel (m+1) (by omega) (by omega) (by
    intro i j hij hj
    by_cases ej:j=m
    ·subst ej
     by_cases e2:i=j-1
     ·rw[e2];exact e
     ·exact O.tr _ _ _ (r.lt (by omega)) (r.lt (i:=j-1) (by omega)) (r.lt (by omega)) e (u i (j-1) (by omega) (by omega))
    ·exact u i j hij (by omega))
   exact⟨m',a1,by omega,by omega,a4⟩
  |false =>
   have e2:f (p.getD (m-1) 0) (p.getD m 0)=true:=by
    rcases O.tot _ _ (r.lt (i:=m) (by omega)) (r.lt (i:=m-1) (by omega)) (r.ne (by omega) (by omega) (by omega))with z|z
    ·rw[e]at z;cases z
    ·exact z
   have er:run f (kas_desc (fuel+1) p m 0)=(p,m,0):=by
    show run f (if f (p.getD m 0) (p.getD (m-1) 0)=true then _ else KasT.ask (p.getD (m-1) 0) (p.getD m 0) λd=>if d=true then .ret (p,m,0)else kas_desc fuel p (m+1) (0+1))=_
    rw[e,if_neg (by simp)];show run f (if f (p.getD (m-1) 0) (p.getD m 0)=true then KasT.ret (p,m,0)else kas_desc fuel p (m+1) (0+1))=_
    rw[e2,if_pos rfl];rfl
   exact⟨m,er,le_refl _,by omega,u⟩
theorem oA{p:Array Nat}{m:Nat}(hm:m≤p.size)(k:Nat)(hk:k<m):(kas_rev p 0 m).getD k 0=p.getD (m-1-k) 0:=by
 unfold kas_rev;rw[getD_eq_getD_getElem?,getElem?_mirror_all hm k,if_pos ⟨by omega,hk⟩,getD_eq_getD_getElem?]
 congr 2
 omega
theorem vj{p:Array Nat}{m:Nat}(hm:m≤p.size)(d:vi f p m):Up f (kas_rev p 0 m) m:=by
 intro i j hij hj;rw[oA hm i (by omega),oA hm j hj];exact d _ _ (by omega) (by omega)
theorem lr(O:Ord f n){p:Array Nat}(r:Row n p)(h2:1≤n):∃m p',run f (kas_count n p)=(m,p')∧1≤m∧m≤n∧Row n p'∧Up f p' m:=by
 obtain⟨a1,a2,a3,a4⟩:=kl O r (n-1) 1 (by omega) (by omega) (by intro i j hij hj;omega);have er:run f (kas_count n p)=run f (if (run f (kas_asc p (n-1) 1)==n)=true then KasT.ret (run f (kas_asc p (n-1) 1),p)else if run f (kas_asc p (n-1) 1)>1 then .ask (p.getD 0 0) (p.getD (run f (kas_asc p (n-1) 1)-1) 0) λc=>if c=true then .ret (run f (kas_asc p (n-1) 1),p)else kas_descPart (run f (kas_asc p (n-1) 1)) n (kas_rev p 0 (run f (kas_asc p (n-1) 1)))
  else kas_descPart (run f (kas_asc p (n-1) 1)) n p):=by
  unfold kas_count;rw[eu]
 rw[er];generalize run f (kas_asc p (n-1) 1)=m at a1 a2 a3 a4⊢
 by_cases e:m=n
 ·rw[if_pos (by simp[e])];exact⟨m,p,rfl,a1,by omega,r,a3⟩
 ·rw[if_neg (by simpa using e)]
  by_cases e1:m>1
  ·rw[if_pos e1];refine⟨m,p,?_,a1,by omega,r,a3⟩;show run f (if f (p.getD 0 0) (p.getD (m-1) 0)=true then KasT.ret (m,p)else _)=_
   rw[a3 0 (m-1) (by omega) (by omega),if_pos rfl];rfl
  ·rw[if_neg e1];have em:m=1:=by omega
   subst em;have hd:=a4 (by omega);unfold kas_descPart;obtain⟨m',b1,b2,b3,b4⟩:=km O r (n-(1+1)) (1+1) (by omega) (by omega) (by
    intro i j hij hj;have:i=0∧j=1:=by omega
    rw[this.1,this.2];exact hd)
   rw[eu,b1];dsimp only;rw[if_neg (by omega)];unfold kas_tail3;have hs:=r.size;have ur:=vj (f:=f) (by omega:m'≤p.size) b4;obtain⟨c1,c2,c3,c4⟩:=kl O (r.rev 0 m') (n-m') m' (by omega) (by omega) ur;rw[eu];exact⟨_,_,rfl,by omega,by omega,r.rev 0 m',c3⟩
theorem gE(O:Ord f n){p:Array Nat}(r:Row n p){k:Nat}(hk:k<n)(u:Up f p k):∀(fuel l r':Nat),r'-l≤fuel→l≤r'→r'≤k →
  (∀i,i<l→f (p.getD i 0) (p.getD k 0)=true)→(∀i,r'≤i→i<k→f (p.getD k 0) (p.getD i 0)=true) →
  run f (kas_place p k fuel l r')≤k∧(∀i,i<run f (kas_place p k fuel l r')→f (p.getD i 0) (p.getD k 0)=true)∧(∀i,run f (kas_place p k fuel l r')≤i→i<k→f (p.getD k 0) (p.getD i 0)=true)
 |0,l,r',h1,h2,h3,h4,h5=>by
  have:l=r':=by omega
  subst this;exact⟨h3,h4,h5⟩
 |fuel+1,l,r',h1,h2,h3,h4,h5=>by
  unfold kas_place
  by_cases e:l≥r'
  ·rw[if_pos e];have:l=r':=by omega
   subst this;exact⟨h3,h4,h5⟩
  ·rw[if_neg e];have hmid:(l+r') / 2<k:=by omega
   cases c:f (p.getD k 0) (p.getD ((l+r') / 2) 0)with
   |true =>
    have er:run f (KasT.ask (p.getD k 0) (p.getD ((l+r') / 2) 0) λc=>if c=true then kas_place p k fuel l ((l+r') / 2)else kas_place p k fuel ((l+r') / 2+1) r')=run f (kas_place p k fuel l ((l+r') / 2)):=by
     show run f (if f (p.getD k 0) (p.getD ((l+r') / 2) 0)=true then _ else _)=_
     rw[c,if_pos rfl]
    rw[er];refine gE O r hk u fuel l _ (by omega) (by omega) (by omega) h4 (λi hi hik=>?_)
    by_cases ei:i=(l+r') / 2
    ·rw[ei];exact c
    ·exact O.tr _ _ _ (r.lt hk) (r.lt (i:=(l+r') / 2) (by omega)) (r.lt (by omega)) c (u _ _ (by omega) hik)
   |false =>
    have er:run f (KasT.ask (p.getD k 0) (p.getD ((l+r') / 2) 0) λc=>if c=true then kas_place p k fuel l ((l+r') / 2)else kas_place p k fuel ((l+r') / 2+1) r')=run f (kas_place p k fuel ((l+r') / 2+1) r'):=by
     show run f (if f (p.getD k 0) (p.getD ((l+r') / 2) 0)=true then _ else _)=_
     rw[c,if_neg (by simp)]
    rw[er];have c':f (p.getD ((l+r') / 2) 0) (p.getD k 0)=true:=by
     rcases O.tot _ _ (r.lt (i:=k) hk) (r.lt (i:=(l+r') / 2) (by omega)) (r.ne hk (by omega) (by omega))with z|z
     ·rw[c]at z;cases z
     ·exact z
    refine gE O r hk u fuel _ r' (by omega) (by omega) h3 (λi hi=>?_) h5
    by_cases ei:i=(l+r') / 2
    ·rw[ei];exact c'
    ·exact O.tr _ _ _ (r.lt (by omega)) (r.lt (i:=(l+r') / 2) (by omega)) (r.lt hk) (u i _ (by omega) (by omega)) c'
theorem iB{p:Array Nat}{k l:Nat}(hk:k<p.size)(hl:l≤k)(i:Nat):(bubble p k (k-l)).getD i 0=if i=l then p.getD k 0 else if l<i∧i≤k then p.getD (i-1) 0 else p.getD i 0:=by
 simp only[getD_eq_getD_getElem?];rw[getElem?_bubble hk (k-l) (by omega) i];have e:k-(k-l)=l:=by omega
 rw[e]
 by_cases h1:i=l
 ·rw[if_pos h1,if_pos h1]
 ·rw[if_neg h1,if_neg h1]
  by_cases h2:l<i∧i≤k
  ·rw[if_pos h2,if_pos h2]
  ·rw[if_neg h2,if_neg h2]
theorem qF(O:Ord f n):∀(fuel:Nat)(p:Array Nat)(k:Nat),Row n p→k+fuel=n→Up f p k→Row n (run f (kas_bin fuel p k))∧Up f (run f (kas_bin fuel p k)) n
 |0,p,k,r,hk,u=>by
  have:k=n:=by omega
  subst this;exact⟨r,u⟩
 |fuel+1,p,k,r,hk,u=>by
  have hkn:k<n:=by omega
  obtain⟨a1,a2,a3⟩:=gE O r hkn u k 0 k (by omega) (by omega) (le_refl _) (λi hi=>by omega) (λi h1 h2=>by omega);have er:run f (kas_bin (fuel+1) p k)=run f (kas_bin fuel (bubble p k (k-run f (kas_place p k k 0 k))) (k+1)):=by
   show run f ((kas_place p k k 0 k).bind λl=>kas_bin fuel (bubble p k (k-l)) (k+1))=_;rw[eu]
  rw[er];generalize run f (kas_place p k k 0 k)=l at a1 a2 a3⊢;have hs:=r.size;refine qF O fuel _ (k+1) (r.bub _ _) (by omega) ?_;intro i j hij hj;rw[iB (by omega) a1 i,iB (by omega) a1 j]
  by_cases ei:i=l
  ·rw[if_pos ei,if_neg (by omega),if_pos ⟨by omega,by omega⟩];exact a3 (j-1) (by omega) (by omega)
  ·rw[if_neg ei]
   by_cases ej:j=l
   ·rw[if_pos ej,if_neg (by omega)];exact a2 i (by omega)
   ·rw[if_neg ej]
    by_cases hi2:l<i∧i≤k
    ·rw[if_pos hi2,if_pos ⟨by omega,by omega⟩];exact u _ _ (by omega) (by omega)
    ·rw[if_neg hi2]
     by_cases hj2:l<j∧j≤k
     ·rw[if_pos hj2]
      by_cases e3:i=j-1
      ·omega
      ·exact u i (j-1) (by omega) (by omega)
     ·rw[if_neg hj2];exact u i j hij (by omega)
theorem iV{p:Array Nat}(r:Row n p):∀(fuel m:Nat),1≤m→m+fuel≤n→gC f n (kas_asc p fuel m)
 |0,m,_,_=>trivial
 |fuel+1,m,h1,hm=>by
  refine⟨r.lt (by omega),r.lt (by omega),?_⟩;show gC f n (if f (p.getD m 0) (p.getD (m-1) 0)=true then KasT.ret m else kas_asc p fuel (m+1))
  split
  ·exact trivial
  ·exact iV r fuel (m+1) (by omega) (by omega)
theorem jE(O:Ord f n){p:Array Nat}(r:Row n p):∀(fuel m:Nat),1≤m→m+fuel≤n→gC f n (kas_desc fuel p m 0)
 |0,m,_,_=>trivial
 |fuel+1,m,h1,hm=>by
  refine⟨r.lt (by omega),r.lt (by omega),?_⟩;show gC f n (if f (p.getD m 0) (p.getD (m-1) 0)=true then (if 0>0 then _ else kas_desc fuel p (m+1) 0)else KasT.ask (p.getD (m-1) 0) (p.getD m 0) λd=>if d=true then .ret (p,m,0)else kas_desc fuel p (m+1) (0+1))
  cases e:f (p.getD m 0) (p.getD (m-1) 0)with
  |true =>
   rw[if_pos rfl,if_neg (by omega)];exact jE O r fuel (m+1) (by omega) (by omega)
  |false =>
   rw[if_neg (by simp)];have e2:f (p.getD (m-1) 0) (p.getD m 0)=true:=by
    rcases O.tot _ _ (r.lt (i:=m) (by omega)) (r.lt (i:=m-1) (by omega)) (r.ne (by omega) (by omega) (by omega))with z|z
    ·rw[e]at z;cases z
    ·exact z
   refine⟨r.lt (by omega),r.lt (by omega),?_⟩;dsimp only;rw[e2,if_pos rfl];exact trivial
theorem nb(O:Ord f n){p:Array Nat}(r:Row n p)(h2:1≤n):gC f n (kas_count n p):=by
 obtain⟨a1,a2,a3,a4⟩:=kl O r (n-1) 1 (by omega) (by omega) (by intro i j hij hj;omega);unfold kas_count;refine dj (iV r _ _ (by omega) (by omega)) ?_;generalize run f (kas_asc p (n-1) 1)=m at a1 a2 a3 a4⊢
 by_cases e:m=n
 ·rw[if_pos (by simp[e])];exact trivial
 ·rw[if_neg (by simpa using e)]
  by_cases e1:m>1
  ·rw[if_pos e1];refine⟨r.lt (by omega),r.lt (by omega),?_⟩;dsimp only;rw[a3 0 (m-1) (by omega) (by omega),if_pos rfl];exact trivial
  ·rw[if_neg e1];have em:m=1:=by omega
   subst em;have hd:=a4 (by omega);unfold kas_descPart;refine dj (jE O r _ _ (by omega) (by omega)) ?_;obtain⟨m',b1,b2,b3,b4⟩:=km O r (n-(1+1)) (1+1) (by omega) (by omega) (by
    intro i j hij hj;have:i=0∧j=1:=by omega
    rw[this.1,this.2];exact hd)
   rw[b1];dsimp only;rw[if_neg (by omega)];unfold kas_tail3;exact dj (iV (r.rev 0 m') _ _ (by omega) (by omega)) trivial
theorem fX{p:Array Nat}(r:Row n p){k:Nat}(hk:k<n):∀(fuel l r':Nat),r'≤k→gC f n (kas_place p k fuel l r')
 |0,l,r',_=>trivial
 |fuel+1,l,r',h=>by
  unfold kas_place
  by_cases e:l≥r'
  ·rw[if_pos e];exact trivial
  ·rw[if_neg e];refine⟨r.lt hk,r.lt (by omega),?_⟩;dsimp only
   split
   ·exact fX r hk fuel _ _ (by omega)
   ·exact fX r hk fuel _ _ h
theorem lu(O:Ord f n):∀(fuel:Nat)(p:Array Nat)(k:Nat),Row n p→k+fuel=n→Up f p k→gC f n (kas_bin fuel p k)
 |0,p,k,r,hk,u=>trivial
 |fuel+1,p,k,r,hk,u=>by
  have hkn:k<n:=by omega
  show gC f n ((kas_place p k k 0 k).bind λl=>kas_bin fuel (bubble p k (k-l)) (k+1));refine dj (fX r hkn _ _ _ (le_refl _)) ?_;obtain⟨a1,a2,a3⟩:=gE O r hkn u k 0 k (by omega) (by omega) (le_refl _) (λi hi=>by omega) (λi h1 h2=>by omega);generalize run f (kas_place p k k 0 k)=l at a1 a2 a3⊢;have hs:=r.size;refine lu O fuel _ (k+1) (r.bub _ _) (by omega) ?_;intro i j hij hj;rw[iB (by omega) a1 i,iB (by omega) a1 j]
  by_cases ei:i=l
  ·rw[if_pos ei,if_neg (by omega),if_pos ⟨by omega,by omega⟩];exact a3 (j-1) (by omega) (by omega)
  ·rw[if_neg ei]
   by_cases ej:j=l
   ·rw[if_pos ej,if_neg (by omega)];exact a2 i (by omega)
   ·rw[if_neg ej]
    by_cases hi2:l<i∧i≤k
    ·rw[if_pos hi2,if_pos ⟨by omega,by omega⟩];exact u _ _ (by omega) (by omega)
    ·rw[if_neg hi2]
     by_cases hj2:l<j∧j≤k
     ·rw[if_pos hj2]
      by_cases e3:i=j-1
      ·omega
      ·exact u i (j-1) (by omega) (by omega)
     ·rw[if_neg hj2];exact u i j hij (by omega)
theorem pK(O:Ord f n)(h:1≤n):gC f n (kas_sort n):=by
 have r0:Row n (toArray (List.range n)):=⟨by simp⟩;obtain⟨m,p',e,h1,h2,r,u⟩:=lr O r0 h;unfold kas_sort;refine dj (nb O r0 h) ?_;rw[e];dsimp only
 by_cases hm:m<n
 ·rw[if_pos hm];have:max m 1=m:=by omega
  rw[this];exact lu O (n-m) p' m r (by omega) u
 ·rw[if_neg hm];exact trivial
theorem sF(O:Ord f n)(h:1≤n):Row n (run f (kas_sort n))∧Up f (run f (kas_sort n)) n:=by
 have r0:Row n (toArray (List.range n)):=⟨by simp⟩;obtain⟨m,p',e,h1,h2,r,u⟩:=lr O r0 h;unfold kas_sort;rw[eu,e];dsimp only
 by_cases hm:m<n
 ·rw[if_pos hm];have:max m 1=m:=by omega
  rw[this];exact qF O (n-m) p' m r (by omega) u
 ·rw[if_neg hm];have:m=n:=by omega
  subst this;exact⟨r,u⟩
end
section
variable{prog:Program}{w:World}{A:Around}{E:Value→Shared→Prop}{s:Shared}
theorem sG{vs:List Value}(h:vs.length<2):((vs.toArray.zip vs.toArray).map (·.2)).toList=(toArray ((toArray (List.range vs.length)).toList.map λi=>vs.getD i Value.none)).toList:=by
 cases vs with
 |nil=>simp
 |cons v r =>
  cases r with
  |nil=>simp
  |cons u r=>exact absurd h (by simp)
theorem kn{f:Nat→Nat→Bool}{a:Addr}{vs:List Value}{n:Nat}{κ:SortKind}{P:PySem.Fin→Shared→Prop}(O:Ord f vs.length)(ho:s.heap.get? a=some (seqObj "list" vs.toArray n))(h64:vs.length<64)(hk:∀s':Shared,(∀b o,b≠a→s.heap.get? b=some o→s'.heap.get? b=some o)→∀Q:SortKind→Shared→Prop,2≤vs.length→Q κ s'→wpAny (model prog w) A (keyKind' vs.toArray) Q (λ_ _=>False) s')(hlt:∀s':Shared,(∀b o,b≠a→s.heap.get? b=some o→s'.heap.get? b=some o)→∀(i j:Nat) (C:Bool→Shared→Prop),i<vs.length→j<vs.length→C (f i j) s'→wpAny (model prog w) A (keyLt' κ (vs.getD i Value.none) (vs.getD j Value.none)) C (λ_ _=>False) s')(h:∀p:Array Nat,Row vs.length p→Up f p vs.length→P (.done (.ret .none)) {s with heap:=sortedHeap s.heap a vs (toArray (p.toList.map λi=>vs.getD i Value.none))}):
  wpAny (model prog w) A (Builtin.«list.sort» ⟨[.ref a],[]⟩) P E s:=by
 have ha:a<s.heap.objs.size:=lt_size ho;have s1:=SameBut.update s.heap a (Obj.mapSeq λ_=>(#[]:Array Value));obtain⟨e1,ho1⟩:∃e1,(s.heap.update a (Obj.mapSeq λ_=>(#[]:Array Value))).get? a=some (seqObj "list" #[] e1):=⟨_,get?_update_seq ho λ_=>#[]⟩;rw[list_sort_plain];refine wpAny_bind (listItems_at ho rfl ?_);refine wpAny_bind (listUpdate_at ho rfl ?_ (by rw[size_toArray,sizeLine_eq];omega) (zero_le _));refine wpAny_bind (seqEpoch_at ho1 rfl ?_);refine wpAny_bind (wpAny_newTuple ?_ (by show vs.length≤_;rw[sizeLine_eq];omega));refine wpAny_bind (wpAny_newList ?_ (zero_le _));refine wpAny_holding ?_;have ho6:(((s.heap.update a (Obj.mapSeq λ_=>(#[]:Array Value))).push (seqObj "tuple" vs.toArray 0)).push (seqObj "list" #[] 0)).get? a=some (seqObj "list" #[] e1):=get?_push_of_some _ (get?_push_of_some _ ho1);have keep:∀b o,b≠a→s.heap.get? b=some o→(((s.heap.update a (Obj.mapSeq λ_=>(#[]:Array Value))).push (seqObj "tuple" vs.toArray 0)).push (seqObj "list" #[] 0)).get? b=some o:=λb o hb e =>
  get?_push_of_some _ (get?_push_of_some _ ((s1.2 b hb).trans e))
 show wpAny (model prog w) A _ P E {s with heap:=((s.heap.update a (Obj.mapSeq λ_=>(#[]:Array Value))).push (seqObj "tuple" vs.toArray 0)).push (seqObj "list" #[] 0)}
 dsimp only
 by_cases hn2:vs.toArray.size<2
 ·rw[if_pos hn2,if_pos hn2];refine wpAny_bind (wpAny_pure ?_);rw[StateT.run_pure];refine wpAny_bind (wpAny_pure ?_);dsimp only;have hn2':vs.length<2:=by simpa using hn2
  have hr:Row vs.length (toArray (List.range vs.length)):=⟨by simp⟩;have hu:Up f (toArray (List.range vs.length)) vs.length:=λi j hij hj=>by omega
  have e2:(arrOf (SortSt.mk' general' (vs.toArray.zip vs.toArray) #[] 7 none)).map (·.2)=toArray ((toArray (List.range vs.length)).toList.map λi=>vs.getD i Value.none):=by
   show(vs.toArray.zip vs.toArray).map (·.2)=_;apply Array.toList_inj.mp;exact sG hn2'
  refine wpAny_bind (seqEpoch_at ho6 rfl ?_);rw[e2];refine wpAny_bind (listUpdate_at ho6 rfl ?_ (zero_le _) (by rw[size_toArray,length_map,length_toList,hr.size,sizeLine_eq];omega));show wpAny _ _ (if (e1 != e1)=true then _ else _) _ _ _
  simp only[bne_self_eq_false,false_eq_true,if_false];exact wpAny_pure (h _ hr hu)
 ·have hn2':2≤vs.length:=by rw[size_toArray]at hn2;omega
  rw[if_neg hn2,if_neg hn2];refine wpAny_bind (wpAny_mono (hk {s with heap:=((s.heap.update a (Obj.mapSeq λ_=>(#[]:Array Value))).push (seqObj "tuple" vs.toArray 0)).push (seqObj "list" #[] 0)} keep (λk' s'=>k'=κ∧s'={s with heap:=((s.heap.update a (Obj.mapSeq λ_=>(#[]:Array Value))).push (seqObj "tuple" vs.toArray 0)).push (seqObj "list" #[] 0)}) hn2' ⟨rfl,rfl⟩) (λκ' s0 hes=>?_) λ_ _ x=>x.elim)
  obtain⟨ek,es⟩:=hes;subst ek es;obtain⟨hrow,hup⟩:=sF O (by omega:1≤vs.length);refine wpAny_bind (wpAny_mono (kat_run (Q:=λst' s'=>∃p:Array Nat,p.size=vs.length∧arrOf st'=p.map (kas_item (vs.toArray.zip vs.toArray))∧failedOf st'=none∧p=run f (kas_sort vs.length)∧s'={s with heap:=((s.heap.update a (Obj.mapSeq λ_=>(#[]:Array Value))).push (seqObj "tuple" vs.toArray 0)).push (seqObj "list" #[] 0)})
   rfl hn2' h64 (λp' st' s' a1 a2 a3 a4=>⟨p',a1,a2,a3,a4⟩) (oz (n:=vs.length) (λi j C hi hj hC=>hlt _ keep i j C hi hj hC) (λp s'=>p=run f (kas_sort vs.length)∧s'={s with heap:=((s.heap.update a (Obj.mapSeq λ_=>(#[]:Array Value))).push (seqObj "tuple" vs.toArray 0)).push (seqObj "list" #[] 0)}) _ (pK O (by omega)) ⟨rfl,rfl⟩)) ?_ λ_ _ e=>e)
  rintro⟨⟨⟩,st'⟩ s' ⟨p,hp,har,hf,ep,es⟩;subst es;dsimp only;have hout:=kat_snds (ks:=vs) rfl har;refine wpAny_bind (seqEpoch_at ho6 rfl ?_);rw[hout];refine wpAny_bind (listUpdate_at ho6 rfl ?_ (zero_le _) (by rw[size_toArray,length_map,length_toList,hp,sizeLine_eq];omega));rw[hf];simp only[bne_self_eq_false,false_eq_true,if_false];rw[ep];exact wpAny_pure (h _ hrow hup)
theorem lx{l:Addr}{vs:List Value}{Q:List Value→Shared→Prop}(hl:IsTup s.heap l vs.toArray)(h:Q vs {s with heap:=(s.heap.push (seqObj "list" #[] 0)).update s.heap.objs.size (Obj.mapSeq (· ++ vs.toArray))})(hsz:vs.length≤sizeLine):
  wpAny (model prog w) A (collect (.ref l)) Q E s:=by
 obtain⟨o,ho,hc,n,hd⟩:=id hl;unfold collect;refine wpAny_bind (wpAny_runValue (codeAny_builtin entry_proto_collect' ?_));show wpAny _ _ (do again (.builtin "list.__iadd__" ⟨[←newList [],.ref l],[]⟩)) _ _ s
 refine wpAny_bind (wpAny_newList (wpAny_pure ⟨Code.quiet_builtin _ (by decide +kernel),codeAny_builtin entry_list_iadd' ?_⟩));show wpAny _ _ (Builtin.List.listExtendWith (.ref s.heap.objs.size) (.ref l) (.ref s.heap.objs.size)) _ _ {s with heap:=s.heap.push (seqObj "list" #[] 0)}
 unfold Builtin.List.listExtendWith;have ho':(s.heap.push (seqObj "list" #[] 0)).get? l=some o:=get?_push_of_some _ ho;refine wpAny_bind (wpAny_typeOf (T:="tuple") ⟨o,ho',hc⟩ ?_);have ht:(type "tuple"==type "tuple")=true:=by rfl
 rw[if_pos (by rw[ht];simp)];refine wpAny_bind (listItems_at ho' hd ?_);refine wpAny_bind (listItems_at (xs:=#[]) (n:=0) (get?_push_size _ rfl) rfl ?_);rw[if_neg (by simp)];refine wpAny_bind (listUpdate_at (xs:=#[]) (n:=0) (get?_push_size _ rfl) rfl ?_ (zero_le _) (by show(#[]++vs.toArray).size≤sizeLine+1;simp only[Array.size_append,size_toArray,length_nil];omega));refine wpAny_pure ?_;show wpAny (model prog w) A (do
   let o ← load s.heap.objs.size
   match o.data with
   |.seq xs _=>pure xs.toList
   | _=>unsupported "internal:collect") Q E {s with heap:=(s.heap.push (seqObj "list" #[] 0)).update s.heap.objs.size (Obj.mapSeq (· ++ vs.toArray))}
 refine wpAny_bind (wpAny_load (get?_update_seq (get?_push_size _ rfl) _) ?_);show wpAny _ _ (pure ((#[]:Array Value)++vs.toArray).toList) Q E _;rw[show((#[]:Array Value)++vs.toArray).toList=vs by simp];exact wpAny_pure h
theorem ly{l:Addr}{vs:List Value}{Q:List Value→Shared→Prop}(hl:s.heap.IsList l vs.toArray∨IsTup s.heap l vs.toArray)(h:Q vs {s with heap:=(s.heap.push (seqObj "list" #[] 0)).update s.heap.objs.size (Obj.mapSeq (· ++ vs.toArray))})(hsz:vs.length≤sizeLine):
  wpAny (model prog w) A (collect (.ref l)) Q E s:=by
 rcases hl with hl|hl
 ·exact collect_list hl h hsz
 ·exact lx hl h hsz
theorem iW{f:Nat→Nat→Bool}{l:Addr}{vs:List Value}{κ:SortKind}{Q:Value→Shared→Prop}(O:Ord f vs.length)(hl:s.heap.IsList l vs.toArray∨IsTup s.heap l vs.toArray)(h64:vs.length<64)(hk:∀(A':Around) (s':Shared),A'.units≤A.units+2→(∀b o,s.heap.get? b=some o→s'.heap.get? b=some o)→∀Q:SortKind→Shared→Prop,2≤vs.length→Q κ s'→wpAny (model prog w) A' (keyKind' vs.toArray) Q (λ_ _=>False) s')(hlt:∀(A':Around) (s':Shared),A'.units≤A.units+2→(∀b o,s.heap.get? b=some o→s'.heap.get? b=some o)→∀(i j:Nat) (C:Bool→Shared→Prop),i<vs.length→j<vs.length→C (f i j) s'→wpAny (model prog w) A' (keyLt' κ (vs.getD i Value.none) (vs.getD j Value.none)) C (λ_ _=>False) s')(h:∀(p:Array Nat) (h':Heap),Row vs.length p→Up f p vs.length→(∀b o,s.heap.get? b=some o→h'.get? b=some o)→s.heap.objs.size≤s.heap.objs.size+1→(∃k,h'.get? (s.heap.objs.size+1)=some (seqObj "list" (toArray (p.toList.map λi=>vs.getD i Value.none)) k))→Q (.ref (s.heap.objs.size+1)) {s with heap:=h'}):
  wpAny (model prog w) A (call (.builtin "sorted") [.ref l]) Q E s:=by
 refine Calls.call_function_entry kind_sorted plain_sorted entry_sorted (args_sorted1 _) ?_;unfold Builtin.«sorted»;refine wpAny_bind (m:=checkCount "sorted" 1 1 _) (wpAny_pure ?_);refine wpAny_bind (ly hl ?_ (by rw[sizeLine_eq];omega));refine wpAny_bind (wpAny_newList ?_ (by rw[sizeLine_eq];omega));have hsz:((s.heap.push (seqObj "list" #[] 0)).update s.heap.objs.size (Obj.mapSeq (· ++ vs.toArray))).objs.size=s.heap.objs.size+1:=by
  rw[Heap.size_update,size_push']
 have hoL:(((s.heap.push (seqObj "list" #[] 0)).update s.heap.objs.size (Obj.mapSeq (· ++ vs.toArray))).push (seqObj "list" vs.toArray 0)).get? (s.heap.objs.size+1)=some (seqObj "list" vs.toArray 0):=by
  rw[←hsz];exact get?_push_size _ rfl
 have keep:∀b o,s.heap.get? b=some o→(((s.heap.push (seqObj "list" #[] 0)).update s.heap.objs.size (Obj.mapSeq (· ++ vs.toArray))).push (seqObj "list" vs.toArray 0)).get? b=some o:=λb o q=>by
  have hlt:b<s.heap.objs.size:=lt_size q;rw[Heap.get?_push_ne _ _ _ (by rw[hsz];exact ne_of_lt (lt_succ_of_lt hlt)),Heap.get?_update_ne _ _ _ _ (ne_of_lt hlt),Heap.get?_push_ne _ _ _ (ne_of_lt hlt)];exact q
 have neD:∀b o,s.heap.get? b=some o→b≠s.heap.objs.size+1:=λb o q=>ne_of_lt (lt_succ_of_lt (lt_size q));show wpAny _ _ _ _ _ {s with heap:=((s.heap.push (seqObj "list" #[] 0)).update s.heap.objs.size (Obj.mapSeq (· ++ vs.toArray))).push (seqObj "list" vs.toArray 0)}
 rw[hsz];refine wpAny_bind (wpAny_holding (wpAny_call_entry slot_list_sort ⟨_,hoL,rfl⟩ entry_list_sort (kn (κ:=κ) (s:={s with heap:=((s.heap.push (seqObj "list" #[] 0)).update s.heap.objs.size (Obj.mapSeq (· ++ vs.toArray))).push (seqObj "list" vs.toArray 0)}) O hoL h64 ?_ ?_ λp hr hu=>⟨_,rfl,?_⟩) (args_list_sort _)))
 ·intro s' hs' Q' h2 hq;exact hk _ s' (by simp[Around.in1_units]) (λb o e=>hs' b o (neD b o e) (keep b o e)) Q' h2 hq
 ·intro s' hs' i j C hi hj hC;exact hlt _ s' (by simp[Around.in1_units]) (λb o e=>hs' b o (neD b o e) (keep b o e)) i j C hi hj hC
 ·refine wpAny_pure ⟨_,rfl,h p _ hr hu (λb o e=>?_) (le_succ _) ?_⟩
  ·unfold sortedHeap;rw[Heap.get?_update_ne _ _ _ _ (neD b o e)];refine get?_push_of_some _ (get?_push_of_some _ ?_);rw[Heap.get?_update_ne _ _ _ _ (neD b o e)];exact keep b o e
  ·unfold sortedHeap;obtain⟨e1,ho1⟩:∃e1,((((s.heap.push (seqObj "list" #[] 0)).update s.heap.objs.size (Obj.mapSeq (· ++ vs.toArray))).push (seqObj "list" vs.toArray 0)).update (s.heap.objs.size+1) (Obj.mapSeq λ_=>(#[]:Array Value))).get? (s.heap.objs.size+1)=some (seqObj "list" #[] e1):=⟨_,get?_update_seq hoL λ_=>#[]⟩;exact⟨_,get?_update_seq (get?_push_of_some _ (get?_push_of_some _ ho1)) _⟩
theorem pL{f:Nat→Nat→Bool}{l:Addr}{vs:List Value}{κ:SortKind}{Q:Value→Shared→Prop}(O:Ord f vs.length)(hl:s.heap.IsList l vs.toArray)(h64:vs.length<64)(hk:∀(A':Around) (s':Shared),A'.units≤A.units+2→(∀b o,s.heap.get? b=some o→s'.heap.get? b=some o)→∀Q:SortKind→Shared→Prop,2≤vs.length→Q κ s'→wpAny (model prog w) A' (keyKind' vs.toArray) Q (λ_ _=>False) s')(hlt:∀(A':Around) (s':Shared),A'.units≤A.units+2→(∀b o,s.heap.get? b=some o→s'.heap.get? b=some o)→∀(i j:Nat) (C:Bool→Shared→Prop),i<vs.length→j<vs.length→C (f i j) s'→wpAny (model prog w) A' (keyLt' κ (vs.getD i Value.none) (vs.getD j Value.none)) C (λ_ _=>False) s')(h:∀(p:Array Nat) (h':Heap),Row vs.length p→Up f p vs.length→(∀b o,s.heap.get? b=some o→h'.get? b=some o)→s.heap.objs.size≤s.heap.objs.size+1→(∃k,h'.get? (s.heap.objs.size+1)=some (seqObj "list" (toArray (p.toList.map λi=>vs.getD i Value.none)) k))→Q (.ref (s.heap.objs.size+1)) {s with heap:=h'}):
  wpAny (model prog w) A (call (.builtin "sorted") [.ref l]) Q E s:=iW O (.inl hl) h64 hk hlt h
end
end SRT
namespace L2
open PySem PySem.Spec PyProof.Rows
section
variable{X:Cx}{tg:Expr}
theorem lz:dt X (.builtin "isinstance") (λxs H Q=>∃x n t b,xs=[x,.ty n]∧TyOf X.K H x t∧kitOne X.K t (.type n)=some b∧Q (.bl b) H):=by
 intro pins s σ H xs us Q I r h;obtain⟨x,n,t,b,rfl,ty,e,q⟩:=h;obtain⟨u,u',rfl,ru,ru'⟩:=ui r;cases (show u'=type n from ru');exact pC I ru ty e λtk=>⟨.bl b,H,I.tok tk,rfl,q⟩
theorem sI{pins:List (Addr×Obj)}{σ:St}{H:Hp}{s:Shared}{a:Addr}{ks:List Key}(I:Inv X pins σ H s)(h:H a=some (.tup (ks.map kV)))(P:Program)(w:World):IsTupleKey (aU P w) s.heap ks a:=by
 obtain⟨_,its,r,o,e,c,n,d⟩:=I.hok a _ h;exact⟨o,its.toArray,n,e,c,d,by simpa using hX r⟩
theorem dk:∀{as:List Addr}{us:List Value},aL (as.map V.ref) us→us=as.map Value.ref
 |[],_,.nil=>rfl
 |b::bs,_,.cons r t=>by
  have e:_=Value.ref b:=r;rw[e,dk t];rfl
theorem jr(hu:X.A.units+1<cLine):OpR X (compareOp .NotIn) (λx y H Q=>∃a p ks,∃kss:List (Addr×List Key),x=.ref a∧H a=some (.tup (ks.map kV))∧y=.ref p∧SqL X.K H p ((kss.map (·.1)).map V.ref) ∧
  (∀z∈kss,H z.1=some (.tup (z.2.map kV)))∧Q (.bl (!(kss.any λz=>decide (z.2=ks)))) H):=by
 intro pins s σ H x y v u Q I rx ry h;obtain⟨a,p,ks,kss,rfl,ha,rfl,hq,hk,q⟩:=h;cases rx;cases ry;obtain⟨its,rv,pl,hz⟩:=I.list hq;have e:=dk rv;subst e
 let e:Value→Bool:=λv=>match v with | .ref b=>((kss.find? λz=>z.1==b).map λz=>decide (z.2=ks)).getD false | _=>false
 have he:∀z∈kss,e (.ref z.1)=decide (z.2=ks):=λz hz'=>by
  show((kss.find? λy=>y.1==z.1).map λz=>decide (z.2=ks)).getD false=_;cases ef:kss.find? λy=>y.1==z.1 with
  |none=>have:=find?_eq_none.mp ef z hz';simp at this
  |some y =>
   have h1:=find?_some ef;have h2:=List.mem_of_find?_eq_some ef;have e1:y.1=z.1:=by simpa using h1
   have e2:=hk y h2;rw[e1,hk z hz']at e2;have e3:z.2.map kV=y.2.map kV:=by injection (Option.some.inj e2)
   rw[ki e3];rfl
 refine SeqAt.notIn_listAt e pl.isList (λy hy=>?_) ⟨.bl _,H,I,rfl,?_⟩
 ·have hy':y∈(kss.map (·.1)).map Value.ref:=by simpa using hy
  obtain⟨b,hb,rfl⟩:=mem_map.mp hy';obtain⟨z,hz',rfl⟩:=mem_map.mp hb;rw[he z hz'];intro prog w E' Q' hQ;exact wpAny_eqBool_tuple (knd:=aU prog w) (by simp;exact hu) (sI I (hk z hz') prog w) (sI I ha prog w) hQ
 ·have e1:(((kss.map (·.1)).map Value.ref).toArray.any e)=kss.any λz=>decide (z.2=ks):=by
   rw[List.any_toArray,any_map,any_map];apply Bool.eq_iff_iff.mpr;rw[any_eq_true,any_eq_true];constructor
   ·rintro⟨z,hz',h1⟩;exact⟨z,hz',by rw[←he z hz'];exact h1⟩
   ·rintro⟨z,hz',h1⟩;exact⟨z,hz',by show e (.ref z.1)=true;rw[he z hz'];exact h1⟩
  rw[e1];exact q
def sJ:V→List V→Hp→VK→Prop:=λx vs H Q=>∃d kvs k y,x=.ref d∧vs=[kV k,y]∧H d=some (.dK kvs)∧kvs.length<sizeLine∧(∀v,aY kvs k=some v→Q v H)∧(aY kvs k=none→Q y (upd H d (.dK (bG kvs k y))))
theorem jt:MtM X "dict.setdefault" sJ:=by
 intro pins s σ H x vs v us Q I rx rv h;obtain⟨d,kvs,k,y,rfl,rfl,hd,hz,q1,q2⟩:=h;cases rx;obtain⟨u,u',rfl,ru,ru'⟩:=rv.two;obtain⟨z,hs,ws,rel,dd⟩:=ou I.hok hd;have hzw:ws.length≤sizeLine:=by rw[←rel.length];exact z
 refine call_meetsIn F.slot_dict_setdefault dd.typeIs F.entry_dict_setdefault (F.args_dict_setdefault_3 _ _ _) (kt_meets_setdefault (aU X.prog X.w) d (fb ru) hs u') ⟨ws,dd,hzw,λw' hw=>?_,λhw h' dd' sb=>?_⟩
 ·have:=rel.val k;rw[hw]at this;cases e:aY kvs k with
  |none=>rw[e]at this;cases this
  |some v =>
   rw[e]at this;exact⟨v,H,I.tok _,this,q1 v e⟩
 ·have:=rel.val k;rw[hw]at this;cases e:aY kvs k with
  |some v=>rw[e]at this;cases this
  |none =>
   have he:∃q,h'.get? d=some q:=let⟨q,_,_,hq,_⟩:=dd';⟨q,hq⟩;have hl:(bG kvs k y).length≤sizeLine:=by have:=dM kvs k y;omega
   exact⟨y,_,iA I (by rw[hd];exact True.intro) sb he (iR hl hs (rel.put k ru') dd'),ru',q2 e⟩
theorem pN:dt X (.type "range") (λxs H Q=>∃i j,xs=[.int i,.int j]∧∀p,H p=none→Q (.ref p) (upd H p (.rng i j))):=by
 intro pins s σ H xs us Q I r h;obtain⟨i,j,rfl,q⟩:=h;obtain⟨u,u',rfl,⟨t,rfl⟩,⟨t',rfl⟩⟩:=ui r;refine call_range_2 ⟨.ref s.heap.objs.size,_,I.laid (t':=s.toks+1) (o:=.rng i j) (λb ob q=>get?_push_of_some _ q) (le_refl _) ?_,rfl,q _ (I.hok.fresh (le_refl _))⟩;exact⟨t,t',_,get?_push_size _ rfl⟩
theorem nc{lo:Int}{n:Nat}{acc:Array Value}(h:ItemsOf (λi v=>∃t,v=.int (lo+i*1) t) acc n):aL ((List.range n).map λk=>V.int (lo+(k:Nat))) acc.toList:=by
 obtain⟨h1,h2⟩:=h;have key:∀(l:List Value)(k:Nat),(∀(i:Nat)(v:Value),l[i]?=some v→∃t,v=Value.int (lo+(k+i:Nat)) t)→aL ((List.range' k l.length).map λk=>V.int (lo+(k:Nat))) l:=by
  intro l
  induction l with
  |nil=>intro k _;exact .nil
  |cons v l ih =>
   intro k hv;rw[length_cons,List.range'_succ,map_cons];refine .cons ?_ (ih (k+1) λi w hw=>?_)
   ·obtain⟨t,e⟩:=hv 0 v rfl;exact⟨t,e⟩
   ·obtain⟨t,e⟩:=hv (i+1) w hw;exact⟨t,by rw[e,show k+(i+1)=k+1+i by omega]⟩
 have hl:acc.toList.length=n:=by simpa using h1
 have:=key acc.toList 0 λi v hv=>by
  have hv':acc[i]?=some v:=by simpa using hv
  obtain⟨t,e⟩:=h2 i v hv';exact⟨t,by rw[e,Int.mul_one,Nat.zero_add]⟩
 rw[hl]at this;rw[List.range_eq_range'];exact this
theorem ju(hc:X.calm=true):dt X (.type "list") (λxs H Q=>∃p i j,xs=[.ref p]∧H p=some (.rng i j)∧(-(2 ^ 62)≤i∧i<2 ^ 62∧-(2 ^ 62)≤j∧j<2 ^ 62)∧(j-i).toNat≤1000 ∧
  ∀l,H l=none→Q (.ref l) (upd H l (.lst ((List.range (j-i).toNat).map λk=>V.int (i+(k:Nat)))))):=by
 intro pins s σ H xs us Q I r h;obtain⟨p,i,j,rfl,hp,⟨b1,b2,b3,b4⟩,hn,q⟩:=h;obtain⟨u,rfl,rx⟩:=gs r;cases rx;obtain⟨t,t',t'',e⟩:=(show bq X.prog X.w H s.heap p (.rng i j)from I.hok p _ hp);have hsz:Builtin.Range.rangeSize i j 1=((j-i).toNat:Nat):=by rw[rangeSize_one];split<;>omega
 refine call_list_range (n:=(j-i).toNat) (I.ok.hd hc) e (small_one b1 b2 b3 b4) hsz (by omega) λh' tk acc c' kp hg hi=>?_;refine⟨.ref s.heap.objs.size,_,I.laid (t':=tk) kp (le_refl _) (show bq X.prog X.w _ h' _ (.lst _)from⟨?_,acc.toList,c',nc hi,by simpa using hg⟩),rfl,q _ (I.hok.fresh (le_refl _))⟩
 rw[length_map,length_range,sizeLine_eq];omega
theorem lA:OpR X (binaryOp .Add) (λx y H Q=>∃a b ys,x=.ref a∧y=.ref b∧SqT X.K H a []∧SqT X.K H b ys∧Q (.ref b) H):=by
 intro pins s σ H x y v u Q I rx ry h;obtain⟨a,b,ys,rfl,rfl,ha,hb,q⟩:=h;cases rx;cases ry;obtain⟨its,r1,ht,_⟩:=I.tuple ha;obtain⟨its2,r2,hb',_⟩:=I.tuple hb;cases r1;obtain⟨⟨cls,dd,data,sl⟩,ho,hc,n,hd⟩:=id ht;obtain⟨⟨cls2,dd2,data2,sl2⟩,ho2,hc2,n2,hd2⟩:=id hb';simp only at hc hd hc2 hd2;subst hc hd hc2 hd2;exact concat_meets ⟨_,ho,rfl⟩ ⟨_,ho2,rfl⟩ noFill_tuple_add seq_tuple_add slot_tuple_add entry_tuple_add (args_tuple_add_2 _ _)
  (tuple_addW0 a b _ its2.toArray n n2 dd dd2 sl sl2 (by rfl)) ⟨ho,ho2,⟨.ref b,H,I,rfl,q⟩⟩
theorem eK(hu:X.A.units<cLine):OpR X (compareOp .Eq) (λx y H Q=>∃a b xs,x=.ref a∧y=.ref b∧SqL X.K H a xs∧SqL X.K H b []∧Q (.bl (decide (xs=[]))) H):=by
 intro pins s σ H x y v u Q I rx ry h;obtain⟨a,b,xs,rfl,rfl,ha,hb,q⟩:=h;cases rx;cases ry;obtain⟨its,r1,ht,_⟩:=I.list ha;obtain⟨its2,r2,hb',_⟩:=I.list hb;cases r2
 by_cases e:xs=[]
 ·subst e;cases r1;refine SeqAt.eq_listAt (e:=λ_=>true) ht.isList hb'.isList rfl hu (λj h1 h2=>absurd h2 (by simp)) ⟨.bl _,H,I,?_,q⟩;rfl
 ·have e2:its≠[]:=λz=>e (r1.nil_iff.mp z);have e3:its.length≠0:=λz=>e2 (length_eq_zero_iff.mp z);refine SeqAt.eq_list_lengthsAt ht.isList hb'.isList (by simp[e3]) hu ⟨.bl _,H,I,?_,q⟩;show _=Value.bool _;simp[e]
end
end L2
namespace ZT
open PySem PySem.SeqAt
section
variable{prog:Program}{w:World}{A:Around}{E:Value→Shared→Prop}{s:Shared}
end
end ZT
namespace L2
open PySem PySem.Spec PyProof.Rows
section
variable{X:Cx}{tg:Expr}
abbrev gF:=Addr×Int×List V
def numAt(zs:List gF)(i:Nat):Int:=(zs.getD i (0,0,[])).2.1
theorem qG{zs:List gF}(h:(zs.map (·.2.1)).Nodup):SRT.Ord (λi j=>decide (numAt zs i<numAt zs j)) zs.length:=by
 refine⟨λi _=>by simp,λi j k _ _ _ h1 h2=>?_,λi j hi hj hij=>?_⟩
 ·simp only[decide_eq_true_eq]at *;omega
 ·simp only[decide_eq_true_eq];have:numAt zs i≠numAt zs j:=by
   unfold numAt;rw[getD_eq_getElem?_getD,getD_eq_getElem?_getD,getElem?_eq_getElem hi,getElem?_eq_getElem hj];intro e;have e':(zs.map (·.2.1))[i]'(by simpa using hi)=(zs.map (·.2.1))[j]'(by simpa using hj):=by simpa using e
   exact hij ((getElem_inj h).mp e')
  omega
theorem lB{prog:Program}{w:World}{A:Around}{s:Shared}{b:Bool}{Q:Bool→Shared→Prop}(h:Q false s):∀(l:List Value)(i:Nat),PySem.W.KatLex prog w A b false Q (l.zip l) i s
 |[],i=>h
 |v::l,i=>kat_cons (EqAt.same v prog w _ _ (PySem.W.kat_yes (lB h l (i+1))))
theorem cn:dt X (.builtin "sorted") (λxs H Q=>∃l,∃zs:List gF,xs=[.ref l]∧(SqL X.K H l ((zs.map (·.1)).map V.ref)∨SqT X.K H l ((zs.map (·.1)).map V.ref))∧(∀z∈zs,H z.1=some (.tup (.int z.2.1::z.2.2)))∧(zs.map (·.2.1)).Nodup∧zs.length<64 ∧
  ∀zs':List gF,zs'.Perm zs→zs'.Pairwise (λa b=>a.2.1<b.2.1)→∀p,H p=none→Q (.ref p) (upd H p (.lst ((zs'.map (·.1)).map V.ref)))):=by
 intro pins s σ H xs us Q I r h;obtain⟨l,zs,rfl,hq,hk,hnd,h64,q⟩:=h;obtain⟨u,rfl,ru⟩:=gs r;cases ru;obtain⟨its,rv,pl⟩:∃its,aL ((zs.map (·.1)).map V.ref) its∧(s.heap.IsList l its.toArray∨IsTup s.heap l its.toArray):=by
  rcases hq with hq|hq
  ·obtain⟨its,rv,pl,hz⟩:=I.list hq;exact⟨its,rv,.inl pl.isList⟩
  ·obtain⟨its,rv,pl,hz⟩:=I.tuple hq;exact⟨its,rv,.inr pl⟩
 have e:=dk rv;subst e;have hlen:((zs.map (·.1)).map Value.ref).length=zs.length:=by simp
 have hobj:∀z∈zs,∃o its n t,s.heap.get? z.1=some o∧o.cls=.type "tuple"∧o.data=.seq its n∧its.toList=.int z.2.1 t::its.toList.drop 1:=λz hz'=>by
  obtain⟨_,its,rr,o,e1,e2,n,e3⟩:=I.hok z.1 _ (hk z hz');cases rr with
  |cons r1 r2 =>
   obtain⟨t,rfl⟩:=r1;exact⟨o,_,n,t,e1,e2,e3,by simp⟩
 have hget:∀i,i<zs.length→((zs.map (·.1)).map Value.ref).getD i Value.none=.ref (zs.getD i (0,0,[])).1∧zs.getD i (0,0,[])∈zs:=λi hi=>by
  rw[getD_eq_getElem?_getD,getD_eq_getElem?_getD,getElem?_map,getElem?_map,getElem?_eq_getElem hi];exact⟨rfl,getElem_mem hi⟩
 refine SRT.iW (κ:=tuples' true) (f:=λi j=>decide (numAt zs i<numAt zs j)) (by rw[hlen];exact qG hnd) pl (by rw[hlen];exact h64) ?kind ?less ?fin
 case kind =>
  intro A' s' _ kp Q' h2 hQ';have key:∀ys:List gF,(∀z∈ys,z∈zs)→∃fs:List Value,KatTups s'.heap ((ys.map (·.1)).map Value.ref) fs∧fs.length=ys.length∧∀v∈fs,∃i t,v=Value.int i t:=by
   intro ys
   induction ys with
   |nil=>intro _;exact⟨[],KatTups.nil,rfl,λv hv=>by simp at hv⟩
   |cons z ys ih =>
    intro hm;obtain⟨fs,h1,h2',h3⟩:=ih λy hy=>hm y (by simp[hy]);obtain⟨o,its,n,t,e1,e2,e3,e4⟩:=hobj z (hm z (by simp));refine⟨.int z.2.1 t::fs,KatTups.cons (kp _ _ e1) e2 e3 ?_ h1,by simp[h2'],λv hv=>?_⟩
    ·rw[←getElem?_toList,e4];rfl
    ·rcases mem_cons.mp hv with rfl|hv
     ·exact⟨_,_,rfl⟩
     ·exact h3 v hv
  obtain⟨fs,h1,h2',h3⟩:=key zs λz hz'=>hz';refine PySem.W.kat_kind (T:=.type "int") h1 (by rw[h2'];rw[hlen]at h2;omega) (λv hv=>?_) (by rfl) hQ';obtain⟨i,t,rfl⟩:=h3 v hv;exact .now
 case less =>
  intro A' s' _ kp i j C hi hj hC;rw[hlen]at hi hj;obtain⟨gi,mi⟩:=hget i hi;obtain⟨gj,mj⟩:=hget j hj;rw[gi,gj];obtain⟨oi,ii,ni,ti,a1,a2,a3,a4⟩:=hobj _ mi;obtain⟨oj,ij,nj,tj,b1,b2,b3,b4⟩:=hobj _ mj;refine PySem.W.kat_lt (kp _ _ a1) a3 (kp _ _ b1) b3 ?_
  by_cases hij:i=j
  ·subst hij;rw[a1]at b1;cases b1;rw[a3]at b3;cases b3;have:C false s':=by simpa using hC
   have e2:decide (ii.size<ii.size)=false:=by simp
   rw[e2];exact lB this _ _
  ·have hne:numAt zs i≠numAt zs j:=by
    rcases (qG hnd).tot i j hi hj hij with h1|h1<;>simp only[decide_eq_true_eq]at h1<;>omega
   rw[a4,b4];refine kat_cons (wpAny_eqBool_int ?_);have e2:((zs.getD i (0,0,[])).2.1==(zs.getD j (0,0,[])).2.1)=false:=beq_eq_false_iff_ne.mpr hne;rw[e2];refine PySem.W.kat_no ?_;exact kat_lt_int hC
 case fin =>
  intro p h' hrow hup kp _ hg;obtain⟨c,hg⟩:=hg;rw[hlen]at hrow hup;obtain⟨zs',hzs'⟩:∃zs',zs'=p.toList.map λi=>zs.getD i (0,0,[]):=⟨_,rfl⟩;have hperm:zs'.Perm zs:=by
   rw[hzs'];refine(hrow.perm.map _).trans ?_;have:(List.range zs.length).map (λi=>zs.getD i (0,0,[]))=zs:=by
    apply ext_getElem?;intro i;rw[getElem?_map]
    by_cases hi:i<zs.length
    ·rw[List.getElem?_range hi,getElem?_eq_getElem hi];show some (zs.getD i (0,0,[]))=_;rw[getD_eq_getElem?_getD,getElem?_eq_getElem hi];rfl
    ·rw[getElem?_eq_none (by rw[length_range];omega),getElem?_eq_none (by omega)];rfl
   rw[this]
  have hpl:p.size=zs.length:=hrow.size;have hpw:zs'.Pairwise (λa b=>a.2.1<b.2.1):=by
   rw[List.pairwise_iff_getElem];intro i j hi hj hij;have hi':i<p.size:=by rw[hzs',length_map,length_toList]at hi;exact hi
   have hj':j<p.size:=by rw[hzs',length_map,length_toList]at hj;exact hj
   have:=hup i j hij (by omega);simp only[decide_eq_true_eq,numAt]at this;rw[getD_eq_getD_getElem?,getD_eq_getD_getElem?,Array.getElem?_eq_getElem hi',Array.getElem?_eq_getElem hj']at this;simpa [hzs']using this
  have hout:(toArray (p.toList.map λi=>((zs.map (·.1)).map Value.ref).getD i Value.none))=((zs'.map (·.1)).map Value.ref).toArray:=by
   congr 1
   rw[hzs'];simp only[map_map];apply map_congr_left;intro i hi;have hi':i<zs.length:=mem_range.mp (hrow.perm.mem_iff.mp hi);have:=(hget i hi').1;simp only[map_map]at this;exact this
  rw[hout]at hg;have hv:aL ((zs'.map (·.1)).map V.ref) ((zs'.map (·.1)).map Value.ref):=by
   generalize zs'.map (·.1)=as
   induction as with
   |nil=>exact .nil
   |cons a as ih=>exact .cons rfl ih
  refine⟨.ref (s.heap.objs.size+1),_,I.laid (t':=s.toks) (o:=.lst ((zs'.map (·.1)).map V.ref)) kp (le_succ _) ⟨?_,_,c,hv,hg⟩,rfl,q zs' hperm hpw _ (I.hok.fresh (le_succ _))⟩;rw[length_map,length_map,hperm.length_eq,sizeLine_eq];omega
theorem ia:dt X (.builtin "sorted") (λxs H Q=>∃l,∃zs:List gF,xs=[.ref l]∧SqL X.K H l ((zs.map (·.1)).map V.ref)∧(∀z∈zs,H z.1=some (.tup (.int z.2.1::z.2.2)))∧(zs.map (·.2.1)).Nodup∧zs.length<64 ∧
  ∀zs':List gF,zs'.Perm zs→zs'.Pairwise (λa b=>a.2.1<b.2.1)→∀p,H p=none→Q (.ref p) (upd H p (.lst ((zs'.map (·.1)).map V.ref)))) :=
 λpins s σ H xs us Q I r ⟨l,zs,e,hq,h⟩=>cn pins s σ H xs us Q I r ⟨l,zs,e,.inl hq,h⟩
end
theorem ko{scope:Scope}{env:Env}(h:∀y∈scope.names,y.2≠.free):relabel scope env=scope:=by
 unfold relabel;rw[map_eq_self (l:=scope.names) (λx hx=>by
  obtain⟨n,k⟩:=x;have:(k==NameKind.free)=false:=by simpa using h _ hx
  simp[this])]
theorem dS{X:Cx}{scope:Scope}(hk:scope.kind=.function)(hf:∀y∈scope.names,y.2≠.free)(hc:∀y∈scope.names,y.2≠.cell)(hn:∀x∈scope.names,x.2=.local→scope.names.lookup x.1=some .local):LcOk X scope [] :=
 ⟨hk,closureFor_none hf,hn,hc,λx c h=>by simp at h,λx h=>by
  rw[ko hf]at h;rcases h with h|h
  ·exact absurd rfl (hc _ (PySem.mem_of_lookup h))
  ·exact absurd rfl (hf _ (PySem.mem_of_lookup h))⟩
theorem uo{k:Nat}{js:List Nat}{J:It}{g:TG}{te:TE}{σ:St}{H1:Hp}{Q:VK}{p:Addr}(n:Nat)(hn:n≤1000)(Pv:Nat→List V→St→Hp→Prop)(h0:Pv 0 [] (di k js σ) (upd H1 p (.lst [])))(hy:∀i ys σ' H',Pv i ys σ' H'→ys.length≤i)(go:∀i ys σ' H',i<n→Pv i ys σ' H'→J.go i H')(stop:∀ys σ' H',Pv n ys σ' H'→J.stop n H'∧Q (.ref p) H')(step:∀i ys σ' H',i<n→Pv i ys σ' H'→∀x H2,J.yld i H' x H2→g x σ' H2 λσ2 H3=>te σ2 H3 λy H4=>H4 p=some (.lst ys)∧Pv (i+1) (ys++[y]) σ2 (upd H4 p (.lst (ys++[y]))))(mg:∀x σ H (Q Q':St→Hp→Prop),(∀σ H,Q σ H→Q' σ H)→g x σ H Q→g x σ H Q')(me:∀σ H (Q Q':VK),(∀y H,Q y H→Q' y H)→te σ H Q→te σ H Q'):
  LcW k js g te σ Q J H1 p:=by
 refine⟨λi m ys σ' H'=>m=n-i∧i≤n∧Pv i ys σ' H',⟨n,by simp,zero_le _,h0⟩,?_⟩;rintro i m ys σ' H' ⟨rfl,hi,hp⟩
 by_cases hlt:i<n
 ·refine .inr ⟨go i ys σ' H' hlt hp,?_,λx H2 y=>?_⟩
  ·have:=hy i ys σ' H' hp;exact lt_of_le_of_lt this (aC (by omega))
  ·refine mg _ _ _ _ _ (λσ2 H3 h3=>me _ _ _ _ (λz H4 h4=>⟨h4.1,n-(i+1),by omega,rfl,hlt,h4.2⟩) h3) (step i ys σ' H' hlt hp x H2 y)
 ·have e:i=n:=by omega
  subst e;exact .inl (stop ys σ' H' hp)
theorem af{H:Hp}{p:Addr}{o:HO}(h:H p=none):Same H (upd H p o):=λb u e=>by rw[ak (cp e h)];exact e
theorem bu{H:Hp}{p a:Addr}{o u:HO}(h:H p=none)(e:H a=some u):upd H p o a=some u:=by rw[ak (cp e h)];exact e
theorem aP{H0 H:Hp}{p:Addr}{o:HO}(h0:H0 p=none)(s:Same H0 H):Same H0 (upd H p o):=λb u e=>by
 rw[ak (cp e h0)];exact s b u e
structure Fly(P:Program)(w:World)(outer:List Env)(H:Hp)(s:Shared)(H':Hp)(ea C:Addr)(s':Shared):Prop where
 os:s'.os=s.os
 bare:AllBare s'.gens
 un:Un (frs outer) [] H H' s.heap s'.heap
 new:H' ea=none
 fly:∃B a0,FlyingW B outer ea (.ref C) a0 s'.heap∧HOk P w H' B∧(∀b o,s.heap.get? b=some o→H b=none→b∉frs outer→B.get? b=some o) ∧
  ∀b o,s.heap.get? b=some o→b∉frs outer→∃o',B.get? b=some o'
def CX1(P:Program)(w:World):CXT:=λouter H s E e s'=>∃ea C H',e=.ref ea∧Fly P w outer H s H' ea C s'∧E (.ref C) none H'
theorem bq.ex{P:Program}{w:World}{H:Hp}{h:Heap}{a:Addr}{o:HO}(x:bq P w H h a o):∃ob,h.get? a=some ob:=by
 cases o with
 |lst xs=>obtain⟨_,_,_,_,e⟩:=x;exact⟨_,e⟩
 |tup xs=>obtain⟨_,_,_,ob,e,_⟩:=x;exact⟨ob,e⟩
 |dK kvs=>obtain⟨_,_,_,_,o,_,_,e,_⟩:=x;exact⟨_,e⟩
 |dT kvs=>obtain⟨_,_,_,_,o,_,_,e,_⟩:=x;exact⟨_,e⟩
 |set S n=>obtain⟨o,_,_,_,e,_⟩:=x;exact⟨_,e⟩
 |ins C dx fs=>obtain⟨_,_,_,e,_⟩:=x;exact⟨_,e⟩
 |own y=>obtain⟨_,e⟩:=x;exact⟨_,e⟩
 |xd fs=>obtain⟨_,⟨_,_,_,e,_⟩,_⟩:=x;exact⟨_,e⟩
 |rng lo hi=>obtain⟨_,_,_,e⟩:=x;exact⟨_,e⟩
 |frz ob u=>obtain⟨e,_⟩:=x;exact⟨_,e⟩
 |tbl ps=>exact⟨_,(show h.get? a=some _ from x)⟩
 |met f y=>exact⟨_,(show h.get? a=some _ from x)⟩
 |ext φ=>obtain⟨_,⟨_,e⟩,_⟩:=x;exact⟨_,e⟩
theorem qH{P:Program}{w:World}{H:Hp}{h:Heap}{l:List Addr}(x:HOk P w H h)(hl:∀b∈l,H b=none):HOk P w H (hideAll h l):=λa o e =>
 (x a o e).stay (λb u hb q=>hideAll_get l q λz=>by
  have:=hl b z;rcases hb with hb|hb
  ·rw[hb,e]at this;cases this
  ·rw[hb]at this;cases this) (λ_ q=>q) λ_ _ q=>q
section
variable{P:Program}{w:World}{l:List Env}{H H':Hp}{h1 h2 h3 B:Heap}{ea:Addr}{cls a0:Value}
theorem lC(un:Un (frs l) [] H H' h1 h2)(fl:FlyingW B l ea cls a0 h2)(hB:HOk P w H' B)(kp:∀b o,h1.get? b=some o→H b=none→b∉frs l→B.get? b=some o)(th:∀b o,h1.get? b=some o→b∉frs l→∃o',B.get? b=some o')(st:B.StaysIn h3)(hs:h2.UpToSlots h3):Un (frs l) [] H H' h1 h3∧HOk P w H' h3:=by
 refine⟨⟨λb o e n hb _=>st b o (kp b o e n hb),λb o e n hb hx=>?_,un.free,λb o e _=>?_,un.tups,un.frzs,un.tbls⟩,hB.kept st⟩
 ·obtain⟨sl,q⟩:=un.slot b o e n hb hx;obtain⟨_,o',ho',hd⟩:=fl.2.2.1.mem hb;rw[q]at ho';cases ho';obtain⟨sl',q'⟩:=hs b _ q hd;exact⟨sl',q'⟩
 ·by_cases hb:b∈frs l
  ·obtain⟨_,o',ho',hd⟩:=fl.2.2.1.mem hb;obtain⟨sl',q'⟩:=hs b _ ho' hd;exact⟨_,q'⟩
  ·obtain⟨o',q⟩:=th b o e hb;exact⟨o',st b o' q⟩
end
section
variable{X:Cx}{pins:List (Addr×Obj)}{σ:St}{H H':Hp}{s s':Shared}{ea C:Addr}{E:XK}
theorem Inv.fly_up(I:Inv X pins σ H s)(hex:X.ex=[])(J:Inv X pins σ H' s')(new:H' ea=none){B:Heap}{a0:Value}(fl:FlyingW B X.outer ea (.ref C) a0 s'.heap)(hB:HOk X.prog X.w H' B)(kp:∀b o,s.heap.get? b=some o→H b=none→b∉frs X.stack→B.get? b=some o)(th:∀b o,s.heap.get? b=some o→b∉frs X.stack→∃o',B.get? b=some o'):Fly X.prog X.w X.outer X.H₀ X.s₀ H' ea C s':=by
 have ub:=I.base;rw[hex]at ub;have uj:=J.base;rw[hex]at uj;have ne:∀b o,X.s₀.heap.get? b=some o→b∉frs X.outer→b∉frs X.stack:=λb o e n hb=>by
  rcases mem_cons.mp (I.stkSub b hb)with z|z
  ·have:=lt_size e;rw[z]at this;exact absurd (lt_of_lt_of_le this I.ok.above) (lt_irrefl _)
  ·exact n z
 refine⟨J.os,J.bare,uj,new,B,a0,fl,hB,λb o e n hb=>?_,λb o e hb=>?_⟩
 ·exact kp b o (ub.keep b o e n hb (by simp)) (ub.free b o e n (by simp)) (ne b o e hb)
 ·obtain⟨o',q⟩:=ub.there b o e (by simp);exact th b o' q (ne b o e hb)
structure Lv(X:Cx)(E:XK):Prop where
 ex:X.ex=[]
 stk:X.stack=X.env::X.outer
 fr:X.env.frame=some X.env.locals
 xe:X.xe=λe s'=>wpAny (model X.prog X.w) X.A (leaving X.env e) (λ_ s''=>CX1 X.prog X.w X.outer X.H₀ X.s₀ E e s'') (λe' s''=>CX1 X.prog X.w X.outer X.H₀ X.s₀ E e' s'') s'
theorem ca{P:Program}{w:World}{K:PySem.W.Frag}{mg:Str→Option Value}{base:Heap}{N:List Str}{qual:Str}{scope:Scope}{f:Addr}{cd:Value}{A:Around}{outer:List Env}{s:Shared}{H:Hp}{E:XK} :
  Lv (hU (CX1 P w) P w K mg base N qual scope f cd A outer s H E) E:=⟨rfl,rfl,rfl,rfl⟩
theorem cV(L:Lv X E):hJ (CX1 X.prog X.w) X E:=by
 intro pins σ H s e s' I h;obtain⟨ea,C,H',rfl,F,hE⟩:=h;rw[L.xe];obtain⟨B,a0,fl,hB,kp,th⟩:=id F.fly;have fl':=fl;rw[L.stk]at fl';refine wpAny_leaves_onW (by rw[I.ok.frames,L.stk]) L.fr fl' λh' fl2 hs=>?_;obtain⟨u,ok⟩:=lC F.un fl hB kp th fl2.1 hs;have J:Inv X pins σ H' {s' with heap:=h'}:=I.call' (s':={s' with heap:=h'}) F.os u ok F.bare λb z=>absurd z (by simp)
 exact⟨ea,C,H',rfl,I.fly_up L.ex J F.new fl2 hB kp th,hE⟩
theorem Inv.ground(I:Inv X pins σ H s):(hideAll s.heap (frs X.stack)).StaysIn s.heap∧s.heap.FunFrames (hideAll s.heap (frs X.stack)) X.stack∧HOk X.prog X.w H (hideAll s.heap (frs X.stack)) :=
 ⟨λb o q=>of_hideAll _ q,PySem.W.funFrames_hide I.stack λenv he b hb=>List.mem_filterMap.mpr ⟨env,he,hb⟩,qH I.hok I.stkFree⟩
theorem wP(L:Lv X E)(I:Inv X pins σ H s){h':Heap}{vs:List Value}(hx:Heap.MadeExcOf s.heap h' ea (.ref C) vs)(hE:E (.ref C) none H):X.xe (.ref ea) {s with heap:=h'}:=by
 rw[L.xe];obtain⟨g1,g2,g3⟩:=I.ground;have g2':s.heap.FunFrames (hideAll s.heap (frs X.stack)) (X.env::X.outer):=L.stk ▸ g2;refine wpAny_leaves_madeW (s:={s with heap:=h'}) (by rw[I.ok.frames,L.stk]) L.fr g1 g2' hx λh'' t fl _ _ hs=>?_;have hs':s.heap.UpToSlots h'':=(Heap.UpToSlots.of_keeps hx.keeps).trans hs;have u:Un (frs X.stack) [] H H s.heap h'':=⟨λb o e n hb _=>fl.1 b o (hideAll_get _ e hb),λb o e n hb _=>by
   obtain⟨_,o',ho',hd⟩:=g2.mem hb;rw[e]at ho';cases ho';exact hs' b o e hd,λb o e n _=>n,λb o e _=>by
   by_cases hb:b∈frs X.stack
   ·obtain⟨_,o',ho',hd⟩:=g2.mem hb;obtain⟨sl,q⟩:=hs' b o' ho' hd;exact⟨_,q⟩
   ·exact⟨o,fl.1 b o (hideAll_get _ e hb)⟩,λ_ _ q=>q,λ_ _ _ q=>q,λb ps q=>⟨#[],by simpa using q⟩⟩
 have J:Inv X pins σ H {s with heap:=h''}:=I.call' (s':={s with heap:=h''}) rfl u (g3.kept fl.1) I.bare λb z=>absurd z (by simp)
 have new:H ea=none:=by
  cases q:H ea with
  |none=>rfl
  |some o =>
   obtain⟨ob,e⟩:=(I.hok ea o q).ex;have h2:=hx.new;rw[e]at h2;cases h2
 exact⟨ea,C,H,rfl,I.fly_up L.ex J new fl g3 (λb o e _ hb=>hideAll_get _ e hb) λb o e hb=>⟨o,hideAll_get _ e hb⟩,hE⟩
end
end L2
namespace XI
open PySem PySem.Spec PySem.W
section
variable{prog:Program}{w:World}{A:Around}{E:Value→Shared→Prop}{h:Heap}{g:Array GenState}{d:Drawn}{t:Nat}{os:OsState}{a:Addr}{o:Obj}{vs:Array Value}{nm q:Str}{C N:Addr}{bs bm:List Value}{hdct:Bool}{sn:List Str}{sub:List Value}{ab:Bool}{col:Option Bool}{dd:Option Addr}{k0 k1 k2 k3 k5:Option Value}{newId:String}
end
def uq(e C:Addr)(h:Heap):Prop:=∃o vs,h.get? e=some o∧o.cls=.ref C∧o.data=.fields vs
end XI
namespace L2
open PySem PySem.Spec PyProof.Rows
section
variable{X:Cx}{pins:List (Addr×Obj)}{σ:St}{H:Hp}{s:Shared}
abbrev bmV:List Value:=[.type "ValueError",.type "Exception",.type "BaseException",.type "object"]
abbrev wQ(X:Cx)(x:Str)(C:Addr):Prop:=OwnCls x C bmV "ValueError.__new__" X.mg X.base
def vk(C:Addr)(E:XK)(ta:TE):TS:=λ_ σ H=>cO ta jq σ H λvs H1=>vs.length≤sizeLine∧E (.ref C) none H1
theorem dw{E:XK}(L:Lv X E){x:Str}{C:Addr}{np cpos pos:Pos}{a:Expr}{ta:TE}(O:wQ X x C)(hh:X.A.handled=none)(hg:Gl X x)(ha:PE X a ta)(hs:starEach [a] X.env=[(false,eval a X.env)]:=by rfl)(hd:(x==("__debug__":Str))=false:=by decide):PS X (.Raise (some (.Call (.Name x np) [a] [] cpos)) none pos) (vk C E ta):=by
 intro pins s σ H D I h;obtain⟨tl,N,nm,q,bs,hdct,sn,sub,ab,col,dd,k0,k1,k2,k3,k5,mN,hC,hN,hni,T⟩:=O.obj;refine wpAny_Raise_call_subT (C:=C) (nm:=nm) (q:=q) (N:=N) (bs:=bs) (bm:=tl) (hdct:=hdct) (sn:=sn) (sub:=sub) (ab:=ab) (col:=col) (dd:=dd) (k0:=k0) (k1:=k1) (k2:=k2) (k3:=k3) (k5:=k5)
  PySem.F.excBase_ValueError (mN:=mN) (T.hasType PySem.F.excBase_ValueError.hasBase) hh (by rw[hs];rfl) hni (jZ I hg O.bound ⟨rfl,?_⟩ hd)
 have hA:PA X [a] (cO ta jq):=aa ha ah hs;have h':=hA cpos pins s σ H (λvs H1=>vs.length≤sizeLine∧E (.ref C) none H1) I h;rw[hs]at h'⊢;refine evalArgs_plain (thn h' λus s2 hpt=>?_);obtain⟨vs,H2,I2,r2,q2⟩:=hpt;exact⟨rfl,by rw[←r2.length];exact q2.1,I2.bk _ _ hC,hN.keeps I2.bk,T.keeps I2.bk,λh' e hx=>wP L I2 hx q2.2⟩
theorem sK{M:Model}{A:Around}{E:Value→Shared→Prop}{nm q:Str}{C N:Addr}{bs bm:List Value}{hdct:Bool}{sn:List Str}{sub:List Value}{ab:Bool}{col:Option Bool}{dd:Option Addr}{k0 k1 k2 k3 k5:Option Value}{newId:String}{h:Heap}{g:Array GenState}{d:Drawn}{t:Nat}{os:OsState}{e T:Addr}{oe:Obj}{Q:Bool→Shared→Prop}(hT:h.get? T=some (excClassObj nm q T N bs bm hdct sn sub ab col dd k0 k1 k2 k3 k5 newId))(hbase:bm.contains (.type "BaseException")=true)(LCT:Looks M h (isSubtype (.ref C) (.ref T)) true)(he:h.get? e=some oe)(hcls:oe.cls=.ref C)(hq:Q true ⟨h,g,d,t,os⟩):wpAny M A (excMatches (.ref e) (.ref T)) Q E ⟨h,g,d,t,os⟩:=by
 have hcB:(Value.ref T::bm).contains (.type "BaseException")=true:=by rw[List.contains_cons,hbase,Bool.or_true]
 have f:=tc_notTuple;unfold excMatches
 repeat (first|(with_reducible refine wpAny_loadPart_at he ?_;rw[hcls])|with_reducible refine LCT.at ?_|with_reducible refine wpAny_loadPart_at hT ?_|(with_reducible refine wpAny_isSubtype_exc hT ?_;rw[hcB])|wp_step)
 exact hq
theorem Inv.caught{H':Hp}{ea C:Addr}{s':Shared}{B h6:Heap}{a0:Value}(I:Inv X pins σ H s)(F:Fly X.prog X.w X.stack H s H' ea C s')(fl:FlyingW B X.stack ea (.ref C) a0 s'.heap)(hB:HOk X.prog X.w H' B)(kp:∀b o,s.heap.get? b=some o→H b=none→b∉frs X.stack→B.get? b=some o)(th:∀b o,s.heap.get? b=some o→b∉frs X.stack→∃o',B.get? b=some o')(f6:FlyingW B X.stack ea (.ref C) a0 h6)(hs:s'.heap.UpToSlots h6):
  Inv X pins σ (upd H' ea (.ext (XI.uq ea C))) {s' with heap:=h6}:=by
 obtain⟨u,ok⟩:=lC F.un fl hB kp th f6.1 hs;obtain⟨oe,vs,g1,g2,g3,_⟩:=f6.first;have ne:∀b o,s.heap.get? b=some o→b≠ea:=λb o e z=>by
  by_cases hb:b∈frs X.stack
  ·obtain⟨_,o',ho',hd⟩:=f6.2.2.1.mem hb;rw[z,g1]at ho';cases ho';exact hd _ g3
  ·obtain⟨o',q⟩:=th b o e hb;rw[z,f6.2.1]at q;cases q
 have ner:∀b u,H' b=some u→b≠ea:=λb u e z=>by rw[z,F.new]at e;cases e
 refine I.call' (s':={s' with heap:=h6}) F.os ⟨u.keep,u.slot,λb o e n hx=>?_,u.there,λb xs e=>?_,λb o v e=>?_,λb ps e=>?_⟩ (λb ob e=>?_) F.bare λb z=>absurd z (by simp)
 ·rw[ak (ne b o e)];exact u.free b o e n hx
 ·have:=u.tups b xs e;rw[ak (ner b _ this)];exact this
 ·have:=u.frzs b o v e;rw[ak (ner b _ this)];exact this
 ·obtain⟨more,this⟩:=u.tbls b ps e;exact⟨more,by rw[ak (ner b _ this)];exact this⟩
 ·by_cases hb:b=ea
  ·subst hb;rw[ac]at e;cases e;refine⟨⟨oe,vs,g1,g2,g3⟩,⟨oe,g1⟩,λh1 h2 ⟨o,vs,a1,a2,a3⟩ k=>⟨o,vs,k o a1,a2,a3⟩⟩
  ·rw[ak hb]at e;exact(ok b ob e).stay (λ_ _ _ q=>q) (λc q=>by rw[ak (ner c _ q)];exact q) λc xs q=>by rw[ak (ner c _ q)];exact q
structure TryOk(X:Cx):Prop where
 no:∀e s,¬X.xe e s
 stk:X.stack=X.env::X.outer
 fr:X.env.frame=some X.env.locals
end
end L2
namespace DL
open PySem PySem.Spec PyProof.Rows
theorem iX:entryFor table "dict.update.loop"=some Builtin.«dict.update.loop»:=entryFor_of_tree (by kernel_rfl)
theorem eL:plainId "dict.update.loop"=true:=by decide +kernel
theorem kq:typeLookup (.type "list") "keys"=pure none:=by rw[typeLookup_type,builtinLookup_eq_fast];kernel_rfl
section
variable{prog:Program}{w:World}{A:Around}{E:Value→Shared→Prop}{s:Shared}
theorem sL{a:Addr}{xs:Array Value}{k:Nat}{sl:Array (Option Value)}{u:Tok}{Q:Value→Shared→Prop}(hx:s.heap.get? a=some {cls:=.type "list",dict:=none,data:=.seq xs k,slots:=sl})(hA:A.handled=none)(h:∀h' tk e,Heap.NewExcOf s.heap h' e "AttributeError"→E (.ref e) {s with heap:=h',toks:=tk}):
  wpAny (model prog w) A (getAttrBy (.ref a) (.str "keys" u) false) Q E s:=by
 obtain⟨hp,g,d,tk,os⟩:=s;have hT:∀tk',(⟨hp,g,d,tk',os⟩:Shared).TypeIs (.ref a) "list":=λ_=>⟨_,hx,rfl⟩;have f1:=sub_AttributeError;have f3:=F.slot_list_getattribute.lookup;have f4:=F.slot_list_getattribute.bind (.ref a);have f5:=am_list_getattr_none;unfold getAttrBy
 repeat (any_goals (first|assumption|exact hT _|((with_reducible show wpAny _ _ (call (Value.builtin "list.__getattribute__") _ _) _ _ _);refine call_meets F.slot_list_getattribute (hT _) am_entry_list_getattribute (F.args_list_getattribute_2 _ _) (meets_getattribute_miss_list a xs k sl "keys" _ kq (by decide) (by size_fits)) ⟨hx,hA,λh' tk' e hx'=>?_⟩)|wp_step))
 obtain⟨t',u',he⟩:=hx'.there;show wpAny _ _ (getattributeRaised _ _ _ _ _ _ _) _ _ _;unfold getattributeRaised
 repeat (any_goals (first|assumption|wp_step))
 exact h _ _ _ hx'.of
theorem sM{a:Addr}{xs:Array Value}{k:Nat}{sl:Array (Option Value)}{Q:Option Value→Shared→Prop}(hx:s.heap.get? a=some {cls:=.type "list",dict:=none,data:=.seq xs k,slots:=sl})(hA:A.handled=none)(h:∀h' tk,(∀b o,s.heap.get? b=some o→h'.get? b=some o)→Q none {s with heap:=h',toks:=tk}):
  wpAny (model prog w) A (getAttr? (.ref a) "keys") Q E s:=by
 obtain⟨hp,g,d,tk,os⟩:=s;have f1:=sub_AttributeError;unfold getAttr? getAttrBy?
 repeat (any_goals (first|assumption|((with_reducible show wpAny _ _ (getAttrBy _ _ false) _ _ _);refine sL (s:=⟨hp,g,d,_,os⟩) hx hA λh' tk' e hx'=>?_)|wp_step))
 obtain⟨⟨oc,od,odt,osl⟩,vs,he,hc,_,_⟩:=hx'.there;simp only at hc;subst hc
 repeat (any_goals (first|assumption|with_reducible refine wpAny_loadPart_at he ?_|wp_step))
 exact h h' tk' λb o e=>hx'.keeps b o e
end
section
variable{prog:Program}{w:World}{A:Around}{E:Value→Shared→Prop}{R:Result→Shared→Prop}{I:Addr}{fp wr:List Addr}{G:Array GenState→Array GenState→Prop}{n:Nat}{P:Nat→Value→Prop}{St:Nat→Shared→Prop}
theorem pO(W:WalksS prog w A.in1 I fp wr G n P St)(d:Addr)(hdf:d∉fp)(ad:Nat→Addr)(kk vv:Nat→Value)(hval:∀i v,P i v→v=.ref (ad i))(had:∀i,i<n→ad i∉d::wr)(D:Nat→Heap→Prop)(hD:∀i (h h':Heap),D i h→(∀b o,b∉wr→h.get? b=some o→h'.get? b=some o)→D i h')(step:∀i (s:Shared) (E:Value→Shared→Prop) (Q:Unit→Shared→Prop),i<n→D i s.heap→(∀h' tk,s.toks≤tk→SameBut d s.heap h'→D (i+1) h'→Q () {s with heap:=h',toks:=tk})→wpAny (model prog w) A.in1 (dictSet d (kk i) (vv i)) Q E s):
  ∀(k i:Nat)(s:Shared)(tk:Tok),n-i=k→i≤n→St i s→D i s.heap→(∀j,j<n→IsTup s.heap (ad j) #[kk j,vv j]) →
   (∀s',Moved (d::wr) G s s'→D n s'.heap→R (.ok (.ret .none)) s') →
   codeAny (model prog w) A (.builtin "dict.update.loop" ⟨[.ref d,.ref I,.int i tk,.none],[]⟩) R s:=by
 have hdw:d∉wr:=λh=>hdf (W.sub _ h);have hsub:∀b∈wr,b∈d::wr:=λb hb=>mem_cons_of_mem _ hb;have hadw:∀i,i<n→ad i∉wr:=λi hi h=>had i hi (mem_cons_of_mem _ h);have hadd:∀i,i<n→ad i≠d:=λi hi h=>had i hi (by rw[h];exact mem_cons_self);intro k
 induction k with
 |zero =>
  intro i s tk hk hi hst hDi htp hR;have hin:i=n:=by omega
  subst hin;refine codeAny_builtin iX ?_;rw[Around.under_plainId eL _];show wpAny _ A.in1 (pyNext (.ref I) >>= _) _ _ s;refine wpAny_bind (W.done s _ _ hst λs' hm=>?_);show wpAny _ A.in1 (Builtin.Dict.addKeywords d [] >>= λ_=>ret Value.none) _ _ s';exact wpAny_bind (wpAny_pure (wpAny_pure (hR s' (hm.mono hsub) (hD _ _ _ hDi hm.heap))))
 |succ k ih =>
  intro i s tk hk hi hst hDi htp hR;have hlt:i<n:=by omega
  refine codeAny_builtin iX ?_;rw[Around.under_plainId eL _];show wpAny _ A.in1 (pyNext (.ref I) >>= _) _ _ s;refine wpAny_bind (W.item i s _ _ hlt hst λv s' hP hst' hm=>?_);have hv:=hval i v hP;subst hv;have hDi':D i s'.heap:=hD _ _ _ hDi hm.heap;have htp':∀j,j<n→IsTup s'.heap (ad j) #[kk j,vv j]:=λj hj=>by
   obtain⟨o,ho,r⟩:=htp j hj;exact⟨o,hm.heap _ o (hadw j hj) ho,r⟩
  obtain⟨ot,hot,hct,nt,hdt⟩:=htp' i hlt;have hT:s'.TypeIs (.ref (ad i)) "tuple":=⟨ot,hot,hct⟩;refine wpAny_bind (wpAny_holding ?_);refine wpAny_bind (wpAny_tryCatch ?_);unfold Builtin.Dict.pairItems;refine wpAny_bind (wpAny_typeOf hT ?_);rw[if_pos (by decide)];generalize hDS:dictSet=DS;obtain⟨hp,g,dr,t,os⟩:=s';obtain⟨ocls,odict,odata,oslots⟩:=ot;simp only at hct hdt;subst hct hdt
  repeat (any_goals (first|assumption|with_reducible refine wpAny_loadPart_at hot ?_|wp_step))
  subst hDS;refine step i _ _ _ hlt hDi' λh' tk' htk hsb hD'=>?_;have hsb':SameBut d hp h':=hsb;have hkeep:∀b o,b∉d::wr→hp.get? b=some o→h'.get? b=some o:=λb o hb e=>by
   rw[hsb'.2 b (λz:b=d=>hb (by rw[z];exact mem_cons_self))];exact e
  refine wpAny_pure ⟨plainId_quiet eL _,?_⟩;refine ih (i+1) _ _ (by omega) hlt (W.frame _ _ _ _ hst' htk λb hb o e=>?_) hD' (λj hj=>?_) λs'' hm'' hD''=>?_
  ·rw[hsb'.2 b (λh:b=d=>hdf (by rw[←h];exact hb))];exact e
  ·obtain⟨o,ho,r⟩:=htp' j hj;exact⟨o,hkeep _ o (had j hj) ho,r⟩
  ·exact hR s'' (Moved.trans W.gtrans ((hm.mono hsub).then_heap htk λb o hb e=>hkeep b o hb e) hm'') hD''
end
section
variable{prog:Program}{w:World}{A:Around}{E:Value→Shared→Prop}{s:Shared}
theorem fc{l:Addr}{items:Array Value}{nl:Nat}{sl:Array (Option Value)}{Q:Value→Shared→Prop}(hh:A.handled=none)(hl:s.heap.get? l=some {cls:=.type "list",dict:=none,data:=.seq items nl,slots:=sl})(ad:Nat→Addr)(kk vv:Nat→Value)(hi:∀(i:Nat) (v:Value),items[i]?=some v→v=Value.ref (ad i))(ht:∀i,i<items.size→IsTup s.heap (ad i) #[kk i,vv i])(D:Nat→Heap→Prop)(hD0:∀h',h'.get? s.heap.objs.size=some {cls:=.type "dict",data:=.dict #[]}→(∀b o,s.heap.get? b=some o→h'.get? b=some o)→D 0 h')(hD:∀i (h h':Heap),D i h→(∀b o,b≤s.heap.objs.size→h.get? b=some o→h'.get? b=some o)→D i h')(step:∀i (s':Shared) (E:Value→Shared→Prop) (Q:Unit→Shared→Prop),i<items.size→D i s'.heap→(∀h' tk,s'.toks≤tk→SameBut s.heap.objs.size s'.heap h'→D (i+1) h'→Q () {s' with heap:=h',toks:=tk}) →
   wpAny (model prog w) A.in1.in1 (dictSet s.heap.objs.size (kk i) (vv i)) Q E s')(h:∀h' tk,D items.size h'→(∀b o,s.heap.get? b=some o→h'.get? b=some o)→Q (.ref s.heap.objs.size) {s with heap:=h',toks:=tk}):
  wpAny (model prog w) A (call (.type "dict") [.ref l]) Q E s:=by
 refine callType_codes (Q₁:=λobj s₁=>obj=.ref s.heap.objs.size∧s₁={s with heap:=s.heap.push {cls:=.type "dict",data:=.dict #[]}}) F.kt_called_dict (F.kt_typeCall_dict_1 _) F.entry_dict_init (kt_code_dict_new _ ⟨rfl,rfl⟩) ?_;rintro obj s₁ ⟨rfl,rfl⟩;have hnew:(s.heap.push {cls:=.type "dict",data:=.dict #[]}).get? s.heap.objs.size=some {cls:=.type "dict",data:=.dict #[]}:=get?_push_size _ rfl;have hTd:Shared.TypeIs {s with heap:=s.heap.push {cls:=.type "dict",data:=.dict #[]}} (.ref s.heap.objs.size) "dict":=⟨_,hnew,rfl⟩
 have hl':(s.heap.push {cls:=.type "dict",data:=.dict #[]}).get? l=some {cls:=.type "list",dict:=none,data:=.seq items nl,slots:=sl}:=get?_push_of_some _ hl;have hTl:Shared.TypeIs {s with heap:=s.heap.push {cls:=.type "dict",data:=.dict #[]}} (.ref l) "list":=⟨_,hl',rfl⟩
 refine⟨hTd,F.args_dict_init_2 _ _,?_⟩;unfold Builtin.«dict.__init__»;refine wpAny_bind ?_;unfold Builtin.Dict.selfAndRest;refine wpAny_bind (wpAny_notOrdered_dict hTd ?_);show wpAny _ _ (pure (s.heap.objs.size,[Value.ref l])) _ _ _;refine wpAny_pure ?_;show wpAny _ _ (Builtin.Dict.updateFrom "dict.__init__" s.heap.objs.size (.ref l) [] .none) _ _ _;unfold Builtin.Dict.updateFrom;refine wpAny_bind (wpAny_typeOf hTl ?_);rw[if_pos (by decide)];refine wpAny_bind (sM (s:={s with heap:=s.heap.push {cls:=.type "dict",data:=.dict #[]}}) hl' (show A.in1.in1.handled=none by simp[hh]) λh1 tk1 hk1=>?_);have hk1':∀b o,(s.heap.push {cls:=.type "dict",data:=.dict #[]}).get? b=some o→h1.get? b=some o:=hk1;have hL1:h1.IsList l items:=⟨_,hk1' _ _ hl',rfl,nl,rfl⟩;rw[if_pos (show(none:Option Value).isNone=true from rfl)];refine wpAny_bind (wpAny_rule ?_);refine wpAny_bind (wpAny_pyIter_list hL1 ?_);have hlS:l<s.heap.objs.size:=lt_size hl;have hS1:s.heap.objs.size<h1.objs.size:=lt_size (hk1' _ _ hnew);have k0:∀b o,s.heap.get? b=some o→h1.get? b=some o:=λb o e=>hk1' b o (get?_push_of_some _ e);have hadlt:∀i,i<items.size→ad i<s.heap.objs.size:=λi hi'=>by
  obtain⟨o,ho,_⟩:=ht i hi';exact lt_size ho
 refine wpAny_pure ⟨plainId_quiet eL _,pO (A:=A.in1) ((Walks.list (show A.in1.in1.handled=none by simp[hh]) h1.objs.size l (ne_of_lt (lt_trans hlS hS1)) items).toS) s.heap.objs.size ?hdf ad kk vv hi ?had D ?hD' (λi s' E Q hi' hDi hq=>step i s' E Q hi' hDi hq)
  (items.size-0) 0 _ 0 (by omega) (zero_le _) ⟨⟨_,get?_push_size _ rfl,rfl,rfl⟩,hL1.push _⟩ ?hD0' ?ht' λs' hm hDn=>?_⟩
 case hdf =>
  simp only[mem_cons,not_mem_nil,or_false,not_or];exact⟨ne_of_lt hS1,Nat.ne_of_gt hlS⟩
 case had =>
  intro i hi';simp only[mem_cons,not_mem_nil,or_false,not_or];exact⟨ne_of_lt (hadlt i hi'),ne_of_lt (lt_trans (hadlt i hi') hS1)⟩
 case hD' =>
  intro i g g' hDi hk;refine hD i g g' hDi λb o hb e=>hk b o ?_ e;simp only[mem_cons,not_mem_nil,or_false];exact ne_of_lt (lt_of_le_of_lt hb hS1)
 case hD0' =>
  exact hD0 _ (get?_push_of_some _ (hk1' _ _ hnew)) λb o e=>get?_push_of_some _ (k0 b o e)
 case ht' =>
  intro j hj;obtain⟨o,ho,r⟩:=ht j hj;exact⟨o,get?_push_of_some _ (k0 _ _ ho),r⟩
 obtain⟨h',g',d',tk',os'⟩:=s';have eg:g'=s.gens:=hm.gens;have ed:d'=s.drawn:=hm.drawn;have eo:os'=s.os:=hm.os;subst eg;subst ed;subst eo;refine⟨rfl,h h' tk' hDn λb o e=>?_⟩;have hb:b<s.heap.objs.size:=lt_size e;refine hm.heap b o ?_ (get?_push_of_some _ (k0 b o e));simp only[mem_cons,not_mem_nil,or_false,not_or];exact⟨ne_of_lt hb,ne_of_lt (lt_trans hb hS1)⟩
end
end DL
namespace L2
open PySem PySem.Spec PyProof.Rows
section
variable{X:Cx}
theorem vm{pins:List (Addr×Obj)}{σ:St}{H:Hp}{s:Shared}(I:Inv X pins σ H s){a:Addr}{x y:V}(h:H a=some (.tup [x,y])):∃u v,aN x u∧aN y v∧IsTup s.heap a #[u,v]:=by
 obtain⟨_,its,r,ht⟩:=I.hok a _ h;cases r with
 |cons r1 r =>
  cases r with
  |cons r2 r=>cases r;exact⟨_,_,r1,r2,by simpa using ht⟩
theorem lD{κ:Type}{pins:List (Addr×Obj)}{σ:St}{H:Hp}{s:Shared}(I:Inv X pins σ H s){zs:List (Addr×κ×V)}(kf:Addr×κ×V→V)(hk:∀z∈zs,H z.1=some (.tup [kf z,z.2.2])):
  ∃f:Addr×κ×V→Value×Value,∀z∈zs,aN (kf z) (f z).1∧aN z.2.2 (f z).2∧IsTup s.heap z.1 #[(f z).1,(f z).2]:=by
 have hch:∀z:Addr×κ×V,∃p:Value×Value,z∈zs→aN (kf z) p.1∧aN z.2.2 p.2∧IsTup s.heap z.1 #[p.1,p.2]:=λz=>by
  by_cases hz':z∈zs
  ·obtain⟨u,v,a,b,c⟩:=vm I (hk z hz');exact⟨(u,v),λ_=>⟨a,b,c⟩⟩
  ·exact⟨(.none,.none),λh=>absurd h hz'⟩
 exact⟨λz=>Classical.choose (hch z),λz hz=>Classical.choose_spec (hch z) hz⟩
theorem dy{α:Type}{l:List α}{i:Nat}{d:α}(h:i<l.length):l.getD i d∈l∧l[i]?=some (l.getD i d):=by
 rw[getD_eq_getElem?_getD,getElem?_eq_getElem h];exact⟨getElem_mem h,rfl⟩
theorem jF{κ:Type}{zs:List (Addr×κ×V)}{d:Addr×κ×V}{i:Nat}{v:Value}(h:(((zs.map (·.1)).map Value.ref).toArray)[i]?=some v):v=Value.ref (zs.getD i d).1:=by
 have h':((zs.map (·.1)).map Value.ref)[i]?=some v:=by simpa using h
 rw[getElem?_map,getElem?_map]at h';rw[getD_eq_getElem?_getD];cases e:zs[i]? with
 |none=>rw[e]at h';cases h'
 |some z=>rw[e]at h';exact(Option.some.inj h').symm
theorem bp{α:Type}{l:List α}{i:Nat}{x:α}(h:l[i]?=some x):l.take (i+1)=l.take i++[x]:=by rw[take_succ,h];rfl
theorem pP{α κ:Type}{l:List α}{f:α→κ}{i:Nat}{x:α}(hn:(l.map f).Nodup)(h:l[i]?=some x):f x∉(l.take i).map f:=by
 intro hm;obtain⟨y,hy,e⟩:=mem_map.mp hm;obtain⟨j,hj,e2⟩:=List.mem_iff_getElem.mp hy;have hj':j<i:=by rw[length_take]at hj;omega
 have hi:i<l.length:=(List.getElem?_eq_some_iff.mp h).1;have e3:(l.map f)[j]'(by rw[length_map];omega)=(l.map f)[i]'(by rw[length_map];omega):=by
  rw[List.getElem_map,List.getElem_map];rw[List.getElem_take]at e2;rw[e2,e,(List.getElem?_eq_some_iff.mp h).2]
 have:=(getElem_inj hn).mp e3;omega
theorem ip(hc:X.calm=true):dt X (.type "dict") (λxs H Q=>∃l,∃zs:List (Addr×Key×V),xs=[.ref l]∧H l=some (.lst ((zs.map (·.1)).map V.ref))∧(∀z∈zs,H z.1=some (.tup [kV z.2.1,z.2.2]))∧zs.length≤1000 ∧
  (zs.map (·.2.1)).Nodup∧((∀d o,H d=none→Q (.ref d) (upd H d (.frz o (.dK (zs.map (·.2))))))∨∀d,H d=none→Q (.ref d) (upd H d (.dK (zs.map (·.2)))))):=by
 intro pins s σ H xs us Q I r h;obtain⟨l,zs,rfl,hl,hk,hz,hnd,q⟩:=h;obtain⟨u,rfl,ru⟩:=gs r;cases ru;obtain⟨_,its,nl,rv,ho⟩:=I.hok l _ hl;have e:=dk rv;subst e;obtain⟨f,hf⟩:=lD I (λz=>kV z.2.1) hk;have hsz:(((zs.map (·.1)).map Value.ref).toArray).size=zs.length:=by simp
 refine DL.fc (s:=s) (I.ok.hd hc) ho (λi=>(zs.getD i (0,.inl 0,.non)).1) (λi=>(f (zs.getD i (0,.inl 0,.non))).1) (λi=>(f (zs.getD i (0,.inl 0,.non))).2) (λi v hv=>jF hv) (λi hi=>?_)
  (λi h'=>h'.DictOf (aU X.prog X.w) s.heap.objs.size ((zs.take i).map λz=>(z.2.1,(f z).2))) (λh' hg _=>?_) (λi g g' hd hk=>?_) (λi s' E Q hi hd hq=>?_) λh' tk hd hkeep=>?_
 ·rw[hsz]at hi;exact(hf _ (dy hi).1).2.2
 ·exact⟨_,#[],0,hg,⟨rfl,rfl,rfl⟩,rfl,λ_ he=>by simp at he,Pairs.nil,nodup_nil⟩
 ·obtain⟨o,es,ep,ho,r⟩:=hd;exact⟨o,es,ep,hk _ o (le_refl _) ho,r⟩
 ·rw[hsz]at hi;obtain⟨hm,hg⟩:=dy (d:=((0,.inl 0,.non):Addr×Key×V)) hi;refine wpAny_dictSet_pairs (hsz:=by rw[length_map,length_take];have:=aC hz;omega) (k:=(zs.getD i (0,.inl 0,.non)).2.1) (fb (hf _ hm).1) hd λh' hd' hs=>hq h' _ (le_succ _) hs ?_;have e1:=bp hg;have e2:=pP hnd hg;rw[e1,map_append];unfold stored at hd';rw[if_neg]at hd'
  ·exact hd'
  ·intro ha;obtain⟨p,hp,he⟩:=any_eq_true.mp ha;obtain⟨z,hz',rfl⟩:=mem_map.mp hp;exact e2 (mem_map.mpr ⟨z,hz',of_decide_eq_true he⟩)
 ·rw[hsz,take_length]at hd;obtain⟨ob,hob⟩:∃ob,h'.get? s.heap.objs.size=some ob:=let⟨o,_,_,ho,_⟩:=hd;⟨o,ho⟩;have hrel:KV (zs.map (·.2)) (zs.map λz=>(z.2.1,(f z).2)):=by
   have:∀ys:List (Addr×Key×V),(∀z∈ys,z∈zs)→KV (ys.map (·.2)) (ys.map λz=>(z.2.1,(f z).2)):=by
    intro ys
    induction ys with
    |nil=>intro _;exact .nil
    |cons z ys ih=>intro hm;exact .cons ⟨rfl,(hf z (hm z (by simp))).2.1⟩ (ih λy hy=>hm y (by simp[hy]))
   exact this zs λz hz=>hz
  have hdk:∀H':Hp,bq X.prog X.w H' h' s.heap.objs.size (.dK (zs.map (·.2))):=λH'=>iR (le_of_lt (aC (by rw[length_map];exact hz))) (beq_eq_false_iff_ne.mpr (symm (ne_of_lt I.big))) hrel hd;rcases q with q|q
  ·exact⟨.ref s.heap.objs.size,_,I.laid (t':=tk) (o:=.frz ob (.dK (zs.map (·.2)))) hkeep (le_refl _) ⟨hob,hdk _⟩,rfl,q _ ob (I.hok.fresh (le_refl _))⟩
  ·exact⟨.ref s.heap.objs.size,_,I.laid (t':=tk) (o:=.dK (zs.map (·.2))) hkeep (le_refl _) (hdk _),rfl,q _ (I.hok.fresh (le_refl _))⟩
theorem nh(hc:X.calm=true):dt X (.type "dict") (λxs H Q=>∃l,∃zs:List (Addr×Key×V),xs=[.ref l]∧H l=some (.lst ((zs.map (·.1)).map V.ref))∧(∀z∈zs,H z.1=some (.tup [kV z.2.1,z.2.2]))∧zs.length≤1000∧(zs.map (·.2.1)).Nodup∧∀d o,H d=none→Q (.ref d) (upd H d (.frz o (.dK (zs.map (·.2)))))) :=
 λpins s σ H xs us Q I r ⟨l,zs,h1,h2,h3,h4,h5,q⟩=>ip hc pins s σ H xs us Q I r ⟨l,zs,h1,h2,h3,h4,h5,.inl q⟩
theorem fe(hc:X.calm=true):dt X (.type "dict") (λxs H Q=>∃l,∃zs:List (Addr×Key×V),xs=[.ref l]∧H l=some (.lst ((zs.map (·.1)).map V.ref))∧(∀z∈zs,H z.1=some (.tup [kV z.2.1,z.2.2]))∧zs.length≤1000∧(zs.map (·.2.1)).Nodup∧∀d,H d=none→Q (.ref d) (upd H d (.dK (zs.map (·.2))))) :=
 λpins s σ H xs us Q I r ⟨l,zs,h1,h2,h3,h4,h5,q⟩=>ip hc pins s σ H xs us Q I r ⟨l,zs,h1,h2,h3,h4,h5,.inr q⟩
end
def vn(h:Heap)(d:Addr)(es:Array DictEntry)(ep:Nat):Prop:=∃o,h.get? d=some o∧o.ExactDict∧o.data=.dict es ep
section
variable{prog:Program}{w:World}{A:Around}{E:Value→Shared→Prop}{s:Shared}
theorem lE{d:Addr}{es:Array DictEntry}{ep:Nat}{Q:Value→Shared→Prop}(hd:(d==sysModules)=false)(hm:vn s.heap d es ep)(hQ:Q (.ref s.heap.objs.size) {s with heap:=s.heap.push {cls:=.type "dict_keyiterator",data:=.fields #[.ref d,.int 0 0,.int es.size 0,.int ep 0]}}):
  wpAny (model prog w) A (pyIter (.ref d)) Q E s:=by
 obtain⟨o,ho,hc,hdat⟩:=id hm;have hT:s.TypeIs (.ref d) "dict":=⟨o,ho,hc.1⟩;refine wpAny_pyIter_slot hT PySem.F.slot_dict_iter (wpAny_call_entry PySem.F.slot_dict_iter hT PySem.F.entry_dict_iter ?_ (PySem.F.args_dict_iter_1 _));unfold Builtin.«dict.__iter__»;refine wpAny_bind ?_;unfold Builtin.Dict.dictSlotNone;refine wpAny_bind (wpAny_notOrdered_dict hT ?_);show wpAny _ _ (pure (Value.ref d)) _ _ s;refine wpAny_pure ?_;show wpAny _ _ (Builtin.Dict.showsAll d >>= _) _ _ s;unfold Builtin.Dict.showsAll;rw[if_neg (by rw[hd];exact Bool.false_ne_true)];refine wpAny_bind (wpAny_pure ?_);refine wpAny_bind (wpAny_dictEntries ho hdat ?_);refine wpAny_bind (wpAny_dictEpoch ho hdat ?_);refine wpAny_bind (wpAny_newObj_type (wpAny_pure ⟨_,rfl,"dict_keyiterator",_,⟨_,get?_push_size _ rfl,rfl⟩,slot_dict_keyiterator_next.lookup,?_⟩));simpa [rawInt]using hQ
theorem qI{it d:Addr}{i ep:Nat}{es:Array DictEntry}{e:DictEntry}{Q:Option Value→Shared→Prop}(hit:s.heap.IsKeyIter it d i es.size ep)(hm:vn s.heap d es ep)(hx:es[i]?=some e)(hQ:∀h',h'.IsKeyIter it d (i+1) es.size ep→SameBut it s.heap h'→Q (some e.key) {s with heap:=h'}):
  wpAny (model prog w) A (pyNext (.ref it)) Q E s:=by
 obtain⟨o,ho,hc,hd⟩:=id hit;obtain⟨od,hod,hcd,hdd⟩:=id hm;unfold pyNext;refine wpAny_bind (wpAny_attempt (wpAny_callSpecial?_slot (name:=ofString "__next__") hit.typeIs slot_dict_keyiterator_next
  (wpAny_call_entry slot_dict_keyiterator_next hit.typeIs PySem.F.entry_dict_keyiterator_next ?_ (PySem.F.args_dict_keyiterator_next_1 _))))
 refine wpAny_bind (wpAny_pure ?_);refine wpAny_bind ?_;refine wpAny_bind ?_
 first|refine wpAny_bind (wpAny_typeNameOfWhole_keyiter hit.typeIs (wpAny_pure ?_))|refine wpAny_bind (wpAny_typeNameOf_keyiter hit.typeIs (wpAny_pure ?_))
 refine wpAny_bind (wpAny_fieldsOf ho hd ?_);have hown:Builtin.Dict_items.ownsTuple "dict_keyiterator"=false:=by decide
 simp only[hown,false_eq_true,if_false];show wpAny _ _ (if (Value.ref d==Value.none)=true then _ else _) _ _ s
 rw[if_neg (show ¬((Value.ref d==Value.none)=true)from Bool.false_ne_true)];refine wpAny_bind (wpAny_pure ?_);refine wpAny_bind (wpAny_dictEntries hod hdd ?_);rw[if_neg (by simp)];refine wpAny_bind (wpAny_pure ?_);refine wpAny_bind (wpAny_dictEpoch hod hdd ?_);rw[if_neg (by simp)];refine wpAny_pure ?_;have hlt':i<es.size:=(Array.getElem?_eq_some_iff.mp hx).1;have he:es[i]=e:=(Array.getElem?_eq_some_iff.mp hx).2;simp only[show ¬((i:Int)<0)from by omega,if_false,Int.toNat_natCast,Array.getElem?_eq_getElem hlt'];refine wpAny_bind ?_
 first|refine wpAny_bind (wpAny_typeNameOfWhole_keyiter hit.typeIs (wpAny_pure ?_))|refine wpAny_bind (wpAny_typeNameOf_keyiter hit.typeIs (wpAny_pure ?_))
 refine wpAny_bind (wpAny_isOneOf_keyiter hit.typeIs ?_);show wpAny _ _ (setField (.ref it) 1 (rawInt ((i:Int)+1)) >>= _) _ _ s;refine wpAny_bind (wpAny_setField ho hd (by simp) ?_);have hit':(s.heap.update it (Obj.mapFields (·.setIfInBounds 1 (rawInt ((i:Int)+1))))).IsKeyIter it d (i+1) es.size ep :=
  ⟨_,Heap.get?_update_self _ ho (Obj.isFreed_of_fields (Obj.data_mapFields hd _)),(Obj.cls_mapFields ..).trans hc,by rw[Obj.data_mapFields hd];simp[rawInt]⟩
 refine wpAny_bind (wpAny_holding ?_);refine wpAny_bind (wpAny_isOneOf_keyiter (s:={s with heap:=s.heap.update it (Obj.mapFields (·.setIfInBounds 1 (rawInt ((i:Int)+1))))}) hit'.typeIs ?_)
 show wpAny _ _ (pure es[i].key) _ _ _;rw[he];exact wpAny_pure (wpAny_pure ⟨_,rfl,wpAny_pure (hQ _ hit' (SameBut.update ..))⟩)
theorem sN{it d:Addr}{i ep:Nat}{es:Array DictEntry}{Q:Option Value→Shared→Prop}(hh:A.handled=none)(hit:s.heap.IsKeyIter it d i es.size ep)(hm:vn s.heap d es ep)(hge:es.size≤i)(hQ:∀h',Heap.ExtBut it s.heap h'→Q none {s with heap:=h'}):wpAny (model prog w) A (pyNext (.ref it)) Q E s:=by
 obtain⟨o,ho,hc,hd⟩:=id hit;obtain⟨od,hod,hcd,hdd⟩:=id hm;unfold pyNext;refine wpAny_bind (wpAny_attempt (wpAny_callSpecial?_slot (name:=ofString "__next__") hit.typeIs slot_dict_keyiterator_next
  (wpAny_call_entry slot_dict_keyiterator_next hit.typeIs PySem.F.entry_dict_keyiterator_next ?_ (PySem.F.args_dict_keyiterator_next_1 _))))
 refine wpAny_bind (wpAny_pure ?_);refine wpAny_bind ?_;refine wpAny_bind ?_
 first|refine wpAny_bind (wpAny_typeNameOfWhole_keyiter hit.typeIs (wpAny_pure ?_))|refine wpAny_bind (wpAny_typeNameOf_keyiter hit.typeIs (wpAny_pure ?_))
 refine wpAny_bind (wpAny_fieldsOf ho hd ?_);have hown:Builtin.Dict_items.ownsTuple "dict_keyiterator"=false:=by decide
 simp only[hown,false_eq_true,if_false];show wpAny _ _ (if (Value.ref d==Value.none)=true then _ else _) _ _ s
 rw[if_neg (show ¬((Value.ref d==Value.none)=true)from Bool.false_ne_true)];refine wpAny_bind (wpAny_pure ?_);refine wpAny_bind (wpAny_dictEntries hod hdd ?_);rw[if_neg (by simp)];refine wpAny_bind (wpAny_pure ?_);refine wpAny_bind (wpAny_dictEpoch hod hdd ?_);rw[if_neg (by simp)];refine wpAny_pure ?_;simp only[show ¬((i:Int)<0)from by omega,if_false,Int.toNat_natCast,Array.getElem?_eq_none hge];refine wpAny_bind ?_
 first|refine wpAny_bind (wpAny_typeNameOfWhole_keyiter hit.typeIs (wpAny_pure ?_))|refine wpAny_bind (wpAny_typeNameOf_keyiter hit.typeIs (wpAny_pure ?_))
 show wpAny _ _ (setField (.ref it) 0 .none >>= _) _ _ s;refine wpAny_bind (wpAny_setField ho hd (by simp) ?_);show wpAny _ _ (newExc (.type "StopIteration") [] >>= _) _ _ _;refine wpAny_bind ?_;simp only[newExc,newTuple];refine wpAny_bind (wpAny_newObj_type ?_ (by size_fits));refine wpAny_bind (m:=firstArgMember _ _) (wpAny_of_eq (a:=Value.none) (by first|rfl|(simp only[firstArgMember];rfl)) ?_)
 refine wpAny_newObj_type ?_ (by size_fits);simp only[raiseNew];refine wpAny_bind (wpAny_handled ?_);rw[show A.in1.handled=none from hh];refine wpAny_bind (wpAny_pure (wpAny_throw ?_));refine wpAny_bind (wpAny_isInstance (T:="StopIteration") (b:=true) ⟨_,get?_push_size _ rfl,rfl⟩ isSubtype_stop ?_);exact wpAny_pure (hQ _ (((SameBut.update ..).extBut.push _).push _))
end
def Itk(d:Addr)(o:Obj)(u:HO)(ks:List V):It:=⟨λi H=>H d=some (.frz o u)∧i<ks.length,λi H x H'=>H'=H∧ks[i]?=some x,λi H=>H d=some (.frz o u)∧ks.length≤i⟩
theorem jG{P:Program}{w:World}{K:PySem.W.Frag}{tg:Expr}{d it:Addr}{o:Obj}{u:HO}{es:Array DictEntry}{ep:Nat}{ks:List V}(hx:o.ExactDict)(hd:o.data=.dict es ep)(hv:aL ks (es.toList.map (·.key))):
  Turn P w K tg (Itk d o u ks) [it] it (λi h=>h.IsKeyIter it d i es.size ep) where
 mem:=by simp
 obj:=λi h st b hb=>by
  have e:b=it:=by simpa using hb
  subst e;obtain⟨o,e,c,d⟩:=st;exact⟨o,e,λv z=>by rw[d]at z;cases z⟩
 keep:=λi h h' st k=>st.at λo e=>k it (by simp) o e
 item:=by
  intro X hP hw hK hc i pins s σ H E I hf st hg;subst hP hw hK;obtain⟨hH,hi⟩:=hg;have ho:=(I.hok d _ hH).1;have hl:ks.length=es.size:=by rw[hv.length,length_map,length_toList]
  have hi':i<es.size:=by omega
  obtain⟨v,hv1,hv2⟩:=hv.get (getElem?_eq_getElem hi);obtain⟨f0,f1,f2,f3,f4,f5⟩:=hf it (by simp);have ev:v=es[i].key:=by
   rw[getElem?_map,getElem?_toList,Array.getElem?_eq_getElem hi']at hv1;exact(Option.some.inj hv1).symm
  refine qI st ⟨o,ho,hx,hd⟩ (Array.getElem?_eq_getElem hi') λh' st' sb=>?_;have I1:Inv X pins σ H {s with heap:=h'}:=I.turned (t':=s.toks) (λb o hb e=>(sb.2 b hb).trans e) f0 f1 f3 f4 f5
  obtain⟨oi,e,c,dd⟩:=id st';exact⟨_,rfl,nY (s:={s with heap:=h'}) e c dd (by decide) ⟨ks[i],H,I1,ev ▸ hv2,⟨rfl,getElem?_eq_getElem hi⟩,st',λb hb=>(hf b hb).1⟩⟩
 done:=by
  intro X hP hw hK hc i pins s σ H E I hf st hg;subst hP hw hK;obtain⟨hH,hi⟩:=hg;have ho:=(I.hok d _ hH).1;have hl:ks.length=es.size:=by rw[hv.length,length_map,length_toList]
  obtain⟨f0,f1,f2,f3,f4,f5⟩:=hf it (by simp);exact sN (I.ok.hd hc) st ⟨o,ho,hx,hd⟩ (by omega) λh' eb=>⟨rfl,I.turned (t':=s.toks) (λb o hb e=>eb b o hb e) f0 f1 f3 f4 f5⟩
 self:=λ_ _ _ _ _ st h=>wpAny_pyIter_keyiter st h
section
variable{X:Cx}{tg:Expr}
def iDF(td:TE):TI:=λσ H R=>td σ H λv H1=>∃d o kvs,v=.ref d∧H1 d=some (.frz o (.dK kvs))∧R (Itk d o (.dK kvs) (kvs.map λp=>kV p.1)) H1
theorem jH{l:Expr}{tl:TE}(hl:PE X l tl):PI X tg l (iDF tl):=by
 intro pins s σ H R I h;refine thn (hl pins s σ H _ I h) λv s1 hpt=>?_;obtain⟨x,H1,I1,r1,q1⟩:=hpt;obtain⟨d,o,kvs,e,hH,q⟩:=q1;subst e;cases r1;obtain⟨ho,_,hsm,vs,rel,o',es,ep,ho',hx,hd,hk,hp,hn⟩:=I1.hok d _ hH;rw[ho]at ho';cases ho';refine lE hsm ⟨o,ho,hx,hd⟩ ?_;refine⟨s1.heap.objs.size,[s1.heap.objs.size],_,_,H1,rfl,I1.kept (t':=s1.toks) λb o e=>get?_push_of_some _ e,jG hx hd ?_,⟨_,get?_push_size _ rfl,rfl,rfl⟩,λb hb=>?_,q⟩
 ·have key:∀(es:List DictEntry)(vs:List (Key×Value))(kvs:List (Key×V)),Pairs (aU X.prog X.w) es vs→KV kvs vs→aL (kvs.map λp=>kV p.1) (es.map (·.key)):=by
   intro es vs kvs hp
   induction hp generalizing kvs with
   |nil=>intro r;cases r;exact .nil
   |cons h1 h2 _ ih =>
    intro r;cases r with
    |cons r1 r2 =>
     refine .cons ?_ (ih _ r2);dsimp only;rw[r1.1];rcases bj h1 with⟨i,t,e1,e2⟩|⟨x,t,e1,e2⟩
     ·rw[e1,e2];exact⟨t,rfl⟩
     ·rw[e1,e2];exact⟨t,rfl⟩
  exact key _ _ _ hp rel
 ·have e:b=s1.heap.objs.size:=by simpa using hb
  subst e;exact I1.fpOk (le_refl _) (I1.hok.fresh (le_refl _))
end
section
variable{prog:Program}{w:World}{A:Around}{E:Value→Shared→Prop}{s:Shared}
end
section
variable{X:Cx}
end
end L2
namespace HT
open PySem PyProof.Rows
section
open PySem.SeqAt
open PySem.AutoSeq1 (wpAny_loadPart')
open PySem.MeetsSeq PySem.MeetsSeq2 PySem.MeetsSeq3
end
section
variable{prog:Program}{w:World}{A:Around}{E:Value→Shared→Prop}{s:Shared}
end
end HT
namespace L2
open PySem PySem.Spec PyProof.Rows
section
variable{X:Cx}
theorem pQ{α:Type}{zs:List α}{val:α→V}{d:α}:∀{us:List Value},aL (zs.map val) us→∀(ps:List Nat),(∀i∈ps,i<zs.length)→aL ((ps.map λi=>zs.getD i d).map val) (ps.map λi=>us.getD i Value.none):=by
 intro us rv ps
 induction ps with
 |nil=>intro _;exact .nil
 |cons i ps ih =>
  intro h;refine .cons ?_ (ih λj hj=>h j (by simp[hj]));have hi:=h i (by simp);obtain⟨u,hu,r⟩:=rv.get (i:=i) (x:=val (zs.getD i d)) (by rw[getElem?_map,(dy (d:=d) hi).2];rfl);have:us.getD i Value.none=u:=by rw[getD_eq_getElem?_getD,hu];rfl
  show aN (val (zs.getD i d)) (us.getD i Value.none);rw[this];exact r
theorem lF{α:Type}{zs:List α}{val:α→V}{d:α}{us:List Value}{f:α→α→Bool}{l:Addr}{pins:List (Addr×Obj)}{σ:St}{H:Hp}{s:Shared}{Q:VK}{κ:SortKind}{E:Value→Shared→Prop}(I:Inv X pins σ H s)(rv:aL (zs.map val) us)(O:SRT.Ord (λi j=>f (zs.getD i d) (zs.getD j d)) zs.length)(pl:s.heap.IsList l us.toArray)(h64:zs.length<64)(hk:∀(A':Around) (s':Shared),A'.units≤X.A.units+2→(∀b o,s.heap.get? b=some o→s'.heap.get? b=some o)→∀Q:SortKind→Shared→Prop,2≤zs.length→Q κ s'→wpAny (model X.prog X.w) A' (keyKind' us.toArray) Q (λ_ _=>False) s')(hlt:∀(A':Around) (s':Shared),A'.units≤X.A.units+2→(∀b o,s.heap.get? b=some o→s'.heap.get? b=some o)→∀(i j:Nat) (C:Bool→Shared→Prop),i<zs.length→j<zs.length→C (f (zs.getD i d) (zs.getD j d)) s'→wpAny (model X.prog X.w) A' (keyLt' κ (us.getD i Value.none) (us.getD j Value.none)) C (λ_ _=>False) s')(q:∀zs':List α,zs'.Perm zs→zs'.Pairwise (λa b=>f a b=true)→∀p,H p=none→Q (.ref p) (upd H p (.lst (zs'.map val)))):wpAny (model X.prog X.w) X.A (call (.builtin "sorted") [.ref l]) (EP X pins σ Q) E s:=by
 have hlen:us.length=zs.length:=by rw[←rv.length,length_map]
 refine SRT.pL (κ:=κ) (f:=λi j=>f (zs.getD i d) (zs.getD j d)) (by rw[hlen];exact O) pl (by rw[hlen];exact h64) (λA' s' h1 h2 Q' h3=>hk A' s' h1 h2 Q' (by omega)) (λA' s' h1 h2 i j C hi hj=>hlt A' s' h1 h2 i j C (by omega) (by omega)) ?_;intro p h' hrow hup kp _ hg;obtain⟨c,hg⟩:=hg;rw[hlen]at hrow hup;have hin:∀i∈p.toList,i<zs.length:=λi hi=>mem_range.mp (hrow.perm.mem_iff.mp hi);have hperm:(p.toList.map λi=>zs.getD i d).Perm zs:=by
  refine(hrow.perm.map _).trans ?_;have:(List.range zs.length).map (λi=>zs.getD i d)=zs:=by
   apply ext_getElem?;intro i;rw[getElem?_map]
   by_cases hi:i<zs.length
   ·rw[List.getElem?_range hi,(dy (d:=d) hi).2];rfl
   ·rw[getElem?_eq_none (by rw[length_range];omega),getElem?_eq_none (by omega)];rfl
  rw[this]
 have hpl:p.size=zs.length:=hrow.size;have hpw:(p.toList.map λi=>zs.getD i d).Pairwise (λa b=>f a b=true):=by
  rw[List.pairwise_iff_getElem];intro i j hi hj hij;have hi':i<p.size:=by rw[length_map,length_toList]at hi;exact hi
  have hj':j<p.size:=by rw[length_map,length_toList]at hj;exact hj
  have:=hup i j hij (by omega);simp only[]at this;rw[getD_eq_getD_getElem?,getD_eq_getD_getElem?,Array.getElem?_eq_getElem hi',Array.getElem?_eq_getElem hj']at this;simpa using this
 refine⟨.ref (s.heap.objs.size+1),_,I.laid (t':=s.toks) (o:=.lst ((p.toList.map λi=>zs.getD i d).map val)) kp (le_succ _) ⟨?_,_,c,pQ rv p.toList hin,hg⟩,rfl,q _ hperm hpw _ (I.hok.fresh (le_succ _))⟩;rw[length_map,hperm.length_eq,sizeLine_eq];omega
theorem sO{ns:List Int}{us:List Value}(r:aL (ns.map V.int) us):IntsAre us ns:=mX r
theorem ib:dt X (.builtin "sorted") (λxs H Q=>∃l,∃ns:List Int,xs=[.ref l]∧H l=some (.lst (ns.map V.int))∧ns.Nodup∧ns.length<64 ∧
  ∀ms:List Int,ms.Perm ns→ms.Pairwise (λa b=>a<b)→∀p,H p=none→Q (.ref p) (upd H p (.lst (ms.map V.int)))):=by
 intro pins s σ H xs us Q I r h;obtain⟨l,ns,rfl,hl,hnd,h64,q⟩:=h;obtain⟨u,rfl,ru⟩:=gs r;cases ru;obtain⟨_,its,n,rv,ho⟩:=I.hok l _ hl;have hI:=sO rv;have hlen:its.length=ns.length:=by rw[←rv.length,length_map]
 refine lF (val:=V.int) (d:=(0:Int)) (f:=λa b=>decide (a<b)) (κ:=oneType') I rv ⟨λi _=>by simp,λi j k _ _ _ h1 h2=>?_,λi j hi hj hij=>?_⟩ ⟨_,ho,rfl,n,rfl⟩ h64 (λA' s' _ _ Q' h2 hQ=>?_) (λA' s' _ _ i j C hi hj hC=>?_) λzs' h1 h2 p hp=>q zs' h1 (h2.imp λh=>by simpa using h) p hp
 ·simp only[decide_eq_true_eq]at *;omega
 ·simp only[decide_eq_true_eq];have:ns.getD i 0≠ns.getD j 0:=by
   rw[getD_eq_getElem?_getD,getD_eq_getElem?_getD,getElem?_eq_getElem hi,getElem?_eq_getElem hj];exact λe=>hij ((getElem_inj hnd).mp e)
  omega
 ·rw[ksk_kind (keys:=its.toArray) (kz:=ns) (by simpa using hI) (by rw[size_toArray];omega)];exact wpAny_pure hQ
 ·have gi:∀i,i<ns.length→∃t,its.getD i Value.none=.int (ns.getD i 0) t:=λi hi=>by
   obtain⟨v,hv,r⟩:=rv.get (i:=i) (x:=.int (ns.getD i 0)) (by rw[getElem?_map,(dy (d:=(0:Int)) hi).2];rfl);obtain⟨t,rfl⟩:=r;exact⟨t,by rw[getD_eq_getElem?_getD,hv];rfl⟩
  obtain⟨t,e1⟩:=gi i hi;obtain⟨t',e2⟩:=gi j hj;rw[e1,e2];exact kat_lt_int hC
end
def lG(H:Hp):Nat→V→V→Prop
 |0,x,y=>x=y∧db x=true
 |n+1,x,y=>(x=y∧db x=true)∨∃a b xs ys,x=.ref a∧y=.ref b∧H a=some (.tup xs)∧H b=some (.tup ys)∧xs.length=ys.length∧∀(i:Nat) x' y',xs[i]?=some x'→ys[i]?=some y'→lG H n x' y'
theorem lH{x:V}(f:db x=true):eqV x x=true:=by
 cases x<;>first|rfl|(simp[eqV];done) | (exact absurd (show false=true from f) Bool.false_ne_true)
theorem iY{H:Hp}{n:Nat}{x y:V}(h:x=y∧db x=true):lG H n x y:=by
 cases n with
 |zero=>exact h
 |succ n=>exact .inl h
section
variable{X:Cx}{pins:List (Addr×Obj)}{σ:St}{H:Hp}{s:Shared}
theorem qJ(I:Inv X pins σ H s):∀(n:Nat){A:Around}{x y:V}{u v:Value},aN x u→aN y v→lG H n x y→A.units+n<cLine→EqAt A s u v true:=by
 intro n
 induction n with
 |zero =>
  intro A x y u v ru rv h hu;obtain⟨e,f⟩:=h;subst e;have:=iO (A:=A) (s:=s) ru rv f f;rw[lH f]at this;exact this
 |succ n ih =>
  intro A x y u v ru rv h hu;rcases h with⟨e,f⟩|⟨a,b,xs,ys,rfl,rfl,ha,hb,hl,hx⟩
  ·subst e;have:=iO (A:=A) (s:=s) ru rv f f;rw[lH f]at this;exact this
  ·cases ru;cases rv
   by_cases hab:a=b
   ·subst hab;exact EqAt.same _
   ·obtain⟨_,us,r1,t1⟩:=I.hok a _ ha;obtain⟨_,ws,r2,t2⟩:=I.hok b _ hb;have l1:=r1.length;have l2:=r2.length;have:=SeqAt.RcAt.tuples (A:=A) (s:=s) (e:=λ_=>true) t1 t2 (by omega) (λj h1 h2=>by
     have h1':j<xs.length:=by rw[l1];simpa using h1
     have h2':j<ys.length:=by rw[l2];simpa using h2
     obtain⟨u',hu1,hu2⟩:=r1.get (getElem?_eq_getElem h1');obtain⟨v',hv1,hv2⟩:=r2.get (getElem?_eq_getElem h2');have e1:us.toArray[j]=u':=by
      have:us[j]?=some us.toArray[j]:=by rw[getElem?_eq_getElem (by simpa using h1)];simp
      rw[hu1]at this;exact(Option.some.inj this).symm
     have e2:ws.toArray[j]=v':=by
      have:ws[j]?=some ws.toArray[j]:=by rw[getElem?_eq_getElem (by simpa using h2)];simp
      rw[hv1]at this;exact(Option.some.inj this).symm
     rw[e1,e2];exact ih hu2 hv2 (hx j _ _ (getElem?_eq_getElem h1') (getElem?_eq_getElem h2')) (by simp[Around.in1_units];omega))
    have e3:((List.range (min us.toArray.size ws.toArray.size)).all (λ_=>true)&&us.toArray.size==ws.toArray.size)=true:=by
     have:us.toArray.size=ws.toArray.size:=by simp only[size_toArray];omega
     simp[this]
    rw[e3]at this;exact EqAt.of_refs hab this
def gG(H:Hp)(xs ys:List V):Prop:=xs.length=ys.length∧∀(i:Nat) x y,xs[i]?=some x→ys[i]?=some y→lG H 3 x y
theorem lI{pins:List (Addr×Obj)}{σ:St}{H:Hp}{s:Shared}(I:Inv X pins σ H s){xs ys:List V}{us ws:List Value}(r1:aL xs us)(r2:aL ys ws)(h:gG H xs ys){A:Around}(hu:A.units+3<cLine):
  ∀j (h1:j<us.toArray.size) (h2:j<ws.toArray.size),EqAt A s us.toArray[j] ws.toArray[j] true:=λj h1 h2=>by
 have h1':j<xs.length:=by rw[r1.length];simpa using h1
 have h2':j<ys.length:=by rw[r2.length];simpa using h2
 obtain⟨u',hu1,hu2⟩:=r1.get (getElem?_eq_getElem h1');obtain⟨v',hv1,hv2⟩:=r2.get (getElem?_eq_getElem h2');have e1:us.toArray[j]=u':=by
  have:us[j]?=some us.toArray[j]:=by rw[getElem?_eq_getElem (by simpa using h1)];simp
  rw[hu1]at this;exact(Option.some.inj this).symm
 have e2:ws.toArray[j]=v':=by
  have:ws[j]?=some ws.toArray[j]:=by rw[getElem?_eq_getElem (by simpa using h2)];simp
  rw[hv1]at this;exact(Option.some.inj this).symm
 rw[e1,e2];exact qJ I 3 hu2 hv2 (h.2 j _ _ (getElem?_eq_getElem h1') (getElem?_eq_getElem h2')) hu
theorem nk(hu:X.A.units+4<cLine):OpR X (compareOp .NotEq) (λx y H Q=>rNe x y H Q∨(∃a b xs ys,x=.ref a∧y=.ref b∧gG H xs ys∧((H a=some (.lst xs)∧H b=some (.lst ys))∨(H a=some (.tup xs)∧H b=some (.tup ys)))∧Q (.bl false) H)):=by
 intro pins s σ H x y v u Q I rx ry h;rcases h with h|⟨a,b,xs,ys,rfl,rfl,hx,h,q⟩
 ·exact cN pins s σ H x y v u Q I rx ry h
 ·cases rx;cases ry;rcases h with⟨ha,hb⟩|⟨ha,hb⟩
  ·obtain⟨_,us,n1,r1,o1⟩:=I.hok a _ ha;obtain⟨_,ws,n2,r2,o2⟩:=I.hok b _ hb;have hl:=hx.1;have l1:=r1.length;have l2:=r2.length;refine RcNeAt.lists (e:=λ_=>true) ⟨_,o1,rfl,n1,rfl⟩ ⟨_,o2,rfl,n2,rfl⟩ (by simp only[size_toArray];omega) (by omega) (lI I r1 r2 hx (by simp[Around.in1_units];omega)) _ _ _ _ ⟨.bl false,H,I,?_,q⟩;show _=Value.bool false;simp
  ·obtain⟨_,us,r1,t1⟩:=I.hok a _ ha;obtain⟨_,ws,r2,t2⟩:=I.hok b _ hb;have hl:=hx.1;have l1:=r1.length;have l2:=r2.length;refine RcNeAt.tuples (e:=λ_=>true) t1 t2 (by omega) (lI I r1 r2 hx (by simp[Around.in1_units];omega)) _ _ _ _ ⟨.bl false,H,I,?_,q⟩;show _=Value.bool false;have:us.toArray.size=ws.toArray.size:=by simp only[size_toArray];omega
   simp[this]
end
section
variable{prog:Program}{w:World}{A:Around}{E:Value→Shared→Prop}{s:Shared}
end
section
variable{P:Program}{w:World}
end
section
variable{X:Cx}{o e:Expr}{td ty:TE}{apos cpos:Pos}
end
def Ext(p:Addr)(H H':Hp):Prop:=∀b o,b≠p→H b=some o→H' b=some o
theorem Ext.of{p:Addr}{H H':Hp}(s:Same H H'):Ext p H H':=λb o _ e=>s b o e
theorem Ext.upd{p:Addr}{H:Hp}{o:HO}:Ext p H (upd H p o):=λb u hb e=>by rw[ak hb];exact e
theorem Ext.trans{p:Addr}{H H1 H2:Hp}(a:Ext p H H1)(b:Ext p H1 H2):Ext p H H2:=λc o hc e=>b c o hc (a c o hc e)
def wR(te:TE):Prop:=∀σ H (Q Q':VK),(∀y H,Q y H→Q' y H)→te σ H Q→te σ H Q'
theorem qK{js:List Nat}{J:It}{te:TE}{σ:St}{H1:Hp}{Q:VK}{p:Addr}{fr:List (Option V)}(n:Nat)(hn:n≤1000)(hp:H1 p=none)(hfr:di 1 js σ=none::fr)(R:Nat→V→Hp→Prop)(hR:∀i y H H',R i y H→Ext p H H'→R i y H')(go:∀i H',i<n→Same H1 H'→J.go i H')(stop:∀H',Same H1 H'→J.stop n H')(me:wR te)(step:∀i H' x H2,i<n→Same H1 H'→(∃ys,H' p=some (.lst ys))→J.yld i H' x H2→H2=H'∧te (some x::fr) H' λy H4=>Same H' H4∧R i y H4)(fin:∀ys H',Same H1 H'→H' p=some (.lst ys)→ys.length=n→(∀(j:Nat) y,ys[j]?=some y→R j y H')→Q (.ref p) H'):LcW 1 js (be 0) te σ Q J H1 p:=by
 refine uo (k:=1) (js:=js) (J:=J) (p:=p) n hn (λi ys σ' H'=>(∃o,σ'=o::fr)∧Same H1 H'∧H' p=some (.lst ys)∧ys.length=i∧∀(j:Nat) y,ys[j]?=some y→R j y H') ⟨⟨none,hfr⟩,af hp,ac,rfl,λj y h=>by simp at h⟩
  (λi ys σ' H' h=>by have:=h.2.2.2.1;omega) (λi ys σ' H' hi h=>go i H' hi h.2.1) (λys σ' H' h=>⟨stop H' h.2.1,fin ys H' h.2.1 h.2.2.1 h.2.2.2.1 h.2.2.2.2⟩) (λi ys σ' H' hi h x H2 hy=>?_) ?_ me
 ·obtain⟨⟨o,rfl⟩,s1,hl,hlen,hrs⟩:=h;obtain⟨rfl,ht⟩:=step i H' x H2 hi s1 ⟨ys,hl⟩ hy;refine me _ _ _ _ (λy H4 h4=>?_) ht;obtain⟨s4,r4⟩:=h4;refine⟨s4 _ _ hl,⟨some x,rfl⟩,aP hp (s1.trans s4),ac,by rw[length_append,hlen];rfl,λj z hz=>?_⟩;have ex:Ext p H2 (upd H4 p (.lst (ys++[y]))):=(Ext.of s4).trans Ext.upd
  by_cases hj:j<ys.length
  ·rw[List.getElem?_append_left hj]at hz;exact hR _ _ _ _ (hrs j z hz) ex
  ·rw[List.getElem?_append_right (by omega)]at hz;have hj':j-ys.length=0:=by
    cases e:j-ys.length with
    |zero=>rfl
    |succ m=>rw[e]at hz;simp at hz
   rw[hj']at hz;have ez:y=z:=by simpa using hz
   subst ez;have ej:j=i:=by omega
   subst ej;exact hR _ _ _ _ r4 Ext.upd
 ·intro _ _ _ _ _ m q;exact m _ _ q
theorem dz{H:Hp}{p q:Addr}(hp:∃ys,H p=some (.lst ys))(hq:H q=none):q≠p:=λe=>by
 obtain⟨ys,h⟩:=hp;rw[←e,hq]at h;cases h
section
variable{X:Cx}{N:List Str}{scope:Scope}{cl:List (Str×Addr)}{k:Nat}{js:List Nat}
theorem jI{elt tg iter c:Expr}{pos spos py:Pos}{y:Str}{ii:Nat}{wi:TI}{g:TG}{tc:TT}{te:TE}(hXN:X.N.Nodup)(hii:X.N[ii]?=some y)(hx:Loc X.env.scope y)(hc:X.calm=true)(L:LcOk X scope cl)(hN:N.length=k+js.length)(hj:∀(i j:Nat) x,js[i]?=some j→N[k+i]?=some x→X.N[j]?=some x∧Vis X.env.scope x∧X.env.scope.names.lookup x≠some .local∧((relabel scope X.env).names.lookup x=some .cell∨(relabel scope X.env).names.lookup x=some .free))(hi:PI X tg iter wi)(hg:∀s H fp,PG (cq X N scope cl s H fp) tg g)(ht:∀s H fp,PT (cq X N scope cl s H fp) c tc)(he:∀s H fp,PE (cq X N scope cl s H fp) elt te)(hs:∀x,foldedSetIterable iter X.env x=pure x:=by intro _;rfl)(hsw:swapsWith (.ListComp elt [⟨tg,iter,[c],0⟩] scope pos) (some (.Name y py)) spos.line X.env=pure true:=by rfl)(hf:X.fn y=true∨X.env.scope.names.lookup y=some .local:=by first|exact .inl rfl|exact .inr rfl|assumption):PS X (.Assign [.Name y py] (.ListComp elt [⟨tg,iter,[c],0⟩] scope pos) spos) (uN (wO k js wi g tc te) (be ii)):=by
 intro pins s σ H D I h;rw[exec_Assign_Name_used _ _ _ _ hsw];refine wpAny_bind (wpAny_standAt (wpAny_bind ?_));show wpAny _ X.A (do let _ ← comprehension (.ListComp elt [⟨tg,iter,[c],0⟩] scope pos) scope X.env _ (newList []) false (eval iter X.env) (some (assign (.Name y py) X.env))) _ _ s
 refine wpAny_bind (wpAny_mono (wpAny_comprehension_free (use:=some (assign (.Name y py) X.env)) (Q:=λ_ s'=>∃σ' H',Inv X pins σ' H' s'∧D.nx σ' H') rfl hs L.clos L.kind L.names ?_) (λ_ s' hq=>wpAny_pure (wpAny_pure hq)) λ_ _ e=>e);refine thn (hi pins s σ H _ I h) λv s1 h1=>thn h1 λitv s2 h2=>?_;obtain⟨it,fp,tn,J,H2,e,I2,T,st2,f2,hW⟩:=h2;subst e;have hfp:∀b∈fp,b<s2.heap.objs.size:=λb hb=>by
  obtain⟨o,e,_⟩:=T.obj _ _ st2 b hb;exact lt_size e
 refine wpAny_newObj_type (wpAny_newFunctionEnv L.nocell (by intro y hy;simp at hy) (λh₁ hns hsb=>?_) L.kind);dsimp only at hns hsb⊢;obtain⟨W,⟨m0,w0⟩,turn⟩:=hW s2.heap.objs.size (I2.hok.fresh (le_refl _));have I3:Inv X pins σ (upd H2 s2.heap.objs.size (.lst [])) {s2 with heap:=s2.heap.push {cls:=.type "list",dict:=none,data:=.seq ([]:List Value).toArray}}:=I2.lnew (t':=s2.toks) .nil (zero_le _)
 generalize hA:s2.heap.push {cls:=.type "list",dict:=none,data:=.seq ([]:List Value).toArray}=hpA at hns hsb I3⊢;have hszA:hpA.objs.size=s2.heap.objs.size+1:=by rw[←hA,size_push]
 have keepA:∀b o,s2.heap.get? b=some o→hpA.get? b=some o:=λb o e=>by rw[←hA];exact get?_push_of_some _ e
 have f3:∀b∈fp,eU X pins (upd H2 s2.heap.objs.size (.lst [])) b:=λb hb=>⟨by rw[ak (ne_of_lt (hfp b hb))];exact(f2 b hb).1,(f2 b hb).2⟩;have hfp3:∀b∈fp,b<hpA.objs.size:=λb hb=>by rw[hszA];exact lt_succ_of_lt (hfp b hb)
 have keep1:∀b o,hpA.get? b=some o→h₁.get? b=some o:=λb o e=>hsb.extBut b o (ne_of_lt (lt_size e)) (get?_push_of_some _ e);have J0:=gB (N:=N) (k:=k) (js:=js) (tk:=s2.toks+([]:List (Str×Value)).length) I3 L f3 hfp3 ⟨_,hns⟩ keep1 hN hj;have st1:tn 0 h₁:=T.keep _ _ _ st2 λb hb o e=>keep1 b o (keepA b o e);have stat:∀{H':Hp},(∀b∈fp,H' b=none)→∀b∈fp,eU (cq X N scope cl {s2 with heap:=hpA} (upd H2 s2.heap.objs.size (.lst [])) fp) [] H' b:=λhn b hb =>
  ⟨hn b hb,ne_of_lt (hfp3 b hb),(ln (N:=N) I3 L f3 hfp3).exfs b hb,.inl hb,λx c h=>(f3 b hb).2.2.2.2.1 x c (L.cells x c h),λp hp=>absurd (show p∈([]:List (Addr×Obj))from hp) (by simp)⟩
 have loop:codeAny (model X.prog X.w) X.A (.compLoop (.ListComp elt [⟨tg,iter,[c],0⟩] scope pos) 0 (.ref it) (.ref s2.heap.objs.size) (compEnvC scope cl hpA.objs.size X.env))
   (compPost (model X.prog X.w) X.A X.xe (some (assign (.Name y py) X.env)) (λ_ s'=>∃σ' H',Inv X pins σ' H' s'∧D.nx σ' H') (.ref s2.heap.objs.size) hpA.objs.size) {s2 with heap:=h₁,toks:=s2.toks+([]:List (Str×Value)).length}:=by
  refine lp (λn s'=>∃i ys σ' H',Inv (cq X N scope cl {s2 with heap:=hpA} (upd H2 s2.heap.objs.size (.lst [])) fp) [] σ' H' s'∧tn i s'.heap∧(∀b∈fp,H' b=none)∧W i n ys σ' H') ?_ m0 ⟨0,[],_,_,J0,st1,λb hb=>(f3 b hb).1,w0⟩
  rintro n s3 ⟨i,ys,σ3,H3,J3,st3,fr3,w3⟩;rcases turn i n ys σ3 H3 w3 with⟨stop,qn⟩|⟨go,hlen,step⟩
  ·refine thn (T.done (cq X N scope cl {s2 with heap:=hpA} (upd H2 s2.heap.objs.size (.lst [])) fp) rfl rfl rfl hc i [] s3 σ3 H3 (λ_ _=>False) J3 (stat fr3) st3 stop) λr s4 hpt=>?_
   obtain⟨hr,J4⟩:=hpt;subst hr;obtain⟨m,hm,_⟩:=J4.loc;have I4:Inv X pins σ H3 s4:=kj I3 f3 J4 (SameBut.refl _ _);obtain⟨f0,f1,f2,f3',f4,f5⟩:=I3.fpOk (b:=hpA.objs.size) (le_refl _) (H':=H3) J4.free;show wpAny _ _ (assign (.Name y py) X.env (.ref s2.heap.objs.size)) _ _ _;refine wpAny_assign_Name (gW I4 hXN hii hx (v:=.ref s2.heap.objs.size) rfl (λs5 I5 ⟨a,sb,ha⟩=>⟨m,hm.sameBut sb ?_,λh' hs'=>⟨_,H3,I5.turned (t':=s5.toks) (λb o hb e=>(hs'.2 b hb).trans e) f0 f1 f3' f4 f5,qn⟩⟩) hf);rcases ha with e|e
   ·rw[e];exact f1
   ·exact λz=>f4 _ _ e z.symm
  ·refine thn (T.item (cq X N scope cl {s2 with heap:=hpA} (upd H2 s2.heap.objs.size (.lst [])) fp) rfl rfl rfl hc i [] s3 σ3 H3 (λ_ _=>False) J3 (stat fr3) st3 go) λr s4 hpt=>?_
   obtain⟨u,hr,h4⟩:=hpt;subst hr;refine thn h4 λ_ s5 hpt=>?_;obtain⟨x,H5,J5,r5,y5,st5,fr5⟩:=hpt;have J5':=J5.pinned (stat fr5) (T.obj _ _ st5);refine thn (hg _ _ _ _ s5 σ3 H5 x u _ J5' r5 (step x H5 y5)) λ_ s6 hpt=>?_;obtain⟨σ6,H6,J6,q6⟩:=hpt;refine thn (ht _ _ _ _ s6 σ6 H6 _ J6 q6) λb s6 hpt=>?_;obtain⟨H6,J6,q6⟩:=hpt;cases b with
   |true =>
    rw[if_pos rfl]at q6⊢;refine thn (he _ _ _ _ s6 σ6 H6 _ J6 q6) λy s7 hpt=>?_;obtain⟨vy,H7,J7,r7,q7,m',hm',w7⟩:=hpt;refine thn (bz _ s7 σ6 H7 (.ref s2.heap.objs.size) [vy] _ _ (λ_ H8=>H8=upd H7 s2.heap.objs.size (.lst (ys++[vy]))) J7 rfl (.cons r7 .nil) ⟨_,ys,vy,rfl,rfl,q7,hlen,rfl⟩) λ_ s8 hpt=>?_;obtain⟨_,H8,J8,_,e8⟩:=hpt;subst e8;refine⟨m',hm',i+1,ys++[vy],σ6,_,J8.unpinned,T.keep _ _ _ st5 λb hb o e=>(J8.pin (b,o) (mem_append_right _ (mem_append_right _ (aZ hb e)))).1,λb hb=>?_,w7⟩;obtain⟨o,e,d⟩:=T.obj _ _ st5 b hb;exact(J8.pin (b,o) (mem_append_right _ (mem_append_right _ (aZ hb e)))).2.1
   |false =>
    rw[if_neg (by simp)]at q6⊢;obtain⟨m',hm',w7⟩:=q6;refine⟨m',hm',i+1,ys,σ6,_,J6.unpinned,T.keep _ _ _ st5 λb hb o e=>(J6.pin (b,o) (mem_append_right _ (mem_append_right _ (aZ hb e)))).1,λb hb=>?_,w7⟩;obtain⟨o,e,d⟩:=T.obj _ _ st5 b hb;exact(J6.pin (b,o) (mem_append_right _ (mem_append_right _ (aZ hb e)))).2.1
 exact codeAny_compStart_list loop (T.self _ 0 _ _ _ st1 loop)
theorem qL{elt tg iter:Expr}{pos spos py:Pos}{y:Str}{ii:Nat}{wi:TI}{g:TG}{te:TE}(hXN:X.N.Nodup)(hii:X.N[ii]?=some y)(hx:Loc X.env.scope y)(hc:X.calm=true)(L:LcOk X scope cl)(hN:N.length=k+js.length)(hj:∀(i j:Nat) x,js[i]?=some j→N[k+i]?=some x→X.N[j]?=some x∧Vis X.env.scope x∧X.env.scope.names.lookup x≠some .local∧((relabel scope X.env).names.lookup x=some .cell∨(relabel scope X.env).names.lookup x=some .free))(hi:PI X tg iter wi)(hg:∀s H fp,PG (cq X N scope cl s H fp) tg g)(he:∀s H fp,PE (cq X N scope cl s H fp) elt te)(hs:∀x,foldedSetIterable iter X.env x=pure x:=by intro _;rfl)(hsw:swapsWith (.ListComp elt [⟨tg,iter,[],0⟩] scope pos) (some (.Name y py)) spos.line X.env=pure true:=by rfl)(hf:X.fn y=true∨X.env.scope.names.lookup y=some .local:=by first|exact .inl rfl|exact .inr rfl|assumption):PS X (.Assign [.Name y py] (.ListComp elt [⟨tg,iter,[],0⟩] scope pos) spos) (uN (tLc k js wi g te) (be ii)):=by
 intro pins s σ H D I h;rw[exec_Assign_Name_used _ _ _ _ hsw];refine wpAny_bind (wpAny_standAt (wpAny_bind ?_));show wpAny _ X.A (do let _ ← comprehension (.ListComp elt [⟨tg,iter,[],0⟩] scope pos) scope X.env _ (newList []) false (eval iter X.env) (some (assign (.Name y py) X.env))) _ _ s
 refine wpAny_bind (wpAny_mono (wpAny_comprehension_free (use:=some (assign (.Name y py) X.env)) (Q:=λ_ s'=>∃σ' H',Inv X pins σ' H' s'∧D.nx σ' H') rfl hs L.clos L.kind L.names ?_) (λ_ s' hq=>wpAny_pure (wpAny_pure hq)) λ_ _ e=>e);refine thn (hi pins s σ H _ I h) λv s1 h1=>thn h1 λitv s2 h2=>?_;obtain⟨it,fp,tn,J,H2,e,I2,T,st2,f2,hW⟩:=h2;subst e;have hfp:∀b∈fp,b<s2.heap.objs.size:=λb hb=>by
  obtain⟨o,e,_⟩:=T.obj _ _ st2 b hb;exact lt_size e
 refine wpAny_newObj_type (wpAny_newFunctionEnv L.nocell (by intro y hy;simp at hy) (λh₁ hns hsb=>?_) L.kind);dsimp only at hns hsb⊢;obtain⟨W,⟨m0,w0⟩,turn⟩:=hW s2.heap.objs.size (I2.hok.fresh (le_refl _));have I3:Inv X pins σ (upd H2 s2.heap.objs.size (.lst [])) {s2 with heap:=s2.heap.push {cls:=.type "list",dict:=none,data:=.seq ([]:List Value).toArray}}:=I2.lnew (t':=s2.toks) .nil (zero_le _)
 generalize hA:s2.heap.push {cls:=.type "list",dict:=none,data:=.seq ([]:List Value).toArray}=hpA at hns hsb I3⊢;have hszA:hpA.objs.size=s2.heap.objs.size+1:=by rw[←hA,size_push]
 have keepA:∀b o,s2.heap.get? b=some o→hpA.get? b=some o:=λb o e=>by rw[←hA];exact get?_push_of_some _ e
 have f3:∀b∈fp,eU X pins (upd H2 s2.heap.objs.size (.lst [])) b:=λb hb=>⟨by rw[ak (ne_of_lt (hfp b hb))];exact(f2 b hb).1,(f2 b hb).2⟩;have hfp3:∀b∈fp,b<hpA.objs.size:=λb hb=>by rw[hszA];exact lt_succ_of_lt (hfp b hb)
 have keep1:∀b o,hpA.get? b=some o→h₁.get? b=some o:=λb o e=>hsb.extBut b o (ne_of_lt (lt_size e)) (get?_push_of_some _ e);have J0:=gB (N:=N) (k:=k) (js:=js) (tk:=s2.toks+([]:List (Str×Value)).length) I3 L f3 hfp3 ⟨_,hns⟩ keep1 hN hj;have st1:tn 0 h₁:=T.keep _ _ _ st2 λb hb o e=>keep1 b o (keepA b o e);have stat:∀{H':Hp},(∀b∈fp,H' b=none)→∀b∈fp,eU (cq X N scope cl {s2 with heap:=hpA} (upd H2 s2.heap.objs.size (.lst [])) fp) [] H' b:=λhn b hb =>
  ⟨hn b hb,ne_of_lt (hfp3 b hb),(ln (N:=N) I3 L f3 hfp3).exfs b hb,.inl hb,λx c h=>(f3 b hb).2.2.2.2.1 x c (L.cells x c h),λp hp=>absurd (show p∈([]:List (Addr×Obj))from hp) (by simp)⟩
 have loop:codeAny (model X.prog X.w) X.A (.compLoop (.ListComp elt [⟨tg,iter,[],0⟩] scope pos) 0 (.ref it) (.ref s2.heap.objs.size) (compEnvC scope cl hpA.objs.size X.env))
   (compPost (model X.prog X.w) X.A X.xe (some (assign (.Name y py) X.env)) (λ_ s'=>∃σ' H',Inv X pins σ' H' s'∧D.nx σ' H') (.ref s2.heap.objs.size) hpA.objs.size) {s2 with heap:=h₁,toks:=s2.toks+([]:List (Str×Value)).length}:=by
  refine ow (λn s'=>∃i ys σ' H',Inv (cq X N scope cl {s2 with heap:=hpA} (upd H2 s2.heap.objs.size (.lst [])) fp) [] σ' H' s'∧tn i s'.heap∧(∀b∈fp,H' b=none)∧W i n ys σ' H') ?_ m0 ⟨0,[],_,_,J0,st1,λb hb=>(f3 b hb).1,w0⟩
  rintro n s3 ⟨i,ys,σ3,H3,J3,st3,fr3,w3⟩;rcases turn i n ys σ3 H3 w3 with⟨stop,qn⟩|⟨go,hlen,step⟩
  ·refine thn (T.done (cq X N scope cl {s2 with heap:=hpA} (upd H2 s2.heap.objs.size (.lst [])) fp) rfl rfl rfl hc i [] s3 σ3 H3 (λ_ _=>False) J3 (stat fr3) st3 stop) λr s4 hpt=>?_
   obtain⟨hr,J4⟩:=hpt;subst hr;obtain⟨m,hm,_⟩:=J4.loc;have I4:Inv X pins σ H3 s4:=kj I3 f3 J4 (SameBut.refl _ _);obtain⟨f0,f1,f2,f3',f4,f5⟩:=I3.fpOk (b:=hpA.objs.size) (le_refl _) (H':=H3) J4.free;show wpAny _ _ (assign (.Name y py) X.env (.ref s2.heap.objs.size)) _ _ _;refine wpAny_assign_Name (gW I4 hXN hii hx (v:=.ref s2.heap.objs.size) rfl (λs5 I5 ⟨a,sb,ha⟩=>⟨m,hm.sameBut sb ?_,λh' hs'=>⟨_,H3,I5.turned (t':=s5.toks) (λb o hb e=>(hs'.2 b hb).trans e) f0 f1 f3' f4 f5,qn⟩⟩) hf);rcases ha with e|e
   ·rw[e];exact f1
   ·exact λz=>f4 _ _ e z.symm
  ·refine thn (T.item (cq X N scope cl {s2 with heap:=hpA} (upd H2 s2.heap.objs.size (.lst [])) fp) rfl rfl rfl hc i [] s3 σ3 H3 (λ_ _=>False) J3 (stat fr3) st3 go) λr s4 hpt=>?_
   obtain⟨u,hr,h4⟩:=hpt;subst hr;refine thn h4 λ_ s5 hpt=>?_;obtain⟨x,H5,J5,r5,y5,st5,fr5⟩:=hpt;have J5':=J5.pinned (stat fr5) (T.obj _ _ st5);refine thn (hg _ _ _ _ s5 σ3 H5 x u _ J5' r5 (step x H5 y5)) λ_ s6 hpt=>?_;obtain⟨σ6,H6,J6,q6⟩:=hpt;refine thn (he _ _ _ _ s6 σ6 H6 _ J6 q6) λy s7 hpt=>?_;obtain⟨vy,H7,J7,r7,q7,m',hm',w7⟩:=hpt;refine thn (bz _ s7 σ6 H7 (.ref s2.heap.objs.size) [vy] _ _ (λ_ H8=>H8=upd H7 s2.heap.objs.size (.lst (ys++[vy]))) J7 rfl (.cons r7 .nil) ⟨_,ys,vy,rfl,rfl,q7,hlen,rfl⟩) λ_ s8 hpt=>?_;obtain⟨_,H8,J8,_,e8⟩:=hpt;subst e8;refine⟨m',hm',i+1,ys++[vy],σ6,_,J8.unpinned,T.keep _ _ _ st5 λb hb o e=>(J8.pin (b,o) (mem_append_right _ (mem_append_right _ (aZ hb e)))).1,λb hb=>?_,w7⟩;obtain⟨o,e,d⟩:=T.obj _ _ st5 b hb;exact(J8.pin (b,o) (mem_append_right _ (mem_append_right _ (aZ hb e)))).2.1
 exact codeAny_compStart_list loop (T.self _ 0 _ _ _ st1 loop)
end
abbrev TJ:=St→Hp→(Hp→Prop)→Prop
section
variable{X:Cx}{tg:Expr}
def PJ(X:Cx)(ps:List Expr)(b:Nat)(t:TJ):Prop :=
 ∀(out:Str)(pins:List (Addr×Obj))(s:Shared)(σ:St)(H:Hp)(Q:VK),Inv X pins σ H s→out.length+b≤1000→(t σ H λH1=>∀y,Q (.str y) H1)→wpAny (model X.prog X.w) X.A (joinParts out (evalEach ps X.env)) (EP X pins σ Q) X.xe s
theorem fY:PJ X [] 0 (λσ H k=>k H):=by
 intro out pins s σ H Q I hb h;exact joinParts_nilE (joinParts_nil ⟨.str _,H,I.tok _,⟨_,rfl⟩,h _⟩ (le_of_lt (aC (by omega))))
theorem cP{x:Str}{c b:Nat}{j:Nat}{p:Pos}{ps:List Expr}{t:TJ}(hx:x.length≤c)(h:PJ X ps b t):PJ X (.Constant (.str x) j p::ps) (c+b) t:=by
 intro out pins s σ H Q I hb hq;refine joinParts_cons (Calls.Constant_str ?_);have hl:(out++x).length=out.length+x.length:=strLen_append ..;exact⟨le_of_lt (aC (by omega)),h _ pins _ σ H Q (I.tok _) (by omega) hq⟩
theorem vo{e:Expr}{te:TE}{b:Nat}{p:Pos}{ps:List Expr}{t:TJ}(he:PE X e te)(h:PJ X ps b t):PJ X (.FormattedValue e (-1) none p::ps) (100+b) (λσ H k=>te σ H λv H1=>∃x:Str,v=.str x∧x.length≤100∧t σ H1 k):=by
 intro out pins s σ H Q I hb hq;refine joinParts_cons (FormattedValue_plain (thn (he pins _ σ H _ I hq) λv s1 hpt=>?_));obtain⟨y,H1,I1,r1,q1⟩:=hpt;obtain⟨x,rfl,h2,q⟩:=q1;obtain⟨tk,rfl⟩:=r1;have hl:(out++x).length=out.length+x.length:=strLen_append ..;refine formatField_str (λt' tk=>⟨le_of_lt (aC (by omega)),?_⟩) (le_of_lt (aC (by omega)));exact h _ pins _ σ H1 Q (I1.tok _) (by omega) q
def wS(t:TJ):TE:=λσ H Q=>t σ H λH1=>∀y,Q (.str y) H1
theorem eM{p1 p2:Expr}{ps:List Expr}{pos:Pos}{b:Nat}{t:TJ}(h:PJ X (p1::p2::ps) b t)(hb:b≤1000):PE X (.JoinedStr (p1::p2::ps) pos) (wS t):=by
 intro pins s σ H Q I hq;exact JoinedStr_many (h empty pins s σ H Q I (by show 0+b≤1000;omega) hq)
theorem vp{E:XK}(L:Lv X E):PassesOwn (model X.prog X.w) X.A X.env X.xe:=by
 rw[L.xe];exact PassesOwn.leaving
def iDK(td:TE):TI:=λσ H R=>td σ H λv H1=>∃d kvs,v=.ref d∧H1 d=some (.dK kvs)∧∀o,R (Itk d o (.dK kvs) (kvs.map λp=>kV p.1)) (upd H1 d (.frz o (.dK kvs)))
theorem qM{l:Expr}{tl:TE}(hl:PE X l tl):PI X tg l (iDK tl):=by
 intro pins s σ H R I h;refine thn (hl pins s σ H _ I h) λv s1 hpt=>?_;obtain⟨x,H1,I1,r1,q1⟩:=hpt;obtain⟨d,kvs,e,hH,q⟩:=q1;subst e;cases r1;obtain⟨hz,hsm,vs,rel,o,es,ep,ho,hx,hd,hk,hp,hn⟩:=I1.hok d _ hH;have I2:Inv X pins σ (upd H1 d (.frz o (.dK kvs))) s1:=I1.write (t':=s1.toks) (x:=d) (e:=d) (by rw[hH];trivial) (.inl rfl) (λ_ _ _ q=>q) ⟨o,ho⟩ ⟨ho,hz,hsm,vs,rel,o,es,ep,ho,hx,hd,hk,hp,hn⟩;refine lE hsm ⟨o,ho,hx,hd⟩ ?_;refine⟨s1.heap.objs.size,[s1.heap.objs.size],_,_,upd H1 d (.frz o (.dK kvs)),rfl,I2.kept (t':=s1.toks) λb o e=>get?_push_of_some _ e,jG hx hd ?_,⟨_,get?_push_size _ rfl,rfl,rfl⟩,λb hb=>?_,q o⟩
 ·have key:∀(es:List DictEntry)(vs:List (Key×Value))(kvs:List (Key×V)),Pairs (aU X.prog X.w) es vs→KV kvs vs→aL (kvs.map λp=>kV p.1) (es.map (·.key)):=by
   intro es vs kvs hp
   induction hp generalizing kvs with
   |nil=>intro r;cases r;exact .nil
   |cons h1 h2 _ ih =>
    intro r;cases r with
    |cons r1 r2 =>
     refine .cons ?_ (ih _ r2);dsimp only;rw[r1.1];rcases bj h1 with⟨i,t,e1,e2⟩|⟨x,t,e1,e2⟩
     ·rw[e1,e2];exact⟨t,rfl⟩
     ·rw[e1,e2];exact⟨t,rfl⟩
  exact key _ _ _ hp rel
 ·have e:b=s1.heap.objs.size:=by simpa using hb
  subst e;exact I2.fpOk (le_refl _) (I2.hok.fresh (le_refl _))
theorem nq(hu:X.A.units+1<cLine):OpR X (compareOp .In) (λx y H Q=>∃a p ks,∃kss:List (Addr×List Key),x=.ref a∧H a=some (.tup (ks.map kV))∧y=.ref p∧SqL X.K H p ((kss.map (·.1)).map V.ref) ∧
  (∀z∈kss,H z.1=some (.tup (z.2.map kV)))∧Q (.bl (kss.any λz=>decide (z.2=ks))) H):=by
 intro pins s σ H x y v u Q I rx ry h;obtain⟨a,p,ks,kss,rfl,ha,rfl,hq,hk,q⟩:=h;cases rx;cases ry;obtain⟨its,rv,pl,hz⟩:=I.list hq;have e:=dk rv;subst e
 let e:Value→Bool:=λv=>match v with | .ref b=>((kss.find? λz=>z.1==b).map λz=>decide (z.2=ks)).getD false | _=>false
 have he:∀z∈kss,e (.ref z.1)=decide (z.2=ks):=λz hz'=>by
  show((kss.find? λy=>y.1==z.1).map λz=>decide (z.2=ks)).getD false=_;cases ef:kss.find? λy=>y.1==z.1 with
  |none=>have:=find?_eq_none.mp ef z hz';simp at this
  |some y =>
   have h1:=find?_some ef;have h2:=List.mem_of_find?_eq_some ef;have e1:y.1=z.1:=by simpa using h1
   have e2:=hk y h2;rw[e1,hk z hz']at e2;have e3:z.2.map kV=y.2.map kV:=by injection (Option.some.inj e2)
   rw[ki e3];rfl
 refine in_listAt e pl.isList (λy hy=>?_) ⟨.bl _,H,I,rfl,?_⟩
 ·have hy':y∈(kss.map (·.1)).map Value.ref:=by simpa using hy
  obtain⟨b,hb,rfl⟩:=mem_map.mp hy';obtain⟨z,hz',rfl⟩:=mem_map.mp hb;rw[he z hz'];intro prog w E' Q' hQ;exact wpAny_eqBool_tuple (knd:=aU prog w) (by simp;exact hu) (sI I (hk z hz') prog w) (sI I ha prog w) hQ
 ·have e1:(((kss.map (·.1)).map Value.ref).toArray.any e)=kss.any λz=>decide (z.2=ks):=by
   rw[List.any_toArray,any_map,any_map];apply Bool.eq_iff_iff.mpr;rw[any_eq_true,any_eq_true];constructor
   ·rintro⟨z,hz',h1⟩;exact⟨z,hz',by rw[←he z hz'];exact h1⟩
   ·rintro⟨z,hz',h1⟩;exact⟨z,hz',by show e (.ref z.1)=true;rw[he z hz'];exact h1⟩
  rw[e1];exact q
end
theorem Same.seqT{K:PySem.W.Frag}{H H':Hp}{a:Addr}{xs:List V}(e:Same H H')(h:SqT K H a xs):SqT K H' a xs:=by
 rcases h with (h|⟨o,h⟩)|h
 ·exact .inl (.inl (e _ _ h))
 ·exact .inl (.inr ⟨o,e _ _ h⟩)
 ·exact .inr h
structure Src(J:It)(H1:Hp)(xs:List V):Prop where
 go:∀i H',i<xs.length→Same H1 H'→J.go i H'
 stop:∀H',Same H1 H'→J.stop xs.length H'
 yl:∀i H' x H2,i<xs.length→Same H1 H'→J.yld i H' x H2→H2=H'∧xs[i]?=some x
theorem dN{K:PySem.W.Frag}{a:Addr}{xs:List V}{H1:Hp}(h:SqT K H1 a xs):Src (Itt K a) H1 xs :=
 ⟨λi H' hi s=>⟨xs,xs[i],s.seqT h,getElem?_eq_getElem hi⟩,λH' s=>⟨xs,s.seqT h,le_refl _⟩,λi H' x H2 _ s ⟨e,y⟩=>⟨e,y xs (by subst e;exact s.seqT h)⟩⟩
theorem gH{K:PySem.W.Frag}{a:Addr}{xs:List V}{H1:Hp}(h:SqL K H1 a xs):Src (Itl K a) H1 xs :=
 ⟨λi H' hi s=>⟨xs,xs[i],s.seq h,getElem?_eq_getElem hi⟩,λH' s=>⟨xs,s.seq h,le_refl _⟩,λi H' x H2 _ s ⟨e,y⟩=>⟨e,y xs (by subst e;exact s.seq h)⟩⟩
theorem cB{d:Addr}{o:Obj}{u:HO}{ks:List V}{H1:Hp}(h:H1 d=some (.frz o u)):Src (Itk d o u ks) H1 ks :=
 ⟨λi H' hi s=>⟨s _ _ h,hi⟩,λH' s=>⟨s _ _ h,le_refl _⟩,λi H' x H2 _ s ⟨e,y⟩=>⟨e,y⟩⟩
theorem Paired.snoc{α β:Type}{R:α→β→Prop}:∀{as:List α}{bs:List β}{a:α}{b:β},Paired R as bs→R a b→Paired R (as++[a]) (bs++[b])
 |_,_,_,_,.nil,h=>.cons h .nil
 |_,_,_,_,.cons r t,h=>.cons r (Paired.snoc t h)
theorem cQ{α:Type}{js:List Nat}{J:It}{tc:TT}{te:TE}{σ:St}{H1:Hp}{Q:VK}{p:Addr}{fr:List (Option V)}(zs:List α)(val:α→V)(hn:zs.length≤1000)(hp:H1 p=none)(S:Src J H1 (zs.map val))(hfr:di 1 js σ=none::fr)(g:α→Bool)(R:α→V→Hp→Prop)(hR:∀z y H H',R z y H→Ext p H H'→R z y H')(cond:∀z H' (k:Bool→Hp→Prop),z∈zs→Same H1 H'→(∃ys,H' p=some (.lst ys))→(∀H4,Same H' H4→k (g z) H4)→tc (some (val z)::fr) H' k)(elt:∀z H' (k:VK),z∈zs→g z=true→Same H1 H'→(∃ys,H' p=some (.lst ys))→(∀y H4,Same H' H4→R z y H4→k y H4)→te (some (val z)::fr) H' k)(fin:∀ys H',Same H1 H'→H' p=some (.lst ys)→Paired (λz y=>R z y H') (zs.filter g) ys→Q (.ref p) H'):wN 1 js (be 0) tc te σ Q J H1 p:=by
 have grow:∀{as:List α}{ys:List V}{H H':Hp},Ext p H H'→Paired (λz y=>R z y H) as ys→Paired (λz y=>R z y H') as ys:=λex r=>Paired.mapP r λa b h=>hR a b _ _ h ex;have hlen:∀{as:List α}{ys:List V}{H:Hp},Paired (λz y=>R z y H) as ys→ys.length=as.length:=λr=>(Paired.length r).symm;refine⟨λi m ys σ' H'=>m=zs.length-i∧i≤zs.length∧(∃o,σ'=o::fr)∧Same H1 H'∧H' p=some (.lst ys)∧Paired (λz y=>R z y H') ((zs.take i).filter g) ys,⟨zs.length,by simp,zero_le _,⟨none,hfr⟩,af hp,ac,.nil⟩,?_⟩;rintro i m ys σ' H' ⟨rfl,hi,⟨o,rfl⟩,s1,hl,hys⟩
 by_cases hlt:i<zs.length
 ·have hlt':i<(zs.map val).length:=by rw[length_map];exact hlt
  refine .inr ⟨S.go i H' hlt' s1,?_,λx H2 hy=>?_⟩
  ·have h1:ys.length≤zs.length:=by
    rw[hlen hys];exact le_trans (length_filter_le _ _) (by rw[length_take];omega)
   exact lt_of_le_of_lt h1 (aC hn)
  ·obtain⟨rfl,hx⟩:=S.yl i H' x H2 hlt' s1 hy;have gz:zs[i]?=some zs[i]:=getElem?_eq_getElem hlt;have mz:=mem_of_getElem? gz;rw[getElem?_map,gz]at hx;have ex:val zs[i]=x:=Option.some.inj hx;have et:zs.take (i+1)=zs.take i++[zs[i]]:=bp gz;subst ex;generalize zs[i]=z at gz mz et⊢;refine cond z H2 _ mz s1 ⟨ys,hl⟩ λH4 s4=>?_;cases hb:g z with
   |true =>
    rw[if_pos rfl];refine elt z H4 _ mz hb (s1.trans s4) ⟨ys,s4 _ _ hl⟩ λy H5 s5 r5=>⟨s5 _ _ (s4 _ _ hl),zs.length-(i+1),by omega,rfl,hlt,⟨_,rfl⟩,aP hp ((s1.trans s4).trans s5),ac,?_⟩;rw[et,filter_append,filter_cons_of_pos hb];exact Paired.snoc (grow ((Ext.of (s4.trans s5)).trans Ext.upd) hys) (hR _ _ _ _ r5 Ext.upd)
   |false =>
    rw[if_neg (by simp)];refine⟨zs.length-(i+1),by omega,rfl,hlt,⟨_,rfl⟩,s1.trans s4,s4 _ _ hl,?_⟩;rw[et,filter_append,filter_cons_of_neg (by simp[hb]),List.filter_nil,append_nil];exact grow (Ext.of s4) hys
 ·have e:i=zs.length:=by omega
  subst e;have st:=S.stop H' s1;rw[length_map]at st;refine .inl ⟨st,fin ys H' s1 hl ?_⟩;rw[take_length]at hys;exact hys
theorem dO{α:Type}{js:List Nat}{J:It}{te:TE}{σ:St}{H1:Hp}{Q:VK}{p:Addr}{fr:List (Option V)}(zs:List α)(val:α→V)(hn:zs.length≤1000)(hp:H1 p=none)(S:Src J H1 (zs.map val))(hfr:di 1 js σ=none::fr)(R:α→V→Hp→Prop)(hR:∀z y H H',R z y H→Ext p H H'→R z y H')(elt:∀z H' (k:VK),z∈zs→Same H1 H'→(∃ys,H' p=some (.lst ys))→(∀y H4,Same H' H4→R z y H4→k y H4)→te (some (val z)::fr) H' k)(fin:∀ys H',Same H1 H'→H' p=some (.lst ys)→Paired (λz y=>R z y H') zs ys→Q (.ref p) H'):LcW 1 js (be 0) te σ Q J H1 p:=by
 have grow:∀{as:List α}{ys:List V}{H H':Hp},Ext p H H'→Paired (λz y=>R z y H) as ys→Paired (λz y=>R z y H') as ys:=λex r=>Paired.mapP r λa b h=>hR a b _ _ h ex;have hlen:∀{as:List α}{ys:List V}{H:Hp},Paired (λz y=>R z y H) as ys→ys.length=as.length:=λr=>(Paired.length r).symm;refine⟨λi m ys σ' H'=>m=zs.length-i∧i≤zs.length∧(∃o,σ'=o::fr)∧Same H1 H'∧H' p=some (.lst ys)∧Paired (λz y=>R z y H') (zs.take i) ys,⟨zs.length,by simp,zero_le _,⟨none,hfr⟩,af hp,ac,.nil⟩,?_⟩;rintro i m ys σ' H' ⟨rfl,hi,⟨o,rfl⟩,s1,hl,hys⟩
 by_cases hlt:i<zs.length
 ·have hlt':i<(zs.map val).length:=by rw[length_map];exact hlt
  refine .inr ⟨S.go i H' hlt' s1,?_,λx H2 hy=>?_⟩
  ·have h1:ys.length≤zs.length:=by
    rw[hlen hys,length_take];omega
   exact lt_of_le_of_lt h1 (aC hn)
  ·obtain⟨rfl,hx⟩:=S.yl i H' x H2 hlt' s1 hy;have gz:zs[i]?=some zs[i]:=getElem?_eq_getElem hlt;have mz:=mem_of_getElem? gz;rw[getElem?_map,gz]at hx;have ex:val zs[i]=x:=Option.some.inj hx;have et:zs.take (i+1)=zs.take i++[zs[i]]:=bp gz;subst ex;generalize zs[i]=z at gz mz et⊢;refine elt z H2 _ mz s1 ⟨ys,hl⟩ λy H5 s5 r5=>⟨s5 _ _ hl,zs.length-(i+1),by omega,rfl,hlt,⟨_,rfl⟩,aP hp (s1.trans s5),ac,?_⟩;rw[et];exact Paired.snoc (grow ((Ext.of s5).trans Ext.upd) hys) (hR _ _ _ _ r5 Ext.upd)
 ·have e:i=zs.length:=by omega
  subst e;have st:=S.stop H' s1;rw[length_map]at st;refine .inl ⟨st,fin ys H' s1 hl ?_⟩;rw[take_length]at hys;exact hys
theorem cF{α β:Type}{R:α→V→Prop}{val:β→V}{S:α→β→Prop}{zs:List α}{ys:List V}(h:Paired R zs ys)(f:∀z y,z∈zs→R z y→∃b,y=val b∧S z b):
  ∃bs:List (α×β),bs.map (·.1)=zs∧ys=bs.map (λx=>val x.2)∧∀x∈bs,S x.1 x.2:=by
 induction h with
 |nil=>exact⟨[],rfl,rfl,by simp⟩
 |@cons a y as bs r _ ih =>
  obtain⟨cs,e1,e2,e3⟩:=ih λz y hz=>f z y (by simp[hz]);obtain⟨b,e,s⟩:=f _ _ (by simp) r;refine⟨(a,b)::cs,by rw[map_cons,e1],by rw[map_cons,←e2,e],λx hx=>?_⟩;rcases mem_cons.mp hx with rfl|hx
  ·exact s
  ·exact e3 x hx
theorem bv{α:Type}{R:α→V→Prop}{f:α→V}{zs:List α}{ys:List V}(h:Paired R zs ys)(hf:∀z y,z∈zs→R z y→y=f z):ys=zs.map f:=by
 induction h with
 |nil=>rfl
 |cons r _ ih=>rw[map_cons,←ih λz y hz=>hf z y (by simp[hz]),hf _ _ (by simp) r]
theorem kr(p:Int)(ms:List Int):inV (.int p) (ms.map V.int)=decide (p∈ms):=by
 unfold inV;rw[any_map,Bool.eq_iff_iff,any_eq_true,decide_eq_true_eq];constructor
 ·rintro⟨x,hx,e⟩;have:x=p:=by simpa [eqV]using e
  rw[←this];exact hx
 ·intro h;exact⟨p,h,by simp[eqV]⟩
theorem ic(ms:List Int):(ms.map V.int).all db=true:=by
 rw[List.all_map,all_eq_true];intro x _;rfl
theorem ut{X:Cx}:hJ (CX1 X.prog X.w) X E0:=λ_ _ _ _ _ _ _ ⟨_,_,_,_,_,h⟩=>h.elim
theorem Inv.thaw{X:Cx}{pins:List (Addr×Obj)}{σ:St}{H:Hp}{s:Shared}{d:Addr}{o:Obj}{kvs:List (Key×V)}(I:Inv X pins σ H s)(h:H d=some (.frz o (.dK kvs)))(h0:X.H₀ d=none):Inv X pins σ (upd H d (.dK kvs)) s:=by
 have nd:∀b u,H b=some u→(∀o' u',u≠.frz o' u')→b≠d:=λb u e hn z=>by
  subst z;rw[h]at e;cases e;exact hn _ _ rfl
 have nn:∀b,H b=none→b≠d:=λb e z=>by
  subst z;rw[h]at e;cases e
 refine⟨I.ok,I.os,I.bare,⟨I.base.keep,I.base.slot,λb o e n hx=>?_,I.base.there,λb xs e=>?_,λb o' u e=>?_,λb ps e=>?_⟩,I.loc,I.cell,?_,λx c e=>?_,λp hp=>?_,λb u e=>?_,I.len⟩
 ·have:=I.base.free b o e n hx;rw[ak (nn b this)];exact this
 ·have:=I.base.tups b xs e;rw[ak (nd b _ this λ_ _ z=>by cases z)];exact this
 ·have hb:b≠d:=λz=>by subst z;rw[h0]at e;cases e
  rw[ak hb];exact I.base.frzs b o' u e
 ·obtain⟨m,this⟩:=I.base.tbls b ps e;exact⟨m,by rw[ak (nd b _ this λ_ _ z=>by cases z)];exact this⟩
 ·rw[ak (nn _ I.free)];exact I.free
 ·rw[ak (nn _ (I.freeC x c e))];exact I.freeC x c e
 ·obtain⟨e,n,r⟩:=I.pin p hp;exact⟨e,by rw[ak (nn _ n)];exact n,r⟩
 ·by_cases hb:b=d
  ·subst hb;rw[ac]at e;cases e;obtain⟨_,q⟩:=I.hok b _ h;exact q
  ·rw[ak hb]at e;exact(I.hok b u e).stay (λ_ _ _ q=>q) (λc q=>by rw[ak (nd c _ q λ_ _ z=>by cases z)];exact q) λc xs q=>by rw[ak (nd c _ q λ_ _ z=>by cases z)];exact q
def wT(H₀:Hp)(t:TS):TS:=λD σ H=>∃d o kvs,H₀ d=none∧H d=some (.frz o (.dK kvs))∧t D σ (upd H d (.dK kvs))
theorem sP{X:Cx}{st:Stmt}{t:TS}(hs:PS X st t):PS X st (wT X.H₀ t):=λpins s σ H D I ⟨d,o,kvs,h0,h,ht⟩=>hs pins s σ _ D (I.thaw h h0) ht
end L2
namespace TW
structure Nd(S:Type) where
 num:Int
 par:Int
 nm:S
 st:Option Int
section
variable{S:Type}
inductive Reach(ns:List (Nd S))(f:Int):Nd S→Prop where
 |base {n:Nd S}:n∈ns→n.par=f→Reach ns f n
 |step {m n:Nd S}:Reach ns f m→m.st=none→n∈ns→n.par=m.num→Reach ns f n
theorem Reach.mem{ns:List (Nd S)}{f:Int}{n:Nd S}(h:Reach ns f n):n∈ns:=by
 cases h<;>assumption
theorem Reach.mono{ns ms:List (Nd S)}{f:Int}{n:Nd S}(h:Reach ns f n)(hs:∀x∈ns,x∈ms):Reach ms f n:=by
 induction h with
 |base hm hp=>exact .base (hs _ hm) hp
 |step _ hf hm hp ih=>exact .step ih hf (hs _ hm) hp
def inside(ns:List (Nd S))(k:Int):List (Nd S):=ns.filter λn=>decide (n.par=k)
def eQ(dn:List Int)(n:Nd S):Bool:=decide (n.par∈dn)
structure Walk(ns:List (Nd S))(f:Int)(dn:List Int)(fd:List (Nd S))(pd:List Int):Prop where
 perm:fd.Perm (ns.filter (eQ dn))
 reach:∀n∈fd,Reach ns f n
 cover:∀k,(k∈pd∨k∈dn)↔(k=f∨∃m∈fd,m.st=none∧m.num=k)
theorem Walk.start(ns:List (Nd S))(f:Int):Walk ns f [] [] [f]:=by
 refine⟨?_,by simp,λk=>by simp⟩;have e:ns.filter (eQ [])=[]:=by
  rw[List.filter_eq_nil_iff];intro a _;simp[eQ]
 rw[e]
theorem ff{α:Type}(p q:α→Bool)(hd:∀x,p x=true→q x=true→False):∀l:List α,
  (l.filter p++l.filter q).Perm (l.filter λx=>p x||q x)
 |[]=>by simp
 |x::l=>by
  have ih:=ff p q hd l;cases hp:p x with
  |true =>
   have hq:q x=false:=by
    cases h:q x with
    |false=>rfl
    |true=>exact(hd x hp h).elim
   rw[filter_cons_of_pos hp,filter_cons_of_neg (by simp[hq]),filter_cons_of_pos (by simp[hp])];exact List.Perm.cons x ih
  |false =>
   cases hq:q x with
   |true =>
    rw[filter_cons_of_neg (by simp[hp]),filter_cons_of_pos hq,filter_cons_of_pos (by simp[hq])];exact List.perm_middle.trans (List.Perm.cons x ih)
   |false =>
    rw[filter_cons_of_neg (by simp[hp]),filter_cons_of_neg (by simp[hq]),filter_cons_of_neg (by simp[hp,hq])];exact ih
def here(ns:List (Nd S))(dn:List Int)(x:Int):List (Nd S):=if x∈dn then []else inside ns x
def aS(l:List (Nd S)):List Int:=(l.filter λn=>n.st.isNone).map (·.num)
theorem iq{l:List (Nd S)}{k:Int}:k∈aS l↔∃m∈l,m.st=none∧m.num=k:=by
 unfold aS;rw[mem_map];constructor
 ·rintro⟨m,hm,e⟩;rw[mem_filter]at hm;exact⟨m,hm.1,by simpa using hm.2,e⟩
 ·rintro⟨m,hm,h,e⟩;exact⟨m,mem_filter.mpr ⟨hm,by simp[h]⟩,e⟩
theorem Walk.turn{ns:List (Nd S)}{f x:Int}{dn:List Int}{fd:List (Nd S)}{pd:List Int}(w:Walk ns f dn fd (pd++[x])):
  Walk ns f (x::dn) (fd++here ns dn x) (pd++aS (here ns dn x)):=by
 have hx:=(w.cover x).mp (.inl (by simp))
 by_cases hd:x∈dn
 ·have eh:here ns dn x=[]:=by unfold here;rw[if_pos hd]
  rw[eh];refine⟨?_,by simpa using w.reach,λk=>?_⟩
  ·have e:ns.filter (eQ (x::dn))=ns.filter (eQ dn):=by
    apply filter_congr;intro n _;simp only[eQ,mem_cons,decide_eq_decide];constructor
    ·rintro(h|h)
     ·rw[h];exact hd
     ·exact h
    ·exact .inr
   rw[e,append_nil];exact w.perm
  ·have c:=w.cover k;rw[append_nil,←c];simp only[aS,List.filter_nil,map_nil,append_nil,mem_append,mem_cons,not_mem_nil,or_false];constructor
   ·rintro(h|h|h)
    ·exact .inl (.inl h)
    ·exact .inl (.inr h)
    ·exact .inr h
   ·rintro((h|h)|h)
    ·exact .inl h
    ·exact .inr (.inl h)
    ·exact .inr (.inr h)
 ·have eh:here ns dn x=inside ns x:=by unfold here;rw[if_neg hd]
  rw[eh];refine⟨?_,λn hn=>?_,λk=>?_⟩
  ·have e:ns.filter (eQ (x::dn))=ns.filter λn=>eQ dn n||decide (n.par=x):=by
    apply filter_congr;intro n _;rw[Bool.eq_iff_iff];simp only[eQ,mem_cons,decide_eq_true_eq,Bool.or_eq_true];constructor
    ·rintro(h|h)
     ·exact .inr h
     ·exact .inl h
    ·rintro(h|h)
     ·exact .inr h
     ·exact .inl h
   rw[e];refine(List.Perm.append_right _ w.perm).trans (ff _ _ (λy h1 h2=>?_) ns);simp only[eQ,decide_eq_true_eq]at h1 h2;rw[h2]at h1;exact hd h1
  ·rcases mem_append.mp hn with h|h
   ·exact w.reach n h
   ·unfold inside at h;rw[mem_filter]at h;obtain⟨hm,hp⟩:=h;simp only[decide_eq_true_eq]at hp;rcases hx with e|⟨m,hm',hf,e⟩
    ·exact .base hm (hp.trans e)
    ·exact .step (w.reach m hm') hf hm (hp.trans e.symm)
  ·have c:=w.cover k;simp only[mem_append,mem_cons,not_mem_nil,or_false]at c⊢;rw[iq];constructor
   ·rintro((h|⟨m,hm,h1,h2⟩)|h|h)
    ·rcases c.mp (.inl (.inl h))with e|⟨m,hm,z⟩
     ·exact .inl e
     ·exact .inr ⟨m,.inl hm,z⟩
    ·exact .inr ⟨m,.inr hm,h1,h2⟩
    ·rcases c.mp (.inl (.inr h))with e|⟨m,hm,z⟩
     ·exact .inl e
     ·exact .inr ⟨m,.inl hm,z⟩
    ·rcases c.mp (.inr h)with e|⟨m,hm,z⟩
     ·exact .inl e
     ·exact .inr ⟨m,.inl hm,z⟩
   ·rintro(e|⟨m,hm|hm,z⟩)
    ·rcases c.mpr (.inl e)with (h|h)|h
     ·exact .inl (.inl h)
     ·exact .inr (.inl h)
     ·exact .inr (.inr h)
    ·rcases c.mpr (.inr ⟨m,hm,z⟩)with (h|h)|h
     ·exact .inl (.inl h)
     ·exact .inr (.inl h)
     ·exact .inr (.inr h)
    ·exact .inl (.inr ⟨m,hm,z⟩)
theorem Walk.len{ns:List (Nd S)}{f:Int}{dn:List Int}{fd:List (Nd S)}{pd:List Int}(w:Walk ns f dn fd pd):fd.length≤ns.length:=by
 rw[w.perm.length_eq];exact length_filter_le _ _
theorem dP(l:List (Nd S)):(aS l).length≤l.length:=by
 unfold aS;rw[length_map];exact length_filter_le _ _
theorem Walk.mem{ns:List (Nd S)}{f:Int}{dn:List Int}{fd:List (Nd S)}(w:Walk ns f dn fd [])(n:Nd S):n∈fd↔Reach ns f n:=by
 constructor
 ·exact w.reach n
 ·have cov:∀k,(k=f∨∃m∈fd,m.st=none∧m.num=k)→k∈dn:=λk h=>by
   rcases (w.cover k).mpr h with z|z
   ·simp at z
   ·exact z
  have back:∀x,x∈ns→x.par∈dn→x∈fd:=λx hx hp=>w.perm.mem_iff.mpr (mem_filter.mpr ⟨hx,by simp[eQ,hp]⟩);intro h
  induction h with
  |base hm hp=>exact back _ hm (cov _ (.inl hp))
  |step _ hf hm hp ih=>exact back _ hm (cov _ (.inr ⟨_,ih,hf,hp.symm⟩))
def cE(ns:List (Nd S)):Prop:=ns.Pairwise λa b=>a.num<b.num
def dA(ns:List (Nd S)):Prop:=(ns.map λn=>(n.par,n.nm)).Nodup
structure Tree(ns:List (Nd S)):Prop where
 rise:cE ns
 own:dA ns
 down:∀n∈ns,Reach ns 0 n
inductive Built:List (Nd S)→Prop where
 |nil:Built []
 |snoc {l:List (Nd S)} {n:Nd S}:Built l→(n.par=0∨∃m∈l,m.st=none∧m.num=n.par)→Built (l++[n])
theorem Built.down{l:List (Nd S)}(b:Built l):∀n∈l,Reach l 0 n:=by
 induction b with
 |nil=>simp
 |@snoc l n b h ih =>
  intro x hx;have up:∀y∈l,y∈l++[n]:=λy hy=>mem_append_left _ hy;rcases mem_append.mp hx with hx|hx
  ·exact(ih x hx).mono up
  ·have e:x=n:=by simpa using hx
   subst e;rcases h with h|⟨m,hm,hf,he⟩
   ·exact .base (by simp) h
   ·exact .step ((ih m hm).mono up) hf (by simp) he.symm
theorem sQ{l t:List (Nd S)}(b:Built l)(p:t.Perm l)(hr:t.Pairwise λa b=>a.num≤b.num)(hn:(l.map (·.num)).Nodup)(ho:dA l):Tree t:=by
 refine⟨?_,?_,λn hn'=>?_⟩
 ·have hn':(t.map (·.num)).Nodup:=((p.map _).nodup_iff).mpr hn;unfold Nodup at hn';rw[pairwise_map]at hn';unfold cE;exact hr.imp₂ (λa b h1 h2=>by omega) hn'
 ·unfold dA;exact((p.map _).nodup_iff).mpr ho
 ·exact(b.down n (p.mem_iff.mp hn')).mono λx hx=>p.mem_iff.mpr hx
theorem qO{t:List (Nd S)}(h:cE t){a b:Nd S}(ha:a∈t)(hb:b∈t)(e:a.num=b.num):a=b:=by
 unfold cE at h
 induction t with
 |nil=>simp at ha
 |cons x r ih =>
  rw[pairwise_cons]at h;rcases mem_cons.mp ha with ea|ha'
  ·rcases mem_cons.mp hb with eb|hb'
   ·rw[ea,eb]
   ·have:=h.1 b hb';rw[←ea]at this;omega
  ·rcases mem_cons.mp hb with eb|hb'
   ·have:=h.1 a ha';rw[←eb]at this;omega
   ·exact ih h.2 ha' hb'
end
end TW
namespace TW
section
variable{S:Type}
inductive PathTo(ns:List (Nd S)):Int→List S→Prop where
 |top:PathTo ns 0 []
 |node {n:Nd S} {p:List S}:n∈ns→PathTo ns n.par p→PathTo ns n.num (p++[n.nm])
structure Tree1(ns:List (Nd S)):Prop extends Tree ns where
 pos:∀n∈ns,1≤n.num
theorem Tree1.inj{ns:List (Nd S)}(T:Tree1 ns){a b:Nd S}(ha:a∈ns)(hb:b∈ns)(e:a.num=b.num):a=b:=qO T.rise ha hb e
theorem PathTo.zero{ns:List (Nd S)}(T:Tree1 ns){k:Int}{p:List S}(h:PathTo ns k p)(e:k=0):p=[]:=by
 cases h with
 |top=>rfl
 |@node n p hm _=>have:=T.pos n hm;omega
theorem PathTo.inv{ns:List (Nd S)}(T:Tree1 ns){k:Int}{p:List S}(h:PathTo ns k p){n:Nd S}(hn:n∈ns)(e:k=n.num):∃q,p=q++[n.nm]∧PathTo ns n.par q:=by
 cases h with
 |top=>have:=T.pos n hn;omega
 |@node m q hm hq =>
  have:m=n:=T.inj hm hn e;subst this;exact⟨q,rfl,hq⟩
theorem PathTo.uniq{ns:List (Nd S)}(T:Tree1 ns){k:Int}{p:List S}(h:PathTo ns k p):∀{q:List S},PathTo ns k q→p=q:=by
 induction h with
 |top=>intro q hq;exact(hq.zero T rfl).symm
 |@node n p hm _ ih =>
  intro q hq;obtain⟨q',e,hq'⟩:=hq.inv T hm rfl;rw[e,ih hq']
theorem PathTo.ex{ns:List (Nd S)}(T:Tree1 ns){n:Nd S}(hn:n∈ns):∃p,PathTo ns n.num p:=by
 have key:∀x,Reach ns 0 x→∃p,PathTo ns x.num p:=by
  intro x r
  induction r with
  |base hm hp=>exact⟨_,.node hm (by rw[hp];exact .top)⟩
  |step _ _ hm hp ih =>
   obtain⟨p,h⟩:=ih;exact⟨_,.node hm (by rw[hp];exact h)⟩
 exact key n (T.down n hn)
inductive Und(ns:List (Nd S))(g:Int):Int→Prop where
 |here:Und ns g g
 |up {n:Nd S}:n∈ns→Und ns g n.par→Und ns g n.num
theorem Und.zero{ns:List (Nd S)}(T:Tree1 ns){g k:Int}(h:Und ns g k)(e:k=0):g=0:=by
 cases h with
 |here=>exact e
 |@up n hm _=>have:=T.pos n hm;omega
theorem Und.inv{ns:List (Nd S)}(T:Tree1 ns){g k:Int}(h:Und ns g k){n:Nd S}(hn:n∈ns)(e:k=n.num)(hg:k≠g):Und ns g n.par:=by
 cases h with
 |here=>exact absurd rfl hg
 |@up m hm hu =>
  have:m=n:=T.inj hm hn e;subst this;exact hu
theorem cR{ns:List (Nd S)}(T:Tree1 ns){n:Nd S}(hn:n∈ns):n.par=0∨∃m∈ns,m.st=none∧m.num=n.par:=by
 have:=T.down n hn;cases this with
 |base _ hp=>exact .inl hp
 |@step m _ hr hf _ hp=>exact .inr ⟨m,hr.mem,hf,hp.symm⟩
theorem jJ{ns:List (Nd S)}(T:Tree1 ns){g:Int}{n:Nd S}(h:Reach ns g n):Und ns g n.num∧∃p q,PathTo ns n.num (p++q)∧q≠[]∧PathTo ns g p:=by
 induction h with
 |@base n hm hp =>
  obtain⟨p,h⟩:=PathTo.ex T hm;obtain⟨q,e,hq⟩:=h.inv T hm rfl;refine⟨.up hm (by rw[hp];exact .here),q,[n.nm],by rw[←e];exact h,by simp,by rw[←hp];exact hq⟩
 |@step m n hr hf hm hp ih =>
  obtain⟨hu,p,q,h1,h2,h3⟩:=ih;refine⟨.up hm (by rw[hp];exact hu),p,q++[n.nm],?_,by simp,h3⟩;rw[←append_assoc];exact .node hm (by rw[hp];exact h1)
theorem fg{ns:List (Nd S)}(T:Tree1 ns){g:Int}{n:Nd S}(h:Reach ns g n):n.num≠g:=by
 obtain⟨_,p,q,h1,h2,h3⟩:=jJ T h;intro e;rw[e]at h1;have:=h1.uniq T h3;have hl:=congrArg length this;rw[length_append]at hl;have:q.length≠0:=λz=>h2 (length_eq_zero_iff.mp z);omega
theorem pR{ns:List (Nd S)}(T:Tree1 ns){g:Int}(hg:1≤g):∀{k:Int}{p:List S},PathTo ns k p→∀{n:Nd S},n∈ns→k=n.num→Und ns g k→k≠g→Reach ns g n:=by
 intro k p h
 induction h with
 |top=>intro n hn e;have:=T.pos n hn;omega
 |@node m p hm hp ih =>
  intro n hn e hu hne;have:m=n:=T.inj hm hn e;subst this;have hu':=hu.inv T hm rfl hne
  by_cases hpg:m.par=g
  ·exact .base hm hpg
  ·rcases cR T hm with h0|⟨r,hr,hf,er⟩
   ·have:=hu'.zero T h0;omega
   ·exact .step (ih hr er.symm hu' hpg) hf hm er.symm
theorem dm{ns:List (Nd S)}(T:Tree1 ns){g:Int}(hg:1≤g){n:Nd S}(hn:n∈ns):Reach ns g n↔n.num≠g∧Und ns g n.num:=by
 constructor
 ·intro h;exact⟨fg T h,(jJ T h).1⟩
 ·rintro⟨h1,h2⟩;obtain⟨p,hp⟩:=PathTo.ex T hn;exact pR T hg hp hn rfl h2 h1
end
end TW
namespace TW
section
variable{S:Type}
theorem jK{t:List (Nd S)}:cE t↔(t.map (·.num)).Pairwise (λa b:Int=>a<b):=by
 unfold cE;rw[pairwise_map]
def fZ(t:List (Nd S))(p:Int):Prop:=p=0∨∃m∈t,m.st=none∧m.num=p
theorem made{t u:List (Nd S)}{n:Nd S}(T:Tree1 t)(hp:u.Perm (n::t))(hr:cE u)(h1:1≤n.num)(hf:fZ t n.par)(ho:∀m∈t,¬(m.par=n.par∧m.nm=n.nm)):Tree1 u:=by
 have hm:∀x,x∈u↔x=n∨x∈t:=λx=>by rw[hp.mem_iff,mem_cons]
 have ht:∀x,x∈t→x∈u:=λx hx=>(hm x).mpr (.inr hx);refine⟨⟨hr,?_,λx hx=>?_⟩,λx hx=>?_⟩
 ·unfold dA;rw[(hp.map λn:Nd S=>(n.par,n.nm)).nodup_iff,map_cons,nodup_cons];refine⟨λhx=>?_,T.own⟩;obtain⟨m,h2,e⟩:=mem_map.mp hx;injection e with e1 e2
  exact ho m h2 ⟨e1,e2⟩
 ·rcases (hm x).mp hx with e|hx
  ·subst e;rcases hf with e|⟨m,h2,h3,e⟩
   ·exact .base hx e
   ·exact .step ((T.down m h2).mono ht) h3 hx e.symm
  ·exact(T.down x hx).mono ht
 ·rcases (hm x).mp hx with e|hx
  ·subst e;exact h1
  ·exact T.pos x hx
def put(z:Nd S)(m:Nd S):Nd S:=if m.num=z.num then z else m
theorem kt(z m:Nd S):(put z m).num=m.num:=by
 unfold put
 split
 ·rename_i h;exact h.symm
 ·rfl
theorem cb{z m:Nd S}(h:m.num≠z.num):put z m=m:=by unfold put;rw[if_neg h]
theorem dB{z m:Nd S}(h:m.num=z.num):put z m=z:=by unfold put;rw[if_pos h]
theorem qP(z:Nd S)(t:List (Nd S)):(t.map (put z)).map (·.num)=t.map (·.num):=by
 rw[map_map];apply map_congr_left;intro m _;exact kt z m
theorem gI{z:Nd S}{t:List (Nd S)}(h:cE t):cE (t.map (put z)):=by
 rw[jK,qP,←jK];exact h
theorem oB{z:Nd S}{t:List (Nd S)}(T:Tree1 t):∀n∈t.map (put z),1≤n.num:=λn hn=>by
 obtain⟨m,hm,rfl⟩:=mem_map.mp hn;rw[kt];exact T.pos m hm
theorem wrote{t:List (Nd S)}{y z:Nd S}(T:Tree1 t)(hy:y∈t)(e1:z.num=y.num)(e2:z.par=y.par)(e3:z.nm=y.nm)(hs:y.st≠none):Tree1 (t.map (put z)):=by
 have par:∀m∈t,(put z m).par=m.par∧(put z m).nm=m.nm:=λm hm=>by
  by_cases h:m.num=z.num
  ·have:m=y:=T.inj hm hy (h.trans e1);subst this;rw[dB h];exact⟨e2,e3⟩
  ·rw[cb h];exact⟨rfl,rfl⟩
 refine⟨⟨gI T.rise,?_,λn hn=>?_⟩,oB T⟩
 ·have:(t.map (put z)).map (λn=>(n.par,n.nm))=t.map (λn=>(n.par,n.nm)):=by
   rw[map_map];apply map_congr_left;intro m hm;show((put z m).par,(put z m).nm)=_;rw[(par m hm).1,(par m hm).2]
  unfold dA;rw[this];exact T.own
 ·obtain⟨m,hm,rfl⟩:=mem_map.mp hn;have key:∀x,Reach t 0 x→Reach (t.map (put z)) 0 (put z x):=by
   intro x r
   induction r with
   |@base x hx hp=>exact .base (mem_map.mpr ⟨x,hx,rfl⟩) (by rw[(par x hx).1];exact hp)
   |@step a x ra hf hx hp ih =>
    have ha:put z a=a:=cb λe=>hs (by rw[←T.inj ra.mem hy (e.trans e1)];exact hf);rw[ha]at ih;exact .step ih hf (mem_map.mpr ⟨x,hx,rfl⟩) (by rw[(par x hx).1];exact hp)
  exact key m (T.down m hm)
theorem jL{t:List (Nd S)}{k:Int}{n:Nd S}(r:Reach t 0 n)(h:¬Und t k n.num){u:List (Nd S)}(hu:∀x∈t,¬Und t k x.num→x∈u):Reach u 0 n:=by
 induction r with
 |@base n hm hp=>exact .base (hu n hm h) hp
 |@step m n rm hf hn hp ih=>exact .step (ih λhx=>h (.up hn (by rw[hp];exact hx))) hf (hu n hn h) hp
theorem dropped{t:List (Nd S)}{k:Int}(T:Tree1 t){p:Nd S→Bool}(hp:∀n∈t,p n=true↔¬Und t k n.num):Tree1 (t.filter p):=by
 refine⟨⟨T.rise.sublist filter_sublist,T.own.sublist (filter_sublist.map _),λn hn=>?_⟩,λn hn=>T.pos n (mem_filter.mp hn).1⟩;obtain⟨h1,h2⟩:=mem_filter.mp hn;exact jL (T.down n h1) ((hp n h1).mp h2) λx hx hu=>mem_filter.mpr ⟨hx,(hp x hx).mpr hu⟩
theorem moved{t:List (Nd S)}{y z:Nd S}(T:Tree1 t)(hy:y∈t)(e1:z.num=y.num)(e4:z.st=y.st)(hf:fZ t z.par)(hi:z.par≠0→¬Und t y.num z.par)(ho:∀m∈t,m.num≠y.num→¬(m.par=z.par∧m.nm=z.nm)):Tree1 (t.map (put z)):=by
 have hz:z∈t.map (put z):=mem_map.mpr ⟨y,hy,dB e1.symm⟩;have other:∀m∈t,m.num≠y.num→m∈t.map (put z):=λm hm h=>mem_map.mpr ⟨m,hm,cb (by rw[e1];exact h)⟩;have free:∀n∈t,¬Und t y.num n.num→Reach (t.map (put z)) 0 n:=λn hn h=>jL (T.down n hn) h λx hx hu=>other x hx λe=>hu (by rw[e];exact .here);have rz:Reach (t.map (put z)) 0 z:=by
  rcases hf with e|⟨m,h2,h3,e⟩
  ·exact .base hz e
  ·have h0:z.par≠0:=λe'=>by have:=T.pos m h2;omega
   exact .step (free m h2 (by rw[e];exact hi h0)) h3 hz e.symm
 refine⟨⟨gI T.rise,?_,λn hn=>?_⟩,oB T⟩
 ·have h:=T.own;have hr:=T.rise;unfold dA cE Nodup at *;rw[pairwise_map]at h;rw[map_map,pairwise_map];have both:=h.and hr;refine both.imp_of_mem λ{a b} ha hb hab=>?_;obtain⟨h1,h2⟩:=hab;show((put z a).par,(put z a).nm)≠((put z b).par,(put z b).nm)
  by_cases ea:a.num=y.num
  ·have eb:b.num≠y.num:=by omega
   rw[dB (by rw[e1];exact ea),cb (by rw[e1];exact eb)];intro e;injection e with q1 q2
   exact ho b hb eb ⟨q1.symm,q2.symm⟩
  ·by_cases eb:b.num=y.num
   ·rw[dB (m:=b) (by rw[e1];exact eb),cb (by rw[e1];exact ea)];intro e;injection e with q1 q2
    exact ho a ha ea ⟨q1,q2⟩
   ·rw[cb (by rw[e1];exact ea),cb (by rw[e1];exact eb)];exact h1
 ·obtain⟨m,hm,rfl⟩:=mem_map.mp hn
  by_cases em:m.num=y.num
  ·rw[dB (by rw[e1];exact em)];exact rz
  ·rw[cb (by rw[e1];exact em)]
   by_cases hu:Und t y.num m.num
   ·have r:Reach t y.num m:=(dm T (T.pos y hy) hm).mpr ⟨em,hu⟩;clear hu em hm hn
    induction r with
    |@base n hn hp =>
     have hzs:z.st=none:=by
      rcases cR T hn with e|⟨a,ha,h3,e⟩
      ·have:=T.pos y hy;omega
      ·have:a=y:=T.inj ha hy (e.trans hp);subst this;rw[e4];exact h3
     have hne:n.num≠y.num:=fg T (.base hn hp);exact .step rz hzs (other n hn hne) (by rw[hp,e1])
    |@step a n ra hfa hn hp ih=>exact .step ih hfa (other n hn (fg T (.step ra hfa hn hp))) hp
   ·exact free m hm hu
end
end TW
namespace TW
section
variable{S:Type}
inductive Deed(S:Type) where
 |make (n p:Int) (nm:S) (st:Option Int)
 |write (n st:Int)
 |move (n p:Int) (nm:S)
 |drop (n:Int)
inductive Wd where
 |known|noNode|notFile|notFolder|inside|taken
def aF(t:List (Nd S))(k:Int):Prop:=∃m∈t,m.num=k
inductive Told(t:List (Nd S)):Deed S→Sum Wd (List (Nd S))→Prop where
 |mKnown {n p:Int} {nm:S} {st:Option Int}:aF t n→Told t (.make n p nm st) (.inl .known)
 |mNo {n p:Int} {nm:S} {st:Option Int}:¬aF t n→p≠0→¬aF t p→Told t (.make n p nm st) (.inl .noNode)
 |mFile {n p:Int} {nm:S} {st:Option Int} {m:Nd S}:¬aF t n→p≠0→m∈t→m.num=p→m.st≠none→Told t (.make n p nm st) (.inl .notFolder)
 |mTaken {n p:Int} {nm:S} {st:Option Int} {m:Nd S}:¬aF t n→fZ t p→m∈t→m.par=p→m.nm=nm→Told t (.make n p nm st) (.inl .taken)
 |made {n p:Int} {nm:S} {st:Option Int} {u:List (Nd S)}:¬aF t n→fZ t p→(∀m∈t,¬(m.par=p∧m.nm=nm))→u.Perm (⟨n,p,nm,st⟩::t)→cE u→Told t (.make n p nm st) (.inr u)
 |wNo {n st:Int}:¬aF t n→Told t (.write n st) (.inl .noNode)
 |wFold {n st:Int} {y:Nd S}:y∈t→y.num=n→y.st=none→Told t (.write n st) (.inl .notFile)
 |wrote {n st:Int} {y:Nd S}:y∈t→y.num=n→y.st≠none→Told t (.write n st) (.inr (t.map (put ⟨n,y.par,y.nm,some st⟩)))
 |vNo {n p:Int} {nm:S}:¬aF t n→Told t (.move n p nm) (.inl .noNode)
 |vNoP {n p:Int} {nm:S}:aF t n→p≠0→¬aF t p→Told t (.move n p nm) (.inl .noNode)
 |vFile {n p:Int} {nm:S} {m:Nd S}:aF t n→p≠0→m∈t→m.num=p→m.st≠none→Told t (.move n p nm) (.inl .notFolder)
 |vIn {n p:Int} {nm:S}:aF t n→fZ t p→p≠0→Und t n p→Told t (.move n p nm) (.inl .inside)
 |vTaken {n p:Int} {nm:S} {m:Nd S}:aF t n→fZ t p→(p≠0→¬Und t n p)→m∈t→m.num≠n→m.par=p→m.nm=nm→Told t (.move n p nm) (.inl .taken)
 |moved {n p:Int} {nm:S} {y:Nd S}:y∈t→y.num=n→fZ t p→(p≠0→¬Und t n p)→(∀m∈t,m.num≠n→¬(m.par=p∧m.nm=nm))→Told t (.move n p nm) (.inr (t.map (put ⟨n,p,nm,y.st⟩)))
 |dNo {n:Int}:¬aF t n→Told t (.drop n) (.inl .noNode)
 |dropped {n:Int} {f:Nd S→Bool}:aF t n→(∀m∈t,f m=true↔¬Und t n m.num)→Told t (.drop n) (.inr (t.filter f))
theorem cT{t:List (Nd S)}{p:Int}(h:fZ t p)(h0:p≠0)(hn:¬aF t p):False:=by
 rcases h with h|⟨m,hm,_,e⟩
 ·exact h0 h
 ·exact hn ⟨m,hm,e⟩
theorem ck{t:List (Nd S)}(T:Tree1 t){p:Int}{m:Nd S}(h:fZ t p)(h0:p≠0)(hm:m∈t)(e:m.num=p)(hs:m.st≠none):False:=by
 rcases h with h|⟨y,hy,h2,e2⟩
 ·exact h0 h
 ·have:=T.inj hm hy (e.trans e2.symm);subst this;exact hs h2
theorem iZ{t u:List (Nd S)}(ht:cE t)(hu:cE u)(h:t.Perm u):t=u:=by
 have main:∀{l m:List (Nd S)},cE l→cE m→(∀x,x∈l↔x∈m)→l=m:=by
  intro l
  induction l with
  |nil =>
   intro m _ _ h;cases m with
   |nil=>rfl
   |cons b m=>exact absurd ((h b).mpr (by simp)) (by simp)
  |cons a l ih =>
   intro m hl hm h;cases m with
   |nil=>exact absurd ((h a).mp (by simp)) (by simp)
   |cons b m =>
    unfold cE at hl hm ih;rw[pairwise_cons]at hl hm;have e:a=b:=by
     rcases mem_cons.mp ((h a).mp (by simp))with e|h1
     ·exact e
     ·rcases mem_cons.mp ((h b).mpr (by simp))with e|h2
      ·exact e.symm
      ·have:=hl.1 b h2;have:=hm.1 a h1;omega
    subst e;rw[ih hl.2 hm.2 λx=>?_];constructor
    ·intro hx;rcases mem_cons.mp ((h x).mp (by simp[hx]))with e|h1
     ·subst e;have:=hl.1 x hx;omega
     ·exact h1
    ·intro hx;rcases mem_cons.mp ((h x).mpr (by simp[hx]))with e|h1
     ·subst e;have:=hm.1 x hx;omega
     ·exact h1
 exact main ht hu λx=>h.mem_iff
theorem Told.one{t:List (Nd S)}(T:Tree1 t){d:Deed S}{r r':Sum Wd (List (Nd S))}(h:Told t d r)(h':Told t d r'):r=r':=by
 have hno:∀{k:Int}{m:Nd S},m∈t→m.num=k→¬aF t k→False:=λhm e hn=>hn ⟨_,hm,e⟩;have one:∀{k:Int}{a b:Nd S},a∈t→a.num=k→b∈t→b.num=k→a=b:=λha ea hb eb=>T.inj ha hb (ea.trans eb.symm);cases h with
 |mKnown a1=>cases h'<;>first|rfl|(exfalso;contradiction)
 |mNo a1 a2 a3=>cases h' with
  |mKnown b1=>exact absurd b1 a1
  |mNo=>rfl
  |mFile b1 b2 b3 b4 b5=>exact(hno b3 b4 a3).elim
  |mTaken b1 b2=>exact(cT b2 a2 a3).elim
  |made b1 b2=>exact(cT b2 a2 a3).elim
 |mFile a1 a2 a3 a4 a5=>cases h' with
  |mKnown b1=>exact absurd b1 a1
  |mNo b1 b2 b3=>exact(hno a3 a4 b3).elim
  |mFile=>rfl
  |mTaken b1 b2=>exact(ck T b2 a2 a3 a4 a5).elim
  |made b1 b2=>exact(ck T b2 a2 a3 a4 a5).elim
 |mTaken a1 a2 a3 a4 a5=>cases h' with
  |mKnown b1=>exact absurd b1 a1
  |mNo b1 b2 b3=>exact(cT a2 b2 b3).elim
  |mFile b1 b2 b3 b4 b5=>exact(ck T a2 b2 b3 b4 b5).elim
  |mTaken=>rfl
  |made b1 b2 b3=>exact(b3 _ a3 ⟨a4,a5⟩).elim
 |made a1 a2 a3 a4 a5=>cases h' with
  |mKnown b1=>exact absurd b1 a1
  |mNo b1 b2 b3=>exact(cT a2 b2 b3).elim
  |mFile b1 b2 b3 b4 b5=>exact(ck T a2 b2 b3 b4 b5).elim
  |mTaken b1 b2 b3 b4 b5=>exact(a3 _ b3 ⟨b4,b5⟩).elim
  |made b1 b2 b3 b4 b5=>rw[iZ a5 b5 (a4.trans b4.symm)]
 |wNo a1=>cases h' with
  |wNo=>rfl
  |wFold b1 b2=>exact(hno b1 b2 a1).elim
  |wrote b1 b2=>exact(hno b1 b2 a1).elim
 |wFold a1 a2 a3=>cases h' with
  |wNo b1=>exact(hno a1 a2 b1).elim
  |wFold=>rfl
  |wrote b1 b2 b3=>rw[one a1 a2 b1 b2]at a3;exact absurd a3 b3
 |wrote a1 a2 a3=>cases h' with
  |wNo b1=>exact(hno a1 a2 b1).elim
  |wFold b1 b2 b3=>rw[one b1 b2 a1 a2]at b3;exact absurd b3 a3
  |wrote b1 b2 b3=>rw[one b1 b2 a1 a2]
 |vNo a1=>cases h' with
  |vNo=>rfl
  |vNoP=>rfl
  |vFile b1=>exact absurd b1 a1
  |vIn b1=>exact absurd b1 a1
  |vTaken b1=>exact absurd b1 a1
  |moved b1 b2=>exact(hno b1 b2 a1).elim
 |vNoP a1 a2 a3=>cases h' with
  |vNo=>rfl
  |vNoP=>rfl
  |vFile b1 b2 b3 b4=>exact(hno b3 b4 a3).elim
  |vIn b1 b2=>exact(cT b2 a2 a3).elim
  |vTaken b1 b2=>exact(cT b2 a2 a3).elim
  |moved b1 b2 b3=>exact(cT b3 a2 a3).elim
 |vFile a1 a2 a3 a4 a5=>cases h' with
  |vNo b1=>exact absurd a1 b1
  |vNoP b1 b2 b3=>exact(hno a3 a4 b3).elim
  |vFile=>rfl
  |vIn b1 b2=>exact(ck T b2 a2 a3 a4 a5).elim
  |vTaken b1 b2=>exact(ck T b2 a2 a3 a4 a5).elim
  |moved b1 b2 b3=>exact(ck T b3 a2 a3 a4 a5).elim
 |vIn a1 a2 a3 a4=>cases h' with
  |vNo b1=>exact absurd a1 b1
  |vNoP b1 b2 b3=>exact(cT a2 b2 b3).elim
  |vFile b1 b2 b3 b4 b5=>exact(ck T a2 b2 b3 b4 b5).elim
  |vIn=>rfl
  |vTaken b1 b2 b3=>exact absurd a4 (b3 a3)
  |moved b1 b2 b3 b4=>exact absurd a4 (b4 a3)
 |vTaken a1 a2 a3 a4 a5 a6 a7=>cases h' with
  |vNo b1=>exact absurd a1 b1
  |vNoP b1 b2 b3=>exact(cT a2 b2 b3).elim
  |vFile b1 b2 b3 b4 b5=>exact(ck T a2 b2 b3 b4 b5).elim
  |vIn b1 b2 b3 b4=>exact absurd b4 (a3 b3)
  |vTaken=>rfl
  |moved b1 b2 b3 b4 b5=>exact(b5 _ a4 a5 ⟨a6,a7⟩).elim
 |moved a1 a2 a3 a4 a5=>cases h' with
  |vNo b1=>exact(hno a1 a2 b1).elim
  |vNoP b1 b2 b3=>exact(cT a3 b2 b3).elim
  |vFile b1 b2 b3 b4 b5=>exact(ck T a3 b2 b3 b4 b5).elim
  |vIn b1 b2 b3 b4=>exact absurd b4 (a4 b3)
  |vTaken b1 b2 b3 b4 b5 b6 b7=>exact(a5 _ b4 b5 ⟨b6,b7⟩).elim
  |moved b1 b2=>rw[one b1 b2 a1 a2]
 |dNo a1=>cases h' with
  |dNo=>rfl
  |dropped b1=>exact absurd b1 a1
 |dropped a1 a2=>cases h' with
  |dNo b1=>exact absurd a1 b1
  |dropped b1 b2 =>
   congr 1
   apply filter_congr;intro m hm;rw[Bool.eq_iff_iff,a2 m hm,b2 m hm]
def Deed.pos:Deed S→Prop
 |.make n _ _ _=>1≤n
 |_=>True
theorem Told.tree{t u:List (Nd S)}(T:Tree1 t){d:Deed S}(h:Told t d (.inr u))(hp:d.pos):Tree1 u:=by
 generalize er:(Sum.inr u:Sum Wd (List (Nd S)))=r at h;cases h with
 |made a1 a2 a3 a4 a5 =>
  injection er with er
  subst er;exact TW.made T a4 a5 hp a2 λm hm=>a3 m hm
 |wrote a1 a2 a3 =>
  injection er with er
  subst er a2;exact TW.wrote T a1 rfl rfl rfl a3
 |moved a1 a2 a3 a4 a5 =>
  injection er with er
  subst er a2;exact TW.moved T a1 rfl rfl a3 a4 a5
 |dropped a1 a2 =>
  injection er with er
  subst er;exact TW.dropped T a2
 |_=>cases er
theorem Told.all{t u:List (Nd S)}{P:Nd S→Prop}(ht:∀n∈t,P n){d:Deed S}(h:Told t d (.inr u))(hm:∀n p nm st,d=.make n p nm st→P ⟨n,p,nm,st⟩)(hw:∀n st,d=.write n st→∀y∈t,y.num=n→P ⟨n,y.par,y.nm,some st⟩)(hv:∀n p nm,d=.move n p nm→∀y∈t,y.num=n→P ⟨n,p,nm,y.st⟩):∀n∈u,P n:=by
 have hput:∀z:Nd S,P z→∀n∈t.map (put z),P n:=λz hz n hn=>by
  obtain⟨m,hm,rfl⟩:=mem_map.mp hn
  by_cases e:m.num=z.num
  ·rw[dB e];exact hz
  ·rw[cb e];exact ht m hm
 generalize er:(Sum.inr u:Sum Wd (List (Nd S)))=r at h;cases h with
 |made a1 a2 a3 a4 a5 =>
  injection er with er
  subst er;intro n hn;rcases mem_cons.mp (a4.mem_iff.mp hn)with e|h
  ·subst e;exact hm _ _ _ _ rfl
  ·exact ht n h
 |wrote a1 a2 a3 =>
  injection er with er
  subst er;exact hput _ (hw _ _ rfl _ a1 a2)
 |moved a1 a2 a3 a4 a5 =>
  injection er with er
  subst er;exact hput _ (hv _ _ _ rfl _ a1 a2)
 |dropped a1 a2 =>
  injection er with er
  subst er;intro n hn;exact ht n (mem_filter.mp hn).1
 |_=>cases er
theorem Told.len{t u:List (Nd S)}{d:Deed S}(h:Told t d (.inr u)):u.length≤t.length+1:=by
 generalize er:(Sum.inr u:Sum Wd (List (Nd S)))=r at h;cases h with
 |made a1 a2 a3 a4 a5 =>
  injection er with er
  subst er;rw[a4.length_eq];simp
 |wrote a1 a2 a3 =>
  injection er with er
  subst er;simp
 |moved a1 a2 a3 a4 a5 =>
  injection er with er
  subst er;simp
 |dropped a1 a2 =>
  injection er with er
  subst er;exact Nat.le_succ_of_le (length_filter_le _ _)
 |_=>cases er
end
end TW
namespace TW
section
variable{S:Type}
inductive Chain:List (Nd S)→List (Deed S)→List (Nd S)→Prop where
 |nil {t:List (Nd S)}:Chain t [] t
 |cons {t u v:List (Nd S)} {d:Deed S} {ds:List (Deed S)}:Told t d (.inr u)→Chain u ds v→Chain t (d::ds) v
theorem Chain.snoc{t u v:List (Nd S)}{ds:List (Deed S)}{d:Deed S}(h:Chain t ds u)(hd:Told u d (.inr v)):Chain t (ds++[d]) v:=by
 induction h with
 |nil=>exact .cons hd .nil
 |cons h1 _ ih=>exact .cons h1 (ih hd)
theorem Chain.head{t v:List (Nd S)}{d:Deed S}{ds:List (Deed S)}(h:Chain t (d::ds) v):∃u,Told t d (.inr u)∧Chain u ds v:=by
 cases h with
 |cons h1 h2=>exact⟨_,h1,h2⟩
theorem Chain.end{t v:List (Nd S)}(h:Chain t [] v):t=v:=by cases h;rfl
end
end TW
namespace L2
open PySem PySem.Spec PyProof.Rows
section
variable{P:Program}{w:World}{K:PySem.W.Frag}{mg:Str→Option Value}{base:Heap}
theorem Fun.okX{x qual:Str}{st:Stmt}{f:Addr}{fd:FuncData}{N ps:List Str}{k:Nat}{sp:Sp}(F:Fun K x qual st f fd)(S:FnScope N ps (ai st))(len:∀vs H Q E,sp vs H Q E→vs.length=ps.length)(hbody:∀(cdv:Value) (A:Around) (outer:List Env) (s:Shared) (H:Hp) (vs:List V) (Q:VK) (E:XK),Room k (A.deeper (envOfC qual (ai st) s.heap.objs.size f cdv))→sp vs H Q E →
   ∃t,PSs (hU (CX1 P w) P w K mg base N qual (ai st) f cdv A outer s H E) (bH st) t∧t {nx:=λ_ H'=>Q .non H',rt:=Q} (start N vs) H):FnOk P w K mg base (CX1 P w) (k+1) f fd ps sp:=by
 obtain⟨oc,od,kV,doc,pm,an,cdv,ct,osl,rfl,lk,hcd⟩:=F.ex;exact uk lk hcd S len λA outer s H vs Q E hr hsp=>hbody cdv A outer s H vs Q E hr hsp
theorem LcOk.mk'{X:Cx}{scope:Scope}{cl:List (Str×Addr)}(fs:List Str)(hk:scope.kind=.function)(hc:closureFor scope X.env=pure cl)(hn:∀x∈scope.names,x.2=.local→scope.names.lookup x.1=some .local)(hnc:∀x∈scope.names,x.2≠.cell)(hcl:∀y∈cl,X.env.cells.lookup y.1=some y.2)(hfs:cl.map (·.1)=fs)(hall:scope.names.all (λy=>!(y.2==.free)||fs.contains y.1)=true):LcOk X scope cl:=by
 refine⟨hk,hc,hn,hnc,λx c h=>hcl (x,c) (PySem.mem_of_lookup h),λx h=>?_⟩;have hm:∃k,(x,k)∈(relabel scope X.env).names∧(k=.cell∨k=.free):=by
  rcases h with h|h
  ·exact⟨_,PySem.mem_of_lookup h,.inl rfl⟩
  ·exact⟨_,PySem.mem_of_lookup h,.inr rfl⟩
 obtain⟨k,hm,hk'⟩:=hm;unfold relabel at hm;obtain⟨⟨y,k0⟩,hy,e⟩:=mem_map.mp hm;have hfree:x=y∧k0=.free:=by
  cases k0 with
  |free =>
   simp only at e
   split at e
   ·injection e with e1 e2;exact⟨e1.symm,rfl⟩
   ·injection e with e1 e2;exact⟨e1.symm,rfl⟩
  |cell=>exact absurd rfl (hnc _ hy)
  |_ =>
   exfalso
   have e2:k=_:=(congrArg Prod.snd e).symm;simp at e2;rcases hk' with z|z<;>rw[z]at e2<;>cases e2
 obtain⟨rfl,rfl⟩:=hfree;have:=all_eq_true.mp hall _ hy;have hin:fs.contains x=true:=by simpa using this
 rw[←hfs]at hin;have hmem:x∈cl.map (·.1):=List.contains_iff_mem.mp hin;cases e:cl.lookup x with
 |some c=>exact⟨c,rfl⟩
 |none =>
  exfalso
  obtain⟨y,hy,ey⟩:=mem_map.mp hmem;have:=List.lookup_eq_none_iff.mp e y hy;rw[ey]at this;simp at this
end
end L2
namespace TK
open PySem L2
abbrev Nd:=TW.Nd Str
def stV:Option Int→V
 |none=>.non
 |some i=>.int i
def vals(n:Nd):List V:=[.int n.num,.int n.par,.str n.nm,stV n.st]
abbrev ZN:=List (Addr×Nd)
def aO(zs:ZN):List V:=(zs.map (·.1)).map V.ref
def nds(zs:ZN):List Nd:=zs.map (·.2)
def At(H:Hp)(zs:ZN):Prop:=∀z∈zs,H z.1=some (.tup (vals z.2))
theorem At.same{H H':Hp}{zs:ZN}(h:At H zs)(s:Same H H'):At H' zs:=λz hz=>s _ _ (h z hz)
theorem bo(zs:ZN):(aO zs).length=zs.length:=by simp[aO]
theorem bY(zs:ZN):(nds zs).length=zs.length:=by simp[nds]
theorem cr{zs:ZN}{i:Nat}{x:V}(h:(aO zs)[i]?=some x):∃z,zs[i]?=some z∧x=.ref z.1:=by
 unfold aO at h;rw[getElem?_map,getElem?_map]at h;cases e:zs[i]? with
 |none=>rw[e]at h;cases h
 |some z=>rw[e]at h;exact⟨z,rfl,(Option.some.inj h).symm⟩
theorem ja{zs:ZN}{i:Nat}{z:Addr×Nd}(h:zs[i]?=some z):(aO zs)[i]?=some (.ref z.1):=by
 unfold aO;rw[getElem?_map,getElem?_map,h];rfl
theorem at0(n:Nd):atI (vals n) 0=some (.int n.num):=rfl
theorem at1(n:Nd):atI (vals n) 1=some (.int n.par):=rfl
theorem at2(n:Nd):atI (vals n) 2=some (.str n.nm):=rfl
theorem at3(n:Nd):atI (vals n) 3=some (stV n.st):=rfl
theorem vq{σ:St}(h:σ.length=1):∃a,σ=[a]:=by
 match σ,h with
 |[a],_=>exact⟨a,rfl⟩
theorem ap{n:Nat}(h:n≤1000):n≤sizeLine:=le_of_lt (aC h)
theorem le2:2≤sizeLine:=ap (by decide)
theorem nr{A:Around}{k:Nat}(hr:Room k A):A.units+4<cLine:=lt_of_le_of_lt (Nat.add_le_add_left (by decide:4≤64) _) hr.units
def plK(n:Nd):List Key:=[.inl n.par,.inr n.nm]
def ins(zs:ZN)(k:Int):ZN:=zs.filter λz=>decide (z.2.par=k)
theorem oC(zs:ZN)(k:Int):nds (ins zs k)=TW.inside (nds zs) k:=by
 unfold nds ins TW.inside;rw[filter_map];rfl
theorem fi(zs:ZN)(z:Addr×Nd)(k:Int):ins (zs++[z]) k=if z.2.par=k then ins zs k++[z]else ins zs k:=by
 unfold ins;rw[filter_append]
 by_cases h:z.2.par=k
 ·rw[if_pos h,filter_cons_of_pos (by simp[h])];rfl
 ·rw[if_neg h,filter_cons_of_neg (by simp[h])];simp
theorem sR{zs:ZN}{k:Int}{z:Addr×Nd}(h:z∈ins zs k):z∈zs:=(mem_filter.mp h).1
theorem ie(zs:ZN)(z:Addr×Nd):aO (zs++[z])=aO zs++[.ref z.1]:=by simp[aO]
theorem qQ{zs:ZN}(h:aO zs=[]):zs=[]:=by
 cases zs with
 |nil=>rfl
 |cons a r=>simp[aO]at h
structure Mem(H0 H:Hp)(d:Addr)(L:Int→Addr)(kvs:List (Key×V))(xs:ZN)(dn:List Int):Prop where
 dict:H d=some (.dK kvs)
 d0:H0 d=none
 len:kvs.length≤xs.length
 val:∀k:Int,aY kvs (Sum.inl k:Key)=if k∈dn∨ins xs k=[]then none else some (.ref (L k))
 at':∀k,k∉dn→ins xs k≠[]→H (L k)=some (.lst (aO (ins xs k)))∧H0 (L k)=none
 inj:∀k k',k∉dn→k'∉dn→ins xs k≠[]→ins xs k'≠[]→L k=L k'→k=k'
 same:Same H0 H
theorem Mem.grow{H0 H H':Hp}{d:Addr}{L:Int→Addr}{kvs:List (Key×V)}{xs:ZN}{dn:List Int}(m:Mem H0 H d L kvs xs dn)(s:Same H H'):Mem H0 H' d L kvs xs dn :=
 ⟨s _ _ m.dict,m.d0,m.len,m.val,λk h1 h2=>⟨s _ _ (m.at' k h1 h2).1,(m.at' k h1 h2).2⟩,m.inj,m.same.trans s⟩
theorem Mem.other{H0 H:Hp}{d p:Addr}{L:Int→Addr}{kvs:List (Key×V)}{xs:ZN}{dn:List Int}{is:List Int}{o:HO}(m:Mem H0 H d L kvs xs dn)(hp:H p=some (.lst (is.map V.int)))(h0:H0 p=none):Mem H0 (upd H p o) d L kvs xs dn:=by
 refine⟨?_,m.d0,m.len,m.val,λk h1 h2=>⟨?_,(m.at' k h1 h2).2⟩,m.inj,aP h0 m.same⟩
 ·rw[ak]
  ·exact m.dict
  ·intro e;have:=m.dict;rw[e,hp]at this;cases this
 ·have e1:=(m.at' k h1 h2).1;rw[ak]
  ·exact e1
  ·intro e;rw[e,hp]at e1;injection e1 with e1
   injection e1 with e1
   have hne:=h2;cases hk:ins xs k with
   |nil=>exact h2 hk
   |cons a r =>
    rw[hk]at e1;cases is with
    |nil=>simp[aO]at e1
    |cons i r'=>simp[aO]at e1
theorem Mem.start{H0:Hp}{d:Addr}(h:H0 d=none):Mem H0 (upd H0 d (.dK [])) d (λ_=>d) [] [] [] :=
 ⟨ac,h,by simp,λk=>by rw[if_pos (.inr rfl)];rfl,λk _ h=>absurd rfl h,λk k' _ _ h=>absurd rfl h,af h⟩
theorem Mem.hit{H0 H:Hp}{d:Addr}{L:Int→Addr}{kvs:List (Key×V)}{xs:ZN}{z:Addr×Nd}(m:Mem H0 H d L kvs xs [])(hp:ins xs z.2.par≠[]):
  Mem H0 (upd H (L z.2.par) (.lst (aO (ins xs z.2.par)++[.ref z.1]))) d L kvs (xs++[z]) []:=by
 have e1:=(m.at' z.2.par (by simp) hp);have hd:d≠L z.2.par:=λe=>by
  have:=m.dict;rw[e,e1.1]at this;cases this
 have ne:∀k,ins (xs++[z]) k=[]↔ins xs k=[]:=λk=>by
  rw[fi]
  by_cases h:z.2.par=k
  ·rw[if_pos h];subst h;simp[hp]
  ·rw[if_neg h]
 refine⟨by rw[ak hd];exact m.dict,m.d0,by have:=m.len;simp;omega,λk=>?_,λk h1 h2=>?_,λk k' _ _ h2 h3 e=>m.inj k k' (by simp) (by simp) (λh=>h2 ((ne k).mpr h)) (λh=>h3 ((ne k').mpr h)) e,aP e1.2 m.same⟩
 ·rw[m.val k];simp only[ne k]
 ·have h2':ins xs k≠[]:=λh=>h2 ((ne k).mpr h);refine⟨?_,(m.at' k h1 h2').2⟩
  by_cases h:z.2.par=k
  ·subst h;rw[ac,fi,if_pos rfl,ie]
  ·rw[ak,fi,if_neg h]
   ·exact(m.at' k h1 h2').1
   ·intro e;exact h (m.inj _ _ (by simp) (by simp) hp h2' e.symm)
theorem Mem.fresh{H0 H:Hp}{d q:Addr}{L:Int→Addr}{kvs:List (Key×V)}{xs:ZN}{z:Addr×Nd}(m:Mem H0 H d L kvs xs [])(hp:ins xs z.2.par=[])(hq:H q=none):
  Mem H0 (upd (upd (upd H q (.lst [])) d (.dK (bG kvs (Sum.inl z.2.par:Key) (.ref q)))) q (.lst ([]++[.ref z.1]))) d (λk=>if k=z.2.par then q else L k) (bG kvs (Sum.inl z.2.par:Key) (.ref q)) (xs++[z]) []:=by
 have hdq:d≠q:=λe=>by
  have:=m.dict;rw[e,hq]at this;cases this
 have lq:∀k,ins xs k≠[]→L k≠q:=λk h e=>by
  have:=(m.at' k (by simp) h).1;rw[e,hq]at this;cases this
 have ld:∀k,ins xs k≠[]→L k≠d:=λk h e=>by
  have:=(m.at' k (by simp) h).1;rw[e,m.dict]at this;cases this
 have q0:H0 q=none:=m.same.free hq;have e2:∀k,k≠z.2.par→ins (xs++[z]) k=ins xs k:=λk h=>by rw[fi,if_neg (λe=>h e.symm)]
 have e3:ins (xs++[z]) z.2.par=[z]:=by rw[fi,if_pos rfl,hp];rfl
 refine⟨by rw[ak hdq,ac],m.d0,?_,λk=>?_,λk h1 h2=>?_,λk k' _ _ h2 h3 e=>?_,?_⟩
 ·have h1:=m.len;have h2:=dM kvs (Sum.inl z.2.par:Key) (.ref q);rw[length_append,length_singleton];omega
 ·rw[ee]
  by_cases h:k=z.2.par
  ·subst h;rw[if_pos rfl,if_neg (by rw[e3];simp),if_pos rfl]
  ·rw[if_neg (λe=>h (Sum.inl.inj e)),m.val k,e2 k h,if_neg h]
 ·by_cases h:k=z.2.par
  ·subst h;simp only[if_true];exact⟨by rw[ac,e3];rfl,q0⟩
  ·rw[e2 k h]at h2;simp only[if_neg h];refine⟨?_,(m.at' k h1 h2).2⟩;rw[ak (lq k h2),ak (ld k h2),ak (lq k h2),e2 k h];exact(m.at' k h1 h2).1
 ·by_cases h:k=z.2.par
  ·by_cases h':k'=z.2.par
   ·rw[h,h']
   ·rw[e2 k' h']at h3;simp only[if_pos h,if_neg h']at e;exact absurd e.symm (lq k' h3)
  ·rw[e2 k h]at h2
   by_cases h':k'=z.2.par
   ·simp only[if_neg h,if_pos h']at e;exact absurd e (lq k h2)
   ·rw[e2 k' h']at h3;simp only[if_neg h,if_neg h']at e;exact m.inj k k' (by simp) (by simp) h2 h3 e
 ·exact aP q0 (aP m.d0 (m.same.trans (af hq)))
theorem pS{κ:Type}[DecidableEq κ](kvs:List (κ×V))(k j:κ):aY (dc kvs k) j=if j=k then none else aY kvs j:=by
 induction kvs with
 |nil=>simp[dc,aY]
 |cons p r ih =>
  by_cases e:p.1=k
  ·rw[pI e,ih]
   by_cases h:j=k
   ·rw[if_pos h,if_pos h]
   ·rw[if_neg h,if_neg h,bf (λz=>h (z.symm.trans e))]
  ·rw[pJ e]
   by_cases h:p.1=j
   ·rw[bt h,if_neg (λz=>e (h.trans z)),bt h]
   ·rw[bf h,ih,bf h]
theorem Mem.drop{H0 H:Hp}{d:Addr}{L:Int→Addr}{kvs:List (Key×V)}{xs:ZN}{dn:List Int}(m:Mem H0 H d L kvs xs dn)(x:Int):Mem H0 (upd H d (.dK (dc kvs (Sum.inl x:Key)))) d L (dc kvs (Sum.inl x:Key)) xs (x::dn):=by
 have ld:∀k,k∉dn→ins xs k≠[]→L k≠d:=λk h0 h e=>by
  have:=(m.at' k h0 h).1;rw[e,m.dict]at this;cases this
 have no:∀k,k∉x::dn→k∉dn:=λk h h'=>h (mem_cons_of_mem _ h');refine⟨ac,m.d0,le_trans (lj _ _) m.len,λk=>?_,λk h1 h2=>?_,λk k' h0 h1 h2 h3 e=>m.inj k k' (no k h0) (no k' h1) h2 h3 e,aP m.d0 m.same⟩
 ·rw[pS,m.val k]
  by_cases h:k=x
  ·rw[if_pos (by rw[h]),if_pos (.inl (by rw[h];simp))]
  ·rw[if_neg (λe=>h (Sum.inl.inj e))];simp[h]
 ·rw[ak (ld k (no k h1) h2)];exact m.at' k (no k h1) h2
theorem Mem.skip{H0 H:Hp}{d:Addr}{L:Int→Addr}{kvs:List (Key×V)}{xs:ZN}{dn:List Int}(m:Mem H0 H d L kvs xs dn){x:Int}(hx:x∈dn∨ins xs x=[]):Mem H0 H d L kvs xs (x::dn):=by
 have no:∀k,k∉x::dn→k∉dn:=λk h h'=>h (mem_cons_of_mem _ h');refine⟨m.dict,m.d0,m.len,λk=>?_,λk h1 h2=>m.at' k (no k h1) h2,λk k' h0 h1 h2 h3 e=>m.inj k k' (no k h0) (no k' h1) h2 h3 e,m.same⟩;rw[m.val k]
 by_cases h:k=x
 ·subst h;rw[if_pos hx,if_pos (.inl (by simp))]
 ·simp[h]
theorem qR{Q:VK}{H0 H:Hp}{d q:Addr}{L:Int→Addr}{kvs:List (Key×V)}{zs:ZN}{dn:List Int}{x:Int}(m:Mem H0 H d L kvs zs dn)(hq:H q=some (.lst []))(k:∀hl Hc kvs' hs,Mem H0 Hc d L kvs' zs (x::dn)→Hc hl=some (.lst (aO hs))→nds hs=TW.here (nds zs) dn x→(∀z∈hs,z∈zs)→(∀p,p≠d→Hc p=H p)→(hs=[]→hl=q)→Q (.ref hl) Hc):
  ∃kvs k,H d=some (.dK kvs)∧V.int x=kV k∧(∀v,aY kvs k=some v→Q v (upd H d (.dK (dc kvs k))))∧(aY kvs k=none→Q (.ref q) H):=by
 refine⟨kvs,.inl x,m.dict,rfl,λv hv=>?_,λhn=>?_⟩
 ·rw[m.val x]at hv
  by_cases h:x∈dn∨ins zs x=[]
  ·rw[if_pos h]at hv;cases hv
  ·rw[if_neg h]at hv;have h1:x∉dn:=λz=>h (.inl z);have h2:ins zs x≠[]:=λz=>h (.inr z);cases hv;have a:=(m.at' x h1 h2).1;have ld:L x≠d:=λe=>by rw[e,m.dict]at a;cases a
   refine k (L x) _ _ (ins zs x) (m.drop x) (by rw[ak ld];exact a) ?_ (λz hz=>sR hz) (λp hp=>ak hp) (λe=>absurd e h2);rw[oC];unfold TW.here;rw[if_neg h1]
 ·rw[m.val x]at hn
  by_cases h:x∈dn∨ins zs x=[]
  ·refine k q _ _ [] (m.skip h) hq ?_ (by simp) (λp _=>rfl) (λ_=>rfl);unfold TW.here
   by_cases h1:x∈dn
   ·rw[if_pos h1];rfl
   ·rw[if_neg h1];rcases h with h|h
    ·exact absurd h h1
    ·rw[←oC,h]
  ·rw[if_neg h]at hn;cases hn
theorem oD{H:Hp}{p hl:Addr}{hs:ZN}{is:List Int}(hp:H p=some (.lst (is.map V.int)))(h:H hl=some (.lst (aO hs)))(hne:hs≠[]):hl≠p:=by
 intro e;rw[e,hp]at h;injection h with h
 injection h with h
 cases hs with
 |nil=>exact hne rfl
 |cons a r =>
  cases is with
  |nil=>simp[aO]at h
  |cons i r'=>simp[aO]at h
def jM(H:Hp)(p:Addr):Nat:=match H p with
 |some (.lst xs)=>xs.length
 |_=>0
theorem gJ{H:Hp}{p:Addr}{xs:List V}(h:H p=some (.lst xs)):jM H p=xs.length:=by unfold jM;rw[h]
def eA(l:List Nd):List V:=(l.map (·.num)).map V.int
def dC(K:PySem.W.Frag)(H:Hp)(a:Addr):Prop:=∃ns:List Int,SqL K H a (ns.map V.int)
theorem dC.same{K:PySem.W.Frag}{H H':Hp}{a:Addr}(h:dC K H a)(s:Same H H'):dC K H' a:=let⟨ns,e⟩:=h;⟨ns,s.seq e⟩
theorem lJ{ns:List Int}{i:Int}(h0:0≤i)(h1:i<ns.length):∃j,atI (ns.map V.int) i=some (.int j):=by
 refine⟨ns[i.toNat]'(by omega),?_⟩;have:=dL (xs:=ns.map V.int) (j:=i.toNat) (v:=.int (ns[i.toNat]'(by omega))) (by rw[getElem?_map,getElem?_eq_getElem (by omega)];rfl);rw[show((i.toNat:Nat):Int)=i by omega]at this;exact this
def Has(P:Program)(w:World)(K:PySem.W.Frag)(mg:Str→Option Value)(base:Heap)(k:Nat)(x:Str)(ps:List Str)(sp:Sp):Prop:=∃f fd,FnOk P w K mg base CX0 k f fd ps sp∧mg x=some (.ref f)∧keepIn K (.ref f)=true∧dI K fd ps []
def sS(n:Nd):Prop:=1≤n.num∧n.num≤12∧(n.nm="a"∨n.nm="b"∨n.nm="c"∨n.nm="abcde")∧(n.st=none∨n.st=some 0∨n.st=some 1∨n.st=some 2∨n.st=some 999)
structure Bd(zs:ZN)(lf:List Int):Prop where
 built:TW.Built (nds zs)
 nd:((nds zs).map (·.num)++lf).Nodup
 rng:∀x∈lf,1≤x∧x≤12
 own:TW.dA (nds zs)
 ok:∀z∈zs,sS z.2
theorem Bd.skip{zs:ZN}{lf:List Int}(b:Bd zs lf)(i:Nat):Bd zs (lf.eraseIdx i) :=
 ⟨b.built,Nodup.sublist (Sublist.append (Sublist.refl _) (List.eraseIdx_sublist lf i)) b.nd,λx hx=>b.rng x ((List.eraseIdx_sublist lf i).mem hx),b.own,b.ok⟩
theorem jb:∀{l:List Int}{i:Nat}{x:Int},l[i]?=some x→(x::l.eraseIdx i).Perm l
 |a::l,0,x,h=>by
  have:a=x:=by simpa using h
  subst this;exact List.Perm.refl _
 |a::l,i+1,x,h=>by
  have h':l[i]?=some x:=by simpa using h
  exact(List.Perm.swap a x _).trans (List.Perm.cons a (jb h'))
 |[],i,x,h=>by simp at h
theorem Bd.add{zs:ZN}{lf:List Int}{i:Nat}{q:Addr}{n:Nd}(b:Bd zs lf)(hi:lf[i]?=some n.num)(hp:n.par∈(0:Int)::TW.aS (nds zs))(ho:∀z∈zs,¬(z.2.par=n.par∧z.2.nm=n.nm))(h3:n.nm="a"∨n.nm="b"∨n.nm="c"∨n.nm="abcde")(h4:n.st=none∨n.st=some 0∨n.st=some 1∨n.st=some 2∨n.st=some 999):Bd (zs++[(q,n)]) (lf.eraseIdx i):=by
 have e:nds (zs++[(q,n)])=nds zs++[n]:=by simp[nds]
 have pm:=jb hi;refine⟨?_,?_,λx hx=>b.rng x ((List.eraseIdx_sublist lf i).mem hx),?_,λz hz=>?_⟩
 ·rw[e];refine .snoc b.built ?_;rcases mem_cons.mp hp with h|h
  ·exact .inl h
  ·exact .inr (TW.iq.mp h)
 ·rw[e,map_append,append_assoc];exact((List.Perm.append_left _ pm).nodup_iff).mpr b.nd
 ·rw[e];unfold TW.dA;rw[map_append,nodup_append];refine⟨b.own,by simp,λx hx y hy=>?_⟩;have ey:y=(n.par,n.nm):=by simpa using hy
  subst ey;obtain⟨m,hm,rfl⟩:=mem_map.mp hx;obtain⟨z,hz,rfl⟩:=mem_map.mp hm;intro h;injection h with h1 h2
  exact ho z hz ⟨h1,h2⟩
 ·rcases mem_append.mp hz with h|h
  ·exact b.ok z h
  ·have ez:z=(q,n):=by simpa using h
   subst ez;have:=b.rng n.num (mem_of_getElem? hi);exact⟨this.1,this.2,h3,h4⟩
def tp(z:Addr×Nd):gF:=(z.1,z.2.num,[.int z.2.par,.str z.2.nm,stV z.2.st])
def un(t:gF):Addr×Nd:=(t.1,match t.2.2 with
 |[.int p,.str s,.int i]=>⟨t.2.1,p,s,some i⟩
 |[.int p,.str s,_]=>⟨t.2.1,p,s,none⟩
 | _=>⟨0,0,"",none⟩)
theorem uu(z:Addr×Nd):un (tp z)=z:=by
 obtain⟨a,⟨n,p,s,st⟩⟩:=z;cases st<;>rfl
theorem back{zs:ZN}{ts:List gF}(h:ts.Perm (zs.map tp)):(ts.map un).Perm zs∧(ts.map un).map tp=ts:=by
 constructor
 ·have:=h.map un;rw[map_map]at this;have e:zs.map (un∘tp)=zs.map id:=map_congr_left λz _=>uu z;rw[e,List.map_id]at this;exact this
 ·rw[map_map,map_congr_left (g:=id)]
  ·simp
  ·intro t ht;obtain⟨z,_,rfl⟩:=mem_map.mp (h.mem_iff.mp ht);show tp (un (tp z))=tp z;rw[uu]
theorem iC(zs:ZN):((zs.map tp).map (·.1)).map V.ref=aO zs:=by
 unfold aO;simp only[map_map];rfl
theorem vr{n:Nat}{j:Int}(h0:0≤j)(h1:j<n):seqIndex? j n=some j.toNat:=(oq (by unfold ixN;rw[if_pos h0,if_pos h1])).1
theorem jN:∀(l:List Int)(i:Nat),(l.map V.int).eraseIdx i=(l.eraseIdx i).map V.int
 |[],i=>by simp
 |a::l,0=>rfl
 |a::l,i+1=>by
  show V.int a::(l.map V.int).eraseIdx i=V.int a::(l.eraseIdx i).map V.int;rw[jN l i]
theorem oE{ns:List Int}{i:Int}(h0:0≤i)(h1:i<ns.length):∃x∈ns,atI (ns.map V.int) i=some (.int x):=by
 refine⟨ns[i.toNat]'(by omega),getElem_mem _,?_⟩;have:=dL (xs:=ns.map V.int) (j:=i.toNat) (v:=.int (ns[i.toNat]'(by omega))) (by rw[getElem?_map,getElem?_eq_getElem (by omega)];rfl);rw[show((i.toNat:Nat):Int)=i by omega]at this;exact this
theorem oF{j:Int}(h0:0≤j)(h1:j<4):∃x:Str,(x="a"∨x="b"∨x="c"∨x="abcde")∧atI [V.str "a",.str "b",.str "c",.str "abcde"] j=some (.str x):=by
 obtain rfl|rfl|rfl|rfl:j=0∨j=1∨j=2∨j=3:=by omega
 ·exact⟨"a",.inl rfl,rfl⟩
 ·exact⟨"b",.inr (.inl rfl),rfl⟩
 ·exact⟨"c",.inr (.inr (.inl rfl)),rfl⟩
 ·exact⟨"abcde",.inr (.inr (.inr rfl)),rfl⟩
theorem sT{j:Int}(h0:0≤j)(h1:j<4):∃i:Int,(some i=none∨some i=some (0:Int)∨some i=some 1∨some i=some 2∨some i=some 999)∧atI [V.int 0,.int 1,.int 2,.int 999] j=some (.int i):=by
 obtain rfl|rfl|rfl|rfl:j=0∨j=1∨j=2∨j=3:=by omega
 ·exact⟨0,.inr (.inl rfl),rfl⟩
 ·exact⟨1,.inr (.inr (.inl rfl)),rfl⟩
 ·exact⟨2,.inr (.inr (.inr (.inl rfl))),rfl⟩
 ·exact⟨999,.inr (.inr (.inr (.inr rfl))),rfl⟩
structure Sta(H:Hp)(pl pf pn:Addr)(Hx:Hp)(lf fs:List Int)(zs:ZN):Prop where
 same:Same H Hx
 l:Hx pl=some (.lst (lf.map V.int))
 f:Hx pf=some (.lst (fs.map V.int))
 n:Hx pn=some (.lst (aO zs))
 nd:At Hx zs
 l0:H pl=none
 f0:H pf=none
 n0:H pn=none
 lf':pl≠pf
 ln':pl≠pn
 fn':pf≠pn
theorem Sta.grow{H Hx Hy:Hp}{pl pf pn:Addr}{lf fs:List Int}{zs:ZN}(a:Sta H pl pf pn Hx lf fs zs)(s:Same Hx Hy):Sta H pl pf pn Hy lf fs zs :=
 ⟨a.same.trans s,s _ _ a.l,s _ _ a.f,s _ _ a.n,a.nd.same s,a.l0,a.f0,a.n0,a.lf',a.ln',a.fn'⟩
theorem At.over{H:Hp}{p:Addr}{xs:List V}{o:HO}{zs:ZN}(h:At H zs)(hp:H p=some (.lst xs)):At (upd H p o) zs:=λz hz=>by
 rw[ak]
 ·exact h z hz
 ·intro e;have:=h z hz;rw[e,hp]at this;cases this
theorem Sta.pop{H Hx:Hp}{pl pf pn:Addr}{lf fs:List Int}{zs:ZN}(a:Sta H pl pf pn Hx lf fs zs)(lf2:List Int):Sta H pl pf pn (upd Hx pl (.lst (lf2.map V.int))) lf2 fs zs :=
 ⟨aP a.l0 a.same,ac,by rw[ak (symm a.lf')];exact a.f,by rw[ak (symm a.ln')];exact a.n,a.nd.over a.l,a.l0,a.f0,a.n0,a.lf',a.ln',a.fn'⟩
theorem Sta.fold{H Hx:Hp}{pl pf pn:Addr}{lf fs:List Int}{zs:ZN}(a:Sta H pl pf pn Hx lf fs zs)(x:Int):Sta H pl pf pn (upd Hx pf (.lst (fs.map V.int++[.int x]))) lf (fs++[x]) zs :=
 ⟨aP a.f0 a.same,by rw[ak a.lf'];exact a.l,by rw[ac];simp,by rw[ak (symm a.fn')];exact a.n,a.nd.over a.f,a.l0,a.f0,a.n0,a.lf',a.ln',a.fn'⟩
theorem Sta.node{H Hx:Hp}{pl pf pn q:Addr}{lf fs:List Int}{zs:ZN}{n:Nd}(a:Sta H pl pf pn Hx lf fs zs)(hq:Hx q=some (.tup (vals n))):Sta H pl pf pn (upd Hx pn (.lst (aO zs++[.ref q]))) lf fs (zs++[(q,n)]) :=
 ⟨aP a.n0 a.same,by rw[ak a.ln'];exact a.l,by rw[ak a.fn'];exact a.f,by rw[ac,ie],(λz hz=>by
  rcases mem_append.mp hz with h|h
  ·exact a.nd.over a.n z h
  ·have ez:z=(q,n):=by simpa using h
   subst ez;rw[ak]
   ·exact hq
   ·intro e;have e':q=pn:=e;rw[e',a.n]at hq;cases hq),a.l0,a.f0,a.n0,a.lf',a.ln',a.fn'⟩
def lf0(m:Int):List Int:=(List.range (m+4-1).toNat).map λk=>(1:Int)+(k:Nat)
theorem sU{m:Int}(h:0≤m):((lf0 m).length:Int)=m+3:=by unfold lf0;rw[length_map,length_range];omega
theorem sV{m:Int}(h:m≤9):∀x∈lf0 m,1≤x∧x≤12:=λx hx=>by
 unfold lf0 at hx;obtain⟨k,hk,rfl⟩:=mem_map.mp hx;have:=mem_range.mp hk;omega
theorem vt(m:Int):(lf0 m).Nodup:=by
 unfold lf0 Nodup;rw[pairwise_map];exact List.nodup_range.imp λh e=>h (by omega)
theorem Bd.zero{m:Int}(h:m≤9):Bd [] (lf0 m):=⟨.nil,by show(([]:List Int)++lf0 m).Nodup;rw[List.nil_append];exact vt m,sV h,by unfold TW.dA nds;simp,by simp⟩
def cZ(zs:ZN):List (Key×V):=zs.map λz=>((Sum.inl z.2.num:Key),V.ref z.1)
theorem ku{zs:ZN}(hn:((nds zs).map (·.num)).Nodup){z:Addr×Nd}(hz:z∈zs):aY (cZ zs) (Sum.inl z.2.num:Key)=some (.ref z.1):=by
 induction zs with
 |nil=>simp at hz
 |cons y zs ih =>
  have hn':y.2.num∉(nds zs).map (·.num)∧((nds zs).map (·.num)).Nodup:=by simpa [nds]using hn
  show aY (((Sum.inl y.2.num:Key),V.ref y.1)::cZ zs) _=_;rcases mem_cons.mp hz with e|hz'
  ·subst e;exact bt rfl
  ·rw[bf]
   ·exact ih hn'.2 hz'
   ·intro e;injection e with e
    exact hn'.1 (mem_map.mpr ⟨z.2,mem_map.mpr ⟨z,hz',rfl⟩,e.symm⟩)
theorem nv{zs:ZN}{k:Int}(h:∀z∈zs,z.2.num≠k):aY (cZ zs) (Sum.inl k:Key)=none:=by
 induction zs with
 |nil=>rfl
 |cons y zs ih =>
  show aY (((Sum.inl y.2.num:Key),V.ref y.1)::cZ zs) _=_;rw[bf]
  ·exact ih λz hz=>h z (mem_cons_of_mem _ hz)
  ·intro e;injection e with e
   exact h y (by simp) e
def gf(H:Hp)(d:Addr)(zs:ZN):Prop:=∃o,H d=some (.frz o (.dK (cZ zs)))
theorem gf.same{H H':Hp}{d:Addr}{zs:ZN}(h:gf H d zs)(s:Same H H'):gf H' d zs:=let⟨o,e⟩:=h;⟨o,s _ _ e⟩
theorem gf.get{H:Hp}{d:Addr}{zs:ZN}(h:gf H d zs)(hn:((nds zs).map (·.num)).Nodup){z:Addr×Nd}(hz:z∈zs):cA H d (.int z.2.num) (some (.ref z.1)):=by
 obtain⟨o,e⟩:=h;exact .inl ⟨cZ zs,Sum.inl z.2.num,.inr ⟨o,e⟩,rfl,(ku hn hz).symm⟩
theorem gf.not{H:Hp}{d:Addr}{zs:ZN}(h:gf H d zs){k:Int}(hk:∀z∈zs,z.2.num≠k):cA H d (.int k) none:=by
 obtain⟨o,e⟩:=h;exact .inl ⟨cZ zs,Sum.inl k,.inr ⟨o,e⟩,rfl,(nv hk).symm⟩
theorem aH{ns:List Nd}(T:TW.Tree1 ns):(ns.map (·.num)).Nodup:=by
 have h:=T.rise;unfold TW.cE at h;unfold Nodup;rw[pairwise_map];exact h.imp λh e=>by omega
theorem sW{ys:List V}{zs:ZN}{H:Hp}{p:Addr}{g:Addr×Nd→List V}(hlen:ys.length=zs.length)(h:∀(i:Nat) y,ys[i]?=some y→∃q z,zs[i]?=some z∧y=.ref q∧q≠p∧H q=some (.tup (g z))):
  ∃as:List (Addr×(Addr×Nd)),as.map (·.2)=zs∧ys=(as.map (·.1)).map V.ref∧∀a∈as,a.1≠p∧H a.1=some (.tup (g a.2)):=by
 induction ys generalizing zs with
 |nil =>
  have:zs=[]:=length_eq_zero_iff.mp hlen.symm;subst this;exact⟨[],rfl,rfl,by simp⟩
 |cons y ys ih =>
  cases zs with
  |nil=>simp at hlen
  |cons z zs =>
   obtain⟨as,e1,e2,e3⟩:=ih (zs:=zs) (by simpa using hlen) λi x hx=>by simpa using h (i+1) x (by simpa using hx)
   obtain⟨q,z',f1,f2,f3,f4⟩:=h 0 y rfl;have:z=z':=by simpa using f1
   subst this;refine⟨(q,z)::as,by simp[e1],by simp[e2,f2],λa ha=>?_⟩;rcases mem_cons.mp ha with rfl|ha
   ·exact⟨f3,f4⟩
   ·exact e3 a ha
theorem gL{κ:Type}[DecidableEq κ]{kvs:List (κ×V)}(hn:(kvs.map (·.1)).Nodup){k:κ}{v:V}(h:(k,v)∈kvs):aY kvs k=some v:=by
 induction kvs with
 |nil=>simp at h
 |cons y kvs ih =>
  have hn':y.1∉kvs.map (·.1)∧(kvs.map (·.1)).Nodup:=by simpa using hn
  rcases mem_cons.mp h with e|h'
  ·subst e;exact bt rfl
  ·rw[bf]
   ·exact ih hn'.2 h'
   ·intro e;exact hn'.1 (mem_map.mpr ⟨_,h',e.symm⟩)
theorem iD{κ:Type}[DecidableEq κ]{kvs:List (κ×V)}{k:κ}(h:k∉kvs.map (·.1)):aY kvs k=none:=by
 induction kvs with
 |nil=>rfl
 |cons y kvs ih =>
  have h':¬k=y.1∧k∉kvs.map (·.1):=by simpa using h
  rw[bf (λe=>h'.1 e.symm)];exact ih h'.2
theorem oG{zs:ZN}{k:Int}{q:List Str}(T:TW.Tree1 (nds zs))(h:TW.PathTo (nds zs) k q)(hk:k≠0):∃z∈zs,z.2.num=k∧∃q',q=q'++[z.2.nm]∧TW.PathTo (nds zs) z.2.par q':=by
 cases h with
 |top=>exact absurd rfl hk
 |@node n q' hm hq' =>
  obtain⟨z,hz,rfl⟩:=mem_map.mp hm;exact⟨z,hz,rfl,q',rfl,hq'⟩
def da(P:Program)(w:World)(K:PySem.W.Frag)(mg:Str→Option Value)(base:Heap)(k:Nat)(x:Str)(ps:List Str)(sp:Sp):Prop:=∃f fd,FnOk P w K mg base (CX1 P w) k f fd ps sp∧mg x=some (.ref f)∧keepIn K (.ref f)=true∧dI K fd ps []
structure Tre(H:Hp)(t:Addr)(zs:ZN):Prop where
 tup:H t=some (.tup (aO zs))
 nod:At H zs
 tr:TW.Tree1 (nds zs)
 len:zs.length≤30
theorem Tre.same{H H':Hp}{t:Addr}{zs:ZN}(h:Tre H t zs)(s:Same H H'):Tre H' t zs:=⟨s _ _ h.tup,h.nod.same s,h.tr,h.len⟩
theorem pT{ns:List Nd}(T:TW.Tree1 ns){f:Int}{dn:List Int}{fd:List Nd}(wk:TW.Walk ns f dn fd []):(fd.map (·.num)).Nodup:=by
 have h:=aH T;have:(fd.map (·.num)).Perm ((ns.filter (TW.eQ dn)).map (·.num)):=wk.perm.map _;exact this.nodup_iff.mpr (h.sublist (filter_sublist.map _))
theorem _root_.L2.Same.rd{H H':Hp}(s:Same H H'){a:Addr}{u:HO}(r:Rd H a u):Rd H' a u:=by
 rcases r with r|⟨o,r⟩
 ·exact .inl (s _ _ r)
 ·exact .inr ⟨o,s _ _ r⟩
def aM(as:List (Addr×(Addr×Nd))):List (Key×V):=as.map λa=>((Sum.inl a.2.2.num:Key),V.ref a.1)
def bJ(n:Nd):List V:=[.int n.par,.str n.nm,stV n.st]
structure Book(H:Hp)(d:Addr)(as:List (Addr×(Addr×Nd)))(zs:ZN):Prop where
 dict:Rd H d (.dK (aM as))
 of:as.map (·.2)=zs
 at':∀a∈as,H a.1=some (.tup (bJ a.2.2))
theorem Book.same{H H':Hp}{d:Addr}{as:List (Addr×(Addr×Nd))}{zs:ZN}(b:Book H d as zs)(s:Same H H'):Book H' d as zs:=⟨s.rd b.dict,b.of,λa ha=>s _ _ (b.at' a ha)⟩
theorem jc{as:List (Addr×(Addr×Nd))}{zs:ZN}(h:as.map (·.2)=zs):(aM as).map (·.1)=((nds zs).map (·.num)).map (Sum.inl:Int→Key):=by
 rw[←h];unfold aM nds;simp only[map_map];rfl
theorem qS{as:List (Addr×(Addr×Nd))}{zs:ZN}(h:as.map (·.2)=zs)(hn:((nds zs).map (·.num)).Nodup):((aM as).map (·.1)).Nodup:=by
 rw[jc h];unfold Nodup at hn⊢;rw[pairwise_map];exact hn.imp λh e=>h (by injection e)
theorem Book.get{H:Hp}{d:Addr}{as:List (Addr×(Addr×Nd))}{zs:ZN}(b:Book H d as zs)(hn:((nds zs).map (·.num)).Nodup){z:Addr×Nd}(hz:z∈zs):∃q,cA H d (.int z.2.num) (some (.ref q))∧H q=some (.tup (bJ z.2)):=by
 have:z∈as.map (·.2):=by rw[b.of];exact hz
 obtain⟨a,ha,rfl⟩:=mem_map.mp this;refine⟨a.1,.inl ⟨aM as,Sum.inl a.2.2.num,b.dict,rfl,?_⟩,b.at' a ha⟩;exact(gL (qS b.of hn) (mem_map.mpr ⟨a,ha,rfl⟩)).symm
theorem Book.not{H:Hp}{d:Addr}{as:List (Addr×(Addr×Nd))}{zs:ZN}(b:Book H d as zs){k:Int}(hk:∀z∈zs,z.2.num≠k):cA H d (.int k) none:=by
 refine .inl ⟨aM as,Sum.inl k,b.dict,rfl,(iD λhm=>?_).symm⟩;rw[jc b.of]at hm;obtain⟨i,hi,e⟩:=mem_map.mp hm;obtain⟨n,hn,rfl⟩:=mem_map.mp hi;obtain⟨z,hz,rfl⟩:=mem_map.mp hn;injection e with e
 exact hk z hz e
def lK(ns:List Nd)(k:Int):Nat:=open Classical in if h:∃p,TW.PathTo ns k p then (Classical.choose h).length else 0
theorem iE{ns:List Nd}(T:TW.Tree1 ns){k:Int}{p:List Str}(h:TW.PathTo ns k p):lK ns k=p.length:=by
 unfold lK;have hx:∃p,TW.PathTo ns k p:=⟨p,h⟩;rw[dif_pos hx];rw[(Classical.choose_spec hx).uniq T h]
theorem wU(n:Nd):atI (bJ n) 0=some (.int n.par):=rfl
abbrev lL(x:Str)(mg:Str→Option Value)(base:Heap)(C:Addr):Prop:=PyProof.Rows.OwnCls x C bmV "ValueError.__new__" mg base
theorem oH(o:Option Int):(!decide (stV o=V.non))=o.isSome:=by cases o<;>simp[stV]
theorem cc(zs:ZN):zs.map (λz=>V.ref z.1)=aO zs:=by simp[aO]
def xE:TW.Wd→Str
 |.known=>"Known"
 |.noNode=>"NoNode"
 |.notFile=>"NotFile"
 |.notFolder=>"NotFolder"
 |.inside=>"Inside"
 |.taken=>"Taken"
abbrev sX(mg:Str→Option Value)(base:Heap)(cls:TW.Wd→Addr):Prop:=∀w,lL (xE w) mg base (cls w)
structure Outs(H:Hp)(t:List Nd)(d:TW.Deed Str)(cls:TW.Wd→Addr)(Q:VK)(E:XK):Prop where
 ok:∀us t' H',Same H H'→H' t'=some (.tup (aO us))→At H' us→TW.Told t d (.inr (nds us))→Q (.ref t') H'
 no:∀w H',Same H H'→TW.Told t d (.inl w)→E (.ref (cls w)) none H'
theorem fj{K:PySem.W.Frag}{H:Hp}{l:Addr}{zs:ZN}{Q:VK}(hl:SqL K H l (aO zs)∨SqT K H l (aO zs))(hA:At H zs)(hn:((nds zs).map (·.num)).Nodup)(h64:zs.length<64)(q:∀us t' H',Same H H'→H' t'=some (.tup (aO us))→At H' us→us.Perm zs→TW.cE (nds us)→Q (.ref t') H'):
  ∃l',∃ts:List gF,[V.ref l]=[V.ref l']∧(SqL K H l' ((ts.map (·.1)).map V.ref)∨SqT K H l' ((ts.map (·.1)).map V.ref))∧(∀z∈ts,H z.1=some (.tup (.int z.2.1::z.2.2)))∧(ts.map (·.2.1)).Nodup∧ts.length<64 ∧
   ∀ts':List gF,ts'.Perm ts→ts'.Pairwise (λa b=>a.2.1<b.2.1)→∀p,H p=none→∃p' ys,[V.ref p]=[V.ref p']∧((SqL K (upd H p (.lst ((ts'.map (·.1)).map V.ref))) p' ys∧∀l,upd H p (.lst ((ts'.map (·.1)).map V.ref)) l=none→Q (.ref l) (upd (upd H p (.lst ((ts'.map (·.1)).map V.ref))) l (.tup ys))) ∨
    (SqT K (upd H p (.lst ((ts'.map (·.1)).map V.ref))) p' ys∧Q (.ref p') (upd H p (.lst ((ts'.map (·.1)).map V.ref))))):=by
 have hnum:(zs.map tp).map (·.2.1)=(nds zs).map (·.num):=by
  unfold nds;simp only[map_map];rfl
 refine⟨l,zs.map tp,rfl,by rw[iC];exact hl,λz hz=>?_,by rw[hnum];exact hn,by rw[length_map];exact h64,λts pm up p hp=>?_⟩
 ·obtain⟨y,hy,rfl⟩:=mem_map.mp hz;exact hA y hy
 ·obtain⟨pm2,eb⟩:=back pm;have er:(ts.map (·.1)).map V.ref=aO (ts.map un):=by rw[←iC,eb]
  rw[er];refine⟨p,_,rfl,.inl ⟨SqL.of ac,λl hl=>?_⟩⟩;refine q (ts.map un) l _ ((af hp).trans (af hl)) ac ?_ pm2 ?_
  ·intro z hz;exact((af hp).trans (af hl)) _ _ (hA z (pm2.mem_iff.mp hz))
  ·unfold nds TW.cE;rw[pairwise_map];have up2:((ts.map un).map tp).Pairwise (λa b=>a.2.1<b.2.1):=by rw[eb];exact up
   rw[pairwise_map]at up2;exact up2
def aT:TW.Deed Str→List V
 |.make n p nm st=>[.str "make",.int n,.int p,.str nm,stV st]
 |.write n st=>[.str "write",.int n,.int st]
 |.move n p nm=>[.str "move",.int n,.int p,.str nm]
 |.drop n=>[.str "drop",.int n]
def kw:TW.Deed Str→Prop
 |.make n p nm _=>1≤n∧n≤60∧0≤p∧p≤60∧nm.length≤100
 |.write n _=>1≤n∧n≤60
 |.move n p nm=>1≤n∧n≤60∧0≤p∧p≤60∧nm.length≤100
 |.drop n=>1≤n∧n≤60
theorem kw.pos{d:TW.Deed Str}(h:kw d):d.pos:=by
 cases d<;>first|exact h.1|trivial
theorem aw{zs:ZN}{z:Addr×Nd}(h:z∈zs):z.2∈nds zs:=mem_map.mpr ⟨z,h,rfl⟩
theorem bb{zs:ZN}{n:Nd}(h:n∈nds zs):∃z∈zs,z.2=n:=mem_map.mp h
theorem cJ{zs:ZN}{k:Int}(h:¬∃z∈zs,z.2.num=k):¬TW.aF (nds zs) k:=λ⟨m,hm,e⟩=>by
 obtain⟨z,hz,rfl⟩:=bb hm;exact h ⟨z,hz,e⟩
theorem eB{zs:ZN}{k:Int}{z:Addr×Nd}(hz:z∈zs)(e:z.2.num=k):TW.aF (nds zs) k:=⟨z.2,aw hz,e⟩
def qT:TW.Wd→Str
 |.known=>"known"
 |.noNode=>"no node"
 |.notFile=>"not file"
 |.notFolder=>"not folder"
 |.inside=>"inside"
 |.taken=>"taken"
def ce(bs:List (Addr×Nd)):List (Key×V):=bs.map λb=>((Sum.inl b.2.num:Key),V.ref b.1)
theorem kx(as:List (Addr×(Addr×Nd))):aM as=ce (as.map λa=>(a.1,a.2.2)):=by
 unfold aM ce;rw[map_map];rfl
theorem jd(bs:List (Addr×Nd)):(ce bs).map (λp=>kV p.1)=bs.map λb=>V.int b.2.num:=by
 unfold ce;rw[map_map];rfl
theorem jO{bs:List (Addr×Nd)}(hn:(bs.map (·.2.num)).Nodup){b:Addr×Nd}(hb:b∈bs):aY (ce bs) (Sum.inl b.2.num:Key)=some (.ref b.1):=by
 refine gL ?_ (mem_map.mpr ⟨b,hb,rfl⟩);unfold ce;rw[map_map];unfold Nodup at hn⊢;rw[pairwise_map]at hn⊢;exact hn.imp λh e=>h (by injection e)
theorem pU(bs:List (Addr×Nd))(c:Addr)(n:Nd):bG (ce bs) (Sum.inl n.num:Key) (.ref c)=ce (if ∃b∈bs,b.2.num=n.num then bs.map (λb=>if b.2.num=n.num then (c,n)else b)else bs++[(c,n)]):=by
 unfold bG
 by_cases h:∃b∈bs,b.2.num=n.num
 ·obtain⟨b,hb,e⟩:=h;have ha:((ce bs).any λkv=>decide (kv.1=(Sum.inl n.num:Key)))=true:=by
   rw[any_eq_true];exact⟨_,mem_map.mpr ⟨b,hb,rfl⟩,by simp[e]⟩
  rw[if_pos ha,if_pos ⟨b,hb,e⟩];unfold ce;rw[map_map,map_map];apply map_congr_left;intro x _;show(if (Sum.inl x.2.num:Key)=Sum.inl n.num then ((Sum.inl x.2.num:Key),V.ref c)else ((Sum.inl x.2.num:Key),V.ref x.1))=_
  by_cases e:x.2.num=n.num
  ·rw[if_pos (by rw[e])];show _=((Sum.inl (if x.2.num=n.num then (c,n)else x).2.num:Key),V.ref (if x.2.num=n.num then (c,n)else x).1)
   rw[if_pos e,e]
  ·rw[if_neg (λh=>e (by injection h))];show _=((Sum.inl (if x.2.num=n.num then (c,n)else x).2.num:Key),V.ref (if x.2.num=n.num then (c,n)else x).1)
   rw[if_neg e]
 ·have ha:¬((ce bs).any λkv=>decide (kv.1=(Sum.inl n.num:Key)))=true:=λha=>h (by
   obtain⟨y,hy,e⟩:=any_eq_true.mp ha;obtain⟨b,hb,rfl⟩:=mem_map.mp hy;have e':(Sum.inl b.2.num:Key)=Sum.inl n.num:=by simpa using e
   exact⟨b,hb,by injection e'⟩)
  rw[if_neg ha,if_neg h];unfold ce;rw[map_append];rfl
theorem ny(n:Nd):atI (bJ n) 2=some (stV n.st):=rfl
theorem lM{H:Hp}{d q:Addr}{as:List (Addr×(Addr×Nd))}{zs:ZN}{new:Nd}(hd:H d=some (.dK (aM as)))(hof:as.map (·.2)=zs)(hat:∀a∈as,H a.1=some (.tup (bJ a.2.2)))(hq:H q=some (.tup (bJ new)))(hnd:((nds zs).map (·.num)).Nodup):
  ∃bs:List (Addr×Nd),upd H d (.dK (bG (aM as) (Sum.inl new.num:Key) (.ref q))) d=some (.dK (ce bs))∧(∀b∈bs,upd H d (.dK (bG (aM as) (Sum.inl new.num:Key) (.ref q))) b.1=some (.tup (bJ b.2)))∧(bs.map (·.2.num)).Nodup∧bs.length≤zs.length+1 ∧
   ((TW.aF (nds zs) new.num∧bs.map (·.2)=(nds zs).map (TW.put new))∨(¬TW.aF (nds zs) new.num∧bs.map (·.2)=nds zs++[new])):=by
 have en:(as.map λa=>(a.1,a.2.2)).map (·.2)=nds zs:=by rw[←hof];unfold nds;rw[map_map,map_map];rfl
 have hl:(as.map λa=>(a.1,a.2.2)).length=zs.length:=by rw[←hof,length_map,length_map]
 have ne:∀a xs,H a=some (.tup xs)→a≠d:=λa xs h e=>by rw[e,hd]at h;cases h
 have hat':∀b∈as.map (λa=>(a.1,a.2.2)),H b.1=some (.tup (bJ b.2)):=λb hb=>by
  obtain⟨a,ha,rfl⟩:=mem_map.mp hb;exact hat a ha
 rw[kx,pU];generalize as.map (λa=>(a.1,a.2.2))=cs at en hl hat'⊢;have hh:(∃b∈cs,b.2.num=new.num)↔TW.aF (nds zs) new.num:=by
  rw[←en];constructor
  ·rintro⟨b,hb,e⟩;exact⟨b.2,mem_map.mpr ⟨b,hb,rfl⟩,e⟩
  ·rintro⟨m,hm,e⟩;obtain⟨b,hb,rfl⟩:=mem_map.mp hm;exact⟨b,hb,e⟩
 have hn2:(cs.map (·.2.num)).Nodup:=by
  have:cs.map (·.2.num)=(nds zs).map (·.num):=by rw[←en,map_map];rfl
  rw[this];exact hnd
 by_cases h:∃b∈cs,b.2.num=new.num
 ·rw[if_pos h];refine⟨_,ac,λb hb=>?_,?_,by rw[length_map];omega,.inl ⟨hh.mp h,?_⟩⟩
  ·obtain⟨c,hc,rfl⟩:=mem_map.mp hb
   by_cases e:c.2.num=new.num
   ·rw[if_pos e,ak (ne _ _ hq)];exact hq
   ·rw[if_neg e,ak (ne _ _ (hat' c hc))];exact hat' c hc
  ·have:(cs.map λb=>if b.2.num=new.num then (q,new)else b).map (·.2.num)=cs.map (·.2.num):=by
    rw[map_map];apply map_congr_left;intro c _;show(if c.2.num=new.num then (q,new)else c).2.num=c.2.num
    by_cases e:c.2.num=new.num
    ·rw[if_pos e];exact e.symm
    ·rw[if_neg e]
   rw[this];exact hn2
  ·rw[←en,map_map,map_map];apply map_congr_left;intro c _;show(if c.2.num=new.num then (q,new)else c).2=TW.put new c.2
   unfold TW.put
   by_cases e:c.2.num=new.num
   ·rw[if_pos e,if_pos e]
   ·rw[if_neg e,if_neg e]
 ·rw[if_neg h];refine⟨_,ac,λb hb=>?_,?_,by rw[length_append];simp;omega,.inr ⟨λx=>h (hh.mpr x),by rw[map_append,en];rfl⟩⟩
  ·rcases mem_append.mp hb with hb|hb
   ·rw[ak (ne _ _ (hat' b hb))];exact hat' b hb
   ·have e:b=(q,new):=by simpa using hb
    subst e;rw[ak (ne _ _ hq)];exact hq
  ·rw[map_append,nodup_append];refine⟨hn2,by simp,λx hx y hy e=>?_⟩;have ey:y=new.num:=by simpa using hy
   obtain⟨b,hb,eb⟩:=mem_map.mp hx;exact h ⟨b,hb,by rw[eb,e,ey]⟩
def je(t:List Nd)(dd:TW.Deed Str)(n p:Int)(nm:Str):Prop:=(∃st,dd=.make n p nm st∧¬TW.aF t n)∨(dd=.move n p nm∧TW.aF t n)
theorem je.no{t:List Nd}{dd:TW.Deed Str}{n p:Int}{nm:Str}(h:je t dd n p nm)(h0:p≠0)(hp:¬TW.aF t p):TW.Told t dd (.inl .noNode):=by
 rcases h with⟨st,rfl,hn⟩|⟨rfl,hn⟩
 ·exact .mNo hn h0 hp
 ·exact .vNoP hn h0 hp
theorem je.file{t:List Nd}{dd:TW.Deed Str}{n p:Int}{nm:Str}(h:je t dd n p nm)(h0:p≠0){m:Nd}(hm:m∈t)(e:m.num=p)(hs:m.st≠none):TW.Told t dd (.inl .notFolder):=by
 rcases h with⟨st,rfl,hn⟩|⟨rfl,hn⟩
 ·exact .mFile hn h0 hm e hs
 ·exact .vFile hn h0 hm e hs
def NotIn(t:List Nd)(dd:TW.Deed Str)(n p:Int):Prop:=(∃nm,dd=.move n p nm)→p≠0→¬TW.Und t n p
theorem je.taken{t:List Nd}{dd:TW.Deed Str}{n p:Int}{nm:Str}(h:je t dd n p nm)(hF:TW.fZ t p)(hi:NotIn t dd n p){m:Nd}(hm:m∈t)(hne:m.num≠n)(e1:m.par=p)(e2:m.nm=nm):TW.Told t dd (.inl .taken):=by
 rcases h with⟨st,rfl,hn⟩|⟨rfl,hn⟩
 ·exact .mTaken hn hF hm e1 e2
 ·exact .vTaken hn hF (hi ⟨_,rfl⟩) hm hne e1 e2
def lN(x:Str):Prop:=x="a"∨x="b"∨x="c"∨x="abcde"
def vw(s:Option Int):Prop:=∀i,s=some i→0≤i∧i≤999
def fS(n:Nd):Prop:=1≤n.num∧n.num≤60∧lN n.nm∧vw n.st
def dD:TW.Deed Str→Prop
 |.make n p nm st=>1≤n∧n≤60∧0≤p∧p≤60∧lN nm∧vw st
 |.write n st=>1≤n∧n≤60∧0≤st∧st≤999
 |.move n p nm=>1≤n∧n≤60∧0≤p∧p≤60∧lN nm
 |.drop n=>1≤n∧n≤60
theorem lN.len{x:Str}(h:lN x):x.length≤100:=by
 rcases h with rfl|rfl|rfl|rfl<;>decide +kernel
theorem dD.ok{d:TW.Deed Str}(h:dD d):kw d:=by
 cases d with
 |make n p nm st=>obtain⟨h1,h2,h3,h4,h5,_⟩:=h;exact⟨h1,h2,h3,h4,h5.len⟩
 |write n st=>exact⟨h.1,h.2.1⟩
 |move n p nm=>obtain⟨h1,h2,h3,h4,h5⟩:=h;exact⟨h1,h2,h3,h4,h5.len⟩
 |drop n=>exact h
theorem fS.told{t u:List Nd}{d:TW.Deed Str}(ht:∀n∈t,fS n)(hd:dD d)(h:TW.Told t d (.inr u)):∀n∈u,fS n:=by
 refine h.all ht (λn p nm st e=>?_) (λn st e y hy ey=>?_) (λn p nm e y hy ey=>?_)
 ·subst e;obtain⟨h1,h2,h3,h4,h5,h6⟩:=hd;exact⟨h1,h2,h5,h6⟩
 ·subst e;obtain⟨h1,h2,h3,h4⟩:=hd;exact⟨h1,h2,(ht y hy).2.2.1,λi e=>by injection e with e;omega⟩
 ·subst e;obtain⟨h1,h2,h3,h4,h5⟩:=hd;exact⟨h1,h2,h5,(ht y hy).2.2.2⟩
theorem sS.ok{n:Nd}(h:sS n):fS n:=by
 obtain⟨h1,h2,h3,h4⟩:=h;refine⟨h1,by omega,h3,λi e=>?_⟩;rcases h4 with h|h|h|h|h<;>rw[h]at e<;>cases e<;>decide
theorem oI{ns:List Int}{i:Int}(h0:0≤i)(h1:i<ns.length){P:Int→Prop}(hP:∀x∈ns,P x):∃x,atI (ns.map V.int) i=some (.int x)∧P x:=by
 obtain⟨x,hx,e⟩:=oE h0 h1;exact⟨x,e,hP x hx⟩
def top(i:Nat):Stmt:=PySem.Challenge.pw_treewatch_k31_whole_steps.main.body.getD i (.Pass ⟨0,0,0,0⟩)
abbrev vx:Stmt:=top 12
abbrev vz:Stmt:=top 13
abbrev vA:Stmt:=top 14
abbrev vB:Stmt:=top 15
abbrev vC:Stmt:=top 16
abbrev vD:Stmt:=top 18
abbrev oJ:Stmt:=top 19
abbrev qU:Stmt:=top 20
abbrev nA:Stmt:=top 21
abbrev qV:Stmt:=top 22
abbrev oK:Stmt:=top 23
abbrev qW:Stmt:=top 24
abbrev dU:Stmt:=top 26
abbrev cK:Stmt:=top 27
abbrev fk:Stmt:=top 28
abbrev gg:Stmt:=top 29
abbrev eN:Stmt:=top 30
abbrev ig:Stmt:=top 31
abbrev fm:Stmt:=top 32
abbrev fo:Stmt:=top 33
abbrev gM:Stmt:=top 34
abbrev gh:Stmt:=top 35
abbrev qX:Stmt:=top 37
abbrev qY:Stmt:=top 38
abbrev ik:Stmt:=top 39
abbrev qZ:Stmt:=top 40
abbrev nB:Stmt:=top 42
abbrev cu:Stmt:=top 43
abbrev ir:Stmt:=top 44
abbrev vE:Stmt:=top 45
abbrev aB:Stmt:=top 46
abbrev bw:Stmt:=top 47
abbrev sY:Stmt:=top 48
structure Txt(mg:Str→Option Value):Prop where
 isin:mg "isinstance"=none
 dict:mg "dict"=none
 len:mg "len"=none
 tuple:mg "tuple"=none
 list:mg "list"=none
 range:mg "range"=none
 sorted:mg "sorted"=none
 reversed:mg "reversed"=none
 ValueError:mg "ValueError"=none
 str:mg "str"=none
 set:mg "set"=none
 max:mg "max"=none
 min:mg "min"=none
 sum:mg "sum"=none
 zip:mg "zip"=none
 enumerate:mg "enumerate"=none
 all:mg "all"=none
 int:mg "int"=none
 bool:mg "bool"=none
 top:∃t,mg "TOP"=some (.int 0 t)
 letters:∃t,mg "LETTERS"=some (.str "abcdefghijklmnopqrstuvwxyz" t)
section
variable{P:Program}{w:World}{K:PySem.W.Frag}{mg:Str→Option Value}{base:Heap}
def oM:Sp:=λvs H Q _=>∃t f zs,vs=[.ref t,.int f]∧H t=some (.tup (aO zs))∧At H zs∧zs.length≤100∧∀fd dn l H',TW.Walk (nds zs) f dn fd []→H' l=some (.lst (eA fd))→Same H H'→Q (.ref l) H'
theorem jf:FnScope ["nodes","folder","members","node","found","pending","here"] ["nodes","folder"] (ai vx):=fsc
theorem vF{f:Addr}{fd:FuncData}(F:Fun K "numbers_inside" "numbers_inside" vx f fd)(T:Txt mg):FnOk P w K mg base CX0 1 f fd ["nodes","folder"] oM:=by
 refine F.ok jf (λvs H Q E h=>?_) (λcdv A outer s H vs Q E hr h=>?_)
 ·obtain⟨t,f,zs,rfl,_⟩:=h;rfl
 ·obtain⟨t,f,zs,rfl,ht,hA,hl,k⟩:=h;refine⟨_,ae (aq (i:=2) jf.nd rfl (Or.inl rfl) iS)
   (ae (cH PassesOwn.never rfl (cD (pv 0)) (aG (i:=3) jf.nd rfl (Or.inl rfl)) (aj (bX (eY plainAttrs_list PySem.F.slot_list_append PySem.F.type_list_append bz
     (eY plainAttrs_dict PySem.F.slot_dict_setdefault PySem.F.type_dict_setdefault jt (pv 2) (aa (av ao (pv 3) ag (λ_ _=>rfl)) (aa (ba ah) ah))) (aa (pv 3) ah)))))
   (ae (aq (i:=4) jf.nd rfl (Or.inl rfl) (ba ah))
   (ae (aq (i:=5) jf.nd rfl (Or.inl rfl) (ba (aa (pv 1) ah)))
   (ae (dZ PassesOwn.never (qu (pv 5) (λ_=>rfl))
    (ae (aq (i:=6) jf.nd rfl (Or.inl rfl) (qC (pv 2) (uX plainAttrs_list slot_list_pop type_list_pop uY (pv 5)) (ba ah) ⟨rfl,rfl,rfl,rfl⟩))
    (aj (cH PassesOwn.never rfl (cG (pv 6)) (aG (i:=3) jf.nd rfl (Or.inl rfl))
     (ae (bX (eY plainAttrs_list PySem.F.slot_list_append PySem.F.type_list_append bz (pv 4) (aa (av ao (pv 3) ag (λ_ _=>rfl)) ah)))
     (aj (aR (am eG (av ao (pv 3) ag (λ_ _=>rfl)) cm (au _)) (aj (bX (eY plainAttrs_list PySem.F.slot_list_append PySem.F.type_list_append bz (pv 5) (aa (av ao (pv 3) ag (λ_ _=>rfl)) ah)))) aA)))))))
   (aj (ax (pv 4))))))),?_⟩
  refine λd hd=>?_;have z100:∀{n:Nat},n≤100→n<sizeLine:=λh=>aC (by omega);refine⟨_,rfl,t,rfl,⟨_,SqT.of (bu hd ht)⟩,gp (xs:=aO zs) (λi σ H'=>∃L kvs on,σ=[some (.ref t),some (.int f),some (.ref d),on,none,none,none]∧Mem H H' d L kvs (zs.take i) [])
   ⟨_,_,_,rfl,Mem.start hd⟩ (λi σ H' _ h=>?_) (λi x σ H' hx h=>?_) (λσ H' h=>?_)⟩
  ·obtain⟨_,_,_,_,m⟩:=h;exact SqT.of (m.same _ _ ht)
  ·obtain⟨L,kvs,on,rfl,m⟩:=h;obtain⟨z,gz,rfl⟩:=cr hx;have mz:=mem_of_getElem? gz;have ez:zs.take (i+1)=zs.take i++[z]:=by rw[take_succ,gz];rfl
   have hkl:kvs.length≤100:=by have:=m.len;rw[length_take]at this;omega
   refine⟨_,rfl,.inr (.inr (.inl ⟨rfl,.inl ⟨_,m.dict⟩⟩)),_,rfl,z.1,_,_,_,rfl,rfl,SqT.of (m.same _ _ (hA z mz)),at1 z.2,zero_le _,λq hq=>?_⟩;have m':=m.grow (af (o:=.lst []) hq);refine⟨d,kvs,.inl z.2.par,.ref q,rfl,rfl,m'.dict,z100 hkl,λv hv=>?_,λhn=>?_⟩
   ·rw[m.val]at hv
    by_cases h:z.2.par∈([]:List Int)∨ins (zs.take i) z.2.par=[]
    ·rw[if_pos h]at hv;cases hv
    ·rw[if_neg h]at hv;cases hv;have h2:ins (zs.take i) z.2.par≠[]:=λz=>h (.inr z);have a:=(m'.at' z.2.par (by simp) h2).1;refine⟨.inl ⟨rfl,_,SqL.of a⟩,_,rfl,_,_,_,rfl,rfl,a,?_,?_⟩
     ·refine z100 ?_;rw[bo];exact le_trans (Sublist.length_le (Sublist.trans filter_sublist (List.take_sublist _ _))) hl
     ·refine⟨L,kvs,_,rfl,?_⟩;rw[ez];exact m'.hit h2
   ·rw[m.val]at hn
    by_cases h:z.2.par∈([]:List Int)∨ins (zs.take i) z.2.par=[]
    ·have h2:ins (zs.take i) z.2.par=[]:=h.resolve_left (by simp);have hqd:q≠d:=λe=>by rw[e,m.dict]at hq;cases hq
     have a:upd (upd H' q (.lst [])) d (.dK (bG kvs (Sum.inl z.2.par:Key) (.ref q))) q=some (.lst []):=by rw[ak hqd];exact ac
     refine⟨.inl ⟨rfl,_,SqL.of a⟩,_,rfl,q,[],_,rfl,rfl,a,z100 (zero_le _),?_⟩;have fr:=m.fresh (z:=z) h2 hq;rw[←ez]at fr;exact⟨_,_,_,rfl,fr⟩
    ·rw[if_neg h]at hn;cases hn
  ·obtain⟨L,kvs,on,rfl,m⟩:=h;rw[bo,take_length]at m;refine⟨zero_le _,λpf hpf=>⟨_,rfl,ap (by simp),λpp hpp=>?_⟩⟩;have m1:=(m.grow (af (o:=.lst []) hpf)).grow (af (o:=.lst [.int f]) hpp);have hpf0:H pf=none:=m.same.free hpf;have hne:pp≠pf:=λe=>by rw[e,ac]at hpp;cases hpp
   have hpp0:H pp=none:=by rw[ak hne]at hpp;exact m.same.free hpp
   dsimp only[be,jp];refine eW (λσ H'=>∃L kvs dn fd pd on oh,σ=[some (.ref t),some (.int f),some (.ref d),on,some (.ref pf),some (.ref pp),oh]∧pd.length≤fd.length+1∧Mem H H' d L kvs zs dn∧TW.Walk (nds zs) f dn fd pd∧H' pf=some (.lst (eA fd))∧H' pp=some (.lst (pd.map V.int)))
    (λσ H'=>2*(zs.length-jM H' pf)+jM H' pp) ⟨L,kvs,[],[],[f],_,_,rfl,le_refl _,m1,TW.Walk.start _ _,by rw[ak (symm hne),ac];rfl,ac⟩ (λσ H' h=>?_) ?_
   ·obtain⟨L,kvs,dn,fd,pd,on,oh,rfl,hpl,m,wk,ef,ep⟩:=h;refine⟨_,rfl,_,.inl ⟨_,SqL.of ep,rfl⟩,?_⟩
    by_cases hpd:pd=[]
    ·subst hpd;exact aD ⟨_,rfl,k fd dn pf H' wk ef m.same⟩
    ·obtain⟨pd',x,rfl⟩:∃pd' x,pd=pd'++[x]:=⟨pd.dropLast,pd.getLast hpd,(List.dropLast_concat_getLast hpd).symm⟩;have et:(!((pd'++[x]).map V.int).isEmpty)=true:=by simp
     rw[if_pos et];have elast:((pd'++[x]).map V.int)[((pd'++[x]).map V.int).length-1]?=some (.int x):=by simp
     have edrop:((pd'++[x]).map V.int).dropLast=pd'.map V.int:=by simp
     refine⟨_,rfl,d,rfl,.inl ⟨_,Rd.of m.dict⟩,_,rfl,.inl ⟨rfl,_,SqL.of ep⟩,pp,_,.int x,rfl,rfl,ep,elast,zero_le _,λq hq=>?_⟩;rw[edrop]at hq⊢;have m2:=(m.other (o:=.lst (pd'.map V.int)) ep hpp0).grow (af (o:=.lst []) hq);have hqp:q≠pp:=λe=>by rw[e,ac]at hq;cases hq
     have hqf:q≠pf:=λe=>by rw[e,ak (symm hne),ef]at hq;cases hq
     refine qR m2 ac λhl Hc kvs' hs m3 ehl eh hsub hkeep hnil=>?_;have df:pf≠d:=λe=>by have:=m.dict;rw[←e,ef]at this;cases this
     have dp:pp≠d:=λe=>by have:=m.dict;rw[←e,ep]at this;cases this
     have ef3:Hc pf=some (.lst (eA fd)):=by rw[hkeep pf df,ak (symm hqf),ak (symm hne)];exact ef
     have ep3:Hc pp=some (.lst (pd'.map V.int)):=by rw[hkeep pp dp,ak (symm hqp),ac]
     have hlf:hl≠pf:=by
      by_cases h:hs=[]
      ·rw[hnil h];exact hqf
      ·exact oD ef3 ehl h
     have hlp:hl≠pp:=by
      by_cases h:hs=[]
      ·rw[hnil h];exact hqp
      ·exact oD ep3 ehl h
     have wk':=wk.turn;rw[←eh]at wk';have hlen:=wk'.len;rw[length_append,bY,bY]at hlen;rw[length_append,length_singleton]at hpl;refine⟨_,rfl,hl,rfl,⟨_,SqL.of ehl⟩,eV (xs:=aO hs) (λj σ H'=>∃on,σ=[some (.ref t),some (.int f),some (.ref d),on,some (.ref pf),some (.ref pp),some (.ref hl)]∧Mem H H' d L kvs' zs (x::dn)∧H' hl=some (.lst (aO hs)) ∧
      H' pf=some (.lst (eA (fd++nds (hs.take j))))∧H' pp=some (.lst ((pd'++TW.aS (nds (hs.take j))).map V.int))) ⟨_,rfl,m3,ehl,by rw[ef3];simp[nds],by rw[ep3];simp[nds,TW.aS]⟩
      (λj σ H' _ h=>?_) (λj y σ H' hy h=>?_) (λσ H' h=>?_)⟩
     ·obtain⟨_,_,_,e,_⟩:=h;exact SqL.of e
     ·obtain⟨on,rfl,m4,e1,e2,e3⟩:=h;obtain⟨z,gz,rfl⟩:=cr hy;have mz:=hsub z (mem_of_getElem? gz);have ez:hs.take (j+1)=hs.take j++[z]:=by rw[take_succ,gz];rfl
      have l1:(eA (fd++nds (hs.take j))).length≤100:=by
       unfold eA;rw[length_map,length_map,length_append,bY,length_take];omega
      have l2:((pd'++TW.aS (nds (hs.take j))).map V.int).length≤1000:=by
       have:=TW.dP (nds (hs.take j));rw[bY,length_take]at this;rw[length_map,length_append];omega
      have g0:∀{Hx:Hp},Same H Hx→Hx z.1=some (.tup (vals z.2)):=λs=>s _ _ (hA z mz);have e4:eA (fd++nds (hs.take (j+1)))=eA (fd++nds (hs.take j))++[.int z.2.num]:=by rw[ez];simp[eA,nds]
      have m5:Mem H (upd H' pf (.lst (eA (fd++nds (hs.take j))++[.int z.2.num]))) d L kvs' zs (x::dn):=m4.other e2 hpf0;have e5:(upd H' pf (.lst (eA (fd++nds (hs.take j))++[.int z.2.num]))) hl=some (.lst (aO hs)):=by rw[ak hlf];exact e1
      have e6:(upd H' pf (.lst (eA (fd++nds (hs.take j))++[.int z.2.num]))) pp=some (.lst ((pd'++TW.aS (nds (hs.take j))).map V.int)):=by rw[ak hne];exact e3
      refine⟨_,rfl,.inl ⟨rfl,_,SqL.of e2⟩,_,rfl,z.1,_,_,_,rfl,rfl,SqT.of (g0 m4.same),at0 z.2,pf,_,_,rfl,rfl,e2,z100 l1,?_⟩;refine⟨_,rfl,z.1,_,_,_,rfl,rfl,SqT.of (g0 m5.same),at3 z.2,rfl,_,rfl,?_⟩;cases est:z.2.st with
      |none =>
       have e7:TW.aS (nds (hs.take (j+1)))=TW.aS (nds (hs.take j))++[z.2.num]:=by rw[ez];simp[TW.aS,nds,est]
       refine aQ ⟨_,rfl,.inl ⟨rfl,_,SqL.of e6⟩,_,rfl,z.1,_,_,_,rfl,rfl,SqT.of (g0 m5.same),at0 z.2,pp,_,_,rfl,rfl,e6,aC l2,?_⟩;refine⟨_,rfl,m5.other e6 hpp0,by rw[ak hlp];exact e5,by rw[ak (symm hne),ac,e4],?_⟩;rw[ac,e7];simp
      |some i =>
       have e7:TW.aS (nds (hs.take (j+1)))=TW.aS (nds (hs.take j)):=by rw[ez];simp[TW.aS,nds,est]
       refine aD ⟨_,rfl,m5,e5,by rw[ac,e4],?_⟩;rw[e6,e7]
     ·obtain⟨on,rfl,m4,e1,e2,e3⟩:=h;rw[bo,take_length]at e2 e3;refine⟨⟨L,kvs',x::dn,_,_,on,_,rfl,?_,m4,wk',e2,e3⟩,?_⟩
      ·have:=TW.dP (nds hs);rw[bY]at this;rw[length_append,length_append,bY];omega
      show 2*(zs.length-jM H' pf)+jM H' pp<_;rw[gJ e2,gJ e3,gJ ef,gJ ep];have:=TW.dP (nds hs);rw[bY]at this;simp only[eA,length_map,length_append,bY,length_singleton];omega
   ·rintro σ H Q Q' mo ⟨v,e,k,tv,q⟩;exact⟨v,e,k,tv,mo _ _ q⟩
end
end TK
namespace L2
open PySem PySem.Spec PyProof.Rows
section
variable{X:Cx}
theorem iu(i:Int)(h0:-1≤i)(h1:i≤99):(ofString (toString i)).length≤100:=by
 have key:∀n:Fin 101,(ofString (toString (((n.val:Nat):Int)-1))).length≤100:=by decide +kernel
 have:=key ⟨(i+1).toNat,by omega⟩;have e:(((i+1).toNat:Nat):Int)-1=i:=by omega
 rw[e]at this;exact this
theorem sZ{e:Expr}{te:TE}{b:Nat}{p:Pos}{ps:List Expr}{t:TJ}(he:PE X e te)(h:PJ X ps b t):PJ X (.FormattedValue e (-1) none p::ps) (100+b) (λσ H k=>te σ H λv H1=>∃i:Int,v=.int i∧-1≤i∧i≤99∧t σ H1 k):=by
 intro out pins s σ H Q I hb hq;refine joinParts_cons (FormattedValue_plain (thn (he pins _ σ H _ I hq) λv s1 hpt=>?_));obtain⟨y,H1,I1,r1,q1⟩:=hpt;obtain⟨i,rfl,h0,h1,q⟩:=q1;obtain⟨tk,rfl⟩:=r1;have h2:=iu i h0 h1;have hl:(out++ofString (toString i)).length=out.length+(ofString (toString i)).length:=strLen_append ..;refine formatField_int_small (lt_of_le_of_lt (Nat.log2_le_self _) (by omega)) ⟨le_of_lt (aC (by omega)),?_⟩;exact h _ pins _ σ H1 Q (I1.tok _) (by omega) q
theorem eO{e:Expr}{te:TE}{b:Nat}{p:Pos}{ps:List Expr}{t:TJ}(he:PE X e te)(h:PJ X ps b t):PJ X (.FormattedValue e (-1) none p::ps) (100+b) (λσ H k=>te σ H λv H1=>∃i:Int,v=.int i∧0≤i∧i≤99∧t σ H1 k):=by
 intro out pins s σ H Q I hb hq;refine joinParts_cons (FormattedValue_plain (thn (he pins _ σ H _ I hq) λv s1 hpt=>?_));obtain⟨y,H1,I1,r1,q1⟩:=hpt;obtain⟨i,rfl,h0,h1,q⟩:=q1;obtain⟨tk,rfl⟩:=r1;have h2:=iu i (by omega) h1;have hl:(out++ofString (toString i)).length=out.length+(ofString (toString i)).length:=strLen_append ..;refine formatField_int_small (lt_of_le_of_lt (Nat.log2_le_self _) (by omega)) ⟨le_of_lt (aC (by omega)),?_⟩;exact h _ pins _ σ H1 Q (I1.tok _) (by omega) q
end
end L2
namespace TK
open PySem L2
def ci:TW.Deed Str→Prop
 |.make n p nm _=>1≤n∧n≤99∧0≤p∧p≤99∧nm.length≤100
 |.write n _=>1≤n∧n≤99
 |.move n p nm=>1≤n∧n≤99∧0≤p∧p≤99∧nm.length≤100
 |.drop n=>1≤n∧n≤99
theorem ci.pos{d:TW.Deed Str}(h:ci d):d.pos:=by
 cases d<;>first|exact h.1|trivial
section
variable{P:Program}{w:World}{K:PySem.W.Frag}{mg:Str→Option Value}{base:Heap}
def eR:Sp:=λvs H Q _=>∃t zs,vs=[.ref t]∧H t=some (.tup (aO zs))∧At H zs∧zs.length≤100∧((nds zs).map (·.num)).Nodup∧∀d H',Same H H'→gf H' d zs→Q (.ref d) H'
theorem wV:FnScope ["tree"] ["tree"] (ai vz):=fsc
theorem vG{f:Addr}{fd:FuncData}(F:Fun K "by_number" "by_number" vz f fd)(T:Txt mg):FnOk P w K mg base CX0 1 f fd ["tree"] eR:=by
 refine F.ok wV (λvs H Q E h=>?_) (λcdv A outer s H vs Q E hr h=>?_)
 ·obtain⟨t,zs,rfl,_⟩:=h;rfl
 ·obtain⟨t,zs,rfl,ht,hA,hl,hnd,k⟩:=h;refine⟨_,aj (ax (bh (nh rfl) rfl T.dict boot_dict (aa (fT (N:=["node"]) (k:=1) (js:=[]) (g:=be 0) rfl (dS rfl (by decide +kernel) (by decide +kernel) (by decide +kernel)) rfl (λi j x h=>by simp at h)
   (cD (pv 0)) (λs H fp=>aG (i:=0) (show(["node"]:List Str).Nodup by decide +kernel) rfl (Or.inl rfl) (Or.inr rfl))
   (λs H fp=>bn (aa (av (r:=cw K) ao (pv 0) ag (λ_ _=>rfl)) (aa (pv 0) ah)))) ah))),?_⟩
  refine⟨_,rfl,t,rfl,⟨_,SqT.of ht⟩,λp hp=>?_⟩;refine qK (fr:=[]) zs.length (by omega) hp rfl (λi y H'=>∃q z,zs[i]?=some z∧y=.ref q∧q≠p∧H' q=some (.tup [.int z.2.num,.ref z.1])) (λi y H1 H2 h ex=>?_) (λi H' hi s1=>?_) (λH' s1=>?_) ?_ (λi H' x H2 hi s1 hpl hy=>?_) (λys H' s1 hp' hlen hys=>?_)
  ·obtain⟨q,z,e1,e2,e3,e4⟩:=h;exact⟨q,z,e1,e2,e3,ex q _ e3 e4⟩
  ·exact⟨_,_,SqT.of (s1 _ _ ht),ja (getElem?_eq_getElem hi)⟩
  ·exact⟨_,SqT.of (s1 _ _ ht),by rw[bo];exact le_refl _⟩
  ·rintro _ _ _ _ m ⟨v1,b1,p1,xs,i1,v2,c1,c2,c3,c4,v3,b3,hz,q⟩;exact⟨v1,b1,p1,xs,i1,v2,c1,c2,c3,c4,v3,b3,hz,λl hl=>m _ _ (q l hl)⟩
  ·obtain⟨rfl,hx⟩:=hy;obtain⟨z,gz,rfl⟩:=cr (hx _ (SqT.of (s1 _ _ ht)));have mz:=mem_of_getElem? gz;refine⟨rfl,_,rfl,z.1,_,_,_,rfl,rfl,SqT.of (s1 _ _ (hA z mz)),at0 z.2,_,rfl,le2,λq hq=>⟨af hq,q,z,gz,rfl,dz hpl hq,ac⟩⟩
  ·obtain⟨as,e1,e2,e3⟩:=sW (g:=λz=>[.int z.2.num,.ref z.1]) hlen hys;have e4:as.length=zs.length:=by rw[←e1,length_map]
   have e5:(as.map λa=>((Sum.inl a.2.2.num:Key),V.ref a.2.1))=cZ zs:=by rw[←e1];unfold cZ;rw[map_map];rfl
   refine⟨p,as.map λa=>(a.1,(Sum.inl a.2.2.num:Key),V.ref a.2.1),rfl,?_,?_,?_,?_,λd o hd=>?_⟩
   ·rw[hp',e2,map_map,map_map,map_map];rfl
   ·intro z hz;obtain⟨a,ha,rfl⟩:=mem_map.mp hz;exact(e3 a ha).2
   ·rw[length_map];omega
   ·rw[map_map];have:(as.map ((λx:Addr×Key×V=>x.2.1)∘λa=>(a.1,(Sum.inl a.2.2.num:Key),V.ref a.2.1)))=((nds zs).map (·.num)).map (Sum.inl:Int→Key):=by
     rw[←e1];unfold nds;simp only[map_map];rfl
    rw[this];unfold Nodup at hnd⊢;rw[pairwise_map];exact hnd.imp λh e=>h (by injection e)
   ·refine k d _ (s1.trans (af hd)) ⟨o,?_⟩;rw[ac,map_map];exact congrArg (λx=>some (HO.frz o (.dK x))) e5
abbrev rb(mg:Str→Option Value)(base:Heap)(C:Addr):Prop:=PyProof.Rows.OwnCls "NoNode" C bmV "ValueError.__new__" mg base
def jg(C:Addr):Sp:=λvs H Q E=>∃d k zs,vs=[.ref d,.int k]∧gf H d zs∧((nds zs).map (·.num)).Nodup∧0≤k∧k≤99∧(∀z∈zs,z.2.num=k→Q (.ref z.1) H)∧((∀z∈zs,z.2.num≠k)→E (.ref C) none H)
theorem wW:FnScope ["nodes","number"] ["nodes","number"] (ai vA):=fsc
theorem vH{f C:Addr}{fd:FuncData}(F:Fun K "node_of" "node_of" vA f fd)(O:rb mg base C):FnOk P w K mg base (CX1 P w) 1 f fd ["nodes","number"] (jg C):=by
 refine F.okX wW (λvs H Q E h=>?_) (λcdv A outer s H vs Q E hr h=>?_)
 ·obtain⟨d,k,zs,rfl,_⟩:=h;rfl
 ·obtain⟨d,k,zs,rfl,hd,hnd,h0,h1,q1,q2⟩:=h;refine⟨_,ae (aR (bQ (bZ (aI hr) (pv 1) (pv 0))) (aj (dw ca O hr.hd rfl (eM (cP (c:=100) (by decide +kernel) (eO (pv 1) fY)) (by decide)))) aA) (aj (ax (aW (aI hr) (pv 0) (pv 1) (λ_ _=>rfl)))),?_⟩
  by_cases hk:∀z∈zs,z.2.num≠k
  ·refine⟨_,rfl,_,rfl,d,_,rfl,hd.not hk,_,rfl,?_⟩;exact aQ ⟨_,rfl,k,rfl,h0,h1,λy=>⟨ap (show 1≤1000 by decide),q2 hk⟩⟩
  ·obtain⟨z,hz,e⟩:∃z∈zs,z.2.num=k:=by
    by_cases h:∃z∈zs,z.2.num=k
    ·exact h
    ·exact absurd (λz hz e=>h ⟨z,hz,e⟩) hk
   subst e;refine⟨_,rfl,_,rfl,d,_,rfl,hd.get hnd hz,_,rfl,?_⟩;exact aD ⟨_,rfl,_,rfl,d,_,rfl,hd.get hnd hz,q1 z hz rfl⟩
def oN(C:Addr):Sp:=λvs H Q E=>∃t k zs,vs=[.ref t,.int k]∧Tre H t zs∧0≤k∧k≤99 ∧
 ((k=0∨∃z∈zs,z.2.num=k)→∀(ms:List Int)(l:Addr)(H':Hp),Same H H'→ms.Pairwise (λa b:Int=>a<b)→ms.length≤zs.length→(∀x,x∈ms↔∃n∈nds zs,n.num=x∧TW.Reach (nds zs) k n)→H' l=some (.lst (ms.map V.int))→Q (.ref l) H') ∧
 (k≠0→(∀z∈zs,z.2.num≠k)→∀H',Same H H'→E (.ref C) none H')
theorem wX:FnScope ["tree","number"] ["tree","number"] (ai vC):=fsc
theorem vI{f C:Addr}{fd:FuncData}(F:Fun K "below" "below" vC f fd)(T:Txt mg)(CB:Has P w K mg base 1 "by_number" ["tree"] eR)(CN:da P w K mg base 1 "node_of" ["nodes","number"] (jg C))(CI:Has P w K mg base 1 "numbers_inside" ["nodes","folder"] oM):
  FnOk P w K mg base (CX1 P w) 2 f fd ["tree","number"] (oN C):=by
 obtain⟨fB,fdB,GB,mB,kB,bB⟩:=CB;obtain⟨fN,fdN,GN,mN,kN,bN⟩:=CN;obtain⟨fI,fdI,GI,mI,kI,bI⟩:=CI;obtain⟨tt,hT⟩:=T.top;refine F.okX wX (λvs H Q E h=>?_) (λcdv A outer s H vs Q E hr h=>?_)
 ·obtain⟨t,k,zs,rfl,_⟩:=h;rfl
 ·obtain⟨t,k,zs,rfl,tr,h0,h1,q1,q2⟩:=h;have hnd:=aH tr.tr;have hl:=tr.len;refine⟨_,ae (aR (am cN (pv 1) (dg (v:=.int 0) rfl hT ⟨_,rfl⟩) (au _))
    (aj (bX (al (E:=E) GN hr rfl mN kN bN .nil (cV ca) (aa (al GB hr rfl mB kB bB .nil aK (aa (pv 0) ah)) (aa (pv 1) ah))))) aA)
   (aj (ax (br ib rfl T.sorted boot_sorted (aa (al GI hr rfl mI kI bI .nil aK (aa (pv 0) (aa (pv 1) ah))) ah)))),?_⟩
  have main:∀H1,Same H H1→(k=0∨∃z∈zs,z.2.num=k)→uL (tCB (λxs H Q=>∃l,∃ns:List Int,xs=[.ref l]∧H l=some (.lst (ns.map V.int))∧ns.Nodup∧ns.length<64∧∀ms:List Int,ms.Perm ns→ms.Pairwise (λa b=>a<b)→∀p,H p=none→Q (.ref p) (upd H p (.lst (ms.map V.int))))
    (cO (ol oM [] E0 (cO (eT 0) (cO (eT 1) jq))) jq)) {nx:=λ_ H'=>Q .non H',rt:=Q} [some (.ref t),some (.int k)] H1:=by
   intro H1 s1 hk;refine⟨_,rfl,_,rfl,t,k,zs,rfl,s1 _ _ tr.tup,tr.nod.same s1,by omega,λfd dn l H2 wk el s2=>?_⟩;have hfl:=wk.len;rw[bY]at hfl;refine⟨l,fd.map (λn:Nd=>n.num),rfl,(show H2 l=some (.lst ((fd.map λn:Nd=>n.num).map V.int))from el),pT tr.tr wk,by rw[length_map];omega,λms hp hs p hpn=>?_⟩;refine q1 hk ms p _ ((s1.trans s2).trans (af hpn)) hs (by rw[hp.length_eq,length_map];exact hfl) (λx=>?_) ac;rw[hp.mem_iff,mem_map];constructor
   ·rintro⟨n,hn,e⟩;have:=(wk.mem n).mp hn;exact⟨n,this.mem,e,this⟩
   ·rintro⟨n,_,e,hr⟩;exact⟨n,(wk.mem n).mpr hr,e⟩
  refine⟨_,rfl,rfl,_,rfl,?_⟩
  by_cases hk0:k=0
  ·have:decide (V.int k=V.int 0)=true:=by simp[hk0]
   rw[this];exact aD (main H (Same.refl _) (.inl hk0))
  ·have:decide (V.int k=V.int 0)=false:=by simp[hk0]
   rw[this];refine aQ ?_;refine⟨_,rfl,t,zs,rfl,tr.tup,tr.nod,by omega,hnd,λd H1 s1 nd1=>?_⟩;refine⟨_,rfl,d,k,zs,rfl,nd1,hnd,h0,h1,λz hz e=>main H1 s1 (.inr ⟨z,hz,e⟩),λhk=>q2 hk0 hk H1 s1⟩
def oO(CN CF:Addr):Sp:=λvs H Q E=>∃d p zs,vs=[.ref d,.int p]∧gf H d zs∧At H zs∧((nds zs).map (·.num)).Nodup∧0≤p∧p≤99 ∧
 (TW.fZ (nds zs) p→Q .non H)∧(p≠0→(∀z∈zs,z.2.num≠p)→E (.ref CN) none H)∧(∀z∈zs,z.2.num=p→p≠0→z.2.st≠none→E (.ref CF) none H)
theorem wY:FnScope ["nodes","number"] ["nodes","number"] (ai vB):=fsc
theorem vJ{f CN CF:Addr}{fd:FuncData}(F:Fun K "check_folder" "check_folder" vB f fd)(T:Txt mg)(O:lL "NotFolder" mg base CF)(CNo:da P w K mg base 1 "node_of" ["nodes","number"] (jg CN)):
  FnOk P w K mg base (CX1 P w) 2 f fd ["nodes","number"] (oO CN CF):=by
 obtain⟨fN,fdN,GN,mN,kN,bN⟩:=CNo;obtain⟨tt,hT⟩:=T.top;refine F.okX wY (λvs H Q E h=>?_) (λcdv A outer s H vs Q E hr h=>?_)
 ·obtain⟨d,p,zs,rfl,_⟩:=h;rfl
 ·obtain⟨d,p,zs,rfl,hd,hA,hnd,h0,h1,q1,q2,q3⟩:=h;refine⟨_,aj (aR (PW.pt (pw_and (am cN (pv 1) (dg (v:=.int 0) rfl hT ⟨_,rfl⟩) (au _)) (pw_and1 (am iz (av ao (al (E:=E) GN hr rfl mN kN bN .nil (cV ca) (aa (pv 0) (aa (pv 1) ah))) ag (λ_ _=>rfl)) cm (au _)))))
   (aj (dw ca O hr.hd rfl (eM (cP (c:=100) (by decide +kernel) (eO (pv 1) (cP (c:=100) (by decide +kernel) fY))) (by decide)))) aA),?_⟩
  refine⟨_,rfl,rfl,_,rfl,?_⟩
  by_cases hp0:p=0
  ·have:decide (V.int p=V.int 0)=true:=by simp[hp0]
   rw[this];exact aD (aD (q1 (.inl hp0)))
  ·have:decide (V.int p=V.int 0)=false:=by simp[hp0]
   rw[this];refine aQ ⟨_,rfl,_,rfl,d,p,zs,rfl,hd,hnd,h0,h1,λz hz e=>?_,λhk=>q2 hp0 hk⟩;refine⟨z.1,_,_,_,rfl,rfl,SqT.of (hA z hz),at3 z.2,rfl,_,rfl,?_⟩;rw[oH];cases hs:z.2.st with
   |none=>exact aD (q1 (.inr ⟨z.2,aw hz,hs,e⟩))
   |some i=>exact aQ ⟨_,rfl,p,rfl,h0,h1,λy=>⟨ap (show 1≤1000 by decide),q3 z hz e hp0 (by rw[hs];simp)⟩⟩
def lO(CT:Addr):Sp:=λvs H Q E=>∃t k p nm zs,vs=[.ref t,.int k,.int p,.str nm]∧H t=some (.tup (aO zs))∧At H zs∧0≤p∧p≤99∧nm.length≤100 ∧
 ((∀z∈zs,z.2.num≠k→¬(z.2.par=p∧z.2.nm=nm))→Q .non H)∧(∀z∈zs,z.2.num≠k→z.2.par=p→z.2.nm=nm→E (.ref CT) none H)
theorem uv:FnScope ["tree","number","parent","name","node"] ["tree","number","parent","name"] (ai vD):=fsc
theorem vK{f CT:Addr}{fd:FuncData}(F:Fun K "check_place" "check_place" vD f fd)(O:lL "Taken" mg base CT):FnOk P w K mg base (CX1 P w) 1 f fd ["tree","number","parent","name"] (lO CT):=by
 refine F.okX uv (λvs H Q E h=>?_) (λcdv A outer s H vs Q E hr h=>?_)
 ·obtain⟨t,k,p,nm,zs,rfl,_⟩:=h;rfl
 ·obtain⟨t,k,p,nm,zs,rfl,ht,hA,h0,h1,hn,q1,q2⟩:=h;refine⟨_,aj (cH (vp ca) rfl (cD (pv 0)) (aG (i:=4) uv.nd rfl (Or.inl rfl))
   (aj (aR (PW.pt (pw_and (am cN (av ao (pv 4) ag (λ_ _=>rfl)) (pv 1) (au _)) (pw_and (am cy (av ao (pv 4) ag (λ_ _=>rfl)) (pv 2) (au _)) (pw_and1 (am cy (av ao (pv 4) ag (λ_ _=>rfl)) (pv 3) (au _))))))
    (aj (dw ca O hr.hd rfl (eM (cP (c:=100) (by decide +kernel) (eO (pv 2) (cP (c:=100) (by decide +kernel) (vo (pv 3) fY)))) (by decide)))) aA))),?_⟩
  refine⟨_,rfl,t,rfl,⟨_,SqT.of ht⟩,gp (xs:=aO zs) (λi σ H'=>(∃on,σ=[some (.ref t),some (.int k),some (.int p),some (.str nm),on])∧H'=H∧∀z∈zs.take i,z.2.num≠k→¬(z.2.par=p∧z.2.nm=nm)) ⟨⟨none,rfl⟩,rfl,by simp⟩ (λi σ H' _ h=>by rw[h.2.1];exact SqT.of ht) (λi x σ H' hx h=>?_) (λσ H' h=>?_)⟩
  ·obtain⟨⟨on,rfl⟩,rfl,hi⟩:=h;obtain⟨z,gz,rfl⟩:=cr hx;have mz:=mem_of_getElem? gz;have az:SqT K H' z.1 (vals z.2):=SqT.of (hA z mz);have et:zs.take (i+1)=zs.take i++[z]:=bp gz;have nxt:(z.2.num≠k→¬(z.2.par=p∧z.2.nm=nm))→∀y∈zs.take (i+1),y.2.num≠k→¬(y.2.par=p∧y.2.nm=nm):=λhz y hy=>by
    rw[et]at hy;rcases mem_append.mp hy with hy|hy
    ·exact hi y hy
    ·have e:y=z:=by simpa using hy
     subst e;exact hz
   refine⟨_,rfl,z.1,_,_,_,rfl,rfl,az,at0 z.2,_,rfl,rfl,_,rfl,?_⟩
   by_cases hk:z.2.num=k
   ·have e1:(!decide (V.int z.2.num=V.int k))=false:=by simp[hk]
    rw[e1];exact aD (aD ⟨⟨_,rfl⟩,rfl,nxt λh=>absurd hk h⟩)
   ·have e1:(!decide (V.int z.2.num=V.int k))=true:=by simp[hk]
    rw[e1];refine aQ ⟨_,rfl,z.1,_,_,_,rfl,rfl,az,at1 z.2,_,rfl,rfl,_,rfl,?_⟩
    by_cases hp:z.2.par=p
    ·have e2:decide (V.int z.2.par=V.int p)=true:=by simp[hp]
     rw[e2];refine aQ ⟨_,rfl,z.1,_,_,_,rfl,rfl,az,at2 z.2,_,rfl,rfl,_,rfl,?_⟩
     by_cases hm:z.2.nm=nm
     ·have e3:decide (V.str z.2.nm=V.str nm)=true:=by simp[hm]
      rw[e3];exact aQ ⟨_,rfl,p,rfl,h0,h1,_,rfl,nm,rfl,hn,λy=>⟨ap (show 1≤1000 by decide),q2 z mz hk hp hm⟩⟩
     ·have e3:decide (V.str z.2.nm=V.str nm)=false:=by simp[hm]
      rw[e3];exact aD ⟨⟨_,rfl⟩,rfl,nxt λ_ h=>hm h.2⟩
    ·have e2:decide (V.int z.2.par=V.int p)=false:=by simp[hp]
     rw[e2];exact aD (aD ⟨⟨_,rfl⟩,rfl,nxt λ_ h=>hp h.1⟩)
  ·obtain⟨_,rfl,hi⟩:=h;rw[bo,take_length]at hi;exact q1 hi
def jh:Sp:=λvs H Q _=>∃t c n zs,vs=[.ref t,.ref c]∧H t=some (.tup (aO zs))∧At H zs∧H c=some (.tup (vals n))∧zs.length≤100∧∀us t' H',Same H H'→H' t'=some (.tup (aO us))→At H' us→nds us=(nds zs).map (TW.put n)→Q (.ref t') H'
theorem vL:FnScope ["tree","changed"] ["tree","changed"] (ai oJ):=fsc
theorem tf{f:Addr}{fd:FuncData}(F:Fun K "with_node" "with_node" oJ f fd)(T:Txt mg):FnOk P w K mg base CX0 1 f fd ["tree","changed"] jh:=by
 refine F.ok vL (λvs H Q E h=>?_) (λcdv A outer s H vs Q E hr h=>?_)
 ·obtain⟨t,c,n,zs,rfl,_⟩:=h;rfl
 ·obtain⟨t,c,n,zs,rfl,ht,hA,hc,hl,q⟩:=h;refine⟨_,aj (ax (bh bS rfl T.tuple rfl (aa (fT (N:=["node","changed"]) (cl:=[("changed",s.heap.objs.size+1)]) (k:=1) (js:=[1]) (g:=be 0) rfl
    (LcOk.mk' ["changed"] rfl rfl (by decide +kernel) (by decide +kernel) ?hcl rfl (by decide +kernel)) rfl ?hj (cD (pv 0)) (λs H fp=>aG (i:=0) (show(["node","changed"]:List Str).Nodup by decide +kernel) rfl (Or.inl rfl) (Or.inr rfl))
    (λs H fp=>iK (am cy (av (r:=cw K) ao (pv 0) ag (λ_ _=>rfl)) (av (r:=cw K) ao (pv 1) ag (λ_ _=>rfl)) (au _)) (pv 1) (pv 0))) ah))),?_⟩
  case hcl =>
   intro y hy;rcases mem_cons.mp hy with e|hy
   ·rw[e];rfl
   ·cases hy
  case hj =>
   intro i j x h1 h2
   match i,h1,h2 with
   |0,h1,h2 =>
    cases h1;cases h2;exact⟨rfl,Or.inr (Or.inl rfl),(show((ai oJ).names.lookup ("changed":Str)≠some NameKind.local)by decide +kernel),by first|exact Or.inl rfl|exact Or.inr rfl⟩
   |i+1,h1,h2=>simp at h1
  refine⟨_,rfl,t,rfl,⟨_,SqT.of ht⟩,λp hp=>?_⟩;refine dO (fr:=[some (.ref c)]) zs (λz=>V.ref z.1) (by omega) hp (dN (by rw[cc];exact SqT.of ht)) rfl (λz y H'=>y=.ref (if z.2.num=n.num then c else z.1)) (λz y H H' h _=>h) (λz H' k mz s1 _ hk=>?_) (λys H' s1 hp' hys=>?_)
  ·refine⟨_,rfl,z.1,_,_,_,rfl,rfl,SqT.of (s1 _ _ (hA z mz)),at0 z.2,_,rfl,c,_,_,_,rfl,rfl,SqT.of (s1 _ _ hc),at0 n,rfl,_,rfl,?_⟩
   by_cases e:z.2.num=n.num
   ·have e1:decide (V.int z.2.num=V.int n.num)=true:=by simp[e]
    rw[e1];exact aQ ⟨_,rfl,hk _ H' (Same.refl _) (by rw[if_pos e])⟩
   ·have e1:decide (V.int z.2.num=V.int n.num)=false:=by simp[e]
    rw[e1];exact aD ⟨_,rfl,hk _ H' (Same.refl _) (by rw[if_neg e])⟩
  ·have ey:=bv (f:=λz:Addr×Nd=>V.ref (if z.2.num=n.num then c else z.1)) hys (λz y _ h=>h);refine⟨p,_,rfl,.inl ⟨SqL.of hp',λl hl'=>?_⟩⟩;have er:aO (zs.map λz=>if z.2.num=n.num then (c,n)else z)=ys:=by
    rw[ey,←cc,map_map];apply map_congr_left;intro z _;show V.ref (if z.2.num=n.num then (c,n)else z).1=_
    by_cases e:z.2.num=n.num
    ·rw[if_pos e,if_pos e]
    ·rw[if_neg e,if_neg e]
   refine q (zs.map λz=>if z.2.num=n.num then (c,n)else z) l _ (s1.trans (af hl')) (by rw[er];exact ac) (λy hy=>?_) ?_
   ·obtain⟨z,mz,rfl⟩:=mem_map.mp hy
    by_cases e:z.2.num=n.num
    ·rw[if_pos e];exact(s1.trans (af hl')) _ _ hc
    ·rw[if_neg e];exact(s1.trans (af hl')) _ _ (hA z mz)
   ·unfold nds;rw[map_map,map_map];apply map_congr_left;intro z _;show(if z.2.num=n.num then (c,n)else z).2=TW.put n z.2
    unfold TW.put
    by_cases e:z.2.num=n.num
    ·rw[if_pos e,if_pos e]
    ·rw[if_neg e,if_neg e]
def nC(cls:TW.Wd→Addr):Sp:=λvs H Q E=>∃t n p nm st zs,vs=[.ref t,.int n,.int p,.str nm,stV st]∧Tre H t zs∧zs.length≤29∧ci (.make n p nm st)∧Outs H (nds zs) (.make n p nm st) cls Q E
theorem rc:FnScope ["tree","number","parent","name","stamp","nodes"] ["tree","number","parent","name","stamp"] (ai qU):=fsc
theorem tm{f:Addr}{fd:FuncData}{cls:TW.Wd→Addr}(F:Fun K "make" "make" qU f fd)(T:Txt mg)(O:sX mg base cls)(CB:Has P w K mg base 1 "by_number" ["tree"] eR)(CF:da P w K mg base 2 "check_folder" ["nodes","number"] (oO (cls .noNode) (cls .notFolder)))(CL:da P w K mg base 1 "check_place" ["tree","number","parent","name"] (lO (cls .taken))):FnOk P w K mg base (CX1 P w) 3 f fd ["tree","number","parent","name","stamp"] (nC cls):=by
 obtain⟨fB,fdB,GB,mB,kB,bB⟩:=CB;obtain⟨fF,fdF,GF,mF,kF,bF⟩:=CF;obtain⟨fL,fdL,GL,mL,kL,bL⟩:=CL;refine F.okX rc (λvs H Q E h=>?_) (λcdv A outer s H vs Q E hr h=>?_)
 ·obtain⟨t,n,p,nm,st,zs,rfl,_⟩:=h;rfl
 ·obtain⟨t,n,p,nm,st,zs,rfl,tr,hl,⟨hn1,hn2,hp1,hp2,hnm⟩,o⟩:=h;have hr1:Room 1 _:=hr.mono (by decide);have hnd:=aH tr.tr;refine⟨_,ae (aq (i:=5) rc.nd rfl (Or.inl rfl) (al GB hr1 rfl mB kB bB .nil aK (aa (pv 0) ah)))
   (ae (aR (bQ (dR (aI hr) (pv 1) (pv 5))) (aj (dw ca (O .known) hr.hd rfl (eM (cP (c:=100) (by decide +kernel) (eO (pv 1) fY)) (by decide)))) aA)
   (ae (bX (al (E:=E) GF hr rfl mF kF bF .nil (cV ca) (aa (pv 5) (aa (pv 2) ah))))
   (ae (bX (al (E:=E) GL hr1 rfl mL kL bL .nil (cV ca) (aa (pv 0) (aa (pv 1) (aa (pv 2) (aa (pv 3) ah))))))
   (aj (ax (bh bS rfl T.tuple rfl (aa (br cn rfl T.sorted boot_sorted (aa (aE (lA.or dJ) (pv 0) (bn (aa (bn (aa (pv 1) (aa (pv 2) (aa (pv 3) (aa (pv 4) ah))))) ah))) ah)) ah))))))),?_⟩
  refine⟨_,rfl,t,zs,rfl,tr.tup,tr.nod,by omega,hnd,λd H1 s1 nd1=>?_⟩
  by_cases hk:∃z∈zs,z.2.num=n
  ·obtain⟨z,hz,e⟩:=hk;subst e;exact⟨_,rfl,_,rfl,d,_,rfl,nd1.get hnd hz,_,rfl,aQ ⟨_,rfl,_,rfl,by omega,hn2,λy=>⟨ap (show 1≤1000 by decide),o.no .known H1 s1 (.mKnown (eB hz rfl))⟩⟩⟩
  ·have hno:=cJ hk;refine⟨_,rfl,_,rfl,d,_,rfl,nd1.not (λz hz e=>hk ⟨z,hz,e⟩),_,rfl,aD ?_⟩;refine⟨_,rfl,_,rfl,d,p,zs,rfl,nd1,tr.nod.same s1,hnd,hp1,hp2,λhF=>?_,λh0 hz=>o.no .noNode H1 s1 (.mNo hno h0 (cJ λ⟨z,hz',e⟩=>hz z hz' e)),λz hz e h0 hs=>o.no .notFolder H1 s1 (.mFile hno h0 (aw hz) e hs)⟩;refine⟨_,rfl,_,rfl,_,rfl,_,rfl,t,n,p,nm,zs,rfl,s1 _ _ tr.tup,tr.nod.same s1,hp1,hp2,hnm,λhfree=>?_,λz hz _ e1 e2=>o.no .taken H1 s1 (.mTaken hno hF (aw hz) e1 e2)⟩;refine⟨_,rfl,_,rfl,_,rfl,_,rfl,_,rfl,(show 4≤sizeLine from ap (by decide)),λq hq=>⟨(show 1≤sizeLine from ap (by decide)),λc hc=>?_⟩⟩;have s2:Same H1 (upd (upd H1 q (.tup [.int n,.int p,.str nm,stV st])) c (.tup [.ref q])):=(af hq).trans (af hc);have gq:upd (upd H1 q (.tup [.int n,.int p,.str nm,stV st])) c (.tup [.ref q]) q=some (.tup (vals ⟨n,p,nm,st⟩)):=bu hc ac;have gc:upd (upd H1 q (.tup [.int n,.int p,.str nm,stV st])) c (.tup [.ref q]) c=some (.tup [.ref q]):=ac;generalize upd (upd H1 q (.tup [.int n,.int p,.str nm,stV st])) c (.tup [.ref q])=H2 at s2 gq gc⊢;have fin:∀(l:Addr)(H3:Hp),Same H2 H3→SqT K H3 l (aO (zs++[(q,⟨n,p,nm,st⟩)]))→tCB (λxs H Q=>∃l,∃zs:List gF,xs=[.ref l]∧(SqL K H l ((zs.map (·.1)).map V.ref)∨SqT K H l ((zs.map (·.1)).map V.ref))∧(∀z∈zs,H z.1=some (.tup (.int z.2.1::z.2.2)))∧(zs.map (·.2.1)).Nodup∧zs.length<64 ∧
     ∀zs':List gF,zs'.Perm zs→zs'.Pairwise (λa b=>a.2.1<b.2.1)→∀p,H p=none→Q (.ref p) (upd H p (.lst ((zs'.map (·.1)).map V.ref)))) (cO (tC (.ref l)) jq) [] H3 (λx H1=>(λxs H Q=>∃p ys,xs=[V.ref p]∧((SqL K H p ys∧∀l,H l=none→Q (V.ref l) (upd H l (.tup ys)))∨(SqT K H p ys∧Q (.ref p) H))) [x] H1 Q):=by
    intro l H3 s3 hl3;have s123:=(s1.trans s2).trans s3;refine fj (.inr hl3) (λz hz=>?_) ?_ (by rw[length_append];simp;omega) (λus t' H' s' ht' hA' hp hrise=>?_)
    ·rcases mem_append.mp hz with h|h
     ·exact s123 _ _ (tr.nod z h)
     ·have e:z=(q,⟨n,p,nm,st⟩):=by simpa using h
      subst e;exact s3 _ _ gq
    ·have e:(nds (zs++[(q,(⟨n,p,nm,st⟩:Nd))])).map (·.num)=(nds zs).map (·.num)++[n]:=by simp[nds]
     rw[e,nodup_append];refine⟨hnd,by simp,λa ha b hb e=>?_⟩;have eb:b=n:=by simpa using hb
     obtain⟨m,hm,em⟩:=mem_map.mp ha;exact hno ⟨m,hm,by rw[em,e,eb]⟩
    ·refine o.ok us t' H' (s123.trans s') ht' hA' (.made hno hF (λm hm=>?_) ?_ hrise)
     ·obtain⟨z,hz,rfl⟩:=bb hm;exact hfree z hz λe=>hno ⟨z.2,hm,e⟩
     ·have:(nds us).Perm (nds (zs++[(q,⟨n,p,nm,st⟩)])):=hp.map _;refine this.trans ?_;unfold nds;rw[map_append];exact List.perm_append_comm
   by_cases hz:zs=[]
   ·subst hz;exact .inl ⟨t,c,_,rfl,rfl,SqT.of ((s1.trans s2) _ _ tr.tup),SqT.of gc,fin c H2 (Same.refl _) (SqT.of gc)⟩
   ·refine .inr ⟨t,c,_,_,rfl,rfl,SqT.of ((s1.trans s2) _ _ tr.tup),SqT.of gc,?_,?_,λh=>absurd h (cons_ne_nil _ _),λ_ l hl3=>fin l _ (af hl3) (by rw[ie];exact SqT.of ac)⟩
    ·intro e;exact hz (qQ e)
    ·rw[bo];exact ap (by show zs.length+1≤1000;omega)
def ky(cls:TW.Wd→Addr):Sp:=λvs H Q E=>∃t n st zs,vs=[.ref t,.int n,.int st]∧Tre H t zs∧ci (.write n st)∧Outs H (nds zs) (.write n st) cls Q E
theorem oP:FnScope ["tree","number","stamp","node"] ["tree","number","stamp"] (ai nA):=fsc
theorem re{f:Addr}{fd:FuncData}{cls:TW.Wd→Addr}(F:Fun K "write" "write" nA f fd)(O:sX mg base cls)(CB:Has P w K mg base 1 "by_number" ["tree"] eR)(CN:da P w K mg base 1 "node_of" ["nodes","number"] (jg (cls .noNode)))(CW:Has P w K mg base 1 "with_node" ["tree","changed"] jh):FnOk P w K mg base (CX1 P w) 2 f fd ["tree","number","stamp"] (ky cls):=by
 obtain⟨fB,fdB,GB,mB,kB,bB⟩:=CB;obtain⟨fN,fdN,GN,mN,kN,bN⟩:=CN;obtain⟨fW,fdW,GW,mW,kW,bW⟩:=CW;refine F.okX oP (λvs H Q E h=>?_) (λcdv A outer s H vs Q E hr h=>?_)
 ·obtain⟨t,n,st,zs,rfl,_⟩:=h;rfl
 ·obtain⟨t,n,st,zs,rfl,tr,⟨hn1,hn2⟩,o⟩:=h;have hnd:=aH tr.tr;have hl:=tr.len;refine⟨_,ae (aq (i:=3) oP.nd rfl (Or.inl rfl) (al (E:=E) GN hr rfl mN kN bN .nil (cV ca) (aa (al GB hr rfl mB kB bB .nil aK (aa (pv 0) ah)) (aa (pv 1) ah))))
   (ae (aR (am eG (av ao (pv 3) ag (λ_ _=>rfl)) cm (au _)) (aj (dw ca (O .notFile) hr.hd rfl (eM (cP (c:=100) (by decide +kernel) (eO (pv 1) (cP (c:=100) (by decide +kernel) fY))) (by decide)))) aA)
   (aj (ax (al GW hr rfl mW kW bW .nil aK (aa (pv 0) (aa (bn (aa (pv 1) (aa (av ao (pv 3) ag (λ_ _=>rfl)) (aa (av ao (pv 3) ag (λ_ _=>rfl)) (aa (pv 2) ah))))) ah)))))),?_⟩
  refine⟨_,rfl,t,zs,rfl,tr.tup,tr.nod,by omega,hnd,λd H1 s1 nd1=>?_⟩;refine⟨_,rfl,d,n,zs,rfl,nd1,hnd,by omega,hn2,λz hz e=>?_,λhk=>o.no .noNode H1 s1 (.wNo (cJ λ⟨z,hz,e⟩=>hk z hz e))⟩;subst e;have az:SqT K H1 z.1 (vals z.2):=SqT.of (s1 _ _ (tr.nod z hz));refine⟨_,rfl,z.1,_,_,_,rfl,rfl,az,at3 z.2,rfl,_,rfl,?_⟩;cases hs:z.2.st with
  |none=>exact aQ ⟨_,rfl,_,rfl,by omega,hn2,λy=>⟨ap (show 1≤1000 by decide),o.no .notFile H1 s1 (.wFold (aw hz) rfl hs)⟩⟩
  |some i =>
   refine aD ⟨_,rfl,_,rfl,_,rfl,z.1,_,_,_,rfl,rfl,az,at1 z.2,_,rfl,z.1,_,_,_,rfl,rfl,az,at2 z.2,_,rfl,(show 4≤sizeLine from ap (by decide)),λc hc=>?_⟩;have s2:=s1.trans (af (o:=.tup [.int z.2.num,.int z.2.par,.str z.2.nm,.int st]) hc);refine⟨t,c,⟨z.2.num,z.2.par,z.2.nm,some st⟩,zs,rfl,s2 _ _ tr.tup,tr.nod.same s2,ac,by omega,λus t' H' s' ht' hA' e=>o.ok us t' H' (s2.trans s') ht' hA' ?_⟩;rw[e];exact .wrote (aw hz) rfl (by rw[hs];simp)
def nD(cls:TW.Wd→Addr):Sp:=λvs H Q E=>∃t n p nm zs,vs=[.ref t,.int n,.int p,.str nm]∧Tre H t zs∧ci (.move n p nm)∧Outs H (nds zs) (.move n p nm) cls Q E
theorem nE:FnScope ["tree","number","parent","name","nodes","node"] ["tree","number","parent","name"] (ai qV):=fsc
theorem tq{f:Addr}{fd:FuncData}{cls:TW.Wd→Addr}(F:Fun K "move" "move" qV f fd)(O:sX mg base cls)(CB:Has P w K mg base 1 "by_number" ["tree"] eR)(CN:da P w K mg base 1 "node_of" ["nodes","number"] (jg (cls .noNode)))(CF:da P w K mg base 2 "check_folder" ["nodes","number"] (oO (cls .noNode) (cls .notFolder)))(CE:da P w K mg base 2 "below" ["tree","number"] (oN (cls .noNode)))(CL:da P w K mg base 1 "check_place" ["tree","number","parent","name"] (lO (cls .taken)))(CW:Has P w K mg base 1 "with_node" ["tree","changed"] jh):FnOk P w K mg base (CX1 P w) 3 f fd ["tree","number","parent","name"] (nD cls):=by
 obtain⟨fB,fdB,GB,mB,kB,bB⟩:=CB;obtain⟨fN,fdN,GN,mN,kN,bN⟩:=CN;obtain⟨fF,fdF,GF,mF,kF,bF⟩:=CF;obtain⟨fE,fdE,GE,mE,kE,bE⟩:=CE;obtain⟨fL,fdL,GL,mL,kL,bL⟩:=CL;obtain⟨fW,fdW,GW,mW,kW,bW⟩:=CW;refine F.okX nE (λvs H Q E h=>?_) (λcdv A outer s H vs Q E hr h=>?_)
 ·obtain⟨t,n,p,nm,zs,rfl,_⟩:=h;rfl
 ·obtain⟨t,n,p,nm,zs,rfl,tr,⟨hn1,hn2,hp1,hp2,hnm⟩,o⟩:=h;have hnd:=aH tr.tr;have hl:=tr.len;have hT:=tr.tr;have hr1:Room 1 _:=hr.mono (by decide);refine⟨_,ae (aq (i:=4) nE.nd rfl (Or.inl rfl) (al GB hr1 rfl mB kB bB .nil aK (aa (pv 0) ah)))
   (ae (aq (i:=5) nE.nd rfl (Or.inl rfl) (al (E:=E) GN hr1 rfl mN kN bN .nil (cV ca) (aa (pv 4) (aa (pv 1) ah))))
   (ae (bX (al (E:=E) GF hr rfl mF kF bF .nil (cV ca) (aa (pv 4) (aa (pv 2) ah))))
   (ae (aR (PW.pt (pw_or (am cy (pv 2) (pv 1) (au _)) (pw_or1 (am jA (pv 2) (al (E:=E) GE hr rfl mE kE bE .nil (cV ca) (aa (pv 0) (aa (pv 1) ah))) rfl))))
    (aj (dw ca (O .inside) hr.hd rfl (eM (cP (c:=100) (by decide +kernel) (eO (pv 2) (cP (c:=100) (by decide +kernel) (eO (pv 1) (cP (c:=100) (by decide +kernel) fY))))) (by decide)))) aA)
   (ae (bX (al (E:=E) GL hr1 rfl mL kL bL .nil (cV ca) (aa (pv 0) (aa (pv 1) (aa (pv 2) (aa (pv 3) ah))))))
   (aj (ax (al GW hr1 rfl mW kW bW .nil aK (aa (pv 0) (aa (bn (aa (pv 1) (aa (pv 2) (aa (pv 3) (aa (av ao (pv 5) ag (λ_ _=>rfl)) ah))))) ah))))))))),?_⟩
  refine⟨_,rfl,t,zs,rfl,tr.tup,tr.nod,by omega,hnd,λd H1 s1 nd1=>?_⟩;refine⟨_,rfl,_,rfl,d,n,zs,rfl,nd1,hnd,by omega,hn2,λz hz e=>?_,λhk=>o.no .noNode H1 s1 (.vNo (cJ λ⟨z,hz,e⟩=>hk z hz e))⟩;subst e;have hh:TW.aF (nds zs) z.2.num:=eB hz rfl;refine⟨_,rfl,_,rfl,d,p,zs,rfl,nd1,tr.nod.same s1,hnd,hp1,hp2,λhF=>?_,λh0 hk=>o.no .noNode H1 s1 (.vNoP hh h0 (cJ λ⟨y,hy,e⟩=>hk y hy e)),λy hy e h0 hs=>o.no .notFolder H1 s1 (.vFile hh h0 (aw hy) e hs)⟩;have insd:∀H2,Same H1 H2→p≠0→TW.Und (nds zs) z.2.num p→∀y:Str,E (.ref (cls .inside)) none H2:=λH2 s2 h0 hu _=>o.no .inside H2 (s1.trans s2) (.vIn hh hF h0 hu);have rest:∀H2,Same H1 H2→(p≠0→¬TW.Und (nds zs) z.2.num p)→jp (uh (ol (lO (cls .taken)) [] E (cO (eT 0) (cO (eT 1) (cO (eT 2) (cO (eT 3) jq)))))) (uL (ol jh [] E0 (cO (eT 0) (cO (wE (cO (eT 1) (cO (eT 2) (cO (eT 3) (cO (tOp (cw K) (eT 5) (tC (.int 3))) jq))))) jq))))
    {nx:=λ_ H'=>Q .non H',rt:=Q} [some (.ref t),some (.int z.2.num),some (.int p),some (.str nm),some (.ref d),some (.ref z.1)] H2:=by
   intro H2 s2 hu;have s12:=s1.trans s2;refine⟨_,rfl,_,rfl,_,rfl,_,rfl,t,z.2.num,p,nm,zs,rfl,s12 _ _ tr.tup,tr.nod.same s12,hp1,hp2,hnm,λhfree=>?_,λy hy hne e1 e2=>o.no .taken H2 s12 (.vTaken hh hF hu (aw hy) hne e1 e2)⟩;refine⟨_,rfl,_,rfl,_,rfl,_,rfl,_,rfl,z.1,_,_,_,rfl,rfl,SqT.of (s12 _ _ (tr.nod z hz)),at3 z.2,(show 4≤sizeLine from ap (by decide)),λc hc=>?_⟩;have s3:=s12.trans (af (o:=.tup [.int z.2.num,.int p,.str nm,stV z.2.st]) hc);refine⟨t,c,⟨z.2.num,p,nm,z.2.st⟩,zs,rfl,s3 _ _ tr.tup,tr.nod.same s3,ac,by omega,λus t' H' s' ht' hA' e=>o.ok us t' H' (s3.trans s') ht' hA' ?_⟩;rw[e];refine .moved (aw hz) rfl hF hu λm hm hne h=>?_;obtain⟨y,hy,rfl⟩:=bb hm;exact hfree y hy hne h
  refine⟨_,rfl,_,rfl,rfl,_,rfl,?_⟩
  by_cases hpn:p=z.2.num
  ·have e1:decide (V.int p=V.int z.2.num)=true:=by simp[hpn]
   rw[e1];exact aQ (aQ ⟨_,rfl,p,rfl,hp1,hp2,_,rfl,_,rfl,by omega,hn2,λy=>⟨ap (show 1≤1000 by decide),insd H1 (Same.refl _) (by omega) (by rw[hpn];exact .here) y⟩⟩)
  ·have e1:decide (V.int p=V.int z.2.num)=false:=by simp[hpn]
   rw[e1];refine aD ⟨_,rfl,_,rfl,_,rfl,t,z.2.num,zs,rfl,tr.same s1,by omega,hn2,λ_ ms l H2 s2 hms _ hm hl2=>?_,λh0 hk=>absurd rfl (hk z hz)⟩;refine⟨l,_,rfl,.inl (SqL.of hl2),rfl,ic ms,_,rfl,?_⟩;show if (inV (.int p) (ms.map V.int))=true then _ else _
   rw[kr]
   by_cases hin:p∈ms
   ·rw[decide_eq_true hin];obtain⟨m,hm1,hm2,hm3⟩:=(hm p).mp hin;have hu:TW.Und (nds zs) z.2.num p:=by rw[←hm2];exact((TW.dm hT hn1 hm1).mp hm3).2
    have h0:p≠0:=by have:=hT.pos m hm1;omega
    exact aQ ⟨_,rfl,p,rfl,hp1,hp2,_,rfl,_,rfl,by omega,hn2,λy=>⟨ap (show 1≤1000 by decide),insd H2 s2 h0 hu y⟩⟩
   ·rw[decide_eq_false hin];refine aD (rest H2 s2 λh0 hu=>?_);rcases hF with e|⟨m,hm1,hm2,hm3⟩
    ·exact h0 e
    ·refine hin ((hm p).mpr ⟨m,hm1,hm3,(TW.dm hT hn1 hm1).mpr ⟨by rw[hm3];exact hpn,by rw[hm3];exact hu⟩⟩)
def nF(cls:TW.Wd→Addr):Sp:=λvs H Q E=>∃t n zs,vs=[.ref t,.int n]∧Tre H t zs∧ci (.drop n)∧Outs H (nds zs) (.drop n) cls Q E
theorem rf:FnScope ["tree","number","gone"] ["tree","number"] (ai oK):=fsc
def lP(n:Int)(ms:List Int)(m:Nd):Bool:=!decide (m.num=n∨m.num∈ms)
theorem tu{f:Addr}{fd:FuncData}{cls:TW.Wd→Addr}(F:Fun K "drop" "drop" oK f fd)(T:Txt mg)(CB:Has P w K mg base 1 "by_number" ["tree"] eR)(CN:da P w K mg base 1 "node_of" ["nodes","number"] (jg (cls .noNode)))(CE:da P w K mg base 2 "below" ["tree","number"] (oN (cls .noNode))):FnOk P w K mg base (CX1 P w) 3 f fd ["tree","number"] (nF cls):=by
 obtain⟨fB,fdB,GB,mB,kB,bB⟩:=CB;obtain⟨fN,fdN,GN,mN,kN,bN⟩:=CN;obtain⟨fE,fdE,GE,mE,kE,bE⟩:=CE;refine F.okX rf (λvs H Q E h=>?_) (λcdv A outer s H vs Q E hr h=>?_)
 ·obtain⟨t,n,zs,rfl,_⟩:=h;rfl
 ·obtain⟨t,n,zs,rfl,tr,⟨hn1,hn2⟩,o⟩:=h;have hnd:=aH tr.tr;have hl:=tr.len;have hT:=tr.tr;have hr1:Room 1 _:=hr.mono (by decide);refine⟨_,ae (bX (al (E:=E) GN hr1 rfl mN kN bN .nil (cV ca) (aa (al GB hr1 rfl mB kB bB .nil aK (aa (pv 0) ah)) (aa (pv 1) ah))))
   (ae (aq (i:=2) rf.nd rfl (Or.inr rfl) (bh (fe rfl) rfl T.dict boot_dict (aa (fT (N:=["inner"]) (k:=1) (js:=[]) (g:=be 0) rfl (dS rfl (by decide +kernel) (by decide +kernel) (by decide +kernel)) rfl (λi j x h=>by simp at h)
    (cG (al (E:=E) GE hr rfl mE kE bE .nil (cV ca) (aa (pv 0) (aa (pv 1) ah)))) (λs H fp=>aG (i:=0) (show(["inner"]:List Str).Nodup by decide +kernel) rfl (Or.inl rfl) (Or.inr rfl))
    (λs H fp=>bn (aa (pv 0) (aa dG ah)))) ah)))
   (ae (fw (aI hr) (pv 2) (pv 1) dG rfl)
   (aj (ax (bh bS rfl T.tuple rfl (aa (du (N:=["node","gone"]) (cl:=[("gone",s.heap.objs.size+1)]) (k:=1) (js:=[2]) (g:=be 0) rfl
    (LcOk.mk' ["gone"] rfl rfl (by decide +kernel) (by decide +kernel) ?hcl rfl (by decide +kernel)) rfl ?hj (cD (pv 0)) (λs H fp=>aG (i:=0) (show(["node","gone"]:List Str).Nodup by decide +kernel) rfl (Or.inl rfl) (Or.inr rfl))
    (λs H fp=>bQ (bZ (aI hr) (av (r:=cw K) ao (pv 0) ag (λ_ _=>rfl)) (pv 1))) (λs H fp=>pv 0)) ah)))))),?_⟩
  case hcl =>
   intro y hy;rcases mem_cons.mp hy with e|hy
   ·rw[e];rfl
   ·cases hy
  case hj =>
   intro i j x h1 h2
   match i,h1,h2 with
   |0,h1,h2 =>
    cases h1;cases h2;exact⟨rfl,Or.inr (Or.inl rfl),(show((ai oK).names.lookup ("gone":Str)≠some NameKind.local)by decide +kernel),by first|exact Or.inl rfl|exact Or.inr rfl⟩
   |i+1,h1,h2=>simp at h1
  refine⟨_,rfl,t,zs,rfl,tr.tup,tr.nod,by omega,hnd,λd H1 s1 nd1=>?_⟩;refine⟨_,rfl,d,n,zs,rfl,nd1,hnd,by omega,hn2,λz hz e=>?_,λhk=>o.no .noNode H1 s1 (.dNo (cJ λ⟨z,hz,e⟩=>hk z hz e))⟩;refine⟨_,rfl,_,rfl,t,n,zs,rfl,tr.same s1,by omega,hn2,λ_ ms l H2 s2 hms hml0 hm hl2=>?_,λh0 hk=>absurd e (hk z hz)⟩;have hml:ms.length≤1000:=by omega
  refine⟨l,rfl,⟨_,SqL.of hl2⟩,λp hp=>?_⟩;refine dO (fr:=[]) ms V.int hml hp (gH (SqL.of hl2)) rfl (λm y H'=>∃q,y=.ref q∧q≠p∧H' q=some (.tup [.int m,.bl true])) (λm y H H' ⟨q,e,ne,h⟩ ex=>⟨q,e,ne,ex q _ ne h⟩) (λm H' k _ s3 hpl hk=>?_) (λys H3 s3 hp3 hys=>?_)
  ·exact⟨_,rfl,le2,λq hq=>hk _ _ (af hq) ⟨q,rfl,dz hpl hq,ac⟩⟩
  ·obtain⟨bs,e1,e2,e3⟩:=cF (val:=V.ref) (S:=λ(m:Int) (q:Addr)=>H3 q=some (.tup [.int m,.bl true])) hys (λm y _ ⟨q,e,_,h⟩=>⟨q,e,h⟩);have s123:=(s1.trans s2).trans s3;have hbl:bs.length=ms.length:=by rw[←e1,length_map]
   refine⟨p,bs.map λx=>(x.2,(Sum.inl x.1:Key),V.bl true),rfl,by rw[hp3,e2,map_map,map_map];rfl,λy hy=>?_,by rw[length_map];omega,?_,λg hg=>?_⟩
   ·obtain⟨x,hx,rfl⟩:=mem_map.mp hy;exact e3 x hx
   ·rw[map_map];have:(bs.map ((λx:Addr×Key×V=>x.2.1)∘λx=>(x.2,(Sum.inl x.1:Key),V.bl true)))=ms.map (Sum.inl:Int→Key):=by rw[←e1,map_map];rfl
    rw[this];unfold Nodup;rw[pairwise_map];exact hms.imp λh e=>by injection e with e;omega
   ·have ekv:(bs.map λx=>(x.2,(Sum.inl x.1:Key),V.bl true)).map (·.2)=ms.map λm=>((Sum.inl m:Key),V.bl true):=by rw[←e1,map_map,map_map];rfl
    rw[ekv];have s4:=s123.trans (af (o:=.dK (ms.map λm=>((Sum.inl m:Key),V.bl true))) hg);have s5:Same H (upd (upd H3 g (.dK (ms.map λm=>((Sum.inl m:Key),V.bl true)))) g (.dK (bG (ms.map λm=>((Sum.inl m:Key),V.bl true)) (Sum.inl n:Key) (.bl true)))):=aP (s123.free hg) s4;refine⟨_,rfl,_,rfl,g,_,rfl,ix.k (k:=Sum.inl n) ac (aC (by rw[length_map];exact hml)),?_⟩;have hgo:(upd (upd H3 g (.dK (ms.map λm=>((Sum.inl m:Key),V.bl true)))) g (.dK (bG (ms.map λm=>((Sum.inl m:Key),V.bl true)) (Sum.inl n:Key) (.bl true)))) g=some (.dK (bG (ms.map λm=>((Sum.inl m:Key),V.bl true)) (Sum.inl n:Key) (.bl true))):=ac;generalize upd (upd H3 g (.dK (ms.map λm=>((Sum.inl m:Key),V.bl true)))) g (.dK (bG (ms.map λm=>((Sum.inl m:Key),V.bl true)) (Sum.inl n:Key) (.bl true)))=H5 at s5 hgo⊢;have hval:∀k:Int,(!(aY (bG (ms.map λm=>((Sum.inl m:Key),V.bl true)) (Sum.inl n:Key) (.bl true)) (Sum.inl k:Key)).isSome) = !decide (k=n∨k∈ms):=λk=>by
     rw[ee]
     by_cases e:k=n
     ·subst e;simp
     ·have e':¬(Sum.inl k:Key)=Sum.inl n:=λh=>e (by injection h);rw[if_neg e']
      by_cases hk:k∈ms
      ·have:aY (ms.map λm=>((Sum.inl m:Key),V.bl true)) (Sum.inl k:Key)=some (.bl true):=by
        refine gL ?_ (mem_map.mpr ⟨k,hk,rfl⟩);rw[map_map];unfold Nodup;rw[pairwise_map];exact hms.imp λh e=>by injection e with e;omega
       rw[this];simp[hk]
      ·have:aY (ms.map λm=>((Sum.inl m:Key),V.bl true)) (Sum.inl k:Key)=none:=by
        refine iD λhx=>hk ?_;rw[map_map]at hx;obtain⟨m,hm',e⟩:=mem_map.mp hx;injection e with e
        rw[←e];exact hm'
       rw[this];simp[e,hk]
    refine⟨_,rfl,t,rfl,⟨_,SqT.of (s5 _ _ tr.tup)⟩,λp2 hp2=>?_⟩;refine cQ (fr:=[some (.ref g)]) zs (λz=>V.ref z.1) (by omega) hp2 (dN (by rw[cc];exact SqT.of (s5 _ _ tr.tup))) rfl (λz=>lP n ms z.2) (λz y _=>y=.ref z.1) (λz y H H' h _=>h) (λz H' k mz s6 _ hk=>?_) (λz H' k mz _ s6 _ hk=>?_) (λys H6 s6 hp6 hys=>?_)
    ·refine⟨_,rfl,z.1,_,_,_,rfl,rfl,SqT.of (s6 _ _ (s5 _ _ (tr.nod z mz))),at0 z.2,_,rfl,g,_,rfl,cA.k (k:=Sum.inl z.2.num) (s6 _ _ hgo),_,rfl,?_⟩;rw[hval];exact hk H' (Same.refl _)
    ·exact⟨_,rfl,hk _ H' (Same.refl _) rfl⟩
    ·have ey:=bv (f:=λz:Addr×Nd=>V.ref z.1) hys (λz y _ h=>h);refine⟨p2,_,rfl,.inl ⟨SqL.of hp6,λl6 hl6=>?_⟩⟩;have s56:=(s5.trans s6).trans (af (o:=.tup ys) hl6);refine o.ok (zs.filter λz=>lP n ms z.2) l6 _ s56 (by rw[ac,ey,cc]) (λy hy=>s56 _ _ (tr.nod y (mem_filter.mp hy).1)) ?_;have en:nds (zs.filter λz=>lP n ms z.2)=(nds zs).filter (lP n ms):=by
      unfold nds;rw[filter_map];rfl
     rw[en];refine .dropped ⟨z.2,aw hz,e⟩ λm hm'=>?_;unfold lP;rw[Bool.not_eq_true',decide_eq_false_iff_not];constructor
     ·intro h hu
      by_cases em:m.num=n
      ·exact h (.inl em)
      ·exact h (.inr ((hm m.num).mpr ⟨m,hm',rfl,(TW.dm hT hn1 hm').mpr ⟨em,hu⟩⟩))
     ·intro h hx;rcases hx with em|hx
      ·exact h (by rw[em];exact .here)
      ·obtain⟨m',h1,h2,h3⟩:=(hm m.num).mp hx;have:m'=m:=hT.inj h1 hm' h2;subst this;exact h ((TW.dm hT hn1 h1).mp h3).2
def gk(cls:TW.Wd→Addr):Sp:=λvs H Q E=>∃t d dd zs,vs=[.ref t,.ref d]∧Tre H t zs∧zs.length≤29∧H d=some (.tup (aT dd))∧ci dd∧Outs H (nds zs) dd cls Q E
theorem rg:FnScope ["tree","deed","word"] ["tree","deed"] (ai qW):=fsc
theorem tw{f:Addr}{fd:FuncData}{cls:TW.Wd→Addr}(F:Fun K "done" "done" qW f fd)(CM:da P w K mg base 3 "make" ["tree","number","parent","name","stamp"] (nC cls))(CW:da P w K mg base 2 "write" ["tree","number","stamp"] (ky cls))(CV:da P w K mg base 3 "move" ["tree","number","parent","name"] (nD cls))(CD:da P w K mg base 3 "drop" ["tree","number"] (nF cls)):FnOk P w K mg base (CX1 P w) 4 f fd ["tree","deed"] (gk cls):=by
 obtain⟨fM,fdM,GM,mM,kM,bM⟩:=CM;obtain⟨fW,fdW,GW,mW,kW,bW⟩:=CW;obtain⟨fV,fdV,GV,mV,kV',bV⟩:=CV;obtain⟨fD,fdD,GD,mD,kD,bD⟩:=CD;refine F.okX rg (λvs H Q E h=>?_) (λcdv A outer s H vs Q E hr h=>?_)
 ·obtain⟨t,d,dd,zs,rfl,_⟩:=h;rfl
 ·obtain⟨t,d,dd,zs,rfl,tr,hl,hd,hok,o⟩:=h;have hr2:Room 2 _:=hr.mono (by decide);refine⟨_,ae (aq (i:=2) rg.nd rfl (Or.inl rfl) (av ao (pv 1) ag (λ_ _=>rfl)))
   (ae (aR (am cy (pv 2) aJ (au _)) (aj (ax (al (E:=E) GM hr rfl mM kM bM .nil (cV ca) (aa (pv 0) (aa (av ao (pv 1) ag (λ_ _=>rfl)) (aa (av ao (pv 1) ag (λ_ _=>rfl)) (aa (av ao (pv 1) ag (λ_ _=>rfl)) (aa (av ao (pv 1) ag (λ_ _=>rfl)) ah)))))))) aA)
   (ae (aR (am cy (pv 2) aJ (au _)) (aj (ax (al (E:=E) GW hr2 rfl mW kW bW .nil (cV ca) (aa (pv 0) (aa (av ao (pv 1) ag (λ_ _=>rfl)) (aa (av ao (pv 1) ag (λ_ _=>rfl)) ah)))))) aA)
   (ae (aR (am cy (pv 2) aJ (au _)) (aj (ax (al (E:=E) GV hr rfl mV kV' bV .nil (cV ca) (aa (pv 0) (aa (av ao (pv 1) ag (λ_ _=>rfl)) (aa (av ao (pv 1) ag (λ_ _=>rfl)) (aa (av ao (pv 1) ag (λ_ _=>rfl)) ah))))))) aA)
   (ae (aR (am cy (pv 2) aJ (au _)) (aj (ax (al (E:=E) GD hr rfl mD kD bD .nil (cV ca) (aa (pv 0) (aa (av ao (pv 1) ag (λ_ _=>rfl)) ah))))) aA)
   (aj qk))))),?_⟩
  have sd:SqT K H d (aT dd):=SqT.of hd;cases dd with
  |make n p nm st =>
   refine⟨_,rfl,d,_,_,_,rfl,rfl,sd,rfl,?_⟩;refine⟨_,rfl,rfl,_,rfl,aQ ⟨_,rfl,_,rfl,d,_,_,_,rfl,rfl,sd,rfl,_,rfl,d,_,_,_,rfl,rfl,sd,rfl,_,rfl,d,_,_,_,rfl,rfl,sd,rfl,_,rfl,d,_,_,_,rfl,rfl,sd,rfl,t,n,p,nm,st,zs,rfl,tr,hl,hok,o⟩⟩
  |write n st =>
   refine⟨_,rfl,d,_,_,_,rfl,rfl,sd,rfl,?_⟩;refine⟨_,rfl,rfl,_,rfl,aD ⟨_,rfl,rfl,_,rfl,aQ ⟨_,rfl,_,rfl,d,_,_,_,rfl,rfl,sd,rfl,_,rfl,d,_,_,_,rfl,rfl,sd,rfl,t,n,st,zs,rfl,tr,hok,o⟩⟩⟩
  |move n p nm =>
   refine⟨_,rfl,d,_,_,_,rfl,rfl,sd,rfl,?_⟩;refine⟨_,rfl,rfl,_,rfl,aD ⟨_,rfl,rfl,_,rfl,aD ⟨_,rfl,rfl,_,rfl,aQ ⟨_,rfl,_,rfl,d,_,_,_,rfl,rfl,sd,rfl,_,rfl,d,_,_,_,rfl,rfl,sd,rfl,_,rfl,d,_,_,_,rfl,rfl,sd,rfl,t,n,p,nm,zs,rfl,tr,hok,o⟩⟩⟩⟩
  |drop n =>
   refine⟨_,rfl,d,_,_,_,rfl,rfl,sd,rfl,?_⟩;refine⟨_,rfl,rfl,_,rfl,aD ⟨_,rfl,rfl,_,rfl,aD ⟨_,rfl,rfl,_,rfl,aD ⟨_,rfl,rfl,_,rfl,aQ ⟨_,rfl,_,rfl,d,_,_,_,rfl,rfl,sd,rfl,t,n,zs,rfl,tr,hok,o⟩⟩⟩⟩⟩
end
end TK
namespace TB
open PySem SetTable
section
variable{prog:Program}{w:World}{A:Around}{E:Value→Shared→Prop}{s:Shared}
end
section
variable{prog:Program}{w:World}{A:Around}{R:Result→Shared→Prop}{I:Addr}{fp wr:List Addr}{G:Array GenState→Array GenState→Prop}{n:Nat}{P:Nat→Value→Prop}{St:Nat→Shared→Prop}
end
section
variable{prog:Program}{w:World}{A:Around}{E:Value→Shared→Prop}{s:Shared}
end
end TB
namespace SRT
open PySem PySem.W PyProof.Rows
section
variable{prog:Program}{w:World}{A:Around}{E:Value→Shared→Prop}{s:Shared}
end
end SRT
namespace L2
open PySem PySem.Spec PyProof.Rows
section
variable{X:Cx}
end
end L2
namespace TB
open PySem SetTable
section
variable{prog:Program}{w:World}{A:Around}{E:Value→Shared→Prop}{s:Shared}
end
end TB
namespace L2
open PySem PySem.Spec PyProof.Rows
section
variable{X:Cx}
def gO:V→Bool
 |.non=>true
 |.int _=>true
 |.str _=>true
 |_=>false
theorem eP{x:V}(h:gO x=true):db x=true:=by cases x<;>first|rfl|cases h
theorem lQ{x y:V}(hx:gO x=true)(hy:gO y=true):eqV x y=decide (x=y):=by
 cases x<;>cases y<;>simp_all [eqV,gO]<;>rw[Bool.eq_iff_iff]<;>simp
def OT(H:Hp)(x:V)(o:Option (List V)):Prop:=(x=.non∧o=none)∨∃a xs,x=.ref a∧H a=some (.tup xs)∧o=some xs∧∀v∈xs,gO v=true
theorem rh{xs ys:List V}(hl:xs.length=ys.length):((List.range xs.length).all λi=>decide (xs.getD i .non=ys.getD i .non))=decide (xs=ys):=by
 rw[Bool.eq_iff_iff,all_eq_true,decide_eq_true_eq];constructor
 ·intro h;apply ext_getElem?;intro i
  by_cases hi:i<xs.length
  ·have:=h i (mem_range.mpr hi);rw[decide_eq_true_eq,getD_eq_getElem?_getD,getD_eq_getElem?_getD,getElem?_eq_getElem hi,getElem?_eq_getElem (by omega)]at this;rw[getElem?_eq_getElem hi,getElem?_eq_getElem (by omega)];exact congrArg some this
  ·rw[getElem?_eq_none (by omega),getElem?_eq_none (by omega)]
 ·intro h i hi;rw[h];simp
theorem vM(hu:X.A.units+1<cLine):OpR X (compareOp .NotEq) (λx y H Q=>∃ox oy,OT H x ox∧OT H y oy∧Q (.bl (!decide (ox=oy))) H):=by
 intro pins s σ H x y v u Q I rx ry h;obtain⟨ox,oy,hx,hy,q⟩:=h;have hu0:X.A.units<cLine:=by omega
 rcases hx with⟨rfl,rfl⟩|⟨a,xs,rfl,ha,rfl,fx⟩<;>rcases hy with⟨rfl,rfl⟩|⟨b,ys,rfl,hb,rfl,fy⟩<;>cases rx<;>cases ry
 ·exact RcNeAt.none_none _ _ _ _ ⟨.bl false,H,I,rfl,q⟩
 ·obtain⟨_,ws,r2,t2⟩:=I.hok b _ hb;exact RcNeAt.none_tuple t2 hu0 _ _ _ _ ⟨.bl true,H,I,rfl,q⟩
 ·obtain⟨_,us,r1,t1⟩:=I.hok a _ ha;exact RcNeAt.tuple_none t1 hu0 _ _ _ _ ⟨.bl true,H,I,rfl,q⟩
 ·obtain⟨_,us,r1,t1⟩:=I.hok a _ ha;obtain⟨_,ws,r2,t2⟩:=I.hok b _ hb;have l1:=r1.length;have l2:=r2.length;refine RcNeAt.tuples (e:=λi=>decide (xs.getD i .non=ys.getD i .non)) t1 t2 hu0 (λj h1 h2=>?_) _ _ _ _ ⟨.bl _,H,I,rfl,?_⟩
  ·have h1':j<xs.length:=by rw[l1];simpa using h1
   have h2':j<ys.length:=by rw[l2];simpa using h2
   obtain⟨u',hu1,hu2⟩:=r1.get (getElem?_eq_getElem h1');obtain⟨v',hv1,hv2⟩:=r2.get (getElem?_eq_getElem h2');have e1:us.toArray[j]=u':=by
    have:us[j]?=some us.toArray[j]:=by rw[getElem?_eq_getElem (by simpa using h1)];simp
    rw[hu1]at this;exact(Option.some.inj this).symm
   have e2:ws.toArray[j]=v':=by
    have:ws[j]?=some ws.toArray[j]:=by rw[getElem?_eq_getElem (by simpa using h2)];simp
    rw[hv1]at this;exact(Option.some.inj this).symm
   rw[e1,e2,getD_eq_getElem?_getD,getD_eq_getElem?_getD,getElem?_eq_getElem h1',getElem?_eq_getElem h2'];have f1:=fx _ (getElem_mem h1');have f2:=fy _ (getElem_mem h2');show EqAt _ _ _ _ (decide (xs[j]=ys[j]));rw[←lQ f1 f2];exact iO hu2 hv2 (eP f1) (eP f2)
  ·have e:((List.range (min us.toArray.size ws.toArray.size)).all (λi=>decide (xs.getD i .non=ys.getD i .non))&&us.toArray.size==ws.toArray.size)=decide (some xs=some ys):=by
    simp only[size_toArray,←l1,←l2]
    by_cases hl:xs.length=ys.length
    ·rw[←hl,Nat.min_self,rh hl];simp
    ·have:(xs.length==ys.length)=false:=by simpa using hl
     rw[this,Bool.and_false];refine(decide_eq_false ?_).symm;intro e;injection e with e
     exact hl (by rw[e])
   rw[e];exact q
end
theorem tz{J:It}{H1:Hp}{xs:List V}{g:TG}{tb:TS}{D:Ends}{σ:St}{H:Hp}(S:Src J H1 xs)(Pv:Nat→St→Hp→Prop)(h0:Pv 0 σ H)(hl:∀i σ H,i≤xs.length→Pv i σ H→Same H1 H)(hs:∀i x σ H,xs[i]?=some x→Pv i σ H→g x σ H λσ2 H2=>tb {D with nx:=Pv (i+1),ct:=Pv (i+1),bk:=D.nx} σ2 H2)(hd:∀σ H,Pv xs.length σ H→D.nx σ H):
  ∃W:Nat→Nat→St→Hp→Prop,(∃m,W 0 m σ H)∧∀i m σ H,W i m σ H →
   (J.stop i H∧D.nx σ H)∨(J.go i H∧∃N:St→Hp→Prop,(∀σ' H',N σ' H'→∃m',m'<m∧W (i+1) m' σ' H')∧∀x H',J.yld i H x H'→g x σ H' λσ2 H2=>tb {D with nx:=N,ct:=N,bk:=D.nx} σ2 H2):=by
 refine⟨λi m σ H=>m=xs.length-i∧i≤xs.length∧Pv i σ H,⟨xs.length,by simp,zero_le _,h0⟩,?_⟩;rintro i m σ H ⟨rfl,hi,p⟩;have q:=hl i σ H hi p
 by_cases hlt:i<xs.length
 ·refine .inr ⟨S.go i H hlt q,Pv (i+1),λσ' H' p'=>⟨xs.length-(i+1),by omega,rfl,hlt,p'⟩,λx H' y=>?_⟩;obtain⟨e,y2⟩:=S.yl i H x H' hlt q y;subst e;exact hs i x σ _ y2 p
 ·have e:i=xs.length:=by omega
  subst e;exact .inl ⟨S.stop H q,hd σ H p⟩
section
variable{X:Cx}
end
end L2
namespace TW
section
variable{S:Type}
def de(t:List (Nd S))(k:Int):Option (Nd S):=t.find? λn=>n.num==k
theorem dE{t:List (Nd S)}(T:Tree1 t){m:Nd S}(hm:m∈t){k:Int}(e:m.num=k):de t k=some m:=by
 subst e;unfold de;cases h:t.find? λn=>n.num==m.num with
 |none=>have:=find?_eq_none.mp h m hm;simp at this
 |some y =>
  have h1:=find?_some h;have h2:=List.mem_of_find?_eq_some h;have h3:y.num=m.num:=by simpa using h1
  rw[T.inj h2 hm h3]
theorem ji{t:List (Nd S)}{k:Int}(h:∀m∈t,m.num≠k):de t k=none:=by
 unfold de;rw[find?_eq_none];intro m hm;simpa using h m hm
theorem fz{t u:List (Nd S)}(T:Tree1 t)(U:Tree1 u){k:Int}(h:∀m,m.num=k→(m∈u↔m∈t)):de u k=de t k:=by
 by_cases hk:∃m∈t,m.num=k
 ·obtain⟨m,hm,e⟩:=hk;rw[dE T hm e,dE U ((h m e).mpr hm) e]
 ·rw[ji λm hm e=>hk ⟨m,hm,e⟩,ji λm hm e=>hk ⟨m,(h m e).mp hm,e⟩]
def Deed.key:Deed S→Int
 |.make n _ _ _=>n
 |.write n _=>n
 |.move n _ _=>n
 |.drop n=>n
theorem put_mem{t:List (Nd S)}{z:Nd S}{m:Nd S}(h:m.num≠z.num):m∈t.map (put z)↔m∈t:=by
 rw[mem_map];constructor
 ·rintro⟨y,hy,e⟩
  by_cases e2:y.num=z.num
  ·rw[dB e2]at e;exact absurd (by rw[←e]) h
  ·rw[cb e2]at e;rw[←e];exact hy
 ·intro hm;exact⟨m,hm,cb h⟩
theorem Told.others{t u:List (Nd S)}(T:Tree1 t)(U:Tree1 u){d:Deed S}(h:Told t d (.inr u)){k:Int}(hk:k≠d.key):
  de u k=de t k∨((∃n,d=.drop n)∧Und t d.key k∧(∃m∈t,m.num=k)∧∀m∈u,m.num≠k):=by
 generalize er:(Sum.inr u:Sum Wd (List (Nd S)))=r at h;cases h with
 |@made n p nm st _ a1 a2 a3 a4 a5 =>
  injection er with er
  subst er;refine .inl (fz T U λm e=>?_);rw[a4.mem_iff,mem_cons];constructor
  ·rintro(e2|hm)
   ·rw[e2]at e;exact absurd e.symm hk
   ·exact hm
  ·exact .inr
 |@wrote n st y a1 a2 a3 =>
  injection er with er
  subst er;exact .inl (fz T U λm e=>put_mem (by rw[e];exact hk))
 |@moved n p nm y a1 a2 a3 a4 a5 =>
  injection er with er
  subst er;exact .inl (fz T U λm e=>put_mem (by rw[e];exact hk))
 |@dropped n f a1 a2 =>
  injection er with er
  subst er
  by_cases hu:(∃m∈t,m.num=k)∧Und t n k
  ·obtain⟨⟨m,hm,e⟩,hu⟩:=hu;refine .inr ⟨⟨n,rfl⟩,hu,⟨m,hm,e⟩,λy hy e2=>?_⟩;obtain⟨hy1,hy2⟩:=mem_filter.mp hy;exact(a2 y hy1).mp hy2 (by rw[e2];exact hu)
  ·refine .inl (fz T U λm e=>?_);rw[mem_filter];constructor
   ·exact λh=>h.1
   ·intro hm;refine⟨hm,(a2 m hm).mpr λz=>hu ⟨⟨m,hm,e⟩,by rw[e]at z;exact z⟩⟩
 |_=>cases er
end
end TW
namespace TW
section
variable{S:Type}
theorem pV{t:List (Nd S)}{k:Int}{m:Nd S}(h:de t k=some m):m∈t∧m.num=k:=by
 unfold de at h;have h1:=find?_some h;have h2:=List.mem_of_find?_eq_some h;exact⟨h2,by simpa using h1⟩
end
end TW
namespace L2
open PySem PySem.Spec PyProof.Rows
end L2
namespace TK
open PySem L2
instance decNd:DecidableEq (TW.Nd Str):=λa b=>Classical.propDecidable _
end TK
namespace L2
open PySem PySem.Spec PyProof.Rows
section
variable{X:Cx}
theorem vN(hu:X.A.units+1<cLine):OpR X (compareOp .Eq) (λx y H Q=>∃a b xs ys,x=.ref a∧y=.ref b∧H a=some (.tup xs)∧H b=some (.tup ys)∧(∀v∈xs,gO v=true)∧(∀v∈ys,gO v=true)∧Q (.bl (decide (xs=ys))) H):=by
 intro pins s σ H x y v u Q I rx ry h;obtain⟨a,b,xs,ys,rfl,rfl,ha,hb,fx,fy,q⟩:=h;have hu0:X.A.units<cLine:=by omega
 cases rx;cases ry;obtain⟨_,us,r1,t1⟩:=I.hok a _ ha;obtain⟨_,ws,r2,t2⟩:=I.hok b _ hb;have l1:=r1.length;have l2:=r2.length;refine SeqAt.eq_tupleAt (e:=λi=>decide (xs.getD i .non=ys.getD i .non)) t1 t2 hu0 (λj h1 h2=>?_) ⟨.bl _,H,I,rfl,?_⟩
 ·have h1':j<xs.length:=by rw[l1];simpa using h1
  have h2':j<ys.length:=by rw[l2];simpa using h2
  obtain⟨u',hu1,hu2⟩:=r1.get (getElem?_eq_getElem h1');obtain⟨v',hv1,hv2⟩:=r2.get (getElem?_eq_getElem h2');have e1:us.toArray[j]=u':=by
   have:us[j]?=some us.toArray[j]:=by rw[getElem?_eq_getElem (by simpa using h1)];simp
   rw[hu1]at this;exact(Option.some.inj this).symm
  have e2:ws.toArray[j]=v':=by
   have:ws[j]?=some ws.toArray[j]:=by rw[getElem?_eq_getElem (by simpa using h2)];simp
   rw[hv1]at this;exact(Option.some.inj this).symm
  rw[e1,e2,getD_eq_getElem?_getD,getD_eq_getElem?_getD,getElem?_eq_getElem h1',getElem?_eq_getElem h2'];have f1:=fx _ (getElem_mem h1');have f2:=fy _ (getElem_mem h2');show EqAt _ _ _ _ (decide (xs[j]=ys[j]));rw[←lQ f1 f2];exact iO hu2 hv2 (eP f1) (eP f2)
 ·have e:((List.range (min us.toArray.size ws.toArray.size)).all (λi=>decide (xs.getD i .non=ys.getD i .non))&&us.toArray.size==ws.toArray.size)=decide (xs=ys):=by
   simp only[size_toArray,←l1,←l2]
   by_cases hl:xs.length=ys.length
   ·rw[←hl,Nat.min_self,rh hl];simp
   ·have:(xs.length==ys.length)=false:=by simpa using hl
    rw[this,Bool.and_false];exact(decide_eq_false λe=>hl (by rw[e])).symm
  rw[e];exact q
theorem lR:∀{xs:List Str}{us:List Value},aL (xs.map V.str) us→∃ts:List Tok,us=(xs.zip ts).map (λz=>Value.str z.1 z.2)∧ts.length=xs.length
 |[],_,.nil=>⟨[],rfl,rfl⟩
 |x::xs,_,.cons ⟨t,e⟩ r=>by
  obtain⟨ts,e1,e2⟩:=lR r;subst e;exact⟨t::ts,by rw[e1];rfl,by rw[length_cons,e2,length_cons]⟩
theorem pW:MtM X "list.count" (λx vs H Q=>∃l,∃xs:List Str,∃y,x=.ref l∧vs=[.str y]∧H l=some (.lst (xs.map V.str))∧Q (.int (xs.count y:Nat)) H):=by
 intro pins s σ H x vs v us Q I rx rv h;obtain⟨l,xs,y,rfl,rfl,hl,q⟩:=h;cases rx;obtain⟨u,rfl,ru⟩:=gs rv;obtain⟨t,rfl⟩:=ru;obtain⟨_,its,n,r,ho⟩:=I.hok l _ hl;obtain⟨ts,e,hts⟩:=lR r
 let eq:Value→Bool:=λz=>match z with | .str a _=>decide (a=y) | _=>false
 refine call_meets PySem.F.slot_list_count ⟨_,ho,rfl⟩ PySem.F.entry_list_count (PySem.F.args_list_count_2 _ _) (SeqAt.list_countAt l _ n none #[] (.str y t) eq) ⟨ho,λz hz=>?_,⟨.int (xs.count y:Nat),H,I.tok _,?_,q⟩⟩
 ·have hz':z∈its:=by simpa using hz
  rw[e]at hz';obtain⟨p,_,rfl⟩:=mem_map.mp hz';show EqAt _ _ (.str p.1 p.2) (.str y t) (decide (p.1=y));intro prog w E Q h;exact wpAny_eqBool_str h
 ·have:(its.toArray.toList.countP eq)=xs.count y:=by
   have key:∀(xs:List Str)(ts:List Tok),ts.length=xs.length→(((xs.zip ts).map λz=>Value.str z.1 z.2).countP eq)=xs.count y:=by
    intro xs
    induction xs with
    |nil=>intro ts _;simp
    |cons a xs ih =>
     intro ts hl;cases ts with
     |nil=>simp at hl
     |cons t ts =>
      have:=ih ts (by simpa using hl);rw[List.zip_cons_cons,map_cons,List.countP_cons,this,List.count_cons]
      congr 1
   rw[e];exact key xs ts hts
  rw[this];exact⟨_,rfl⟩
theorem nG(hu:X.A.units<cLine):OpR X (compareOp .NotEq) (λx y H Q=>∃a b xs,x=.ref a∧y=.ref b∧SqL X.K H a xs∧SqL X.K H b []∧Q (.bl (!decide (xs=[]))) H):=by
 intro pins s σ H x y v u Q I rx ry h;obtain⟨a,b,xs,rfl,rfl,ha,hb,q⟩:=h;cases rx;cases ry;obtain⟨its,r1,ht,_⟩:=I.list ha;obtain⟨its2,r2,hb',_⟩:=I.list hb;cases r2
 by_cases e:xs=[]
 ·subst e;cases r1;refine RcNeAt.lists (e:=λ_=>true) ht.isList hb'.isList rfl hu (λj h1 h2=>absurd h2 (by simp)) _ _ _ _ ⟨.bl _,H,I,?_,q⟩;rfl
 ·have e2:its≠[]:=λz=>e (r1.nil_iff.mp z);have e3:its.length≠0:=λz=>e2 (length_eq_zero_iff.mp z);refine RcNeAt.lists_lengths ht.isList hb'.isList (by simp[e3]) hu _ _ _ _ ⟨.bl _,H,I,?_,q⟩;show _=Value.bool _;simp[e]
end
end L2
namespace TW
section
variable{S:Type}
end
end TW
namespace L2
open PySem PySem.Spec PyProof.Rows
end L2
namespace TK
open PySem L2
theorem tD(o:Option Int):db (stV o)=true:=by cases o<;>rfl
theorem nH(H:Hp)(n:Nd)(k:Nat):∀(i:Nat) x y,(vals n)[i]?=some x→(vals n)[i]?=some y→lG H k x y:=λi x y h1 h2=>by
 have e:x=y:=Option.some.inj (h1.symm.trans h2);subst e;refine iY ⟨rfl,?_⟩
 match i,h1 with
 |0,h=>cases h;rfl
 |1,h=>cases h;rfl
 |2,h=>cases h;rfl
 |3,h=>cases h;exact tD _
 |i+4,h=>simp[vals]at h
end TK
namespace L2
open PySem PySem.Spec PyProof.Rows
section
variable{X:Cx}
abbrev Cx.within(X:Cx)(pl:List (Addr×Obj))(xe:Value→Shared→Prop):Cx:={X with pn:=pl,xe:=xe}
theorem Cx.Ok.within(ok:X.Ok)(pl:List (Addr×Obj))(xe:Value→Shared→Prop):(X.within pl xe).Ok:=⟨ok.mod,ok.kind,ok.glob,ok.blt,ok.above,ok.inj,ok.has,ok.cab,ok.hd,ok.frames,ok.stk,ok.exf,ok.bs,ok.bsz,ok.noex,ok.exfs,ok.funs,ok.frf⟩
theorem Cx.Ok.without{pl:List (Addr×Obj)}{xe:Value→Shared→Prop}(ok:(X.within pl xe).Ok):X.Ok:=⟨ok.mod,ok.kind,ok.glob,ok.blt,ok.above,ok.inj,ok.has,ok.cab,ok.hd,ok.frames,ok.stk,ok.exf,ok.bs,ok.bsz,ok.noex,ok.exfs,ok.funs,ok.frf⟩
theorem Inv.within{pins:List (Addr×Obj)}{σ:St}{H:Hp}{s:Shared}(I:Inv X pins σ H s)(xe:Value→Shared→Prop):Inv (X.within (X.pn++pins) xe) [] σ H s :=
 ⟨I.ok.within _ _,I.os,I.bare,I.base,I.loc,I.cell,I.free,I.freeC,λp hp=>I.pin p (by simpa using hp),I.hok,I.len⟩
theorem Inv.without{pins pins':List (Addr×Obj)}{σ:St}{H:Hp}{s:Shared}{xe:Value→Shared→Prop}(I:Inv (X.within (X.pn++pins) xe) pins' σ H s):Inv X pins σ H s :=
 ⟨I.ok.without,I.os,I.bare,I.base,I.loc,I.cell,I.free,I.freeC,λp hp=>I.pin p (mem_append_left _ hp),I.hok,I.len⟩
end
end L2
namespace TW
section
variable{S:Type}
theorem Und.trans{t:List (Nd S)}{a b c:Int}(h1:Und t a b)(h2:Und t b c):Und t a c:=by
 induction h2 with
 |here=>exact h1
 |up hm _ ih=>exact .up hm ih
theorem jj{t:List (Nd S)}(T:Tree1 t){z:Nd S}(hz:z∈t){k:Int}:Und t k z.num↔k=z.num∨Und t k z.par:=by
 constructor
 ·intro h
  by_cases e:z.num=k
  ·exact .inl e.symm
  ·exact .inr (h.inv T hz rfl e)
 ·rintro(rfl|h)
  ·exact .here
  ·exact .up hz h
theorem ri{t:List (Nd S)}(T:Tree1 t){z:Nd S}(hz:z∈t):¬Und t z.num z.par:=λh=>by
 rcases cR T hz with h0|⟨m,hm,hs,e⟩
 ·have:=h.zero T h0;have:=T.pos z hz;omega
 ·rw[←e]at h
  by_cases en:m.num=z.num
  ·have:m=z:=T.inj hm hz en;subst this;exact fg T (.base hm e.symm) rfl
  ·have r:=(dm T (T.pos z hz) hm).mpr ⟨en,h⟩;have:Reach t z.num z:=.step r hs hz e.symm;exact fg T this rfl
def tE(t u:List (Nd S))(k:Int):Prop:=k≠0∧∃m∈t,aF u m.num∧Und t k m.num
def dQ(t u:List (Nd S))(x:Nd S):Prop:=¬tE t u x.num∧(x.par=0∨aF u x.par)
inductive Plc(t:List (Nd S))(n:Nd S):Option (Deed S)→Prop where
 |new:¬aF t n.num→Plc t n (some (.make n.num n.par n.nm n.st))
 |mv {m:Nd S}:m∈t→m.num=n.num→¬(m.par=n.par∧m.nm=n.nm)→Plc t n (some (.move n.num n.par n.nm))
 |no {m:Nd S}:m∈t→m.num=n.num→m.par=n.par→m.nm=n.nm→Plc t n none
inductive Plcs(t:List (Nd S)):List (Nd S)→List (Deed S)→Prop where
 |nil:Plcs t [] []
 |skip {n:Nd S} {u:List (Nd S)} {ds:List (Deed S)}:Plcs t u ds→Plc t n none→Plcs t (u++[n]) ds
 |take {n:Nd S} {u:List (Nd S)} {ds:List (Deed S)} {d:Deed S}:Plcs t u ds→Plc t n (some d)→Plcs t (u++[n]) (ds++[d])
end
end TW
namespace TK
open PySem L2
def fq(ms:List Int):List (Key×V):=ms.map λm=>((Sum.inl m:Key),V.bl true)
theorem jk{ms:List Int}{k:Int}:(aY (fq ms) (Sum.inl k:Key)).isSome=decide (k∈ms):=by
 by_cases h:k∈ms
 ·rw[decide_eq_true h,←cz];rw[any_eq_true];exact⟨_,mem_map.mpr ⟨k,h,rfl⟩,by simp⟩
 ·rw[decide_eq_false h,iD (by
   unfold fq;rw[map_map];intro hm;obtain⟨x,hx,e⟩:=mem_map.mp hm;have:x=k:=by injection e
   exact h (this ▸ hx))]
  rfl
theorem rj{ms:List Int}{k:Int}(h:k∉ms):bG (fq ms) (Sum.inl k:Key) (V.bl true)=fq (ms++[k]):=by
 have hn:aY (fq ms) (Sum.inl k:Key)=none:=by
  have:=jk (ms:=ms) (k:=k);rw[decide_eq_false h]at this;cases hv:aY (fq ms) (Sum.inl k:Key)with
  |none=>rfl
  |some x=>rw[hv]at this;cases this
 rw[li _ hn];unfold fq;rw[map_append];rfl
def inU(us:ZN)(k:Int):Bool:=us.any λy=>decide (y.2.num=k)
theorem cU{us:ZN}{k:Int}:inU us k=true↔TW.aF (nds us) k:=by
 unfold inU;rw[any_eq_true];constructor
 ·rintro⟨y,hy,e⟩;exact⟨y.2,aw hy,of_decide_eq_true e⟩
 ·rintro⟨m,hm,e⟩;obtain⟨y,hy,rfl⟩:=bb hm;exact⟨y,hy,decide_eq_true e⟩
theorem gf.is{H:Hp}{d:Addr}{us:ZN}(h:gf H d us)(hn:((nds us).map (·.num)).Nodup)(k:Int):∃o,cA H d (.int k) o∧o.isSome=inU us k:=by
 cases hb:inU us k with
 |true =>
  obtain⟨m,hm,e⟩:=cU.mp hb;obtain⟨y,hy,rfl⟩:=bb hm;subst e;exact⟨_,h.get hn hy,rfl⟩
 |false =>
  refine⟨none,h.not λy hy e=>?_,rfl⟩;have:inU us k=true:=cU.mpr ⟨y.2,aw hy,e⟩;rw[hb]at this;cases this
section
variable{P:Program}{w:World}{K:PySem.W.Frag}{mg:Str→Option Value}{base:Heap}
def rk:Sp:=λvs H Q _=>∃t d zs us,vs=[.ref t,.ref d]∧Tre H t zs∧gf H d us∧((nds us).map (·.num)).Nodup∧∀e ks H',Same H H'→H' e=some (.dK (fq ks))→(∀k,k∈ks↔TW.tE (nds zs) (nds us) k)→Q (.ref e) H'
theorem jP:FnScope ["now","goal","nodes","needed","staying","at"] ["now","goal"] (ai cK):=fsc
def eD(zs us:ZN):List Int:=(zs.filter λz=>inU us z.2.num).map (·.2.num)
theorem vO{f:Addr}{fd:FuncData}(F:Fun K "nodes_needed" "nodes_needed" cK f fd)(T:Txt mg)(CB:Has P w K mg base 1 "by_number" ["tree"] eR):FnOk P w K mg base CX0 2 f fd ["now","goal"] rk:=by
 obtain⟨fB,fdB,GB,mB,kB,bB⟩:=CB;obtain⟨tt,hT⟩:=T.top;refine F.ok jP (λvs H Q E h=>?_) (λcdv A outer s H vs Q E hr h=>?_)
 ·obtain⟨t,d,zs,us,rfl,_⟩:=h;rfl
 ·obtain⟨t,d,zs,us,rfl,tr,hd,hun,q⟩:=h;have hl:=tr.len;have hnd:=aH tr.tr;refine⟨_,ae (aq (i:=2) jP.nd rfl (Or.inl rfl) (al GB hr rfl mB kB bB .nil aK (aa (pv 0) ah)))
   (ae (aq (i:=3) jP.nd rfl (Or.inl rfl) iS)
   (ae (cH PassesOwn.never rfl (cG (du (N:=["number","goal"]) (cl:=[("goal",s.heap.objs.size+1)]) (k:=1) (js:=[1]) (g:=be 0) rfl
     (LcOk.mk' ["goal"] rfl rfl (by decide +kernel) (by decide +kernel) ?hcl rfl (by decide +kernel)) rfl ?hj (jH (pv 2)) (λs H fp=>aG (i:=0) (show(["number","goal"]:List Str).Nodup by decide +kernel) rfl (Or.inl rfl) (Or.inr rfl))
     (λs H fp=>bQ (dR (aI hr) (pv 0) (pv 1))) (λs H fp=>pv 0))) (aG (i:=4) jP.nd rfl (Or.inl rfl))
    (ae (aq (i:=5) jP.nd rfl (Or.inl rfl) (pv 4))
    (aj (dZ PassesOwn.never (PW.pt (pw_and (am cN (pv 5) (dg (v:=.int 0) rfl hT ⟨_,rfl⟩) (au _)) (pw_and1 (bQ (bZ (aI hr) (pv 5) (pv 3))))))
     (ae (fw (aI hr) (pv 3) (pv 5) dG rfl)
     (aj (aq (i:=5) jP.nd rfl (Or.inl rfl) (av ao (aW (aI hr) (pv 2) (pv 5) (λ_ _=>rfl)) ag (λ_ _=>rfl)))))))))
   (aj (ax (pv 3))))),?_⟩
  case hcl =>
   intro y hy;rcases mem_cons.mp hy with e|hy
   ·rw[e];rfl
   ·cases hy
  case hj =>
   intro i j x h1 h2
   match i,h1,h2 with
   |0,h1,h2 =>
    cases h1;cases h2;exact⟨rfl,Or.inr (Or.inl rfl),(show((ai cK).names.lookup ("goal":Str)≠some NameKind.local)by decide +kernel),by first|exact Or.inl rfl|exact Or.inr rfl⟩
   |i+1,h1,h2=>simp at h1
  refine⟨_,rfl,t,zs,rfl,tr.tup,tr.nod,by omega,hnd,λn H1 s1 nd1=>?_⟩;refine λe he=>?_;have s2:=af (o:=.dK []) he;have ge:upd H1 e (.dK []) e=some (.dK (fq [])):=ac;have nd2:=nd1.same s2;generalize upd H1 e (.dK [])=H2 at s2 ge nd2⊢;obtain⟨o,ho⟩:=nd2;have hd2:=(hd.same s1).same s2;have tr2:=(tr.same s1).same s2;refine⟨_,rfl,n,o,cZ zs,rfl,ho,λp hp=>?_⟩;refine cQ (fr:=[some (.ref d)]) zs (λz=>V.int z.2.num) (by omega) hp (Eq.mp (congrArg (Src _ H2) (show(cZ zs).map (λx=>kV x.1)=zs.map (λz=>V.int z.2.num)by unfold cZ;rw[map_map];rfl)) (cB ho)) rfl (λz=>inU us z.2.num) (λz y _=>y=.int z.2.num) (λ_ _ _ _ h _=>h) (λz H' k mz s3 _ hk=>?_) (λz H' k mz _ s3 _ hk=>?_) (λys H3 s3 hp3 hys=>?_)
  ·obtain⟨ov,g,e1⟩:=(hd2.same s3).is hun z.2.num;refine⟨_,rfl,_,rfl,d,_,rfl,g,_,rfl,?_⟩;rw[e1];exact hk H' (Same.refl _)
  ·exact⟨_,rfl,hk _ H' (Same.refl _) rfl⟩
  ·have ey:ys=(eD zs us).map V.int:=by
    rw[bv (f:=λz:Addr×Nd=>V.int z.2.num) hys (λz y _ h=>h)];unfold eD;rw[map_map];rfl
   subst ey;have keep0:∀b u,b≠e→H2 b=some u→H3 b=some u:=λb u _ h=>s3 _ _ h;have nen:n≠e:=λz=>by rw[z,ge]at ho;cases ho
   have sin:∀m,m∈eD zs us→∃z∈zs,z.2.num=m∧TW.aF (nds us) m:=λm hm=>by
    unfold eD at hm;obtain⟨z,hz,e1⟩:=mem_map.mp hm;obtain⟨h1,h2⟩:=mem_filter.mp hz;exact⟨z,h1,e1,e1 ▸ cU.mp h2⟩
   refine⟨p,rfl,⟨_,SqL.of hp3⟩,eV (xs:=(eD zs us).map V.int) (λi σ H'=>∃x4 x5,∃ks:List Int,σ=[some (.ref t),some (.ref d),some (.ref n),some (.ref e),x4,x5]∧H' e=some (.dK (fq ks))∧ks.Nodup∧(∀k∈ks,k∈zs.map (·.2.num))∧(∀k,k∈ks↔k≠0∧∃x∈(eD zs us).take i,TW.Und (nds zs) k x)∧∀b u,b≠e→H3 b=some u→H' b=some u)
    ⟨_,_,[],rfl,s3 _ _ ge,nodup_nil,(λk h=>nomatch h),λk=>by simp,λ_ _ _ h=>h⟩ (λi σ H' _ h=>?_) (λi x σ H' hx h=>?_) (λσ H' h=>?_)⟩
   ·obtain⟨x4,x5,ks,rfl,_,_,_,_,kp⟩:=h;exact SqL.of (kp _ _ (λz=>by rw[z]at hp;rw[ge]at hp;cases hp) hp3)
   ·obtain⟨x4,x5,ks,rfl,hks,knd,ksub,kiff,kp⟩:=h;rw[getElem?_map]at hx;obtain⟨m,hm,rfl⟩:∃m,(eD zs us)[i]?=some m∧x=V.int m:=by
     cases hg:(eD zs us)[i]? with
     |none=>rw[hg]at hx;cases hx
     |some m=>rw[hg]at hx;exact⟨m,rfl,(Option.some.inj hx).symm⟩
    obtain⟨z0,mz0,ez0,_⟩:=sin m (mem_of_getElem? hm);have et:(eD zs us).take (i+1)=(eD zs us).take i++[m]:=bp hm;have Tz:=tr.tr;obtain⟨q0,hq0⟩:=TW.PathTo.ex Tz (aw mz0);rw[ez0]at hq0;refine⟨_,rfl,?_⟩;dsimp only[be,jp];refine eW (λσ H'=>∃at' q',∃ks:List Int,σ=[some (.ref t),some (.ref d),some (.ref n),some (.ref e),some (.int m),some (.int at')]∧TW.PathTo (nds zs) at' q'∧TW.Und (nds zs) at' m∧H' e=some (.dK (fq ks))∧ks.Nodup∧(∀k∈ks,k∈zs.map (·.2.num))∧(∀k,k∈ks↔k≠0∧((∃x∈(eD zs us).take i,TW.Und (nds zs) k x)∨(TW.Und (nds zs) k m∧¬TW.Und (nds zs) k at')))∧∀b u,b≠e→H3 b=some u→H' b=some u)
     (λσ H'=>match σ with | [_,_,_,_,_,some (.int k)]=>lK (nds zs) k | _=>0) ⟨m,q0,ks,rfl,hq0,.here,hks,knd,ksub,λk=>?_,kp⟩ (λσ H' h=>?_) ?_
    ·rw[kiff];constructor
     ·rintro⟨h1,h2⟩;exact⟨h1,.inl h2⟩
     ·rintro⟨h1,h2|⟨h2,h3⟩⟩
      ·exact⟨h1,h2⟩
      ·exact absurd h2 h3
    ·obtain⟨at',q',ks,rfl,hq',hu,hks,knd,ksub,kiff,kp⟩:=h;have fin:(∀k,k≠0→TW.Und (nds zs) k at'→k∈ks)→∃x4 x5,∃ks':List Int,[some (V.ref t),some (.ref d),some (.ref n),some (.ref e),some (.int m),some (.int at')]=[some (.ref t),some (.ref d),some (.ref n),some (.ref e),x4,x5]∧H' e=some (.dK (fq ks'))∧ks'.Nodup∧(∀k∈ks',k∈zs.map (·.2.num))∧(∀k,k∈ks'↔k≠0∧∃x∈(eD zs us).take (i+1),TW.Und (nds zs) k x)∧∀b u,b≠e→H3 b=some u→H' b=some u:=λhall=>by
      refine⟨_,_,ks,rfl,hks,knd,ksub,λk=>?_,kp⟩;rw[kiff,et];constructor
      ·rintro⟨h1,⟨x,hx,hxu⟩|⟨h2,_⟩⟩
       ·exact⟨h1,x,mem_append_left _ hx,hxu⟩
       ·exact⟨h1,m,mem_append_right _ (mem_singleton.mpr rfl),h2⟩
      ·rintro⟨h1,x,hx,hxu⟩;rcases mem_append.mp hx with hx|hx
       ·exact⟨h1,.inl ⟨x,hx,hxu⟩⟩
       ·have ex:x=m:=mem_singleton.mp hx;subst ex
        by_cases hk:TW.Und (nds zs) k at'
        ·exact(kiff k).mp (hall k h1 hk)
        ·exact⟨h1,.inr ⟨hxu,hk⟩⟩
     refine⟨_,rfl,rfl,_,rfl,?_⟩
     by_cases h0:at'=0
     ·have hne:decide (V.int at'=V.int 0)=true:=by simp[h0]
      rw[hne];exact aD (aD (fin λk hk h=>absurd (h.zero Tz h0) hk))
     ·have hne:decide (V.int at'=V.int 0)=false:=by simp[h0]
      rw[hne];refine aQ ⟨_,rfl,_,rfl,e,_,rfl,cA.k (k:=Sum.inl at') hks,_,rfl,?_⟩;rw[jk]
      by_cases hin:at'∈ks
      ·rw[decide_eq_true hin];refine aD (fin λk hk h=>(kiff k).mpr ⟨hk,?_⟩);rcases ((kiff at').mp hin).2 with⟨x,hx,hxu⟩|⟨_,h2⟩
       ·exact .inl ⟨x,hx,h.trans hxu⟩
       ·exact absurd TW.Und.here h2
      ·rw[decide_eq_false hin];refine aQ ?_;obtain⟨z,hz,e1,q'',e2,hq''⟩:=oG Tz hq' h0;subst e1;have klen:ks.length≤30:=by
        have h1:=Nodup.length_le_of_subset knd (l₂:=zs.map (·.2.num)) (λx hx=>ksub x hx);rw[length_map]at h1;omega
       refine⟨_,rfl,_,rfl,e,_,rfl,ix.k (k:=Sum.inl z.2.num) hks (aC (by unfold fq;rw[length_map];omega)),?_⟩;rw[rj hin];have kp':∀b u,b≠e→H3 b=some u→upd H' e (.dK (fq (ks++[z.2.num]))) b=some u:=λb u hb h=>by rw[ak hb];exact kp b u hb h
       have ho':=kp' _ _ nen (s3 _ _ ho);have hz3:=kp' _ _ (λz'=>by have:=tr2.nod z hz;rw[z',ge]at this;cases this) (s3 _ _ (tr2.nod z hz));have ge':upd H' e (.dK (fq (ks++[z.2.num]))) e=some (.dK (fq (ks++[z.2.num]))):=ac;generalize upd H' e (.dK (fq (ks++[z.2.num])))=H4 at kp' ho' hz3 ge'⊢;refine⟨_,rfl,_,rfl,n,_,rfl,gf.get ⟨o,ho'⟩ hnd hz,z.1,_,_,_,rfl,rfl,SqT.of hz3,at1 z.2,?_⟩;have mz:=aw hz;refine⟨⟨z.2.par,q'',ks++[z.2.num],rfl,hq'',(TW.Und.up mz .here).trans hu,ge',?_,λk hk=>?_,λk=>?_,kp'⟩,?_⟩
       ·rw[nodup_append];exact⟨knd,by simp,λa ha b hb e'=>hin (by rw[←show b=z.2.num by simpa using hb,←e'];exact ha)⟩
       ·rcases mem_append.mp hk with hk|hk
        ·exact ksub k hk
        ·have:k=z.2.num:=mem_singleton.mp hk;rw[this];exact mem_map.mpr ⟨z,hz,rfl⟩
       ·rw[mem_append,kiff,mem_singleton];constructor
        ·rintro(⟨h1,h2|⟨h2,h3⟩⟩|rfl)
         ·exact⟨h1,.inl h2⟩
         ·exact⟨h1,.inr ⟨h2,λh=>h3 (.up mz h)⟩⟩
         ·exact⟨h0,.inr ⟨hu,TW.ri Tz mz⟩⟩
        ·rintro⟨h1,h2|⟨h2,h3⟩⟩
         ·exact .inl ⟨h1,.inl h2⟩
         ·by_cases hk:k=z.2.num
          ·exact .inr hk
          ·refine .inl ⟨h1,.inr ⟨h2,λh=>?_⟩⟩;rcases (TW.jj Tz mz).mp h with h|h
           ·exact hk h
           ·exact h3 h
       ·show lK (nds zs) z.2.par<lK (nds zs) z.2.num;rw[iE Tz hq'',iE Tz hq',e2];simp
    ·rintro σ H1 Q1 Q2 mm ⟨v,e,h2,b,e3,q⟩;refine⟨v,e,h2,b,e3,?_⟩;cases b with
     |false=>exact mm _ _ q
     |true =>
      obtain⟨v1,f1,v2,f2,a',o',e4,g',b',e5,q'⟩:=q;exact⟨v1,f1,v2,f2,a',o',e4,g',b',e5,mm _ _ q'⟩
   ·obtain⟨x4,x5,ks,rfl,hks,_,_,kiff,kp⟩:=h;refine⟨_,rfl,q e ks _ (λb u h=>?_) hks λk=>?_⟩
    ·have h2:=s2 _ _ (s1 _ _ h)
     by_cases hb:b=e
     ·have hn:=s1 _ _ h;rw[hb,he]at hn;cases hn
     ·exact kp _ _ hb (s3 _ _ h2)
    ·rw[kiff,length_map,take_length];constructor
     ·rintro⟨h1,x,hx,hxu⟩;obtain⟨z,hz,e1,hun'⟩:=sin x hx;exact⟨h1,z.2,aw hz,by rw[e1];exact hun',by rw[e1];exact hxu⟩
     ·rintro⟨h1,m,hm,hmu,hu⟩;obtain⟨z,hz,rfl⟩:=bb hm;refine⟨h1,z.2.num,?_,hu⟩;unfold eD;exact mem_map.mpr ⟨z,mem_filter.mpr ⟨hz,cU.mpr hmu⟩,rfl⟩
end
end TK
namespace L2
open PySem PySem.Spec PyProof.Rows
section
variable{X:Cx}{CX:CXT}{k:Nat}{f C:Addr}{fd:FuncData}{ps:List Str}{sp:Sp}{dvs:List V}{ds:List Value}{E:XK}{x m:Str}{p pos apos:Pos}{e o:Expr}{es:List Expr}{ta:TE}{t:TA}
abbrev Cx.hnd(X:Cx)(pl:List (Addr×Obj))(v:Option Value):Cx:={X with pn:=pl,xe:=λ_ _=>False,A:=X.A.mark v,calm:=false}
theorem Inv.hnd{pins:List (Addr×Obj)}{σ:St}{H:Hp}{s:Shared}{v:Option Value}(I:Inv X pins σ H s):Inv (X.hnd (X.pn++pins) v) [] σ H s :=
 ⟨⟨I.ok.mod,I.ok.kind,I.ok.glob,I.ok.blt,I.ok.above,I.ok.inj,I.ok.has,I.ok.cab,λh=>absurd (show false=true from h) (by decide),I.ok.frames,I.ok.stk,I.ok.exf,I.ok.bs,I.ok.bsz,I.ok.noex,I.ok.exfs,I.ok.funs,I.ok.frf⟩,I.os,I.bare,I.base,I.loc,I.cell,I.free,I.freeC,λp hp=>I.pin p (by simpa using hp),I.hok,I.len⟩
theorem Inv.unhnd{pins pins':List (Addr×Obj)}{σ σ0:St}{H H0:Hp}{s s0:Shared}{v:Option Value}(I:Inv (X.hnd (X.pn++pins) v) pins' σ H s)(I0:Inv X pins σ0 H0 s0):Inv X pins σ H s :=
 ⟨I0.ok,I.os,I.bare,I.base,I.loc,I.cell,I.free,I.freeC,λp hp=>I.pin p (mem_append_left _ hp),I.hok,I.len⟩
def uw(D:Ends)(n:Nat)(T:Addr)(K:PySem.W.Frag)(th:TS):XK:=λcl _ H'=>∃C,cl=.ref C∧subIn K (.ref C) (.ref T)=some true∧∀ea (σ':St),σ'.length=n→H' ea=none→th D σ' (upd H' ea (.ext (XI.uq ea C)))
def wZ(n:Nat)(T:Addr)(K:PySem.W.Frag)(tb:XK→TS)(th:TS):TS:=λD σ H=>tb (uw D n T K th) D σ H
theorem tF(Y:TryOk X){x:Str}{T:Addr}{body:List Stmt}{b0:Stmt}{body2:List Stmt}{tb:XK→TS}{th:TS}{px p3 p4:Pos}(he:∀pl xe E,hJ (CX1 X.prog X.w) (X.within pl xe) E→PassesOwn (model X.prog X.w) X.A X.env xe→PSs (X.within pl xe) body (tb E))(hb:∀pl v,PSs (X.hnd pl v) (b0::body2) th)(hg:Gl X x)(hm:X.mg x=some (.ref T))(hT:ktsIn X.K T "BaseException"=true)(hdx:(x==("__debug__":Str))=false:=by decide):
  PS X (.Try body [.ExceptHandler (some (.Name x px)) none (b0::body2) p3] [] [] p4) (wZ X.N.length T X.K tb th):=by
 intro pins s σ H D I h;refine wpAny_Try_except ?_;refine wpAny_mono (he (X.pn++pins) _ (uw D X.N.length T X.K th) ?hp PassesOwn.looking [] s σ H D (I.within _) h) (λf s1 q=>?_) (λev s1 hx=>hx)
 ·intro pins' σ H1 s0 ev s1 I0 hx;obtain⟨ea,C,H',rfl,F,⟨C',eC,hsub,hk⟩⟩:=hx;cases eC;have I1:Inv X pins σ H1 s0:=I0.without;have hk:=hk ea σ I1.len F.new;obtain⟨B,a0,fl,hB,kp,th⟩:=id F.fly;have frm:X.A.frames=some (X.env::X.outer):=by rw[I1.ok.frames,Y.stk]
  have fl':=fl;rw[show(X.within _ _).stack=X.stack from rfl,Y.stk]at fl';refine wpAny_looks_onW frm Y.fr fl' λh4 held4 hs4=>?_;refine wpAny_landsW held4 λh5 fl5 hs5=>?_;have sm5:s1.heap.UpToSlots h5:=hs4.trans hs5;have fl5':FlyingW B X.stack ea (.ref C) a0 h5:=by rw[Y.stk];exact fl5
  have J5:=I1.caught F fl hB kp th fl5' sm5;obtain⟨ob,hob,hobc⟩:=fl5.there;obtain⟨nm,q',N,bs,bm,hdct,sn,sub,ab,col,dd,k0,k1,k2,k3,k5,newId,hTo,hbase,_⟩:=PySem.W.kts_cls J5.kIn hT;obtain⟨hp1,g1,d1,t1,os1⟩:=s1;refine wpAny_handleBy_cons (codeAny_handlers_test ?_) (by intro q;cases q);refine Calls.Name_function_global J5.ok.kind hg (Calls.loadGlobal_global (by rw[J5.ok.glob];exact J5.mod.glob.keeps J5.bk) hm ?_) hdx;refine sK hTo hbase (PySem.W.looks_subIn J5.kIn hsub) hob hobc ?_;refine codeAny_handlers_suite ?_;refine lands_againW (s:=⟨h5,g1,d1,t1,os1⟩) fl5 λh6 fl6 hs6=>?_;have fl6':FlyingW B X.stack ea (.ref C) a0 h6:=by rw[Y.stk];exact fl6
  have J6:=I1.caught F fl hB kp th fl6' (sm5.trans hs6);refine wpAny_mono (hb (X.pn++pins) _ [] _ _ _ _ J6.hnd hk) (λf s3 q=>?_) (λ_ _ z=>z.elim);cases f with
  |next=>obtain⟨σ',H8,I8,q'⟩:=q;exact⟨_,_,I8.unhnd J6,q'⟩
  |brk=>obtain⟨σ',H8,I8,q'⟩:=q;exact⟨_,_,I8.unhnd J6,q'⟩
  |cont=>obtain⟨σ',H8,I8,q'⟩:=q;exact⟨_,_,I8.unhnd J6,q'⟩
  |ret v=>obtain⟨x',σ',H8,I8,r',q'⟩:=q;exact⟨x',_,_,I8.unhnd J6,r',q'⟩
 ·cases f with
  |next=>obtain⟨σ',H',I',q'⟩:=q;exact wpAny_execs_nil ⟨σ',H',I'.without,q'⟩
  |brk=>obtain⟨σ',H',I',q'⟩:=q;exact⟨σ',H',I'.without,q'⟩
  |cont=>obtain⟨σ',H',I',q'⟩:=q;exact⟨σ',H',I'.without,q'⟩
  |ret v=>obtain⟨x',σ',H',I',r',q'⟩:=q;exact⟨x',σ',H',I'.without,r',q'⟩
end
end L2
namespace TK
open PySem L2
def dF(t u:List Nd):Prop:=∀m∈t,∀n∈u,m.num=n.num→(m.st=none↔n.st=none)
def kA{α:Type}(l:List α)(p:α→Prop)(x:α):Prop:=∃a b,l=a++x::b∧(∀y∈a,¬p y)∧p x
theorem kG(o:Option Int):decide (stV o=V.non)=decide (o=none):=by cases o<;>simp[stV]
section
variable{P:Program}{w:World}{K:PySem.W.Frag}{mg:Str→Option Value}{base:Heap}
def rl(CN:Addr):Sp:=λvs H Q E=>∃t u zs us,vs=[.ref t,.ref u]∧Tre H t zs∧Tre H u us∧(∀z∈zs,-1≤z.2.num∧z.2.num≤99)∧(dF (nds zs) (nds us)→∀H',Same H H'→Q .non H')∧(¬dF (nds zs) (nds us)→∀H',Same H H'→E (.ref CN) none H')
theorem oQ:FnScope ["old","new","goal","node","number"] ["old","new"] (ai dU):=fsc
theorem vP{f CN:Addr}{fd:FuncData}(F:Fun K "check_kinds" "check_kinds" dU f fd)(O:lL "NoMatch" mg base CN)(CB:Has P w K mg base 1 "by_number" ["tree"] eR):FnOk P w K mg base (CX1 P w) 2 f fd ["old","new"] (rl CN):=by
 obtain⟨fB,fdB,GB,mB,kB,bB⟩:=CB;refine F.okX oQ (λvs H Q E h=>?_) (λcdv A outer s H vs Q E hr h=>?_)
 ·obtain⟨t,u,zs,us,rfl,_⟩:=h;rfl
 ·obtain⟨t,u,zs,us,rfl,tr,ur,hb,qo,qE⟩:=h;have ul:=ur.len;have und:=aH ur.tr;refine⟨_,ae (aq (i:=2) oQ.nd rfl (Or.inl rfl) (al GB hr rfl mB kB bB .nil aK (aa (pv 1) ah)))
   (aj (cH (vp ca) rfl (cD (pv 0)) (aG (i:=3) oQ.nd rfl (Or.inl rfl))
    (ae (aq (i:=4) oQ.nd rfl (Or.inl rfl) (av ao (pv 3) ag (λ_ _=>rfl)))
    (aj (aR (PW.pt (pw_and (bQ (dR (aI hr) (pv 4) (pv 2))) (pw_and1 (am cN (dH eG (av ao (pv 3) ag (λ_ _=>rfl)) cm (au _)) (dH eG (av ao (aW (aI hr) (pv 2) (pv 4) (λ_ _=>rfl)) ag (λ_ _=>rfl)) cm (au _)) (au _)))))
     (aj (dw ca O hr.hd rfl (eM (cP (c:=100) (by decide +kernel) (sZ (pv 4) (cP (c:=100) (by decide +kernel) fY))) (by decide)))) aA))))),?_⟩
  refine⟨_,rfl,u,us,rfl,ur.tup,ur.nod,by omega,und,λd H1 s1 nd1=>?_⟩;have tr1:=tr.same s1;have ur1:=ur.same s1;refine⟨_,rfl,t,rfl,⟨_,SqT.of tr1.tup⟩,gp (xs:=aO zs) (λi σ H'=>(∃x3 x4,σ=[some (.ref t),some (.ref u),some (.ref d),x3,x4])∧H'=H1∧∀z∈zs.take i,∀n∈nds us,z.2.num=n.num→(z.2.st=none↔n.st=none)) ⟨⟨_,_,rfl⟩,rfl,by simp⟩ (λi σ H' _ h=>by rw[h.2.1];exact SqT.of tr1.tup) (λi x σ H' hx h=>?_) (λσ H' h=>?_)⟩
  ·obtain⟨⟨x3,x4,rfl⟩,rfl,hi⟩:=h;obtain⟨z,gz,rfl⟩:=cr hx;have mz:=mem_of_getElem? gz;have az:SqT K H' z.1 (vals z.2):=SqT.of (tr1.nod z mz);have et:zs.take (i+1)=zs.take i++[z]:=bp gz;have step:(∀n∈nds us,z.2.num=n.num→(z.2.st=none↔n.st=none))→∀y∈zs.take (i+1),∀n∈nds us,y.2.num=n.num→(y.2.st=none↔n.st=none):=λh y hy=>by
    rw[et]at hy;rcases mem_append.mp hy with hy|hy
    ·exact hi y hy
    ·have e:y=z:=mem_singleton.mp hy;subst e;exact h
   refine⟨_,rfl,z.1,_,_,_,rfl,rfl,az,at0 z.2,?_⟩;obtain⟨ov,g,e1⟩:=nd1.is und z.2.num;refine⟨_,rfl,_,rfl,d,_,rfl,g,_,rfl,?_⟩;rw[e1];cases hb':inU us z.2.num with
   |false =>
    refine aD (aD ⟨⟨_,_,rfl⟩,rfl,step λn hn e=>?_⟩);have:inU us z.2.num=true:=cU.mpr ⟨n,hn,e.symm⟩;rw[hb']at this;cases this
   |true =>
    obtain⟨n,hn,en⟩:=cU.mp hb';obtain⟨y,hy,rfl⟩:=bb hn;have gy:=nd1.get und hy;rw[en]at gy;refine aQ ⟨_,rfl,z.1,_,_,_,rfl,rfl,az,at3 z.2,rfl,_,rfl,_,rfl,d,_,rfl,gy,y.1,_,_,_,rfl,rfl,SqT.of (ur1.nod y hy),at3 y.2,rfl,rfl,_,rfl,?_⟩;rw[kG,kG]
    by_cases hk:(z.2.st=none↔y.2.st=none)
    ·have:decide (V.bl (decide (z.2.st=none))=V.bl (decide (y.2.st=none)))=true:=by
      rw[decide_eq_true_iff]
      congr 1
      exact decide_eq_decide.mpr hk
     rw[this];refine aD ⟨⟨_,_,rfl⟩,rfl,step λn hn e=>?_⟩;have:n=y.2:=ur.tr.inj hn (aw hy) (e.symm.trans en.symm);subst this;exact hk
    ·have:decide (V.bl (decide (z.2.st=none))=V.bl (decide (y.2.st=none)))=false:=by
      rw[decide_eq_false_iff_not];intro h;injection h with h
      exact hk (decide_eq_decide.mp h)
     rw[this];refine aQ ⟨_,rfl,_,rfl,(hb z mz).1,(hb z mz).2,λy'=>⟨ap (show 1≤1000 by decide),qE (λh=>hk (h _ (aw mz) _ (aw hy) en.symm)) H' s1⟩⟩
  ·obtain⟨⟨x3,x4,rfl⟩,rfl,hi⟩:=h;refine qo (λm hm n hn e=>?_) _ s1;obtain⟨z,hz,rfl⟩:=bb hm;exact hi z (by rw[bo,take_length];exact hz) n hn e
def rn:Sp:=λvs H Q _=>∃t d zs us,vs=[.ref t,.ref d]∧Tre H t zs∧gf H d us∧((nds us).map (·.num)).Nodup ∧
 (∀x,kA (nds zs) (TW.dQ (nds zs) (nds us)) x→∀r H',Same H H'→H' r=some (.tup (aT (.drop x.num)))→Q (.ref r) H')∧((∀x∈nds zs,¬TW.dQ (nds zs) (nds us) x)→∀H',Same H H'→Q .non H')
theorem ro:FnScope ["now","goal","needed","node"] ["now","goal"] (ai fk):=fsc
theorem vQ{f:Addr}{fd:FuncData}(F:Fun K "next_drop" "next_drop" fk f fd)(T:Txt mg)(CN:Has P w K mg base 2 "nodes_needed" ["now","goal"] rk):FnOk P w K mg base CX0 3 f fd ["now","goal"] rn:=by
 obtain⟨fN,fdN,GN,mN,kN,bN⟩:=CN;obtain⟨tt,hT⟩:=T.top;refine F.ok ro (λvs H Q E h=>?_) (λcdv A outer s H vs Q E hr h=>?_)
 ·obtain⟨t,d,zs,us,rfl,_⟩:=h;rfl
 ·obtain⟨t,d,zs,us,rfl,tr,hd,hun,q1,q2⟩:=h;refine⟨_,ae (aq (i:=2) ro.nd rfl (Or.inl rfl) (al GN hr rfl mN kN bN .nil aK (aa (pv 0) (aa (pv 1) ah))))
   (ae (cH PassesOwn.never rfl (cD (pv 0)) (aG (i:=3) ro.nd rfl (Or.inl rfl))
    (aj (aR (PW.pt (pw_and (bQ (bZ (aI hr) (av ao (pv 3) ag (λ_ _=>rfl)) (pv 2))) (pw_and1 (PW.pt (pw_or (am cy (av ao (pv 3) ag (λ_ _=>rfl)) (dg (v:=.int 0) rfl hT ⟨_,rfl⟩) (au _)) (pw_or1 (bQ (dR (aI hr) (av ao (pv 3) ag (λ_ _=>rfl)) (pv 1)))))))))
     (aj (ax (bn (aa aJ (aa (av ao (pv 3) ag (λ_ _=>rfl)) ah))))) aA)))
   (aj (ax cm))),?_⟩
  refine⟨_,rfl,_,rfl,t,d,zs,us,rfl,tr,hd,hun,λe ks H1 s1 he hk=>?_⟩;have tr1:=tr.same s1;have hd1:=hd.same s1;refine⟨_,rfl,t,rfl,⟨_,SqT.of tr1.tup⟩,gp (xs:=aO zs) (λi σ H'=>(∃x3,σ=[some (.ref t),some (.ref d),some (.ref e),x3])∧H'=H1∧∀x∈(nds zs).take i,¬TW.dQ (nds zs) (nds us) x) ⟨⟨_,rfl⟩,rfl,by simp⟩ (λi σ H' _ h=>by rw[h.2.1];exact SqT.of tr1.tup) (λi x σ H' hx h=>?_) (λσ H' h=>?_)⟩
  ·obtain⟨⟨x3,rfl⟩,rfl,hi⟩:=h;obtain⟨z,gz,rfl⟩:=cr hx;have mz:=mem_of_getElem? gz;have az:SqT K H' z.1 (vals z.2):=SqT.of (tr1.nod z mz);have gz':(nds zs)[i]?=some z.2:=by unfold nds;rw[getElem?_map,gz];rfl
   have et:(nds zs).take (i+1)=(nds zs).take i++[z.2]:=bp gz';have step:¬TW.dQ (nds zs) (nds us) z.2→∀y∈(nds zs).take (i+1),¬TW.dQ (nds zs) (nds us) y:=λh y hy=>by
    rw[et]at hy;rcases mem_append.mp hy with hy|hy
    ·exact hi y hy
    ·have e':y=z.2:=mem_singleton.mp hy;rw[e'];exact h
   have won:TW.dQ (nds zs) (nds us) z.2→kA (nds zs) (TW.dQ (nds zs) (nds us)) z.2:=λh=>by
    refine⟨(nds zs).take i,(nds zs).drop (i+1),?_,hi,h⟩;have:=take_append_drop (i+1) (nds zs);rw[et,append_assoc]at this;exact this.symm
   refine⟨_,rfl,z.1,_,_,_,rfl,rfl,az,at0 z.2,_,rfl,e,_,rfl,cA.k (k:=Sum.inl z.2.num) he,_,rfl,?_⟩;rw[jk]
   by_cases hin:z.2.num∈ks
   ·rw[decide_eq_true hin];exact aD (aD ⟨⟨_,rfl⟩,rfl,step λh=>h.1 ((hk _).mp hin)⟩)
   ·rw[decide_eq_false hin];have hnn:¬TW.tE (nds zs) (nds us) z.2.num:=λh=>hin ((hk _).mpr h);refine aQ ⟨_,rfl,z.1,_,_,_,rfl,rfl,az,at1 z.2,rfl,_,rfl,?_⟩
    by_cases hp:z.2.par=0
    ·rw[show decide (V.int z.2.par=V.int 0)=true by simp[hp]];refine aQ (aQ ⟨_,rfl,z.1,_,_,_,rfl,rfl,az,at0 z.2,le2,λr hr'=>?_⟩);exact q1 z.2 (won ⟨hnn,.inl hp⟩) r _ (s1.trans (af hr')) ac
    ·rw[show decide (V.int z.2.par=V.int 0)=false by simp[hp]];obtain⟨ov,g,e1⟩:=hd1.is hun z.2.par;refine aD ⟨_,rfl,z.1,_,_,_,rfl,rfl,az,at1 z.2,_,rfl,d,_,rfl,g,_,rfl,?_⟩;rw[e1];cases hb':inU us z.2.par with
     |true =>
      refine aQ ⟨_,rfl,z.1,_,_,_,rfl,rfl,az,at0 z.2,le2,λr hr'=>?_⟩;exact q1 z.2 (won ⟨hnn,.inr (cU.mp hb')⟩) r _ (s1.trans (af hr')) ac
     |false =>
      refine aD ⟨⟨_,rfl⟩,rfl,step λh=>?_⟩;rcases h.2 with h|h
      ·exact hp h
      ·rw[cU.mpr h]at hb';cases hb'
  ·obtain⟨⟨x3,rfl⟩,rfl,hi⟩:=h;refine q2 (λx hx=>hi x ?_) _ s1;rw[bo,show zs.length=(nds zs).length by unfold nds;rw[length_map],take_length];exact hx
structure TreR(mg:Str→Option Value)(K:PySem.W.Frag)(cls:TW.Wd→Addr)(D:Addr):Prop where
 tre:mg "TreeError"=some (.ref D)
 base:ktsIn K D "BaseException"=true
 sub:∀wd,subIn K (.ref (cls wd)) (.ref D)=some true
def rp:Sp:=λvs H Q _=>∃t d zs dd,vs=[.ref t,.ref d]∧Tre H t zs∧zs.length≤29∧H d=some (.tup (aT dd))∧ci dd∧(∀us,TW.Told (nds zs) dd (.inr us)→∀H',Same H H'→Q (.bl false) H')∧∀wd,TW.Told (nds zs) dd (.inl wd)→∀H',Same H H'→Q (.bl true) H'
theorem xa:FnScope ["tree","deed"] ["tree","deed"] (ai eN):=fsc
theorem vR{f D:Addr}{fd:FuncData}{cls:TW.Wd→Addr}(F:Fun K "is_refused" "is_refused" eN f fd)(L:TreR mg K cls D)(CD:da P w K mg base 4 "done" ["tree","deed"] (gk cls)):FnOk P w K mg base CX0 5 f fd ["tree","deed"] rp:=by
 obtain⟨fD,fdD,GD,mD,kD,bD⟩:=CD;refine F.ok xa (λvs H Q E h=>?_) (λcdv A outer s H vs Q E hr h=>?_)
 ·obtain⟨t,d,zs,dd,rfl,_⟩:=h;rfl
 ·obtain⟨t,d,zs,dd,rfl,tr,hz,hd,hok,q1,q2⟩:=h;refine⟨_,ae (tF (T:=D) ⟨λ_ _ h=>h,rfl,rfl⟩ (λpl xe E hx _=>aj (bX (al GD hr rfl mD kD bD .nil hx (aa (pv 0) (aa (pv 1) ah))))) (λpl v=>aj (ax dG)) rfl L.tre L.base) (aj (ax dG)),?_⟩;refine⟨_,rfl,_,rfl,t,d,dd,zs,rfl,tr,hz,hd,hok,⟨λus t' H1 s1 ht' hA told=>?_,λwd H1 s1 told=>⟨_,rfl,L.sub wd,λea σ' hσ hea=>?_⟩⟩⟩
  ·exact q1 _ told H1 s1
  ·exact q2 wd told _ (s1.trans (af hea))
end
abbrev ZD:=List (Addr×TW.Deed Str)
abbrev aX(ds:ZD):List V:=ds.map λx=>V.ref x.1
def il(H:Hp)(ds:ZD):Prop:=∀x∈ds,H x.1=some (.tup (aT x.2))
theorem il.same{H H':Hp}{ds:ZD}(h:il H ds)(s:Same H H'):il H' ds:=λx hx=>s _ _ (h x hx)
theorem lS{t:List Nd}:∀{u:List Nd}{ds:List (TW.Deed Str)},TW.Plcs t u ds→ds.length≤u.length:=λh=>by
 induction h with
 |nil=>exact le_refl _
 |skip _ _ ih=>rw[length_append];omega
 |take _ _ ih=>rw[length_append,length_append];simp;omega
section
variable{P:Program}{w:World}{K:PySem.W.Frag}{mg:Str→Option Value}{base:Heap}
def rq:Sp:=λvs H Q _=>∃t u zs us,vs=[.ref t,.ref u]∧Tre H t zs∧Tre H u us∧∀l ds H',Same H H'→H' l=some (.lst (aX ds))→il H' ds→TW.Plcs (nds zs) (nds us) (ds.map (·.2))→Q (.ref l) H'
theorem lT:FnScope ["now","new","nodes","deeds","node","number"] ["now","new"] (ai gg):=fsc
theorem vS{f:Addr}{fd:FuncData}(F:Fun K "placings" "placings" gg f fd)(CB:Has P w K mg base 1 "by_number" ["tree"] eR):FnOk P w K mg base CX0 2 f fd ["now","new"] rq:=by
 obtain⟨fB,fdB,GB,mB,kB,bB⟩:=CB;refine F.ok lT (λvs H Q E h=>?_) (λcdv A outer s H vs Q E hr h=>?_)
 ·obtain⟨t,u,zs,us,rfl,_⟩:=h;rfl
 ·obtain⟨t,u,zs,us,rfl,tr,ur,q⟩:=h;have hl:=tr.len;have ul:=ur.len;have hnd:=aH tr.tr;refine⟨_,ae (aq (i:=2) lT.nd rfl (Or.inl rfl) (al GB hr rfl mB kB bB .nil aK (aa (pv 0) ah)))
   (ae (aq (i:=3) lT.nd rfl (Or.inl rfl) (ba ah))
   (ae (cH PassesOwn.never rfl (cD (pv 1)) (aG (i:=4) lT.nd rfl (Or.inl rfl))
    (ae (aq (i:=5) lT.nd rfl (Or.inl rfl) (av ao (pv 4) ag (λ_ _=>rfl)))
    (aj (aR (bQ (bZ (aI hr) (pv 5) (pv 2)))
     (aj (bX (eY plainAttrs_list PySem.F.slot_list_append PySem.F.type_list_append bz (pv 3) (aa (aE dJ (bn (aa aJ ah)) (pv 4)) ah))))
     (aj (aR (am (vM (aI hr)) (cj cY (aW (aI hr) (pv 2) (pv 5) (λ_ _=>rfl)) (bA ag) (bA ag)) (cj cY (pv 4) (bA ag) (bA ag)) (au _))
      (aj (bX (eY plainAttrs_list PySem.F.slot_list_append PySem.F.type_list_append bz (pv 3) (aa (aE dJ (bn (aa aJ ah)) (cj cY (pv 4) eI (bA ag))) ah)))) aA))))))
   (aj (ax (pv 3))))),?_⟩
  refine⟨_,rfl,t,zs,rfl,tr.tup,tr.nod,by omega,hnd,λn H1 s1 nd1=>⟨zero_le _,λl hl0=>?_⟩⟩;have s2:=af (o:=.lst []) hl0;have gl:upd H1 l (.lst []) l=some (.lst (aX [])):=ac;have tr1:=tr.same s1;have ur1:=ur.same s1;refine⟨_,rfl,u,rfl,⟨_,SqT.of (s2 _ _ ur1.tup)⟩,gp (xs:=aO us) (λi σ H'=>∃x4 x5,∃ds:ZD,σ=[some (.ref t),some (.ref u),some (.ref n),some (.ref l),x4,x5]∧Same H1 H'∧H' l=some (.lst (aX ds))∧il H' ds∧(∀x∈ds,x.1≠l)∧TW.Plcs (nds zs) ((nds us).take i) (ds.map (·.2)))
   ⟨_,_,[],rfl,s2,gl,(λx h=>nomatch h),(λx h=>nomatch h),by rw[List.take_zero];exact .nil⟩ (λi σ H' _ h=>?_) (λi x σ H' hx h=>?_) (λσ H' h=>?_)⟩
  ·obtain⟨x4,x5,ds,rfl,s3,_⟩:=h;exact SqT.of (s3 _ _ ur1.tup)
  ·obtain⟨x4,x5,ds,rfl,s3,hL,hD,hne,hP⟩:=h;obtain⟨y,gy,rfl⟩:=cr hx;have my:=mem_of_getElem? gy;have gy':(nds us)[i]?=some y.2:=by unfold nds;rw[getElem?_map,gy];rfl
   have et:(nds us).take (i+1)=(nds us).take i++[y.2]:=bp gy';have ay:=s3 _ _ (ur1.nod y my);have hdl:ds.length≤30:=by
    have h1:=lS hP;rw[length_map,length_take]at h1;have h2:(nds us).length=us.length:=by unfold nds;rw[length_map]
    omega
   have put:∀(H3:Hp)(d:TW.Deed Str)(c:Addr),Same H' H3→H3 c=some (.tup (aT d))→TW.Plc (nds zs) y.2 (some d)→∃x4 x5,∃ds':ZD,[some (V.ref t),some (.ref u),some (.ref n),some (.ref l),some (.ref y.1),some (.int y.2.num)]=[some (.ref t),some (.ref u),some (.ref n),some (.ref l),x4,x5]∧Same H1 (upd H3 l (.lst (aX ds++[.ref c])))∧(upd H3 l (.lst (aX ds++[.ref c]))) l=some (.lst (aX ds'))∧il (upd H3 l (.lst (aX ds++[.ref c]))) ds'∧(∀x∈ds',x.1≠l)∧TW.Plcs (nds zs) ((nds us).take (i+1)) (ds'.map (·.2)):=λH3 d c s4 hc hp=>by
    have hcl:c≠l:=λz=>by rw[z,s4 _ _ hL]at hc;cases hc
    refine⟨_,_,ds++[(c,d)],rfl,λb o e=>?_,by rw[ac];unfold aX;rw[map_append];rfl,λx hx=>?_,λx hx=>?_,by rw[et,map_append];exact .take hP hp⟩
    ·rw[ak (λz=>by rw[z,hl0]at e;cases e)];exact s4 _ _ (s3 _ _ e)
    ·rcases mem_append.mp hx with hx|hx
     ·rw[ak (hne x hx)];exact s4 _ _ (hD x hx)
     ·have:x=(c,d):=mem_singleton.mp hx;rw[this,ak hcl];exact hc
    ·rcases mem_append.mp hx with hx|hx
     ·exact hne x hx
     ·have:x=(c,d):=mem_singleton.mp hx;rw[this];exact hcl
   refine⟨_,rfl,y.1,_,_,_,rfl,rfl,SqT.of ay,at0 y.2,?_⟩;obtain⟨ov,g,e1⟩:=(nd1.same s3).is hnd y.2.num;refine⟨_,rfl,_,rfl,n,_,rfl,g,_,rfl,?_⟩;rw[e1];cases hb':inU zs y.2.num with
   |false =>
    have hnew:¬TW.aF (nds zs) y.2.num:=λh=>by rw[cU.mpr h]at hb';cases hb'
    refine aQ ⟨_,rfl,.inl ⟨rfl,_,SqL.of hL⟩,(show 1≤sizeLine from ap (by decide)),λc1 h1=>?_⟩;have s4:=af (o:=.tup [.str "make"]) h1;refine⟨_,rfl,c1,y.1,_,_,rfl,rfl,SqT.of ac,SqT.of (s4 _ _ ay),by simp,(show 5≤sizeLine from ap (by decide)),λh=>absurd h (by unfold vals;simp),λ_ c hc=>?_⟩;have s5:=s4.trans (af (o:=.tup (aT (.make y.2.num y.2.par y.2.nm y.2.st))) hc);refine⟨l,_,_,rfl,rfl,s5 _ _ hL,aC (by unfold aX;rw[length_map];omega),?_⟩;exact put _ (.make y.2.num y.2.par y.2.nm y.2.st) c s5 ac (.new hnew)
   |true =>
    obtain⟨m,hm,em⟩:=cU.mp hb';obtain⟨z,hz,rfl⟩:=bb hm;have gz:=(nd1.same s3).get hnd hz;rw[em]at gz;have az:=s3 _ _ (tr1.nod z hz);have ecut:∀n:Nd,eJ (vals n) (some 1) (some 3)=[.int n.par,.str n.nm]:=λn=>rfl;have e3:∀n:Nd,eJ (vals n) none (some 3)=[.int n.num,.int n.par,.str n.nm]:=λn=>rfl;refine aD ⟨_,rfl,_,rfl,n,_,rfl,gz,_,rfl,_,rfl,z.1,_,rfl,SqT.of az,(by intro h;exact absurd h.1 (show ¬HT.sIx 4 0 (some 1)=0 by decide)),λc1 h1=>?_⟩;rw[ecut];have s4:=af (o:=.tup [.int z.2.par,.str z.2.nm]) h1;have k1:upd H' c1 (.tup [.int z.2.par,.str z.2.nm]) c1=some (.tup [.int z.2.par,.str z.2.nm]):=ac;generalize upd H' c1 (.tup [.int z.2.par,.str z.2.nm])=H4 at s4 k1⊢;refine⟨_,rfl,_,rfl,_,rfl,y.1,_,rfl,SqT.of (s4 _ _ ay),(by intro h;exact absurd h.1 (show ¬HT.sIx 4 0 (some 1)=0 by decide)),λc2 h2=>?_⟩;rw[ecut];have s5:=s4.trans (af (o:=.tup [.int y.2.par,.str y.2.nm]) h2);have k2:upd H4 c2 (.tup [.int y.2.par,.str y.2.nm]) c2=some (.tup [.int y.2.par,.str y.2.nm]):=ac;have k1':=bu (o:=.tup [.int y.2.par,.str y.2.nm]) h2 k1;generalize upd H4 c2 (.tup [.int y.2.par,.str y.2.nm])=H5 at s5 k1' k2⊢;have f2:∀(a:Int)(b:Str),∀v∈[V.int a,.str b],gO v=true:=λa b v hv=>by
     rcases mem_cons.mp hv with e|hv
     ·rw[e];rfl
     ·rw[mem_singleton.mp hv];rfl
    refine⟨some [.int z.2.par,.str z.2.nm],some [.int y.2.par,.str y.2.nm],.inr ⟨c1,_,rfl,k1',rfl,f2 _ _⟩,.inr ⟨c2,_,rfl,k2,rfl,f2 _ _⟩,_,rfl,?_⟩
    by_cases hsame:z.2.par=y.2.par∧z.2.nm=y.2.nm
    ·rw[show decide ((some [V.int z.2.par,.str z.2.nm]:Option (List V))=some [.int y.2.par,.str y.2.nm])=true by rw[decide_eq_true_iff,hsame.1,hsame.2]];refine aD ⟨_,_,ds,rfl,s3.trans s5,s5 _ _ hL,hD.same s5,hne,?_⟩;rw[et];exact .skip hP (.no (aw hz) em hsame.1 hsame.2)
    ·rw[show decide ((some [V.int z.2.par,.str z.2.nm]:Option (List V))=some [.int y.2.par,.str y.2.nm])=false by
      rw[decide_eq_false_iff_not];intro h;injection h with h
      injection h with h1 h2
      injection h1 with h1
      injection h2 with h2
      injection h2 with h2
      exact hsame ⟨h1,h2⟩]
     refine aQ ⟨_,rfl,.inl ⟨rfl,_,SqL.of (s5 _ _ hL)⟩,(show 1≤sizeLine from ap (by decide)),λc3 h3=>?_⟩;have s6:=s5.trans (af (o:=.tup [.str "move"]) h3);have k3:upd H5 c3 (.tup [.str "move"]) c3=some (.tup [.str "move"]):=ac;generalize upd H5 c3 (.tup [.str "move"])=H6 at s6 k3⊢;refine⟨_,rfl,_,rfl,y.1,_,rfl,SqT.of (s6 _ _ ay),(by intro h;exact absurd h.2 (show ¬HT.sIx 4 4 (some 3)=4 by decide)),λc4 h4=>?_⟩;rw[e3];have s7:=s6.trans (af (o:=.tup [.int y.2.num,.int y.2.par,.str y.2.nm]) h4);refine⟨c3,c4,_,_,rfl,rfl,SqT.of (bu h4 k3),SqT.of ac,by simp,(show 4≤sizeLine from ap (by decide)),λh=>absurd h (by simp),λ_ c hc=>?_⟩;have s8:=s7.trans (af (o:=.tup (aT (.move y.2.num y.2.par y.2.nm))) hc);refine⟨l,_,_,rfl,rfl,s8 _ _ hL,aC (by unfold aX;rw[length_map];omega),?_⟩;exact put _ (.move y.2.num y.2.par y.2.nm) c s8 ac (.mv (aw hz) em hsame)
  ·obtain⟨x4,x5,ds,rfl,s3,hL,hD,_,hP⟩:=h;refine⟨_,rfl,q l ds _ (s1.trans s3) hL hD ?_⟩
   rwa [bo,show us.length=(nds us).length by unfold nds;rw[length_map],take_length]at hP
end
end TK
namespace TK
open PySem
def A26:Str:="abcdefghijklmnopqrstuvwxyz"
def ltr(i:Nat):Str:=⟨#[A26.cps.toList.getD i 0]⟩
def gP:Nat→Nat→Str
 |0,_=>""
 |_+1,0=>""
 |f+1,n+1=>gP f (n / 26)++ltr (n % 26)
def bT(n:Nat):Str:=gP 3 n
theorem nI(f:Nat):gP f 0="":=by cases f<;>rfl
theorem gQ:A26.length=26:=by decide +kernel
theorem tG{i:Nat}(h:i<26):A26.cps.toList[i]?=some (A26.cps.toList.getD i 0):=by
 have:i<A26.cps.toList.length:=by
  have e:A26.cps.toList.length=26:=by decide +kernel
  rw[e];exact h
 rw[getD_eq_getElem?_getD,getElem?_eq_getElem this];rfl
theorem jQ:∀(f n:Nat),(gP f n).length≤f
 |0,_=>by show("":Str).length≤0;decide +kernel
 |f+1,0=>by
  show("":Str).length≤f+1;have:("":Str).length=0:=by decide +kernel
  omega
 |f+1,n+1=>by
  have h1:=jQ f (n / 26);have h2:(gP f (n / 26)++ltr (n % 26)).length=(gP f (n / 26)).length+(ltr (n % 26)).length:=strLen_append ..;have h3:(ltr (n % 26)).length=1:=rfl;show(gP f (n / 26)++ltr (n % 26)).length≤f+1;omega
theorem pX:∀j,j<70→(bT j).length≤3:=λj _=>jQ 3 j
end TK
namespace L2
open PySem PySem.Spec PyProof.Rows
section
variable{X:Cx}
def bi(zs:List (Addr×Key×V)):List (Key×V):=zs.foldl (λm z=>bG m z.2.1 z.2.2) []
theorem nJ{α:Type}[DecidableEq α](m:List (α×Value))(k:α)(v:Value):(stored m k v).length≤m.length+1:=by
 unfold stored
 split
 ·rw[length_map];omega
 ·rw[length_append];exact le_refl _
theorem dW{β:Type}(k:β→Key)(v:β→Value):∀(l:List β)(m:List (Key×Value)),(l.foldl (λm z=>stored m (k z) (v z)) m).length≤m.length+l.length
 |[],m=>le_refl _
 |a::l,m=>by
  rw[foldl_cons];have h1:=dW k v l (stored m (k a) (v a));have h2:=nJ m (k a) (v a);rw[length_cons];omega
theorem jR{f:Addr×Key×V→Value×Value}:∀{ys:List (Addr×Key×V)}{m:List (Key×V)}{n:List (Key×Value)},KV m n→(∀z∈ys,aN z.2.2 (f z).2)→KV (ys.foldl (λm z=>bG m z.2.1 z.2.2) m) (ys.foldl (λm z=>stored m z.2.1 (f z).2) n)
 |[],m,n,r,_=>r
 |z::ys,m,n,r,h=>by
  rw[foldl_cons,foldl_cons];exact jR (r.put z.2.1 (h z mem_cons_self)) λy hy=>h y (mem_cons_of_mem _ hy)
theorem jl(hc:X.calm=true):dt X (.type "dict") (λxs H Q=>∃l,∃zs:List (Addr×Key×V),xs=[.ref l]∧H l=some (.lst ((zs.map (·.1)).map V.ref))∧(∀z∈zs,H z.1=some (.tup [kV z.2.1,z.2.2]))∧zs.length≤900∧∀d,H d=none→Q (.ref d) (upd H d (.dK (bi zs)))):=by
 intro pins s σ H xs us Q I r h;obtain⟨l,zs,rfl,hl,hk,hz,q⟩:=h;obtain⟨u,rfl,ru⟩:=gs r;cases ru;obtain⟨_,its,nl,rv,ho⟩:=I.hok l _ hl;have e:=dk rv;subst e;obtain⟨f,hf⟩:=lD I (λz=>kV z.2.1) hk;have hsz:(((zs.map (·.1)).map Value.ref).toArray).size=zs.length:=by simp
 refine DL.fc (s:=s) (I.ok.hd hc) ho (λi=>(zs.getD i (0,.inl 0,.non)).1) (λi=>(f (zs.getD i (0,.inl 0,.non))).1) (λi=>(f (zs.getD i (0,.inl 0,.non))).2) (λi v hv=>jF hv) (λi hi=>?_)
  (λi h'=>h'.DictOf (aU X.prog X.w) s.heap.objs.size ((zs.take i).foldl (λm z=>stored m z.2.1 (f z).2) [])) (λh' hg _=>?_) (λi g g' hd hk=>?_) (λi s' E Q hi hd hq=>?_) λh' tk hd hkeep=>?_
 ·rw[hsz]at hi;exact(hf _ (dy hi).1).2.2
 ·exact⟨_,#[],0,hg,⟨rfl,rfl,rfl⟩,rfl,λ_ he=>by simp at he,Pairs.nil,nodup_nil⟩
 ·obtain⟨o,es,ep,ho,r⟩:=hd;exact⟨o,es,ep,hk _ o (le_refl _) ho,r⟩
 ·rw[hsz]at hi;obtain⟨hm,hg⟩:=dy (d:=((0,.inl 0,.non):Addr×Key×V)) hi;have hb:=dW (λz:Addr×Key×V=>z.2.1) (λz=>(f z).2) (zs.take i) [];rw[length_take,length_nil]at hb;have hle:((zs.take i).foldl (λm z=>stored m z.2.1 (f z).2) ([]:List (Key×Value))).length≤900:=by omega
  refine wpAny_dictSet_pairs (hsz:=by have:=aC (n:=901) (by decide);omega) (k:=(zs.getD i (0,.inl 0,.non)).2.1) (fb (hf _ hm).1) hd λh' hd' hs=>hq h' _ (le_succ _) hs ?_;rw[bp hg,List.foldl_append];exact hd'
 ·rw[hsz,take_length]at hd;have hrel:KV (bi zs) (zs.foldl (λm z=>stored m z.2.1 (f z).2) []):=jR .nil λz hz=>(hf z hz).2.1;have hb:=dW (λz:Addr×Key×V=>z.2.1) (λz=>(f z).2) zs [];rw[length_nil]at hb;have hlen:(bi zs).length≤900:=le_trans (le_of_eq (Paired.length hrel)) (le_trans hb (by omega));exact⟨.ref s.heap.objs.size,_,I.laid (t':=tk) (o:=.dK (bi zs)) hkeep (le_refl _) (iR (le_of_lt (aC (by omega))) (beq_eq_false_iff_ne.mpr (symm (ne_of_lt I.big))) hrel hd),rfl,q _ (I.hok.fresh (le_refl _))⟩
end
end L2
namespace TK
open PySem L2
theorem tH(x:Str):x++("":Str)=x:=by
 apply ext';show x.cps ++ #[]=x.cps;simp
theorem tI(x:Str):("":Str)++x=x:=by
 apply ext';show #[]++x.cps=x.cps;simp
section
variable{P:Program}{w:World}{K:PySem.W.Frag}{mg:Str→Option Value}{base:Heap}
def rs:Sp:=λvs H Q _=>∃n:Nat,vs=[.int n]∧n<70∧Q (.str (bT n)) H
theorem lU:FnScope ["count","name","rest"] ["count"] (ai ig):=fsc
theorem vT{f:Addr}{fd:FuncData}(F:Fun K "name_at" "name_at" ig f fd)(T:Txt mg):FnOk P w K mg base CX0 1 f fd ["count"] rs:=by
 obtain⟨tl,hL⟩:=T.letters;refine F.ok lU (λvs H Q E h=>?_) (λcdv A outer s H vs Q E hr h=>?_)
 ·obtain⟨n,rfl,_⟩:=h;rfl
 ·obtain⟨n,rfl,hn,q⟩:=h;refine⟨_,ae (aq (i:=1) lU.nd rfl (Or.inl rfl) aJ) (ae (aq (i:=2) lU.nd rfl (Or.inl rfl) (pv 0))
   (ae (dZ PassesOwn.never (am og (pv 2) ag (au _))
    (ae (aq (i:=1) lU.nd rfl (Or.inl rfl) (aE mQ (av uW (dg (v:=.str A26) rfl hL ⟨_,rfl⟩) (aE iL (aE qp (pv 2) ag) (br gw rfl T.len boot_len (aa (dg (v:=.str A26) rfl hL ⟨_,rfl⟩) ah))) (λ_ _=>rfl)) (pv 1)))
    (aj (aq (i:=2) lU.nd rfl (Or.inl rfl) (aE kd (aE qp (pv 2) ag) (br gw rfl T.len boot_len (aa (dg (v:=.str A26) rfl hL ⟨_,rfl⟩) ah)))))))
   (aj (ax (pv 1))))),?_⟩
  refine⟨_,rfl,?_⟩;dsimp only[be,jp];refine eW (λσ H'=>∃(f r:Nat) (x:Str),σ=[some (.int n),some (.str x),some (.int r)]∧bT n=gP f r++x∧r<26 ^ f∧f≤3∧x.length≤3-f∧H'=H)
   (λσ H'=>match σ with | [_,_,some (.int k)]=>k.toNat | _=>0) ⟨3,n,"",rfl,?_,by show n<17576;omega,le_refl _,by decide +kernel,rfl⟩ (λσ H' h=>?_) ?_
  ·exact(tH _).symm
  ·obtain⟨f,r,x,rfl,e,hr',hf,hx,rfl⟩:=h;refine⟨_,rfl,_,_,rfl,rfl,_,rfl,?_⟩;cases r with
   |zero =>
    rw[show decide ((0:Int)<((0:Nat):Int))=false by decide];refine aD ⟨_,rfl,?_⟩;rw[nI]at e;have:bT n=x:=by rw[e];exact tI _
    rw[←this];exact q
   |succ m =>
    rw[show decide ((0:Int)<((m+1:Nat):Int))=true by rw[decide_eq_true_iff];omega];obtain⟨f',rfl⟩:∃f',f=f'+1:=by
     cases f with
     |zero=>rw[Nat.pow_zero]at hr';omega
     |succ f'=>exact⟨f',rfl⟩
    have ls:A26.length≤sizeLine:=by rw[gQ];exact ap (by decide)
    have e1:(((m+1:Nat):Int)-1) % (A26.length:Int)=((m % 26:Nat):Int):=by rw[gQ];omega
    have e2:(((m+1:Nat):Int)-1) / (A26.length:Int)=((m / 26:Nat):Int):=by rw[gQ];omega
    have p0:(0:Int)<(A26.length:Int):=by rw[gQ];decide
    refine aQ ⟨_,rfl,_,_,rfl,rfl,_,rfl,ls,_,_,rfl,rfl,p0,A26,((m % 26:Nat):Int),_,rfl,congrArg V.int e1,ls,dL (tG (Nat.mod_lt _ (by decide))),_,rfl,_,_,rfl,rfl,?_,?_⟩
    ·have h1:(⟨#[A26.cps.toList.getD (m % 26) 0]⟩:Str).length=1:=rfl;rw[h1];exact ap (by omega)
    refine⟨_,rfl,_,_,rfl,rfl,_,rfl,ls,_,_,rfl,rfl,⟨p0,by rw[gQ];decide⟩,?_⟩;show be 2 (V.int ((((m+1:Nat):Int)-1) / (A26.length:Int))) _ _ _;rw[e2];refine⟨⟨f',m / 26,_,rfl,?_,?_,by omega,?_,rfl⟩,?_⟩
    ·rw[e];show gP f' (m / 26)++ltr (m % 26)++x=_;rw[Str.append_assoc];rfl
    ·rw[Nat.pow_succ]at hr';omega
    ·have h1:((⟨#[A26.cps.toList.getD (m % 26) 0]⟩:Str)++x).length=(⟨#[A26.cps.toList.getD (m % 26) 0]⟩:Str).length+x.length:=strLen_append ..;have h2:(⟨#[A26.cps.toList.getD (m % 26) 0]⟩:Str).length=1:=rfl;omega
    ·show(((m / 26:Nat):Int)).toNat<(((m+1:Nat):Int)).toNat;omega
  ·rintro σ H1 Q1 Q2 m ⟨v,e,i,j,e1,e2,b,e3,q⟩;exact⟨v,e,i,j,e1,e2,b,e3,m _ _ q⟩
end
def bx(u:List Nd)(k:Int):Option Int:=((u.find? λy=>decide (y.num=k)).map λy=>y.st).getD none
theorem fA{u:List Nd}(hn:(u.map (·.num)).Nodup){y:Nd}(hy:y∈u):bx u y.num=y.st:=by
 unfold bx
 induction u with
 |nil=>cases hy
 |cons x r ih =>
  rw[map_cons,nodup_cons]at hn;rw[find?_cons]
  by_cases e:x.num=y.num
  ·rw[decide_eq_true e];rcases mem_cons.mp hy with h|h
   ·rw[h];rfl
   ·exact absurd (mem_map.mpr ⟨y,h,e.symm⟩) hn.1
  ·rw[decide_eq_false e];rcases mem_cons.mp hy with h|h
   ·rw[h]at e;exact absurd rfl e
   ·exact ih hn.2 h
def cM(t u:List Nd):List (TW.Deed Str):=(t.filter λn=>!decide (n.st=bx u n.num)).map λn=>.write n.num ((bx u n.num).getD 0)
theorem rA{a b:Option Int}:decide (stV a=stV b)=decide (a=b):=by
 cases a<;>cases b<;>simp[stV]
theorem tJ(a b:Option Int):uS (stV a) (stV b)=true:=by cases a<;>cases b<;>rfl
section
variable{P:Program}{w:World}{K:PySem.W.Frag}{mg:Str→Option Value}{base:Heap}
def rB:Sp:=λvs H Q _=>∃t u zs us,vs=[.ref t,.ref u]∧Tre H t zs∧Tre H u us∧(∀n∈nds zs,TW.aF (nds us) n.num)∧dF (nds zs) (nds us)∧∀l ds H',Same H H'→H' l=some (.lst (aX ds))→il H' ds→ds.map (·.2)=cM (nds zs) (nds us)→Q (.ref l) H'
theorem ux:FnScope ["now","new","goal"] ["now","new"] (ai gM):=fsc
theorem vU{f:Addr}{fd:FuncData}(F:Fun K "writes" "writes" gM f fd)(CB:Has P w K mg base 1 "by_number" ["tree"] eR):FnOk P w K mg base CX0 2 f fd ["now","new"] rB:=by
 obtain⟨fB,fdB,GB,mB,kB,bB⟩:=CB;refine F.ok ux (λvs H Q E h=>?_) (λcdv A outer s H vs Q E hr h=>?_)
 ·obtain⟨t,u,zs,us,rfl,_⟩:=h;rfl
 ·obtain⟨t,u,zs,us,rfl,tr,ur,hin,sk,q⟩:=h;have hl:=tr.len;have ul:=ur.len;have und:=aH ur.tr;refine⟨_,ae (aq (i:=2) ux.nd rfl (Or.inr rfl) (al GB hr rfl mB kB bB .nil aK (aa (pv 1) ah)))
   (aj (ax (du (N:=["node","goal"]) (cl:=[("goal",s.heap.objs.size+1)]) (k:=1) (js:=[2]) (g:=be 0) rfl
     (LcOk.mk' ["goal"] rfl rfl (by decide +kernel) (by decide +kernel) ?hcl rfl (by decide +kernel)) rfl ?hj (cD (pv 0)) (λs H fp=>aG (i:=0) (show(["node","goal"]:List Str).Nodup by decide +kernel) rfl (Or.inl rfl) (Or.inr rfl))
     (λs H fp=>am cN (av (r:=cw K) ao (pv 0) ag (λ_ _=>rfl)) (av (r:=cw K) ao (aW (aI hr) (pv 1) (av (r:=cw K) ao (pv 0) ag (λ_ _=>rfl)) (λ_ _=>rfl)) ag (λ_ _=>rfl)) (au _))
     (λs H fp=>bn (aa aJ (aa (av (r:=cw K) ao (pv 0) ag (λ_ _=>rfl)) (aa (av (r:=cw K) ao (aW (aI hr) (pv 1) (av (r:=cw K) ao (pv 0) ag (λ_ _=>rfl)) (λ_ _=>rfl)) ag (λ_ _=>rfl)) ah))))))),?_⟩
  case hcl =>
   intro y hy;rcases mem_cons.mp hy with e|hy
   ·rw[e];rfl
   ·cases hy
  case hj =>
   intro i j x h1 h2
   match i,h1,h2 with
   |0,h1,h2 =>
    cases h1;cases h2;exact⟨rfl,Or.inr (Or.inl rfl),(show((ai gM).names.lookup ("goal":Str)≠some NameKind.local)by decide +kernel),by first|exact Or.inl rfl|exact Or.inr rfl⟩
   |i+1,h1,h2=>simp at h1
  refine⟨_,rfl,u,us,rfl,ur.tup,ur.nod,by omega,und,λd H1 s1 nd1=>?_⟩;have tr1:=tr.same s1;have ur1:=ur.same s1;have goal:∀z∈zs,∃y∈us,y.2.num=z.2.num∧bx (nds us) z.2.num=y.2.st:=λz hz=>by
   obtain⟨m,hm,e⟩:=hin z.2 (aw hz);obtain⟨y,hy,rfl⟩:=bb hm;exact⟨y,hy,e,by rw[←e];exact fA und hm⟩
  refine⟨_,rfl,t,rfl,⟨_,SqT.of tr1.tup⟩,λp hp=>?_⟩;refine cQ (fr:=[some (.ref d)]) zs (λz=>V.ref z.1) (by omega) hp (dN (by rw[cc];exact SqT.of tr1.tup)) rfl (λz=>!decide (z.2.st=bx (nds us) z.2.num)) (λz y H'=>∃q,y=.ref q∧q≠p∧H' q=some (.tup (aT (.write z.2.num ((bx (nds us) z.2.num).getD 0))))) (λz y H H' ⟨q,e,ne,h⟩ ex=>⟨q,e,ne,ex q _ ne h⟩) (λz H' k mz s2 _ hk=>?_) (λz H' k mz hg s2 hpl hk=>?_) (λys H2 s2 hp2 hys=>?_)
  ·obtain⟨y,hy,ey,es⟩:=goal z mz;have az:SqT K H' z.1 (vals z.2):=SqT.of (s2 _ _ (tr1.nod z mz));have gy:=(nd1.same s2).get und hy;rw[ey]at gy;refine⟨_,rfl,z.1,_,_,_,rfl,rfl,az,at3 z.2,_,rfl,_,rfl,z.1,_,_,_,rfl,rfl,az,at0 z.2,d,_,rfl,gy,y.1,_,_,_,rfl,rfl,SqT.of (s2 _ _ (ur1.nod y hy)),at3 y.2,tJ _ _,_,rfl,?_⟩;rw[rA,←es];exact hk H' (Same.refl _)
  ·obtain⟨y,hy,ey,es⟩:=goal z mz;have az:SqT K H' z.1 (vals z.2):=SqT.of (s2 _ _ (tr1.nod z mz));have gy:=(nd1.same s2).get und hy;rw[ey]at gy;refine⟨_,rfl,z.1,_,_,_,rfl,rfl,az,at0 z.2,_,rfl,_,rfl,z.1,_,_,_,rfl,rfl,az,at0 z.2,d,_,rfl,gy,y.1,_,_,_,rfl,rfl,SqT.of (s2 _ _ (ur1.nod y hy)),at3 y.2,(show 3≤sizeLine from ap (by decide)),λq hq=>?_⟩;refine hk _ _ (af hq) ⟨q,rfl,dz hpl hq,?_⟩;rw[ac];have:stV y.2.st=.int ((bx (nds us) z.2.num).getD 0):=by
    rw[es];cases hs:y.2.st with
    |some i=>rfl
    |none =>
     exfalso
     have h1:=(sk _ (aw mz) _ (aw hy) ey.symm).mpr hs;rw[es,hs,h1]at hg;cases hg
   rw[this];rfl
  ·obtain⟨bs,e1,e2,e3⟩:=cF (val:=V.ref) (S:=λ(z:Addr×Nd) (q:Addr)=>H2 q=some (.tup (aT (.write z.2.num ((bx (nds us) z.2.num).getD 0))))) hys (λz y _ ⟨q,e,_,h⟩=>⟨q,e,h⟩);refine q p (bs.map λx=>(x.2,.write x.1.2.num ((bx (nds us) x.1.2.num).getD 0))) H2 (s1.trans s2) ?_ (λx hx=>?_) ?_
   ·rw[hp2,e2];unfold aX;rw[map_map];rfl
   ·obtain⟨y,hy,rfl⟩:=mem_map.mp hx;exact e3 y hy
   ·unfold cM nds;rw[map_map,filter_map,map_map];have:zs.filter ((λn:Nd=>!decide (n.st=bx (us.map (·.2)) n.num))∘λx:Addr×Nd=>x.2)=bs.map (·.1):=e1.symm;rw[this,map_map];rfl
end
theorem jS(ws:List (Addr×Key×V))(k:Key):∀m:List (Key×V),((ws.foldl (λm z=>bG m z.2.1 z.2.2) m).any λkv=>decide (kv.1=k))=((m.any λkv=>decide (kv.1=k))||ws.any λz=>decide (z.2.1=k)):=by
 induction ws with
 |nil=>intro m;simp
 |cons z r ih =>
  intro m;rw[foldl_cons,ih,any_cons];have:((bG m z.2.1 z.2.2).any λkv=>decide (kv.1=k))=((m.any λkv=>decide (kv.1=k))||decide (z.2.1=k)):=by
   rw[cz,ee,cz]
   by_cases e:k=z.2.1
   ·rw[if_pos e,decide_eq_true e.symm];simp
   ·rw[if_neg e,decide_eq_false (λh=>e h.symm)];simp
  rw[this,Bool.or_assoc]
def nK(t u:List Nd)(x:Str):Prop:=∃n,(n∈t∨n∈u)∧n.par=0∧n.nm=x
structure FreeN(t u:List Nd)(c:Nat):Prop where
 one:1≤c
 lt:c<70
 no:¬nK t u (bT c)
 all:∀j,1≤j→j<c→nK t u (bT j)
theorem oR{t u:List Nd}(hl:t.length+u.length≤60){c:Nat}(h:∀j,1≤j→j<c→nK t u (bT j)):c≤62:=by
 refine Classical.byContradiction λhc=>?_;have sub:∀x∈(List.range 61).map (λj=>bT (j+1)),x∈(t++u).map (·.nm):=λx hx=>by
  obtain⟨j,hj,rfl⟩:=mem_map.mp hx;rw[mem_range]at hj;obtain⟨n,hn,_,e⟩:=h (j+1) (by omega) (by omega);exact mem_map.mpr ⟨n,mem_append.mpr hn,e⟩
 have nd:((List.range 61).map (λj=>bT (j+1))).Nodup:=by decide +kernel
 have:=Nodup.length_le_of_subset nd sub;rw[length_map,length_range,length_map,length_append]at this;omega
def uy(K:PySem.W.Frag):R2:=λx y H Q=>(∃a b ys,x=.ref a∧y=.ref b∧SqT K H a []∧SqT K H b ys∧Q (.ref b) H)∨oo K x y H Q
theorem tK{X:Cx}:OpR X (binaryOp .Add) (uy X.K):=lA.or dJ
theorem pY{K:PySem.W.Frag}{H:Hp}{t u:Addr}{zs us:ZN}(ht:H t=some (.tup (aO zs)))(hu:H u=some (.tup (aO us)))(hl:zs.length+us.length≤1000){G:VK}(h:∀c H1,Same H H1→H1 c=some (.tup (aO (zs++us)))→G (.ref c) H1):uy K (.ref t) (.ref u) H G:=by
 have er:aO (zs++us)=aO zs++aO us:=by unfold aO;rw[map_append,map_append]
 cases zs with
 |nil=>exact .inl ⟨t,u,_,rfl,rfl,SqT.of ht,SqT.of hu,h u H (Same.refl _) hu⟩
 |cons z r =>
  refine .inr ⟨t,u,_,_,rfl,rfl,SqT.of ht,SqT.of hu,by unfold aO;simp,by rw[bo,bo];exact ap hl,λe=>h t H (Same.refl _) ?_,λ_ p hp=>h p _ (af hp) ?_⟩
  ·rw[er,e,append_nil];exact ht
  ·rw[er];exact ac
section
variable{P:Program}{w:World}{K:PySem.W.Frag}{mg:Str→Option Value}{base:Heap}
def rC:Sp:=λvs H Q _=>∃t u zs us,vs=[.ref t,.ref u]∧Tre H t zs∧Tre H u us∧∀c H',Same H H'→FreeN (nds zs) (nds us) c→Q (.str (bT c)) H'
theorem oS:FnScope ["now","new","taken","count"] ["now","new"] (ai fm):=fsc
theorem vV{f:Addr}{fd:FuncData}(F:Fun K "free_name" "free_name" fm f fd)(T:Txt mg)(CN:Has P w K mg base 1 "name_at" ["count"] rs):FnOk P w K mg base CX0 2 f fd ["now","new"] rC:=by
 obtain⟨fN,fdN,GN,mN,kN,bN⟩:=CN;obtain⟨tt,hT⟩:=T.top;refine F.ok oS (λvs H Q E h=>?_) (λcdv A outer s H vs Q E hr h=>?_)
 ·obtain⟨t,u,zs,us,rfl,_⟩:=h;rfl
 ·obtain⟨t,u,zs,us,rfl,tr,ur,q⟩:=h;have hl:=tr.len;have ul:=ur.len;refine⟨_,ae (aq (i:=2) oS.nd rfl (Or.inl rfl) (bh (jl rfl) rfl T.dict boot_dict (aa (du (N:=["node"]) (cl:=[]) (k:=1) (js:=[]) (g:=be 0) rfl (dS rfl (by decide +kernel) (by decide +kernel) (by decide +kernel)) rfl (λi j x h=>by simp at h)
    (cD (aE tK (pv 0) (pv 1))) (λs H fp=>aG (i:=0) (show(["node"]:List Str).Nodup by decide +kernel) rfl (Or.inl rfl) (Or.inr rfl))
    (λs H fp=>am cy (av (r:=cw K) ao (pv 0) ag (λ_ _=>rfl)) (dg (v:=.int 0) rfl hT ⟨_,rfl⟩) (au _)) (λs H fp=>bn (aa (av (r:=cw K) ao (pv 0) ag (λ_ _=>rfl)) (aa dG ah)))) ah)))
   (ae (aq (i:=3) oS.nd rfl (Or.inl rfl) ag)
   (ae (dZ PassesOwn.never (bQ (dR (aI hr) (al GN hr rfl mN kN bN .nil aK (aa (pv 3) ah)) (pv 2))) (aj (uO (i:=3) oS.nd rfl (Or.inl rfl) ag so)))
   (aj (ax (al GN hr rfl mN kN bN .nil aK (aa (pv 3) ah)))))),?_⟩
  have hA:At H (zs++us):=λz hz=>by
   rcases mem_append.mp hz with h|h
   ·exact tr.nod z h
   ·exact ur.nod z h
  have hlen:(zs++us).length≤60:=by rw[length_append];omega
  refine⟨_,rfl,_,rfl,pY (K:=K) tr.tup ur.tup (by rw[length_append]at hlen;omega) λc H1 s1 hc=>?_⟩;refine⟨c,rfl,⟨_,SqT.of hc⟩,λp hp=>?_⟩;refine cQ (fr:=[]) (zs++us) (λz=>V.ref z.1) (by omega) hp (dN (by rw[cc];exact SqT.of hc)) rfl (λz=>decide (z.2.par=0)) (λz y H'=>∃q,y=.ref q∧q≠p∧H' q=some (.tup [.str z.2.nm,.bl true])) (λz y H H' ⟨q,e,ne,h⟩ ex=>⟨q,e,ne,ex q _ ne h⟩) (λz H' k mz s2 _ hk=>?_) (λz H' k mz hg s2 hpl hk=>?_) (λys H2 s2 hp2 hys=>?_)
  ·have az:SqT K H' z.1 (vals z.2):=SqT.of (s2 _ _ (s1 _ _ (hA z mz)));refine⟨_,rfl,z.1,_,_,_,rfl,rfl,az,at1 z.2,rfl,_,rfl,?_⟩;rw[show decide (V.int z.2.par=V.int 0)=decide (z.2.par=0)by rw[ke];rfl];exact hk H' (Same.refl _)
  ·have az:SqT K H' z.1 (vals z.2):=SqT.of (s2 _ _ (s1 _ _ (hA z mz)));exact⟨_,rfl,z.1,_,_,_,rfl,rfl,az,at2 z.2,le2,λq hq=>hk _ _ (af hq) ⟨q,rfl,dz hpl hq,ac⟩⟩
  ·obtain⟨bs,e1,e2,e3⟩:=cF (val:=V.ref) (S:=λ(z:Addr×Nd) (q:Addr)=>H2 q=some (.tup [.str z.2.nm,.bl true])) hys (λz y _ ⟨q,e,_,h⟩=>⟨q,e,h⟩);have hbl:bs.length≤60:=by
    have h1:=congrArg length e1;rw[length_map]at h1;have h2:=length_filter_le (λz:Addr×Nd=>decide (z.2.par=0)) (zs++us);omega
   let ws:List (Addr×Key×V):=bs.map λx=>(x.2,(Sum.inr x.1.2.nm:Key),V.bl true)
   refine⟨p,ws,rfl,by rw[hp2,e2];show _=some (HO.lst (((bs.map λx=>(x.2,(Sum.inr x.1.2.nm:Key),V.bl true)).map (·.1)).map V.ref));rw[map_map,map_map];rfl,λz hz=>?_,by show(bs.map _).length≤900;rw[length_map];omega,λd hd=>?_⟩
   ·obtain⟨x,hx,rfl⟩:=mem_map.mp hz;exact e3 x hx
   have s3:=(s1.trans s2).trans (af (o:=.dK (bi ws)) hd);have gd:upd H2 d (.dK (bi ws)) d=some (.dK (bi ws)):=ac;generalize upd H2 d (.dK (bi ws))=H3 at s3 gd⊢;have isT:∀x:Str,(aY (bi ws) (Sum.inr x:Key)).isSome=true↔nK (nds zs) (nds us) x:=λx=>by
    rw[←cz];unfold bi;rw[jS,any_nil,Bool.false_or,any_eq_true];constructor
    ·rintro⟨z,hz,e⟩;obtain⟨y,hy,rfl⟩:=mem_map.mp hz;have hm:y.1∈(zs++us).filter (λz=>decide (z.2.par=0)):=by rw[←e1];exact mem_map.mpr ⟨y,hy,rfl⟩
     obtain⟨h1,h2⟩:=mem_filter.mp hm;have ex:y.1.2.nm=x:=by have:=of_decide_eq_true e;injection this
     refine⟨y.1.2,?_,of_decide_eq_true h2,ex⟩;rcases mem_append.mp h1 with h|h
     ·exact .inl (aw h)
     ·exact .inr (aw h)
    ·rintro⟨n,hn,h0,e⟩;obtain⟨z,hz,rfl⟩:∃z∈zs++us,z.2=n:=by
      rcases hn with hn|hn
      ·obtain⟨z,hz,e⟩:=bb hn;exact⟨z,mem_append_left _ hz,e⟩
      ·obtain⟨z,hz,e⟩:=bb hn;exact⟨z,mem_append_right _ hz,e⟩
     have hm:z∈bs.map (·.1):=by rw[e1];exact mem_filter.mpr ⟨hz,decide_eq_true h0⟩
     obtain⟨y,hy,rfl⟩:=mem_map.mp hm;exact⟨_,mem_map.mpr ⟨y,hy,rfl⟩,decide_eq_true (by rw[e])⟩
   have hll:(nds zs).length+(nds us).length≤60:=by unfold nds;rw[length_map,length_map];omega
   dsimp only[be,jp];refine eW (λσ H'=>∃c:Nat,σ=[some (.ref t),some (.ref u),some (.ref d),some (.int c)]∧1≤c∧(∀j,1≤j→j<c→nK (nds zs) (nds us) (bT j))∧H'=H3)
    (λσ H'=>match σ with | [_,_,_,some (.int k)]=>70-k.toNat | _=>0) ⟨1,rfl,le_refl _,(λj h1 h2=>absurd h2 (by omega)),rfl⟩ (λσ H' h=>?_) ?_
   ·obtain⟨c,rfl,hc1,hall,rfl⟩:=h;have hc:=oR hll hall;refine⟨_,rfl,c,rfl,by omega,_,rfl,d,_,rfl,cA.k (k:=Sum.inr (bT c)) gd,_,rfl,?_⟩
    by_cases ht:nK (nds zs) (nds us) (bT c)
    ·rw[(isT _).mpr ht];refine aQ ⟨_,rfl,_,_,rfl,rfl,?_⟩;have hall':∀j,1≤j→j<c+1→nK (nds zs) (nds us) (bT j):=λj h1 h2=>by
      by_cases e:j=c
      ·rw[e];exact ht
      ·exact hall j h1 (by omega)
     refine⟨⟨c+1,by show[_,_,_,some (V.int ((c:Int)+1))]=_;rfl,by omega,hall',rfl⟩,?_⟩;have:=oR hll hall';show 70-((c:Int)+1).toNat<70-((c:Int)).toNat;omega
    ·have:(aY (bi ws) (Sum.inr (bT c):Key)).isSome=false:=by
      cases h:(aY (bi ws) (Sum.inr (bT c):Key)).isSome with
      |false=>rfl
      |true=>exact absurd ((isT _).mp h) ht
     rw[this];exact aD ⟨_,rfl,c,rfl,by omega,q c _ s3 ⟨hc1,by omega,ht,hall⟩⟩
   ·rintro σ H1 Q1 Q2 m ⟨v,e,n,e1,e2,v2,e3,a,o,e4,g,b,e5,q⟩;exact⟨v,e,n,e1,e2,v2,e3,a,o,e4,g,b,e5,m _ _ q⟩
end
def ft:TW.Deed Str→Bool
 |.move _ _ _=>true
 |_=>false
def bc:TW.Deed Str→Int
 |.make n _ _ _=>n
 |.write n _=>n
 |.move n _ _=>n
 |.drop n=>n
theorem rD(d:TW.Deed Str):∃x:Str,(aT d)[0]?=some (.str x)∧decide (x="move")=ft d:=by
 cases d
 ·exact⟨_,rfl,(show decide (("make":Str)="move")=false by decide +kernel)⟩
 ·exact⟨_,rfl,(show decide (("write":Str)="move")=false by decide +kernel)⟩
 ·exact⟨_,rfl,(show decide (("move":Str)="move")=true by decide +kernel)⟩
 ·exact⟨_,rfl,(show decide (("drop":Str)="move")=false by decide +kernel)⟩
theorem nL(d:TW.Deed Str):(aT d)[1]?=some (.int (bc d)):=by cases d<;>rfl
def cW(ds:List (TW.Deed Str))(k:Int):Prop:=∃d∈ds,ft d=true∧bc d=k
def Okd(t:List Nd)(d:TW.Deed Str):Prop:=∃v,TW.Told t d (.inr v)
inductive Nxt(t u:List Nd)(ds:List (TW.Deed Str)):Option (TW.Deed Str)→Prop where
 |drop {x:Nd}:kA t (TW.dQ t u) x→Nxt t u ds (some (.drop x.num))
 |place {ps:List (TW.Deed Str)} {d:TW.Deed Str}:(∀x∈t,¬TW.dQ t u x)→TW.Plcs t u ps→kA ps (Okd t) d→Nxt t u ds (some d)
 |aside {ps:List (TW.Deed Str)} {d:TW.Deed Str} {c:Nat}:(∀x∈t,¬TW.dQ t u x)→TW.Plcs t u ps→(∀d∈ps,¬Okd t d)→kA ps (λd=>ft d=true∧¬cW ds (bc d)) d→FreeN t u c→Nxt t u ds (some (.move (bc d) 0 (bT c)))
 |no {ps:List (TW.Deed Str)}:(∀x∈t,¬TW.dQ t u x)→TW.Plcs t u ps→(∀d∈ps,¬Okd t d)→(∀d∈ps,¬(ft d=true∧¬cW ds (bc d)))→Nxt t u ds none
def cL(n:Nd):Prop:=1≤n.num∧n.num≤99∧0≤n.par∧n.par≤99∧n.nm.length≤100
theorem tL{t:List Nd}{u:List Nd}{ps:List (TW.Deed Str)}(h:TW.Plcs t u ps)(hu:∀n∈u,cL n):∀d∈ps,ci d:=by
 induction h with
 |nil=>intro d hd;cases hd
 |skip _ _ ih=>exact ih λn hn=>hu n (mem_append_left _ hn)
 |@take n u ds d _ hp ih =>
  intro e he;rcases mem_append.mp he with he|he
  ·exact ih (λn hn=>hu n (mem_append_left _ hn)) e he
  ·have:e=d:=mem_singleton.mp he;subst this;obtain⟨h1,h2,h3,h4,h5⟩:=hu n (mem_append_right _ (mem_singleton.mpr rfl));cases hp with
   |new _=>exact⟨h1,h2,h3,h4,h5⟩
   |mv _ _ _=>exact⟨h1,h2,h3,h4,h5⟩
theorem lV{α β:Type}{ds:List (α×β)}{i:Nat}{x:α×β}{p:β→Prop}(hx:ds[i]?=some x)(hi:∀y∈ds.take i,¬p y.2)(h:p x.2):kA (ds.map (·.2)) p x.2:=by
 have et:ds.take (i+1)=ds.take i++[x]:=bp hx;refine⟨(ds.take i).map (·.2),(ds.drop (i+1)).map (·.2),?_,λy hy=>?_,h⟩
 ·have:=take_append_drop (i+1) ds;rw[et,append_assoc]at this
  conv=>lhs;rw[←this]
  rw[map_append];rfl
 ·obtain⟨z,hz,rfl⟩:=mem_map.mp hy;exact hi z hz
section
variable{P:Program}{w:World}{K:PySem.W.Frag}{mg:Str→Option Value}{base:Heap}
def uz:Sp:=λvs H Q _=>∃t u l zs us ds,vs=[.ref t,.ref u,.ref l]∧Tre H t zs∧zs.length≤29∧Tre H u us∧(∀n∈nds us,cL n)∧H l=some (.lst (aX ds))∧il H ds∧ds.length≤300 ∧
 (∀d r H',Nxt (nds zs) (nds us) (ds.map (·.2)) (some d)→Same H H'→H' r=some (.tup (aT d))→Q (.ref r) H')∧(Nxt (nds zs) (nds us) (ds.map (·.2)) none→∀H',Same H H'→Q .non H')
theorem jT:FnScope ["now","new","deeds","drop","left","deed","moved"] ["now","new","deeds"] (ai fo):=fsc
theorem vW{f:Addr}{fd:FuncData}(F:Fun K "next_deed" "next_deed" fo f fd)(T:Txt mg)(CB:Has P w K mg base 1 "by_number" ["tree"] eR)(CD:Has P w K mg base 3 "next_drop" ["now","goal"] rn)(CP:Has P w K mg base 2 "placings" ["now","new"] rq)(CR:Has P w K mg base 5 "is_refused" ["tree","deed"] rp)(CF:Has P w K mg base 2 "free_name" ["now","new"] rC):FnOk P w K mg base CX0 6 f fd ["now","new","deeds"] uz:=by
 obtain⟨fB,fdB,GB,mB,kB,bB⟩:=CB;obtain⟨fD,fdD,GD,mD,kD,bD⟩:=CD;obtain⟨fP,fdP,GP,mP,kP,bP⟩:=CP;obtain⟨fR,fdR,GR,mR,kR,bR⟩:=CR;obtain⟨fF,fdF,GF,mF,kF,bF⟩:=CF;obtain⟨tt,hT⟩:=T.top;refine F.ok jT (λvs H Q E h=>?_) (λcdv A outer s H vs Q E hr h=>?_)
 ·obtain⟨t,u,l,zs,us,ds,rfl,_⟩:=h;rfl
 ·obtain⟨t,u,l,zs,us,ds,rfl,tr,hz,ur,uok,hL,hD,hdl,q1,q2⟩:=h;have hr1:Room 1 _:=hr.mono (by decide);have hr2:Room 2 _:=hr.mono (by decide);have hr3:Room 3 _:=hr.mono (by decide);have ul:=ur.len;have und:=aH ur.tr;refine⟨_,ae (aq (i:=3) jT.nd rfl (Or.inl rfl) (al GD hr3 rfl mD kD bD .nil aK (aa (pv 0) (aa (al GB hr1 rfl mB kB bB .nil aK (aa (pv 1) ah)) ah))))
   (ae (aR (am iz (pv 3) cm (au _)) (aj (ax (pv 3))) aA)
   (ae (aq (i:=4) jT.nd rfl (Or.inl rfl) (al GP hr2 rfl mP kP bP .nil aK (aa (pv 0) (aa (pv 1) ah))))
   (ae (cH PassesOwn.never rfl (cG (pv 4)) (aG (i:=5) jT.nd rfl (Or.inl rfl)) (aj (aR (kb (iJ (al GR hr rfl mR kR bR .nil aK (aa (pv 0) (aa (pv 5) ah))) (λ_=>rfl))) (aj (ax (pv 5))) aA)))
   (ae (aq (i:=6) jT.nd rfl (Or.inl rfl) (bh (jl rfl) rfl T.dict boot_dict (aa (du (N:=["deed"]) (cl:=[]) (k:=1) (js:=[]) (g:=be 0) rfl (dS rfl (by decide +kernel) (by decide +kernel) (by decide +kernel)) rfl (λi j x h=>by simp at h)
    (cG (pv 2)) (λs H fp=>aG (i:=0) (show(["deed"]:List Str).Nodup by decide +kernel) rfl (Or.inl rfl) (Or.inr rfl))
    (λs H fp=>am cy (av (r:=cw K) ao (pv 0) ag (λ_ _=>rfl)) aJ (au _)) (λs H fp=>bn (aa (av (r:=cw K) ao (pv 0) ag (λ_ _=>rfl)) (aa dG ah)))) ah)))
   (ae (cH PassesOwn.never rfl (cG (pv 4)) (aG (i:=5) jT.nd rfl (Or.inl rfl)) (aj (aR (PW.pt (pw_and (am cy (av ao (pv 5) ag (λ_ _=>rfl)) aJ (au _)) (pw_and1 (bQ (bZ (aI hr) (av ao (pv 5) ag (λ_ _=>rfl)) (pv 6))))))
     (aj (ax (bn (aa aJ (aa (av ao (pv 5) ag (λ_ _=>rfl)) (aa (dg (v:=.int 0) rfl hT ⟨_,rfl⟩) (aa (al GF hr2 rfl mF kF bF .nil aK (aa (pv 0) (aa (pv 1) ah))) ah))))))) aA)))
   (aj (ax cm))))))),?_⟩
  refine⟨_,rfl,_,rfl,u,us,rfl,ur.tup,ur.nod,by omega,und,λd H1 s1 nd1=>?_⟩;refine⟨t,d,zs,us,rfl,tr.same s1,nd1,und,λx hx r H2 s2 hr2'=>?_,λhno H2 s2=>?_⟩
  ·exact⟨_,rfl,rfl,_,rfl,aQ ⟨_,rfl,q1 _ r H2 (.drop hx) (s1.trans s2) hr2'⟩⟩
  ·have s12:=s1.trans s2;refine⟨_,rfl,rfl,_,rfl,aD ⟨_,rfl,_,rfl,t,u,zs,us,rfl,tr.same s12,ur.same s12,λk ps H3 s3 hk hA hP=>?_⟩⟩;have s13:=s12.trans s3;have pok:=tL hP uok;have pl:=lS hP;have pl2:ps.length≤30:=by
    rw[length_map]at pl;have h2:(nds us).length=us.length:=by unfold nds;rw[length_map]
    omega
   refine⟨_,rfl,k,rfl,⟨_,SqL.of hk⟩,eV (xs:=aX ps) (λi σ H'=>(∃x5,σ=[some (.ref t),some (.ref u),some (.ref l),some .non,some (.ref k),x5,none])∧Same H3 H'∧∀y∈ps.take i,¬Okd (nds zs) y.2) ⟨⟨_,rfl⟩,Same.refl _,by simp⟩ (λi σ H' _ h=>SqL.of (h.2.1 _ _ hk)) (λi x σ H' hx h=>?_) (λσ H4 h=>?_)⟩
   ·obtain⟨⟨x5,rfl⟩,s4,hi⟩:=h;obtain⟨y,gy,rfl⟩:∃y,ps[i]?=some y∧x=V.ref y.1:=by
     unfold aX at hx;rw[getElem?_map]at hx;cases hg:ps[i]? with
     |none=>rw[hg]at hx;cases hx
     |some y=>rw[hg]at hx;exact⟨y,rfl,(Option.some.inj hx).symm⟩
    have my:=mem_of_getElem? gy;have et:ps.take (i+1)=ps.take i++[y]:=bp gy;have ay:=s4 _ _ (hA y my);refine⟨_,rfl,_,rfl,t,y.1,zs,y.2,rfl,tr.same (s13.trans s4),hz,ay,pok _ (mem_map.mpr ⟨y,my,rfl⟩),λv told H5 s5=>?_,λwd told H5 s5=>?_⟩
    ·refine⟨_,rfl,aQ ⟨_,rfl,q1 y.2 y.1 H5 (.place hno hP (lV gy hi ⟨v,told⟩)) (s13.trans (s4.trans s5)) (s5 _ _ ay)⟩⟩
    ·refine⟨_,rfl,aD ⟨⟨_,rfl⟩,s4.trans s5,λy' hy'=>?_⟩⟩;rw[et]at hy';rcases mem_append.mp hy' with h|h
     ·exact hi y' h
     ·have e:y'=y:=mem_singleton.mp h;subst e;rintro⟨v,tv⟩;have:=tv.one tr.tr told;cases this
   ·obtain⟨⟨x5,rfl⟩,s4,hi⟩:=h;have href:∀d∈ps.map (·.2),¬Okd (nds zs) d:=λd hd=>by
     obtain⟨y,hy,rfl⟩:=mem_map.mp hd;refine hi y ?_;unfold aX;rw[length_map,take_length];exact hy
    have s14:=s13.trans s4;have hL4:=s14 _ _ hL;refine⟨_,rfl,l,rfl,⟨_,SqL.of hL4⟩,λp hp=>?_⟩;refine cQ (fr:=[]) ds (λx=>V.ref x.1) (by omega) hp (gH (SqL.of hL4)) rfl (λx=>ft x.2) (λx y H'=>∃q,y=.ref q∧q≠p∧H' q=some (.tup [.int (bc x.2),.bl true])) (λz y H H' ⟨q,e,ne,h⟩ ex=>⟨q,e,ne,ex q _ ne h⟩) (λx H' kk mx s5 _ hk'=>?_) (λx H' kk mx hg s5 hpl hk'=>?_) (λys H5 s5 hp5 hys=>?_)
    ·obtain⟨wd,hw,ew⟩:=rD x.2;refine⟨_,rfl,x.1,_,0,_,rfl,rfl,SqT.of (s5 _ _ (s14 _ _ (hD x mx))),dL (j:=0) hw,rfl,_,rfl,?_⟩;rw[show decide (V.str wd=V.str ("move":Str))=ft x.2 by rw[←ew,decide_eq_decide];exact⟨λh=>by injection h,λh=>by rw[h]⟩];exact hk' H' (Same.refl _)
    ·exact⟨_,rfl,x.1,_,1,_,rfl,rfl,SqT.of (s5 _ _ (s14 _ _ (hD x mx))),dL (j:=1) (nL x.2),le2,λq hq=>hk' _ _ (af hq) ⟨q,rfl,dz hpl hq,ac⟩⟩
    ·obtain⟨bs,e1,e2,e3⟩:=cF (val:=V.ref) (S:=λ(x:Addr×TW.Deed Str) (q:Addr)=>H5 q=some (.tup [.int (bc x.2),.bl true])) hys (λz y _ ⟨q,e,_,h⟩=>⟨q,e,h⟩);have hbl:bs.length≤300:=by
      have h1:=congrArg length e1;rw[length_map]at h1;have h2:=length_filter_le (λx:Addr×TW.Deed Str=>ft x.2) ds;omega
     let ws:List (Addr×Key×V):=bs.map λx=>(x.2,(Sum.inl (bc x.1.2):Key),V.bl true)
     refine⟨p,ws,rfl,by rw[hp5,e2];show _=some (HO.lst (((bs.map λx=>(x.2,(Sum.inl (bc x.1.2):Key),V.bl true)).map (·.1)).map V.ref));rw[map_map,map_map];rfl,λz hz=>?_,by show(bs.map _).length≤900;rw[length_map];omega,λg hg=>?_⟩
     ·obtain⟨x,hx,rfl⟩:=mem_map.mp hz;exact e3 x hx
     have s6:=s5.trans (af (o:=.dK (bi ws)) hg);have gd:upd H5 g (.dK (bi ws)) g=some (.dK (bi ws)):=ac;show jp _ _ _ _ (upd H5 g (.dK (bi ws)));generalize upd H5 g (.dK (bi ws))=H6 at s6 gd⊢;have s16:=s14.trans s6;have isM:∀n:Int,(aY (bi ws) (Sum.inl n:Key)).isSome=true↔cW (ds.map (·.2)) n:=λn=>by
      rw[←cz];unfold bi;rw[jS,any_nil,Bool.false_or,any_eq_true];constructor
      ·rintro⟨z,hz,e⟩;obtain⟨y,hy,rfl⟩:=mem_map.mp hz;have hm:y.1∈ds.filter (λx=>ft x.2):=by rw[←e1];exact mem_map.mpr ⟨y,hy,rfl⟩
       obtain⟨h1,h2⟩:=mem_filter.mp hm;have ex:bc y.1.2=n:=by have:=of_decide_eq_true e;injection this
       exact⟨y.1.2,mem_map.mpr ⟨_,h1,rfl⟩,h2,ex⟩
      ·rintro⟨d,hd,h0,e⟩;obtain⟨z,hz,rfl⟩:=mem_map.mp hd;have hm:z∈bs.map (·.1):=by rw[e1];exact mem_filter.mpr ⟨hz,h0⟩
       obtain⟨y,hy,rfl⟩:=mem_map.mp hm;exact⟨_,mem_map.mpr ⟨y,hy,rfl⟩,decide_eq_true (by rw[e])⟩
     have hk6:=s6 _ _ (s4 _ _ hk);refine⟨_,rfl,k,rfl,⟨_,SqL.of hk6⟩,eV (xs:=aX ps) (λi σ H'=>(∃x5,σ=[some (.ref t),some (.ref u),some (.ref l),some .non,some (.ref k),x5,some (.ref g)])∧H'=H6∧∀y∈ps.take i,¬(ft y.2=true∧¬cW (ds.map (·.2)) (bc y.2))) ⟨⟨_,rfl⟩,rfl,by simp⟩ (λi σ H' _ h=>by rw[h.2.1];exact SqL.of hk6) (λi x σ H' hx h=>?_) (λσ H' h=>?_)⟩
     ·obtain⟨⟨x5,rfl⟩,rfl,hi⟩:=h;obtain⟨y,gy,rfl⟩:∃y,ps[i]?=some y∧x=V.ref y.1:=by
       unfold aX at hx;rw[getElem?_map]at hx;cases hg':ps[i]? with
       |none=>rw[hg']at hx;cases hx
       |some y=>rw[hg']at hx;exact⟨y,rfl,(Option.some.inj hx).symm⟩
      have my:=mem_of_getElem? gy;have et:ps.take (i+1)=ps.take i++[y]:=bp gy;have ay:SqT K H' y.1 (aT y.2):=SqT.of (s6 _ _ (s4 _ _ (hA y my)));have step:¬(ft y.2=true∧¬cW (ds.map (·.2)) (bc y.2))→∀y'∈ps.take (i+1),¬(ft y'.2=true∧¬cW (ds.map (·.2)) (bc y'.2)):=λh y' hy'=>by
       rw[et]at hy';rcases mem_append.mp hy' with h'|h'
       ·exact hi y' h'
       ·have e:y'=y:=mem_singleton.mp h';rw[e];exact h
      obtain⟨wd,hw,ew⟩:=rD y.2;refine⟨_,rfl,y.1,_,0,_,rfl,rfl,ay,dL (j:=0) hw,rfl,_,rfl,?_⟩;rw[show decide (V.str wd=V.str ("move":Str))=ft y.2 by rw[←ew,decide_eq_decide];exact⟨λh=>by injection h,λh=>by rw[h]⟩];cases hmv:ft y.2 with
      |false=>exact aD (aD ⟨⟨_,rfl⟩,rfl,step λh=>by rw[hmv]at h;cases h.1⟩)
      |true =>
       refine aQ ⟨_,rfl,y.1,_,1,_,rfl,rfl,ay,dL (j:=1) (nL y.2),_,rfl,g,_,rfl,cA.k (k:=Sum.inl (bc y.2)) gd,_,rfl,?_⟩
       by_cases hM:cW (ds.map (·.2)) (bc y.2)
       ·rw[(isM _).mpr hM];exact aD ⟨⟨_,rfl⟩,rfl,step λh=>h.2 hM⟩
       ·have:(aY (bi ws) (Sum.inl (bc y.2):Key)).isSome=false:=by
         cases h:(aY (bi ws) (Sum.inl (bc y.2):Key)).isSome with
         |false=>rfl
         |true=>exact absurd ((isM _).mp h) hM
        rw[this];refine aQ ⟨_,rfl,y.1,_,1,_,rfl,rfl,ay,dL (j:=1) (nL y.2),_,rfl,_,rfl,t,u,zs,us,rfl,tr.same s16,ur.same s16,λc H7 s7 hc=>⟨(show 4≤sizeLine from ap (by decide)),λr hr'=>?_⟩⟩;exact q1 (.move (bc y.2) 0 (bT c)) r _ (.aside hno hP href (lV gy hi ⟨hmv,hM⟩) hc) (s16.trans (s7.trans (af hr'))) ac
     ·obtain⟨⟨x5,rfl⟩,rfl,hi⟩:=h;refine q2 (.no hno hP href λd hd=>?_) _ s16;obtain⟨y,hy,rfl⟩:=mem_map.mp hd;refine hi y ?_;unfold aX;rw[length_map,take_length];exact hy
end
structure Sound(u:List Nd)(I:List Nd→List (TW.Deed Str)→Prop)(μ:List Nd→List (TW.Deed Str)→Nat):Prop where
 bd:∀t ds,I t ds→t.length≤29∧ds.length≤200∧dF t u
 nx:∀t ds d,I t ds→Nxt t u ds (some d)→ci d∧∃t1,TW.Told t d (.inr t1)∧I t1 (ds++[d])∧μ t1 (ds++[d])<μ t ds
 fin:∀t ds,I t ds→Nxt t u ds none→∀n∈t,TW.aF u n.num
def vX(t u:List Nd)(ds:List (TW.Deed Str))(dv:V)(H:Hp):Prop:=(dv=.non∧Nxt t u ds none)∨∃r d,dv=.ref r∧H r=some (.tup (aT d))∧Nxt t u ds (some d)
def rE:Sp:=λvs H Q _=>∃t u l zs us ds,vs=[.ref t,.ref u,.ref l]∧Tre H t zs∧zs.length≤29∧Tre H u us∧(∀n∈nds us,cL n)∧H l=some (.lst (aX ds))∧il H ds∧ds.length≤300∧∀dv H',Same H H'→vX (nds zs) (nds us) (ds.map (·.2)) dv H'→Q dv H'
theorem tN(vs:List V)(H:Hp)(Q:VK)(E:XK)(h:rE vs H Q E):uz vs H Q E:=by
 obtain⟨t,u,l,zs,us,ds,e,a1,a2,a3,a4,a5,a6,a7,q⟩:=h;exact⟨t,u,l,zs,us,ds,e,a1,a2,a3,a4,a5,a6,a7,λd r H' n s hr=>q _ H' s (.inr ⟨r,d,rfl,hr,n⟩),λn H' s=>q _ H' s (.inl ⟨rfl,n⟩)⟩
section
variable{P:Program}{w:World}{K:PySem.W.Frag}{mg:Str→Option Value}{base:Heap}
def oT(CN:Addr):Sp:=λvs H Q E=>∃t u zs us,vs=[.ref t,.ref u]∧Tre H t zs∧Tre H u us∧(∀z∈zs,-1≤z.2.num∧z.2.num≤99)∧(∀n∈nds us,cL n)∧(¬dF (nds zs) (nds us)→∀H',Same H H'→E (.ref CN) none H') ∧
 (dF (nds zs) (nds us)→∃I μ,Sound (nds us) I μ∧I (nds zs) []∧∀l ds t2 dd H',Same H H'→I t2 dd→Nxt t2 (nds us) dd none→H' l=some (.lst (aX ds))→il H' ds→ds.map (·.2)=dd++cM t2 (nds us)→TW.Chain (nds zs) dd t2→Q (.ref l) H')
theorem jU:FnScope ["old","new","deeds","now","deed"] ["old","new"] (ai gh):=fsc
theorem tO{f CN:Addr}{fd:FuncData}{cls:TW.Wd→Addr}(F:Fun K "in_steps" "in_steps" gh f fd)(CK:da P w K mg base 2 "check_kinds" ["old","new"] (rl CN))(CX:Has P w K mg base 6 "next_deed" ["now","new","deeds"] rE)(CD:da P w K mg base 4 "done" ["tree","deed"] (gk cls))(CW:Has P w K mg base 2 "writes" ["now","new"] rB):FnOk P w K mg base (CX1 P w) 7 f fd ["old","new"] (oT CN):=by
 obtain⟨fK,fdK,GK,mK,kK,bK⟩:=CK;obtain⟨fN,fdN,GN,mN,kN,bN⟩:=CX;obtain⟨fD,fdD,GD,mD,kD,bD⟩:=CD;obtain⟨fW,fdW,GW,mW,kW,bW⟩:=CW;refine F.okX jU (λvs H Q E h=>?_) (λcdv A outer s H vs Q E hr h=>?_)
 ·obtain⟨t,u,zs,us,rfl,_⟩:=h;rfl
 ·obtain⟨t,u,zs,us,rfl,tr,ur,hb,uok,qE,qo⟩:=h;have hr2:Room 2 _:=hr.mono (by decide);have hr4:Room 4 _:=hr.mono (by decide);refine⟨_,ae (bX (al (E:=E) GK hr2 rfl mK kK bK .nil (cV ca) (aa (pv 0) (aa (pv 1) ah))))
   (ae (aq (i:=2) jU.nd rfl (Or.inl rfl) (ba ah)) (ae (aq (i:=3) jU.nd rfl (Or.inl rfl) (pv 0))
   (ae (aq (i:=4) jU.nd rfl (Or.inl rfl) (al GN hr rfl mN kN bN .nil aK (aa (pv 3) (aa (pv 1) (aa (pv 2) ah)))))
   (ae (dZ (vp ca) (am iz (pv 4) cm (au _))
    (ae (bX (eY plainAttrs_list PySem.F.slot_list_append PySem.F.type_list_append bz (pv 2) (aa (pv 4) ah)))
    (ae (aq (i:=3) jU.nd rfl (Or.inl rfl) (al (E:=E) GD hr4 rfl mD kD bD .nil (cV ca) (aa (pv 3) (aa (pv 4) ah))))
    (aj (aq (i:=4) jU.nd rfl (Or.inl rfl) (al GN hr rfl mN kN bN .nil aK (aa (pv 3) (aa (pv 1) (aa (pv 2) ah)))))))))
   (aj (ax (aE eZ (pv 2) (al GW hr2 rfl mW kW bW .nil aK (aa (pv 3) (aa (pv 1) ah)))))))))),?_⟩
  refine⟨_,rfl,_,rfl,t,u,zs,us,rfl,tr,ur,hb,λsk H1 s1=>?_,λnsk H1 s1=>qE nsk H1 s1⟩;obtain⟨I,μ,So,i0,q⟩:=qo sk;refine⟨zero_le _,λl hl=>?_⟩;have s2:=s1.trans (af (o:=.lst []) hl);have fl:H l=none:=s1.free hl;have gl:upd H1 l (.lst []) l=some (.lst (aX [])):=ac;generalize upd H1 l (.lst [])=H2 at s2 gl⊢;have b0:=So.bd _ _ i0;have zl:∀z:ZN,(nds z).length=z.length:=λz=>by unfold nds;rw[length_map]
  refine⟨_,rfl,?_⟩;refine⟨_,rfl,_,rfl,_,rfl,t,u,l,zs,us,[],rfl,tr.same s2,by have:=b0.1;rw[zl]at this;exact this,ur.same s2,uok,gl,(λx h=>nomatch h),by decide,?_⟩;intro dv H3 s3 hres;dsimp only[be,jp];have s23:=s2.trans s3;refine⟨λm σ H'=>∃now zn ds dv,m=μ (nds zn) (ds.map (·.2))∧σ=[some (.ref t),some (.ref u),some (.ref l),some (.ref now),some dv]∧Tre H' now zn∧I (nds zn) (ds.map (·.2))∧H' l=some (.lst (aX ds))∧il H' ds∧(∀x∈ds,x.1≠l)∧TW.Chain (nds zs) (ds.map (·.2)) (nds zn)∧vX (nds zn) (nds us) (ds.map (·.2)) dv H'∧Same H H',
   ⟨_,t,zs,[],dv,rfl,rfl,tr.same s23,i0,s3 _ _ gl,(λx h=>nomatch h),(λx h=>nomatch h),.nil,hres,s23⟩,λm σ H' h=>?_⟩
  obtain⟨now,zn,ds,dv,rfl,rfl,trn,hI,hL,hD,hne,hC,hR,sH⟩:=h;have bd:=So.bd _ _ hI;have zn29:zn.length≤29:=by have:=bd.1;rw[zl]at this;exact this
  have dl:ds.length≤200:=by have:=bd.2.1;rw[length_map]at this;exact this
  refine⟨_,rfl,rfl,_,rfl,?_⟩;rcases hR with⟨rfl,hn⟩|⟨r,d,rfl,hr',hn⟩
  ·refine aD ⟨_,rfl,_,rfl,_,rfl,now,u,zn,us,rfl,trn,ur.same sH,So.fin _ _ hI hn,bd.2.2,λl2 es H4 s4 hl2 hE e4=>?_⟩;have hlen:es.length≤30:=by
    have h1:=congrArg length e4;unfold cM at h1;rw[length_map,length_map]at h1;have h2:=length_filter_le (λn:Nd=>!decide (n.st=bx (nds us) n.num)) (nds zn);rw[zl]at h2;omega
   refine⟨l,l2,_,_,rfl,rfl,s4 _ _ hL,hl2,by unfold aX;rw[length_map,length_map];exact ap (by omega),λl3 hl3=>?_⟩;have s5:=s4.trans (af (o:=.lst (aX ds++aX es)) hl3);refine q l3 (ds++es) (nds zn) (ds.map (·.2)) _ (sH.trans s5) hI hn ?_ (λx hx=>?_) (by rw[map_append,e4]) hC
   ·rw[ac];unfold aX;rw[map_append]
   ·rcases mem_append.mp hx with hx|hx
    ·exact s5 _ _ (hD x hx)
    ·exact(af hl3) _ _ (hE x hx)
  ·obtain⟨dok,t1,told,hI1,hμ⟩:=So.nx _ _ _ hI hn;refine aQ ⟨λσ' H''=>∃m',m'<μ (nds zn) (ds.map (·.2))∧∃now zn ds dv,m'=μ (nds zn) (ds.map (·.2))∧σ'=[some (.ref t),some (.ref u),some (.ref l),some (.ref now),some dv]∧Tre H'' now zn∧I (nds zn) (ds.map (·.2))∧H'' l=some (.lst (aX ds))∧il H'' ds∧(∀x∈ds,x.1≠l)∧TW.Chain (nds zs) (ds.map (·.2)) (nds zn)∧vX (nds zn) (nds us) (ds.map (·.2)) dv H''∧Same H H'',λ_ _ h=>h,?_⟩;have hrl:r≠l:=λz=>by rw[z,hL]at hr';cases hr'
   refine⟨_,rfl,.inl ⟨rfl,_,SqL.of hL⟩,_,rfl,l,_,_,rfl,rfl,hL,aC (by unfold aX;rw[length_map];omega),?_⟩;have keep:∀b o,b≠l→H' b=some o→upd H' l (.lst (aX ds++[.ref r])) b=some o:=λb o hb h=>by rw[ak hb];exact h
   have notl:∀{b:Addr}{xs:List V},H' b=some (.tup xs)→b≠l:=λh z=>by rw[z,hL]at h;cases h
   have gl4:upd H' l (.lst (aX ds++[.ref r])) l=some (.lst (aX (ds++[(r,d)]))):=by rw[ac];unfold aX;rw[map_append];rfl
   have sH4:Same H (upd H' l (.lst (aX ds++[.ref r]))):=λb o h=>keep _ _ (λz=>by rw[z,fl]at h;cases h) (sH _ _ h);generalize upd H' l (.lst (aX ds++[.ref r]))=H4 at keep gl4 sH4⊢;have trn4:Tre H4 now zn:=⟨keep _ _ (notl trn.tup) trn.tup,λz hz=>keep _ _ (notl (trn.nod z hz)) (trn.nod z hz),trn.tr,trn.len⟩;have hD4:il H4 (ds++[(r,d)]):=λx hx=>by
    rcases mem_append.mp hx with hx|hx
    ·exact keep _ _ (hne x hx) (hD x hx)
    ·rw[mem_singleton.mp hx];exact keep _ _ hrl hr'
   have ed:(ds++[(r,d)]).map (·.2)=ds.map (·.2)++[d]:=by rw[map_append];rfl
   refine⟨_,rfl,_,rfl,now,r,d,zn,rfl,trn4,zn29,keep _ _ hrl hr',dok,⟨λws t' H5 s5 ht' hA tl=>?_,λwd H5 s5 tl=>?_⟩⟩
   ·have e5:nds ws=t1:=Sum.inr.inj (tl.one trn.tr told);have sH5:=sH4.trans s5;have bd1:=So.bd _ _ hI1;have wl:ws.length≤29:=by have:=bd1.1;rw[←e5,zl]at this;exact this
    have trw:Tre H5 t' ws:=⟨ht',hA,by rw[e5];exact told.tree trn.tr dok.pos,by omega⟩;refine⟨_,rfl,_,rfl,_,rfl,t',u,l,ws,us,ds++[(r,d)],rfl,trw,wl,ur.same sH5,uok,s5 _ _ gl4,hD4.same s5,by rw[length_append];simp;omega,λdv2 H6 s6 hres2=>?_⟩;refine⟨_,?_,t',ws,ds++[(r,d)],dv2,rfl,rfl,trw.same s6,by rw[ed,e5];exact hI1,s6 _ _ (s5 _ _ gl4),(hD4.same s5).same s6,λx hx=>?_,by rw[ed];exact hC.snoc (by rw[e5];exact told),hres2,sH5.trans s6⟩
    ·rw[ed,e5];exact hμ
    ·rcases mem_append.mp hx with hx|hx
     ·exact hne x hx
     ·rw[mem_singleton.mp hx];exact hrl
   ·have:=tl.one trn.tr told;cases this
end
def cf(t:List Nd)(n:Nd):Prop:=∃m∈t,m.num=n.num∧m.par=n.par∧m.nm=n.nm
def rF(t u:List Nd)(ds:List (TW.Deed Str)):Prop:=∀m∈t,∀n∈u,m.num=n.num→cW ds m.num→¬cf t n→m.par=0∧∀x∈u,x.par=0→x.nm≠m.nm
theorem rG{t u:List Nd}{ps:List (TW.Deed Str)}(h:TW.Plcs t u ps):∀n∈u,(∃d∈ps,TW.Plc t n (some d))∨TW.Plc t n none:=by
 induction h with
 |nil=>intro n hn;cases hn
 |@skip x u ds _ hp ih =>
  intro n hn;rcases mem_append.mp hn with hn|hn
  ·exact ih n hn
  ·rw[mem_singleton.mp hn];exact .inr hp
 |@take x u ds d _ hp ih =>
  intro n hn;rcases mem_append.mp hn with hn|hn
  ·rcases ih n hn with⟨e,he,h⟩|h
   ·exact .inl ⟨e,mem_append_left _ he,h⟩
   ·exact .inr h
  ·rw[mem_singleton.mp hn];exact .inl ⟨d,mem_append_right _ (mem_singleton.mpr rfl),hp⟩
theorem fG{t u:List Nd}{ps:List (TW.Deed Str)}(h:TW.Plcs t u ps):∀d∈ps,∃n∈u,TW.Plc t n (some d):=by
 induction h with
 |nil=>intro n hn;cases hn
 |skip _ _ ih=>intro d hd;obtain⟨n,hn,h⟩:=ih d hd;exact⟨n,mem_append_left _ hn,h⟩
 |@take x u ds d _ hp ih =>
  intro e he;rcases mem_append.mp he with he|he
  ·obtain⟨n,hn,h⟩:=ih e he;exact⟨n,mem_append_left _ hn,h⟩
  ·rw[mem_singleton.mp he];exact⟨x,mem_append_right _ (mem_singleton.mpr rfl),hp⟩
theorem rH{t:List Nd}{n:Nd}(h:TW.Plc t n none):cf t n:=by
 cases h with
 |no hm e h1 h2=>exact⟨_,hm,e,h1,h2⟩
theorem rJ{t u:List Nd}{ps:List (TW.Deed Str)}(h:TW.Plcs t u ps){n:Nd}(hn:n∈u)(hp:¬cf t n):∃d∈ps,TW.Plc t n (some d):=by
 rcases rG h n hn with h|h
 ·exact h
 ·exact absurd (rH h) hp
theorem vY{t u:List Nd}{ps:List (TW.Deed Str)}(h:TW.Plcs t u ps){n m:Nd}(hn:n∈u)(hp:¬cf t n)(hm:m∈t)(e:m.num=n.num):∃d∈ps,ft d=true∧bc d=n.num:=by
 obtain⟨d,hd,hpl⟩:=rJ h hn hp;cases hpl with
 |new h1=>exact absurd ⟨m,hm,e⟩ h1
 |mv _ _ _=>exact⟨_,hd,rfl,rfl⟩
theorem lW{t:List Nd}(T:TW.cE t)(n:Nd)(hn:¬TW.aF t n.num):∃v:List Nd,v.Perm (n::t)∧TW.cE v:=by
 induction t with
 |nil=>exact⟨[n],List.Perm.refl _,List.pairwise_singleton _ _⟩
 |cons x r ih =>
  have T':=pairwise_cons.mp T
  by_cases h:n.num<x.num
  ·refine⟨n::x::r,List.Perm.refl _,pairwise_cons.mpr ⟨λy hy=>?_,T⟩⟩;rcases mem_cons.mp hy with e|hy
   ·rw[e];exact h
   ·exact Int.lt_trans h (T'.1 y hy)
  ·obtain⟨v,hv,hr⟩:=ih T'.2 λ⟨m,hm,e⟩=>hn ⟨m,mem_cons_of_mem _ hm,e⟩;have hx:x.num<n.num:=by
    have:x.num≠n.num:=λe=>hn ⟨x,mem_cons_self,e⟩;omega
   refine⟨x::v,(List.Perm.cons x hv).trans (List.Perm.swap _ _ _),pairwise_cons.mpr ⟨λy hy=>?_,hr⟩⟩;have:y∈n::r:=hv.mem_iff.mp hy;rcases mem_cons.mp this with e|h'
   ·rw[e];exact hx
   ·exact T'.1 y h'
theorem nM{u:List Nd}(U:TW.Tree1 u){a b:Nd}(ha:a∈u)(hb:b∈u)(e1:a.par=b.par)(e2:a.nm=b.nm):a=b:=by
 have h:(u.map λn=>(n.par,n.nm)).Nodup:=U.own;clear U
 induction u with
 |nil=>cases ha
 |cons x r ih =>
  rw[map_cons,nodup_cons]at h;have e:(a.par,a.nm)=(b.par,b.nm):=by rw[e1,e2]
  rcases mem_cons.mp ha with ea|ha'<;>rcases mem_cons.mp hb with eb|hb'
  ·rw[ea,eb]
  ·exact absurd (mem_map.mpr ⟨b,hb',by rw[←e,ea]⟩) h.1
  ·exact absurd (mem_map.mpr ⟨a,ha',by rw[e,eb]⟩) h.1
  ·exact ih ha' hb' h.2
section
variable{t u:List Nd}{ds ps:List (TW.Deed Str)}
theorem oU(T:TW.Tree1 t)(U:TW.Tree1 u){k:Int}(hk:¬TW.aF u k)(hk0:k≠0):∀{j:Int},TW.Und t k j→TW.aF u j→∃y∈t,∃n∈u,y.num=n.num∧y.par≠0∧¬cf t n:=by
 intro j h
 induction h with
 |here=>intro hj;exact absurd hj hk
 |@up y hy hu ih =>
  intro hj
  by_cases hp:TW.aF u y.par
  ·exact ih hp
  ·obtain⟨n,hn,e⟩:=hj;have hp0:y.par≠0:=λz=>hk0 (hu.zero T z);refine⟨y,hy,n,hn,e.symm,hp0,λ⟨m,hm,e1,e2,_⟩=>?_⟩;have:m=y:=T.inj hm hy (e1.trans e);subst this;rcases TW.cR U hn with h0|⟨r,hr,_,er⟩
   ·exact hp0 (e2.trans h0)
   ·exact hp ⟨r,hr,er.trans e2.symm⟩
theorem nN(T:TW.Tree1 t)(U:TW.Tree1 u)(sk:dF t u)(as:rF t u ds)(hno:∀x∈t,¬TW.dQ t u x)(hP:TW.Plcs t u ps)(href:∀d∈ps,¬Okd t d)(hmv:∀d∈ps,¬(ft d=true∧¬cW ds (bc d))):
  ∀{k:Int}{p:List Str},TW.PathTo u k p→(∀x∈u,TW.Und u x.num k→cf t x)∧∀a,TW.Und t a k→a=0∨TW.Und u a k:=by
 have moved:∀{m n:Nd},m∈t→n∈u→m.num=n.num→¬cf t n→cW ds n.num:=λ{m n} hm hn e hp=>by
  obtain⟨d,hd,h1,h2⟩:=vY hP hn hp hm e;refine Classical.byContradiction λh=>hmv d hd ⟨h1,?_⟩;rw[h2];exact h
 have noNeed:∀{m:Nd},m∈t→¬TW.aF u m.num→¬TW.tE t u m.num:=λ{m} hm hmu ⟨h0,y,hy,hyu,hu⟩=>by
  obtain⟨y1,hy1,n1,hn1,e1,hp0,hpl⟩:=oU T U hmu h0 hu hyu;have hM:=moved hy1 hn1 e1 hpl;rw[←e1]at hM;exact hp0 (as y1 hy1 n1 hn1 e1 hM hpl).1
 intro k p h
 induction h with
 |top =>
  refine⟨λx hx hu=>?_,λa ha=>.inl (ha.zero T rfl)⟩;have:=hu.zero U rfl;have:=U.pos x hx;omega
 |@node n p hn hp ih =>
  obtain⟨ih1,ih2⟩:=ih;have hfold:TW.fZ t n.par:=by
   rcases TW.cR U hn with h0|⟨r,hr,hs,er⟩
   ·exact .inl h0
   ·obtain⟨r',hr',e1,_,_⟩:=ih1 r hr (by rw[er];exact .here);exact .inr ⟨r',hr',(sk r' hr' r hr e1).mpr hs,e1.trans er⟩
  have hpl:cf t n:=Classical.byContradiction λhpl=>by
   obtain⟨d,hd,hpc⟩:=rJ hP hn hpl;have free:∀m∈t,m.num≠n.num→¬(m.par=n.par∧m.nm=n.nm):=λm hm hne ⟨e1,e2⟩=>by
    by_cases hmu:TW.aF u m.num
    ·obtain⟨n',hn',en⟩:=hmu
     by_cases hp':cf t n'
     ·obtain⟨m',hm',f1,f2,f3⟩:=hp';have:m'=m:=T.inj hm' hm (f1.trans en);subst this;have:n'=n:=nM U hn' hn (f2.symm.trans e1) (f3.symm.trans e2);subst this;exact hne en.symm
     ·have hM:=moved hm hn' en.symm hp';rw[en]at hM;obtain⟨a1,a2⟩:=as m hm n' hn' en.symm hM hp';exact a2 n hn (e1.symm.trans a1) e2.symm
    ·refine hno m hm ⟨noNeed hm hmu,?_⟩;rcases TW.cR U hn with h0|⟨r,hr,_,er⟩
     ·exact .inl (e1.trans h0)
     ·exact .inr ⟨r,hr,er.trans e1.symm⟩
   refine href d hd ?_;cases hpc with
   |new h1 =>
    obtain⟨v,hv,hr⟩:=lW T.rise n h1;exact⟨v,.made h1 hfold (λm hm=>free m hm λe=>h1 ⟨m,hm,e⟩) hv hr⟩
   |@mv m hm e _ =>
    refine⟨_,.moved hm e hfold (λh0 hu=>?_) free⟩;rcases ih2 _ hu with h|h
    ·have:=U.pos n hn;omega
    ·exact TW.ri U hn h
  refine⟨λx hx hu=>?_,λa ha=>?_⟩
  ·rcases (TW.jj U hn).mp hu with e|hu
   ·rw[U.inj hx hn e];exact hpl
   ·exact ih1 x hx hu
  ·obtain⟨m,hm,e1,e2,_⟩:=hpl;rw[←e1]at ha;rcases (TW.jj T hm).mp ha with e|ha
   ·right;rw[e,e1];exact .here
   ·rw[e2]at ha;rcases ih2 a ha with h|h
    ·exact .inl h
    ·exact .inr (.up hn h)
theorem eE(T:TW.Tree1 t)(U:TW.Tree1 u)(sk:dF t u)(as:rF t u ds)(h:Nxt t u ds none):(∀n∈u,cf t n)∧∀n∈t,TW.aF u n.num:=by
 cases h with
 |@no ps hno hP href hmv =>
  have hpl:∀n∈u,cf t n:=λn hn=>by
   obtain⟨p,hp⟩:=TW.PathTo.ex U hn;exact(nN T U sk as hno hP href hmv hp).1 n hn .here
  refine⟨hpl,?_⟩;have key:∀{k:Int}{p:List Str},TW.PathTo t k p→k=0∨TW.aF u k:=by
   intro k p h
   induction h with
   |top=>exact .inl rfl
   |@node n p hn _ ih =>
    right
    refine Classical.byContradiction λhx=>hno n hn ⟨λ⟨h0,y,hy,hyu,hu⟩=>?_,ih⟩;obtain⟨y1,_,n1,hn1,_,_,hq⟩:=oU T U hx h0 hu hyu;exact hq (hpl n1 hn1)
  intro n hn;obtain⟨p,hp⟩:=TW.PathTo.ex T hn;rcases key hp with h|h
  ·have:=T.pos n hn;omega
  ·exact h
end
section
variable{α:Type}
theorem fH{p q:α→Bool}:∀{l:List α},(∀x∈l,p x=true→q x=true)→(l.filter p).length≤(l.filter q).length
 |[],_=>le_refl _
 |a::r,h=>by
  have ih:=fH (p:=p) (q:=q) (l:=r) λx hx=>h x (mem_cons_of_mem _ hx);rw[filter_cons,filter_cons];cases hp:p a with
  |false =>
   cases hq:q a with
   |false=>simpa using ih
   |true=>simp;omega
  |true =>
   rw[h a mem_cons_self hp];simpa using ih
theorem fJ{p q:α→Bool}:∀{l:List α},(∀x∈l,p x=true→q x=true)→(∃x∈l,q x=true∧p x=false)→(l.filter p).length<(l.filter q).length
 |[],_,h=>by obtain⟨x,hx,_⟩:=h;cases hx
 |a::r,h,⟨x,hx,h1,h2⟩=>by
  have hr:∀y∈r,p y=true→q y=true:=λy hy=>h y (mem_cons_of_mem _ hy);rw[filter_cons,filter_cons];rcases mem_cons.mp hx with e|hx
  ·subst e;rw[h1,h2];have:=fH (p:=p) (q:=q) hr;simp;omega
  ·have ih:=fJ (p:=p) (q:=q) hr ⟨x,hx,h1,h2⟩;cases hp:p a with
   |false =>
    cases hq:q a with
    |false=>simpa using ih
    |true=>simp;omega
   |true =>
    rw[h a mem_cons_self hp];simpa using ih
end
open Classical in
def mu(u:List Nd)(t:List Nd)(ds:List (TW.Deed Str)):Nat:=(t.filter λm=>decide (¬TW.aF u m.num)).length+(u.filter λn=>decide (¬cf t n)).length+(u.filter λn=>decide (¬cf t n∧¬cW ds n.num)).length
structure Iv(t0 u t:List Nd)(ds:List (TW.Deed Str)):Prop where
 tr:TW.Tree1 t
 sk:dF t u
 as:rF t u ds
 ok:∀m∈t,cL m
 sub:∀m∈t,TW.aF t0 m.num∨TW.aF u m.num
 cnt:ds.length+mu u t ds≤200
theorem cS{ds:List (TW.Deed Str)}{d:TW.Deed Str}{k:Int}:cW (ds++[d]) k↔cW ds k∨(ft d=true∧bc d=k):=by
 constructor
 ·rintro⟨e,he,h1,h2⟩;rcases mem_append.mp he with he|he
  ·exact .inl ⟨e,he,h1,h2⟩
  ·rw[mem_singleton.mp he]at h1 h2;exact .inr ⟨h1,h2⟩
 ·rintro(⟨e,he,h1,h2⟩|⟨h1,h2⟩)
  ·exact⟨e,mem_append_left _ he,h1,h2⟩
  ·exact⟨d,mem_append_right _ (mem_singleton.mpr rfl),h1,h2⟩
theorem nO{ds:List (TW.Deed Str)}{d:TW.Deed Str}{a b:Nat}(h:ds.length+b≤200)(l:a<b):(ds++[d]).length+a≤200:=by
 rw[length_append];show ds.length+1+a≤200;omega
open Classical in
theorem rK{u t t1:List Nd}{ds ds1:List (TW.Deed Str)}(a:(t1.filter λm=>decide (¬TW.aF u m.num)).length≤(t.filter λm=>decide (¬TW.aF u m.num)).length)(b:∀n∈u,cf t n→cf t1 n)(c:∀k,cW ds k→cW ds1 k)(s:(t1.filter λm=>decide (¬TW.aF u m.num)).length<(t.filter λm=>decide (¬TW.aF u m.num)).length∨(∃n∈u,cf t1 n∧¬cf t n)∨∃n∈u,¬cf t n∧¬cW ds n.num∧cW ds1 n.num):mu u t1 ds1<mu u t ds:=by
 have hb:∀n∈u,decide (¬cf t1 n)=true→decide (¬cf t n)=true:=λn hn h=>decide_eq_true λh'=>of_decide_eq_true h (b n hn h');have hc:∀n∈u,decide (¬cf t1 n∧¬cW ds1 n.num)=true→decide (¬cf t n∧¬cW ds n.num)=true:=λn hn h=>by
  have:=of_decide_eq_true h;exact decide_eq_true ⟨λh'=>this.1 (b n hn h'),λh'=>this.2 (c _ h')⟩
 have lb:=fH hb;have lc:=fH hc;unfold mu;rcases s with s|⟨n,hn,h1,h2⟩|⟨n,hn,h1,h2,h3⟩
 ·omega
 ·have:=fJ hb ⟨n,hn,decide_eq_true h2,decide_eq_false λh=>h h1⟩;omega
 ·have:=fJ hc ⟨n,hn,decide_eq_true ⟨h1,h2⟩,decide_eq_false λh=>h.2 h3⟩;omega
section
variable{t0 u t:List Nd}{ds:List (TW.Deed Str)}
open Classical in
theorem rL{x:Nd}(hx:∃m∈t,m.num=x.num):((t.map (TW.put x)).filter λm=>decide (¬TW.aF u m.num)).length=(t.filter λm=>decide (¬TW.aF u m.num)).length:=by
 rw[filter_map,length_map]
 congr 1
 apply filter_congr;intro m _;show decide (¬TW.aF u (TW.put x m).num)=_;unfold TW.put
 by_cases h:m.num=x.num
 ·rw[if_pos h,h]
 ·rw[if_neg h]
theorem put_mem{x m:Nd}(h:m∈t.map (TW.put x)):(m=x∧∃y∈t,y.num=x.num)∨(m∈t∧m.num≠x.num):=by
 obtain⟨y,hy,rfl⟩:=mem_map.mp h;unfold TW.put
 by_cases e:y.num=x.num
 ·rw[if_pos e];exact .inl ⟨rfl,y,hy,e⟩
 ·rw[if_neg e];exact .inr ⟨hy,e⟩
theorem iF{x m:Nd}(h:m∈t)(e:m.num≠x.num):m∈t.map (TW.put x):=mem_map.mpr ⟨m,h,by unfold TW.put;rw[if_neg e]⟩
theorem gR{x m:Nd}(h:m∈t)(e:m.num=x.num):x∈t.map (TW.put x):=mem_map.mpr ⟨m,h,by unfold TW.put;rw[if_pos e]⟩
open Classical in
theorem tP(U:TW.Tree1 u)(I:Iv t0 u t ds){x:Nd}(hx:kA t (TW.dQ t u) x):ci (.drop x.num)∧∃t1,TW.Told t (.drop x.num) (.inr t1)∧Iv t0 u t1 (ds++[.drop x.num])∧mu u t1 (ds++[.drop x.num])<mu u t ds:=by
 obtain⟨a,b,e,_,hd⟩:=hx;have mx:x∈t:=by rw[e];simp
 have ok:=I.ok x mx;have x0:x.num≠0:=by have:=ok.1;omega
 have told:TW.Told t (.drop x.num) (.inr (t.filter λm=>decide (¬TW.Und t x.num m.num))):=.dropped ⟨x,mx,rfl⟩ λm _=>by rw[decide_eq_true_iff]
 have stay:∀m∈t,TW.aF u m.num→m∈t.filter λm=>decide (¬TW.Und t x.num m.num):=λm hm hu=>mem_filter.mpr ⟨hm,decide_eq_true λh=>hd.1 ⟨x0,m,hm,hu,h⟩⟩;have sub:∀m,m∈(t.filter λm=>decide (¬TW.Und t x.num m.num))→m∈t:=λm hm=>(mem_filter.mp hm).1;have pl:∀n∈u,cf t n→cf (t.filter λm=>decide (¬TW.Und t x.num m.num)) n:=λn hn ⟨m,hm,e1,e2,e3⟩=>⟨m,stay m hm ⟨n,hn,e1.symm⟩,e1,e2,e3⟩;have mv:∀k,cW ds k→cW (ds++[.drop x.num]) k:=λk h=>cS.mpr (.inl h);have lt:mu u (t.filter λm=>decide (¬TW.Und t x.num m.num)) (ds++[.drop x.num])<mu u t ds:=by
  have hl:((t.filter λm=>decide (¬TW.Und t x.num m.num)).filter λm=>decide (¬TW.aF u m.num)).length<(t.filter λm=>decide (¬TW.aF u m.num)).length:=by
   rw[List.filter_filter];refine fJ (λy _ h=>(and_eq_true _ _ ▸ h).1) ⟨x,mx,decide_eq_true λh=>hd.1 ⟨x0,x,mx,h,.here⟩,?_⟩;rw[show decide (¬TW.Und t x.num x.num)=false from decide_eq_false λh=>h .here,Bool.and_false]
  exact rK (le_of_lt hl) pl mv (.inl hl)
 refine⟨⟨ok.1,ok.2.1⟩,_,told,⟨told.tree I.tr trivial,λm hm=>I.sk m (sub m hm),λm hm n hn e' hM hp=>?_,λm hm=>I.ok m (sub m hm),λm hm=>I.sub m (sub m hm),?_⟩,lt⟩
 ·rcases cS.mp hM with h|⟨h,_⟩
  ·exact I.as m (sub m hm) n hn e' h λh'=>hp (pl n hn h')
  ·cases h
 ·exact nO I.cnt lt
open Classical in
theorem tQ(U:TW.Tree1 u)(I:Iv t0 u t ds)(uok:∀n∈u,cL n){n:Nd}(hn:n∈u){v:List Nd}(hv:TW.Told t (.make n.num n.par n.nm n.st) (.inr v)):Iv t0 u v (ds++[.make n.num n.par n.nm n.st])∧mu u v (ds++[.make n.num n.par n.nm n.st])<mu u t ds:=by
 have ok:=uok n hn;have T1:=hv.tree I.tr ok.1;cases hv with
 |made h1 hf hfree hp hr =>
  have hp':v.Perm (n::t):=hp;have mem:∀m,m∈v↔m=n∨m∈t:=λm=>by rw[hp'.mem_iff,mem_cons]
  have pl:∀x∈u,cf t x→cf v x:=λx _ ⟨m,hm,e⟩=>⟨m,(mem m).mpr (.inr hm),e⟩;have pn:cf v n:=⟨n,(mem n).mpr (.inl rfl),rfl,rfl,rfl⟩;have np:¬cf t n:=λ⟨m,hm,e,_⟩=>h1 ⟨m,hm,e⟩;have lt:mu u v (ds++[.make n.num n.par n.nm n.st])<mu u t ds:=by
   refine rK (le_of_eq ?_) pl (λk h=>cS.mpr (.inl h)) (.inr (.inl ⟨n,hn,pn,np⟩));rw[(hp'.filter _).length_eq,filter_cons];rw[show decide (¬TW.aF u n.num)=false from decide_eq_false λh=>h ⟨n,hn,rfl⟩];rfl
  refine⟨⟨T1,λm hm x hx e=>?_,λm hm x hx e hM hq=>?_,λm hm=>?_,λm hm=>?_,nO I.cnt lt⟩,lt⟩
  ·rcases (mem m).mp hm with rfl|hm
   ·rw[U.inj hn hx e]
   ·exact I.sk m hm x hx e
  ·rcases cS.mp hM with h|⟨h,_⟩
   ·rcases (mem m).mp hm with rfl|hm
    ·rw[U.inj hn hx e]at pn;exact absurd pn hq
    ·exact I.as m hm x hx e h λh'=>hq (pl x hx h')
   ·cases h
  ·rcases (mem m).mp hm with rfl|hm
   ·exact ok
   ·exact I.ok m hm
  ·rcases (mem m).mp hm with rfl|hm
   ·exact .inr ⟨_,hn,rfl⟩
   ·exact I.sub m hm
theorem oV(U:TW.Tree1 u)(I:Iv t0 u t ds){n y:Nd}(hn:n∈u)(hy:y∈t)(ey:y.num=n.num)(np:¬cf t n){p:Int}{nm:Str}(h0:0≤p)(h1:p≤99)(hl:nm.length≤100)(told:TW.Told t (.move n.num p nm) (.inr (t.map (TW.put ⟨n.num,p,nm,y.st⟩))))(hw:(p=n.par∧nm=n.nm)∨(¬cW ds n.num∧p=0∧∀x∈u,x.par=0→x.nm≠nm)):Iv t0 u (t.map (TW.put ⟨n.num,p,nm,y.st⟩)) (ds++[.move n.num p nm])∧mu u (t.map (TW.put ⟨n.num,p,nm,y.st⟩)) (ds++[.move n.num p nm])<mu u t ds:=by
 have T1:=told.tree I.tr trivial;have oky:=I.ok y hy;have ex:∃m∈t,m.num=(⟨n.num,p,nm,y.st⟩:Nd).num:=⟨y,hy,ey⟩;have pl:∀x∈u,cf t x→cf (t.map (TW.put ⟨n.num,p,nm,y.st⟩)) x:=λx hx ⟨m,hm,e1,e2,e3⟩=>by
  by_cases e:m.num=n.num
  ·have:x=n:=U.inj hx hn (e1.symm.trans e);subst this;exact absurd ⟨m,hm,e1,e2,e3⟩ np
  ·exact⟨m,iF hm e,e1,e2,e3⟩
 have mv:cW (ds++[.move n.num p nm]) n.num:=cS.mpr (.inr ⟨rfl,rfl⟩);have lt:mu u (t.map (TW.put ⟨n.num,p,nm,y.st⟩)) (ds++[.move n.num p nm])<mu u t ds:=by
  refine rK (le_of_eq (rL ex)) pl (λk h=>cS.mpr (.inl h)) (.inr ?_);rcases hw with⟨e1,e2⟩|⟨h2,_⟩
  ·exact .inl ⟨n,hn,⟨_,gR hy ey,rfl,e1,e2⟩,np⟩
  ·exact .inr ⟨n,hn,np,h2,mv⟩
 refine⟨⟨T1,λm hm x hx e=>?_,λm hm x hx e hM hq=>?_,λm hm=>?_,λm hm=>?_,nO I.cnt lt⟩,lt⟩
 ·rcases put_mem hm with⟨rfl,_⟩|⟨hm,_⟩
  ·exact I.sk y hy x hx (ey.trans e)
  ·exact I.sk m hm x hx e
 ·rcases put_mem hm with⟨rfl,_⟩|⟨hm,hne⟩
  ·have:n=x:=U.inj hn hx e;subst this;rcases hw with⟨e1,e2⟩|⟨_,e1,e2⟩
   ·exact absurd ⟨_,gR hy ey,rfl,e1,e2⟩ hq
   ·exact⟨e1,e2⟩
  ·rcases cS.mp hM with h|⟨_,h⟩
   ·exact I.as m hm x hx e h λh'=>hq (pl x hx h')
   ·exact absurd h.symm hne
 ·rcases put_mem hm with⟨rfl,_⟩|⟨hm,_⟩
  ·exact⟨by have:=oky.1;rw[ey]at this;exact this,by have:=oky.2.1;rw[ey]at this;exact this,h0,h1,hl⟩
  ·exact I.ok m hm
 ·rcases put_mem hm with⟨rfl,_⟩|⟨hm,_⟩
  ·exact .inr ⟨_,hn,rfl⟩
  ·exact I.sub m hm
theorem lX(U:TW.Tree1 u)(uok:∀n∈u,cL n)(hl:t0.length+u.length≤29):Sound u (Iv t0 u) (mu u):=by
 refine⟨λt ds I=>⟨?_,by have:=I.cnt;omega,I.sk⟩,λt ds d I h=>?_,λt ds I h=>(eE I.tr U I.sk I.as h).2⟩
 ·have nd:(t.map (·.num)).Nodup:=by
   have:=I.tr.rise;unfold Nodup;rw[pairwise_map];exact this.imp λh e=>by omega
  have:=Nodup.length_le_of_subset nd (l₂:=t0.map (·.num)++u.map (·.num)) λk hk=>by
   obtain⟨m,hm,rfl⟩:=mem_map.mp hk;rcases I.sub m hm with⟨x,hx,e⟩|⟨x,hx,e⟩
   ·exact mem_append_left _ (mem_map.mpr ⟨x,hx,e⟩)
   ·exact mem_append_right _ (mem_map.mpr ⟨x,hx,e⟩)
  rw[length_map,length_append,length_map,length_map]at this;omega
 ·have place:∀{n:Nd}{e:TW.Deed Str},n∈u→TW.Plc t n (some e)→Okd t e→ci e∧∃t1,TW.Told t e (.inr t1)∧Iv t0 u t1 (ds++[e])∧mu u t1 (ds++[e])<mu u t ds:=λ{n e} hn hp hok=>by
   obtain⟨v,hv⟩:=hok;obtain⟨k1,k2,k3,k4,k5⟩:=uok n hn;cases hp with
   |new h1 =>
    exact⟨⟨k1,k2,k3,k4,k5⟩,v,hv,tQ U I uok hn hv⟩
   |@mv m hm em hne =>
    have np:¬cf t n:=λ⟨m',hm',e1,e2,e3⟩=>hne (by
     have:m'=m:=I.tr.inj hm' hm (e1.trans em.symm);subst this;exact⟨e2,e3⟩)
    have hv':=hv;cases hv with
    |@moved _ _ _ y hy ey hf hi ht =>
     exact⟨⟨k1,k2,k3,k4,k5⟩,_,hv',oV U I hn hy ey np k3 k4 k5 hv' (.inl ⟨rfl,rfl⟩)⟩
  cases h with
  |drop hx=>exact tP U I hx
  |place hno hP hf =>
   obtain⟨a,b,e,_,hok⟩:=hf;obtain⟨n,hn,hpc⟩:=fG hP d (by rw[e];simp);exact place hn hpc hok
  |@aside ps d0 c hno hP href hf hc =>
   obtain⟨a,b,e,_,hm1,hm2⟩:=hf;obtain⟨n,hn,hpc⟩:=fG hP d0 (by rw[e];simp);obtain⟨k1,k2,k3,k4,k5⟩:=uok n hn;cases hpc with
   |new _=>cases hm1
   |@mv m hm em hne =>
    have np:¬cf t n:=λ⟨m',hm',e1,e2,e3⟩=>hne (by
     have:m'=m:=I.tr.inj hm' hm (e1.trans em.symm);subst this;exact⟨e2,e3⟩)
    have cl:(bT c).length≤100:=by have:=pX c hc.lt;omega
    have told:TW.Told t (.move n.num 0 (bT c)) (.inr (t.map (TW.put ⟨n.num,0,bT c,m.st⟩))):=.moved hm em (.inl rfl) (λh=>absurd rfl h) λx hx _ ⟨e1,e2⟩=>hc.no ⟨x,.inl hx,e1,e2⟩;exact⟨⟨k1,k2,by decide,by decide,cl⟩,_,told,oV U I hn hm em np (by decide) (by decide) cl told (.inr ⟨hm2,rfl,λx hx h0 he=>hc.no ⟨x,.inr hx,h0,he⟩⟩)⟩
end
open Classical in
theorem lY{t0 u:List Nd}(T:TW.Tree1 t0)(sk:dF t0 u)(ok:∀n∈t0,cL n)(hl:t0.length+u.length≤29):Iv t0 u t0 []:=by
 refine⟨T,sk,λm _ n _ _ ⟨d,hd,_⟩=>(by cases hd),ok,λm hm=>.inl ⟨m,hm,rfl⟩,?_⟩;unfold mu;have h1:=length_filter_le (λm:Nd=>decide (¬TW.aF u m.num)) t0;have h2:=length_filter_le (λn:Nd=>decide (¬cf t0 n)) u;have h3:=length_filter_le (λn:Nd=>decide (¬cf t0 n∧¬cW [] n.num)) u;show 0+_≤200;omega
inductive Trace(u t0:List Nd):List (TW.Deed Str)→List Nd→Prop where
 |nil:Trace u t0 [] t0
 |snoc {ds:List (TW.Deed Str)} {t t1:List Nd} {d:TW.Deed Str}:Trace u t0 ds t→Nxt t u ds (some d)→TW.Told t d (.inr t1)→Trace u t0 (ds++[d]) t1
theorem rM{t0 u:List Nd}(U:TW.Tree1 u)(uok:∀n∈u,cL n)(hl:t0.length+u.length≤29):Sound u (λt ds=>Iv t0 u t ds∧Trace u t0 ds t) (mu u):=by
 have S:=lX (t0:=t0) U uok hl;refine⟨λt ds h=>S.bd t ds h.1,λt ds d h hn=>?_,λt ds h hn=>S.fin t ds h.1 hn⟩;obtain⟨ok,t1,told,i1,lt⟩:=S.nx t ds d h.1 hn;exact⟨ok,t1,told,⟨i1,.snoc h.2 hn told⟩,lt⟩
theorem fQ{α:Type}{p:α→Prop}{l:List α}{x:α}(h:kA l p x):x∈l∧p x:=by
 obtain⟨a,b,e,_,h2⟩:=h;exact⟨by rw[e];simp,h2⟩
theorem rN{α:Type}{l m:List α}{a b:α}(h:l++[a]=m++[b]):l=m∧a=b:=by
 have:=List.append_inj' h rfl;exact⟨this.1,by simpa using this.2⟩
theorem nP{t u:List Nd}(T:TW.Tree1 t)(U:TW.Tree1 u)(h1:∀n∈u,cf t n)(h2:∀n∈t,TW.aF u n.num):t.map (λn=>(⟨n.num,n.par,n.nm,bx u n.num⟩:Nd))=u:=by
 have und:=aH U;have memu:∀x,x∈t.map (λn=>(⟨n.num,n.par,n.nm,bx u n.num⟩:Nd))↔x∈u:=λx=>by
  constructor
  ·intro hx;obtain⟨n,hn,rfl⟩:=mem_map.mp hx;obtain⟨y,hy,e⟩:=h2 n hn;obtain⟨m,hm,e1,e2,e3⟩:=h1 y hy;have:m=n:=T.inj hm hn (e1.trans e);subst this;have es:bx u m.num=y.st:=by rw[←e];exact fA und hy
   rw[es,e1,e2,e3];exact hy
  ·intro hx;obtain⟨m,hm,e1,e2,e3⟩:=h1 x hx;refine mem_map.mpr ⟨m,hm,?_⟩;rw[e1,e2,e3,fA und hx]
 have r1:(t.map (λn=>(⟨n.num,n.par,n.nm,bx u n.num⟩:Nd))).Pairwise λa b=>a.num<b.num:=by
  rw[pairwise_map];exact T.rise
 have r2:u.Pairwise λa b=>a.num<b.num:=U.rise;generalize t.map (λn=>(⟨n.num,n.par,n.nm,bx u n.num⟩:Nd))=l at memu r1;clear h1 h2 und U T
 induction l generalizing u with
 |nil =>
  cases u with
  |nil=>rfl
  |cons b m=>exact absurd ((memu b).mpr mem_cons_self) (by simp)
 |cons a l ih =>
  cases u with
  |nil=>exact absurd ((memu a).mp mem_cons_self) (by simp)
  |cons b m =>
   obtain⟨l1,l2⟩:=pairwise_cons.mp r1;obtain⟨m1,m2⟩:=pairwise_cons.mp r2;have e:a=b:=by
    rcases mem_cons.mp ((memu a).mp mem_cons_self)with e|h1
    ·exact e
    ·rcases mem_cons.mp ((memu b).mpr mem_cons_self)with e|h2
     ·exact e.symm
     ·have:=m1 a h1;have:=l1 b h2;omega
   subst e;rw[ih (u:=m) m2 (λx=>⟨λhx=>?_,λhx=>?_⟩) l2]
   ·rcases mem_cons.mp ((memu x).mp (mem_cons_of_mem _ hx))with e|h
    ·subst e;have:=l1 x hx;omega
    ·exact h
   ·rcases mem_cons.mp ((memu x).mpr (mem_cons_of_mem _ hx))with e|h
    ·subst e;have:=m1 x hx;omega
    ·exact h
def stW(u:List Nd)(n:Nd):Nd:=⟨n.num,n.par,n.nm,bx u n.num⟩
theorem jV{t u v:List Nd}{ds es:List (TW.Deed Str)}(h:TW.Chain t ds u)(h':TW.Chain u es v):TW.Chain t (ds++es) v:=by
 induction h with
 |nil=>exact h'
 |cons hd _ ih=>exact .cons hd (ih h')
theorem pZ{u:List Nd}:∀{L t:List Nd},(t.map (·.num)).Nodup→L.Nodup→(∀n∈L,n∈t∧n.st≠none∧bx u n.num≠none)→TW.Chain t (L.map λn=>.write n.num ((bx u n.num).getD 0)) (t.map λn=>if n∈L then stW u n else n):=by
 intro L
 induction L with
 |nil =>
  intro t _ _ _;have:t.map (λn=>if n∈([]:List Nd)then stW u n else n)=t:=by simp
  rw[this];exact .nil
 |cons x L ih =>
  intro t nd ndL h;obtain⟨hx,hs,hu⟩:=h x mem_cons_self;have ndL':=nodup_cons.mp ndL;have inj:∀a∈t,∀b∈t,a.num=b.num→a=b:=λa ha b hb e=>by
   have key:∀l:List Nd,(l.map (·.num)).Nodup→a∈l→b∈l→a=b:=by
    intro l
    induction l with
    |nil=>intro _ ha;cases ha
    |cons z r ih =>
     intro hn ha hb;rw[map_cons,nodup_cons]at hn;rcases mem_cons.mp ha with ea|ha'<;>rcases mem_cons.mp hb with eb|hb'
     ·rw[ea,eb]
     ·exact absurd (mem_map.mpr ⟨b,hb',by rw[←e,ea]⟩) hn.1
     ·exact absurd (mem_map.mpr ⟨a,ha',by rw[e,eb]⟩) hn.1
     ·exact ih hn.2 ha' hb'
   exact key t nd ha hb
  obtain⟨i,hi⟩:∃i,bx u x.num=some i:=by
   cases hh:bx u x.num with
   |none=>exact absurd hh hu
   |some i=>exact⟨i,rfl⟩
  have w:TW.Told t (.write x.num ((bx u x.num).getD 0)) (.inr (t.map (TW.put ⟨x.num,x.par,x.nm,some ((bx u x.num).getD 0)⟩))):=.wrote hx rfl hs;have ex:(⟨x.num,x.par,x.nm,some ((bx u x.num).getD 0)⟩:Nd)=stW u x:=by unfold stW;rw[hi];rfl
  rw[ex]at w;have nd1:((t.map (TW.put (stW u x))).map (·.num)).Nodup:=by
   rw[map_map];have:((λn:Nd=>n.num)∘TW.put (stW u x))=λn=>n.num:=by funext m;exact TW.kt _ _
   rw[this];exact nd
  have ne:∀n∈L,n.num≠x.num:=λn hn e=>ndL'.1 (by rw[←inj n (h n (mem_cons_of_mem _ hn)).1 x hx e];exact hn);have c:=ih (t:=t.map (TW.put (stW u x))) nd1 ndL'.2 λn hn=>by
   obtain⟨a,b,c⟩:=h n (mem_cons_of_mem _ hn);exact⟨mem_map.mpr ⟨n,a,by unfold TW.put;rw[if_neg (show ¬n.num=(stW u x).num from ne n hn)]⟩,b,c⟩
  have e:(t.map (TW.put (stW u x))).map (λn=>if n∈L then stW u n else n)=t.map (λn=>if n∈x::L then stW u n else n):=by
   rw[map_map];refine map_congr_left λm hm=>?_;show(if TW.put (stW u x) m∈L then _ else _)=_
   unfold TW.put
   by_cases em:m.num=(stW u x).num
   ·have:m=x:=inj m hm x hx em;subst this;rw[if_pos em,if_pos mem_cons_self]
    by_cases hh:stW u m∈L
    ·exact absurd (show(stW u m).num=m.num from rfl) (ne (stW u m) hh)
    ·rw[if_neg hh]
   ·rw[if_neg em]
    by_cases hh:m∈L
    ·rw[if_pos hh,if_pos (mem_cons_of_mem _ hh)]
    ·rw[if_neg hh,if_neg λh'=>by
      rcases mem_cons.mp h' with h'|h'
      ·rw[h']at em;exact em rfl
      ·exact hh h']
  rw[←e];exact .cons w c
theorem lZ{t u:List Nd}(T:TW.Tree1 t)(U:TW.Tree1 u)(sk:dF t u)(h1:∀n∈u,cf t n)(h2:∀n∈t,TW.aF u n.num):TW.Chain t (cM t u) u:=by
 have und:=aH U;have hst:∀n∈t,(n.st=none↔bx u n.num=none):=λn hn=>by
  obtain⟨y,hy,e⟩:=h2 n hn;rw[show bx u n.num=y.st by rw[←e];exact fA und hy];exact sk n hn y hy e.symm
 have ndt:t.Nodup:=by
  have:=T.rise;exact this.imp λh e=>by rw[e]at h;omega
 have c:=pZ (u:=u) (L:=t.filter λn=>!decide (n.st=bx u n.num)) (t:=t) (aH T) (ndt.filter _) λn hn=>by
  obtain⟨a,b⟩:=mem_filter.mp hn;have hne:n.st≠bx u n.num:=λe=>by rw[decide_eq_true e]at b;cases b
  refine⟨a,λe=>hne ?_,λe=>hne ?_⟩
  ·rw[e,(hst n a).mp e]
  ·rw[e,(hst n a).mpr e]
 have e:t.map (λn=>if n∈t.filter (λn=>!decide (n.st=bx u n.num))then stW u n else n)=u:=by
  rw[←nP T U h1 h2];refine map_congr_left λn hn=>?_
  by_cases hh:n.st=bx (t.map λn=>(⟨n.num,n.par,n.nm,bx u n.num⟩:Nd)) n.num
  ·rw[nP T U h1 h2]at hh⊢;rw[if_neg λh=>by have:=(mem_filter.mp h).2;rw[decide_eq_true hh]at this;cases this];rw[←hh]
  ·rw[nP T U h1 h2]at hh⊢;rw[if_pos (mem_filter.mpr ⟨hn,by rw[decide_eq_false hh];rfl⟩)];rfl
 rw[e]at c;exact c
theorem nQ{t0 u t2:List Nd}{dd:List (TW.Deed Str)}(U:TW.Tree1 u)(I:Iv t0 u t2 dd)(hn:Nxt t2 u dd none)(hc:TW.Chain t0 dd t2):TW.Chain t0 (dd++cM t2 u) u:=by
 obtain⟨h1,h2⟩:=eE I.tr U I.sk I.as hn;exact jV hc (lZ I.tr U I.sk h1 h2)
def eF:TW.Deed Str→Str
 |.make _ _ _ _=>"make"
 |.write _ _=>"write"
 |.move _ _ _=>"move"
 |.drop _=>"drop"
def wds(k:Int)(ds:List (TW.Deed Str)):List Str:=(ds.filter λd=>decide (bc d=k)).map eF
theorem cC(k:Int)(ds es:List (TW.Deed Str)):wds k (ds++es)=wds k ds++wds k es:=by unfold wds;rw[filter_append,map_append]
theorem gS{k:Int}{d:TW.Deed Str}(h:bc d=k):wds k [d]=[eF d]:=by unfold wds;rw[filter_cons,decide_eq_true h];rfl
theorem im{k:Int}{d:TW.Deed Str}(h:bc d≠k):wds k [d]=[]:=by unfold wds;rw[filter_cons,decide_eq_false h];rfl
theorem rO{k:Int}{ds:List (TW.Deed Str)}(h:("move":Str)∈wds k ds):cW ds k:=by
 unfold wds at h;obtain⟨d,hd,e⟩:=mem_map.mp h;obtain⟨h1,h2⟩:=mem_filter.mp hd;refine⟨d,h1,?_,of_decide_eq_true h2⟩;cases d with
 |make _ _ _ _=>exact absurd e (show ¬(("make":Str)="move")by decide +kernel)
 |write _ _=>exact absurd e (show ¬(("write":Str)="move")by decide +kernel)
 |move _ _ _=>rfl
 |drop _=>exact absurd e (show ¬(("drop":Str)="move")by decide +kernel)
structure Cnt(t0 u:List Nd)(ds:List (TW.Deed Str))(t:List Nd):Prop where
 out:∀k,¬TW.aF u k→wds k ds=[]∨(wds k ds=[("drop":Str)]∧¬TW.aF t k)
 new:∀n∈u,¬TW.aF t0 n.num→(wds n.num ds=[]∧¬TW.aF t n.num)∨(wds n.num ds=[("make":Str)]∧n∈t)
 old:∀n∈u,∀o∈t0,o.num=n.num→∃m∈t,m.num=n.num∧m.st=o.st∧((wds n.num ds=[]∧m.par=o.par∧m.nm=o.nm)∨(wds n.num ds=[("move":Str)]∧¬(o.par=n.par∧o.nm=n.nm))∨(wds n.num ds=[("move":Str),("move":Str)]∧¬(o.par=n.par∧o.nm=n.nm)∧cf t n))
section
variable{t0 u t:List Nd}{ds:List (TW.Deed Str)}
theorem qb:Cnt t0 u [] t0:=⟨λk _=>.inl rfl,λn hn h=>.inl ⟨rfl,h⟩,λn hn o ho e=>⟨o,ho,e,rfl,.inl ⟨rfl,rfl,rfl⟩⟩⟩
theorem rP(T:TW.Tree1 t)(C:Cnt t0 u ds t){x:Nd}(hx:kA t (TW.dQ t u) x){t1:List Nd}(told:TW.Told t (.drop x.num) (.inr t1)):Cnt t0 u (ds++[.drop x.num]) t1:=by
 obtain⟨mx,hd⟩:=fQ hx;have x0:x.num≠0:=by have:=T.pos x mx;omega
 have xu:¬TW.aF u x.num:=λh=>hd.1 ⟨x0,x,mx,h,.here⟩;cases told with
 |@dropped _ f _ hf =>
  have stay:∀m∈t,TW.aF u m.num→m∈t.filter f:=λm hm hu=>mem_filter.mpr ⟨hm,(hf m hm).mpr λh=>hd.1 ⟨x0,m,hm,hu,h⟩⟩;have sub:∀m,m∈t.filter f→m∈t:=λm hm=>(mem_filter.mp hm).1;have subN:∀k,TW.aF (t.filter f) k→TW.aF t k:=λk ⟨m,hm,e⟩=>⟨m,sub m hm,e⟩;have nu:∀n∈u,wds n.num (ds++[.drop x.num])=wds n.num ds:=λn hn=>by
   rw[cC,im (show bc (TW.Deed.drop x.num:TW.Deed Str)≠n.num from λe=>xu ⟨n,hn,e.symm⟩),append_nil]
  refine⟨λk hk=>?_,λn hn h=>?_,λn hn o ho e=>?_⟩
  ·by_cases e:x.num=k
   ·right
    subst e;have h0:wds x.num ds=[]:=by
     rcases C.out x.num hk with h|⟨_,h⟩
     ·exact h
     ·exact absurd ⟨x,mx,rfl⟩ h
    refine⟨by rw[cC,h0,gS (show bc (TW.Deed.drop x.num:TW.Deed Str)=x.num from rfl)];rfl,λ⟨m,hm,em⟩=>?_⟩;obtain⟨h1,h2⟩:=mem_filter.mp hm;exact(hf m h1).mp h2 (by rw[em];exact .here)
   ·rw[cC,im (show bc (TW.Deed.drop x.num:TW.Deed Str)≠k from e),append_nil];rcases C.out k hk with h|⟨h,h'⟩
    ·exact .inl h
    ·exact .inr ⟨h,λh2=>h' (subN k h2)⟩
  ·rw[nu n hn];rcases C.new n hn h with⟨a,b⟩|⟨a,b⟩
   ·exact .inl ⟨a,λh2=>b (subN _ h2)⟩
   ·exact .inr ⟨a,stay n b ⟨n,hn,rfl⟩⟩
  ·rw[nu n hn];obtain⟨m,hm,e1,e2,h⟩:=C.old n hn o ho e;refine⟨m,stay m hm ⟨n,hn,e1.symm⟩,e1,e2,?_⟩;rcases h with h|h|⟨a,b,m',hm',f1,f2⟩
   ·exact .inl h
   ·exact .inr (.inl h)
   ·exact .inr (.inr ⟨a,b,m',stay m' hm' ⟨n,hn,f1.symm⟩,f1,f2⟩)
theorem rQ(U:TW.Tree1 u)(C:Cnt t0 u ds t){n:Nd}(hn:n∈u)(h1:¬TW.aF t n.num){v:List Nd}(told:TW.Told t (.make n.num n.par n.nm n.st) (.inr v)):Cnt t0 u (ds++[.make n.num n.par n.nm n.st]) v:=by
 cases told with
 |made _ _ _ hp _ =>
  have hp':v.Perm (n::t):=hp;have mem:∀m,m∈v↔m=n∨m∈t:=λm=>by rw[hp'.mem_iff,mem_cons]
  have hasV:∀k,k≠n.num→TW.aF v k→TW.aF t k:=λk hk ⟨m,hm,e⟩=>by
   rcases (mem m).mp hm with rfl|hm
   ·exact absurd e.symm hk
   ·exact⟨m,hm,e⟩
  have other:∀k,k≠n.num→wds k (ds++[.make n.num n.par n.nm n.st])=wds k ds:=λk hk=>by
   rw[cC,im (show bc (TW.Deed.make n.num n.par n.nm n.st:TW.Deed Str)≠k from symm hk),append_nil]
  refine⟨λk hk=>?_,λx hx h=>?_,λx hx o ho e=>?_⟩
  ·have ne:k≠n.num:=λe=>hk ⟨n,hn,e.symm⟩;rw[other k ne];rcases C.out k hk with h|⟨h,h'⟩
   ·exact .inl h
   ·exact .inr ⟨h,λh2=>h' (hasV k ne h2)⟩
  ·by_cases e:x.num=n.num
   ·have:x=n:=U.inj hx hn e;subst this
    right
    have h0:wds x.num ds=[]:=by
     rcases C.new x hx h with⟨a,_⟩|⟨_,b⟩
     ·exact a
     ·exact absurd ⟨x,b,rfl⟩ h1
    exact⟨by rw[cC,h0,gS (show bc (TW.Deed.make x.num x.par x.nm x.st:TW.Deed Str)=x.num from rfl)];rfl,(mem x).mpr (.inl rfl)⟩
   ·rw[other _ e];rcases C.new x hx h with⟨a,b⟩|⟨a,b⟩
    ·exact .inl ⟨a,λh2=>b (hasV _ e h2)⟩
    ·exact .inr ⟨a,(mem x).mpr (.inr b)⟩
  ·obtain⟨m,hm,e1,e2,h⟩:=C.old x hx o ho e;have ne:x.num≠n.num:=λe'=>h1 ⟨m,hm,e1.trans e'⟩;rw[other _ ne];refine⟨m,(mem m).mpr (.inr hm),e1,e2,?_⟩;rcases h with h|h|⟨a,b,m',hm',f1⟩
   ·exact .inl h
   ·exact .inr (.inl h)
   ·exact .inr (.inr ⟨a,b,m',(mem m').mpr (.inr hm'),f1⟩)
theorem ma(T:TW.Tree1 t)(U:TW.Tree1 u)(C:Cnt t0 u ds t){n y:Nd}(hn:n∈u)(hy:y∈t)(ey:y.num=n.num)(np:¬cf t n){p:Int}{nm:Str}(hw:(p=n.par∧nm=n.nm)∨¬cW ds n.num):Cnt t0 u (ds++[.move n.num p nm]) (t.map (TW.put ⟨n.num,p,nm,y.st⟩)):=by
 have other:∀k,k≠n.num→wds k (ds++[.move n.num p nm])=wds k ds:=λk hk=>by
  rw[cC,im (show bc (TW.Deed.move n.num p nm:TW.Deed Str)≠k from symm hk),append_nil]
 have hasV:∀k,TW.aF (t.map (TW.put ⟨n.num,p,nm,y.st⟩)) k→TW.aF t k:=λk ⟨m,hm,e⟩=>by
  rcases put_mem hm with⟨rfl,_⟩|⟨hm,_⟩
  ·exact⟨y,hy,ey.trans e⟩
  ·exact⟨m,hm,e⟩
 refine⟨λk hk=>?_,λx hx h=>?_,λx hx o ho e=>?_⟩
 ·have ne:k≠n.num:=λe=>hk ⟨n,hn,e.symm⟩;rw[other k ne];rcases C.out k hk with h|⟨h,h'⟩
  ·exact .inl h
  ·exact .inr ⟨h,λh2=>h' (hasV k h2)⟩
 ·by_cases e:x.num=n.num
  ·have:x=n:=U.inj hx hn e;subst this;rcases C.new x hx h with⟨_,b⟩|⟨_,b⟩
   ·exact absurd ⟨y,hy,ey⟩ b
   ·exact absurd ⟨x,b,rfl,rfl,rfl⟩ np
  ·rw[other _ e];rcases C.new x hx h with⟨a,b⟩|⟨a,b⟩
   ·exact .inl ⟨a,λh2=>b (hasV _ h2)⟩
   ·exact .inr ⟨a,iF b e⟩
 ·obtain⟨m,hm,e1,e2,h⟩:=C.old x hx o ho e
  by_cases en:x.num=n.num
  ·have:x=n:=U.inj hx hn en;subst this;have my:m=y:=T.inj hm hy (e1.trans ey.symm);subst my;refine⟨_,gR hy ey,rfl,e2,?_⟩;have hwd:wds x.num (ds++[.move x.num p nm])=wds x.num ds++[("move":Str)]:=by rw[cC,gS (show bc (TW.Deed.move x.num p nm:TW.Deed Str)=x.num from rfl)];rfl
   rw[hwd];rcases h with⟨a,b,c⟩|⟨a,b⟩|⟨_,_,b⟩
   ·exact .inr (.inl ⟨by rw[a];rfl,λ⟨f1,f2⟩=>np ⟨m,hm,e1,b.trans f1,c.trans f2⟩⟩)
   ·rcases hw with⟨g1,g2⟩|g
    ·exact .inr (.inr ⟨by rw[a];rfl,b,_,gR hy ey,rfl,g1,g2⟩)
    ·exact absurd (rO (by rw[a];exact mem_cons_self)) g
   ·exact absurd b np
  ·rw[other _ en];have mne:m.num≠n.num:=λe'=>en (e1.symm.trans e');refine⟨m,iF hm mne,e1,e2,?_⟩;rcases h with h|h|⟨a,b,m',hm',f1,f2⟩
   ·exact .inl h
   ·exact .inr (.inl h)
   ·exact .inr (.inr ⟨a,b,m',iF hm' (λe'=>en (f1.symm.trans e')),f1,f2⟩)
theorem rR(T:TW.Tree1 t)(U:TW.Tree1 u)(C:Cnt t0 u ds t){d:TW.Deed Str}(hn:Nxt t u ds (some d)){t1:List Nd}(told:TW.Told t d (.inr t1)):Cnt t0 u (ds++[d]) t1:=by
 have notp:∀{n m:Nd},m∈t→m.num=n.num→¬(m.par=n.par∧m.nm=n.nm)→¬cf t n:=λ{n m} hm em hne ⟨m',hm',e1,e2,e3⟩=>hne (by
  have:m'=m:=T.inj hm' hm (e1.trans em.symm);subst this;exact⟨e2,e3⟩)
 cases hn with
 |drop hx=>exact rP T C hx told
 |place hno hP hf =>
  obtain⟨n,hn,hpc⟩:=fG hP d (fQ hf).1;cases hpc with
  |new h1=>exact rQ U C hn h1 told
  |mv hm em hne =>
   have np:=notp hm em hne;cases told with
   |moved hy ey _ _ _=>exact ma T U C hn hy ey np (.inl ⟨rfl,rfl⟩)
 |@aside ps d0 c hno hP href hf hc =>
  obtain⟨h0,hm1,hm2⟩:=fQ hf;obtain⟨n,hn,hpc⟩:=fG hP d0 h0;cases hpc with
  |new _=>cases hm1
  |mv hm em hne =>
   have np:=notp hm em hne;cases told with
   |moved hy ey _ _ _=>exact ma T U C hn hy ey np (.inr hm2)
theorem tR(U:TW.Tree1 u){d:TW.Deed Str}(h:Nxt t u ds (some d)):d.pos:=by
 cases h with
 |drop _=>trivial
 |place _ hP hf =>
  obtain⟨n,hn,hpc⟩:=fG hP d (fQ hf).1;cases hpc with
  |new _=>exact U.pos n hn
  |mv _ _ _=>trivial
 |aside _ _ _ _ _=>trivial
theorem dq(U:TW.Tree1 u)(T0:TW.Tree1 t0)(h:Trace u t0 ds t):TW.Tree1 t∧Cnt t0 u ds t:=by
 induction h with
 |nil=>exact⟨T0,qb⟩
 |snoc _ hn told ih=>exact⟨told.tree ih.1 (tR U hn),rR ih.1 U ih.2 hn told⟩
theorem qc{a b:List (TW.Deed Str)}(h:Trace u t0 (a++b) t):∃t',Trace u t0 a t':=by
 generalize e:a++b=ds at h
 induction h generalizing b with
 |nil =>
  obtain⟨rfl,rfl⟩:=List.append_eq_nil_iff.mp e;exact⟨_,.nil⟩
 |@snoc ds t t1 d hh hn told ih =>
  rcases List.eq_nil_or_concat b with rfl|⟨b',x,rfl⟩
  ·rw[append_nil]at e;subst e;exact⟨_,.snoc hh hn told⟩
  ·rw[List.concat_eq_append,←append_assoc]at e;exact ih (rN e).1
theorem nR(T0:TW.Tree1 t0)(U:TW.Tree1 u)(h:Trace u t0 ds t):∀d∈ds,ft d=false→eF d="drop"→¬TW.aF u (bc d):=by
 induction h with
 |nil=>intro d hd;cases hd
 |@snoc ds t t1 d hh hn told ih =>
  intro e he h1 h2;rcases mem_append.mp he with he|he
  ·exact ih e he h1 h2
  ·have:e=d:=mem_singleton.mp he;subst this;have T:=(dq U T0 hh).1;cases hn with
   |@drop x hx =>
    obtain⟨mx,hd⟩:=fQ hx;intro hu;exact hd.1 ⟨by have:=T.pos x mx;omega,x,mx,hu,.here⟩
   |place _ hP hf =>
    obtain⟨n,hn,hpc⟩:=fG hP e (fQ hf).1;cases hpc with
    |new _=>exact absurd h2 (show ¬(("make":Str)="drop")by decide +kernel)
    |mv _ _ _=>cases h1
   |aside _ _ _ _ _=>cases h1
theorem md(nd:(t.map (·.num)).Nodup){m:Nd}(hm:m∈t):wds m.num (cM t u)=if m.st=bx u m.num then []else [("write":Str)]:=by
 unfold cM
 induction t with
 |nil=>cases hm
 |cons x r ih =>
  rw[map_cons,nodup_cons]at nd;have hno:∀k,(∀y∈r,y.num≠k)→wds k ((r.filter λn=>!decide (n.st=bx u n.num)).map λn=>(.write n.num ((bx u n.num).getD 0):TW.Deed Str))=[]:=λk hk=>by
   unfold wds;rw[List.map_eq_nil_iff,List.filter_eq_nil_iff];intro d hd h;obtain⟨y,hy,rfl⟩:=mem_map.mp hd;exact hk y (mem_filter.mp hy).1 (of_decide_eq_true h)
  have split:(((x::r).filter λn=>!decide (n.st=bx u n.num)).map λn=>(.write n.num ((bx u n.num).getD 0):TW.Deed Str))=(if x.st=bx u x.num then []else [(.write x.num ((bx u x.num).getD 0):TW.Deed Str)])++((r.filter λn=>!decide (n.st=bx u n.num)).map λn=>(.write n.num ((bx u n.num).getD 0):TW.Deed Str)):=by
   rw[filter_cons]
   by_cases e:x.st=bx u x.num
   ·rw[if_pos e,decide_eq_true e];rfl
   ·rw[if_neg e,decide_eq_false e];rfl
  rw[split,cC];rcases mem_cons.mp hm with e|hm
  ·subst e;rw[hno m.num λy hy e=>nd.1 (mem_map.mpr ⟨y,hy,e⟩),append_nil]
   by_cases e:m.st=bx u m.num
   ·rw[if_pos e,if_pos e];rfl
   ·rw[if_neg e,if_neg e,gS (show bc (TW.Deed.write m.num ((bx u m.num).getD 0):TW.Deed Str)=m.num from rfl)];rfl
  ·have ne:x.num≠m.num:=λe=>nd.1 (mem_map.mpr ⟨m,hm,e.symm⟩);rw[ih nd.2 hm]
   by_cases e:x.st=bx u x.num
   ·rw[if_pos e];rfl
   ·rw[if_neg e,im (show bc (TW.Deed.write x.num ((bx u x.num).getD 0):TW.Deed Str)≠m.num from ne)];rfl
theorem mf{k:Int}(h:¬TW.aF t k):wds k (cM t u)=[]:=by
 unfold wds cM;rw[List.map_eq_nil_iff,List.filter_eq_nil_iff];intro d hd h';obtain⟨y,hy,rfl⟩:=mem_map.mp hd;exact h ⟨y,(mem_filter.mp hy).1,of_decide_eq_true h'⟩
end
section
variable{t0 u tt:List Nd}{dd:List (TW.Deed Str)}
theorem iG{t:List Nd}(T:TW.Tree1 t):(t.map (·.num)).Nodup:=by
 have:=T.rise;unfold Nodup;rw[pairwise_map];exact this.imp λh e=>by omega
theorem tS(T0:TW.Tree1 t0)(U:TW.Tree1 u)(I:Iv t0 u tt dd)(h:Trace u t0 dd tt)(hn:Nxt tt u dd none){n:Nd}(hu:n∈u)(h0:¬TW.aF t0 n.num):wds n.num (dd++cM tt u)=[("make":Str)]:=by
 obtain⟨h1,h2⟩:=eE I.tr U I.sk I.as hn;obtain⟨T,C⟩:=dq U T0 h;rcases C.new n hu h0 with⟨_,no⟩|⟨e,hm⟩
 ·obtain⟨m,hm,em,_⟩:=h1 n hu;exact absurd ⟨m,hm,em⟩ no
 ·rw[cC,e,md (iG T) hm,fA (iG U) hu,if_pos rfl];rfl
theorem tT(T0:TW.Tree1 t0)(U:TW.Tree1 u)(I:Iv t0 u tt dd)(h:Trace u t0 dd tt)(hn:Nxt tt u dd none){n o:Nd}(hu:n∈u)(ho:o∈t0)(eo:o.num=n.num):
  ∃ms:List Str,wds n.num (dd++cM tt u)=ms++(if o.st=n.st then []else [("write":Str)])∧((ms=[]∧o.par=n.par∧o.nm=n.nm)∨((ms=[("move":Str)]∨ms=[("move":Str),("move":Str)])∧¬(o.par=n.par∧o.nm=n.nm))):=by
 obtain⟨h1,h2⟩:=eE I.tr U I.sk I.as hn;obtain⟨T,C⟩:=dq U T0 h;obtain⟨m,hm,em,es,hc⟩:=C.old n hu o ho eo;have ew:wds n.num (cM tt u)=if o.st=n.st then []else [("write":Str)]:=by
  rw[←em,md (iG T) hm,em,fA (iG U) hu,es]
 refine⟨wds n.num dd,by rw[cC,ew],?_⟩;rcases hc with⟨e,e1,e2⟩|⟨e,ne⟩|⟨e,ne,_⟩
 ·obtain⟨m',hm',em',ep,en⟩:=h1 n hu;have:=T.inj hm hm' (em.trans em'.symm);subst this;exact .inl ⟨e,e1.symm.trans ep,e2.symm.trans en⟩
 ·exact .inr ⟨.inl e,ne⟩
 ·exact .inr ⟨.inr e,ne⟩
theorem tU(T0:TW.Tree1 t0)(U:TW.Tree1 u)(I:Iv t0 u tt dd)(h:Trace u t0 dd tt)(hn:Nxt tt u dd none){k:Int}(hk:¬TW.aF u k):wds k (dd++cM tt u)=[]∨wds k (dd++cM tt u)=[("drop":Str)]:=by
 obtain⟨h1,h2⟩:=eE I.tr U I.sk I.as hn;obtain⟨T,C⟩:=dq U T0 h;have no:¬TW.aF tt k:=λ⟨m,hm,em⟩=>hk (em ▸ h2 m hm);rw[cC,mf no,append_nil];rcases C.out k hk with e|⟨e,_⟩
 ·exact .inl e
 ·exact .inr e
end
end TK
namespace TW
section
variable{S:Type}
end
end TW
namespace TW
section
variable{S:Type}
section
variable{q:S→Bool}{t:List (Nd S)}
end
end
end TW
namespace TW
section
variable{S:Type}
section
variable{t u:List (Nd S)}{k g:Int}
theorem nS{t:List (Nd S)}(T:Tree1 t){n:Nd S}(hn:n∈t):n.par=0∨∃m∈t,m.num=n.par:=by
 have:=T.down n hn;cases this with
 |base _ e=>exact .inl e
 |@step m _ hr _ _ e=>exact .inr ⟨m,hr.mem,e.symm⟩
end
def reG(g:Int→Int)(n:Nd S):Nd S:=⟨g n.num,g n.par,n.nm,n.st⟩
section
variable{t u:List (Nd S)}{g:Int→Int}
theorem tV(T:Tree1 t)(h0:g 0=0)(h1:∀n∈t,1≤g n.num)(inj:∀a∈t,∀b∈t,g a.num=g b.num→a.num=b.num)(hu:∀n,n∈u↔∃m∈t,n=reG g m)(hl:u.Perm (t.map (reG g)))(hr:cE u):Tree1 u:=by
 refine⟨⟨hr,?_,λn hn=>?_⟩,λn hn=>?_⟩
 ·unfold dA;rw[(hl.map _).nodup_iff,map_map];have own:=T.own;unfold dA Nodup at own;unfold Nodup;rw[pairwise_map]at own⊢;refine own.imp_of_mem λ{a b} ha hb hab e=>hab ?_;have e1:g a.par=g b.par:=congrArg Prod.fst e;have e2:a.nm=b.nm:=congrArg Prod.snd e;have ep:a.par=b.par:=by
   rcases nS T ha with za|⟨x,hx,ex⟩<;>rcases nS T hb with zb|⟨y,hy,ey⟩
   ·rw[za,zb]
   ·rw[za,h0,←ey]at e1;have:=h1 y hy;omega
   ·rw[zb,h0,←ex]at e1;have:=h1 x hx;omega
   ·rw[←ex,←ey]at e1⊢;exact inj x hx y hy e1
  show(a.par,a.nm)=(b.par,b.nm);rw[ep,e2]
 ·obtain⟨m,hm,rfl⟩:=(hu n).mp hn;have h:=T.down m hm;clear hn hm
  induction h with
  |@base n hm hp=>exact .base ((hu _).mpr ⟨n,hm,rfl⟩) (by show g n.par=0;rw[hp,h0])
  |@step m n hr hf hm hp ih=>exact .step ih hf ((hu _).mpr ⟨n,hm,rfl⟩) (by show g n.par=g m.num;rw[hp])
 ·obtain⟨m,hm,rfl⟩:=(hu n).mp hn;exact h1 m hm
end
end
end TW
namespace TK
open PySem L2
section
variable{t u v:List Nd}
def Unl(t u:List Nd)(k:Int):Prop:=∃m∈t,∃n∈u,m.num=k∧n.num=k∧¬(m.st=none↔n.st=none)
open Classical in
def g60(t u:List Nd)(k:Int):Int:=if Unl t u k then k+60 else k
theorem jm{k:Int}(h:Unl t u k):g60 t u k=k+60:=by unfold g60;rw[if_pos h]
theorem iw{k:Int}(h:¬Unl t u k):g60 t u k=k:=by unfold g60;rw[if_neg h]
theorem kH(ht:∀m∈t,1≤m.num∧m.num≤30){k:Int}(h:Unl t u k):1≤k∧k≤30:=by
 obtain⟨m,hm,n,hn,e1,_,_⟩:=h;have:=ht m hm;omega
theorem uA(ht:∀m∈t,1≤m.num∧m.num≤30):g60 t u 0=0:=iw λh=>by have:=kH ht h;omega
theorem oW(ht:∀m∈t,1≤m.num∧m.num≤30){a b:Int}(ha:a≤60)(hb:b≤60)(e:g60 t u a=g60 t u b):a=b:=by
 by_cases h1:Unl t u a<;>by_cases h2:Unl t u b
 ·rw[jm h1,jm h2]at e;omega
 ·rw[jm h1,iw h2]at e;have:=kH ht h1;omega
 ·rw[iw h1,jm h2]at e;have:=kH ht h2;omega
 ·rw[iw h1,iw h2]at e;exact e
theorem nT(ht:∀m∈t,1≤m.num∧m.num≤30){a:Int}(h1:0≤a)(h2:a≤60):a≤g60 t u a∧g60 t u a≤99:=by
 by_cases h:Unl t u a
 ·rw[jm h];have:=kH ht h;omega
 ·rw[iw h];omega
theorem tW(ht:∀m∈t,1≤m.num∧m.num≤30)(U:TW.Tree1 u)(hu:∀n∈u,n.num≤60∧0≤n.par∧n.par≤60∧n.nm.length≤100)(hp:v.Perm (u.map (TW.reG (g60 t u))))(hr:TW.cE v):TW.Tree1 v∧dF t v∧(∀n∈v,cL n)∧v.length=u.length:=by
 have mem:∀n,n∈v↔∃m∈u,n=TW.reG (g60 t u) m:=λn=>by
  rw[hp.mem_iff,mem_map];exact⟨λ⟨m,h,e⟩=>⟨m,h,e.symm⟩,λ⟨m,h,e⟩=>⟨m,h,e.symm⟩⟩
 refine⟨TW.tV U (uA ht) (λn hn=>?_) (λa ha b hb e=>oW ht (hu a ha).1 (hu b hb).1 e) mem hp hr,λm hm n hn e=>?_,λn hn=>?_,by rw[hp.length_eq,length_map]⟩
 ·have h1:=U.pos n hn;have:=nT (u:=u) ht (a:=n.num) (by omega) (hu n hn).1;omega
 ·obtain⟨x,hx,rfl⟩:=(mem n).mp hn;have e':m.num=g60 t u x.num:=e;show m.st=none↔x.st=none
  by_cases h:Unl t u x.num
  ·rw[jm h]at e';have h1:=U.pos x hx;have:=ht m hm;omega
  ·rw[iw h]at e';exact Classical.byContradiction λhc=>h ⟨m,hm,x,hx,e',rfl,hc⟩
 ·obtain⟨x,hx,rfl⟩:=(mem n).mp hn;have h1:=U.pos x hx;obtain⟨a1,a2,a3,a4⟩:=hu x hx;have b1:=nT (u:=u) ht (a:=x.num) (by omega) a1;have b2:=nT (u:=u) ht (a:=x.par) a2 a3;exact⟨(show 1≤g60 t u x.num by omega),b1.2,(show 0≤g60 t u x.par by omega),b2.2,a4⟩
end
section
variable{P:Program}{w:World}{K:PySem.W.Frag}{mg:Str→Option Value}{base:Heap}
def gm:Sp:=λvs H Q _=>∃t zs,vs=[.ref t]∧Tre H t zs∧∀d as H',Same H H'→H d=none→Book H' d as zs→H' d=some (.dK (aM as))→Q (.ref d) H'
theorem vZ:FnScope ["_law_tree_here"] ["_law_tree_here"] (ai qZ):=fsc
theorem tX{f:Addr}{fd:FuncData}(F:Fun K "_law_book" "_law_book" qZ f fd)(T:Txt mg):FnOk P w K mg base CX0 1 f fd ["_law_tree_here"] gm:=by
 refine F.ok vZ (λvs H Q E h=>?_) (λcdv A outer s H vs Q E hr h=>?_)
 ·obtain⟨t,zs,rfl,_⟩:=h;rfl
 ·obtain⟨t,zs,rfl,tr,k⟩:=h;have hnd:=aH tr.tr;have hl:=tr.len;have ht:=tr.tup;have hA:=tr.nod;refine⟨_,aj (ax (bh (fe rfl) rfl T.dict boot_dict (aa (fT (N:=["_law_node"]) (k:=1) (js:=[]) (g:=be 0) rfl (dS rfl (by decide +kernel) (by decide +kernel) (by decide +kernel)) rfl (λi j x h=>by simp at h)
   (cD (pv 0)) (λs H fp=>aG (i:=0) (show(["_law_node"]:List Str).Nodup by decide +kernel) rfl (Or.inl rfl) (Or.inr rfl))
   (λs H fp=>bn (aa (av (r:=cw K) ao (pv 0) ag (λ_ _=>rfl)) (aa (cj (r:=mY K) cY (pv 0) (bA ag) eI) ah)))) ah))),?_⟩
  refine⟨_,rfl,t,rfl,⟨_,SqT.of ht⟩,λp hp=>?_⟩;refine qK (fr:=[]) zs.length (by omega) hp rfl (λi y H'=>∃q t' z,zs[i]?=some z∧y=.ref q∧q≠p∧t'≠p∧H' q=some (.tup [.int z.2.num,.ref t'])∧H' t'=some (.tup (bJ z.2))) (λi y H1 H2 h ex=>?_) (λi H' hi s1=>?_) (λH' s1=>?_) ?_ (λi H' x H2 hi s1 hpl hy=>?_) (λys H' s1 hp' hlen hys=>?_)
  ·obtain⟨q,t',z,e1,e2,e3,e4,e5,e6⟩:=h;exact⟨q,t',z,e1,e2,e3,e4,ex q _ e3 e5,ex t' _ e4 e6⟩
  ·exact⟨_,_,SqT.of (s1 _ _ ht),ja (getElem?_eq_getElem hi)⟩
  ·exact⟨_,SqT.of (s1 _ _ ht),by rw[bo];exact le_refl _⟩
  ·rintro _ _ _ _ m ⟨v1,b1,p1,xs,i1,v2,c1,c2,c3,c4,v3,b3,i3,d0,a3,xs3,d1,d2,d3,q⟩;refine⟨v1,b1,p1,xs,i1,v2,c1,c2,c3,c4,v3,b3,i3,d0,a3,xs3,d1,d2,d3,λl hl=>?_⟩;obtain⟨hz',q'⟩:=q l hl;exact⟨hz',λl' hl'=>m _ _ (q' l' hl')⟩
  ·obtain⟨rfl,hx⟩:=hy;obtain⟨z,gz,rfl⟩:=cr (hx _ (SqT.of (s1 _ _ ht)));have mz:=mem_of_getElem? gz;have hz1:=s1 _ _ (hA z mz);have ecut:eJ (vals z.2) (some 1) none=bJ z.2:=rfl;refine⟨rfl,_,rfl,z.1,_,_,_,rfl,rfl,SqT.of hz1,at0 z.2,_,rfl,_,rfl,z.1,_,rfl,SqT.of hz1,(by intro h;exact absurd h.1 (show ¬HT.sIx 4 0 (some 1)=0 by decide)),λt' ht'=>?_⟩;rw[ecut];have s2:=af (o:=.tup (bJ z.2)) ht';have hpl2:∃ys,upd H2 t' (.tup (bJ z.2)) p=some (.lst ys):=let⟨ys,e⟩:=hpl;⟨ys,s2 _ _ e⟩;refine⟨le2,λq hq=>⟨s2.trans (af hq),q,t',z,gz,rfl,dz hpl2 hq,dz hpl ht',ac,bu hq ac⟩⟩
  ·obtain⟨as,e1,e2,e3⟩:∃as:List ((Addr×Addr)×(Addr×Nd)),as.map (·.2)=zs∧ys=(as.map (·.1.1)).map V.ref∧∀a∈as,H' a.1.1=some (.tup [.int a.2.2.num,.ref a.1.2])∧H' a.1.2=some (.tup (bJ a.2.2)):=by
    clear hp';have main:∀(ys:List V)(xs:ZN),ys.length=xs.length→(∀(i:Nat) y,ys[i]?=some y→∃q t' z,xs[i]?=some z∧y=.ref q∧q≠p∧t'≠p∧H' q=some (.tup [.int z.2.num,.ref t'])∧H' t'=some (.tup (bJ z.2))) →
      ∃as:List ((Addr×Addr)×(Addr×Nd)),as.map (·.2)=xs∧ys=(as.map (·.1.1)).map V.ref∧∀a∈as,H' a.1.1=some (.tup [.int a.2.2.num,.ref a.1.2])∧H' a.1.2=some (.tup (bJ a.2.2)):=by
     intro ys
     induction ys with
     |nil =>
      intro xs hl _;have:xs=[]:=length_eq_zero_iff.mp hl.symm;subst this;exact⟨[],rfl,rfl,by simp⟩
     |cons y ys ih =>
      intro xs hl h;cases xs with
      |nil=>simp at hl
      |cons x xs =>
       obtain⟨as,e1,e2,e3⟩:=ih xs (by simpa using hl) λi y hy=>by simpa using h (i+1) y (by simpa using hy)
       obtain⟨q,t',z,f1,f2,f3,f4,f5,f6⟩:=h 0 y rfl;have:x=z:=by simpa using f1
       subst this;refine⟨((q,t'),x)::as,by simp[e1],by simp[e2,f2],λa ha=>?_⟩;rcases mem_cons.mp ha with rfl|ha
       ·exact⟨f5,f6⟩
       ·exact e3 a ha
    exact main ys zs hlen hys
   have hal:as.length=zs.length:=by rw[←e1,length_map]
   refine⟨p,as.map λa=>(a.1.1,(Sum.inl a.2.2.num:Key),V.ref a.1.2),rfl,?_,?_,?_,?_,λd hd=>?_⟩
   ·rw[hp',e2,map_map,map_map,map_map];rfl
   ·intro z hz;obtain⟨a,ha,rfl⟩:=mem_map.mp hz;exact(e3 a ha).1
   ·rw[length_map];omega
   ·rw[map_map];have:(as.map ((λx:Addr×Key×V=>x.2.1)∘λa=>(a.1.1,(Sum.inl a.2.2.num:Key),V.ref a.1.2)))=((nds zs).map (·.num)).map (Sum.inl:Int→Key):=by
     rw[←e1];unfold nds;simp only[map_map];rfl
    rw[this];unfold Nodup at hnd⊢;rw[pairwise_map];exact hnd.imp λh e=>h (by injection e)
   ·have sd:=af (o:=.dK ((as.map λa=>(a.1.1,(Sum.inl a.2.2.num:Key),V.ref a.1.2)).map (·.2))) hd;have ed:upd H' d (.dK ((as.map λa=>(a.1.1,(Sum.inl a.2.2.num:Key),V.ref a.1.2)).map (·.2))) d=some (.dK (aM (as.map λa=>(a.1.2,a.2)))):=by
     rw[ac];refine congrArg (λx=>some (HO.dK x)) ?_;unfold aM;simp only[map_map];rfl
    refine k d (as.map λa=>(a.1.2,a.2)) _ (s1.trans sd) (s1.free hd) ⟨.inl ed,by rw[map_map];exact e1,λa ha=>?_⟩ ed;obtain⟨b,hb,rfl⟩:=mem_map.mp ha;exact sd _ _ (e3 b hb).2
def jn:Sp:=λvs H Q _=>∃d k g as zs p,vs=[.ref d,.int k,.int g]∧Book H d as zs∧TW.Tree1 (nds zs)∧TW.PathTo (nds zs) k p∧1≤g∧∀b,(b=true↔TW.Und (nds zs) g k)→Q (.bl b) H
theorem uB:FnScope ["_law_book_here","_law_number","_law_goal"] ["_law_book_here","_law_number","_law_goal"] (ai nB):=fsc
theorem wa{f:Addr}{fd:FuncData}(F:Fun K "_law_under" "_law_under" nB f fd):FnOk P w K mg base CX0 1 f fd ["_law_book_here","_law_number","_law_goal"] jn:=by
 refine F.ok uB (λvs H Q E h=>?_) (λcdv A outer s H vs Q E hr h=>?_)
 ·obtain⟨d,k,g,as,zs,p,rfl,_⟩:=h;rfl
 ·obtain⟨d,k,g,as,zs,p,rfl,bk,hTr,hp,hg,q⟩:=h;have hnd:=aH hTr;refine⟨_,ae (dZ PassesOwn.never (PW.pt (pw_and (am cN (pv 1) ag (au _)) (pw_and1 (am cN (pv 1) (pv 2) (au _)))))
    (aj (aq (i:=1) uB.nd rfl (Or.inl rfl) (av ao (aW (aI hr) (pv 0) (pv 1) (λ_ _=>rfl)) ag (λ_ _=>rfl)))))
   (aj (ax (dH cy (pv 1) (pv 2) (au _)))),?_⟩
  refine eW (λσ H'=>∃at' q',σ=[some (.ref d),some (.int at'),some (.int g)]∧TW.PathTo (nds zs) at' q'∧(TW.Und (nds zs) g k↔TW.Und (nds zs) g at')∧H'=H)
   (λσ H'=>match σ with | [_,some (.int k),_]=>lK (nds zs) k | _=>0) ⟨k,p,rfl,hp,Iff.rfl,rfl⟩ (λσ H' h=>?_) ?_
  ·obtain⟨at',q',rfl,hq',hu,rfl⟩:=h;have last:∀b:Bool,(b=true↔TW.Und (nds zs) g at')→Q (.bl b) H':=λb hb=>q b (hb.trans hu.symm);refine⟨_,rfl,rfl,_,rfl,?_⟩
   by_cases h0:at'=0
   ·have hne:decide (V.int at'=V.int 0)=true:=by simp[h0]
    rw[hne];refine aD (aD ⟨_,rfl,_,rfl,rfl,last _ ?_⟩);rw[decide_eq_true_eq];constructor
    ·intro e;injection e with e;omega
    ·intro hx;have:=hx.zero hTr h0;omega
   ·have hne:decide (V.int at'=V.int 0)=false:=by simp[h0]
    rw[hne];refine aQ ⟨_,rfl,_,rfl,rfl,_,rfl,?_⟩
    by_cases hg':at'=g
    ·have hne:decide (V.int at'=V.int g)=true:=by simp[hg']
     rw[hne];refine aD ⟨_,rfl,_,rfl,rfl,last _ ?_⟩;rw[hne];constructor
     ·intro _;rw[hg'];exact .here
     ·intro _;rfl
    ·have hne:decide (V.int at'=V.int g)=false:=by simp[hg']
     rw[hne];refine aQ ?_;obtain⟨z,hz,e1,q'',e2,hq''⟩:=oG hTr hq' h0;subst e1;obtain⟨b,hb1,hb2⟩:=bk.get hnd hz;refine⟨_,rfl,_,rfl,d,_,rfl,hb1,b,_,_,_,rfl,rfl,SqT.of hb2,wU z.2,?_⟩;have mz:z.2∈nds zs:=mem_map.mpr ⟨z,hz,rfl⟩;refine⟨⟨z.2.par,q'',rfl,hq'',hu.trans ⟨λh=>h.inv hTr mz rfl hg',λh=>.up mz h⟩,rfl⟩,?_⟩;show lK (nds zs) z.2.par<lK (nds zs) z.2.num;rw[iE hTr hq'',iE hTr hq',e2];simp
  ·rintro σ H1 Q1 Q2 m ⟨v,e,h2,b,e3,q⟩;refine⟨v,e,h2,b,e3,?_⟩;cases b with
   |false=>exact m _ _ q
   |true =>
    obtain⟨v1,f1,v2,f2,h3,b',e4,q'⟩:=q;exact⟨v1,f1,v2,f2,h3,b',e4,m _ _ q'⟩
end
def SKN:List Str:=["_law_one","_law_other","_law_first","_law_second","_law_both","_law_unlike","_law_names"]
theorem qd:FnScope SKN ["_law_one","_law_other"] (ai aB):=fsc
abbrev SKX(P:Program)(w:World)(K:PySem.W.Frag)(mg:Str→Option Value)(base:Heap)(f:Addr)(cdv:Value)(A:Around)(outer:List Env)(s:Shared)(H:Hp)(E:XK):Cx:=(hU CX0 P w K mg base SKN "_law_same_kinds" (ai aB) f cdv A outer s H E).nox
def skS(i:Nat):Stmt:=(bH aB).getD i (.Pass ⟨0,0,0,0⟩)
structure SKF(H:Hp)(d e:Addr)(as bs:List (Addr×(Addr×Nd)))(zs us:ZN):Prop where
 b1:Book H d as zs
 b2:Book H e bs us
 fr:∃o,H e=some (.frz o (.dK (aM bs)))
 t1:TW.Tree1 (nds zs)
 t2:TW.Tree1 (nds us)
 l1:zs.length≤29
 l2:us.length≤29
theorem SKF.same{H H':Hp}{d e:Addr}{as bs:List (Addr×(Addr×Nd))}{zs us:ZN}(L:SKF H d e as bs zs us)(s:Same H H'):SKF H' d e as bs zs us:=⟨L.b1.same s,L.b2.same s,(let⟨o,h⟩:=L.fr;⟨o,s _ _ h⟩),L.t1,L.t2,L.l1,L.l2⟩
theorem SKF.keys{H:Hp}{d e:Addr}{as bs:List (Addr×(Addr×Nd))}{zs us:ZN}(L:SKF H d e as bs zs us):((aM bs).map λp=>kV p.1)=us.map λz=>V.int z.2.num:=by
 rw[←L.b2.of];unfold aM;simp only[map_map];rfl
open Classical in
def inN(zs:ZN)(z:Addr×Nd):Bool:=decide (∃x∈zs,x.2.num=z.2.num)
section
variable{P:Program}{w:World}{K:PySem.W.Frag}{mg:Str→Option Value}{base:Heap}{f:Addr}{cdv:Value}{A:Around}{outer:List Env}{s:Shared}{H0:Hp}{E:XK}
theorem sk2(hr:Room 1 (A.deeper (PyProof.Rows.envOfC "_law_same_kinds" (ai aB) s.heap.objs.size f cdv))):
  ∃rd,PS (SKX P w K mg base f cdv A outer s H0 E) (skS 2) rd∧∀(D:Ends)(H:Hp)(t u d e:Addr)(as bs:List (Addr×(Addr×Nd)))(zs us:ZN),SKF H d e as bs zs us →
   (∀l H',Same H H'→H' l=some (.lst ((us.filter (inN zs)).map λz=>V.int z.2.num))→D.nx [some (.ref t),some (.ref u),some (.ref d),some (.ref e),some (.ref l),none,none] H')→rd D [some (.ref t),some (.ref u),some (.ref d),some (.ref e),none,none,none] H:=by
 refine⟨_,jI (ii:=4) (N:=["_law_number","_law_first"]) (cl:=[("_law_first",s.heap.objs.size+1)]) (k:=1) (js:=[2]) (g:=be 0) qd.nd rfl (Or.inl rfl) rfl
   (LcOk.mk' ["_law_first"] rfl rfl (by decide +kernel) (by decide +kernel) ?hcl rfl (by decide +kernel)) rfl ?hj (jH (pv 3)) (λs H fp=>aG (i:=0) (show(["_law_number","_law_first"]:List Str).Nodup by decide +kernel) rfl (Or.inl rfl) (Or.inr rfl))
   (λs H fp=>bQ (dR (aI hr) (pv 0) (pv 1))) (λs H fp=>pv 0),?_⟩
 case hcl =>
  intro y hy;rcases mem_cons.mp hy with e|hy
  ·rw[e];rfl
  ·cases hy
 case hj =>
  intro i j x h1 h2
  match i,h1,h2 with
  |0,h1,h2 =>
   cases h1;cases h2;exact⟨rfl,Or.inr (Or.inl rfl),(show((ai aB).names.lookup ("_law_first":Str)≠some NameKind.local)by decide +kernel),by first|exact Or.inl rfl|exact Or.inr rfl⟩
  |i+1,h1,h2=>simp at h1
 intro D H t u d e as bs zs us L q;obtain⟨o,ho⟩:=L.fr;have l2:=L.l2;refine⟨_,rfl,e,o,aM bs,rfl,ho,λp hp=>?_⟩;rw[L.keys];refine cQ (fr:=[some (.ref d)]) us (λz=>V.int z.2.num) (by omega) hp (cB ho) rfl (inN zs) (λz y _=>y=.int z.2.num) (λz y H H' h _=>h) (λz H' k mz s1 _ hk=>?_) (λz H' k mz _ s1 _ hk=>⟨_,rfl,hk _ H' (Same.refl _) rfl⟩) (λys H' s1 hp' hys=>?_)
 ·have L1:=L.same s1
  by_cases hin:∃x∈zs,x.2.num=z.2.num
  ·obtain⟨x,hx,ex⟩:=hin;obtain⟨r,hg,_⟩:=L1.b1.get (aH L.t1) hx;rw[ex]at hg;refine⟨_,rfl,_,rfl,d,_,rfl,hg,?_⟩;have hk':=hk H' (Same.refl _);rw[show inN zs z=true from decide_eq_true ⟨x,hx,ex⟩]at hk';exact⟨_,rfl,hk'⟩
  ·refine⟨_,rfl,_,rfl,d,_,rfl,L1.b1.not λx hx ex=>hin ⟨x,hx,ex⟩,?_⟩;have hk':=hk H' (Same.refl _);rw[show inN zs z=false from decide_eq_false hin]at hk';exact⟨_,rfl,hk'⟩
 ·rw[bv hys (f:=λz=>V.int z.2.num) λz y _ h=>h]at hp';exact q p H' s1 hp'
open Classical in
def mh(zs us:ZN)(z:Addr×Nd):Bool:=decide (Unl (nds zs) (nds us) z.2.num)
theorem oX{zs:ZN}{z:Addr×Nd}:inN zs z=true↔∃x∈zs,x.2.num=z.2.num:=by unfold inN;exact decide_eq_true_iff
open Classical in
theorem wb{zs us:ZN}{x z:Addr×Nd}(T1:TW.Tree1 (nds zs))(T2:TW.Tree1 (nds us))(hx:x∈zs)(hz:z∈us)(e:x.2.num=z.2.num):(!decide (V.bl (decide (stV x.2.st=V.non))=V.bl (decide (stV z.2.st=V.non))))=mh zs us z:=by
 rw[kG,kG];have key:V.bl (decide (x.2.st=none))=V.bl (decide (z.2.st=none))↔(x.2.st=none↔z.2.st=none):=by
  constructor
  ·intro h;injection h with h
   exact decide_eq_decide.mp h
  ·intro h
   congr 1
   exact decide_eq_decide.mpr h
 unfold mh
 by_cases hk:(x.2.st=none↔z.2.st=none)
 ·rw[decide_eq_true (key.mpr hk),decide_eq_false]
  ·rfl
  ·rintro⟨m,hm,n,hn,e1,e2,h3⟩;have em:m=x.2:=T1.inj hm (aw hx) (by omega);have en:n=z.2:=T2.inj hn (aw hz) e2;subst em;subst en;exact h3 hk
 ·rw[decide_eq_false λh=>hk (key.mp h),decide_eq_true]
  ·rfl
  ·exact⟨x.2,aw hx,z.2,aw hz,e,rfl,hk⟩
theorem sk3(hr:Room 1 (A.deeper (PyProof.Rows.envOfC "_law_same_kinds" (ai aB) s.heap.objs.size f cdv))):
  ∃rd,PS (SKX P w K mg base f cdv A outer s H0 E) (skS 3) rd∧∀(D:Ends)(H:Hp)(t u d e l:Addr)(as bs:List (Addr×(Addr×Nd)))(zs us:ZN),SKF H d e as bs zs us→H l=some (.lst ((us.filter (inN zs)).map λz=>V.int z.2.num)) →
   (∀l' H',Same H H'→H' l'=some (.lst (((us.filter (inN zs)).filter (mh zs us)).map λz=>V.int z.2.num))→D.nx [some (.ref t),some (.ref u),some (.ref d),some (.ref e),some (.ref l),some (.ref l'),none] H')→rd D [some (.ref t),some (.ref u),some (.ref d),some (.ref e),some (.ref l),none,none] H:=by
 refine⟨_,aq (i:=5) qd.nd rfl (Or.inr rfl) (du (N:=["_law_number","_law_first","_law_second"]) (cl:=[("_law_second",s.heap.objs.size+2),("_law_first",s.heap.objs.size+1)]) (k:=1) (js:=[2,3]) (g:=be 0) rfl
   (LcOk.mk' ["_law_second","_law_first"] rfl rfl (by decide +kernel) (by decide +kernel) ?hcl rfl (by decide +kernel)) rfl ?hj (cG (pv 4)) (λs H fp=>aG (i:=0) (show(["_law_number","_law_first","_law_second"]:List Str).Nodup by decide +kernel) rfl (Or.inl rfl) (Or.inr rfl))
   (λs H fp=>am cN (dH eG (av (r:=cw K) ao (aW (aI hr) (pv 1) (pv 0) (λ_ _=>rfl)) ag (λ_ _=>rfl)) cm (au _)) (dH eG (av (r:=cw K) ao (aW (aI hr) (pv 2) (pv 0) (λ_ _=>rfl)) ag (λ_ _=>rfl)) cm (au _)) (au _)) (λs H fp=>pv 0)),?_⟩
 case hcl =>
  intro y hy;rcases mem_cons.mp hy with e|hy
  ·rw[e];rfl
  rcases mem_cons.mp hy with e|hy
  ·rw[e];rfl
  ·cases hy
 case hj =>
  intro i j x h1 h2
  match i,h1,h2 with
  |0,h1,h2 =>
   cases h1;cases h2;exact⟨rfl,Or.inr (Or.inl rfl),(show((ai aB).names.lookup ("_law_first":Str)≠some NameKind.local)by decide +kernel),by first|exact Or.inl rfl|exact Or.inr rfl⟩
  |1,h1,h2 =>
   cases h1;cases h2;exact⟨rfl,Or.inr (Or.inl rfl),(show((ai aB).names.lookup ("_law_second":Str)≠some NameKind.local)by decide +kernel),by first|exact Or.inl rfl|exact Or.inr rfl⟩
  |i+2,h1,h2=>simp at h1
 intro D H t u d e l as bs zs us L hl q;have l2:=L.l2;have lf:=length_filter_le (inN zs) us;refine⟨_,rfl,l,rfl,⟨_,SqL.of hl⟩,λp hp=>?_⟩;refine cQ (fr:=[some (.ref d),some (.ref e)]) (us.filter (inN zs)) (λz=>V.int z.2.num) (by omega) hp (gH (SqL.of hl)) rfl (mh zs us) (λz y _=>y=.int z.2.num) (λz y H H' h _=>h) (λz H' k mz s1 _ hk=>?_) (λz H' k mz _ s1 _ hk=>⟨_,rfl,hk _ H' (Same.refl _) rfl⟩) (λys H' s1 hp' hys=>?_)
 ·have L1:=L.same s1;obtain⟨hz,hin⟩:=mem_filter.mp mz;obtain⟨x,hx,ex⟩:=oX.mp hin;obtain⟨r1,g1,a1⟩:=L1.b1.get (aH L.t1) hx;rw[ex]at g1;obtain⟨r2,g2,a2⟩:=L1.b2.get (aH L.t2) hz;have hk':=hk H' (Same.refl _);rw[←wb L.t1 L.t2 hx hz ex]at hk';exact⟨_,rfl,_,rfl,d,_,rfl,g1,r1,_,_,_,rfl,rfl,SqT.of a1,ny x.2,rfl,_,rfl,_,rfl,e,_,rfl,g2,r2,_,_,_,rfl,rfl,SqT.of a2,ny z.2,rfl,rfl,_,rfl,hk'⟩
 ·rw[bv hys (f:=λz=>V.int z.2.num) λz y _ h=>h]at hp';exact q p H' s1 hp'
end
def kJ(zs us:ZN):List Int:=((us.filter (inN zs)).filter (mh zs us)).map λz=>z.2.num
theorem qe(zs us:ZN):(((us.filter (inN zs)).filter (mh zs us)).map λz=>V.int z.2.num)=(kJ zs us).map V.int:=by
 unfold kJ;rw[map_map];rfl
open Classical in
theorem ml{zs us:ZN}{z:Addr×Nd}:mh zs us z=true↔Unl (nds zs) (nds us) z.2.num:=by unfold mh;exact decide_eq_true_iff
theorem mq{zs us:ZN}{k:Int}:k∈kJ zs us↔Unl (nds zs) (nds us) k:=by
 unfold kJ;rw[mem_map];constructor
 ·rintro⟨z,hz,rfl⟩;exact ml.mp (mem_filter.mp hz).2
 ·intro h;obtain⟨m,hm,n,hn,e1,e2,h3⟩:=id h;obtain⟨x,hx,rfl⟩:=bb hm;obtain⟨z,hz,rfl⟩:=bb hn;refine⟨z,mem_filter.mpr ⟨mem_filter.mpr ⟨hz,oX.mpr ⟨x,hx,by omega⟩⟩,ml.mpr ?_⟩,e2⟩;rw[e2];exact h
def gK(zs us:ZN):List (Key×V):=us.map λz=>((Sum.inl z.2.num:Key),V.int (g60 (nds zs) (nds us) z.2.num))
theorem mr{us:ZN}(h:((nds us).map (·.num)).Nodup):(us.map λz=>(Sum.inl z.2.num:Key)).Nodup:=by
 unfold nds at h;rw[map_map]at h;unfold Nodup at h⊢;rw[pairwise_map]at h⊢;exact h.imp λh e=>h (by injection e)
section
variable{P:Program}{w:World}{K:PySem.W.Frag}{mg:Str→Option Value}{base:Heap}{f:Addr}{cdv:Value}{A:Around}{outer:List Env}{s:Shared}{H0:Hp}{E:XK}
theorem sk4(T:Txt mg)(hr:Room 1 (A.deeper (PyProof.Rows.envOfC "_law_same_kinds" (ai aB) s.heap.objs.size f cdv))):
  ∃rd,PS (SKX P w K mg base f cdv A outer s H0 E) (skS 4) rd∧∀(D:Ends)(H:Hp)(t u d e l l':Addr)(as bs:List (Addr×(Addr×Nd)))(zs us:ZN),SKF H d e as bs zs us→H l'=some (.lst ((kJ zs us).map V.int)) →
   (∀g H' H'',Same H H'→H' g=none→H''=upd H' g (.dK (gK zs us))→D.nx [some (.ref t),some (.ref u),some (.ref d),some (.ref e),some (.ref l),some (.ref l'),some (.ref g)] H'')→rd D [some (.ref t),some (.ref u),some (.ref d),some (.ref e),some (.ref l),some (.ref l'),none] H:=by
 refine⟨_,aq (i:=6) qd.nd rfl (Or.inr rfl) (bh (fe rfl) rfl T.dict boot_dict (aa (fT (N:=["_law_number","_law_unlike"]) (cl:=[("_law_unlike",s.heap.objs.size+3)]) (k:=1) (js:=[5]) (g:=be 0) rfl
   (LcOk.mk' ["_law_unlike"] rfl rfl (by decide +kernel) (by decide +kernel) ?hcl rfl (by decide +kernel)) rfl ?hj (jH (pv 3)) (λs H fp=>aG (i:=0) (show(["_law_number","_law_unlike"]:List Str).Nodup by decide +kernel) rfl (Or.inl rfl) (Or.inr rfl))
   (λs H fp=>bn (aa (pv 0) (aa (iK (am (r:=rIn K false) jA (pv 0) (pv 1) rfl) (uJ (pv 0) ag) (pv 0)) ah)))) ah)),?_⟩
 case hcl =>
  intro y hy;rcases mem_cons.mp hy with e|hy
  ·rw[e];rfl
  ·cases hy
 case hj =>
  intro i j x h1 h2
  match i,h1,h2 with
  |0,h1,h2 =>
   cases h1;cases h2;exact⟨rfl,Or.inr (Or.inl rfl),(show((ai aB).names.lookup ("_law_unlike":Str)≠some NameKind.local)by decide +kernel),by first|exact Or.inl rfl|exact Or.inr rfl⟩
  |i+1,h1,h2=>simp at h1
 intro D H t u d e l l' as bs zs us L hl q;obtain⟨o,ho⟩:=L.fr;have l2:=L.l2;refine⟨_,rfl,e,o,aM bs,rfl,ho,λp hp=>?_⟩;rw[L.keys];refine dO (fr:=[some (.ref l')]) us (λz=>V.int z.2.num) (by omega) hp (cB ho) rfl (λz y H'=>∃q,y=.ref q∧q≠p∧H' q=some (.tup [.int z.2.num,.int (g60 (nds zs) (nds us) z.2.num)])) (λz y H H' ⟨q,e,ne,h⟩ ex=>⟨q,e,ne,ex q _ ne h⟩) (λz H' k mz s1 hpl hk=>?_) (λys H' s1 hp' hys=>?_)
 ·refine⟨_,rfl,_,rfl,_,rfl,l',_,rfl,.inl (SqL.of (s1 _ _ hl)),rfl,ic _,_,rfl,?_⟩;have fin:∀v,v=V.int (g60 (nds zs) (nds us) z.2.num)→2≤sizeLine∧∀c,H' c=none→k (.ref c) (upd H' c (.tup [.int z.2.num,v])):=λv ev=>by
   subst ev;exact⟨le2,λq hq=>hk _ _ (af hq) ⟨q,rfl,dz hpl hq,ac⟩⟩
  rw[show(if false=true then !inV (.int z.2.num) ((kJ zs us).map V.int)else inV (.int z.2.num) ((kJ zs us).map V.int))=decide (z.2.num∈kJ zs us)from kr _ _]
  by_cases hu:z.2.num∈kJ zs us
  ·rw[decide_eq_true hu];have eg:=jm (mq.mp hu);exact aQ ⟨_,rfl,_,_,rfl,rfl,fin _ (by rw[eg])⟩
  ·rw[decide_eq_false hu];have eg:=iw λh=>hu (mq.mpr h);exact aD ⟨_,rfl,fin _ (by rw[eg])⟩
 ·obtain⟨cs,e1,e2,e3⟩:=cF (val:=V.ref) (S:=λ(z:Addr×Nd) (q:Addr)=>H' q=some (.tup [.int z.2.num,.int (g60 (nds zs) (nds us) z.2.num)])) hys (λz y _ ⟨q,e,_,h⟩=>⟨q,e,h⟩);have hcl:cs.length=us.length:=by rw[←e1,length_map]
  refine⟨p,cs.map λx=>(x.2,(Sum.inl x.1.2.num:Key),V.int (g60 (nds zs) (nds us) x.1.2.num)),rfl,by rw[hp',e2,map_map,map_map];rfl,λy hy=>?_,by rw[length_map];omega,?_,λg hg=>?_⟩
  ·obtain⟨x,hx,rfl⟩:=mem_map.mp hy;exact e3 x hx
  ·rw[map_map];have e4:cs.map ((λx:Addr×Key×V=>x.2.1)∘λx=>(x.2,(Sum.inl x.1.2.num:Key),V.int (g60 (nds zs) (nds us) x.1.2.num)))=us.map λz=>(Sum.inl z.2.num:Key):=by
    conv=>rhs;rw[←e1]
    rw[map_map];rfl
   rw[e4];exact mr (aH L.t2)
  ·have ekv:(cs.map λx=>(x.2,(Sum.inl x.1.2.num:Key),V.int (g60 (nds zs) (nds us) x.1.2.num))).map (·.2)=gK zs us:=by
    have:gK zs us=(cs.map (·.1)).map λz=>((Sum.inl z.2.num:Key),V.int (g60 (nds zs) (nds us) z.2.num)):=by rw[e1];rfl
    rw[this,map_map,map_map];rfl
   rw[ekv];exact q g H' _ s1 hg rfl
end
def gK0(zs us:ZN):List (Key×V):=bG (gK zs us) (Sum.inl 0:Key) (.int 0)
theorem gv0{zs us:ZN}(h:∀m∈nds zs,1≤m.num∧m.num≤30):aY (gK0 zs us) (Sum.inl 0:Key)=some (.int (g60 (nds zs) (nds us) 0)):=by
 unfold gK0;rw[ee,if_pos rfl,uA h]
theorem gv1{zs us:ZN}(T:TW.Tree1 (nds us)){z:Addr×Nd}(hz:z∈us):aY (gK0 zs us) (Sum.inl z.2.num:Key)=some (.int (g60 (nds zs) (nds us) z.2.num)):=by
 have hp:=T.pos z.2 (aw hz);unfold gK0;rw[ee,if_neg λh=>by injection h with h;omega]
 refine gL ?_ ?_
 ·have:(gK zs us).map (·.1)=us.map λz=>(Sum.inl z.2.num:Key):=by unfold gK;rw[map_map];rfl
  rw[this];exact mr (aH T)
 ·unfold gK;exact mem_map.mpr ⟨z,hz,rfl⟩
section
variable{P:Program}{w:World}{K:PySem.W.Frag}{mg:Str→Option Value}{base:Heap}{f:Addr}{cdv:Value}{A:Around}{outer:List Env}{s:Shared}{H0:Hp}{E:XK}
theorem sk6(T:Txt mg)(hr:Room 1 (A.deeper (PyProof.Rows.envOfC "_law_same_kinds" (ai aB) s.heap.objs.size f cdv))):
  ∃rd,PS (SKX P w K mg base f cdv A outer s H0 E) (skS 6) rd∧∀(D:Ends)(H:Hp)(t u d e l l' g:Addr)(as bs:List (Addr×(Addr×Nd)))(zs us:ZN),SKF H d e as bs zs us→(∀m∈nds zs,1≤m.num∧m.num≤30)→(∀n∈nds us,n.num≤60)→H g=some (.dK (gK0 zs us)) →
   (∀vs t' H',Same H H'→H' t'=some (.tup (aO vs))→At H' vs→(nds vs).Perm ((nds us).map (TW.reG (g60 (nds zs) (nds us))))→TW.cE (nds vs)→D.rt (.ref t') H')→rd D [some (.ref t),some (.ref u),some (.ref d),some (.ref e),some (.ref l),some (.ref l'),some (.ref g)] H:=by
 refine⟨_,ax (bh bS rfl T.tuple rfl (aa (br cn rfl T.sorted boot_sorted (aa (fT (N:=["_law_number","_law_names","_law_second"]) (cl:=[("_law_second",s.heap.objs.size+2),("_law_names",s.heap.objs.size+4)]) (k:=1) (js:=[6,3]) (g:=be 0) rfl
   (LcOk.mk' ["_law_second","_law_names"] rfl rfl (by decide +kernel) (by decide +kernel) ?hcl rfl (by decide +kernel)) rfl ?hj (jH (pv 3)) (λs H fp=>aG (i:=0) (show(["_law_number","_law_names","_law_second"]:List Str).Nodup by decide +kernel) rfl (Or.inl rfl) (Or.inr rfl))
   (λs H fp=>aE (r:=oo K) dJ (bn (aa (aW (aI hr) (pv 1) (pv 0) (λ_ _=>rfl)) (aa (aW (aI hr) (pv 1) (av (r:=cw K) ao (aW (aI hr) (pv 2) (pv 0) (λ_ _=>rfl)) ag (λ_ _=>rfl)) (λ_ _=>rfl)) ah))) (cj (r:=mY K) cY (aW (aI hr) (pv 2) (pv 0) (λ_ _=>rfl)) (bA ag) eI))) ah)) ah)),?_⟩
 case hcl =>
  intro y hy;rcases mem_cons.mp hy with e|hy
  ·rw[e];rfl
  rcases mem_cons.mp hy with e|hy
  ·rw[e];rfl
  ·cases hy
 case hj =>
  intro i j x h1 h2
  match i,h1,h2 with
  |0,h1,h2 =>
   cases h1;cases h2;exact⟨rfl,Or.inr (Or.inl rfl),(show((ai aB).names.lookup ("_law_names":Str)≠some NameKind.local)by decide +kernel),by first|exact Or.inl rfl|exact Or.inr rfl⟩
  |1,h1,h2 =>
   cases h1;cases h2;exact⟨rfl,Or.inr (Or.inl rfl),(show((ai aB).names.lookup ("_law_second":Str)≠some NameKind.local)by decide +kernel),by first|exact Or.inl rfl|exact Or.inr rfl⟩
  |i+2,h1,h2=>simp at h1
 intro D H t u d e l l' g as bs zs us L hz30 hu60 hg q;obtain⟨o,ho⟩:=L.fr;have l2:=L.l2;refine⟨_,rfl,e,o,aM bs,rfl,ho,λp hp=>?_⟩;rw[L.keys];refine dO (fr:=[some (.ref g),some (.ref e)]) us (λz=>V.int z.2.num) (by omega) hp (cB ho) rfl (λz y H'=>∃q,y=.ref q∧q≠p∧H' q=some (.tup (vals (TW.reG (g60 (nds zs) (nds us)) z.2)))) (λz y H H' ⟨q,e,ne,h⟩ ex=>⟨q,e,ne,ex q _ ne h⟩) (λz H' k mz s1 hpl hk=>?_) (λys H' s1 hp' hys=>?_)
 ·have L1:=L.same s1;have hg1:=s1 _ _ hg;obtain⟨r,gr,ar⟩:=L1.b2.get (aH L.t2) mz;have d1:cA H' g (.int z.2.num) (some (.int (g60 (nds zs) (nds us) z.2.num))):=by rw[←gv1 L.t2 mz];exact cA.k (k:=Sum.inl z.2.num) hg1
  have d2:cA H' g (.int z.2.par) (some (.int (g60 (nds zs) (nds us) z.2.par))):=by
   rcases TW.nS L.t2 (aw mz)with h0|⟨x,hx,ex⟩
   ·rw[h0,←gv0 hz30];exact cA.k (k:=Sum.inl 0) hg1
   ·obtain⟨y,hy,rfl⟩:=bb hx;have ex':y.2.num=z.2.par:=by first|exact ex|exact ex.symm|exact ex.1|exact ex.1.symm
    rw[←ex',←gv1 L.t2 hy];exact cA.k (k:=Sum.inl y.2.num) hg1
  refine⟨_,rfl,_,rfl,g,_,rfl,d1,?_⟩;refine⟨_,rfl,_,rfl,_,rfl,e,_,rfl,gr,r,_,_,_,rfl,rfl,SqT.of ar,wU z.2,g,_,rfl,d2,le2,λc hc=>?_⟩;have s2:=af (o:=.tup [.int (g60 (nds zs) (nds us) z.2.num),.int (g60 (nds zs) (nds us) z.2.par)]) hc;have ecut:eJ (bJ z.2) (some 1) none=[.str z.2.nm,stV z.2.st]:=rfl;obtain⟨r',gr',ar'⟩:=(L1.same s2).b2.get (aH L.t2) mz;refine⟨_,rfl,_,rfl,e,_,rfl,gr',_,rfl,r',_,rfl,SqT.of ar',(by intro h;exact absurd h.1 (show ¬HT.sIx 3 0 (some 1)=0 by decide)),λt' ht'=>?_⟩;rw[ecut];have s3:=s2.trans (af (o:=.tup [.str z.2.nm,stV z.2.st]) ht');refine⟨c,t',_,_,rfl,rfl,SqT.of (bu ht' ac),SqT.of ac,by simp,(show 4≤sizeLine from ap (by decide)),λh=>absurd h (cons_ne_nil _ _),λ_ q hq=>?_⟩;have hpl3:∃ys,upd (upd H' c (.tup [.int (g60 (nds zs) (nds us) z.2.num),.int (g60 (nds zs) (nds us) z.2.par)])) t' (.tup [.str z.2.nm,stV z.2.st]) p=some (.lst ys):=let⟨ys,e⟩:=hpl;⟨ys,s3 _ _ e⟩;exact hk _ _ (s3.trans (af hq)) ⟨q,rfl,dz hpl3 hq,ac⟩
 ·obtain⟨cs,e1,e2,e3⟩:=cF (val:=V.ref) (S:=λ(z:Addr×Nd) (q:Addr)=>H' q=some (.tup (vals (TW.reG (g60 (nds zs) (nds us)) z.2)))) hys (λz y _ ⟨q,e,_,h⟩=>⟨q,e,h⟩);have er:ys=aO (cs.map λx=>(x.2,TW.reG (g60 (nds zs) (nds us)) x.1.2)):=by rw[e2,←cc,map_map];rfl
  have en:nds (cs.map λx=>(x.2,TW.reG (g60 (nds zs) (nds us)) x.1.2))=(nds us).map (TW.reG (g60 (nds zs) (nds us))):=by
   have:(nds us).map (TW.reG (g60 (nds zs) (nds us)))=(nds (cs.map (·.1))).map (TW.reG (g60 (nds zs) (nds us))):=by rw[e1]
   rw[this];unfold nds;rw[map_map,map_map,map_map];rfl
  have hcl:cs.length=us.length:=by rw[←e1,length_map]
  have hsq:SqL K H' p (aO (cs.map λx=>(x.2,TW.reG (g60 (nds zs) (nds us)) x.1.2))):=SqL.of (by rw[hp',er]);refine fj (K:=K) (H:=H') (l:=p) (zs:=cs.map λx=>(x.2,TW.reG (g60 (nds zs) (nds us)) x.1.2)) (Q:=D.rt) (.inl hsq) (λz hz=>?_) ?_ (by rw[length_map];omega) (λvs t' H2 s2 ht' hA' hpm hrise=>?_)
  ·obtain⟨x,hx,rfl⟩:=mem_map.mp hz;exact e3 x hx
  ·rw[en,map_map];have hnd:=aH L.t2;unfold Nodup at hnd⊢;rw[pairwise_map]at hnd⊢;exact hnd.imp_of_mem λ{a b} ha hb h e=>h (oW hz30 (hu60 a ha) (hu60 b hb) e)
  ·refine q vs t' H2 (s1.trans s2) ht' hA' ?_ hrise;have:(nds vs).Perm (nds (cs.map λx=>(x.2,TW.reG (g60 (nds zs) (nds us)) x.1.2))):=hpm.map _;rw[en]at this;exact this
end
end TK
namespace L2
open PySem PySem.Spec PyProof.Rows
theorem Inv.freeze{X:Cx}{pins:List (Addr×Obj)}{σ:St}{H:Hp}{s:Shared}{d:Addr}{kvs:List (Key×V)}(I:Inv X pins σ H s)(hH:H d=some (.dK kvs)):∃o,Inv X pins σ (upd H d (.frz o (.dK kvs))) s:=by
 obtain⟨hz,hsm,vs,rel,o,es,ep,ho,hx,hd,hk,hp,hn⟩:=I.hok d _ hH;exact⟨o,I.write (t':=s.toks) (x:=d) (e:=d) (by rw[hH];trivial) (.inl rfl) (λ_ _ _ q=>q) ⟨o,ho⟩ ⟨ho,hz,hsm,vs,rel,o,es,ep,ho,hx,hd,hk,hp,hn⟩⟩
def xF(t:TS):TS:=λD σ H=>∃d kvs,H d=some (.dK kvs)∧∀o,t D σ (upd H d (.frz o (.dK kvs)))
theorem jW{X:Cx}{st:Stmt}{t:TS}(hs:PS X st t):PS X st (xF t):=λpins s σ H D I ⟨d,kvs,h,ht⟩=>by
 obtain⟨o,I2⟩:=I.freeze h;exact hs pins s σ _ D I2 (ht o)
end L2
namespace TK
open PySem L2
section
variable{P:Program}{w:World}{K:PySem.W.Frag}{mg:Str→Option Value}{base:Heap}
def oY:Sp:=λvs H Q _=>∃t u zs us,vs=[.ref t,.ref u]∧Tre H t zs∧Tre H u us∧zs.length≤29∧us.length≤29∧(∀m∈nds zs,1≤m.num∧m.num≤30)∧(∀n∈nds us,n.num≤60∧0≤n.par∧n.par≤60∧n.nm.length≤100) ∧
 ∀v ws H',Same H H'→Tre H' v ws→dF (nds zs) (nds ws)→(∀n∈nds ws,cL n)→ws.length=us.length→Q (.ref v) H'
theorem wc{f:Addr}{fd:FuncData}(F:Fun K "_law_same_kinds" "_law_same_kinds" aB f fd)(T:Txt mg)(CB:Has P w K mg base 1 "_law_book" ["_law_tree_here"] gm):FnOk P w K mg base CX0 2 f fd ["_law_one","_law_other"] oY:=by
 obtain⟨fK,fdK,GK,mK,kK,bK⟩:=CB;refine F.ok qd (λvs H Q E h=>?_) (λcdv A outer s H vs Q E hr h=>?_)
 ·obtain⟨t,u,zs,us,rfl,_⟩:=h;rfl
 ·obtain⟨t,u,zs,us,rfl,tr,ur,l1,l2,hz,hu,q⟩:=h;obtain⟨r2,p2,h2⟩:=sk2 (P:=P) (w:=w) (K:=K) (mg:=mg) (base:=base) (outer:=outer) (H0:=H) (E:=E) hr;obtain⟨r3,p3,h3⟩:=sk3 (P:=P) (w:=w) (K:=K) (mg:=mg) (base:=base) (outer:=outer) (H0:=H) (E:=E) hr;obtain⟨r4,p4,h4⟩:=sk4 (P:=P) (w:=w) (K:=K) (base:=base) (outer:=outer) (H0:=H) (E:=E) T hr;obtain⟨r6,p6,h6⟩:=sk6 (P:=P) (w:=w) (K:=K) (base:=base) (outer:=outer) (H0:=H) (E:=E) T hr;refine⟨_,ae (aq (i:=2) qd.nd rfl (Or.inr rfl) (al GK hr rfl mK kK bK .nil aK (aa (pv 0) ah)))
   (ae (aq (i:=3) qd.nd rfl (Or.inr rfl) (al GK hr rfl mK kK bK .nil aK (aa (pv 1) ah)))
   (ae (jW p2) (ae p3 (ae p4 (ae (fw (aI hr) (pv 6) ag ag rfl) (aj p6)))))),?_⟩
  refine⟨_,rfl,t,zs,rfl,tr,λd as H1 s1 hd0 b1 hd=>?_⟩;refine⟨_,rfl,u,us,rfl,ur.same s1,λe bs H2 s2 he0 b2 he=>?_⟩;refine⟨e,_,he,λo=>?_⟩;have s12:Same H1 (upd H2 e (.frz o (.dK (aM bs)))):=aP he0 s2;have s02:Same H (upd H2 e (.frz o (.dK (aM bs)))):=s1.trans s12;have b2':Book (upd H2 e (.frz o (.dK (aM bs)))) e bs us:=⟨.inr ⟨o,ac⟩,b2.of,λx hx=>by
   have:=b2.at' x hx;rw[ak λz=>by rw[z,he]at this;cases this];exact this⟩
  have L:SKF (upd H2 e (.frz o (.dK (aM bs)))) d e as bs zs us:=⟨b1.same s12,b2',⟨o,ac⟩,tr.tr,ur.tr,l1,l2⟩;generalize upd H2 e (.frz o (.dK (aM bs)))=H3 at L s02⊢;refine h2 _ H3 t u d e as bs zs us L λl H4 s4 hl=>?_;have L4:=L.same s4;refine h3 _ H4 t u d e l as bs zs us L4 hl λl' H5 s5 hl'=>?_;have L5:=L4.same s5;rw[qe]at hl';refine h4 _ H5 t u d e l l' as bs zs us L5 hl' λg H6 H7 s6 hg e7=>?_;subst e7;have hn:(gK zs us).length=us.length:=by unfold gK;rw[length_map]
  refine⟨_,rfl,g,_,rfl,ix.k (k:=Sum.inl 0) (kvs:=gK zs us) ac (aC (by omega)),?_⟩;have s67:Same H6 (upd (upd H6 g (.dK (gK zs us))) g (.dK (bG (gK zs us) (Sum.inl 0:Key) (.int 0)))):=aP hg (af hg);have hg7:(upd (upd H6 g (.dK (gK zs us))) g (.dK (bG (gK zs us) (Sum.inl 0:Key) (.int 0)))) g=some (.dK (gK0 zs us)):=ac;generalize upd (upd H6 g (.dK (gK zs us))) g (.dK (bG (gK zs us) (Sum.inl 0:Key) (.int 0)))=H7 at s67 hg7⊢;have L7:=(L5.same s6).same s67;refine h6 _ H7 t u d e l l' g as bs zs us L7 hz (λn hn=>(hu n hn).1) hg7 λvs t' H8 s8 ht' hA' hpm hrise=>?_;obtain⟨T8,sk,nok,hlen⟩:=tW hz ur.tr hu hpm hrise;have hlen':vs.length=us.length:=by
   have:=hlen;unfold nds at this
   rwa [length_map,length_map]at this
  exact q t' vs H8 (s02.trans (s4.trans (s5.trans (s6.trans (s67.trans s8))))) ⟨ht',hA',T8,by omega⟩ sk nok hlen'
end
def OnN:List Str:=["_law_script","_law_one","_law_other","_law_old","_law_new","_law_tree_here","_law_words","_law_deed_here","_law_number","_law_due","_law_some","_law_moves"]
theorem fu:FnScope OnN ["_law_script"] (ai bw):=fsc
abbrev OnX(P:Program)(w:World)(K:PySem.W.Frag)(mg:Str→Option Value)(base:Heap)(f:Addr)(cdv:Value)(A:Around)(outer:List Env)(s:Shared)(H:Hp)(E:XK):Cx:=(hU CX0 P w K mg base OnN "_law_once" (ai bw) f cdv A outer s H E).nox
def onS(i:Nat):Stmt:=(bH bw).getD i (.Pass ⟨0,0,0,0⟩)
def onB(i:Nat):Stmt:=match onS 8 with
 |.For _ _ b _ _=>b.getD i (.Pass ⟨0,0,0,0⟩)
 |_=>.Pass ⟨0,0,0,0⟩
structure WdD(H:Hp)(g:Addr)(ks:List Int)(kvs:List (Key×V))(ds:List (TW.Deed Str)):Prop where
 dict:H g=some (.dK kvs)
 keys:kvs.map (·.1)=ks.map (Sum.inl:Int→Key)
 nd:ks.Nodup
 mem:∀k,k∈ks↔wds k ds≠[]
 val:∀k∈ks,∃l,aY kvs (Sum.inl k:Key)=some (.ref l)∧H l=some (.lst ((wds k ds).map V.str))
 len:ks.length≤ds.length
theorem WdD.same{H H':Hp}{g:Addr}{ks:List Int}{kvs:List (Key×V)}{ds:List (TW.Deed Str)}(h:WdD H g ks kvs ds)(s:Same H H'):WdD H' g ks kvs ds:=⟨s _ _ h.dict,h.keys,h.nd,h.mem,λk hk=>let⟨l,h1,h2⟩:=h.val k hk;⟨l,h1,s _ _ h2⟩,h.len⟩
theorem WdD.no{H:Hp}{g:Addr}{ks:List Int}{kvs:List (Key×V)}{ds:List (TW.Deed Str)}(h:WdD H g ks kvs ds){k:Int}(hk:k∉ks):aY kvs (Sum.inl k:Key)=none:=by
 refine iD λhm=>hk ?_;rw[h.keys]at hm;obtain⟨x,hx,e⟩:=mem_map.mp hm;injection e with e
 rw[←e];exact hx
theorem rS{kvs:List (Key×V)}{k:Key}{v:V}(h:k∈kvs.map (·.1)):(bG kvs k v).map (·.1)=kvs.map (·.1):=by
 unfold bG;obtain⟨p,hp,e⟩:=mem_map.mp h;rw[if_pos (any_eq_true.mpr ⟨p,hp,decide_eq_true e⟩),map_map];refine map_congr_left λx _=>?_;show(if x.1=k then (x.1,v)else x).1=x.1
 split<;>rfl
theorem oZ(k:Int)(ds:List (TW.Deed Str)):(wds k ds).length≤ds.length:=by unfold wds;rw[length_map];exact length_filter_le _ _
theorem WdD.more{H H':Hp}{g q:Addr}{ks:List Int}{kvs:List (Key×V)}{ds:List (TW.Deed Str)}{d:TW.Deed Str}(h:WdD H g ks kvs ds)(ex:Ext g H H')(hg:H' g=some (.dK (bG kvs (Sum.inl (bc d):Key) (.ref q))))(hq:H' q=some (.lst ((wds (bc d) ds++[eF d]).map V.str))):∃ks',WdD H' g ks' (bG kvs (Sum.inl (bc d):Key) (.ref q)) (ds++[d]):=by
 have hw:∀k,wds k (ds++[d])=if k=bc d then wds k ds++[eF d]else wds k ds:=λk=>by
  rw[cC]
  by_cases e:bc d=k
  ·rw[gS e,if_pos e.symm]
  ·rw[im e,if_neg λz=>e z.symm,append_nil]
 have val':∀ks':List Int,(∀k∈ks',k=bc d∨k∈ks)→∀k∈ks',∃l,aY (bG kvs (Sum.inl (bc d):Key) (.ref q)) (Sum.inl k:Key)=some (.ref l)∧H' l=some (.lst ((wds k (ds++[d])).map V.str)):=λks' sub k hk=>by
  rw[ee,hw k]
  by_cases e:k=bc d
  ·rw[if_pos (by rw[e]),if_pos e,e];exact⟨q,rfl,hq⟩
  ·rw[if_neg λz=>e (by injection z),if_neg e];obtain⟨l,h1,h2⟩:=h.val k ((sub k hk).resolve_left e);exact⟨l,h1,ex l _ (λz=>by rw[z,h.dict]at h2;cases h2) h2⟩
 by_cases hin:bc d∈ks
 ·refine⟨ks,hg,?_,h.nd,λk=>?_,val' ks λk hk=>.inr hk,by rw[length_append];have:=h.len;omega⟩
  ·rw[rS (by rw[h.keys];exact mem_map.mpr ⟨_,hin,rfl⟩)];exact h.keys
  ·rw[hw k,h.mem k]
   by_cases e:k=bc d
   ·rw[if_pos e];have:=(h.mem k).mp (by rw[e];exact hin);exact⟨λ_ z=>by simp at z,λ_=>this⟩
   ·rw[if_neg e]
 ·refine⟨ks++[bc d],hg,?_,?_,λk=>?_,val' _ λk hk=>?_,by rw[length_append,length_append];have:=h.len;simp;omega⟩
  ·rw[li _ (h.no hin),map_append,map_append,h.keys];rfl
  ·rw[nodup_append];exact⟨h.nd,by simp,λa ha b hb e=>by rw[mem_singleton.mp hb]at e;exact hin (e ▸ ha)⟩
  ·rw[hw k,mem_append,mem_singleton,h.mem k]
   by_cases e:k=bc d
   ·rw[if_pos e];exact⟨λ_ z=>by simp at z,λ_=>.inr e⟩
   ·rw[if_neg e];exact⟨λz=>z.resolve_right e,.inl⟩
  ·rcases mem_append.mp hk with hk|hk
   ·exact .inr hk
   ·exact .inl (mem_singleton.mp hk)
theorem dv0(d:TW.Deed Str):atI (aT d) 0=some (.str (eF d)):=by cases d<;>rfl
theorem dv1(d:TW.Deed Str):atI (aT d) 1=some (.int (bc d)):=by cases d<;>rfl
section
variable{P:Program}{w:World}{K:PySem.W.Frag}{mg:Str→Option Value}{base:Heap}{f:Addr}{cdv:Value}{A:Around}{outer:List Env}{s:Shared}{H0:Hp}{E:XK}
theorem xG(hr:Room 1 (A.deeper (PyProof.Rows.envOfC "_law_once" (ai bw) s.heap.objs.size f cdv))):
  ∃rd,PS (OnX P w K mg base f cdv A outer s H0 E) (onB 1) rd∧∀(D:Ends)(H:Hp)(x0 x1 x2 x3 x4 x5 x8 x9 x10 x11:Option V)(g c:Addr)(ks:List Int)(kvs:List (Key×V))(ds:List (TW.Deed Str))(d:TW.Deed Str),WdD H g ks kvs ds→ds.length≤900→H c=some (.tup (aT d)) →
   (∀ks' kvs' H',Ext g H H'→WdD H' g ks' kvs' (ds++[d])→D.nx [x0,x1,x2,x3,x4,x5,some (.ref g),some (.ref c),x8,x9,x10,x11] H')→rd D [x0,x1,x2,x3,x4,x5,some (.ref g),some (.ref c),x8,x9,x10,x11] H:=by
 refine⟨_,fw (aI hr) (pv 6) (av (r:=cw K) ao (pv 7) ag (λ_ _=>rfl)) (aE eZ (iT (aI hr) (pv 6) (av (r:=cw K) ao (pv 7) ag (λ_ _=>rfl)) (ba ah) ⟨rfl,rfl,rfl,rfl⟩) (ba (aa (av (r:=cw K) ao (pv 7) ag (λ_ _=>rfl)) ah))) rfl,?_⟩;intro D H x0 x1 x2 x3 x4 x5 x8 x9 x10 x11 g c ks kvs ds d W hl hc q;refine⟨_,rfl,g,rfl,.inl ⟨_,.inl W.dict⟩,_,rfl,c,_,_,_,rfl,rfl,SqT.of hc,dv1 d,ap (by decide),λa ha=>?_⟩;have s1:=af (o:=.lst []) ha;have a1:upd H a (.lst []) a=some (.lst []):=ac;have W1:=W.same s1;have hc1:=s1 _ _ hc;generalize upd H a (.lst [])=H1 at s1 a1 W1 hc1⊢;have fin:∀l:Addr,H1 l=some (.lst ((wds (bc d) ds).map V.str))→∀R:VK,(∀q' H3,Same H1 H3→H3 q'=some (.lst ((wds (bc d) ds++[eF d]).map V.str))→R (.ref q') H3)→wF (cO (tOp (cw K) (eT 7) (tC (.int 0))) jq) [x0,x1,x2,x3,x4,x5,some (.ref g),some (.ref c),x8,x9,x10,x11] H1 λy H2=>wH (.ref l) y H2 R:=λl hl1 R hR=>by
  refine⟨_,rfl,c,_,_,_,rfl,rfl,SqT.of hc1,dv0 d,ap (show 1≤1000 by decide),λb hb=>?_⟩;have s2:=af (o:=.lst [.str (eF d)]) hb;refine⟨l,b,_,_,rfl,rfl,s2 _ _ hl1,ac,?_,λp hp=>hR p _ (s2.trans (af hp)) ?_⟩
  ·have:=oZ (bc d) ds;rw[length_map];exact le_of_lt (aC (by simp;omega))
  ·rw[ac,map_append];rfl
 have endR:∀q' H3,Same H1 H3→H3 q'=some (.lst ((wds (bc d) ds++[eF d]).map V.str))→(eT 6) [x0,x1,x2,x3,x4,x5,some (.ref g),some (.ref c),x8,x9,x10,x11] H3 λx H4=>(tOp (cw K) (eT 7) (tC (.int 1))) [x0,x1,x2,x3,x4,x5,some (.ref g),some (.ref c),x8,x9,x10,x11] H4 λy H5=>∃a H6,x=.ref a∧ix H5 a y (.ref q') H6∧D.nx [x0,x1,x2,x3,x4,x5,some (.ref g),some (.ref c),x8,x9,x10,x11] H6:=λq' H3 s3 hq'=>by
  have W3:=W1.same s3;have hkl:kvs.length=ks.length:=by have:=congrArg length W.keys;rwa [length_map,length_map]at this
  have hkn:=W.len;refine⟨_,rfl,_,rfl,c,_,_,_,rfl,rfl,SqT.of (s3 _ _ hc1),dv1 d,g,_,rfl,ix.k (k:=Sum.inl (bc d)) W3.dict (aC (by omega)),?_⟩;have ng:q'≠g:=λz=>by rw[z,W3.dict]at hq';cases hq'
  obtain⟨ks',W4⟩:=W3.more (d:=d) (q:=q') Ext.upd ac (by rw[ak ng];exact hq');exact q ks' _ _ (λb o hb e=>by rw[ak hb];exact s3 _ _ (s1 _ _ e)) W4
 by_cases hin:bc d∈ks
 ·obtain⟨l,h1,h2⟩:=W1.val _ hin;have gd:=cA.k (k:=Sum.inl (bc d)) W1.dict;rw[h1]at gd;exact⟨_,gd,fin l h2 _ endR⟩
 ·have gd:=cA.k (k:=Sum.inl (bc d)) W1.dict;rw[W1.no hin]at gd;have e0:wds (bc d) ds=[]:=Classical.byContradiction λz=>hin ((W.mem _).mpr z);exact⟨_,gd,fin a (by rw[a1,e0];rfl) _ endR⟩
theorem xH{cls:TW.Wd→Addr}(hr:Room 4 (A.deeper (PyProof.Rows.envOfC "_law_once" (ai bw) s.heap.objs.size f cdv)))(CD:da P w K mg base 4 "done" ["tree","deed"] (gk cls)):
  ∃rd,PS (OnX P w K mg base f cdv A outer s H0 E) (onB 0) rd∧∀(D:Ends)(H:Hp)(x0 x1 x2 x3 x4 x6 x8 x9 x10 x11:Option V)(t c:Addr)(zs:ZN)(d:TW.Deed Str)(v:List Nd),Tre H t zs→zs.length≤29→H c=some (.tup (aT d))→ci d→TW.Told (nds zs) d (.inr v) →
   (∀t' ws H',Same H H'→H' t'=some (.tup (aO ws))→At H' ws→nds ws=v→D.nx [x0,x1,x2,x3,x4,some (.ref t'),x6,some (.ref c),x8,x9,x10,x11] H')→rd D [x0,x1,x2,x3,x4,some (.ref t),x6,some (.ref c),x8,x9,x10,x11] H:=by
 obtain⟨fD,fdD,GD,mD,kD,bD⟩:=CD;refine⟨_,aq (i:=5) fu.nd rfl (Or.inr rfl) (al (E:=E0) GD hr rfl mD kD bD .nil ut (aa (pv 5) (aa (pv 7) ah))),?_⟩;intro D H x0 x1 x2 x3 x4 x6 x8 x9 x10 x11 t c zs d v tr hl hc hd hv q;refine⟨_,rfl,_,rfl,t,c,d,zs,rfl,tr,hl,hc,hd,λws t2 H2 s2 ht2 hA2 told=>?_,λwd H2 s2 told=>?_⟩
 ·have e:v=nds ws:=by injection hv.one tr.tr told
  exact q t2 ws H2 s2 ht2 hA2 e.symm
 ·have e:=hv.one tr.tr told;cases e
theorem xI(hr:Room 1 (A.deeper (PyProof.Rows.envOfC "_law_once" (ai bw) s.heap.objs.size f cdv))):
  ∃rd,PS (OnX P w K mg base f cdv A outer s H0 E) (onB 2) rd∧∀(D:Ends)(H:Hp)(x0 x1 x2 x3 x5 x6 x8 x9 x10 x11:Option V)(e c:Addr)(bs:List (Addr×(Addr×Nd)))(us:ZN)(d:TW.Deed Str),Book H e bs us→TW.Tree1 (nds us)→H c=some (.tup (aT d))→(eF d="drop"→¬TW.aF (nds us) (bc d)) →
   D.nx [x0,x1,x2,x3,some (.ref e),x5,x6,some (.ref c),x8,x9,x10,x11] H→rd D [x0,x1,x2,x3,some (.ref e),x5,x6,some (.ref c),x8,x9,x10,x11] H:=by
 refine⟨_,aR (PW.pt (pw_and (am cy (av (r:=cw K) ao (pv 7) ag (λ_ _=>rfl)) aJ (au _)) (pw_and1 (bQ (dR (aI hr) (av (r:=cw K) ao (pv 7) ag (λ_ _=>rfl)) (pv 4)))))) (aj (ax dG)) aA,?_⟩;intro D H x0 x1 x2 x3 x5 x6 x8 x9 x10 x11 e c bs us d B T hc hno q;refine⟨_,rfl,c,_,_,_,rfl,rfl,SqT.of hc,dv0 d,rfl,_,rfl,?_⟩
 by_cases hw:eF d="drop"
 ·rw[decide_eq_true (show V.str (eF d)=V.str "drop" by rw[hw])];refine aQ ⟨_,rfl,c,_,_,_,rfl,rfl,SqT.of hc,dv1 d,_,rfl,e,_,rfl,B.not λz hz ez=>hno hw ⟨z.2,aw hz,ez⟩,_,rfl,?_⟩;exact aD q
 ·rw[decide_eq_false λz=>hw (by injection z)];exact aD (aD q)
end
def rT:Expr:=match onB 3 with
 |.If (.Compare e _ _ _) _ _ _=>e
 |_=>.Constant .none 0 ⟨0,0,0,0⟩
def pb:Scope:=match rT with
 |.ListComp _ _ sc _=>sc
 |_=>ai bw
def we:Expr:=match rT with
 |.ListComp _ [⟨_,_,[c],_⟩] _ _=>c
 |_=>.Constant .none 0 ⟨0,0,0,0⟩
section
variable{P:Program}{w:World}{K:PySem.W.Frag}{mg:Str→Option Value}{base:Heap}{f:Addr}{cdv:Value}{A:Around}{outer:List Env}{s:Shared}{H0:Hp}{E:XK}
theorem onc(hr:Room 1 (A.deeper (PyProof.Rows.envOfC "_law_once" (ai bw) s.heap.objs.size f cdv))):
  ∃tc:TT,(∀s1 H fp,PT (cq (OnX P w K mg base f cdv A outer s H0 E) ["_law_number","_law_old","_law_tree_here"] pb [("_law_tree_here",s.heap.objs.size+3),("_law_old",s.heap.objs.size+1)] s1 H fp) we tc) ∧
   ∀(H:Hp)(d t:Addr)(as:List (Addr×(Addr×Nd)))(zs ts:ZN)(n:Int)(kk:Bool→Hp→Prop),Book H d as zs→TW.Tree1 (nds zs)→H t=some (.tup (aO ts))→At H ts→ts.length≤60→(TW.aF (nds zs) n→TW.aF (nds ts) n)→(∀H4,Same H H4→kk false H4)→tc [some (.int n),some (.ref d),some (.ref t)] H kk:=by
 refine⟨_,λs1 H fp=>PW.pt (pw_and (bQ (dR (aI hr) (pv 0) (pv 1))) (pw_and1 (am (X:=cq (OnX P w K mg base f cdv A outer s H0 E) ["_law_number","_law_old","_law_tree_here"] pb [("_law_tree_here",s.heap.objs.size+3),("_law_old",s.heap.objs.size+1)] s1 H fp) (r:=rIn K true) kh (pv 0) (fT (X:=cq (OnX P w K mg base f cdv A outer s H0 E) ["_law_number","_law_old","_law_tree_here"] pb [("_law_tree_here",s.heap.objs.size+3),("_law_old",s.heap.objs.size+1)] s1 H fp) (wi:=wz K (eT 2)) (N:=["_law_node"]) (cl:=[]) (k:=1) (js:=[]) (g:=be 0) rfl (dS rfl (by decide +kernel) (by decide +kernel) (by decide +kernel)) rfl (λi j x h=>by simp at h)
    (cD (X:=cq (OnX P w K mg base f cdv A outer s H0 E) ["_law_number","_law_old","_law_tree_here"] pb [("_law_tree_here",s.heap.objs.size+3),("_law_old",s.heap.objs.size+1)] s1 H fp) (pv 2)) (λs H fp=>aG (i:=0) (show(["_law_node"]:List Str).Nodup by decide +kernel) rfl (Or.inl rfl) (Or.inr rfl)) (λs H fp=>av (r:=cw K) ao (pv 0) ag (λ_ _=>rfl))) rfl))),?_⟩
 intro H d t as zs ts n kk B T ht hA hl hin hk
 by_cases hz:∃x∈zs,x.2.num=n
 ·obtain⟨x,hx,ex⟩:=hz;obtain⟨r,hg,_⟩:=B.get (aH T) hx;rw[ex]at hg;refine⟨_,rfl,_,rfl,d,_,rfl,hg,_,rfl,aQ ⟨_,rfl,_,rfl,t,rfl,⟨_,SqT.of ht⟩,λp2 hp2=>?_⟩⟩;refine dO (fr:=[]) ts (λz=>V.ref z.1) (by omega) hp2 (dN (by rw[cc];exact SqT.of ht)) rfl (λz y _=>y=.int z.2.num) (λz y H H' h _=>h) (λy H2 k2 my s2 _ hk2=>?_) (λys2 H2 s2 hp2' hys2=>?_)
  ·exact⟨_,rfl,y.1,_,_,_,rfl,rfl,SqT.of (s2 _ _ (hA y my)),at0 y.2,hk2 _ H2 (Same.refl _) rfl⟩
  ·have ey:=bv hys2 (f:=λz=>V.int z.2.num) λz y _ h=>h;have ey':ys2=(ts.map λz=>z.2.num).map V.int:=by rw[ey,map_map];rfl
   rw[ey']at hp2';refine⟨p2,_,rfl,.inl (SqL.of hp2'),rfl,ic _,_,rfl,?_⟩;obtain⟨m,hm,em⟩:=hin ⟨x.2,aw hx,ex⟩;obtain⟨y,hy,rfl⟩:=bb hm;rw[show(if true=true then !inV (.int n) ((ts.map λz=>z.2.num).map V.int)else inV (.int n) ((ts.map λz=>z.2.num).map V.int))=false by
    rw[if_pos rfl,kr,decide_eq_true (mem_map.mpr ⟨y,hy,em⟩)];rfl]
   exact hk H2 s2
 ·refine⟨_,rfl,_,rfl,d,_,rfl,B.not λx hx ex=>hz ⟨x,hx,ex⟩,_,rfl,?_⟩;exact aD (hk H (Same.refl _))
theorem xJ(hr:Room 1 (A.deeper (PyProof.Rows.envOfC "_law_once" (ai bw) s.heap.objs.size f cdv))):
  ∃rd,PS (OnX P w K mg base f cdv A outer s H0 E) (onB 3) rd∧∀(D:Ends)(H:Hp)(x0 x1 x2 x6 x7 x8 x9 x10 x11:Option V)(d e t:Addr)(as bs:List (Addr×(Addr×Nd)))(zs us ts:ZN),SKF H d e as bs zs us→H t=some (.tup (aO ts))→At H ts→ts.length≤60→(∀n∈nds us,TW.aF (nds zs) n.num→TW.aF (nds ts) n.num) →
   (∀H',Same H H'→D.nx [x0,x1,x2,some (.ref d),some (.ref e),some (.ref t),x6,x7,x8,x9,x10,x11] H')→rd D [x0,x1,x2,some (.ref d),some (.ref e),some (.ref t),x6,x7,x8,x9,x10,x11] H:=by
 obtain⟨tc,pc,hc⟩:=onc (P:=P) (w:=w) (K:=K) (mg:=mg) (base:=base) (outer:=outer) (H0:=H0) (E:=E) hr;refine⟨_,aR (am (nG hr.units0) (du (N:=["_law_number","_law_old","_law_tree_here"]) (cl:=[("_law_tree_here",s.heap.objs.size+3),("_law_old",s.heap.objs.size+1)]) (k:=1) (js:=[3,5]) (g:=be 0) rfl
   (LcOk.mk' ["_law_tree_here","_law_old"] rfl rfl (by decide +kernel) (by decide +kernel) ?hcl rfl (by decide +kernel)) rfl ?hj (jH (pv 4)) (λs H fp=>aG (i:=0) (show(["_law_number","_law_old","_law_tree_here"]:List Str).Nodup by decide +kernel) rfl (Or.inl rfl) (Or.inr rfl))
   pc (λs H fp=>pv 0)) (ba ah) (au _)) (aj (ax dG)) aA,?_⟩
 case hcl =>
  intro y hy;rcases mem_cons.mp hy with e|hy
  ·rw[e];rfl
  rcases mem_cons.mp hy with e|hy
  ·rw[e];rfl
  ·cases hy
 case hj =>
  intro i j x h1 h2
  match i,h1,h2 with
  |0,h1,h2 =>
   cases h1;cases h2;exact⟨rfl,Or.inr (Or.inl rfl),(show((ai bw).names.lookup ("_law_old":Str)≠some NameKind.local)by decide +kernel),by first|exact Or.inl rfl|exact Or.inr rfl⟩
  |1,h1,h2 =>
   cases h1;cases h2;exact⟨rfl,Or.inr (Or.inl rfl),(show((ai bw).names.lookup ("_law_tree_here":Str)≠some NameKind.local)by decide +kernel),by first|exact Or.inl rfl|exact Or.inr rfl⟩
  |i+2,h1,h2=>simp at h1
 intro D H x0 x1 x2 x6 x7 x8 x9 x10 x11 d e t as bs zs us ts L ht hA hl hin q;obtain⟨o,ho⟩:=L.fr;have l2:=L.l2;refine⟨_,rfl,e,o,aM bs,rfl,ho,λp hp=>?_⟩;rw[L.keys];refine cQ (fr:=[some (.ref d),some (.ref t)]) us (λz=>V.int z.2.num) (by omega) hp (cB ho) rfl (λ_=>false) (λz y _=>y=.int z.2.num) (λz y H H' h _=>h) (λz H' k mz s1 hpl hk=>?_) (λz H' k mz h s1 _ hk=>by cases h) (λys H' s1 hp' hys=>?_)
 ·exact hc H' d t as zs ts z.2.num k (L.same s1).b1 L.t1 (s1 _ _ ht) (hA.same s1) hl (hin z.2 (aw mz)) hk
 ·have e0:us.filter (λ_=>false)=[]:=by simp
  rw[e0]at hys;have ey:ys=[]:=by cases hys;rfl
  subst ey;refine⟨ap (by decide),λc hc=>?_⟩;have s2:=af (o:=.lst []) hc;refine⟨p,c,_,rfl,rfl,SqL.of (s2 _ _ hp'),SqL.of ac,_,rfl,?_⟩;exact aD (q _ (s1.trans s2))
end
section
variable{t0 u t:List Nd}{ds:List (TW.Deed Str)}
theorem gT(U:TW.Tree1 u)(uok:∀n∈u,cL n)(hl:t0.length+u.length≤29)(I0:Iv t0 u t0 [])(h:Trace u t0 ds t):Iv t0 u t ds∧TW.Chain t0 ds t∧∀d∈ds,ci d:=by
 have S:=lX (t0:=t0) U uok hl
 induction h with
 |nil=>exact⟨I0,.nil,λd hd=>by cases hd⟩
 |@snoc ds t t1 d hh hn told ih =>
  obtain⟨I,C,O⟩:=ih;obtain⟨ok,t1',told',I1,_⟩:=S.nx t ds d I hn;have e:t1=t1':=by injection told.one I.tr told'
  subst e;refine⟨I1,C.snoc told,λx hx=>?_⟩;rcases mem_append.mp hx with hx|hx
  ·exact O x hx
  ·rw[mem_singleton.mp hx];exact ok
theorem kQ:∀{ds:List (TW.Deed Str)}{t v:List Nd},TW.Chain t ds v→(∀d∈ds,∃n s,d=.write n s)→∀a b,ds=a++b→∃t',TW.Chain t a t'∧t'.map (·.num)=t.map (·.num):=by
 intro ds t v h
 induction h with
 |nil =>
  intro _ a b e;obtain⟨rfl,rfl⟩:=List.append_eq_nil_iff.mp e.symm;exact⟨_,.nil,rfl⟩
 |@cons t t1 v d ds told hc ih =>
  intro hw a b e;cases a with
  |nil=>exact⟨t,.nil,rfl⟩
  |cons x a =>
   rw[cons_append]at e;injection e with e1 e2
   subst e1;obtain⟨t',c',e'⟩:=ih (λy hy=>hw y (mem_cons_of_mem _ hy)) a b e2;refine⟨t',.cons told c',e'.trans ?_⟩;obtain⟨n,s,rfl⟩:=hw d (mem_cons_self ..);cases told with
   |wrote hy ey hs =>
    rw[map_map];refine map_congr_left λm _=>?_;show(TW.put _ m).num=m.num;unfold TW.put
    split
    ·rename_i h;first|exact h.symm|exact h|(simp at h;omega)
    ·rfl
theorem ph{t0 u t:List Nd}{ds:List (TW.Deed Str)}(C:Cnt t0 u ds t):∀n∈u,TW.aF t0 n.num→TW.aF t n.num:=λn hn ⟨o,ho,eo⟩=>by
 obtain⟨m,hm,em,_⟩:=C.old n hn o ho eo;exact⟨m,hm,em⟩
theorem tY{t u:List Nd}:∀d∈cM t u,∃n s,d=.write n s:=λd hd=>by
 unfold cM at hd;obtain⟨n,_,rfl⟩:=mem_map.mp hd;exact⟨_,_,rfl⟩
theorem rU(T0:TW.Tree1 t0)(U:TW.Tree1 u)(uok:∀n∈u,cL n)(hl:t0.length+u.length≤29)(I0:Iv t0 u t0 []){t2:List Nd}(h:Trace u t0 ds t2)(hn:Nxt t2 u ds none){a b:List (TW.Deed Str)}(e:ds++cM t2 u=a++b):∃t',TW.Chain t0 a t'∧t'.length≤29∧∀n∈u,TW.aF t0 n.num→TW.aF t' n.num:=by
 have S:=lX (t0:=t0) U uok hl;rcases List.append_eq_append_iff.mp e with⟨a',rfl,e2⟩|⟨c',rfl,e2⟩
 ·obtain⟨I,C,_⟩:=gT U uok hl I0 h;obtain⟨h1,h2⟩:=eE I.tr U I.sk I.as hn;obtain⟨t',c',en⟩:=kQ (lZ I.tr U I.sk h1 h2) tY a' b e2;refine⟨t',jV C c',?_,λn hn h0=>?_⟩
  ·have:=congrArg length en;rw[length_map,length_map]at this;rw[this];exact(S.bd t2 ds I).1
  ·obtain⟨m,hm,em⟩:=ph (dq U T0 h).2 n hn h0;have:n.num∈t'.map (·.num):=by rw[en];exact mem_map.mpr ⟨m,hm,em⟩
   obtain⟨y,hy,ey⟩:=mem_map.mp this;exact⟨y,hy,ey⟩
 ·obtain⟨t',h'⟩:=qc h;obtain⟨I,C,_⟩:=gT U uok hl I0 h';exact⟨t',C,(S.bd t' a I).1,ph (dq U T0 h').2⟩
theorem wf(T0:TW.Tree1 t0)(U:TW.Tree1 u)(uok:∀n∈u,cL n)(hl:t0.length+u.length≤29)(I0:Iv t0 u t0 []){t2:List Nd}(h:Trace u t0 ds t2):∀d∈ds++cM t2 u,ci d∧(eF d="drop"→¬TW.aF u (bc d)):=λd hd=>by
 obtain⟨I,_,O⟩:=gT U uok hl I0 h;rcases mem_append.mp hd with hd|hd
 ·refine⟨O d hd,λhw=>nR T0 U h d hd ?_ hw⟩;cases d<;>first|rfl|exact absurd hw (show ¬(("move":Str)="drop")by decide)
 ·unfold cM at hd;obtain⟨n,hn,rfl⟩:=mem_map.mp hd;have:=I.ok n (mem_filter.mp hn).1;exact⟨⟨this.1,this.2.1⟩,λhw=>absurd hw (by show ¬(("write":Str)="drop");decide)⟩
end
theorem io:∀{a:List (TW.Deed Str)}{t x y:List Nd},TW.Tree1 t→(∀d∈a,d.pos)→TW.Chain t a x→TW.Chain t a y→x=y:=by
 intro a
 induction a with
 |nil=>intro t x y _ _ h h';exact h.end.symm.trans h'.end
 |cons d a ih =>
  intro t x y T hp h h';obtain⟨v,h1,h2⟩:=h.head;obtain⟨v',h1',h2'⟩:=h'.head;have e:v=v':=by injection h1.one T h1'
  subst e;exact ih (h1.tree T (hp d (mem_cons_self ..))) (λd hd=>hp d (mem_cons_of_mem _ hd)) h2 h2'
theorem nU:∀{a:List (TW.Deed Str)}{t x:List Nd},TW.Tree1 t→(∀d∈a,d.pos)→TW.Chain t a x→TW.Tree1 x:=by
 intro a
 induction a with
 |nil=>intro t x T _ h;rw[←h.end];exact T
 |cons d a ih =>
  intro t x T hp h;obtain⟨v,h1,h2⟩:=h.head;exact ih (h1.tree T (hp d (mem_cons_self ..))) (λd hd=>hp d (mem_cons_of_mem _ hd)) h2
theorem qf:∀{a:List (TW.Deed Str)}{d:TW.Deed Str}{t v:List Nd},TW.Chain t (a++[d]) v→∃x,TW.Chain t a x∧TW.Told x d (.inr v):=by
 intro a
 induction a with
 |nil =>
  intro d t v h;obtain⟨u,h1,h2⟩:=h.head;have:=h2.end;subst this;exact⟨t,.nil,h1⟩
 |cons c a ih =>
  intro d t v h;rw[cons_append]at h;obtain⟨u,h1,h2⟩:=h.head;obtain⟨x,c1,c2⟩:=ih h2;exact⟨x,.cons h1 c1,c2⟩
theorem wg{H H':Hp}{g:Addr}{kvs:List (Key×V)}(hg:H g=some (.dK kvs))(ex:Ext g H H'){ws:ZN}(h:At H ws):At H' ws:=λz hz=>ex _ _ (λe=>by have:=h z hz;rw[e,hg]at this;cases this) (h z hz)
section
variable{P:Program}{w:World}{K:PySem.W.Frag}{mg:Str→Option Value}{base:Heap}{f:Addr}{cdv:Value}{A:Around}{outer:List Env}{s:Shared}{H0:Hp}{E:XK}
theorem on8{cls:TW.Wd→Addr}{CN:Addr}(hr:Room 7 (A.deeper (PyProof.Rows.envOfC "_law_once" (ai bw) s.heap.objs.size f cdv)))(CD:da P w K mg base 4 "done" ["tree","deed"] (gk cls))(CI:da P w K mg base 7 "in_steps" ["old","new"] (oT CN)):
  ∃rd,PS (OnX P w K mg base f cdv A outer s H0 E) (onS 8) rd∧∀(D:Ends)(HB H:Hp)(x0:Option V)(t1 t2 d e g:Addr)(as bs:List (Addr×(Addr×Nd)))(zs us:ZN),HB g=none→Same HB H→SKF HB d e as bs zs us→Tre HB t1 zs→Tre HB t2 us→dF (nds zs) (nds us)→(∀n∈nds zs,cL n)→(∀n∈nds us,cL n)→zs.length+us.length≤29→WdD H g [] [] [] →
   (∀t' ws ks kvs dd tt x7 H',Same HB H'→H' t'=some (.tup (aO ws))→At H' ws→nds ws=nds us→WdD H' g ks kvs (dd++cM tt (nds us))→Trace (nds us) (nds zs) dd tt→Nxt tt (nds us) dd none→D.nx [x0,some (.ref t1),some (.ref t2),some (.ref d),some (.ref e),some (.ref t'),some (.ref g),x7,none,none,none,none] H')→rd D [x0,some (.ref t1),some (.ref t2),some (.ref d),some (.ref e),some (.ref t1),some (.ref g),none,none,none,none,none] H:=by
 have hr4:Room 4 _:=hr.mono (by decide);have hr1:Room 1 _:=hr.mono (by decide);obtain⟨r0,p0,h0⟩:=xH (P:=P) (w:=w) (K:=K) (mg:=mg) (base:=base) (outer:=outer) (H0:=H0) (E:=E) hr4 CD;obtain⟨r1,p1,h1⟩:=xG (P:=P) (w:=w) (K:=K) (mg:=mg) (base:=base) (outer:=outer) (H0:=H0) (E:=E) hr1;obtain⟨r2,p2,h2⟩:=xI (P:=P) (w:=w) (K:=K) (mg:=mg) (base:=base) (outer:=outer) (H0:=H0) (E:=E) hr1;obtain⟨r3,p3,h3⟩:=xJ (P:=P) (w:=w) (K:=K) (mg:=mg) (base:=base) (outer:=outer) (H0:=H0) (E:=E) hr1;obtain⟨fI,fdI,GI,mI,kI,bI⟩:=CI;refine⟨_,cH PassesOwn.never rfl (cG (al (E:=E0) GI hr rfl mI kI bI .nil ut (aa (pv 1) (aa (pv 2) ah)))) (aG (i:=7) fu.nd rfl (Or.inl rfl)) (ae p0 (ae p1 (ae p2 (aj p3)))),?_⟩;intro D HB H x0 t1 t2 d e g as bs zs us hg0 sB L T1 T2 sk zok uok hl W q;have hln:(nds zs).length+(nds us).length≤29:=by unfold nds;rw[length_map,length_map];exact hl
 have I0:=lY T1.tr sk zok hln;refine⟨_,rfl,_,rfl,t1,t2,zs,us,rfl,T1.same sB,T2.same sB,λz hz=>?_,uok,λh=>absurd sk h,λ_=>⟨_,_,rM T2.tr uok hln,⟨I0,.nil⟩,λl ds tt dd H1 s1 hI hn hlst hds eds hch=>?_⟩⟩
 ·have:=zok z.2 (aw hz);exact⟨by have:=this.1;omega,this.2.1⟩
 obtain⟨I,TR⟩:=hI;have aok:=wf T1.tr T2.tr uok hln I0 TR;have W1:=W.same s1;have sB1:=sB.trans s1;have hlen:ds.length≤900:=by
  have e1:ds.length=dd.length+(cM tt (nds us)).length:=by have:=congrArg length eds;rwa [length_map,length_append]at this
  have b1:=(lX (t0:=nds zs) T2.tr uok hln).bd tt dd I;have b2:(cM tt (nds us)).length≤tt.length:=by unfold cM;rw[length_map];exact length_filter_le _ _
  have:=b1.1;have:=b1.2.1;omega
 have fullc:=nQ T2.tr I hn hch;rw[←eds]at fullc aok;have ext:∀{H':Hp},Ext g H1 H'→Same HB H':=λex b o eb=>ex b o (λz=>by rw[z,hg0]at eb;cases eb) (sB1 _ _ eb);have nel:∀{H':Hp},Ext g H1 H'→H' l=some (.lst (aX ds)):=λex=>ex _ _ (λz=>by rw[z,W1.dict]at hlst;cases hlst) hlst;refine⟨l,rfl,⟨_,SqL.of hlst⟩,eV (xs:=aX ds) (λi σ H'=>∃t' ws ks kvs x7,σ=[x0,some (.ref t1),some (.ref t2),some (.ref d),some (.ref e),some (.ref t'),some (.ref g),x7,none,none,none,none]∧Ext g H1 H'∧H' t'=some (.tup (aO ws))∧At H' ws∧TW.Chain (nds zs) ((ds.map (·.2)).take i) (nds ws)∧WdD H' g ks kvs ((ds.map (·.2)).take i))
  ⟨t1,zs,[],[],none,rfl,Ext.of (Same.refl _),(T1.same sB1).tup,(T1.same sB1).nod,.nil,W1⟩ (λi σ H' _ ⟨_,_,_,_,_,_,ex,_⟩=>SqL.of (nel ex)) (λi x σ H' hx h=>?_) (λσ H' h=>?_)⟩
 ·obtain⟨t',ws,ks,kvs,x7,rfl,ex,ht',hA',hc',W'⟩:=h;unfold aX at hx;rw[getElem?_map]at hx;cases gx:ds[i]? with
  |none=>rw[gx]at hx;cases hx
  |some y =>
   rw[gx]at hx;cases hx;have my:=mem_of_getElem? gx;have hy:H' y.1=some (.tup (aT y.2)):=ex _ _ (λz=>by have:=hds y my;rw[z,W1.dict]at this;cases this) (hds y my);have gy:(ds.map (·.2))[i]?=some y.2:=by rw[getElem?_map,gx];rfl
   have et:(ds.map (·.2)).take (i+1)=(ds.map (·.2)).take i++[y.2]:=bp gy;have pos:∀d∈(ds.map (·.2)).take i,d.pos:=λd hd=>(aok d (List.mem_of_mem_take hd)).1.pos;obtain⟨v,cv,lv,hv⟩:=rU T1.tr T2.tr uok hln I0 TR hn (a:=(ds.map (·.2)).take (i+1)) (b:=(ds.map (·.2)).drop (i+1)) (by rw[←eds,take_append_drop]);obtain⟨v0,cv0,lv0,_⟩:=rU T1.tr T2.tr uok hln I0 TR hn (a:=(ds.map (·.2)).take i) (b:=(ds.map (·.2)).drop i) (by rw[←eds,take_append_drop]);have e0:=io T1.tr pos cv0 hc';subst e0;have lw:ws.length≤29:=by unfold nds at lv0;rwa [length_map]at lv0
   have Tw:=nU T1.tr pos hc';have cv':=cv;rw[et]at cv';obtain⟨x,cx,told⟩:=qf cv';have ex0:=io T1.tr pos cx hc';subst ex0;have ay:=aok y.2 (mem_map.mpr ⟨y,my,rfl⟩);refine h0 _ H' _ _ _ _ _ _ _ _ _ _ t' y.1 ws y.2 v ⟨ht',hA',Tw,by omega⟩ lw hy ay.1 told λt2' ws2 H2 s2 ht2 hA2 e2=>?_;have W2:=W'.same s2;refine h1 _ H2 _ _ _ _ _ _ _ _ _ _ g y.1 ks kvs _ y.2 W2 (by rw[length_take,length_map];omega) (s2 _ _ hy) λks' kvs' H3 ex3 W3=>?_;have ex13:Ext g H1 H3:=λb o hb eb=>ex3 b o hb (s2 _ _ (ex b o hb eb));have hy3:H3 y.1=some (.tup (aT y.2)):=ex3 _ _ (λz=>by have:=s2 _ _ hy;rw[z,W2.dict]at this;cases this) (s2 _ _ hy);have ht3:H3 t2'=some (.tup (aO ws2)):=ex3 _ _ (λz=>by have:=ht2;rw[z,W2.dict]at this;cases this) ht2;have hA3:=wg W2.dict ex3 hA2;have lw2:ws2.length≤29:=by rw[←e2]at lv;unfold nds at lv;rwa [length_map]at lv
   refine h2 _ H3 _ _ _ _ _ _ _ _ _ _ e y.1 bs us y.2 (L.b2.same (ext ex13)) T2.tr hy3 ay.2 ?_;refine h3 _ H3 _ _ _ _ _ _ _ _ _ d e t2' as bs zs us ws2 (L.same (ext ex13)) ht3 hA3 (by omega) (by rw[e2];exact hv) λH4 s4=>?_;refine⟨t2',ws2,ks',kvs',_,rfl,λb o hb eb=>s4 _ _ (ex13 b o hb eb),s4 _ _ ht3,hA3.same s4,by rw[e2];exact cv,?_⟩;rw[et];exact W3.same s4
 ·obtain⟨t',ws,ks,kvs,x7,rfl,ex,ht',hA',hc',W'⟩:=h;have el:(aX ds).length=(ds.map (·.2)).length:=by unfold aX;rw[length_map,length_map]
  rw[el,take_length]at hc' W';have ew:=io T1.tr (λd hd=>(aok d hd).1.pos) hc' fullc;rw[eds]at W';exact q t' ws ks kvs dd tt x7 H' (ext ex) ht' hA' ew W' TR hn
end
theorem qg{H:Hp}{us ws:ZN}(h:nds us=nds ws)(hu:At H us)(hw:At H ws):gG H (aO us) (aO ws):=by
 refine⟨by rw[bo,bo,←bY us,←bY ws,h],λi x y hx hy=>?_⟩;obtain⟨a,ga,rfl⟩:=cr hx;obtain⟨b,gb,rfl⟩:=cr hy;have e:a.2=b.2:=by
  have h1:(nds us)[i]?=some a.2:=by unfold nds;rw[getElem?_map,ga];rfl
  have h2:(nds ws)[i]?=some b.2:=by unfold nds;rw[getElem?_map,gb];rfl
  rw[h,h2]at h1;exact(Option.some.inj h1).symm
 refine .inr ⟨a.1,b.1,_,_,rfl,rfl,hu a (mem_of_getElem? ga),hw b (mem_of_getElem? gb),rfl,?_⟩;rw[e];exact nH H b.2 2
section
variable{P:Program}{w:World}{K:PySem.W.Frag}{mg:Str→Option Value}{base:Heap}{f:Addr}{cdv:Value}{A:Around}{outer:List Env}{s:Shared}{H0:Hp}{E:XK}
theorem on9(hr:Room 1 (A.deeper (PyProof.Rows.envOfC "_law_once" (ai bw) s.heap.objs.size f cdv))):
  ∃rd,PS (OnX P w K mg base f cdv A outer s H0 E) (onS 9) rd∧∀(D:Ends)(H:Hp)(x0 x1 x3 x4 x6 x7 x8 x9 x10 x11:Option V)(t u:Addr)(ws us:ZN),H t=some (.tup (aO ws))→At H ws→H u=some (.tup (aO us))→At H us→nds ws=nds us →
   D.nx [x0,x1,some (.ref u),x3,x4,some (.ref t),x6,x7,x8,x9,x10,x11] H→rd D [x0,x1,some (.ref u),x3,x4,some (.ref t),x6,x7,x8,x9,x10,x11] H:=by
 refine⟨_,aR (am (nk (nr hr)) (pv 5) (pv 2) (au _)) (aj (ax dG)) aA,?_⟩;intro D H x0 x1 x3 x4 x6 x7 x8 x9 x10 x11 t u ws us ht hw hu hA e q;exact⟨_,rfl,_,rfl,.inr ⟨t,u,_,_,rfl,rfl,qg e hw hA,.inr ⟨ht,hu⟩,_,rfl,aD q⟩⟩
end
end TK
namespace L2
open PySem PySem.Spec PyProof.Rows
section
variable{X:Cx}{tg:Expr}
end
end L2
namespace L2
open PySem PyProof PyProof.Rows
section
variable{X:Cx}{pos:Pos}
end
end L2
namespace L2
open PySem PySem.Spec PyProof.Rows
section
variable{X:Cx}{pins:List (Addr×Obj)}{σ:St}{H:Hp}{s:Shared}
theorem jo{H:Hp}{xs:List V}(h:xs.all db=true):gG H xs xs:=⟨rfl,λi x y hx hy=>by
 rw[hx]at hy;cases hy;exact iY ⟨rfl,all_eq_true.mp h x (mem_of_getElem? hx)⟩⟩
end
end L2
namespace TK
open PySem L2
section
variable{P:Program}{w:World}{K:PySem.W.Frag}{mg:Str→Option Value}{base:Heap}{f:Addr}{cdv:Value}{A:Around}{outer:List Env}{s:Shared}{H0:Hp}{E:XK}
theorem xK(hr:Room 1 (A.deeper (PyProof.Rows.envOfC "_law_once" (ai bw) s.heap.objs.size f cdv))):
  ∃rd,PS (OnX P w K mg base f cdv A outer s H0 E) (onS 11) rd∧∀(D:Ends)(H:Hp)(x0 x1 x2 x3 x5 x7 x8 x9 x10 x11:Option V)(e g:Addr)(bs:List (Addr×(Addr×Nd)))(us:ZN)(ks:List Int)(kvs:List (Key×V))(ds:List (TW.Deed Str)),Book H e bs us→TW.Tree1 (nds us)→e≠g→WdD H g ks kvs ds→ds.length≤900→(∀k,¬TW.aF (nds us) k→wds k ds=[]∨wds k ds=[("drop":Str)]) →
   (∀H',Ext g H H'→D.rt (.bl true) H')→rd D [x0,x1,x2,x3,some (.ref e),x5,some (.ref g),x7,x8,x9,x10,x11] H:=by
 refine⟨_,ax (dH (eK hr.units0) (du (N:=["_law_number","_law_new","_law_words"]) (cl:=[("_law_words",s.heap.objs.size+4),("_law_new",s.heap.objs.size+2)]) (k:=1) (js:=[4,6]) (g:=be 0) rfl
   (LcOk.mk' ["_law_words","_law_new"] rfl rfl (by decide +kernel) (by decide +kernel) ?hcl rfl (by decide +kernel)) rfl ?hj (qM (pv 6)) (λs H fp=>aG (i:=0) (show(["_law_number","_law_new","_law_words"]:List Str).Nodup by decide +kernel) rfl (Or.inl rfl) (Or.inr rfl))
   (λs H fp=>PW.pt (pw_and (bQ (bZ (aI hr) (pv 0) (pv 1))) (pw_and1 (am (nk (nr hr)) (aW (aI hr) (pv 2) (pv 0) (λ_ _=>rfl)) (ba (aa aJ ah)) (au _))))) (λs H fp=>pv 0)) (ba ah) (au _)),?_⟩
 case hcl =>
  intro y hy;rcases mem_cons.mp hy with e|hy
  ·rw[e];rfl
  rcases mem_cons.mp hy with e|hy
  ·rw[e];rfl
  ·cases hy
 case hj =>
  intro i j x h1 h2
  match i,h1,h2 with
  |0,h1,h2 =>
   cases h1;cases h2;exact⟨rfl,Or.inr (Or.inl rfl),(show((ai bw).names.lookup ("_law_new":Str)≠some NameKind.local)by decide +kernel),by first|exact Or.inl rfl|exact Or.inr rfl⟩
  |1,h1,h2 =>
   cases h1;cases h2;exact⟨rfl,Or.inr (Or.inl rfl),(show((ai bw).names.lookup ("_law_words":Str)≠some NameKind.local)by decide +kernel),by first|exact Or.inl rfl|exact Or.inr rfl⟩
  |i+2,h1,h2=>simp at h1
 intro D H x0 x1 x2 x3 x5 x7 x8 x9 x10 x11 e g bs us ks kvs ds B T neg W hl hout q;refine⟨_,rfl,g,kvs,rfl,W.dict,λo p hp=>?_⟩;have hkl:=W.len;have ek:(kvs.map λp=>kV p.1)=ks.map V.int:=by
  have:(kvs.map λp=>kV p.1)=(kvs.map (·.1)).map kV:=by rw[map_map];rfl
  rw[this,W.keys,map_map];rfl
 have hg1:upd H g (.frz o (.dK kvs)) g=some (.frz o (.dK kvs)):=ac;have ex:Ext g H (upd H g (.frz o (.dK kvs))):=Ext.upd;generalize upd H g (.frz o (.dK kvs))=H1 at hg1 ex hp⊢;rw[ek];refine cQ (fr:=[some (.ref e),some (.ref g)]) ks V.int (by omega) hp (by rw[←ek]at *;first|exact cB hg1|(rw[ek];exact cB hg1)) rfl (λ_=>false) (λz y _=>y=.int z) (λz y H H' h _=>h) (λk H' kk mk s1 hpl hk=>?_) (λz H' k mz h s1 _ hk=>by cases h) (λys H' s1 hp' hys=>?_)
 ·have hB:Book H' e bs us:=⟨by
   rcases B.dict with h|⟨o',h⟩
   ·exact .inl (s1 _ _ (ex _ _ neg h))
   ·exact .inr ⟨o',s1 _ _ (ex _ _ neg h)⟩,B.of,λx hx=>s1 _ _ (ex _ _ (λz=>by have:=B.at' x hx;rw[z,W.dict]at this;cases this) (B.at' x hx))⟩
  by_cases hn:TW.aF (nds us) k
  ·obtain⟨m,hm,em⟩:=hn;obtain⟨z,hz,rfl⟩:=bb hm;obtain⟨r,hg,_⟩:=hB.get (aH T) hz;rw[em]at hg;exact⟨_,rfl,_,rfl,e,_,rfl,hg,_,rfl,aD (hk H' (Same.refl _))⟩
  ·have ew:=(hout k hn).resolve_left ((W.mem k).mp mk);obtain⟨l,v1,v2⟩:=W.val k mk;rw[ew]at v2;have v3:H' l=some (.lst [.str "drop"]):=s1 _ _ (ex _ _ (λz=>by rw[z,W.dict]at v2;cases v2) v2);have gd:cA H' g (.int k) (some (.ref l)):=.inl ⟨kvs,Sum.inl k,.inr ⟨o,s1 _ _ hg1⟩,rfl,v1.symm⟩;refine⟨_,rfl,_,rfl,e,_,rfl,hB.not λz hz ez=>hn ⟨z.2,aw hz,ez⟩,_,rfl,aQ ?_⟩;refine⟨_,rfl,_,rfl,g,_,rfl,gd,ap (show 1≤1000 by decide),λc hc=>?_⟩;have s2:=af (o:=.lst [.str "drop"]) hc;exact .inr ⟨l,c,_,_,rfl,rfl,jo rfl,.inl ⟨s2 _ _ v3,ac⟩,_,rfl,hk _ s2⟩
 ·have e0:ks.filter (λ_=>false)=[]:=by simp
  rw[e0]at hys;have ey:ys=[]:=by cases hys;rfl
  subst ey;refine⟨ap (by decide),λc hc=>?_⟩;have s2:=af (o:=.lst []) hc;exact⟨p,c,_,rfl,rfl,SqL.of (s2 _ _ hp'),SqL.of ac,q _ λb o hb eb=>s2 _ _ (s1 _ _ (ex b o hb eb))⟩
end
end TK
namespace L2
open PySem PySem.Spec PyProof.Rows
section
variable{X:Cx}
theorem wj(K:PySem.W.Frag){T name id:_}{r:V→List V→Hp→VK→Prop}{o e:Expr}{es:List Expr}{apos cpos:Pos}{to:TE}{t:TA}(pa:PlainAttrs T)(slot:Slot T name id)(hty:typeOf (.builtin id)=pure (.type "method_descriptor"))(hm:MtR X id r)(ho:PE X o to)(ha:PA X (e::es) t)(hK:X.K=K:=by rfl)(hbase:attributeBase o name X.env (eval o X.env)=eval o X.env:=by rfl)(hfew:((backTo cpos (starEach (e::es) X.env)).all (λx=>!x.1)&&(backToKw cpos (keywordEach [] X.env)).all (λx=>x.1.isSome)
   && decide ((e::es).length+([]:List Keyword).length+(if ([]:List Keyword).isEmpty then 0 else 1)<30))=true:=by rfl)(hline:(apos.endLine==cpos.line)=true:=by rfl)(hs:starEach (e::es) X.env=(false,eval e X.env)::starEach es X.env:=by rfl)(hplain:(backTo cpos (starEach es X.env)).any (·.1)=false:=by rfl):
  PE X (.Call (.Attribute o name apos) (e::es) [] cpos) (tBM K T r to t):=by
 subst hK;exact eY pa slot hty hm ho ha hbase hfew hline hs hplain
end
end L2
namespace TK
open PySem L2
def onF(i:Nat):Stmt:=match onS 10 with
 |.For _ _ b _ _=>b.getD i (.Pass ⟨0,0,0,0⟩)
 |_=>.Pass ⟨0,0,0,0⟩
theorem WdD.get{H:Hp}{g a:Addr}{ks:List Int}{kvs:List (Key×V)}{ds:List (TW.Deed Str)}(W:WdD H g ks kvs ds)(ha:H a=some (.lst []))(k:Int):∃o l,cA H g (.int k) o∧o.getD (.ref a)=.ref l∧H l=some (.lst ((wds k ds).map V.str)):=by
 by_cases hin:k∈ks
 ·obtain⟨l,h1,h2⟩:=W.val k hin;have gd:=cA.k (k:=Sum.inl k) W.dict;rw[h1]at gd;exact⟨_,l,gd,rfl,h2⟩
 ·have gd:=cA.k (k:=Sum.inl k) W.dict;rw[W.no hin]at gd;have e0:wds k ds=[]:=Classical.byContradiction λz=>hin ((W.mem _).mpr z);exact⟨_,a,gd,rfl,by rw[ha,e0];rfl⟩
section
variable{P:Program}{w:World}{K:PySem.W.Frag}{mg:Str→Option Value}{base:Heap}{f:Addr}{cdv:Value}{A:Around}{outer:List Env}{s:Shared}{H0:Hp}{E:XK}
theorem of1(hr:Room 1 (A.deeper (PyProof.Rows.envOfC "_law_once" (ai bw) s.heap.objs.size f cdv))):
  ∃rd,PS (OnX P w K mg base f cdv A outer s H0 E) (onF 1) rd∧∀(D:Ends)(H:Hp)(x0 x1 x2 x3 x4 x5 x7 x9 x10 x11:Option V)(g:Addr)(k:Int)(ks:List Int)(kvs:List (Key×V))(ds:List (TW.Deed Str)),WdD H g ks kvs ds→ds.length≤900 →
   (∀l H',Same H H'→H' l=some (.lst (((wds k ds).filter λ(x:Str)=>!decide (x=("move":Str))).map V.str))→D.nx [x0,x1,x2,x3,x4,x5,some (.ref g),x7,some (.int k),x9,some (.ref l),x11] H')→rd D [x0,x1,x2,x3,x4,x5,some (.ref g),x7,some (.int k),x9,x10,x11] H:=by
 refine⟨_,jI (ii:=10) (N:=["_law_word"]) (cl:=[]) (k:=1) (js:=[]) (g:=be 0) fu.nd rfl (Or.inl rfl) rfl (dS rfl (by decide +kernel) (by decide +kernel) (by decide +kernel)) rfl (λi j x h=>by simp at h)
   (cG (iT (aI hr) (pv 6) (pv 8) (ba ah) ⟨rfl,rfl,rfl,rfl⟩)) (λs H fp=>aG (i:=0) (show(["_law_word"]:List Str).Nodup by decide +kernel) rfl (Or.inl rfl) (Or.inr rfl))
   (λs H fp=>am cN (pv 0) aJ (au _)) (λs H fp=>pv 0),?_⟩
 intro D H x0 x1 x2 x3 x4 x5 x7 x9 x10 x11 g k ks kvs ds W hl q;refine⟨_,rfl,g,rfl,.inl ⟨_,.inl W.dict⟩,_,rfl,ap (by decide),λa ha=>?_⟩;have s1:=af (o:=.lst []) ha;obtain⟨o,l,gd,el,hl1⟩:=(W.same s1).get (a:=a) ac k;generalize upd H a (.lst [])=H1 at s1 gd hl1⊢;refine⟨o,gd,l,el,⟨_,SqL.of hl1⟩,λp hp=>?_⟩;have hw:=oZ k ds;refine cQ (fr:=[]) (wds k ds) V.str (by omega) hp (gH (SqL.of hl1)) rfl (λ(x:Str)=>!decide (x=("move":Str))) (λz y _=>y=.str z) (λz y H H' h _=>h) (λz H' kk mz s2 _ hk=>?_) (λz H' kk mz _ s2 _ hk=>⟨_,rfl,hk _ H' (Same.refl _) rfl⟩) (λys H' s2 hp' hys=>?_)
 ·refine⟨_,rfl,rfl,_,rfl,?_⟩;have e:(!decide (V.str z=V.str "move")) = !decide (z=("move":Str)):=by
   congr 1
   exact decide_eq_decide.mpr ⟨λh=>by injection h,λh=>by rw[h]⟩
  rw[e];exact hk H' (Same.refl _)
 ·rw[bv hys (f:=V.str) λz y _ h=>h]at hp';exact q p H' (s1.trans s2) hp'
theorem of2(hr:Room 1 (A.deeper (PyProof.Rows.envOfC "_law_once" (ai bw) s.heap.objs.size f cdv))):
  ∃rd,PS (OnX P w K mg base f cdv A outer s H0 E) (onF 2) rd∧∀(D:Ends)(H:Hp)(x0 x1 x2 x3 x4 x5 x7 x9 x10 x11:Option V)(g:Addr)(k:Int)(ks:List Int)(kvs:List (Key×V))(ds:List (TW.Deed Str)),WdD H g ks kvs ds →
   (∀H',Same H H'→D.nx [x0,x1,x2,x3,x4,x5,some (.ref g),x7,some (.int k),x9,x10,some (.int ((wds k ds).count ("move":Str):Nat))] H')→rd D [x0,x1,x2,x3,x4,x5,some (.ref g),x7,some (.int k),x9,x10,x11] H:=by
 refine⟨_,aq (i:=11) fu.nd rfl (Or.inl rfl) (wj K plainAttrs_list PySem.F.slot_list_count PySem.F.type_list_count pW (iT (aI hr) (pv 6) (pv 8) (ba ah) ⟨rfl,rfl,rfl,rfl⟩) (aa aJ ah)),?_⟩;intro D H x0 x1 x2 x3 x4 x5 x7 x9 x10 x11 g k ks kvs ds W q;refine⟨_,rfl,g,rfl,.inl ⟨_,.inl W.dict⟩,_,rfl,ap (by decide),λa ha=>?_⟩;have s1:=af (o:=.lst []) ha;obtain⟨o,l,gd,el,hl1⟩:=(W.same s1).get (a:=a) ac k;generalize upd H a (.lst [])=H1 at s1 gd hl1⊢;refine⟨o,gd,?_⟩;rw[el];exact⟨.inl ⟨rfl,_,SqL.of hl1⟩,l,_,_,rfl,rfl,hl1,q H1 s1⟩
end
def jX(o:Option Nd)(n:Nd):List Str:=match o with
 |none=>[("make":Str)]
 |some m=>if m.st=n.st then []else [("write":Str)]
section
variable{P:Program}{w:World}{K:PySem.W.Frag}{mg:Str→Option Value}{base:Heap}{f:Addr}{cdv:Value}{A:Around}{outer:List Env}{s:Shared}{H0:Hp}{E:XK}
theorem of0:∃rd,PS (OnX P w K mg base f cdv A outer s H0 E) (onF 0) rd∧∀(D:Ends)(H:Hp)(x0 x1 x2 x3 x4 x5 x6 x7 x8 x9 x10 x11:Option V),(∀l H',Same H H'→H' l=some (.lst [])→D.nx [x0,x1,x2,x3,x4,x5,x6,x7,x8,some (.ref l),x10,x11] H')→rd D [x0,x1,x2,x3,x4,x5,x6,x7,x8,x9,x10,x11] H:=by
 refine⟨_,aq (i:=9) fu.nd rfl (Or.inl rfl) (ba ah),?_⟩;intro D H x0 x1 x2 x3 x4 x5 x6 x7 x8 x9 x10 x11 q;exact⟨ap (by decide),λa ha=>q a _ (af ha) ac⟩
theorem of3(hr:Room 1 (A.deeper (PyProof.Rows.envOfC "_law_once" (ai bw) s.heap.objs.size f cdv))):
  ∃rd,PS (OnX P w K mg base f cdv A outer s H0 E) (onF 3) rd∧∀(D:Ends)(H:Hp)(x0 x1 x2 x5 x6 x7 x10 x11:Option V)(d e l:Addr)(as bs:List (Addr×(Addr×Nd)))(zs us:ZN)(n:Nd),Book H d as zs→TW.Tree1 (nds zs)→Book H e bs us→TW.Tree1 (nds us)→n∈nds us→H l=some (.lst []) →
   (∀l' H',Same H H'→H' l'=some (.lst ((jX (TW.de (nds zs) n.num) n).map V.str))→D.nx [x0,x1,x2,some (.ref d),some (.ref e),x5,x6,x7,some (.int n.num),some (.ref l'),x10,x11] H')→rd D [x0,x1,x2,some (.ref d),some (.ref e),x5,x6,x7,some (.int n.num),some (.ref l),x10,x11] H:=by
 refine⟨_,aR (bQ (bZ (aI hr) (pv 8) (pv 3))) (aj (aq (i:=9) fu.nd rfl (Or.inl rfl) (ba (aa aJ ah))))
  (aj (aR (am cN (av (r:=cw K) ao (aW (aI hr) (pv 3) (pv 8) (λ_ _=>rfl)) ag (λ_ _=>rfl)) (av (r:=cw K) ao (aW (aI hr) (pv 4) (pv 8) (λ_ _=>rfl)) ag (λ_ _=>rfl)) (au _)) (aj (aq (i:=9) fu.nd rfl (Or.inl rfl) (ba (aa aJ ah)))) aA)),?_⟩
 intro D H x0 x1 x2 x5 x6 x7 x10 x11 d e l as bs zs us n B T C U hn hl q
 by_cases ho:TW.aF (nds zs) n.num
 ·obtain⟨o,mo,eo⟩:=ho;rw[TW.dE T mo eo]at q;obtain⟨y,hy,rfl⟩:=bb mo;obtain⟨z,hz,rfl⟩:=bb hn;obtain⟨r,g1,r1⟩:=B.get (aH T) hy;obtain⟨r',g2,r2⟩:=C.get (aH U) hz;rw[eo]at g1;refine⟨_,rfl,_,rfl,d,_,rfl,g1,_,rfl,aD ?_⟩;refine⟨_,rfl,_,rfl,d,_,rfl,g1,r,_,_,_,rfl,rfl,SqT.of r1,ny _,_,rfl,_,rfl,e,_,rfl,g2,r',_,_,_,rfl,rfl,SqT.of r2,ny _,?_,_,rfl,?_⟩
  ·cases y.2.st<;>cases z.2.st<;>rfl
  ·rw[rA]
   by_cases es:y.2.st=z.2.st
   ·rw[decide_eq_true es];refine aD (q l H (Same.refl _) ?_);simp only[jX];rw[if_pos es];exact hl
   ·rw[decide_eq_false es];refine aQ ⟨ap (show 1≤1000 by decide),λc hc=>q c _ (af hc) ?_⟩;simp only[jX];rw[if_neg es];exact ac
 ·have e0:TW.de (nds zs) n.num=none:=by
   unfold TW.de;rw[find?_eq_none];intro m hm e;exact ho ⟨m,hm,by simpa using e⟩
  rw[e0]at q;refine⟨_,rfl,_,rfl,d,_,rfl,B.not λz hz ez=>ho ⟨z.2,aw hz,ez⟩,_,rfl,aQ ?_⟩;exact⟨ap (show 1≤1000 by decide),λc hc=>q c _ (af hc) ac⟩
theorem of4(hr:Room 1 (A.deeper (PyProof.Rows.envOfC "_law_once" (ai bw) s.heap.objs.size f cdv))):
  ∃rd,PS (OnX P w K mg base f cdv A outer s H0 E) (onF 4) rd∧∀(D:Ends)(H:Hp)(x0 x1 x2 x4 x5 x6 x7:Option V)(d l l':Addr)(as:List (Addr×(Addr×Nd)))(zs:ZN)(n:Nd)(L:List Str)(m:Int),Book H d as zs→TW.Tree1 (nds zs)→H l=some (.lst (L.map V.str))→H l'=some (.lst (L.map V.str))→(¬TW.aF (nds zs) n.num→m=0) →
   D.nx [x0,x1,x2,some (.ref d),x4,x5,x6,x7,some (.int n.num),some (.ref l),some (.ref l'),some (.int m)] H→rd D [x0,x1,x2,some (.ref d),x4,x5,x6,x7,some (.int n.num),some (.ref l),some (.ref l'),some (.int m)] H:=by
 refine⟨_,aR (PW.pt (pw_or (am (nk (nr hr)) (pv 10) (pv 9) (au _)) (pw_or1 (PW.pt (pw_and (bQ (bZ (aI hr) (pv 8) (pv 3))) (pw_and1 (am og (pv 11) ag (au _)))))))) (aj (ax dG)) aA,?_⟩;intro D H x0 x1 x2 x4 x5 x6 x7 d l l' as zs n L m B T hl hl' hm q;refine⟨_,rfl,_,rfl,.inr ⟨l',l,_,_,rfl,rfl,jo (by rw[all_eq_true];intro v hv;obtain⟨x,_,rfl⟩:=mem_map.mp hv;rfl),.inl ⟨hl',hl⟩,_,rfl,aD ?_⟩⟩
 by_cases ho:TW.aF (nds zs) n.num
 ·obtain⟨o,mo,eo⟩:=ho;obtain⟨y,hy,rfl⟩:=bb mo;obtain⟨r,g1,r1⟩:=B.get (aH T) hy;rw[eo]at g1;exact⟨_,rfl,_,rfl,d,_,rfl,g1,_,rfl,aD (aD q)⟩
 ·cases hm ho;exact⟨_,rfl,_,rfl,d,_,rfl,B.not λz hz ez=>ho ⟨z.2,aw hz,ez⟩,_,rfl,aQ ⟨_,rfl,_,_,rfl,rfl,_,rfl,aD q⟩⟩
theorem of5(hr:Room 1 (A.deeper (PyProof.Rows.envOfC "_law_once" (ai bw) s.heap.objs.size f cdv))):
  ∃rd,PS (OnX P w K mg base f cdv A outer s H0 E) (onF 5) rd∧∀(D:Ends)(H:Hp)(x0 x1 x2 x5 x6 x7 x9 x10:Option V)(d e:Addr)(as bs:List (Addr×(Addr×Nd)))(zs us:ZN)(n:Nd)(m:Int),Book H d as zs→TW.Tree1 (nds zs)→Book H e bs us→TW.Tree1 (nds us)→n∈nds us→(∀o∈nds zs,o.num=n.num→m≤2∧(m=0↔(o.par=n.par∧o.nm=n.nm))) →
   (∀H',Same H H'→D.nx [x0,x1,x2,some (.ref d),some (.ref e),x5,x6,x7,some (.int n.num),x9,x10,some (.int m)] H')→rd D [x0,x1,x2,some (.ref d),some (.ref e),x5,x6,x7,some (.int n.num),x9,x10,some (.int m)] H:=by
 refine⟨_,aR (PW.pt (pw_and (bQ (dR (aI hr) (pv 8) (pv 3))) (pw_and1 (PW.pt (pw_or (am og (pv 11) ag (au _)) (pw_or1 (am cN (dH cy (pv 11) ag (au _)) (dH (vN (aI hr)) (cj (r:=mY K) cY (aW (aI hr) (pv 3) (pv 8) (λ_ _=>rfl)) eI (bA ag)) (cj (r:=mY K) cY (aW (aI hr) (pv 4) (pv 8) (λ_ _=>rfl)) eI (bA ag)) (au _)) (au _)))))))) (aj (ax dG)) aA,?_⟩;intro D H x0 x1 x2 x5 x6 x7 x9 x10 d e as bs zs us n m B T C U hn hm q
 by_cases ho:TW.aF (nds zs) n.num
 ·obtain⟨o,mo,eo⟩:=ho;obtain⟨m2,m0⟩:=hm o mo eo;obtain⟨y,hy,rfl⟩:=bb mo;obtain⟨z,hz,rfl⟩:=bb hn;obtain⟨r,g1,r1⟩:=B.get (aH T) hy;obtain⟨r',g2,r2⟩:=C.get (aH U) hz;rw[eo]at g1;have ea:eJ (bJ y.2) none (some 2)=[.int y.2.par,.str y.2.nm]:=rfl;have eb:eJ (bJ z.2) none (some 2)=[.int z.2.par,.str z.2.nm]:=rfl;refine⟨_,rfl,_,rfl,d,_,rfl,g1,_,rfl,aQ ?_⟩;refine⟨_,rfl,_,_,rfl,rfl,_,rfl,?_⟩;rw[decide_eq_false (show ¬((2:Int)<m)by omega)];refine aD ?_;refine⟨_,rfl,rfl,?_⟩;refine⟨_,rfl,_,rfl,d,_,rfl,g1,_,rfl,r,_,rfl,SqT.of r1,(λh=>absurd h.2 (show ¬HT.sIx 3 3 (some 2)=3 by decide)),λc1 hc1=>?_⟩;rw[ea];have s2:=af (o:=.tup [.int y.2.par,.str y.2.nm]) hc1;have k1:upd H c1 (.tup [.int y.2.par,.str y.2.nm]) c1=some (.tup [.int y.2.par,.str y.2.nm]):=ac;generalize upd H c1 (.tup [.int y.2.par,.str y.2.nm])=H1 at s2 k1⊢;obtain⟨r',g2,r2⟩:=(C.same s2).get (aH U) hz;refine⟨_,rfl,_,rfl,e,_,rfl,g2,_,rfl,r',_,rfl,SqT.of r2,(λh=>absurd h.2 (show ¬HT.sIx 3 3 (some 2)=3 by decide)),λc2 hc2=>?_⟩;rw[eb];have s3:=s2.trans (af (o:=.tup [.int z.2.par,.str z.2.nm]) hc2);have k2:upd H1 c2 (.tup [.int z.2.par,.str z.2.nm]) c2=some (.tup [.int z.2.par,.str z.2.nm]):=ac;have k1':upd H1 c2 (.tup [.int z.2.par,.str z.2.nm]) c1=some (.tup [.int y.2.par,.str y.2.nm]):=bu hc2 k1;generalize upd H1 c2 (.tup [.int z.2.par,.str z.2.nm])=H2 at s3 k2 k1'⊢;have fl:∀n:Nd,∀v∈[V.int n.par,.str n.nm],gO v=true:=λn v hv=>by
   simp only[mem_cons,not_mem_nil,or_false]at hv;rcases hv with rfl|rfl<;>rfl
  refine⟨c1,c2,_,_,rfl,rfl,k1',k2,fl _,fl _,?_⟩;have eq:decide (V.int m=V.int 0)=decide ([V.int y.2.par,V.str y.2.nm]=[V.int z.2.par,V.str z.2.nm]):=decide_eq_decide.mpr ⟨λh=>by
    injection h with h
    obtain⟨h1,h2⟩:=m0.mp h;rw[h1,h2],λh=>by
    injection h with h1 h2
    injection h1 with h1
    injection h2 with h2
    injection h2 with h2
    rw[m0.mpr ⟨h1,h2⟩]⟩
  rw[eq];refine⟨rfl,_,rfl,?_⟩;rw[decide_eq_true (rfl:V.bl (decide ([V.int y.2.par,V.str y.2.nm]=[V.int z.2.par,V.str z.2.nm]))=_)];exact aD (q H2 s3)
 ·exact⟨_,rfl,_,rfl,d,_,rfl,B.not λz hz ez=>ho ⟨z.2,aw hz,ez⟩,_,rfl,aD (aD (q H (Same.refl _)))⟩
end
def tZ(t0:List Nd)(ds:List (TW.Deed Str))(n:Nd):Prop:=((wds n.num ds).filter λ(x:Str)=>!decide (x=("move":Str)))=jX (TW.de t0 n.num) n∧(¬TW.aF t0 n.num→(((wds n.num ds).count ("move":Str):Nat):Int)=0)∧∀o∈t0,o.num=n.num→(((wds n.num ds).count ("move":Str):Nat):Int)≤2∧((((wds n.num ds).count ("move":Str):Nat):Int)=0↔(o.par=n.par∧o.nm=n.nm))
theorem xb{t0 u tt:List Nd}{dd:List (TW.Deed Str)}(T0:TW.Tree1 t0)(U:TW.Tree1 u)(I:Iv t0 u tt dd)(h:Trace u t0 dd tt)(hn:Nxt tt u dd none){n:Nd}(hu:n∈u):tZ t0 (dd++cM tt u) n:=by
 have k1:([("make":Str)].filter λ(x:Str)=>!decide (x=("move":Str)))=[("make":Str)]:=by decide +kernel
 have k2:[("make":Str)].count ("move":Str)=0:=by decide +kernel
 by_cases h0:TW.aF t0 n.num
 ·obtain⟨o,mo,eo⟩:=h0;obtain⟨ms,ew,hm⟩:=tT T0 U I h hn hu mo eo;unfold tZ;rw[ew,TW.dE T0 mo eo];have a1:((if o.st=n.st then []else [("write":Str)]).filter λ(x:Str)=>!decide (x=("move":Str)))=jX (some o) n:=by
   simp only[jX]
   split
   ·rfl
   ·decide +kernel
  have a2:(if o.st=n.st then []else [("write":Str)]).count ("move":Str)=0:=by
   split
   ·rfl
   ·decide +kernel
  rw[filter_append,a1,List.count_append,a2];refine⟨?_,λz=>absurd ⟨o,mo,eo⟩ z,λo' mo' eo'=>?_⟩
  ·have:(ms.filter λ(x:Str)=>!decide (x=("move":Str)))=[]:=by
    rcases hm with⟨e,_⟩|⟨e|e,_⟩<;>rw[e]<;>decide +kernel
   rw[this];rfl
  ·have:=T0.inj mo mo' (eo.trans eo'.symm);subst this;have b1:([]:List Str).count ("move":Str)=0:=rfl;have b2:[("move":Str)].count ("move":Str)=1:=by decide +kernel
   have b3:[("move":Str),("move":Str)].count ("move":Str)=2:=by decide +kernel
   rcases hm with⟨e,h1⟩|⟨e|e,h1⟩
   ·rw[e,b1];exact⟨by decide,λ_=>h1,λ_=>rfl⟩
   ·rw[e,b2];exact⟨by decide,λz=>absurd z (by decide),λz=>absurd z h1⟩
   ·rw[e,b3];exact⟨by decide,λz=>absurd z (by decide),λz=>absurd z h1⟩
 ·have e0:TW.de t0 n.num=none:=by
   unfold TW.de;rw[find?_eq_none];intro m hm e;exact h0 ⟨m,hm,by simpa using e⟩
  unfold tZ;rw[tS T0 U I h hn hu h0,e0,k1,k2];exact⟨rfl,λ_=>rfl,λo mo eo=>absurd ⟨o,mo,eo⟩ h0⟩
section
variable{P:Program}{w:World}{K:PySem.W.Frag}{mg:Str→Option Value}{base:Heap}{f:Addr}{cdv:Value}{A:Around}{outer:List Env}{s:Shared}{H0:Hp}{E:XK}
theorem xL(hr:Room 1 (A.deeper (PyProof.Rows.envOfC "_law_once" (ai bw) s.heap.objs.size f cdv))):
  ∃rd,PS (OnX P w K mg base f cdv A outer s H0 E) (onS 10) rd∧∀(D:Ends)(H:Hp)(x0 x1 x2 x5 x7:Option V)(d e g:Addr)(as bs:List (Addr×(Addr×Nd)))(zs us:ZN)(ks:List Int)(kvs:List (Key×V))(ds:List (TW.Deed Str)),SKF H d e as bs zs us→WdD H g ks kvs ds→ds.length≤900→(∀n∈nds us,tZ (nds zs) ds n) →
   (∀x8 x9 x10 x11 H',Same H H'→D.nx [x0,x1,x2,some (.ref d),some (.ref e),x5,some (.ref g),x7,x8,x9,x10,x11] H')→rd D [x0,x1,x2,some (.ref d),some (.ref e),x5,some (.ref g),x7,none,none,none,none] H:=by
 obtain⟨r0,p0,h0⟩:=of0 (P:=P) (w:=w) (K:=K) (mg:=mg) (base:=base) (f:=f) (cdv:=cdv) (A:=A) (outer:=outer) (s:=s) (H0:=H0) (E:=E);obtain⟨r1,p1,h1⟩:=of1 (P:=P) (w:=w) (K:=K) (mg:=mg) (base:=base) (outer:=outer) (H0:=H0) (E:=E) hr;obtain⟨r2,p2,h2⟩:=of2 (P:=P) (w:=w) (K:=K) (mg:=mg) (base:=base) (outer:=outer) (H0:=H0) (E:=E) hr;obtain⟨r3,p3,h3⟩:=of3 (P:=P) (w:=w) (K:=K) (mg:=mg) (base:=base) (outer:=outer) (H0:=H0) (E:=E) hr;obtain⟨r4,p4,h4⟩:=of4 (P:=P) (w:=w) (K:=K) (mg:=mg) (base:=base) (outer:=outer) (H0:=H0) (E:=E) hr;obtain⟨r5,p5,h5⟩:=of5 (P:=P) (w:=w) (K:=K) (mg:=mg) (base:=base) (outer:=outer) (H0:=H0) (E:=E) hr;refine⟨_,cH PassesOwn.never rfl (jH (pv 4)) (aG (i:=8) fu.nd rfl (Or.inl rfl)) (ae p0 (ae p1 (ae p2 (ae p3 (ae p4 (aj p5)))))),?_⟩;intro D H x0 x1 x2 x5 x7 d e g as bs zs us ks kvs ds L W hl hw q;obtain⟨o,ho⟩:=L.fr;refine⟨_,rfl,e,o,_,rfl,ho,?_⟩;rw[L.keys];refine tz (by have:=cB (ks:=us.map λz=>V.int z.2.num) ho;exact this) (λi σ H'=>∃x8 x9 x10 x11,σ=[x0,x1,x2,some (.ref d),some (.ref e),x5,some (.ref g),x7,x8,x9,x10,x11]∧Same H H') ⟨_,_,_,_,rfl,Same.refl _⟩ (λi σ H' _ ⟨_,_,_,_,_,e⟩=>e) (λi x σ H' hx h=>?_) (λσ H' h=>?_)
 ·obtain⟨x8,x9,x10,x11,rfl,s1⟩:=h;obtain⟨z,hz,rfl⟩:=mem_map.mp (mem_of_getElem? hx);obtain⟨w1,w2,w3⟩:=hw z.2 (aw hz);refine h0 _ H' _ _ _ _ _ _ _ _ _ _ _ _ λl Ha sa la=>?_;have sa':=s1.trans sa;refine h1 _ Ha _ _ _ _ _ _ _ _ _ _ g z.2.num ks kvs ds (W.same sa') hl λl1 Hb sb lb=>?_;rw[w1]at lb;have sb':=sa'.trans sb;refine h2 _ Hb _ _ _ _ _ _ _ _ _ _ g z.2.num ks kvs ds (W.same sb') λHc sc=>?_;have sc':=sb'.trans sc;have Lc:=L.same sc';refine h3 _ Hc _ _ _ _ _ _ _ _ d e l as bs zs us z.2 Lc.b1 L.t1 Lc.b2 L.t2 (aw hz) (sc _ _ (sb _ _ la)) λl2 Hd sd ld=>?_;have Ld:=Lc.same sd;refine h4 _ Hd _ _ _ _ _ _ _ d l2 l1 as zs z.2 _ _ Ld.b1 L.t1 ld (sd _ _ (sc _ _ lb)) w2 ?_;refine h5 _ Hd _ _ _ _ _ _ _ _ d e as bs zs us z.2 _ Ld.b1 L.t1 Ld.b2 L.t2 (aw hz) w3 λHe se=>?_;exact⟨_,_,_,_,rfl,(sc'.trans sd).trans se⟩
 ·obtain⟨x8,x9,x10,x11,rfl,s1⟩:=h;exact q _ _ _ _ H' s1
end
def ldS(i:Nat):Stmt:=(bH cu).getD i (.Pass ⟨0,0,0,0⟩)
def DN:List Str:=["_law_tree_here","_law_deed_here","_law_book_here","_law_number","_law_parent"]
theorem iH:FnScope DN ["_law_tree_here","_law_deed_here"] (ai cu):=fsc
abbrev DX(P:Program)(w:World)(K:PySem.W.Frag)(mg:Str→Option Value)(base:Heap)(f:Addr)(cdv:Value)(A:Around)(outer:List Env)(s:Shared)(H:Hp)(E:XK):Cx:=(hU CX0 P w K mg base DN "_law_done" (ai cu) f cdv A outer s H E).nox
section
variable{P:Program}{w:World}{K:PySem.W.Frag}{mg:Str→Option Value}{base:Heap}{f:Addr}{cdv:Value}{A:Around}{outer:List Env}{s:Shared}{H0:Hp}{E:XK}
theorem wm(T:Txt mg)(hr:Room 1 (A.deeper (PyProof.Rows.envOfC "_law_done" (ai cu) s.heap.objs.size f cdv))):
  ∃t,PS (DX P w K mg base f cdv A outer s H0 E) (ldS 6) t∧∀(D:Ends)(H:Hp)(σ:St)(x0 x1 x3 x4:Option V)(d:Addr)(bs:List (Addr×Nd)),σ=[x0,x1,some (.ref d),x3,x4]→H d=some (.dK (ce bs))→(∀b∈bs,H b.1=some (.tup (bJ b.2)))→(bs.map (·.2.num)).Nodup→bs.length≤60 →
   (∀o us t' H',Same (upd H d (.frz o (.dK (ce bs)))) H'→H' t'=some (.tup (aO us))→At H' us→(nds us).Perm (bs.map (·.2))→TW.cE (nds us)→D.rt (.ref t') H')→t D σ H:=by
 refine⟨_,ax (bh bS rfl T.tuple rfl (aa (br cn rfl T.sorted boot_sorted (aa (fT (N:=["_law_one","_law_book_here"]) (cl:=[("_law_book_here",s.heap.objs.size+1)]) (k:=1) (js:=[2]) (g:=be 0) rfl
    (LcOk.mk' ["_law_book_here"] rfl rfl (by decide +kernel) (by decide +kernel) ?hcl rfl (by decide +kernel)) rfl ?hj (qM (pv 2)) (λs H fp=>aG (i:=0) (show(["_law_one","_law_book_here"]:List Str).Nodup by decide +kernel) rfl (Or.inl rfl) (Or.inr rfl))
    (λs H fp=>aE (r:=oo K) dJ (bn (aa (pv 0) ah)) (aW (aI hr) (pv 1) (pv 0) (λ_ _=>rfl)))) ah)) ah)),?_⟩
 case hcl =>
  intro y hy;rcases mem_cons.mp hy with e|hy
  ·rw[e];rfl
  ·cases hy
 case hj =>
  intro i j x h1 h2
  match i,h1,h2 with
  |0,h1,h2 =>
   cases h1;cases h2;exact⟨rfl,Or.inr (Or.inl rfl),(show((ai cu).names.lookup ("_law_book_here":Str)≠some NameKind.local)by decide +kernel),by first|exact Or.inl rfl|exact Or.inr rfl⟩
  |i+1,h1,h2=>simp at h1
 rintro D H _ x0 x1 x3 x4 d bs rfl hd hb hnd hl q;refine⟨_,rfl,d,_,rfl,hd,λo p hp=>?_⟩;have hb1:∀b∈bs,upd H d (.frz o (.dK (ce bs))) b.1=some (.tup (bJ b.2)):=λb mb=>by
  rw[ak]
  ·exact hb b mb
  ·intro e;have:=hb b mb;rw[e,hd]at this;cases this
 have hd1:upd H d (.frz o (.dK (ce bs))) d=some (.frz o (.dK (ce bs))):=ac;have sq:∀us t' H',Same (upd H d (.frz o (.dK (ce bs)))) H'→H' t'=some (.tup (aO us))→At H' us→(nds us).Perm (bs.map (·.2))→TW.cE (nds us)→D.rt (.ref t') H':=q o;generalize upd H d (.frz o (.dK (ce bs)))=H1 at hb1 hd1 sq hp⊢;rw[jd];refine dO (fr:=[some (.ref d)]) bs (λb=>V.int b.2.num) (by omega) hp (cB hd1) rfl (λb y H'=>∃q,y=.ref q∧q≠p∧H' q=some (.tup (vals b.2))) (λb y H H' ⟨q,e,ne,h⟩ ex=>⟨q,e,ne,ex q _ ne h⟩) (λb H' k mb s1 hpl hk=>?_) (λys H' s1 hp' hys=>?_)
 ·refine⟨_,rfl,(show 1≤sizeLine from ap (by decide)),λc hc=>?_⟩;have s2:=af (o:=.tup [.int b.2.num]) hc;refine⟨_,rfl,_,rfl,d,_,rfl,.inl ⟨ce bs,Sum.inl b.2.num,.inr ⟨o,s2 _ _ (s1 _ _ hd1)⟩,rfl,(jO hnd mb).symm⟩,c,b.1,_,_,rfl,rfl,SqT.of ac,SqT.of (s2 _ _ (s1 _ _ (hb1 b mb))),by simp,(show 4≤sizeLine from ap (by decide)),λh=>absurd h (cons_ne_nil _ _),λ_ q hq=>?_⟩;have hpl2:∃ys,upd H' c (.tup [.int b.2.num]) p=some (.lst ys):=let⟨ys,e⟩:=hpl;⟨ys,s2 _ _ e⟩;exact hk _ _ (s2.trans (af hq)) ⟨q,rfl,dz hpl2 hq,ac⟩
 ·obtain⟨cs,e1,e2,e3⟩:=cF (val:=V.ref) (S:=λ(b:Addr×Nd) (q:Addr)=>H' q=some (.tup (vals b.2))) hys (λb y _ ⟨q,e,_,h⟩=>⟨q,e,h⟩);have er:ys=aO (cs.map λx=>(x.2,x.1.2)):=by rw[e2,←cc,map_map];rfl
  have en:nds (cs.map λx=>(x.2,x.1.2))=bs.map (·.2):=by rw[←e1];unfold nds;rw[map_map,map_map];rfl
  have hcl:cs.length=bs.length:=by rw[←e1,length_map]
  refine fj (zs:=cs.map λx=>(x.2,x.1.2)) (.inl (SqL.of (by rw[hp',er]))) (λz hz=>?_) ?_ (by rw[length_map];omega) (λus t' H2 s2 ht' hA' hpm hrise=>?_)
  ·obtain⟨x,hx,rfl⟩:=mem_map.mp hz;exact e3 x hx
  ·rw[en,map_map];exact hnd
  ·refine sq us t' H2 (s1.trans s2) ht' hA' ?_ hrise;have:(nds us).Perm (nds (cs.map λx=>(x.2,x.1.2))):=hpm.map _;rw[en]at this;exact this
theorem ua(T:Txt mg)(hr:Room 1 (A.deeper (PyProof.Rows.envOfC "_law_done" (ai cu) s.heap.objs.size f cdv)))(CU:Has P w K mg base 1 "_law_under" ["_law_book_here","_law_number","_law_goal"] jn):
  ∃t,PS (DX P w K mg base f cdv A outer s H0 E) (ldS 4) t∧∀(D:Ends)(H:Hp)(σ:St)(a c d:Addr)(dd:TW.Deed Str)(n:Int)(as:List (Addr×(Addr×Nd)))(zs:ZN),σ=[some (.ref a),some (.ref c),some (.ref d),some (.int n),none]→Tre H a zs→H c=some (.tup (aT dd))→Book H d as zs→1≤n →
   ((∃k,dd=.drop k)→∀us t' H' (g:Nd→Bool),Same H H'→H' t'=some (.tup (aO us))→At H' us→nds us=(nds zs).filter g→(∀m∈nds zs,g m=true↔¬TW.Und (nds zs) n m.num)→D.rt (.ref t') H')→((¬∃k,dd=.drop k)→D.nx σ H)→t D σ H:=by
 obtain⟨fU,fdU,GU,mU,kU,bU⟩:=CU;refine⟨_,aR (am cy (av ao (pv 1) ag (λ_ _=>rfl)) aJ (au _)) (aj (ax (bh bS rfl T.tuple rfl (aa (du (N:=["_law_node","_law_book_here","_law_number"]) (cl:=[("_law_number",s.heap.objs.size+2),("_law_book_here",s.heap.objs.size+1)]) (k:=1) (js:=[2,3]) (g:=be 0) rfl
    (LcOk.mk' ["_law_number","_law_book_here"] rfl rfl (by decide +kernel) (by decide +kernel) ?hcl rfl (by decide +kernel)) rfl ?hj (cD (pv 0)) (λs H fp=>aG (i:=0) (show(["_law_node","_law_book_here","_law_number"]:List Str).Nodup by decide +kernel) rfl (Or.inl rfl) (Or.inr rfl))
    (λs H fp=>kb (iJ (al (X:=cq _ _ _ _ _ _ _) GU hr rfl mU kU bU .nil aK (aa (pv 1) (aa (av (r:=cw K) ao (pv 0) ag (λ_ _=>rfl)) (aa (pv 2) ah)))) (λ_=>rfl))) (λs H fp=>pv 0)) ah)))) aA,?_⟩
 case hcl =>
  intro y hy;rcases mem_cons.mp hy with e|hy
  ·rw[e];rfl
  ·rcases mem_cons.mp hy with e|hy
   ·rw[e];rfl
   ·cases hy
 case hj =>
  intro i j x h1 h2
  match i,h1,h2 with
  |0,h1,h2 =>
   cases h1;cases h2;exact⟨rfl,Or.inr (Or.inl rfl),(show((ai cu).names.lookup ("_law_book_here":Str)≠some NameKind.local)by decide +kernel),by first|exact Or.inl rfl|exact Or.inr rfl⟩
  |1,h1,h2 =>
   cases h1;cases h2;exact⟨rfl,Or.inr (Or.inl rfl),(show((ai cu).names.lookup ("_law_number":Str)≠some NameKind.local)by decide +kernel),by first|exact Or.inl rfl|exact Or.inr rfl⟩
  |i+2,h1,h2=>simp at h1
 rintro D H _ a c d dd n as zs rfl tr hc bk hn q1 q2;have hT:=tr.tr;have hl:=tr.len;have sd:SqT K H c (aT dd):=SqT.of hc;cases dd with
 |make n' p nm st=>exact⟨_,rfl,c,_,_,_,rfl,rfl,sd,rfl,rfl,_,rfl,aD (q2 λ⟨k,e⟩=>by cases e)⟩
 |write n' st=>exact⟨_,rfl,c,_,_,_,rfl,rfl,sd,rfl,rfl,_,rfl,aD (q2 λ⟨k,e⟩=>by cases e)⟩
 |move n' p nm=>exact⟨_,rfl,c,_,_,_,rfl,rfl,sd,rfl,rfl,_,rfl,aD (q2 λ⟨k,e⟩=>by cases e)⟩
 |drop n' =>
  refine⟨_,rfl,c,_,_,_,rfl,rfl,sd,rfl,rfl,_,rfl,aQ ?_⟩;refine⟨_,rfl,a,rfl,⟨_,SqT.of tr.tup⟩,λp hp=>?_⟩
  classical
  refine cQ (fr:=[some (.ref d),some (.int n)]) zs (λz=>V.ref z.1) (by omega) hp (dN (by rw[cc];exact SqT.of tr.tup)) rfl (λz=>!decide (TW.Und (nds zs) n z.2.num)) (λz y _=>y=.ref z.1) (λz y H H' h _=>h) (λz H' k mz s1 _ hk=>?_) (λz H' k mz _ s1 _ hk=>⟨_,rfl,hk _ H' (Same.refl _) rfl⟩) (λys H' s1 hp' hys=>?_)
  ·obtain⟨pa,hpa⟩:=TW.PathTo.ex hT (aw mz);refine⟨_,rfl,_,rfl,z.1,_,_,_,rfl,rfl,SqT.of (s1 _ _ (tr.nod z mz)),at0 z.2,_,rfl,d,z.2.num,n,as,zs,pa,rfl,bk.same s1,hT,hpa,hn,λb hb=>⟨b,rfl,?_⟩⟩;have:b=decide (TW.Und (nds zs) n z.2.num):=by rw[Bool.eq_iff_iff,hb,decide_eq_true_eq]
   rw[this];exact hk H' (Same.refl _)
  ·have ey:=bv (f:=λz:Addr×Nd=>V.ref z.1) hys (λz y _ h=>h);refine⟨p,_,rfl,.inl ⟨SqL.of hp',λl hl'=>?_⟩⟩;have s2:=s1.trans (af (o:=.tup ys) hl');refine q1 ⟨n',rfl⟩ (zs.filter λz=>!decide (TW.Und (nds zs) n z.2.num)) l _ (λm=>!decide (TW.Und (nds zs) n m.num)) s2 (by rw[ac,ey,cc]) (λy hy=>s2 _ _ (tr.nod y (mem_filter.mp hy).1)) ?_ λm _=>?_
   ·have hfm:∀g:Nd→Bool,nds (zs.filter λz=>g z.2)=(nds zs).filter g:=λg=>by
     unfold nds;rw[filter_map];rfl
    exact hfm λm=>!decide (TW.Und (nds zs) n m.num)
   ·rw[Bool.not_eq_true',decide_eq_false_iff_not]
end
def uC:List Stmt:=match ldS 5 with
 |.If _ _ b _=>b
 |_=>[]
def elS(i:Nat):Stmt:=uC.getD i (.Pass ⟨0,0,0,0⟩)
structure LD(H0 H:Hp)(a c d:Addr)(dd:TW.Deed Str)(as:List (Addr×(Addr×Nd)))(zs:ZN):Prop where
 s0:Same H0 H
 d0:H0 d=none
 tre:Tre H a zs
 deed:H c=some (.tup (aT dd))
 book:Book H d as zs
theorem LD.same{H0 H H':Hp}{a c d:Addr}{dd:TW.Deed Str}{as:List (Addr×(Addr×Nd))}{zs:ZN}(h:LD H0 H a c d dd as zs)(s:Same H H'):LD H0 H' a c d dd as zs :=
 ⟨h.s0.trans s,h.d0,h.tre.same s,s _ _ h.deed,h.book.same s⟩
theorem rV{H:Hp}{a d:Addr}{xs:List V}{kvs:List (Key×V)}(h:H a=some (.tup xs))(hd:Rd H d (.dK kvs)):a≠d:=λe=>by
 rcases hd with hd|⟨o,hd⟩<;>rw[e,hd]at h<;>cases h
theorem LD.turn{H0 H:Hp}{a c d:Addr}{dd:TW.Deed Str}{as:List (Addr×(Addr×Nd))}{zs:ZN}(h:LD H0 H a c d dd as zs){u:HO}(hu:Rd (upd H d u) d (.dK (aM as))):LD H0 (upd H d u) a c d dd as zs:=by
 have keep:∀{b:Addr}{xs:List V},H b=some (.tup xs)→upd H d u b=some (.tup xs):=λhb=>by rw[ak (rV hb h.book.dict)];exact hb
 exact⟨aP h.d0 h.s0,h.d0,⟨keep h.tre.tup,λz hz=>keep (h.tre.nod z hz),h.tre.tr,h.tre.len⟩,keep h.deed,⟨hu,h.book.of,λa ha=>keep (h.book.at' a ha)⟩⟩
section
variable{P:Program}{w:World}{K:PySem.W.Frag}{mg:Str→Option Value}{base:Heap}{f:Addr}{cdv:Value}{A:Around}{outer:List Env}{s:Shared}{H0:Hp}{E:XK}
theorem wn(hr:Room 1 (A.deeper (PyProof.Rows.envOfC "_law_done" (ai cu) s.heap.objs.size f cdv))):
  ∃t,PS (DX P w K mg base f cdv A outer s H0 E) (elS 5) t∧∀(D:Ends)(H:Hp)(a c d:Addr)(dd:TW.Deed Str)(n p:Int)(nm:Str)(as:List (Addr×(Addr×Nd)))(zs:ZN)(x4:Option V)(o:Obj),LD H0 H a c d dd as zs→H d=some (.frz o (.dK (aM as)))→je (nds zs) dd n p nm→TW.fZ (nds zs) p→NotIn (nds zs) dd n p→(∀m∈nds zs,m.num≠n→¬(m.par=p∧m.nm=nm)) →
   (∀bs H',Same H0 H'→H' d=some (.dK (ce bs))→(∀b∈bs,H' b.1=some (.tup (bJ b.2)))→(bs.map (·.2.num)).Nodup→bs.length≤zs.length+1→(∀us,us.Perm (bs.map (·.2))→TW.cE us→TW.Told (nds zs) dd (.inr us))→D.nx [some (.ref a),some (.ref c),some (.ref d),some (.int n),x4] H') →
   t D [some (.ref a),some (.ref c),some (.ref d),some (.int n),x4] H:=by
 refine⟨_,sP (fw (aI hr) (pv 2) (pv 3) (aE dJ (cj cY (pv 1) (bA ag) (bA ag)) (bn (aa (iK (am cy (av ao (pv 1) ag (λ_ _=>rfl)) aJ (au _)) (av ao (pv 1) ag (λ_ _=>rfl)) (av ao (aW (aI hr) (pv 2) (pv 3) (λ_ _=>rfl)) ag (λ_ _=>rfl))) ah))) rfl),?_⟩;intro D H a c d dd n p nm as zs x4 o L0 hd mm hF hi hfree qn;refine⟨d,o,aM as,L0.d0,hd,?_⟩;have L:=L0.turn (u:=.dK (aM as)) (.inl ac);have hd1:upd H d (.dK (aM as)) d=some (.dK (aM as)):=ac;generalize upd H d (.dK (aM as))=H1 at L hd1⊢;have hT:=L.tre.tr;have hnd:=aH hT;have hlen:=L.tre.len;have fin:∀(st:Option Int)(q:Addr)(H2:Hp),Same H1 H2→H2 q=some (.tup (bJ ⟨n,p,nm,st⟩))→(∀us,(TW.aF (nds zs) n→us=(nds zs).map (TW.put ⟨n,p,nm,st⟩)→TW.Told (nds zs) dd (.inr us))∧(¬TW.aF (nds zs) n→us.Perm (⟨n,p,nm,st⟩::nds zs)→TW.cE us→TW.Told (nds zs) dd (.inr us))) →
   D.nx [some (.ref a),some (.ref c),some (.ref d),some (.int n),x4] (upd H2 d (.dK (bG (aM as) (Sum.inl n:Key) (.ref q)))):=by
  intro st q H2 s2 hq ht;have L2':=L.same s2;obtain⟨bs,e1,e2,e3,e4,e5⟩:=lM (new:=⟨n,p,nm,st⟩) (s2 _ _ hd1) L2'.book.of L2'.book.at' hq hnd;refine qn bs _ (aP L.d0 L2'.s0) e1 e2 e3 e4 λus hp hrise=>?_;rcases e5 with⟨h1,h2⟩|⟨h1,h2⟩
  ·rw[h2]at hp;exact(ht us).1 h1 (TW.iZ hrise (TW.gI hT.rise) hp)
  ·rw[h2]at hp;exact(ht us).2 h1 (hp.trans List.perm_append_comm) hrise
 have sd:∀{H2:Hp},Same H1 H2→SqT K H2 c (aT dd):=λs2=>SqT.of (s2 _ _ L.deed);rcases mm with⟨st,rfl,hno⟩|⟨rfl,hh⟩
 ·refine⟨_,rfl,_,rfl,_,rfl,c,_,rfl,sd (Same.refl _),(λh=>absurd h.1 (show ¬HT.sIx 5 0 (some 2)=0 by decide)),λt1 ht1=>?_⟩;have s2:=af (o:=.tup (eJ (aT (.make n p nm st)) (some 2) (some 4))) ht1;refine⟨_,rfl,c,_,_,_,rfl,rfl,sd s2,rfl,rfl,_,rfl,aQ ⟨_,rfl,c,_,_,_,rfl,rfl,sd s2,rfl,(show 1≤sizeLine from ap (by decide)),λt2 ht2=>?_⟩⟩;have s3:=s2.trans (af (o:=.tup [stV st]) ht2);refine⟨t1,t2,[.int p,.str nm],[stV st],rfl,rfl,SqT.of (bu ht2 ac),SqT.of ac,by simp,(show 3≤sizeLine from ap (by decide)),λh=>absurd h (cons_ne_nil _ _),λ_ q hq=>?_⟩;have s4:=s3.trans (af (o:=.tup ([.int p,.str nm]++[stV st])) hq);refine⟨_,rfl,_,rfl,d,_,rfl,ix.k (k:=Sum.inl n) (s4 _ _ hd1) (aC ?_),fin st q _ s4 ac λus=>⟨λh _=>absurd h hno,λ_ hp hrise=>.made hno hF (λm hm h=>hfree m hm (λe=>hno ⟨m,hm,e⟩) h) hp hrise⟩⟩;have:=congrArg length L.book.of;unfold aM;rw[length_map]at this⊢;omega
 ·refine⟨_,rfl,_,rfl,_,rfl,c,_,rfl,sd (Same.refl _),(λh=>absurd h.1 (show ¬HT.sIx 4 0 (some 2)=0 by decide)),λt1 ht1=>?_⟩;have s2:=af (o:=.tup (eJ (aT (.move n p nm)) (some 2) (some 4))) ht1;obtain⟨m,hm,em⟩:=id hh;obtain⟨z,hz,rfl⟩:=bb hm;obtain⟨b,hb1,hb2⟩:=(L.same s2).book.get hnd hz;rw[em]at hb1;refine⟨_,rfl,c,_,_,_,rfl,rfl,sd s2,rfl,rfl,_,rfl,aD ⟨_,rfl,_,rfl,d,_,rfl,hb1,b,_,_,_,rfl,rfl,SqT.of hb2,ny z.2,(show 1≤sizeLine from ap (by decide)),λt2 ht2=>?_⟩⟩;have s3:=s2.trans (af (o:=.tup [stV z.2.st]) ht2);refine⟨t1,t2,[.int p,.str nm],[stV z.2.st],rfl,rfl,SqT.of (bu ht2 ac),SqT.of ac,by simp,(show 3≤sizeLine from ap (by decide)),λh=>absurd h (cons_ne_nil _ _),λ_ q hq=>?_⟩;have s4:=s3.trans (af (o:=.tup ([.int p,.str nm]++[stV z.2.st])) hq);refine⟨_,rfl,_,rfl,d,_,rfl,ix.k (k:=Sum.inl n) (s4 _ _ hd1) (aC ?_),fin z.2.st q _ s4 ac λus=>⟨λ_ e=>by rw[e];exact .moved hm em hF (hi ⟨_,rfl⟩) hfree,λh=>absurd hh h⟩⟩;have:=congrArg length L.book.of;unfold aM;rw[length_map]at this⊢;omega
theorem rW(hr:Room 1 (A.deeper (PyProof.Rows.envOfC "_law_done" (ai cu) s.heap.objs.size f cdv))):
  ∃t,PS (DX P w K mg base f cdv A outer s H0 E) (elS 4) t∧∀(D:Ends)(H:Hp)(a c d:Addr)(dd:TW.Deed Str)(n p:Int)(nm:Str)(as:List (Addr×(Addr×Nd)))(zs:ZN)(x4:Option V),LD H0 H a c d dd as zs→H d=some (.dK (aM as))→je (nds zs) dd n p nm →
   (∀H',Same H0 H'→(∃m∈nds zs,m.num≠n∧m.par=p∧m.nm=nm)→D.rt (.str "taken") H') →
   (∀o H',LD H0 H' a c d dd as zs→H' d=some (.frz o (.dK (aM as)))→(∀m∈nds zs,m.num≠n→¬(m.par=p∧m.nm=nm))→D.nx [some (.ref a),some (.ref c),some (.ref d),some (.int n),x4] H') →
   t D [some (.ref a),some (.ref c),some (.ref d),some (.int n),x4] H:=by
 refine⟨_,aR (am (nq (aI hr)) (cj cY (pv 1) (bA ag) (bA ag)) (du (N:=["_law_one","_law_book_here","_law_number"]) (cl:=[("_law_number",s.heap.objs.size+2),("_law_book_here",s.heap.objs.size+1)]) (k:=1) (js:=[2,3]) (g:=be 0) rfl
    (LcOk.mk' ["_law_number","_law_book_here"] rfl rfl (by decide +kernel) (by decide +kernel) ?hcl rfl (by decide +kernel)) rfl ?hj (qM (pv 2)) (λs H fp=>aG (i:=0) (show(["_law_one","_law_book_here","_law_number"]:List Str).Nodup by decide +kernel) rfl (Or.inl rfl) (Or.inr rfl))
    (λs H fp=>am cN (pv 0) (pv 2) (au _)) (λs H fp=>cj (r:=mY K) cY (aW (aI hr) (pv 1) (pv 0) (λ_ _=>rfl)) eI (bA ag))) rfl) (aj (ax aJ)) aA,?_⟩
 case hcl =>
  intro y hy;rcases mem_cons.mp hy with e|hy
  ·rw[e];rfl
  ·rcases mem_cons.mp hy with e|hy
   ·rw[e];rfl
   ·cases hy
 case hj =>
  intro i j x h1 h2
  match i,h1,h2 with
  |0,h1,h2 =>
   cases h1;cases h2;exact⟨rfl,Or.inr (Or.inl rfl),(show((ai cu).names.lookup ("_law_book_here":Str)≠some NameKind.local)by decide +kernel),by first|exact Or.inl rfl|exact Or.inr rfl⟩
  |1,h1,h2 =>
   cases h1;cases h2;exact⟨rfl,Or.inr (Or.inl rfl),(show((ai cu).names.lookup ("_law_number":Str)≠some NameKind.local)by decide +kernel),by first|exact Or.inl rfl|exact Or.inr rfl⟩
  |i+2,h1,h2=>simp at h1
 intro D H a c d dd n p nm as zs x4 L hd mm qt qn;have hT:=L.tre.tr;have hnd:=aH hT;have hlen:=L.tre.len;have ecut:eJ (aT dd) (some 2) (some 4)=[Sum.inl p,Sum.inr nm].map kV:=by rcases mm with⟨st,rfl,_⟩|⟨rfl,_⟩<;>rfl
 have nw:¬(HT.sIx (aT dd).length 0 (some 2)=0∧HT.sIx (aT dd).length (aT dd).length (some 4)=(aT dd).length):=by
  rcases mm with⟨st,rfl,_⟩|⟨rfl,_⟩
  ·exact λh=>absurd h.1 (show ¬HT.sIx 5 0 (some 2)=0 by decide)
  ·exact λh=>absurd h.1 (show ¬HT.sIx 4 0 (some 2)=0 by decide)
 refine⟨_,rfl,_,rfl,_,rfl,c,_,rfl,SqT.of L.deed,nw,λt1 ht1=>?_⟩;have s1:=af (o:=.tup (eJ (aT dd) (some 2) (some 4))) ht1;have g1:upd H t1 (.tup (eJ (aT dd) (some 2) (some 4))) t1=some (.tup ([Sum.inl p,Sum.inr nm].map kV)):=by rw[ac,ecut]
 have L1:=L.same s1;have hd1:=s1 _ _ hd;generalize upd H t1 (.tup (eJ (aT dd) (some 2) (some 4)))=H1 at L1 g1 hd1⊢;refine⟨_,rfl,d,_,rfl,hd1,λo p1 hp1=>?_⟩;have L2:=L1.turn (u:=.frz o (.dK (aM as))) (.inr ⟨o,ac⟩);have g2:upd H1 d (.frz o (.dK (aM as))) t1=some (.tup ([Sum.inl p,Sum.inr nm].map kV)):=by rw[ak (rV g1 L1.book.dict)];exact g1
 have hd2:upd H1 d (.frz o (.dK (aM as))) d=some (.frz o (.dK (aM as))):=ac;generalize upd H1 d (.frz o (.dK (aM as)))=H2 at L2 g2 hd2 hp1⊢;have eb:(as.map λa=>(a.1,a.2.2)).map (·.2)=nds zs:=by rw[←L.book.of];unfold nds;rw[map_map,map_map];rfl
 have hbl:(as.map λa=>(a.1,a.2.2)).length=zs.length:=by rw[←L.book.of,length_map,length_map]
 have hbn:((as.map λa=>(a.1,a.2.2)).map (·.2.num)).Nodup:=by
  have:(as.map λa=>(a.1,a.2.2)).map (·.2.num)=(nds zs).map (·.num):=by rw[←eb];simp only[map_map];rfl
  rw[this];exact hnd
 have hba:∀b∈as.map (λa=>(a.1,a.2.2)),H2 b.1=some (.tup (bJ b.2)):=λb hb=>by
  obtain⟨x,hx,rfl⟩:=mem_map.mp hb;exact L2.book.at' x hx
 rw[kx]at hd2⊢;rw[jd];have hkeep:aM as=ce (as.map λa=>(a.1,a.2.2)):=kx as;generalize as.map (λa=>(a.1,a.2.2))=bs at eb hbl hbn hba hd2 hkeep⊢;refine cQ (fr:=[some (.ref d),some (.int n)]) bs (λb=>V.int b.2.num) (by omega) hp1 (cB hd2) rfl (λb=>!decide (V.int b.2.num=V.int n)) (λb y H'=>∃q,y=.ref q∧q≠p1∧H' q=some (.tup ((plK b.2).map kV))) (λb y H H' ⟨q,e,ne,h⟩ ex=>⟨q,e,ne,ex q _ ne h⟩) (λb H' k mb s3 _ hk=>?_) (λb H' k mb _ s3 hpl hk=>?_) (λys H3 s3 hp3 hys=>?_)
 ·exact⟨_,rfl,_,rfl,rfl,_,rfl,hk H' (Same.refl _)⟩
 ·refine⟨_,rfl,_,rfl,d,_,rfl,.inl ⟨ce bs,Sum.inl b.2.num,.inr ⟨o,s3 _ _ hd2⟩,rfl,(jO hbn mb).symm⟩,_,rfl,b.1,_,rfl,SqT.of (s3 _ _ (hba b mb)),(λh=>absurd h.2 (show ¬HT.sIx 3 3 (some 2)=3 by decide)),λq hq=>?_⟩;exact hk _ _ (af hq) ⟨q,rfl,dz hpl hq,ac⟩
 ·obtain⟨cs,e1,e2,e3⟩:=cF (val:=V.ref) (S:=λ(b:Addr×Nd) (q:Addr)=>H3 q=some (.tup ((plK b.2).map kV))) hys (λb y _ ⟨q,e,_,h⟩=>⟨q,e,h⟩);refine⟨t1,p1,_,cs.map λx=>(x.2,plK x.1.2),rfl,s3 _ _ g2,rfl,SqL.of (by rw[hp3,e2,map_map,map_map];rfl),λy hy=>?_,_,rfl,?_⟩
  ·obtain⟨x,hx,rfl⟩:=mem_map.mp hy;exact e3 x hx
  ·have L3:=L2.same s3;cases ha:((cs.map λx=>(x.2,plK x.1.2)).any λz=>decide (z.2=[Sum.inl p,Sum.inr nm]))with
   |true =>
    refine aQ (qt H3 L3.s0 ?_);obtain⟨y,hy,e⟩:=any_eq_true.mp ha;obtain⟨x,hx,rfl⟩:=mem_map.mp hy;have mx:x.1∈bs.filter λb=>!decide (V.int b.2.num=V.int n):=by rw[←e1];exact mem_map.mpr ⟨x,hx,rfl⟩
    obtain⟨mx1,mx2⟩:=mem_filter.mp mx;have e':plK x.1.2=[Sum.inl p,Sum.inr nm]:=by simpa using e
    have hp:x.1.2.par=p∧x.1.2.nm=nm:=by
     unfold plK at e';injection e' with q1 q2
     injection q2 with q2 _
     injection q1 with q1
     injection q2 with q2
     exact⟨q1,q2⟩
    refine⟨x.1.2,by rw[←eb];exact mem_map.mpr ⟨x.1,mx1,rfl⟩,λe=>?_,hp⟩;simp[e]at mx2
   |false =>
    refine aD (qn o H3 L3 (by rw[hkeep];exact s3 _ _ hd2) λm hm hne h=>?_);rw[←eb]at hm;obtain⟨b,hb,rfl⟩:=mem_map.mp hm;have mb:b∈bs.filter λb=>!decide (V.int b.2.num=V.int n):=mem_filter.mpr ⟨hb,by simp[hne]⟩;rw[←e1]at mb;obtain⟨x,hx,ex⟩:=mem_map.mp mb;have:((cs.map λx=>(x.2,plK x.1.2)).any λz=>decide (z.2=[Sum.inl p,Sum.inr nm]))=true:=any_eq_true.mpr ⟨_,mem_map.mpr ⟨x,hx,rfl⟩,by
     rw[decide_eq_true_eq];show plK x.1.2=_;rw[ex];unfold plK;rw[h.1,h.2]⟩
    rw[ha]at this;cases this
theorem qh(hr:Room 1 (A.deeper (PyProof.Rows.envOfC "_law_done" (ai cu) s.heap.objs.size f cdv)))(CU:Has P w K mg base 1 "_law_under" ["_law_book_here","_law_number","_law_goal"] jn):
  ∃t,PS (DX P w K mg base f cdv A outer s H0 E) (elS 3) t∧∀(D:Ends)(H:Hp)(a c d:Addr)(dd:TW.Deed Str)(n p:Int)(nm:Str)(as:List (Addr×(Addr×Nd)))(zs:ZN),LD H0 H a c d dd as zs→je (nds zs) dd n p nm→TW.fZ (nds zs) p→1≤n →
   (dd=.move n p nm→p≠0→TW.Und (nds zs) n p→D.rt (.str "inside") H)→(NotIn (nds zs) dd n p→D.nx [some (.ref a),some (.ref c),some (.ref d),some (.int n),some (.int p)] H) →
   t D [some (.ref a),some (.ref c),some (.ref d),some (.int n),some (.int p)] H:=by
 obtain⟨fU,fdU,GU,mU,kU,bU⟩:=CU;refine⟨_,aR (PW.pt (pw_and (am cy (av ao (pv 1) ag (λ_ _=>rfl)) aJ (au _)) (pw_and (am cN (pv 4) ag (au _)) (pw_and1 (iJ (al GU hr rfl mU kU bU .nil aK (aa (pv 2) (aa (pv 4) (aa (pv 3) ah)))) (λ_=>rfl)))))) (aj (ax aJ)) aA,?_⟩;intro D H a c d dd n p nm as zs L mm hF hn1 q1 q2;have sd:SqT K H c (aT dd):=SqT.of L.deed;rcases mm with⟨st,rfl,hno⟩|⟨rfl,hh⟩
 ·exact⟨_,rfl,c,_,_,_,rfl,rfl,sd,rfl,rfl,_,rfl,aD (aD (q2 λ⟨_,e⟩=>by cases e))⟩
 ·refine⟨_,rfl,c,_,_,_,rfl,rfl,sd,rfl,rfl,_,rfl,aQ ⟨_,rfl,rfl,_,rfl,?_⟩⟩
  by_cases hp0:p=0
  ·have e1:(!decide (V.int p=V.int 0))=false:=by simp[hp0]
   rw[e1];exact aD (aD (q2 λ_ h=>absurd hp0 h))
  ·have e1:(!decide (V.int p=V.int 0))=true:=by simp[hp0]
   rw[e1];rcases hF with e|⟨m,hm,_,em⟩
   ·exact absurd e hp0
   ·obtain⟨pa,hpa⟩:=TW.PathTo.ex L.tre.tr hm;rw[em]at hpa;refine aQ ⟨_,rfl,_,rfl,_,rfl,d,p,n,as,zs,pa,rfl,L.book,L.tre.tr,hpa,hn1,λb hb=>⟨b,rfl,?_⟩⟩;cases b with
    |true=>exact aQ (q1 rfl hp0 (hb.mp rfl))
    |false=>exact aD (q2 λ_ _ hu=>by have:=hb.mpr hu;cases this)
theorem uc(hr:Room 1 (A.deeper (PyProof.Rows.envOfC "_law_done" (ai cu) s.heap.objs.size f cdv)))(CU:Has P w K mg base 1 "_law_under" ["_law_book_here","_law_number","_law_goal"] jn):
  ∃t,PSs (DX P w K mg base f cdv A outer s H0 E) uC t∧∀(D:Ends)(H:Hp)(a c d:Addr)(dd:TW.Deed Str)(n p:Int)(nm:Str)(as:List (Addr×(Addr×Nd)))(zs:ZN),LD H0 H a c d dd as zs→H d=some (.dK (aM as))→je (nds zs) dd n p nm→1≤n →
   (∀wd H',Same H0 H'→TW.Told (nds zs) dd (.inl wd)→D.rt (.str (qT wd)) H') →
   (∀x4 bs H',Same H0 H'→H' d=some (.dK (ce bs))→(∀b∈bs,H' b.1=some (.tup (bJ b.2)))→(bs.map (·.2.num)).Nodup→bs.length≤zs.length+1→(∀us,us.Perm (bs.map (·.2))→TW.cE us→TW.Told (nds zs) dd (.inr us))→D.nx [some (.ref a),some (.ref c),some (.ref d),some (.int n),x4] H') →
   t D [some (.ref a),some (.ref c),some (.ref d),some (.int n),none] H:=by
 obtain⟨t3,p3,h3⟩:=qh (f:=f) (cdv:=cdv) (outer:=outer) (H0:=H0) (E:=E) hr CU;obtain⟨t4,p4,h4⟩:=rW (P:=P) (w:=w) (mg:=mg) (base:=base) (K:=K) (f:=f) (cdv:=cdv) (outer:=outer) (H0:=H0) (E:=E) hr;obtain⟨t5,p5,h5⟩:=wn (P:=P) (w:=w) (mg:=mg) (base:=base) (K:=K) (f:=f) (cdv:=cdv) (outer:=outer) (H0:=H0) (E:=E) hr;refine⟨_,ae (aq (i:=4) iH.nd rfl (Or.inl rfl) (av ao (pv 1) ag (λ_ _=>rfl)))
  (ae (aR (PW.pt (pw_and (am cN (pv 4) ag (au _)) (pw_and1 (bQ (bZ (aI hr) (pv 4) (pv 2)))))) (aj (ax aJ)) aA)
  (ae (aR (PW.pt (pw_and (am cN (pv 4) ag (au _)) (pw_and1 (am iz (av ao (aW (aI hr) (pv 2) (pv 4) (λ_ _=>rfl)) ag (λ_ _=>rfl)) cm (au _))))) (aj (ax aJ)) aA)
  (ae p3 (ae p4 (aj p5))))),?_⟩
 intro D H a c d dd n p nm as zs L hd mm hn1 qw qn;have hT:=L.tre.tr;have hnd:=aH hT;have a2:atI (aT dd) 2=some (.int p):=by rcases mm with⟨st,rfl,_⟩|⟨rfl,_⟩<;>rfl
 have rest:TW.fZ (nds zs) p→jp t3 (jp t4 t5) D [some (.ref a),some (.ref c),some (.ref d),some (.int n),some (.int p)] H:=λhF=>by
  refine h3 _ H a c d dd n p nm as zs L mm hF hn1 (λe h0 hu=>?_) λhi=>?_
  ·subst e;rcases mm with⟨st,e,_⟩|⟨_,hh⟩
   ·cases e
   ·exact qw .inside H L.s0 (.vIn hh hF h0 hu)
  ·refine h4 _ H a c d dd n p nm as zs _ L hd mm (λH' s' ⟨m,hm,h1,h2,h3⟩=>qw .taken H' s' (mm.taken hF hi hm h1 h2 h3)) λo H' L' hd' hfree=>?_;exact h5 _ H' a c d dd n p nm as zs _ o L' hd' mm hF hi hfree λbs H2 e1 e2 e3 e4 e5 e6=>qn _ bs H2 e1 e2 e3 e4 e5 e6
 refine⟨_,rfl,c,_,_,_,rfl,rfl,SqT.of L.deed,a2,?_⟩;refine⟨_,rfl,rfl,_,rfl,?_⟩
 by_cases hp0:p=0
 ·have e1:(!decide (V.int p=V.int 0))=false:=by simp[hp0]
  rw[e1];refine aD (aD ⟨_,rfl,rfl,_,rfl,?_⟩);rw[e1];exact aD (aD (rest (.inl hp0)))
 ·have e1:(!decide (V.int p=V.int 0))=true:=by simp[hp0]
  rw[e1]
  by_cases hh:∃z∈zs,z.2.num=p
  ·obtain⟨z,hz,ez⟩:=hh;obtain⟨b,hb1,hb2⟩:=L.book.get hnd hz;rw[ez]at hb1;refine aQ ⟨_,rfl,_,rfl,d,_,rfl,hb1,_,rfl,aD ⟨_,rfl,rfl,_,rfl,?_⟩⟩;rw[e1];refine aQ ⟨_,rfl,_,rfl,d,_,rfl,hb1,b,_,_,_,rfl,rfl,SqT.of hb2,ny z.2,rfl,_,rfl,?_⟩;rw[oH];cases hs:z.2.st with
   |none=>exact aD (rest (.inr ⟨z.2,aw hz,hs,ez⟩))
   |some i=>exact aQ (qw .notFolder H L.s0 (mm.file hp0 (aw hz) ez (by rw[hs];simp)))
  ·exact aQ ⟨_,rfl,_,rfl,d,_,rfl,L.book.not (λz hz e=>hh ⟨z,hz,e⟩),_,rfl,aQ (qw .noNode H L.s0 (mm.no hp0 (cJ hh)))⟩
theorem rX(hr:Room 1 (A.deeper (PyProof.Rows.envOfC "_law_done" (ai cu) s.heap.objs.size f cdv)))(CU:Has P w K mg base 1 "_law_under" ["_law_book_here","_law_number","_law_goal"] jn):
  ∃t,PS (DX P w K mg base f cdv A outer s H0 E) (ldS 5) t∧∀(D:Ends)(H:Hp)(a c d:Addr)(dd:TW.Deed Str)(n:Int)(as:List (Addr×(Addr×Nd)))(zs:ZN),LD H0 H a c d dd as zs→H d=some (.dK (aM as))→((∃st,dd=.write n st∧TW.aF (nds zs) n)∨∃p nm,je (nds zs) dd n p nm)→1≤n →
   (∀wd H',Same H0 H'→TW.Told (nds zs) dd (.inl wd)→D.rt (.str (qT wd)) H') →
   (∀x4 bs H',Same H0 H'→H' d=some (.dK (ce bs))→(∀b∈bs,H' b.1=some (.tup (bJ b.2)))→(bs.map (·.2.num)).Nodup→bs.length≤zs.length+1→(∀us,us.Perm (bs.map (·.2))→TW.cE us→TW.Told (nds zs) dd (.inr us))→D.nx [some (.ref a),some (.ref c),some (.ref d),some (.int n),x4] H') →
   t D [some (.ref a),some (.ref c),some (.ref d),some (.int n),none] H:=by
 obtain⟨te,pe,he⟩:=uc (f:=f) (cdv:=cdv) (outer:=outer) (H0:=H0) (E:=E) hr CU;refine⟨_,aR (am cy (av ao (pv 1) ag (λ_ _=>rfl)) aJ (au _))
  (ae (aR (am eG (av ao (aW (aI hr) (pv 2) (pv 3) (λ_ _=>rfl)) ag (λ_ _=>rfl)) cm (au _)) (aj (ax aJ)) aA)
  (aj (fw (aI hr) (pv 2) (pv 3) (aE dJ (cj cY (aW (aI hr) (pv 2) (pv 3) (λ_ _=>rfl)) eI (bA ag)) (bn (aa (av ao (pv 1) ag (λ_ _=>rfl)) ah))) rfl))) pe,?_⟩
 intro D H a c d dd n as zs L hd hdd hn1 qw qn;have hT:=L.tre.tr;have hnd:=aH hT;have hlen:=L.tre.len;have sd:SqT K H c (aT dd):=SqT.of L.deed;rcases hdd with⟨st,rfl,m,hm,em⟩|⟨p,nm,mm⟩
 ·obtain⟨z,hz,rfl⟩:=bb hm;obtain⟨b,hb1,hb2⟩:=L.book.get hnd hz;rw[em]at hb1;refine⟨_,rfl,c,_,_,_,rfl,rfl,sd,rfl,rfl,_,rfl,aQ ⟨_,rfl,_,rfl,d,_,rfl,hb1,b,_,_,_,rfl,rfl,SqT.of hb2,ny z.2,rfl,_,rfl,?_⟩⟩;cases hs:z.2.st with
  |none=>exact aQ (qw .notFile H L.s0 (.wFold hm em hs))
  |some i =>
   refine aD ⟨_,rfl,_,rfl,d,_,rfl,hb1,_,rfl,b,_,rfl,SqT.of hb2,(λh=>absurd h.2 (show ¬HT.sIx 3 3 (some 2)=3 by decide)),λt1 ht1=>?_⟩;have s2:=af (o:=.tup (eJ (bJ z.2) none (some 2))) ht1;refine⟨_,rfl,c,_,_,_,rfl,rfl,SqT.of (s2 _ _ L.deed),rfl,(show 1≤sizeLine from ap (by decide)),λt2 ht2=>?_⟩;have s3:=s2.trans (af (o:=.tup [.int st]) ht2);refine⟨t1,t2,[.int z.2.par,.str z.2.nm],[.int st],rfl,rfl,SqT.of (bu ht2 ac),SqT.of ac,by simp,(show 3≤sizeLine from ap (by decide)),λh=>absurd h (cons_ne_nil _ _),λ_ q hq=>?_⟩;have s4:=s3.trans (af (o:=.tup ([.int z.2.par,.str z.2.nm]++[.int st])) hq);have hq4:upd (upd (upd H t1 (.tup (eJ (bJ z.2) none (some 2)))) t2 (.tup [.int st])) q (.tup ([.int z.2.par,.str z.2.nm]++[.int st])) q=some (.tup (bJ ⟨n,z.2.par,z.2.nm,some st⟩)):=ac;have hbl:(aM as).length≤1000:=by
    have:=congrArg length L.book.of;unfold aM;rw[length_map]at this⊢;omega
   refine⟨_,rfl,_,rfl,d,_,rfl,ix.k (k:=Sum.inl n) (s4 _ _ hd) (aC hbl),?_⟩;have L4:=L.same s4;obtain⟨bs,e1,e2,e3,e4,e5⟩:=lM (new:=⟨n,z.2.par,z.2.nm,some st⟩) (s4 _ _ hd) L4.book.of L4.book.at' hq4 hnd;refine qn _ bs _ (aP L.d0 L4.s0) e1 e2 e3 e4 λus hp hrise=>?_;rcases e5 with⟨h1,h2⟩|⟨h1,h2⟩
   ·rw[h2]at hp;rw[TW.iZ hrise (TW.gI hT.rise) hp];exact .wrote hm em (by rw[hs];simp)
   ·exact absurd ⟨z.2,hm,em⟩ h1
 ·rcases id mm with⟨st,rfl,_⟩|⟨rfl,_⟩
  ·exact⟨_,rfl,c,_,_,_,rfl,rfl,sd,rfl,rfl,_,rfl,aD (he D H a c d _ n p nm as zs L hd mm hn1 qw qn)⟩
  ·exact⟨_,rfl,c,_,_,_,rfl,rfl,sd,rfl,rfl,_,rfl,aD (he D H a c d _ n p nm as zs L hd mm hn1 qw qn)⟩
def kS:Sp:=λvs H Q _=>∃a c dd zs,vs=[.ref a,.ref c]∧Tre H a zs∧zs.length≤29∧H c=some (.tup (aT dd))∧kw dd∧(∀us t' H',Same H H'→H' t'=some (.tup (aO us))→At H' us→TW.Told (nds zs) dd (.inr (nds us))→Q (.ref t') H')∧∀wd H',Same H H'→TW.Told (nds zs) dd (.inl wd)→Q (.str (qT wd)) H'
theorem rY{f:Addr}{fd:FuncData}(F:Fun K "_law_done" "_law_done" cu f fd)(T:Txt mg)(CK:Has P w K mg base 1 "_law_book" ["_law_tree_here"] gm)(CU:Has P w K mg base 1 "_law_under" ["_law_book_here","_law_number","_law_goal"] jn):
  FnOk P w K mg base CX0 2 f fd ["_law_tree_here","_law_deed_here"] kS:=by
 obtain⟨fK,fdK,GK,mK,kK,bK⟩:=CK;refine F.ok iH (λvs H Q E h=>?_) (λcdv A outer s H vs Q E hr h=>?_)
 ·obtain⟨a,c,dd,zs,rfl,_⟩:=h;rfl
 ·obtain⟨a,c,dd,zs,rfl,tr,hl,hc,hok,qo,qw⟩:=h;obtain⟨t4,p4,h4⟩:=ua (f:=f) (cdv:=cdv) (outer:=outer) (H0:=H) (E:=E) T hr CU;obtain⟨t5,p5,h5⟩:=rX (f:=f) (cdv:=cdv) (outer:=outer) (H0:=H) (E:=E) hr CU;obtain⟨t6,p6,h6⟩:=wm (P:=P) (w:=w) (K:=K) (mg:=mg) (base:=base) (f:=f) (cdv:=cdv) (outer:=outer) (H0:=H) (E:=E) T hr;refine⟨_,ae (aq (i:=2) iH.nd rfl (Or.inr rfl) (al GK hr rfl mK kK bK .nil aK (aa (pv 0) ah)))
   (ae (aq (i:=3) iH.nd rfl (Or.inr rfl) (av ao (pv 1) ag (λ_ _=>rfl)))
   (ae (aR (PW.pt (pw_and (am cy (av ao (pv 1) ag (λ_ _=>rfl)) aJ (au _)) (pw_and1 (bQ (dR (aI hr) (pv 3) (pv 2)))))) (aj (ax aJ)) aA)
   (ae (aR (PW.pt (pw_and (am cN (av ao (pv 1) ag (λ_ _=>rfl)) aJ (au _)) (pw_and1 (bQ (bZ (aI hr) (pv 3) (pv 2)))))) (aj (ax aJ)) aA)
   (ae p4 (ae p5 (aj p6)))))),?_⟩
  refine⟨_,rfl,a,zs,rfl,tr,λd as H1 s1 d0 bk hd=>?_⟩;have L:LD H H1 a c d dd as zs:=⟨s1,d0,tr.same s1,s1 _ _ hc,bk⟩;have hnd:=aH tr.tr;have sd:SqT K H1 c (aT dd):=SqT.of L.deed;have last:∀x4 n bs H',Same H H'→H' d=some (.dK (ce bs))→(∀b∈bs,H' b.1=some (.tup (bJ b.2)))→(bs.map (·.2.num)).Nodup→bs.length≤zs.length+1→(∀us,us.Perm (bs.map (·.2))→TW.cE us→TW.Told (nds zs) dd (.inr us)) →
    t6 {nx:=λ_ H'=>Q .non H',rt:=Q} [some (.ref a),some (.ref c),some (.ref d),some (.int n),x4] H':=λx4 n bs H' s' e1 e2 e3 e4 e5 =>
   h6 _ H' _ _ _ _ _ d bs rfl e1 e2 e3 (by omega) λo us t' H2 s2 ht' hA' hp hrise=>qo us t' H2 ((aP d0 s').trans s2) ht' hA' (e5 _ hp hrise)
  cases dd with
  |make n p nm st =>
   refine⟨_,rfl,c,_,_,_,rfl,rfl,sd,rfl,_,rfl,c,_,_,_,rfl,rfl,sd,rfl,rfl,_,rfl,aQ ?_⟩
   by_cases hh:∃z∈zs,z.2.num=n
   ·obtain⟨z,hz,ez⟩:=hh;obtain⟨b,hb1,_⟩:=L.book.get hnd hz;rw[ez]at hb1;exact⟨_,rfl,_,rfl,d,_,rfl,hb1,_,rfl,aQ (qw .known H1 s1 (.mKnown (eB hz ez)))⟩
   ·refine⟨_,rfl,_,rfl,d,_,rfl,L.book.not (λz hz e=>hh ⟨z,hz,e⟩),_,rfl,aD ?_⟩;refine⟨_,rfl,c,_,_,_,rfl,rfl,sd,rfl,rfl,_,rfl,aD (aD ?_)⟩;refine h4 _ H1 _ a c d _ n as zs rfl L.tre L.deed bk hok.1 (λ⟨k,e⟩=>by cases e) λ_=>?_;exact h5 _ H1 a c d _ n as zs L hd (.inr ⟨p,nm,.inl ⟨st,rfl,cJ hh⟩⟩) hok.1 qw λx4 bs H'=>last x4 n bs H'
  |write n st =>
   refine⟨_,rfl,c,_,_,_,rfl,rfl,sd,rfl,_,rfl,c,_,_,_,rfl,rfl,sd,rfl,rfl,_,rfl,aD (aD ?_)⟩;refine⟨_,rfl,c,_,_,_,rfl,rfl,sd,rfl,rfl,_,rfl,aQ ?_⟩
   by_cases hh:∃z∈zs,z.2.num=n
   ·obtain⟨z,hz,ez⟩:=hh;obtain⟨b,hb1,_⟩:=L.book.get hnd hz;rw[ez]at hb1;refine⟨_,rfl,_,rfl,d,_,rfl,hb1,_,rfl,aD ?_⟩;refine h4 _ H1 _ a c d _ n as zs rfl L.tre L.deed bk hok.1 (λ⟨k,e⟩=>by cases e) λ_=>?_;exact h5 _ H1 a c d _ n as zs L hd (.inl ⟨st,rfl,eB hz ez⟩) hok.1 qw λx4 bs H'=>last x4 n bs H'
   ·exact⟨_,rfl,_,rfl,d,_,rfl,L.book.not (λz hz e=>hh ⟨z,hz,e⟩),_,rfl,aQ (qw .noNode H1 s1 (.wNo (cJ hh)))⟩
  |move n p nm =>
   refine⟨_,rfl,c,_,_,_,rfl,rfl,sd,rfl,_,rfl,c,_,_,_,rfl,rfl,sd,rfl,rfl,_,rfl,aD (aD ?_)⟩;refine⟨_,rfl,c,_,_,_,rfl,rfl,sd,rfl,rfl,_,rfl,aQ ?_⟩
   by_cases hh:∃z∈zs,z.2.num=n
   ·obtain⟨z,hz,ez⟩:=hh;obtain⟨b,hb1,_⟩:=L.book.get hnd hz;rw[ez]at hb1;refine⟨_,rfl,_,rfl,d,_,rfl,hb1,_,rfl,aD ?_⟩;refine h4 _ H1 _ a c d _ n as zs rfl L.tre L.deed bk hok.1 (λ⟨k,e⟩=>by cases e) λ_=>?_;exact h5 _ H1 a c d _ n as zs L hd (.inr ⟨p,nm,.inr ⟨rfl,eB hz ez⟩⟩) hok.1 qw λx4 bs H'=>last x4 n bs H'
   ·exact⟨_,rfl,_,rfl,d,_,rfl,L.book.not (λz hz e=>hh ⟨z,hz,e⟩),_,rfl,aQ (qw .noNode H1 s1 (.vNo (cJ hh)))⟩
  |drop n =>
   refine⟨_,rfl,c,_,_,_,rfl,rfl,sd,rfl,_,rfl,c,_,_,_,rfl,rfl,sd,rfl,rfl,_,rfl,aD (aD ?_)⟩;refine⟨_,rfl,c,_,_,_,rfl,rfl,sd,rfl,rfl,_,rfl,aQ ?_⟩
   by_cases hh:∃z∈zs,z.2.num=n
   ·obtain⟨z,hz,ez⟩:=hh;obtain⟨b,hb1,_⟩:=L.book.get hnd hz;rw[ez]at hb1;refine⟨_,rfl,_,rfl,d,_,rfl,hb1,_,rfl,aD ?_⟩;refine h4 _ H1 _ a c d _ n as zs rfl L.tre L.deed bk hok.1 (λ_ us t' H' g s2 ht' hA' e hg=>qo us t' H' (s1.trans s2) ht' hA' ?_) λh=>absurd ⟨n,rfl⟩ h;rw[e];exact .dropped (eB hz ez) hg
   ·exact⟨_,rfl,_,rfl,d,_,rfl,L.book.not (λz hz e=>hh ⟨z,hz,e⟩),_,rfl,aQ (qw .noNode H1 s1 (.dNo (cJ hh)))⟩
def nV(K:PySem.W.Frag):Sp:=λvs H Q _=>∃a k,vs=[.ref a,.int k]∧0≤k∧dC K H a∧∀r H',Same H H'→Q (.int r) H'
theorem wo:FnScope ["_law_script","_law_k"] ["_law_script","_law_k"] (ai qX):=fsc
theorem ud{f:Addr}{fd:FuncData}(F:Fun K "_law_cell" "_law_cell" qX f fd)(T:Txt mg):FnOk P w K mg base CX0 1 f fd ["_law_script","_law_k"] (nV K):=by
 refine F.ok wo (λvs H Q E h=>?_) (λcdv A outer s H vs Q E hr h=>?_)
 ·obtain⟨a,k,rfl,_⟩:=h;rfl
 ·obtain⟨a,k,rfl,hk,⟨ns,ea⟩,q⟩:=h;refine⟨_,ae (aR (am qr (pv 1) (br cg rfl T.len boot_len (aa (pv 0) ah)) (au _)) (aj (ax (av cI (pv 0) (pv 1) (λ_ _=>rfl)))) aA)
   (ae (aR (am (eK hr.units0) (pv 0) (ba ah) (au _)) (aj (ax ag)) aA)
   (aj (ax (aE bg (aE cX (av cI (pv 0) (aE iL (pv 1) (br cg rfl T.len boot_len (aa (pv 0) ah))) (λ_ _=>rfl)) ag) (pv 1))))),?_⟩
  refine⟨_,rfl,_,rfl,a,_,rfl,.inl (ea),_,_,rfl,rfl,_,rfl,?_⟩;rw[length_map]
  by_cases h:k<(ns.length:Int)
  ·rw[decide_eq_true h];obtain⟨j,ej⟩:=lJ hk h;exact aQ ⟨_,rfl,_,rfl,a,_,_,_,rfl,rfl,ea,ej,q _ _ (Same.refl _)⟩
  ·rw[decide_eq_false h];refine aD ⟨_,rfl,zero_le _,λp hp=>⟨a,p,_,rfl,rfl,((af hp).seq ea),SqL.of ac,_,rfl,?_⟩⟩
   by_cases h0:ns=[]
   ·subst h0;exact aQ (q _ _ (af hp))
   ·have hne:¬ns.map V.int=[]:=by simpa using h0
    rw[decide_eq_false hne];have hpos:0<ns.length:=List.length_pos_iff.mpr h0;have hm1:0≤k % (ns.length:Int):=Int.emod_nonneg _ (by omega);have hm2:k % (ns.length:Int)<ns.length:=Int.emod_lt_of_pos _ (by omega);obtain⟨j,ej⟩:=lJ hm1 hm2;have ej':atI (ns.map V.int) (k % ((ns.map V.int).length:Int))=some (.int j):=by rw[length_map];exact ej
    exact aD ⟨_,rfl,_,rfl,_,rfl,a,_,rfl,.inl (((af hp).seq ea)),_,_,rfl,rfl,by rw[length_map];omega,a,_,_,_,rfl,rfl,((af hp).seq ea),ej',_,_,rfl,rfl,.inr ⟨by decide,by decide⟩,_,rfl,_,_,rfl,rfl,q _ _ (af hp)⟩
def dX(K:PySem.W.Frag):Sp:=λvs H Q _=>∃a k m,vs=[.ref a,.int k,.int m]∧0≤k∧0<m∧dC K H a∧∀r H',0≤r→r<m→Same H H'→Q (.int r) H'
theorem rZ:FnScope ["_law_script","_law_k","_law_many","_law_drawn"] ["_law_script","_law_k","_law_many"] (ai qY):=fsc
theorem ue{f:Addr}{fd:FuncData}(F:Fun K "_law_pick" "_law_pick" qY f fd)(T:Txt mg)(C:Has P w K mg base 1 "_law_cell" ["_law_script","_law_k"] (nV K)):FnOk P w K mg base CX0 2 f fd ["_law_script","_law_k","_law_many"] (dX K):=by
 obtain⟨fC,fdC,GC,mC,kC,bC⟩:=C;refine F.ok rZ (λvs H Q E h=>?_) (λcdv A outer s H vs Q E hr h=>?_)
 ·obtain⟨a,k,m,rfl,_⟩:=h;rfl
 ·obtain⟨a,k,m,rfl,hk,hm,hS,q⟩:=h;refine⟨_,(ae (aq (i:=3) rZ.nd rfl (Or.inl rfl) (aE iL (aE cX (aE bg (al GC hr rfl mC kC bC .nil aK (aa (pv 0) (aa (pv 1) ah))) (aE cX ag (aE bg (pv 1) ag))) ag) ag))
   (aj (ax (aE iL (aE iL (aE bg (aE cX (pv 3) (pv 3)) (aE kd (pv 3) ag)) ag) (pv 2))))),?_⟩
  refine⟨_,rfl,_,rfl,a,k,rfl,hk,hS,λr H1 s1=>?_⟩;refine⟨_,rfl,_,_,rfl,rfl,_,_,rfl,rfl,.inl ⟨by decide,by decide⟩,_,_,rfl,rfl,_,_,rfl,rfl,.inr ⟨by decide,by decide⟩,_,_,rfl,rfl,(by decide:(0:Int)<2147483399),?_⟩;generalize hd:(r+6151*(k+1))*40692 % 2147483399=dr;have d0:0≤dr:=by rw[←hd];exact Int.emod_nonneg _ (by decide)
  have d1:dr<2147483399:=by rw[←hd];exact Int.emod_lt_of_pos _ (by decide)
  refine⟨_,rfl,_,rfl,_,_,rfl,rfl,.inl ⟨by omega,by omega⟩,_,rfl,_,_,rfl,rfl,⟨by decide,by decide⟩,_,_,rfl,rfl,_,_,rfl,rfl,(by decide:(0:Int)<2147483629),_,rfl,_,_,rfl,rfl,hm,?_⟩;exact q _ _ (Int.emod_nonneg _ (by omega)) (Int.emod_lt_of_pos _ hm) s1
def gU(K:PySem.W.Frag):Sp:=λvs H Q _=>∃a at' m,vs=[.ref a,.int at',.int m]∧0≤at'∧0≤m∧m≤9∧dC K H a∧∀t zs H',H' t=some (.tup (aO zs))→At H' zs→(zs.length:Int)≤m→TW.Tree (nds zs)→(∀z∈zs,sS z.2)→Same H H'→Q (.ref t) H'
theorem scB:FnScope ["_law_script","_law_at","_law_most","_law_left","_law_folders","_law_nodes","_law_k","_law_number","_law_parent","_law_name","_law_stamp"] ["_law_script","_law_at","_law_most"] (ai ik):=fsc
def buS(i:Nat):Stmt:=match (bH ik).getD 3 (.Pass ⟨0,0,0,0⟩)with
 |.For _ _ b _ _=>b.getD i (.Pass ⟨0,0,0,0⟩)
 |x=>x
abbrev BX(P:Program)(w:World)(K:PySem.W.Frag)(mg:Str→Option Value)(base:Heap)(f:Addr)(cdv:Value)(A:Around)(outer:List Env)(s:Shared)(H:Hp)(E:XK):Cx:=(hU CX0 P w K mg base ["_law_script","_law_at","_law_most","_law_left","_law_folders","_law_nodes","_law_k","_law_number","_law_parent","_law_name","_law_stamp"] "_law_tree" (ai ik) f cdv A outer s H E).nox
theorem xc{f:Addr}{cdv:Value}{A:Around}{outer:List Env}{s:Shared}{H0:Hp}{E:XK}(hr:Room 2 (A.deeper (PyProof.Rows.envOfC "_law_tree" (ai ik) s.heap.objs.size f cdv))):
  ∃t,PS (BX P w K mg base f cdv A outer s H0 E) (buS 5) t∧∀(D:Ends)(H H6:Hp)(pl pf pn:Addr)(x0 x1 x2 x6:Option V)(lf:List Int)(zs:ZN)(num par:Int)(nm:Str)(st:Option Int),Sta H pl pf pn H6 lf (0::TW.aS (nds zs)) zs→zs.length≤20 →
   (∀H',Sta H pl pf pn H' lf (0::TW.aS (nds zs)) zs→D.nx [x0,x1,x2,some (.ref pl),some (.ref pf),some (.ref pn),x6,some (.int num),some (.int par),some (.str nm),some (stV st)] H') →
   (∀q H',(∀z∈zs,¬(z.2.par=par∧z.2.nm=nm))→Sta H pl pf pn H' lf (0::TW.aS (nds (zs++[(q,⟨num,par,nm,st⟩)]))) (zs++[(q,⟨num,par,nm,st⟩)])→D.nx [x0,x1,x2,some (.ref pl),some (.ref pf),some (.ref pn),x6,some (.int num),some (.int par),some (.str nm),some (stV st)] H') →
   t D [x0,x1,x2,some (.ref pl),some (.ref pf),some (.ref pn),x6,some (.int num),some (.int par),some (.str nm),some (stV st)] H6:=by
 refine⟨_,aR (am (jr (aI hr)) (bn (aa (pv 8) (aa (pv 9) ah))) (fT (N:=["_law_node"]) (k:=1) (js:=[]) (g:=be 0) rfl (dS rfl (by decide +kernel) (by decide +kernel) (by decide +kernel)) rfl (λi j x h=>by simp at h)
     (cG (pv 5)) (λs H fp=>aG (i:=0) (show(["_law_node"]:List Str).Nodup by decide +kernel) rfl (Or.inl rfl) (Or.inr rfl))
     (λs H fp=>cj (r:=mY K) cY (pv 0) (bA ag) (bA ag))) rfl) (ae (bX (eY plainAttrs_list PySem.F.slot_list_append PySem.F.type_list_append bz (pv 5) (aa (bn (aa (pv 7) (aa (pv 8) (aa (pv 9) (aa (pv 10) ah))))) ah))) (aj (aR (am eG (pv 10) cm (au _)) (aj (bX (eY plainAttrs_list PySem.F.slot_list_append PySem.F.type_list_append bz (pv 4) (aa (pv 7) ah)))) aA))) aA,?_⟩
 intro D H H6 pl pf pn x0 x1 x2 x6 lf zs num par nm st A6 hzl qs qa;refine⟨_,rfl,_,rfl,le2,λq0 hq0=>?_⟩;have A7:=A6.grow (af (o:=.tup [.int par,.str nm]) hq0);have eq0:(upd H6 q0 (.tup [.int par,.str nm])) q0=some (.tup ([Sum.inl par,Sum.inr nm].map kV)):=ac;refine⟨_,rfl,pn,rfl,⟨_,SqL.of A7.n⟩,λp hp=>?_⟩;generalize upd H6 q0 (.tup [.int par,.str nm])=H7 at A7 eq0 hp⊢;refine uo (k:=1) (js:=[]) (J:=Itl K pn) (p:=p) zs.length (by omega) (λi ys σ' H'=>∃kss:List (Addr×List Key),ys=(kss.map (·.1)).map V.ref∧kss.map (·.2)=((nds zs).take i).map plK∧kss.length=i∧(∀z∈kss,H' z.1=some (.tup (z.2.map kV)))∧σ'.length=1∧Same H7 H'∧H' p=some (.lst ys))
  ⟨[],rfl,rfl,rfl,by simp,rfl,af hp,ac⟩ (λi ys σ' H' h=>?_) (λi ys σ' H' hi h=>?_) (λys σ' H' h=>?_) (λi ys σ' H' hi h v H2 hy=>?_) ?_ ?_
 ·obtain⟨kss,rfl,_,e,_⟩:=h;rw[length_map,length_map];omega
 ·obtain⟨_,_,_,_,_,_,s2,_⟩:=h;exact⟨_,_,SqL.of (s2 _ _ A7.n),ja (getElem?_eq_getElem hi)⟩
 ·obtain⟨kss,e1,e2,e3,e4,_,s2,e5⟩:=h;refine⟨⟨_,SqL.of (s2 _ _ A7.n),by rw[bo];exact le_refl _⟩,?_⟩;subst e1;refine⟨q0,p,_,kss,rfl,s2 _ _ eq0,rfl,SqL.of e5,e4,_,rfl,?_⟩;rw[List.take_of_length_le (by rw[bY];exact le_refl _)]at e2;have A8:=A7.grow s2;cases ea:(kss.any λz=>decide (z.2=[Sum.inl par,Sum.inr nm]))with
  |true=>exact aD (qs _ A8)
  |false =>
   have ho:∀z∈zs,¬(z.2.par=par∧z.2.nm=nm):=λz hz ⟨h1,h2⟩=>by
    have m1:plK z.2∈kss.map (·.2):=by rw[e2];exact mem_map.mpr ⟨z.2,mem_map.mpr ⟨z,hz,rfl⟩,rfl⟩
    obtain⟨y,hy,ey⟩:=mem_map.mp m1;have:(kss.any λz=>decide (z.2=[Sum.inl par,Sum.inr nm]))=true:=any_eq_true.mpr ⟨y,hy,by rw[decide_eq_true_eq,ey];unfold plK;rw[h1,h2]⟩;rw[ea]at this;cases this
   refine aQ ⟨_,rfl,.inl ⟨rfl,_,SqL.of A8.n⟩,_,rfl,_,rfl,_,rfl,_,rfl,(show 4≤sizeLine from ap (by decide)),λq hq=>⟨pn,_,_,rfl,rfl,bu hq A8.n,aC (by rw[bo];omega),?_⟩⟩;have A9:=(A8.grow (af (o:=.tup (vals ⟨num,par,nm,st⟩)) hq)).node (n:=⟨num,par,nm,st⟩) ac;refine⟨_,rfl,rfl,_,rfl,?_⟩;cases st with
   |some i5 =>
    have ef:(0::TW.aS (nds zs))=(0:Int)::TW.aS (nds (zs++[(q,⟨num,par,nm,some i5⟩)])):=by simp[TW.aS,nds]
    rw[ef]at A9;exact aD (qa q _ ho A9)
   |none =>
    refine aQ ⟨_,rfl,.inl ⟨rfl,_,SqL.of A9.f⟩,_,rfl,pf,_,_,rfl,rfl,A9.f,aC ?_,?_⟩
    ·have:=TW.dP (nds zs);rw[bY]at this;rw[length_map,length_cons];omega
    ·have A10:=A9.fold num;have ef:(0::TW.aS (nds zs))++[num]=(0:Int)::TW.aS (nds (zs++[(q,⟨num,par,nm,none⟩)])):=by simp[TW.aS,nds]
     rw[ef]at A10;exact qa q _ ho A10
 ·obtain⟨kss,e1,e2,e3,e4,e0,s2,e5⟩:=h;obtain⟨o1,rfl⟩:=vq e0;obtain⟨rfl,hx⟩:=hy;have gx:=hx _ (SqL.of (s2 _ _ A7.n));obtain⟨z1,g1,rfl⟩:=cr gx;have m1:=mem_of_getElem? g1;have ecut:eJ (vals z1.2) (some 1) (some 3)=[.int z1.2.par,.str z1.2.nm]:=rfl;refine⟨_,rfl,_,rfl,_,rfl,z1.1,_,rfl,SqT.of (s2 _ _ (A7.nd z1 m1)),(λh=>by have h1:(1:Nat)=0:=h.1;cases h1),λq hq=>?_⟩;rw[ecut];refine⟨bu hq e5,kss++[(q,plK z1.2)],by rw[e1];simp,?_,by simp[e3],?_,rfl,aP hp (s2.trans (af hq)),ac⟩
  ·rw[map_append,e2,take_succ,show(nds zs)[i]?=some z1.2 by unfold nds;rw[getElem?_map,g1];rfl,map_append];rfl
  ·intro z hz;have hqp:q≠p:=λz=>by rw[z,e5]at hq;cases hq
   rcases mem_append.mp hz with hz|hz
   ·have:=bu (o:=.tup [.int z1.2.par,.str z1.2.nm]) hq (e4 z hz);rw[ak]
    ·exact this
    ·intro e;rw[e,ak (symm hqp),e5]at this;cases this
   ·have e:z=(q,plK z1.2):=by simpa using hz
    subst e;rw[ak hqp];exact ac
 ·rintro _ _ _ _ _ m h;exact m _ _ h
 ·rintro _ _ _ _ m ⟨v1,b0,i1,b1,i2,b2,a2,x2,c1,c2,c3,q⟩;exact⟨v1,b0,i1,b1,i2,b2,a2,x2,c1,c2,c3,λp hp=>m _ _ (q p hp)⟩
theorem sf{f:Addr}{fd:FuncData}(F:Fun K "_law_tree" "_law_tree" ik f fd)(T:Txt mg)(C:Has P w K mg base 2 "_law_pick" ["_law_script","_law_k","_law_many"] (dX K)):FnOk P w K mg base CX0 3 f fd ["_law_script","_law_at","_law_most"] (gU K):=by
 obtain⟨fP,fdP,GP,mP,kP,bP⟩:=C;refine F.ok scB (λvs H Q E h=>?_) (λcdv A outer s H vs Q E hr h=>?_)
 ·obtain⟨a,at',m,rfl,_⟩:=h;rfl
 ·obtain⟨a,at',m,rfl,ha0,hm0,hm9,hS,k⟩:=h;obtain⟨t5,p5,h5⟩:=xc (P:=P) (w:=w) (mg:=mg) (base:=base) (f:=f) (cdv:=cdv) (A:=A) (outer:=outer) (s:=s) (H0:=H) (E:=E) hr;refine⟨_,(ae (aq (i:=3) scB.nd rfl (Or.inl rfl) (bh (ju rfl) rfl T.list rfl (aa (bh pN rfl T.range rfl (aa ag (aa (aE bg (pv 2) ag) ah))) ah)))
    (ae (aq (i:=4) scB.nd rfl (Or.inl rfl) (ba (aa ag ah)))
    (ae (aq (i:=5) scB.nd rfl (Or.inl rfl) (ba ah))
    (ae (cH PassesOwn.never rfl (gX rfl T.range (aa (al GP hr rfl mP kP bP .nil aK (aa (pv 0) (aa (pv 1) (aa (aE bg (pv 2) ag) ah)))) ah)) (aG (i:=6) scB.nd rfl (Or.inl rfl))
    (ae (aq (i:=7) scB.nd rfl (Or.inl rfl) (eY plainAttrs_list slot_list_pop type_list_pop qz (pv 3) (aa (al GP hr rfl mP kP bP .nil aK (aa (pv 0) (aa (aE bg (aE bg (pv 1) ag) (aE cX ag (pv 6))) (aa (br cg rfl T.len boot_len (aa (pv 3) ah)) ah)))) ah)))
    (ae (aq (i:=8) scB.nd rfl (Or.inl rfl) (av cI (pv 4) (al GP hr rfl mP kP bP .nil aK (aa (pv 0) (aa (aE bg (aE bg (pv 1) ag) (aE cX ag (pv 6))) (aa (br cg rfl T.len boot_len (aa (pv 4) ah)) ah)))) (λ_ _=>rfl)))
    (ae (aq (i:=9) scB.nd rfl (Or.inl rfl) (av cI (ba (aa aJ (aa aJ (aa aJ (aa aJ ah))))) (al GP hr rfl mP kP bP .nil aK (aa (pv 0) (aa (aE bg (aE bg (pv 1) ag) (aE cX ag (pv 6))) (aa ag ah)))) (λ_ _=>rfl)))
    (ae (aq (i:=10) scB.nd rfl (Or.inl rfl) cm)
    (ae (aR (am og (al GP hr rfl mP kP bP .nil aK (aa (pv 0) (aa (aE bg (aE bg (pv 1) ag) (aE cX ag (pv 6))) (aa ag ah)))) ag (au _)) (aj (aq (i:=10) scB.nd rfl (Or.inl rfl) (av cI (ba (aa ag (aa ag (aa ag (aa ag ah))))) (al GP hr rfl mP kP bP .nil aK (aa (pv 0) (aa (aE bg (aE bg (pv 1) ag) (aE cX ag (pv 6))) (aa ag ah)))) (λ_ _=>rfl)))) aA)
    (aj p5)))))))
    (aj (ax (bh bS rfl T.tuple rfl (aa (br ia rfl T.sorted boot_sorted (aa (pv 5) ah)) ah)))))))),?_⟩
  refine⟨_,rfl,_,_,rfl,rfl,_,_,rfl,λp1 hp1=>⟨p1,_,_,rfl,ac,⟨by decide,by decide,by omega,by omega⟩,by omega,λpl hpl=>?_⟩⟩;refine⟨ap (by decide),λpf hpf=>⟨zero_le _,λpn hpn=>?_⟩⟩;have s0:Same H (upd (upd (upd (upd H p1 (.rng 1 (m+4))) pl (.lst ((List.range (m+4-1:Int).toNat).map λk=>V.int (1+(k:Nat))))) pf (.lst [.int 0])) pn (.lst [])):=(((af hp1).trans (af hpl)).trans (af hpf)).trans (af hpn);have hfl:pl≠pf:=λe=>by rw[←e,ac]at hpf;cases hpf
  have hln:pl≠pn:=λe=>by rw[←e,ak hfl,ac]at hpn;cases hpn
  have hfn:pf≠pn:=λe=>by rw[←e,ac]at hpn;cases hpn
  have A0:Sta H pl pf pn (upd (upd (upd (upd H p1 (.rng 1 (m+4))) pl (.lst ((List.range (m+4-1:Int).toNat).map λk=>V.int (1+(k:Nat))))) pf (.lst [.int 0])) pn (.lst [])) (lf0 m) [0] [] :=
   ⟨s0,by rw[ak hln,ak hfl,ac,lf0,map_map];rfl,by rw[ak hfn,ac];rfl,ac,λz hz=>by simp at hz,(af hp1).free hpl,((af hp1).trans (af hpl)).free hpf,(((af hp1).trans (af hpl)).trans (af hpf)).free hpn,hfl,hln,hfn⟩
  have B0:Bd [] (lf0 m):=Bd.zero hm9;refine⟨_,rfl,_,rfl,_,rfl,_,_,rfl,rfl,a,_,_,rfl,ha0,by omega,hS.same s0,λr H1 r0 r1 s1=>⟨r,rfl,by omega,by omega,?_⟩⟩;refine gY (n:=r.toNat) (λi σ H'=>∃lf zs o6 o7 o8 o9 o10,σ=[some (.ref a),some (.int at'),some (.int m),some (.ref pl),some (.ref pf),some (.ref pn),o6,o7,o8,o9,o10]∧Sta H pl pf pn H' lf (0::TW.aS (nds zs)) zs∧Bd zs lf∧(lf.length:Int)+i=m+3∧zs.length≤i)
   ⟨_,[],_,_,_,_,_,rfl,A0.grow s1,B0,by rw[sU hm0];omega,le_refl _⟩ (λi σ H' hi h=>?_) (λσ H' h=>?_)
  ·obtain⟨lf,zs,o6,o7,o8,o9,o10,rfl,A1,B,hlf,hzl⟩:=h;have hi8:i<10:=by omega
   have z0:(0:Int)≤at'+1+6*(0+(i:Int)):=by omega
   refine⟨_,rfl,.inl ⟨rfl,_,SqL.of A1.l⟩,_,rfl,_,rfl,_,_,rfl,rfl,_,rfl,_,_,rfl,rfl,.inl ⟨by decide,by decide⟩,_,_,rfl,rfl,_,rfl,pl,_,rfl,.inl (SqL.of A1.l),a,_,_,rfl,by omega,by rw[length_map];omega,hS.same A1.same,λj H2 j0 j1 s2=>?_⟩;rw[length_map]at j1;have A2:=A1.grow s2;obtain⟨num,gnum⟩:∃num,lf[j.toNat]?=some num:=⟨_,getElem?_eq_getElem (by omega)⟩;refine⟨pl,_,j,j.toNat,.int num,rfl,rfl,A2.l,by omega,by omega,by rw[length_map];exact vr j0 j1,by rw[getElem?_map,gnum];rfl,?_⟩;rw[jN];have A3:=A2.pop (lf.eraseIdx j.toNat);have elen:(lf.eraseIdx j.toNat).length=lf.length-1:=List.length_eraseIdx_of_lt (by omega);generalize upd H2 pl (.lst ((lf.eraseIdx j.toNat).map V.int))=H3 at A3⊢;refine⟨_,rfl,_,rfl,_,rfl,_,_,rfl,rfl,_,rfl,_,_,rfl,rfl,.inl ⟨by decide,by decide⟩,_,_,rfl,rfl,_,rfl,pf,_,rfl,.inl (SqL.of A3.f),a,_,_,rfl,by omega,by rw[length_map,length_cons];omega,hS.same A3.same,λj2 H4 j20 j21 s4=>?_⟩;rw[length_map]at j21;obtain⟨par,mpar,gpar⟩:=oE j20 j21;have A4:=A3.grow s4;refine⟨pf,_,_,_,rfl,rfl,SqL.of A4.f,gpar,?_⟩;refine⟨ap (by decide),λp3 hp3=>?_⟩;have A5:=A4.grow (af (o:=.lst [.str "a",.str "b",.str "c",.str "abcde"]) hp3);refine⟨_,rfl,_,rfl,_,_,rfl,rfl,_,rfl,_,_,rfl,rfl,.inl ⟨by decide,by decide⟩,_,_,rfl,rfl,a,_,_,rfl,by omega,by decide,hS.same A5.same,λj3 H5 j30 j31 s5=>?_⟩;obtain⟨nm,hnm,gnm⟩:=oF j30 j31;refine⟨p3,_,_,_,rfl,rfl,SqL.of (s5 _ _ ac),gnm,?_⟩;have A6:=A5.grow s5;refine⟨_,rfl,_,rfl,_,_,rfl,rfl,_,rfl,_,_,rfl,rfl,.inl ⟨by decide,by decide⟩,_,_,rfl,rfl,a,_,_,rfl,by omega,by decide,hS.same A6.same,λj4 H6 j40 j41 s6=>⟨_,_,rfl,rfl,_,rfl,?_⟩⟩;have A6':=A6.grow s6;refine na (λhgt=>?_) (λhgt=>?_)
   ·refine⟨ap (by decide),λp5 hp5=>?_⟩;have A65:=A6'.grow (af (o:=.lst [.int 0,.int 1,.int 2,.int 999]) hp5);refine⟨_,rfl,_,rfl,_,_,rfl,rfl,_,rfl,_,_,rfl,rfl,.inl ⟨by decide,by decide⟩,_,_,rfl,rfl,a,_,_,rfl,by omega,by decide,hS.same A65.same,λj5 H65 j50 j51 s65=>?_⟩;obtain⟨i5,hst5,gst⟩:=sT j50 j51;refine⟨p5,_,_,_,rfl,rfl,SqL.of (s65 _ _ ac),gst,?_⟩;have A66:=A65.grow s65;exact h5 _ H H65 pl pf pn _ _ _ _ (lf.eraseIdx j.toNat) zs num par nm (some i5) A66 (by omega) (λH' A8=>⟨_,zs,_,_,_,_,_,rfl,A8,B.skip _,by rw[elen];omega,by omega⟩)
     (λq H' ho A9=>⟨_,_,_,_,_,_,_,rfl,A9,B.add (q:=q) (n:=⟨num,par,nm,(some i5)⟩) gnum mpar ho hnm hst5,by rw[elen];omega,by rw[length_append,length_singleton];omega⟩)
   ·exact h5 _ H H6 pl pf pn _ _ _ _ (lf.eraseIdx j.toNat) zs num par nm none A6' (by omega) (λH' A8=>⟨_,zs,_,_,_,_,_,rfl,A8,B.skip _,by rw[elen];omega,by omega⟩)
     (λq H' ho A9=>⟨_,_,_,_,_,_,_,rfl,A9,B.add (q:=q) (n:=⟨num,par,nm,none⟩) gnum mpar ho hnm (.inl rfl),by rw[elen];omega,by rw[length_append,length_singleton];omega⟩)
  ·obtain⟨lf,zs,o6,o7,o8,o9,o10,rfl,A1,B,hlf,hzl⟩:=h;have hzl8:(zs.length:Int)≤m:=by omega
   have hnum:(zs.map tp).map (·.2.1)=(nds zs).map (·.num):=by
    unfold nds;simp only[map_map];rfl
   have hnd:((nds zs).map (·.num)).Nodup:=(nodup_append.mp B.nd).1;refine⟨_,rfl,pn,zs.map tp,rfl,SqL.of (by rw[A1.n,iC]),λz hz=>?_,by rw[hnum];exact hnd,by rw[length_map];omega,λts pm up p hp=>?_⟩
   ·obtain⟨y,hy,rfl⟩:=mem_map.mp hz;exact A1.nd y hy
   ·obtain⟨pm2,eb⟩:=back pm;have er:(ts.map (·.1)).map V.ref=aO (ts.map un):=by rw[←iC,eb]
    rw[er];refine⟨p,_,rfl,.inl ⟨SqL.of ac,λl hl=>?_⟩⟩;have mem:∀z,z∈ts.map un→z∈zs:=λz hz=>pm2.mem_iff.mp hz;refine k l (ts.map un) _ ac ?_ (by rw[pm2.length_eq];exact hzl8) ?_ (λz hz=>B.ok z (mem z hz)) ((A1.same.trans (af hp)).trans (af hl))
    ·intro z hz;exact((af hp).trans (af hl)) _ _ (A1.nd z (mem z hz))
    ·refine TW.sQ B.built (pm2.map _) ?_ hnd B.own;unfold nds;rw[pairwise_map];have up2:((ts.map un).map tp).Pairwise (λa b=>a.2.1<b.2.1):=by rw[eb];exact up
     rw[pairwise_map]at up2;exact up2.imp λh=>Int.le_of_lt h
end
def edS(i:Nat):Stmt:=(bH ir).getD i (.Pass ⟨0,0,0,0⟩)
def EN:List Str:=["_law_script","_law_at","_law_tree_here","_law_numbers","_law_some","_law_number","_law_folders","_law_parent","_law_name","_law_way","_law_stamp","_law_new"]
theorem dY:FnScope EN ["_law_script","_law_at","_law_tree_here"] (ai ir):=fsc
abbrev EX(P:Program)(w:World)(K:PySem.W.Frag)(mg:Str→Option Value)(base:Heap)(f:Addr)(cdv:Value)(A:Around)(outer:List Env)(s:Shared)(H:Hp)(E:XK):Cx:=(hU CX0 P w K mg base EN "_law_deed" (ai ir) f cdv A outer s H E).nox
def edσ(a t:Addr)(at':Int)(x3 x4 x5 x6 x7 x8 x9 x10 x11:Option V):St:=[some (.ref a),some (.int at'),some (.ref t),x3,x4,x5,x6,x7,x8,x9,x10,x11]
section
variable{P:Program}{w:World}{K:PySem.W.Frag}{mg:Str→Option Value}{base:Heap}{f:Addr}{cdv:Value}{A:Around}{outer:List Env}{s:Shared}{H0:Hp}{E:XK}
theorem ed0:∃t,PS (EX P w K mg base f cdv A outer s H0 E) (edS 0) t∧∀(D:Ends)(H:Hp)(a t':Addr)(at':Int)(zs:ZN),Tre H t' zs →
   (∀p H',Same H H'→H' p=some (.lst (((nds zs).map (·.num)).map V.int))→D.nx (edσ a t' at' (some (.ref p)) none none none none none none none none) H')→t D (edσ a t' at' none none none none none none none none none) H:=by
 refine⟨_,qL (ii:=3) (N:=["_law_node"]) (cl:=[]) (k:=1) (js:=[]) (g:=be 0) dY.nd rfl (Or.inl rfl) rfl (dS rfl (by decide +kernel) (by decide +kernel) (by decide +kernel)) rfl (λi j x h=>by simp at h)
  (cD (pv 2)) (λs H fp=>aG (i:=0) (show(["_law_node"]:List Str).Nodup by decide +kernel) rfl (Or.inl rfl) (Or.inr rfl)) (λs H fp=>av (r:=cw K) ao (pv 0) ag (λ_ _=>rfl)),?_⟩
 intro D H a t' at' zs tr q;have hl:=tr.len;refine⟨_,rfl,t',rfl,⟨_,SqT.of tr.tup⟩,λp hp=>?_⟩;refine dO (fr:=[]) zs (λz=>V.ref z.1) (by omega) hp (dN (by rw[cc];exact SqT.of tr.tup)) rfl (λz y _=>y=.int z.2.num) (λz y H H' h _=>h) (λz H' k mz s1 _ hk=>⟨_,rfl,z.1,_,_,_,rfl,rfl,SqT.of (s1 _ _ (tr.nod z mz)),at0 z.2,hk _ H' (Same.refl _) rfl⟩) (λys H' s1 hp' hys=>?_);have ey:=bv (f:=λz:Addr×Nd=>V.int z.2.num) hys (λz y _ h=>h);refine q p H' s1 ?_;rw[hp',ey];unfold nds;rw[map_map,map_map];rfl
theorem ed1:∃t,PS (EX P w K mg base f cdv A outer s H0 E) (edS 1) t∧∀(D:Ends)(H:Hp)(a t' p:Addr)(at':Int)(ns:List Int),H p=some (.lst (ns.map V.int))→ns.length≤60 →
   (∀q H',Same H H'→H' q=some (.lst ((ns++ns++ns++[55]).map V.int))→D.nx (edσ a t' at' (some (.ref p)) (some (.ref q)) none none none none none none none) H')→t D (edσ a t' at' (some (.ref p)) none none none none none none none none) H:=by
 refine⟨_,aq (i:=4) dY.nd rfl (Or.inl rfl) (aE eZ (aE eZ (aE eZ (pv 3) (pv 3)) (pv 3)) (ba (aa ag ah))),?_⟩;intro D H a t' p at' ns hp hl q;refine⟨_,rfl,_,rfl,p,p,_,_,rfl,rfl,hp,hp,ap (by rw[length_map];omega),λp1 h1=>?_⟩;have s1:=af (o:=.lst (ns.map V.int++ns.map V.int)) h1;refine⟨_,rfl,p1,p,_,_,rfl,rfl,ac,s1 _ _ hp,ap (by rw[length_append,length_map];omega),λp2 h2=>?_⟩;have s2:=s1.trans (af (o:=.lst (ns.map V.int++ns.map V.int++ns.map V.int)) h2);refine⟨ap (show 1≤1000 by decide),λp3 h3=>?_⟩;have s3:=s2.trans (af (o:=.lst [.int 55]) h3);refine⟨p2,p3,_,_,rfl,rfl,bu h3 ac,ac,ap (by rw[length_append,length_append,length_map];show _+1≤1000;omega),λp4 h4=>?_⟩;refine q p4 _ (s3.trans (af h4)) ?_;rw[ac];simp only[map_append,map_cons,map_nil]
theorem ed3:∃t,PS (EX P w K mg base f cdv A outer s H0 E) (edS 3) t∧∀(D:Ends)(H:Hp)(a t':Addr)(at':Int)(zs:ZN)(x3 x4 x5:Option V),Tre H t' zs →
   (∀p H' (fs:List Int),Same H H'→H' p=some (.lst (fs.map V.int))→(∀x∈fs,x=0∨∃m∈nds zs,m.num=x)→1≤fs.length→fs.length≤31→D.nx (edσ a t' at' x3 x4 x5 (some (.ref p)) none none none none none) H')→t D (edσ a t' at' x3 x4 x5 none none none none none none) H:=by
 refine⟨_,aq (i:=6) dY.nd rfl (Or.inl rfl) (aE eZ (du (N:=["_law_node"]) (cl:=[]) (k:=1) (js:=[]) (g:=be 0) rfl (dS rfl (by decide +kernel) (by decide +kernel) (by decide +kernel)) rfl (λi j x h=>by simp at h)
  (cD (pv 2)) (λs H fp=>aG (i:=0) (show(["_law_node"]:List Str).Nodup by decide +kernel) rfl (Or.inl rfl) (Or.inr rfl)) (λs H fp=>am eG (av (r:=cw K) ao (pv 0) ag (λ_ _=>rfl)) cm (au _)) (λs H fp=>av (r:=cw K) ao (pv 0) ag (λ_ _=>rfl))) (ba (aa ag ah))),?_⟩
 intro D H a t' at' zs x3 x4 x5 tr q;have hl:=tr.len;refine⟨_,rfl,t',rfl,⟨_,SqT.of tr.tup⟩,λp hp=>?_⟩;refine cQ (fr:=[]) zs (λz=>V.ref z.1) (by omega) hp (dN (by rw[cc];exact SqT.of tr.tup)) rfl (λz=>decide (stV z.2.st=V.non)) (λz y _=>y=.int z.2.num) (λz y H H' h _=>h) (λz H' k mz s1 _ hk=>⟨_,rfl,z.1,_,_,_,rfl,rfl,SqT.of (s1 _ _ (tr.nod z mz)),at3 z.2,rfl,_,rfl,hk H' (Same.refl _)⟩)
  (λz H' k mz _ s1 _ hk=>⟨_,rfl,z.1,_,_,_,rfl,rfl,SqT.of (s1 _ _ (tr.nod z mz)),at0 z.2,hk _ H' (Same.refl _) rfl⟩) (λys H' s1 hp' hys=>?_)
 have ey:=bv (f:=λz:Addr×Nd=>V.int z.2.num) hys (λz y _ h=>h);have hfl:=length_filter_le (λz:Addr×Nd=>decide (stV z.2.st=V.non)) zs;have ey2:ys=((zs.filter λz:Addr×Nd=>decide (stV z.2.st=V.non)).map λz=>z.2.num).map V.int:=by rw[ey,map_map];rfl
 refine⟨ap (show 1≤1000 by decide),λp2 h2=>?_⟩;refine⟨p,p2,_,_,rfl,rfl,bu h2 hp',ac,ap (by rw[ey,length_map];show _+1≤1000;omega),λp3 h3=>?_⟩;refine q p3 _ (((zs.filter λz:Addr×Nd=>decide (stV z.2.st=V.non)).map λz=>z.2.num)++[0]) ((s1.trans (af h2)).trans (af h3)) ?_ (λx hx=>?_) (by simp) (by rw[length_append,length_map];simp;omega)
 ·rw[ac,ey2,map_append];rfl
 ·rcases mem_append.mp hx with h|h
  ·obtain⟨z,hz,rfl⟩:=mem_map.mp h;exact .inr ⟨z.2,aw (mem_filter.mp hz).1,rfl⟩
  ·exact .inl (by simpa using h)
end
def wp:List Stmt:=match edS 7 with
 |.If _ a _ _=>a
 |_=>[]
theorem sg{j:Int}(h0:0≤j)(h1:j<6):∃st,atI [V.non,.non,.int 0,.int 1,.int 2,.int 3] j=some (stV st)∧vw st:=by
 have hj:j=0∨j=1∨j=2∨j=3∨j=4∨j=5:=by omega
 rcases hj with rfl|rfl|rfl|rfl|rfl|rfl
 ·exact⟨none,rfl,λi e=>by cases e⟩
 ·exact⟨none,rfl,λi e=>by cases e⟩
 ·exact⟨some 0,rfl,λi e=>by cases e;decide⟩
 ·exact⟨some 1,rfl,λi e=>by cases e;decide⟩
 ·exact⟨some 2,rfl,λi e=>by cases e;decide⟩
 ·exact⟨some 3,rfl,λi e=>by cases e;decide⟩
theorem sh{j:Int}(h0:0≤j)(h1:j<4):∃i,atI [V.int 0,.int 1,.int 2,.int 998] j=some (.int i)∧0≤i∧i≤999:=by
 have hj:j=0∨j=1∨j=2∨j=3:=by omega
 rcases hj with rfl|rfl|rfl|rfl
 ·exact⟨0,rfl,by decide,by decide⟩
 ·exact⟨1,rfl,by decide,by decide⟩
 ·exact⟨2,rfl,by decide,by decide⟩
 ·exact⟨998,rfl,by decide,by decide⟩
theorem si{j x y:Int}(h0:0≤j)(h1:j<5):∃z,atI [V.int x,.int y] (j / 4)=some (.int z)∧(z=x∨z=y):=by
 have hj:j / 4=0∨j / 4=1:=by omega
 rcases hj with e|e
 ·rw[e];exact⟨x,rfl,.inl rfl⟩
 ·rw[e];exact⟨y,rfl,.inr rfl⟩
section
variable{P:Program}{w:World}{K:PySem.W.Frag}{mg:Str→Option Value}{base:Heap}{f:Addr}{cdv:Value}{A:Around}{outer:List Env}{s:Shared}{H0:Hp}{E:XK}
theorem edM(hr:Room 2 (A.deeper (PyProof.Rows.envOfC "_law_deed" (ai ir) s.heap.objs.size f cdv)))(CP:Has P w K mg base 2 "_law_pick" ["_law_script","_law_k","_law_many"] (dX K)):
  ∃t,PSs (EX P w K mg base f cdv A outer s H0 E) wp t∧∀(D:Ends)(H:Hp)(a t':Addr)(at' n p:Int)(nm:Str)(x3 x4 x6 x9:Option V),dC K H a→0≤at'→1≤n→n≤60→0≤p→p≤60→lN nm →
   (∀c dd H',Same H H'→H' c=some (.tup (aT dd))→dD dd→D.rt (.ref c) H')→t D (edσ a t' at' x3 x4 (some (.int n)) x6 (some (.int p)) (some (.str nm)) x9 none none) H:=by
 obtain⟨fP,fdP,GP,mP,kP,bP⟩:=CP;refine⟨_,ae (aq (i:=10) dY.nd rfl (Or.inl rfl) (av cI (ba (aa cm (aa cm (aa ag (aa ag (aa ag (aa ag ah))))))) (al GP hr rfl mP kP bP .nil aK (aa (pv 0) (aa (aE bg (pv 1) ag) (aa ag ah)))) (λ_ _=>rfl)))
  (ae (aq (i:=11) dY.nd rfl (Or.inl rfl) (av cI (ba (aa (aE bg ag (al GP hr rfl mP kP bP .nil aK (aa (pv 0) (aa (aE bg (pv 1) ag) (aa ag ah))))) (aa (pv 5) ah))) (aE kd (al GP hr rfl mP kP bP .nil aK (aa (pv 0) (aa (aE bg (pv 1) ag) (aa ag ah)))) ag) (λ_ _=>rfl)))
  (aj (ax (bn (aa aJ (aa (pv 11) (aa (pv 7) (aa (pv 8) (aa (pv 10) ah))))))))),?_⟩
 intro D H a t' at' n p nm x3 x4 x6 x9 hS hat hn1 hn2 hp1 hp2 hnm q;refine⟨ap (show 6≤1000 by decide),λl1 hl1=>?_⟩;have s1:=af (o:=.lst [.non,.non,.int 0,.int 1,.int 2,.int 3]) hl1;refine⟨_,rfl,_,rfl,_,_,rfl,rfl,a,_,_,rfl,by omega,by decide,hS.same s1,λj1 H1 j10 j11 s2=>?_⟩;obtain⟨st,est,hst⟩:=sg j10 j11;refine⟨l1,_,_,_,rfl,rfl,SqL.of (s2 _ _ ac),est,?_⟩;have s12:=s1.trans s2;refine⟨_,rfl,_,rfl,_,_,rfl,rfl,a,_,_,rfl,by omega,by decide,hS.same s12,λj2 H2 j20 j21 s3=>?_⟩;refine⟨_,_,rfl,rfl,_,rfl,le2,λl2 hl2=>?_⟩;have s13:=s12.trans s3;have s4:=s13.trans (af (o:=.lst [.int (1+j2),.int n]) hl2);refine⟨_,rfl,_,rfl,_,_,rfl,rfl,a,_,_,rfl,by omega,by decide,hS.same s4,λj3 H3 j30 j31 s5=>?_⟩;obtain⟨nw,enw,hnw⟩:=si (x:=1+j2) (y:=n) j30 j31;refine⟨_,_,rfl,rfl,⟨by decide,by decide⟩,l2,_,_,_,rfl,rfl,SqL.of (s5 _ _ ac),enw,?_⟩;refine⟨_,rfl,_,rfl,_,rfl,_,rfl,(show 5≤sizeLine from ap (by decide)),λc hc=>?_⟩;refine q c (.make nw p nm st) _ ((s4.trans s5).trans (af hc)) ac ⟨?_,?_,hp1,hp2,hnm,hst⟩
 ·rcases hnw with e|e<;>omega
 ·rcases hnw with e|e<;>omega
theorem ed7(hr:Room 2 (A.deeper (PyProof.Rows.envOfC "_law_deed" (ai ir) s.heap.objs.size f cdv)))(CP:Has P w K mg base 2 "_law_pick" ["_law_script","_law_k","_law_many"] (dX K)):
  ∃t,PS (EX P w K mg base f cdv A outer s H0 E) (edS 7) t∧∀(D:Ends)(H:Hp)(a t' pn:Addr)(at' n p wy:Int)(nm:Str)(ns:List Int)(x4 x6:Option V),dC K H a→0≤at'→1≤n→n≤60→0≤p→p≤60→lN nm→H pn=some (.lst (ns.map V.int)) →
   (∀c dd H',Same H H'→H' c=some (.tup (aT dd))→dD dd→D.rt (.ref c) H')→(∀H',Same H H'→D.nx (edσ a t' at' (some (.ref pn)) x4 (some (.int n)) x6 (some (.int p)) (some (.str nm)) (some (.int wy)) none none) H') →
   t D (edσ a t' at' (some (.ref pn)) x4 (some (.int n)) x6 (some (.int p)) (some (.str nm)) (some (.int wy)) none none) H:=by
 obtain⟨tM,pM,hM⟩:=edM (f:=f) (cdv:=cdv) (outer:=outer) (H0:=H0) (E:=E) hr CP;refine⟨_,aR (PW.pt (pw_or (am qr (pv 9) ag (au _)) (pw_or1 (am (eK hr.units0) (pv 3) (ba ah) (au _))))) pM aA,?_⟩;intro D H a t' pn at' n p wy nm ns x4 x6 hS hat hn1 hn2 hp1 hp2 hnm hpn q qn;refine⟨_,rfl,_,_,rfl,rfl,_,rfl,?_⟩;refine na (λhlt=>?_) (λhlt=>?_)
 ·exact aQ (hM D H a t' at' n p nm _ _ _ _ hS hat hn1 hn2 hp1 hp2 hnm q)
 ·refine⟨_,rfl,zero_le _,λl hl=>?_⟩;have s1:=af (o:=.lst []) hl;refine⟨pn,l,_,rfl,rfl,SqL.of (s1 _ _ hpn),SqL.of ac,_,rfl,?_⟩;refine na (λ_=>?_) (λ_=>?_)
  ·exact hM D _ a t' at' n p nm _ _ _ _ (hS.same s1) hat hn1 hn2 hp1 hp2 hnm λc dd H' s'=>q c dd H' (s1.trans s')
  ·exact qn _ s1
theorem ed8(hr:Room 2 (A.deeper (PyProof.Rows.envOfC "_law_deed" (ai ir) s.heap.objs.size f cdv)))(CP:Has P w K mg base 2 "_law_pick" ["_law_script","_law_k","_law_many"] (dX K)):
  ∃t,PSs (EX P w K mg base f cdv A outer s H0 E) [edS 8,edS 9,edS 10] t∧∀(D:Ends)(H:Hp)(a t':Addr)(at' n p wy:Int)(nm:Str)(x3 x4 x6:Option V),dC K H a→0≤at'→1≤n→n≤60→0≤p→p≤60→lN nm →
   (∀c dd H',Same H H'→H' c=some (.tup (aT dd))→dD dd→D.rt (.ref c) H') →
   t D (edσ a t' at' x3 x4 (some (.int n)) x6 (some (.int p)) (some (.str nm)) (some (.int wy)) none none) H:=by
 obtain⟨fP,fdP,GP,mP,kP,bP⟩:=CP;refine⟨_,ae (aR (am cy (pv 9) ag (au _)) (aj (ax (bn (aa aJ (aa (pv 5) (aa (av cI (ba (aa ag (aa ag (aa ag (aa ag ah))))) (al GP hr rfl mP kP bP .nil aK (aa (pv 0) (aa (aE bg (pv 1) ag) (aa ag ah)))) (λ_ _=>rfl)) ah)))))) aA)
  (ae (aR (am qr (pv 9) ag (au _)) (aj (ax (bn (aa aJ (aa (pv 5) (aa (pv 7) (aa (pv 8) ah))))))) aA)
  (aj (ax (bn (aa aJ (aa (pv 5) ah)))))),?_⟩
 intro D H a t' at' n p wy nm x3 x4 x6 hS hat hn1 hn2 hp1 hp2 hnm q;refine⟨_,rfl,rfl,_,rfl,?_⟩;refine na (λ_=>?_) (λ_=>?_)
 ·refine⟨_,rfl,ap (show 4≤1000 by decide),λl1 hl1=>?_⟩;have s1:=af (o:=.lst [.int 0,.int 1,.int 2,.int 998]) hl1;refine⟨_,rfl,_,rfl,_,_,rfl,rfl,a,_,_,rfl,by omega,by decide,hS.same s1,λj1 H1 j10 j11 s2=>?_⟩;obtain⟨i,ei,hi1,hi2⟩:=sh j10 j11;refine⟨l1,_,_,_,rfl,rfl,SqL.of (s2 _ _ ac),ei,(show 3≤sizeLine from ap (by decide)),λc hc=>?_⟩;exact q c (.write n i) _ ((s1.trans s2).trans (af hc)) ac ⟨hn1,hn2,hi1,hi2⟩
 ·refine⟨_,rfl,_,_,rfl,rfl,_,rfl,?_⟩;refine na (λ_=>?_) (λ_=>?_)
  ·exact⟨_,rfl,_,rfl,_,rfl,(show 4≤sizeLine from ap (by decide)),λc hc=>q c (.move n p nm) _ (af hc) ac ⟨hn1,hn2,hp1,hp2,hnm⟩⟩
  ·exact⟨_,rfl,(show 2≤sizeLine from le2),λc hc=>q c (.drop n) _ (af hc) ac ⟨hn1,hn2⟩⟩
def nW(K:PySem.W.Frag):Sp:=λvs H Q _=>∃a at' t zs,vs=[.ref a,.int at',.ref t]∧0≤at'∧dC K H a∧Tre H t zs∧(∀n∈nds zs,fS n)∧∀c dd H',Same H H'→H' c=some (.tup (aT dd))→dD dd→Q (.ref c) H'
theorem uf{f:Addr}{fd:FuncData}(F:Fun K "_law_deed" "_law_deed" ir f fd)(T:Txt mg)(CP:Has P w K mg base 2 "_law_pick" ["_law_script","_law_k","_law_many"] (dX K)):FnOk P w K mg base CX0 3 f fd ["_law_script","_law_at","_law_tree_here"] (nW K):=by
 obtain⟨fP,fdP,GP,mP,kP,bP⟩:=id CP;refine F.ok dY (λvs H Q E h=>?_) (λcdv A outer s H vs Q E hr h=>?_)
 ·obtain⟨a,at',t,zs,rfl,_⟩:=h;rfl
 ·obtain⟨a,at',t,zs,rfl,hat,hS,tr,hok,q⟩:=h;obtain⟨t0,p0,h0⟩:=ed0 (P:=P) (w:=w) (K:=K) (mg:=mg) (base:=base) (f:=f) (cdv:=cdv) (A:=A) (outer:=outer) (s:=s) (H0:=H) (E:=E);obtain⟨t1,p1,h1⟩:=ed1 (P:=P) (w:=w) (K:=K) (mg:=mg) (base:=base) (f:=f) (cdv:=cdv) (A:=A) (outer:=outer) (s:=s) (H0:=H) (E:=E);obtain⟨t3,p3,h3⟩:=ed3 (P:=P) (w:=w) (K:=K) (mg:=mg) (base:=base) (f:=f) (cdv:=cdv) (A:=A) (outer:=outer) (s:=s) (H0:=H) (E:=E);obtain⟨t7,p7,h7⟩:=ed7 (f:=f) (cdv:=cdv) (outer:=outer) (H0:=H) (E:=E) hr CP;obtain⟨t8,p8,h8⟩:=ed8 (f:=f) (cdv:=cdv) (outer:=outer) (H0:=H) (E:=E) hr CP;refine⟨_,ae p0 (ae p1
   (ae (aq (i:=5) dY.nd rfl (Or.inl rfl) (av cI (pv 4) (al GP hr rfl mP kP bP .nil aK (aa (pv 0) (aa (pv 1) (aa (br cg rfl T.len boot_len (aa (pv 4) ah)) ah)))) (λ_ _=>rfl)))
   (ae p3
   (ae (aq (i:=7) dY.nd rfl (Or.inl rfl) (av cI (aE eZ (aE eZ (pv 6) (pv 6)) (pv 4)) (al GP hr rfl mP kP bP .nil aK (aa (pv 0) (aa (aE bg (pv 1) ag) (aa (aE bg (aE cX ag (br cg rfl T.len boot_len (aa (pv 6) ah))) (br cg rfl T.len boot_len (aa (pv 4) ah))) ah)))) (λ_ _=>rfl)))
   (ae (aq (i:=8) dY.nd rfl (Or.inl rfl) (av cI (ba (aa aJ (aa aJ (aa aJ (aa aJ ah))))) (al GP hr rfl mP kP bP .nil aK (aa (pv 0) (aa (aE bg (pv 1) ag) (aa ag ah)))) (λ_ _=>rfl)))
   (ae (aq (i:=9) dY.nd rfl (Or.inl rfl) (al GP hr rfl mP kP bP .nil aK (aa (pv 0) (aa (aE bg (pv 1) ag) (aa ag ah)))))
   (ae p7 p8))))))),?_⟩
  have hl:=tr.len;have hnr:∀x∈(nds zs).map (·.num),1≤x∧x≤60:=λx hx=>by
   obtain⟨n,hn,rfl⟩:=mem_map.mp hx;exact⟨(hok n hn).1,(hok n hn).2.1⟩
  refine h0 _ H a t at' zs tr λpn H1 s1 hpn=>?_;generalize hns:(nds zs).map (·.num)=ns at hpn hnr;have hnl:ns.length=zs.length:=by rw[←hns,length_map,bY]
  refine h1 _ H1 a t pn at' ns hpn (by omega) λps H2 s2 hps=>?_;have hsr:∀x∈ns++ns++ns++[55],1≤x∧x≤60:=λx hx=>by
   rcases mem_append.mp hx with h|h
   ·rcases mem_append.mp h with h|h
    ·rcases mem_append.mp h with h|h<;>exact hnr x h
    ·exact hnr x h
   ·have:x=55:=by simpa using h
    omega
  have hsl:(ns++ns++ns++[55]).length≤100∧1≤(ns++ns++ns++[55]).length:=by simp;omega
  generalize ns++ns++ns++[55]=ss at hps hsr hsl⊢;have s12:=s1.trans s2;refine⟨_,rfl,_,rfl,_,rfl,_,rfl,ps,_,rfl,.inl (SqL.of hps),a,at',_,rfl,hat,by rw[length_map];omega,hS.same s12,λj H3 j0 j1 s3=>?_⟩;rw[length_map]at j1;obtain⟨n,en,hn1,hn2⟩:=oI j0 j1 hsr;refine⟨ps,_,_,_,rfl,rfl,SqL.of (s3 _ _ hps),en,?_⟩;have s13:=s12.trans s3;refine h3 _ H3 a t at' zs _ _ _ (tr.same s13) λpf H4 fs s4 hpf hfs hf1 hf2=>?_;have s14:=s13.trans s4;have hps4:=s4 _ _ (s3 _ _ hps);refine⟨_,rfl,_,rfl,pf,pf,_,_,rfl,rfl,hpf,hpf,ap (by rw[length_map];omega),λl1 hl1=>?_⟩;have u1:=af (o:=.lst (fs.map V.int++fs.map V.int)) hl1;refine⟨_,rfl,l1,ps,_,_,rfl,rfl,ac,u1 _ _ hps4,ap (by rw[length_append,length_map,length_map];omega),λl2 hl2=>?_⟩;have u2:=u1.trans (af (o:=.lst (fs.map V.int++fs.map V.int++ss.map V.int)) hl2);have hl2':upd (upd H4 l1 (.lst (fs.map V.int++fs.map V.int))) l2 (.lst (fs.map V.int++fs.map V.int++ss.map V.int)) l2=some (.lst ((fs++fs++ss).map V.int)):=by rw[ac];simp only[map_append]
  generalize upd (upd H4 l1 (.lst (fs.map V.int++fs.map V.int))) l2 (.lst (fs.map V.int++fs.map V.int++ss.map V.int))=H5 at u2 hl2'⊢;have s15:=s14.trans u2;refine⟨_,rfl,_,rfl,_,_,rfl,rfl,_,rfl,pf,_,rfl,.inl (SqL.of (u2 _ _ hpf)),_,_,rfl,rfl,.inl ⟨by decide,by decide⟩,_,rfl,ps,_,rfl,.inl (SqL.of (u2 _ _ hps4)),_,_,rfl,rfl,a,_,_,rfl,by omega,by rw[length_map,length_map];omega,hS.same s15,λj2 H6 j20 j21 s6=>?_⟩;rw[length_map,length_map]at j21;obtain⟨p,ep,hp1,hp2⟩:=oI (ns:=fs++fs++ss) (P:=λx=>0≤x∧x≤60) j20 (by rw[length_append,length_append];omega) (λx hx=>by
   have hf:∀x∈fs,0≤x∧x≤60:=λx hx=>by
    rcases hfs x hx with e|⟨m,hm,e⟩
    ·omega
    ·have:=hok m hm;have h1:=this.1;have h2:=this.2.1;omega
   rcases mem_append.mp hx with h|h
   ·rcases mem_append.mp h with h|h<;>exact hf x h
   ·have:=hsr x h;omega)
  refine⟨l2,_,_,_,rfl,rfl,SqL.of (s6 _ _ hl2'),ep,?_⟩;have s16:=s15.trans s6;refine⟨ap (show 4≤1000 by decide),λl3 hl3=>?_⟩;have s17:=s16.trans (af (o:=.lst [.str "a",.str "b",.str "c",.str "abcde"]) hl3);refine⟨_,rfl,_,rfl,_,_,rfl,rfl,a,_,_,rfl,by omega,by decide,hS.same s17,λj3 H7 j30 j31 s7=>?_⟩;obtain⟨nm,hnm,gnm⟩:=oF j30 j31;refine⟨l3,_,_,_,rfl,rfl,SqL.of (s7 _ _ ac),gnm,?_⟩;have s18:=s17.trans s7;refine⟨_,rfl,_,rfl,_,_,rfl,rfl,a,_,_,rfl,by omega,by decide,hS.same s18,λwy H8 _ _ s8=>?_⟩;have s19:=s18.trans s8;have s29:Same H1 H8:=((((s2.trans s3).trans s4).trans u2).trans s6).trans ((af hl3).trans (s7.trans s8));refine h7 _ H8 a t pn at' n p wy nm ns _ _ (hS.same s19) hat hn1 hn2 hp1 hp2 hnm (s29 _ _ hpn) (λc dd H' s'=>q c dd H' (s19.trans s')) λH9 s9=>?_;exact h8 _ H9 a t at' n p wy nm _ _ _ (hS.same (s19.trans s9)) hat hn1 hn2 hp1 hp2 hnm λc dd H' s'=>q c dd H' ((s19.trans s9).trans s')
def pi(K:PySem.W.Frag):Sp:=λvs H Q _=>∃a at' t m zs,vs=[.ref a,.int at',.ref t,.int m]∧0≤at'∧0≤m∧m≤12∧dC K H a∧Tre H t zs∧(∀n∈nds zs,fS n)∧(zs.length:Int)+m≤29∧∀t' us H',Same H H'→Tre H' t' us→(∀n∈nds us,fS n)→(us.length:Int)≤zs.length+m→(∃ms:List Int,(ms.length:Int)≤m∧∀n∈nds us,n.num∈(nds zs).map (·.num)∨n.num∈ms)→Q (.ref t') H'
theorem pj:FnScope ["_law_script","_law_at","_law_tree_here","_law_many","_law_j","_law_behind"] ["_law_script","_law_at","_law_tree_here","_law_many"] (ai vE):=fsc
theorem wq{f:Addr}{fd:FuncData}(F:Fun K "_law_further" "_law_further" vE f fd)(T:Txt mg)(CE:Has P w K mg base 3 "_law_deed" ["_law_script","_law_at","_law_tree_here"] (nW K))(CL:Has P w K mg base 2 "_law_done" ["_law_tree_here","_law_deed_here"] kS):FnOk P w K mg base CX0 4 f fd ["_law_script","_law_at","_law_tree_here","_law_many"] (pi K):=by
 obtain⟨fE,fdE,GE,mE,kE,bE⟩:=CE;obtain⟨fL,fdL,GL,mL,kL,bL⟩:=CL;refine F.ok pj (λvs H Q E h=>?_) (λcdv A outer s H vs Q E hr h=>?_)
 ·obtain⟨a,at',t,m,zs,rfl,_⟩:=h;rfl
 ·obtain⟨a,at',t,m,zs,rfl,ha0,hm0,hm1,hS,tr,hok,hl,q⟩:=h;have hr2:Room 2 _:=hr.mono (by decide);refine⟨_,ae (cH PassesOwn.never rfl (gX rfl T.range (aa (pv 3) ah)) (aG (i:=4) pj.nd rfl (Or.inl rfl))
    (ae (aq (i:=5) pj.nd rfl (Or.inl rfl) (al GL hr2 rfl mL kL bL .nil aK (aa (pv 2) (aa (al GE hr rfl mE kE bE .nil aK (aa (pv 0) (aa (aE bg (pv 1) (aE cX ag (pv 4))) (aa (pv 2) ah)))) ah))))
    (aj (aR (kb (iJ (br lz rfl T.isin PyProof.Rows.boot_isinstance (aa (pv 5) (aa (sm (v:=.ty "str") rfl T.str boot_str rfl) ah))) (λ_=>rfl))) (aj (aq (i:=2) pj.nd rfl (Or.inl rfl) (pv 5))) aA))))
   (aj (ax (pv 2))),?_⟩
  refine⟨_,rfl,m,rfl,by omega,by omega,?_⟩;refine gY (n:=m.toNat) (λi σ H'=>∃t' us x4 x5,σ=[some (.ref a),some (.int at'),some (.ref t'),some (.int m),x4,x5]∧Same H H'∧H' t'=some (.tup (aO us))∧At H' us∧TW.Tree1 (nds us)∧(∀n∈nds us,fS n)∧us.length≤zs.length+i∧∃ms:List Int,ms.length≤i∧∀n∈nds us,n.num∈(nds zs).map (·.num)∨n.num∈ms) ⟨t,zs,none,none,rfl,Same.refl _,tr.tup,tr.nod,tr.tr,hok,le_refl _,[],le_refl _,λn hn=>.inl (mem_map.mpr ⟨n,hn,rfl⟩)⟩ (λi σ H' hi h=>?_) (λσ H' h=>?_)
  ·obtain⟨t',us,x4,x5,rfl,s1,ht',hA',hT',hok',hl',ms,hms,hmem⟩:=h;have hi':(i:Int)<m:=by omega
   have tr':Tre H' t' us:=⟨ht',hA',hT',by omega⟩;refine⟨_,rfl,_,rfl,_,rfl,_,rfl,_,_,rfl,rfl,.inl ⟨by decide,by decide⟩,_,_,rfl,rfl,_,rfl,a,_,t',us,rfl,by omega,hS.same s1,tr',hok',λc dd H3 s3 hc hf=>?_⟩;refine⟨t',c,dd,us,rfl,tr'.same s3,by omega,hc,hf.ok,λws t2 H4 s4 ht2 hA2 told=>?_,λwd H4 s4 told=>?_⟩
   ·refine⟨_,rfl,_,_,_,_,rfl,.tup ht2,(by kernel_rfl:_=some false),_,rfl,aQ ⟨_,rfl,t2,ws,_,_,rfl,(s1.trans s3).trans s4,ht2,hA2,told.tree hT' hf.ok.pos,fS.told hok' hf told,?_,dd.key::ms,by rw[length_cons];omega,λn hn=>?_⟩⟩
    ·have:=told.len;rw[bY,bY]at this;omega
    ·by_cases hk:n.num=dd.key
     ·exact .inr (by rw[hk];exact mem_cons_self)
     ·have T2:=told.tree hT' hf.ok.pos;rcases told.others hT' T2 hk with e|⟨_,_,_,hno⟩
      ·rw[TW.dE T2 hn rfl]at e;obtain⟨h1,h2⟩:=TW.pV e.symm;rcases hmem n h1 with q|q
       ·exact .inl q
       ·exact .inr (mem_cons_of_mem _ q)
      ·exact absurd rfl (hno n hn)
   ·exact⟨_,rfl,_,_,_,_,rfl,.str _,(by kernel_rfl:_=some true),_,rfl,aD ⟨t',us,_,_,rfl,(s1.trans s3).trans s4,s4 _ _ (s3 _ _ ht'),(hA'.same s3).same s4,hT',hok',by omega,ms,by omega,hmem⟩⟩
  ·obtain⟨t',us,x4,x5,rfl,s1,ht',hA',hT',hok',hl',ms,hms,hmem⟩:=h;exact⟨_,rfl,q t' us H' s1 ⟨ht',hA',hT',by omega⟩ hok' (by omega) ⟨ms,by omega,hmem⟩⟩
end
theorem mw{t:List Nd}(T:TW.Tree1 t)(h:∀n∈t,fS n):∀n∈t,cL n∧n.num≤60∧0≤n.par∧n.par≤60∧n.nm.length≤100:=λn hn=>by
 have h1:=h n hn;have hp:0≤n.par∧n.par≤60:=by
  rcases TW.cR T hn with e|⟨m,hm,_,e⟩
  ·omega
  ·have:=h m hm;have a:=this.1;have b:=this.2.1;omega
 have hl:=h1.2.2.1.len;have a:=h1.1;have b:=h1.2.1;exact⟨⟨a,by omega,hp.1,by omega,hl⟩,b,hp.1,hp.2,hl⟩
theorem WdD.nil{H:Hp}{g:Addr}(h:H g=some (.dK [])):WdD H g [] [] []:=⟨h,rfl,nodup_nil,λk=>⟨λh=>(not_mem_nil h).elim,λh=>absurd rfl h⟩,λk hk=>(not_mem_nil hk).elim,le_refl _⟩
section
variable{P:Program}{w:World}{K:PySem.W.Frag}{mg:Str→Option Value}{base:Heap}
def nX(K:PySem.W.Frag):Sp:=λvs H Q _=>∃a,vs=[.ref a]∧dC K H a∧∀H',Same H H'→Q (.bl true) H'
theorem xf:bH bw=[onS 0,onS 1,onS 2,onS 3,onS 4,onS 5,onS 6,onS 7,onS 8,onS 9,onS 10,onS 11]:=rfl
section
variable{f:Addr}{cdv:Value}{A:Around}{outer:List Env}{s:Shared}{H0:Hp}{E:XK}
theorem on0(hr:Room 7 (A.deeper (PyProof.Rows.envOfC "_law_once" (ai bw) s.heap.objs.size f cdv)))(CB:Has P w K mg base 3 "_law_tree" ["_law_script","_law_at","_law_most"] (gU K)):
  ∃rd,PS (OnX P w K mg base f cdv A outer s H0 E) (onS 0) rd∧∀(D:Ends)(H:Hp)(a:Addr)(x1 x2 x3 x4 x5 x6 x7 x8 x9 x10 x11:Option V),dC K H a→(∀t zs H',Same H H'→Tre H' t zs→zs.length≤6→(∀n∈nds zs,fS n)→(∀n∈nds zs,1≤n.num∧n.num≤30)→D.nx [some (.ref a),some (.ref t),x2,x3,x4,x5,x6,x7,x8,x9,x10,x11] H')→rd D [some (.ref a),x1,x2,x3,x4,x5,x6,x7,x8,x9,x10,x11] H:=by
 obtain⟨fB,fdB,GB,mB,kB,bB⟩:=CB;have hr3:Room 3 _:=hr.mono (by decide);refine⟨_,aq (i:=1) fu.nd rfl (Or.inl rfl) (al GB hr3 rfl mB kB bB .nil aK (aa (pv 0) (aa ag (aa ag ah)))),?_⟩;intro D H a x1 x2 x3 x4 x5 x6 x7 x8 x9 x10 x11 hS q;refine⟨_,rfl,a,0,6,rfl,by decide,by decide,by decide,hS,λt z H1 ht hA hl hT hG s1=>?_⟩;have tr1:TW.Tree1 (nds z):=⟨hT,λn hn=>by obtain⟨z,hz,rfl⟩:=bb hn;exact(hG z hz).1⟩;exact q t z H1 s1 ⟨ht,hA,tr1,by omega⟩ (by omega) (λn hn=>by obtain⟨z,hz,rfl⟩:=bb hn;exact(hG z hz).ok) (λn hn=>by obtain⟨z,hz,rfl⟩:=bb hn;have:=hG z hz;exact⟨this.1,by have:=this.2.1;omega⟩)
theorem on1(hr:Room 7 (A.deeper (PyProof.Rows.envOfC "_law_once" (ai bw) s.heap.objs.size f cdv)))(CP:Has P w K mg base 2 "_law_pick" ["_law_script","_law_k","_law_many"] (dX K))(CF:Has P w K mg base 4 "_law_further" ["_law_script","_law_at","_law_tree_here","_law_many"] (pi K)):
  ∃rd,PS (OnX P w K mg base f cdv A outer s H0 E) (onS 1) rd∧∀(D:Ends)(H:Hp)(a t:Addr)(zs:ZN)(x2 x3 x4 x5 x6 x7 x8 x9 x10 x11:Option V),dC K H a→Tre H t zs→zs.length≤6→(∀n∈nds zs,fS n)→(∀u us H',Same H H'→Tre H' u us→us.length≤12→(∀n∈nds us,fS n)→D.nx [some (.ref a),some (.ref t),some (.ref u),x3,x4,x5,x6,x7,x8,x9,x10,x11] H')→rd D [some (.ref a),some (.ref t),x2,x3,x4,x5,x6,x7,x8,x9,x10,x11] H:=by
 obtain⟨fP,fdP,GP,mP,kP,bP⟩:=CP;obtain⟨fF,fdF,GF,mF,kF,bF⟩:=CF;have hr2:Room 2 _:=hr.mono (by decide);have hr4:Room 4 _:=hr.mono (by decide);refine⟨_,aq (i:=2) fu.nd rfl (Or.inl rfl) (al GF hr4 rfl mF kF bF .nil aK (aa (pv 0) (aa ag (aa (pv 1) (aa (al GP hr2 rfl mP kP bP .nil aK (aa (pv 0) (aa ag (aa ag ah)))) ah))))),?_⟩;intro D H a t zs x2 x3 x4 x5 x6 x7 x8 x9 x10 x11 hS T hl ok q;refine⟨_,rfl,_,rfl,_,rfl,a,_,_,rfl,by decide,by decide,hS,λr H2 r0 r1 s2=>?_⟩;refine⟨a,110,t,r,zs,rfl,by decide,r0,by omega,hS.same s2,T.same s2,ok,by omega,λt2 z2 H3 s3 T2 ok2 hl2 _=>?_⟩;exact q t2 z2 H3 (s2.trans s3) T2 (by omega) ok2
theorem on2(hr:Room 7 (A.deeper (PyProof.Rows.envOfC "_law_once" (ai bw) s.heap.objs.size f cdv)))(CB:Has P w K mg base 3 "_law_tree" ["_law_script","_law_at","_law_most"] (gU K))(CP:Has P w K mg base 2 "_law_pick" ["_law_script","_law_k","_law_many"] (dX K)):
  ∃rd,PS (OnX P w K mg base f cdv A outer s H0 E) (onS 2) rd∧∀(D:Ends)(H:Hp)(a u:Addr)(us:ZN)(x1 x3 x4 x5 x6 x7 x8 x9 x10 x11:Option V),dC K H a→Tre H u us→us.length≤12→(∀n∈nds us,fS n)→(∀u us H',Same H H'→Tre H' u us→us.length≤12→(∀n∈nds us,fS n)→D.nx [some (.ref a),x1,some (.ref u),x3,x4,x5,x6,x7,x8,x9,x10,x11] H')→rd D [some (.ref a),x1,some (.ref u),x3,x4,x5,x6,x7,x8,x9,x10,x11] H:=by
 obtain⟨fB,fdB,GB,mB,kB,bB⟩:=CB;obtain⟨fP,fdP,GP,mP,kP,bP⟩:=CP;have hr2:Room 2 _:=hr.mono (by decide);have hr3:Room 3 _:=hr.mono (by decide);refine⟨_,aR (am cy (al GP hr2 rfl mP kP bP .nil aK (aa (pv 0) (aa ag (aa ag ah)))) ag (au _)) (aj (aq (i:=2) fu.nd rfl (Or.inl rfl) (al GB hr3 rfl mB kB bB .nil aK (aa (pv 0) (aa ag (aa ag ah)))))) aA,?_⟩;intro D H a u us x1 x3 x4 x5 x6 x7 x8 x9 x10 x11 hS T hl ok q;refine⟨_,rfl,a,_,_,rfl,by decide,by decide,hS,λr H2 r0 r1 s2=>⟨rfl,_,rfl,na (λ_=>?_) (λ_=>q u us H2 s2 (T.same s2) hl ok)⟩⟩;refine⟨_,rfl,a,310,6,rfl,by decide,by decide,by decide,hS.same s2,λt z H1 ht hA hl hT hG s1=>?_⟩;have tr1:TW.Tree1 (nds z):=⟨hT,λn hn=>by obtain⟨z,hz,rfl⟩:=bb hn;exact(hG z hz).1⟩;exact q t z H1 (s2.trans s1) ⟨ht,hA,tr1,by omega⟩ (by omega) (λn hn=>by obtain⟨z,hz,rfl⟩:=bb hn;exact(hG z hz).ok)
theorem on3(hr:Room 7 (A.deeper (PyProof.Rows.envOfC "_law_once" (ai bw) s.heap.objs.size f cdv)))(CK:Has P w K mg base 2 "_law_same_kinds" ["_law_one","_law_other"] oY):
  ∃rd,PS (OnX P w K mg base f cdv A outer s H0 E) (onS 3) rd∧∀(D:Ends)(H:Hp)(t u:Addr)(zs us:ZN)(x0 x3 x4 x5 x6 x7 x8 x9 x10 x11:Option V),Tre H t zs→zs.length≤6→(∀n∈nds zs,1≤n.num∧n.num≤30)→Tre H u us→us.length≤12→(∀n∈nds us,fS n)→(∀u us H',Same H H'→Tre H' u us→us.length≤12→dF (nds zs) (nds us)→(∀n∈nds us,cL n)→D.nx [x0,some (.ref t),some (.ref u),x3,x4,x5,x6,x7,x8,x9,x10,x11] H')→rd D [x0,some (.ref t),some (.ref u),x3,x4,x5,x6,x7,x8,x9,x10,x11] H:=by
 obtain⟨fK,fdK,GK,mK,kK,bK⟩:=CK;have hr2:Room 2 _:=hr.mono (by decide);refine⟨_,aq (i:=2) fu.nd rfl (Or.inl rfl) (al GK hr2 rfl mK kK bK .nil aK (aa (pv 1) (aa (pv 2) ah))),?_⟩;intro D H t u zs us x0 x3 x4 x5 x6 x7 x8 x9 x10 x11 T hl hz U hu ok q;exact⟨_,rfl,_,rfl,t,u,zs,us,rfl,T,U,by omega,by omega,hz,λn hn=>(mw U.tr ok n hn).2,λv ws H' s' V' sk nok hle=>q v ws H' s' V' (by omega) sk nok⟩
theorem on4(hr:Room 7 (A.deeper (PyProof.Rows.envOfC "_law_once" (ai bw) s.heap.objs.size f cdv)))(CO:Has P w K mg base 1 "_law_book" ["_law_tree_here"] gm):
  ∃rd,PS (OnX P w K mg base f cdv A outer s H0 E) (onS 4) rd∧∀(D:Ends)(H:Hp)(t:Addr)(zs:ZN)(x0 x2 x3 x4 x5 x6 x7 x8 x9 x10 x11:Option V),Tre H t zs→(∀d as H',Same H H'→Book H' d as zs→D.nx [x0,some (.ref t),x2,some (.ref d),x4,x5,x6,x7,x8,x9,x10,x11] H')→rd D [x0,some (.ref t),x2,x3,x4,x5,x6,x7,x8,x9,x10,x11] H:=by
 obtain⟨fO,fdO,GO,mO,kO,bO⟩:=CO;have hr1:Room 1 _:=hr.mono (by decide);refine⟨_,aq (i:=3) fu.nd rfl (Or.inr rfl) (al GO hr1 rfl mO kO bO .nil aK (aa (pv 1) ah)),?_⟩;intro D H t zs x0 x2 x3 x4 x5 x6 x7 x8 x9 x10 x11 T q;exact⟨_,rfl,t,zs,rfl,T,λd as H' s' _ b _=>q d as H' s' b⟩
theorem on5(hr:Room 7 (A.deeper (PyProof.Rows.envOfC "_law_once" (ai bw) s.heap.objs.size f cdv)))(CO:Has P w K mg base 1 "_law_book" ["_law_tree_here"] gm):
  ∃rd,PS (OnX P w K mg base f cdv A outer s H0 E) (onS 5) rd∧∀(D:Ends)(H:Hp)(t:Addr)(zs:ZN)(x0 x1 x3 x4 x5 x6 x7 x8 x9 x10 x11:Option V),Tre H t zs→(∀d as H',Same H H'→H d=none→Book H' d as zs→H' d=some (.dK (aM as))→D.nx [x0,x1,some (.ref t),x3,some (.ref d),x5,x6,x7,x8,x9,x10,x11] H')→rd D [x0,x1,some (.ref t),x3,x4,x5,x6,x7,x8,x9,x10,x11] H:=by
 obtain⟨fO,fdO,GO,mO,kO,bO⟩:=CO;have hr1:Room 1 _:=hr.mono (by decide);refine⟨_,aq (i:=4) fu.nd rfl (Or.inr rfl) (al GO hr1 rfl mO kO bO .nil aK (aa (pv 2) ah)),?_⟩;intro D H t zs x0 x1 x3 x4 x5 x6 x7 x8 x9 x10 x11 T q;exact⟨_,rfl,t,zs,rfl,T,λd as H' s' n b e=>q d as H' s' n b e⟩
theorem on6:∃rd,PS (OnX P w K mg base f cdv A outer s H0 E) (onS 6) rd∧∀(D:Ends)(H1 H:Hp)(t e:Addr)(as bs:List (Addr×(Addr×Nd)))(zs us:ZN)(d:Addr)(x0 x2 x3 x4 x5 x6 x7 x8 x9 x10 x11:Option V),Same H1 H→H1 e=none→Book H1 d as zs→Book H e bs us→H e=some (.dK (aM bs))→TW.Tree1 (nds zs)→TW.Tree1 (nds us)→zs.length≤29→us.length≤29→(∀H',Same H1 H'→SKF H' d e as bs zs us→D.nx [x0,some (.ref t),x2,x3,x4,some (.ref t),x6,x7,x8,x9,x10,x11] H')→rd D [x0,some (.ref t),x2,x3,x4,x5,x6,x7,x8,x9,x10,x11] H:=by
 refine⟨_,jW (aq (i:=5) fu.nd rfl (Or.inr rfl) (pv 1)),?_⟩;intro D H1 H t e as bs zs us d x0 x2 x3 x4 x5 x6 x7 x8 x9 x10 x11 s2 he0 b1 b2 he T U l1 l2 q;refine⟨e,_,he,λo=>⟨_,rfl,?_⟩⟩;have s12:Same H1 (upd H e (.frz o (.dK (aM bs)))):=aP he0 s2;have b2':Book (upd H e (.frz o (.dK (aM bs)))) e bs us:=⟨.inr ⟨o,ac⟩,b2.of,λx hx=>by
   have:=b2.at' x hx;rw[ak λz=>by rw[z,he]at this;cases this];exact this⟩
 exact q _ s12 ⟨b1.same s12,b2',⟨o,ac⟩,T,U,l1,l2⟩
theorem on7:∃rd,PS (OnX P w K mg base f cdv A outer s H0 E) (onS 7) rd∧∀(D:Ends)(H:Hp)(x0 x1 x2 x3 x4 x5 x6 x7 x8 x9 x10 x11:Option V),(∀g H',H g=none→Same H H'→H' g=some (.dK [])→D.nx [x0,x1,x2,x3,x4,x5,some (.ref g),x7,x8,x9,x10,x11] H')→rd D [x0,x1,x2,x3,x4,x5,x6,x7,x8,x9,x10,x11] H:=by
 refine⟨_,aq (i:=6) fu.nd rfl (Or.inr rfl) iS,?_⟩;intro D H x0 x1 x2 x3 x4 x5 x6 x7 x8 x9 x10 x11 q;exact λg hg=>q g _ hg (af hg) ac
end
theorem ug{f CN:Addr}{fd:FuncData}{cls:TW.Wd→Addr}(F:Fun K "_law_once" "_law_once" bw f fd)(T:Txt mg)(CB:Has P w K mg base 3 "_law_tree" ["_law_script","_law_at","_law_most"] (gU K))(CP:Has P w K mg base 2 "_law_pick" ["_law_script","_law_k","_law_many"] (dX K))(CF:Has P w K mg base 4 "_law_further" ["_law_script","_law_at","_law_tree_here","_law_many"] (pi K))(CK:Has P w K mg base 2 "_law_same_kinds" ["_law_one","_law_other"] oY)(CO:Has P w K mg base 1 "_law_book" ["_law_tree_here"] gm)(CD:da P w K mg base 4 "done" ["tree","deed"] (gk cls))(CI:da P w K mg base 7 "in_steps" ["old","new"] (oT CN)):FnOk P w K mg base CX0 8 f fd ["_law_script"] (nX K):=by
 refine F.ok fu (λvs H Q E h=>?_) (λcdv A outer s H vs Q E hr h=>?_)
 ·obtain⟨a,rfl,_⟩:=h;rfl
 ·obtain⟨a,rfl,hS,q⟩:=h;have hr1:Room 1 _:=hr.mono (by decide);obtain⟨t0,p0,h0⟩:=on0 (outer:=outer) (H0:=H) (E:=E) hr CB;obtain⟨t1,p1,h1⟩:=on1 (outer:=outer) (H0:=H) (E:=E) hr CP CF;obtain⟨t2,p2,h2⟩:=on2 (outer:=outer) (H0:=H) (E:=E) hr CB CP;obtain⟨t3,p3,h3⟩:=on3 (outer:=outer) (H0:=H) (E:=E) hr CK;obtain⟨t8,p8,h8⟩:=on8 (outer:=outer) (H0:=H) (E:=E) hr CD CI;obtain⟨t9,p9,h9⟩:=on9 (P:=P) (w:=w) (K:=K) (mg:=mg) (base:=base) (outer:=outer) (H0:=H) (E:=E) hr1;obtain⟨t10,p10,h10⟩:=xL (P:=P) (w:=w) (K:=K) (mg:=mg) (base:=base) (outer:=outer) (H0:=H) (E:=E) hr1;obtain⟨t11,p11,h11⟩:=xK (P:=P) (w:=w) (K:=K) (mg:=mg) (base:=base) (outer:=outer) (H0:=H) (E:=E) hr1;obtain⟨t4,p4,h4⟩:=on4 (outer:=outer) (H0:=H) (E:=E) hr CO;obtain⟨t5,p5,h5⟩:=on5 (outer:=outer) (H0:=H) (E:=E) hr CO;obtain⟨t6,p6,h6⟩:=on6 (P:=P) (w:=w) (K:=K) (mg:=mg) (base:=base) (f:=f) (cdv:=cdv) (A:=A) (outer:=outer) (s:=s) (H0:=H) (E:=E);obtain⟨t7,p7,h7⟩:=on7 (P:=P) (w:=w) (K:=K) (mg:=mg) (base:=base) (f:=f) (cdv:=cdv) (A:=A) (outer:=outer) (s:=s) (H0:=H) (E:=E);rw[xf];generalize onS=st at p0 p1 p2 p3 p4 p5 p6 p7 p8 p9 p10 p11⊢;refine⟨_,ae p0 (ae p1 (ae p2 (ae p3 (ae p4 (ae p5 (ae p6 (ae p7 (ae p8 (ae p9 (ae p10 (aj p11))))))))))),?_⟩;refine h0 _ H a _ _ _ _ _ _ _ _ _ _ _ hS λt zs H1 s1 T1 l1 ok1 nz=>?_;have S1:=hS.same s1;refine h1 _ H1 a t zs _ _ _ _ _ _ _ _ _ _ S1 T1 l1 ok1 λu us H2 s2 U2 l2 ok2=>?_;refine h2 _ H2 a u us _ _ _ _ _ _ _ _ _ _ (S1.same s2) U2 l2 ok2 λu us H3 s3 U3 l3 ok3=>?_;have T3:=(T1.same s2).same s3;refine h3 _ H3 t u zs us _ _ _ _ _ _ _ _ _ _ T3 l1 nz U3 l3 ok3 λu us H4 s4 U4 l4 sk nok=>?_;have T4:=T3.same s4;refine h4 _ H4 t zs _ _ _ _ _ _ _ _ _ _ _ T4 λd as H5 s5 b1=>?_;refine h5 _ H5 u us _ _ _ _ _ _ _ _ _ _ _ (U4.same s5) λe bs H6 s6 he0 b2 he=>?_;refine h6 _ H5 H6 t e as bs zs us d _ _ _ _ _ _ _ _ _ _ _ s6 he0 b1 b2 he T4.tr U4.tr (by omega) (by omega) λH7 s7 L=>?_;have T7:=(T4.same s5).same s7;have U7:=(U4.same s5).same s7;have nz':∀n∈nds zs,cL n:=λn hn=>(mw T4.tr ok1 n hn).1;have s07:Same H H7:=((((s1.trans s2).trans s3).trans s4).trans s5).trans s7;refine h7 _ H7 _ _ _ _ _ _ _ _ _ _ _ _ λg H8 hg s8 hg8=>?_;refine h8 _ H7 H8 _ t u d e g as bs zs us hg s8 L T7 U7 sk nz' nok (by omega) (WdD.nil hg8) λt' ws ks kvs dd tt x7 H9 s9 ht' hA' ew W TR hn=>?_;have U9:=U7.same s9;have hln:(nds zs).length+(nds us).length≤29:=by unfold nds;rw[length_map,length_map];omega
  have I0:=lY T4.tr sk nz' hln;obtain⟨I,_,_⟩:=gT U4.tr nok hln I0 TR;have hlen:(dd++cM tt (nds us)).length≤900:=by
   have b1:=(lX (t0:=nds zs) U4.tr nok hln).bd tt dd I;have b2:(cM tt (nds us)).length≤tt.length:=by unfold cM;rw[length_map];exact length_filter_le _ _
   have:=b1.1;have:=b1.2.1;rw[length_append];omega
  refine h9 _ H9 _ _ _ _ _ _ _ _ _ _ t' u ws us ht' hA' U9.tup U9.nod ew ?_;refine h10 _ H9 _ _ _ _ _ d e g as bs zs us ks kvs _ (L.same s9) W hlen (λn hn'=>xb T4.tr U4.tr I TR hn hn') λx8 x9 x10 x11 Ha sa=>?_;refine h11 _ Ha _ _ _ _ _ _ _ _ _ _ e g bs us ks kvs _ ((L.same s9).same sa).b2 U4.tr (λz=>?_) (W.same sa) hlen (λk hk=>tU T4.tr U4.tr I TR hn hk) λHb eb=>?_
  ·obtain⟨o,ho⟩:=L.fr;rw[z,hg]at ho;cases ho
  ·exact q Hb λb o e=>eb b o (λz=>by rw[z]at e;have:=s07 _ _ e;rw[hg]at this;cases this) (sa _ _ (s9 _ _ (s07 _ _ e)))
def pk(K:PySem.W.Frag):Sp:=λvs H Q _=>∃(a:Addr) (ns:List Int),vs=[.ref a]∧SqL K H a (ns.map V.int)∧ns.length≤63∧∀H',Q (.bl true) H'
theorem uD:FnScope ["_law_script","_law_turn"] ["_law_script"] (ai sY):=fsc
theorem wt{f:Addr}{fd:FuncData}(F:Fun K "law" "law" sY f fd)(T:Txt mg)(CO:Has P w K mg base 8 "_law_once" ["_law_script"] (nX K)):FnOk P w K mg base CX0 9 f fd ["_law_script"] (pk K):=by
 obtain⟨fO,fdO,GO,mO,kO,bO⟩:=CO;refine F.ok uD (λvs H Q E h=>?_) (λcdv A outer s H vs Q E hr h=>?_)
 ·obtain⟨a,ns,rfl,_⟩:=h;rfl
 ·obtain⟨a,ns,rfl,hS,hlen,k⟩:=h;refine⟨_,ae (cH PassesOwn.never rfl (gX rfl T.range (aa ag ah)) (aG (i:=1) uD.nd rfl (Or.inr rfl))
   (ae (aR (kb (iJ (al GO hr rfl mO kO bO .nil aK (aa (fT (N:=["_law_cell_here","_law_turn"]) (cl:=[("_law_turn",s.heap.objs.size+1)]) (k:=1) (js:=[1]) (g:=be 0) rfl
      (LcOk.mk' ["_law_turn"] rfl rfl (by decide +kernel) (by decide +kernel) ?hcl rfl (by decide +kernel)) rfl ?hj
     (cG (pv 0)) (λs H fp=>aG (i:=0) (show(["_law_cell_here","_law_turn"]:List Str).Nodup by decide +kernel) rfl (Or.inl rfl) (Or.inr rfl))
     (λs H fp=>aE bg (pv 0) (aE cX ag (pv 1)))) ah)) (λ_=>rfl))) (aj (ax dG)) aA)
   (aj (aR (am (eK hr.units0) (pv 0) (ba ah) (au _)) (aj qj) aA))))
   (aj (ax dG)),?_⟩
  case hcl =>
   intro y hy;rcases mem_cons.mp hy with e|hy
   ·rw[e];rfl
   ·cases hy
  case hj =>
   intro i j x h1 h2
   match i,h1,h2 with
   |0,h1,h2 =>
    cases h1;cases h2;exact⟨rfl,Or.inr (Or.inl rfl),(show((ai sY).names.lookup ("_law_turn":Str)≠some NameKind.local)by decide +kernel),by first|exact Or.inl rfl|exact Or.inr rfl⟩
   |i+1,h1,h2=>simp at h1
  refine⟨10,rfl,by decide,by decide,gY (n:=10) (λi σ H'=>∃o,σ=[some (.ref a),o]∧Same H H') ⟨_,rfl,Same.refl H⟩ (λi σ H1 hi h=>?_) (λσ H1 h=>?_)⟩
  ·obtain⟨o,rfl,s1⟩:=h;have hS1:=s1.seq hS;refine⟨_,rfl,a,rfl,⟨_,hS1⟩,λp hp=>?_⟩;refine dO (fr:=[some (.int (0+(i:Int)))]) ns V.int (by omega) hp (gH hS1) rfl (λn y _=>y=.int (n+7919*(0+(i:Int)))) (λn y H H' h _=>h) (λn H' k' mn s2 _ hk=>?_) (λys H' s2 hp' hys=>?_)
   ·exact⟨_,rfl,_,rfl,_,_,rfl,rfl,.inl ⟨by decide,by decide⟩,_,_,rfl,rfl,hk _ H' (Same.refl _) rfl⟩
   ·have ey:=bv (f:=λn:Int=>V.int (n+7919*(0+(i:Int)))) hys (λz y _ h=>h);refine⟨p,rfl,⟨ns.map λn=>n+7919*(0+(i:Int)),SqL.of (by rw[hp',ey,map_map];rfl)⟩,λH3 s3=>⟨_,rfl,aD ?_⟩⟩;have s4:=(s1.trans s2).trans s3;refine⟨_,rfl,zero_le _,λq hq=>⟨a,q,_,rfl,rfl,(s4.trans (af hq)).seq hS,SqL.of ac,_,rfl,na (λ_=>?_) (λ_=>?_)⟩⟩
    ·exact k _
    ·exact⟨_,rfl,s4.trans (af hq)⟩
  ·obtain⟨o,rfl,s1⟩:=h;exact k _
end
end TK
namespace TK
open PySem PySem.W PyProof.Rows L2
theorem gn{K:PySem.W.Frag}{h:Heap}{mg:Str→Option Value}{x:Str}{C:Addr}{bB:List Value}{nid:String}(X:K.In h)(hb:mg x=some (.ref C))(q:excIn K C bB nid=true):OwnCls x C bB nid mg h:=by
 have hobj:∃bm N nm q' bs hdct sn sub ab col dd k0 k1 k2 k3 k5 mN,h.get? C=some (excClassObj nm q' C N bs bm hdct sn sub ab col dd k0 k1 k2 k3 k5 nid)∧h.Ns N mN∧mN "__init__"=none∧OwnTail h bB bm:=by
  unfold excIn at q
  split at q
  case h_2=>exact absurd q (by simp)
  case h_1 d0 c0 s0 hK =>
   split at q
   case h_2=>exact absurd q (by simp)
   case h_1 C1 b1 u0 u1 u2 u3 u4 u5 e1 e2 =>
    rw[and_eq_true,and_eq_true,and_eq_true,and_eq_true,and_eq_true]at q;obtain⟨⟨⟨⟨⟨y1,y2⟩,y3⟩,g4⟩,g5⟩,y6⟩:=q;have g1:C1=C:=beq_iff_eq.mp y1;have g2:u4=nid:=beq_iff_eq.mp y2;have g3:c0.hasDel=false:=by simpa using y3
    have g6:nsIn K c0.ns "__init__"=some none:=beq_iff_eq.mp y6;clear y1 y2 y3 y6;cases c0;cases s0;dsimp only at e1 e2 g3 g5 g6;subst g1 g2 g3 e1 e2;exact⟨_,_,_,_,_,_,_,_,_,_,_,_,_,_,_,_,_,X _ _ hK,Heap.Ns.of_isNs (PySem.W.isNs_of_in X g5),PySem.W.nsMap_none_of_in X g5 g6,PySem.W.tail_of_in X g4⟩
 exact⟨hb,hobj⟩
theorem xM{α:Type}{P:List α→Prop}{us:List α}(hl:us.length=0)(h:P []):P us:=by cases us with|nil=>exact h|cons a r=>cases hl
theorem xg{α:Type}{P:List α→Prop}{us:List α}(hl:us.length=1)(h:∀a0,P [a0]):P us:=by cases us with|nil=>cases hl|cons a r=>exact xM (P:=λr=>P (a::r)) (Nat.succ.inj hl) (h a)
theorem xh{α:Type}{P:List α→Prop}{us:List α}(hl:us.length=2)(h:∀a0 a1,P [a0,a1]):P us:=by cases us with|nil=>cases hl|cons a r=>exact xg (P:=λr=>P (a::r)) (Nat.succ.inj hl) (h a)
theorem xi{α:Type}{P:List α→Prop}{us:List α}(hl:us.length=3)(h:∀a0 a1 a2,P [a0,a1,a2]):P us:=by cases us with|nil=>cases hl|cons a r=>exact xh (P:=λr=>P (a::r)) (Nat.succ.inj hl) (h a)
theorem xj{α:Type}{P:List α→Prop}{us:List α}(hl:us.length=4)(h:∀a0 a1 a2 a3,P [a0,a1,a2,a3]):P us:=by cases us with|nil=>cases hl|cons a r=>exact xi (P:=λr=>P (a::r)) (Nat.succ.inj hl) (h a)
theorem xO{α:Type}{P:List α→Prop}{us:List α}(hl:us.length=5)(h:∀a0 a1 a2 a3 a4,P [a0,a1,a2,a3,a4]):P us:=by cases us with|nil=>cases hl|cons a r=>exact xj (P:=λr=>P (a::r)) (Nat.succ.inj hl) (h a)
abbrev gA(K:PySem.W.Frag)(x:Str)(f:Addr):Prop:=nsIn K mainGlobals x=some (some (.ref f))
abbrev gN(K:PySem.W.Frag)(x:Str):Prop:=nsIn K mainGlobals x=some none
theorem fh{P:Program}{w:World}{K:PySem.W.Frag}{mg:Str→Option Value}{base h:Heap}{k:Nat}{x q:Str}{st:Stmt}{f:Addr}{fd:FuncData}{ps:List Str}{sp:Sp}(X:K.In h)(G:h.Ns mainGlobals mg)(F:Fun K x q st f fd)(a:gA K x f)(b:dI K fd ps [])(O:FnOk P w K mg base CX0 k f fd ps sp):Has P w K mg base k x ps sp:=⟨f,fd,O,mg_of X G a,F.kp,b⟩
theorem fhX{P:Program}{w:World}{K:PySem.W.Frag}{mg:Str→Option Value}{base h:Heap}{k:Nat}{x q:Str}{st:Stmt}{f:Addr}{fd:FuncData}{ps:List Str}{sp:Sp}(X:K.In h)(G:h.Ns mainGlobals mg)(F:Fun K x q st f fd)(a:gA K x f)(b:dI K fd ps [])(O:FnOk P w K mg base (CX1 P w) k f fd ps sp):da P w K mg base k x ps sp:=⟨f,fd,O,mg_of X G a,F.kp,b⟩
theorem fb1{K:PySem.W.Frag}{x q a0:Str}{st:Stmt}{f:Addr}{fd:FuncData}(F:Fun K x q st f fd)(h:∀(kV doc pm:Value) (an:Option Addr) (cdv ct v0:Value),bindArgs (fnOf x q (dh st) (bH st) (ai st) .none kV doc pm an cdv ct) ⟨[v0],[]⟩=pure (List.zip [a0] [v0]):=by intros;rfl):dI K fd [a0] []:=F.binds λkV doc pm an cdv ct us hl=>xg (P:=λus=>bindArgs _ ⟨us,[]⟩=pure (List.zip _ us)) hl (h kV doc pm an cdv ct)
theorem fb2{K:PySem.W.Frag}{x q a0 a1:Str}{st:Stmt}{f:Addr}{fd:FuncData}(F:Fun K x q st f fd)(h:∀(kV doc pm:Value) (an:Option Addr) (cdv ct v0 v1:Value),bindArgs (fnOf x q (dh st) (bH st) (ai st) .none kV doc pm an cdv ct) ⟨[v0,v1],[]⟩=pure (List.zip [a0,a1] [v0,v1]):=by intros;rfl):dI K fd [a0,a1] []:=F.binds λkV doc pm an cdv ct us hl=>xh (P:=λus=>bindArgs _ ⟨us,[]⟩=pure (List.zip _ us)) hl (h kV doc pm an cdv ct)
theorem fb3{K:PySem.W.Frag}{x q a0 a1 a2:Str}{st:Stmt}{f:Addr}{fd:FuncData}(F:Fun K x q st f fd)(h:∀(kV doc pm:Value) (an:Option Addr) (cdv ct v0 v1 v2:Value),bindArgs (fnOf x q (dh st) (bH st) (ai st) .none kV doc pm an cdv ct) ⟨[v0,v1,v2],[]⟩=pure (List.zip [a0,a1,a2] [v0,v1,v2]):=by intros;rfl):dI K fd [a0,a1,a2] []:=F.binds λkV doc pm an cdv ct us hl=>xi (P:=λus=>bindArgs _ ⟨us,[]⟩=pure (List.zip _ us)) hl (h kV doc pm an cdv ct)
theorem fb4{K:PySem.W.Frag}{x q a0 a1 a2 a3:Str}{st:Stmt}{f:Addr}{fd:FuncData}(F:Fun K x q st f fd)(h:∀(kV doc pm:Value) (an:Option Addr) (cdv ct v0 v1 v2 v3:Value),bindArgs (fnOf x q (dh st) (bH st) (ai st) .none kV doc pm an cdv ct) ⟨[v0,v1,v2,v3],[]⟩=pure (List.zip [a0,a1,a2,a3] [v0,v1,v2,v3]):=by intros;rfl):dI K fd [a0,a1,a2,a3] []:=F.binds λkV doc pm an cdv ct us hl=>xj (P:=λus=>bindArgs _ ⟨us,[]⟩=pure (List.zip _ us)) hl (h kV doc pm an cdv ct)
theorem fb5{K:PySem.W.Frag}{x q a0 a1 a2 a3 a4:Str}{st:Stmt}{f:Addr}{fd:FuncData}(F:Fun K x q st f fd)(h:∀(kV doc pm:Value) (an:Option Addr) (cdv ct v0 v1 v2 v3 v4:Value),bindArgs (fnOf x q (dh st) (bH st) (ai st) .none kV doc pm an cdv ct) ⟨[v0,v1,v2,v3,v4],[]⟩=pure (List.zip [a0,a1,a2,a3,a4] [v0,v1,v2,v3,v4]):=by intros;rfl):dI K fd [a0,a1,a2,a3,a4] []:=F.binds λkV doc pm an cdv ct us hl=>xO (P:=λus=>bindArgs _ ⟨us,[]⟩=pure (List.zip _ us)) hl (h kV doc pm an cdv ct)
theorem wu{l:PySem.W.OpenLaw}{w:World}{K:PySem.W.Frag}{h:Heap}{mg:Str→Option Value}{fa f1 f2 f3 f4 f5 f6 f7 f8 f9 f10 f11 f12 f13 f14 f15 f16 f17 f18 f19 f20 f21 f22 f23 f24 f25 f26 f27 f28 f29 f30 f31 f32 f33:Addr}(X:K.In h)(G:h.Ns mainGlobals mg)(hfa:mg "law"=some (.ref fa)){d1 d2 d3 d4 d5 d6 d7 d8 d9 d10 d11 d12 d13 d14 d15 d16 d17 d18 d19 d20 d21 d22 d23 d24 d25 d26 d27 d28 d29 d30 d31 d32 d33:FuncData}{t1:Tok}(a1:gA K "numbers_inside" f1)(F1:Fun K "numbers_inside" "numbers_inside" vx f1 d1)(a2:gA K "by_number" f2)(F2:Fun K "by_number" "by_number" vz f2 d2)(a3:gA K "node_of" f3)(F3:Fun K "node_of" "node_of" vA f3 d3)(a4:gA K "check_folder" f4)(F4:Fun K "check_folder" "check_folder" vB f4 d4)(a5:gA K "below" f5)(F5:Fun K "below" "below" vC f5 d5)(a6:gA K "check_place" f6)(F6:Fun K "check_place" "check_place" vD f6 d6)(a7:gA K "with_node" f7)(F7:Fun K "with_node" "with_node" oJ f7 d7)(a8:gA K "make" f8)(F8:Fun K "make" "make" qU f8 d8)(a9:gA K "write" f9)(F9:Fun K "write" "write" nA f9 d9)(a10:gA K "move" f10)(F10:Fun K "move" "move" qV f10 d10)(a11:gA K "drop" f11)(F11:Fun K "drop" "drop" oK f11 d11)(a12:gA K "done" f12)(F12:Fun K "done" "done" qW f12 d12)(a13:gA K "nodes_needed" f13)(F13:Fun K "nodes_needed" "nodes_needed" cK f13 d13)(a14:gA K "check_kinds" f14)(F14:Fun K "check_kinds" "check_kinds" dU f14 d14)(a15:gA K "next_drop" f15)(F15:Fun K "next_drop" "next_drop" fk f15 d15)(a16:gA K "is_refused" f16)(F16:Fun K "is_refused" "is_refused" eN f16 d16)(a17:gA K "placings" f17)(F17:Fun K "placings" "placings" gg f17 d17)(a18:gA K "name_at" f18)(F18:Fun K "name_at" "name_at" ig f18 d18)(a19:gA K "writes" f19)(F19:Fun K "writes" "writes" gM f19 d19)(a20:gA K "free_name" f20)(F20:Fun K "free_name" "free_name" fm f20 d20)(a21:gA K "next_deed" f21)(F21:Fun K "next_deed" "next_deed" fo f21 d21)(a22:gA K "in_steps" f22)(F22:Fun K "in_steps" "in_steps" gh f22 d22)(a23:gA K "_law_cell" f23)(F23:Fun K "_law_cell" "_law_cell" qX f23 d23)(a24:gA K "_law_pick" f24)(F24:Fun K "_law_pick" "_law_pick" qY f24 d24)(a25:gA K "_law_tree" f25)(F25:Fun K "_law_tree" "_law_tree" ik f25 d25)(a26:gA K "_law_book" f26)(F26:Fun K "_law_book" "_law_book" qZ f26 d26)(a27:gA K "_law_under" f27)(F27:Fun K "_law_under" "_law_under" nB f27 d27)(a28:gA K "_law_done" f28)(F28:Fun K "_law_done" "_law_done" cu f28 d28)(a29:gA K "_law_deed" f29)(F29:Fun K "_law_deed" "_law_deed" ir f29 d29)(a30:gA K "_law_further" f30)(F30:Fun K "_law_further" "_law_further" vE f30 d30)(a31:gA K "_law_same_kinds" f31)(F31:Fun K "_law_same_kinds" "_law_same_kinds" aB f31 d31)(a32:gA K "_law_once" f32)(F32:Fun K "_law_once" "_law_once" bw f32 d32)(a33:gA K "law" f33)(F33:Fun K "law" "law" sY f33 d33)(z1:gN K "isinstance")(z2:gN K "dict")(z3:gN K "len")(z4:gN K "tuple")(z5:gN K "list")(z6:gN K "range")(z7:gN K "sorted")(z8:gN K "reversed")(z9:gN K "ValueError")(z10:gN K "str")(z11:gN K "set")(z12:gN K "max")(z13:gN K "min")(z14:gN K "sum")(z15:gN K "zip")(z16:gN K "enumerate")(z17:gN K "all")(z18:gN K "int")(z19:gN K "bool")(v1t:nsIn K mainGlobals "TOP"=some (some (.int 0 t1))){t2:Tok}(v2t:nsIn K mainGlobals "LETTERS"=some (some (.str "abcdefghijklmnopqrstuvwxyz" t2))){DT CN B0 B1 B2 B3 B4 B5:Addr}(xD:nsIn K mainGlobals "TreeError"=some (some (.ref DT)))(gD:ktsIn K DT "BaseException"=true)(x0:nsIn K mainGlobals "Inside"=some (some (.ref B0)))(q0:excIn K B0 bmV "ValueError.__new__"=true)(s0:subIn K (.ref B0) (.ref DT)=some true)(x1:nsIn K mainGlobals "Known"=some (some (.ref B1)))(q1:excIn K B1 bmV "ValueError.__new__"=true)(s1:subIn K (.ref B1) (.ref DT)=some true)(x2:nsIn K mainGlobals "NoNode"=some (some (.ref B2)))(q2:excIn K B2 bmV "ValueError.__new__"=true)(s2:subIn K (.ref B2) (.ref DT)=some true)(x3:nsIn K mainGlobals "NotFile"=some (some (.ref B3)))(q3:excIn K B3 bmV "ValueError.__new__"=true)(s3:subIn K (.ref B3) (.ref DT)=some true)(x4:nsIn K mainGlobals "NotFolder"=some (some (.ref B4)))(q4:excIn K B4 bmV "ValueError.__new__"=true)(s4:subIn K (.ref B4) (.ref DT)=some true)(x5:nsIn K mainGlobals "Taken"=some (some (.ref B5)))(q5:excIn K B5 bmV "ValueError.__new__"=true)(s5:subIn K (.ref B5) (.ref DT)=some true)(xN:nsIn K mainGlobals "NoMatch"=some (some (.ref CN)))(qN:excIn K CN bmV "ValueError.__new__"=true):
  ∃fd:FuncData,(∀(s:Shared)(v:Value),BindsTo s fd ⟨[v],[]⟩ [("_law_script",v)])∧∀base:Heap,K.In base→base.Ns mainGlobals mg→FnOk l.prog w K mg base CX0 9 fa fd ["_law_script"] (pk K):=by
 have e:=hfa.symm.trans (mg_of X G a33);cases e;have T:Txt mg:=⟨mg_none_of X G z1,mg_none_of X G z2,mg_none_of X G z3,mg_none_of X G z4,mg_none_of X G z5,mg_none_of X G z6,mg_none_of X G z7,mg_none_of X G z8,mg_none_of X G z9,mg_none_of X G z10,mg_none_of X G z11,mg_none_of X G z12,mg_none_of X G z13,mg_none_of X G z14,mg_none_of X G z15,mg_none_of X G z16,mg_none_of X G z17,mg_none_of X G z18,mg_none_of X G z19,⟨_,mg_of X G v1t⟩,⟨_,mg_of X G v2t⟩⟩
 let cls:TW.Wd→Addr:=λwd=>match wd with | .inside=>B0 | .known=>B1 | .noNode=>B2 | .notFile=>B3 | .notFolder=>B4 | .taken=>B5
 have LT:TreR mg K cls DT:=⟨mg_of X G xD,gD,λwd=>match wd with | .inside=>s0 | .known=>s1 | .noNode=>s2 | .notFile=>s3 | .notFolder=>s4 | .taken=>s5⟩
 have hb:∀(s:Shared)(v:Value),BindsTo s d33 ⟨[v],[]⟩ [("_law_script",v)]:=by
  obtain⟨_,_,_,_,_,_,_,_,_,e,_,_⟩:=F33.ex;subst e;exact λs v=>.of_eq rfl
 refine⟨d33,hb,λbase KB _=>?_⟩
 let H:=Has l.prog w K mg base
 let HX:=da l.prog w K mg base
 have W6:sX mg base cls:=λwd=>match wd with | .inside=>gn KB (mg_of X G x0) q0 | .known=>gn KB (mg_of X G x1) q1 | .noNode=>gn KB (mg_of X G x2) q2 | .notFile=>gn KB (mg_of X G x3) q3 | .notFolder=>gn KB (mg_of X G x4) q4 | .taken=>gn KB (mg_of X G x5) q5
 have OW:lL "NoMatch" mg base CN:=gn KB (mg_of X G xN) qN;have C_numbers_inside:H 1 "numbers_inside" ["nodes","folder"] oM:=fh X G F1 a1 (fb2 F1) (vF F1 T);have C_by_number:H 1 "by_number" ["tree"] eR:=fh X G F2 a2 (fb1 F2) (vG F2 T);have C_node_of:HX 1 "node_of" ["nodes","number"] (jg (cls .noNode)):=fhX X G F3 a3 (fb2 F3) (vH F3 (W6 .noNode));have C_check_folder:HX 2 "check_folder" ["nodes","number"] (oO (cls .noNode) (cls .notFolder)):=fhX X G F4 a4 (fb2 F4) (vJ F4 T (W6 .notFolder) C_node_of);have C_below:HX 2 "below" ["tree","number"] (oN (cls .noNode)):=fhX X G F5 a5 (fb2 F5) (vI F5 T C_by_number C_node_of C_numbers_inside);have C_check_place:HX 1 "check_place" ["tree","number","parent","name"] (lO (cls .taken)):=fhX X G F6 a6 (fb4 F6) (vK F6 (W6 .taken));have C_with_node:H 1 "with_node" ["tree","changed"] jh:=fh X G F7 a7 (fb2 F7) (tf F7 T);have C_make:HX 3 "make" ["tree","number","parent","name","stamp"] (nC cls):=fhX X G F8 a8 (fb5 F8) (tm F8 T W6 C_by_number C_check_folder C_check_place);have C_write:HX 2 "write" ["tree","number","stamp"] (ky cls):=fhX X G F9 a9 (fb3 F9) (re F9 W6 C_by_number C_node_of C_with_node);have C_move:HX 3 "move" ["tree","number","parent","name"] (nD cls):=fhX X G F10 a10 (fb4 F10) (tq F10 W6 C_by_number C_node_of C_check_folder C_below C_check_place C_with_node);have C_drop:HX 3 "drop" ["tree","number"] (nF cls):=fhX X G F11 a11 (fb2 F11) (tu F11 T C_by_number C_node_of C_below);have C_done:HX 4 "done" ["tree","deed"] (gk cls):=fhX X G F12 a12 (fb2 F12) (tw F12 C_make C_write C_move C_drop);have C_nodes_needed:H 2 "nodes_needed" ["now","goal"] rk:=fh X G F13 a13 (fb2 F13) (vO F13 T C_by_number);have C_check_kinds:HX 2 "check_kinds" ["old","new"] (rl CN):=fhX X G F14 a14 (fb2 F14) (vP F14 OW C_by_number);have C_next_drop:H 3 "next_drop" ["now","goal"] rn:=fh X G F15 a15 (fb2 F15) (vQ F15 T C_nodes_needed);have C_is_refused:H 5 "is_refused" ["tree","deed"] rp:=fh X G F16 a16 (fb2 F16) (vR F16 LT C_done);have C_placings:H 2 "placings" ["now","new"] rq:=fh X G F17 a17 (fb2 F17) (vS F17 C_by_number);have C_name_at:H 1 "name_at" ["count"] rs:=fh X G F18 a18 (fb1 F18) (vT F18 T);have C_writes:H 2 "writes" ["now","new"] rB:=fh X G F19 a19 (fb2 F19) (vU F19 C_by_number);have C_free_name:H 2 "free_name" ["now","new"] rC:=fh X G F20 a20 (fb2 F20) (vV F20 T C_name_at);have C_next_deed:H 6 "next_deed" ["now","new","deeds"] rE:=fh X G F21 a21 (fb3 F21) ((vW F21 T C_by_number C_next_drop C_placings C_is_refused C_free_name).imp tN);have C_in_steps:HX 7 "in_steps" ["old","new"] (oT CN):=fhX X G F22 a22 (fb2 F22) (tO F22 C_check_kinds C_next_deed C_done C_writes);have C__law_cell:H 1 "_law_cell" ["_law_script","_law_k"] (nV K):=fh X G F23 a23 (fb2 F23) (ud F23 T);have C__law_pick:H 2 "_law_pick" ["_law_script","_law_k","_law_many"] (dX K):=fh X G F24 a24 (fb3 F24) (ue F24 T C__law_cell);have C__law_tree:H 3 "_law_tree" ["_law_script","_law_at","_law_most"] (gU K):=fh X G F25 a25 (fb3 F25) (sf F25 T C__law_pick);have C__law_book:H 1 "_law_book" ["_law_tree_here"] gm:=fh X G F26 a26 (fb1 F26) (tX F26 T);have C__law_under:H 1 "_law_under" ["_law_book_here","_law_number","_law_goal"] jn:=fh X G F27 a27 (fb3 F27) (wa F27);have C__law_done:H 2 "_law_done" ["_law_tree_here","_law_deed_here"] kS:=fh X G F28 a28 (fb2 F28) (rY F28 T C__law_book C__law_under);have C__law_deed:H 3 "_law_deed" ["_law_script","_law_at","_law_tree_here"] (nW K):=fh X G F29 a29 (fb3 F29) (uf F29 T C__law_pick);have C__law_further:H 4 "_law_further" ["_law_script","_law_at","_law_tree_here","_law_many"] (pi K):=fh X G F30 a30 (fb4 F30) (wq F30 T C__law_deed C__law_done);have C__law_same_kinds:H 2 "_law_same_kinds" ["_law_one","_law_other"] oY:=fh X G F31 a31 (fb2 F31) (wc F31 T C__law_book);have C__law_once:H 8 "_law_once" ["_law_script"] (nX K):=fh X G F32 a32 (fb1 F32) (ug F32 T C__law_tree C__law_pick C__law_further C__law_same_kinds C__law_book C_done C_in_steps);exact wt F33 T C__law_once
theorem walk{l:PySem.W.OpenLaw}{q:Program}{loose:List Str}{XP:(Str→Option Value)→Heap→Prop}{YP:World→Heap→Prop}{d:DefRec}{K:Params→PySem.W.Frag}(hn:l.most=some 63)(hdf:d.params.defaults=[])(hY:∀(w:World) (h:Heap),YP w h→(K w.params).In h)(F:∀(w:World) (mg:Str→Option Value) (fa:Addr) (h:Heap),(K w.params).In h→h.Ns mainGlobals mg→mg d.name=some (.ref fa) →
   ∃fd:FuncData,(∀(s:Shared) (u:Value),BindsTo s fd ⟨[u],[]⟩ [("_law_script",u)])∧∀base:Heap,(K w.params).In base→base.Ns mainGlobals mg→FnOk l.prog w (K w.params) mg base CX0 9 fa fd ["_law_script"] (pk (K w.params))):
  PySem.W.WalkO q loose XP YP l.row.toRowW d [] (λf vs=>PySem.call f vs) :=
 L2.sD (n:=63) (k:=9) (x:="_law_script") (CX:=λ_=>CX0) (sp:=λw=>pk (K w.params)) hn (by decide) hdf ⟨rfl,by decide,by decide,rfl⟩ hY F (λ_ _ a ns hl _ hS=>⟨a,ns,rfl,hS,hl,λ_=>rfl⟩) λ_ _ _ _ _ z=>z
end TK
end
open PySem PySem.W PyProof.Rows
def PySem.W.Fast.tw11080364977032668232:Unit:=()
def PySem.W.Fast.tw13322721819600056970:Unit:=()
def PySem.W.Fast.tw10746916969661077094:Unit:=()
def PySem.W.Fast.tw9625172633598462081:Unit:=()
def PySem.W.Fast.tw15586199935146966234:Unit:=()
def PySem.W.Fast.tw8445511641798092071:Unit:=()
def PySem.W.Fast.tw14885839826755041611:Unit:=()
def PySem.W.Fast.tw17233029976391742379:Unit:=()
def PySem.W.Fast.tw15490811237270974604:Unit:=()
def PySem.W.Fast.tw7635329133675007093:Unit:=()
def PySem.W.Fast.tw17714410674937050741:Unit:=()
def PySem.W.Fast.tw5514325517430467156:Unit:=()
def PySem.W.Fast.tw5717034674027443121:Unit:=()
def PySem.W.Fast.tw7748033185906270217:Unit:=()
def PySem.W.Fast.tw12578366463773886337:Unit:=()
def PySem.W.Fast.tw1021996462126892794:Unit:=()
def PySem.W.Fast.tw16186163594835448215:Unit:=()
def PySem.W.Fast.tw14266448806492194543:Unit:=()
def PySem.W.Fast.tw14317390889881968272:Unit:=()
def PySem.W.Fast.tw7870935775155382922:Unit:=()
def PySem.W.Fast.tw9843758541742986863:Unit:=()
def PySem.W.Fast.tw775255500803219606:Unit:=()
def PySem.W.Fast.tw18209397912575500730:Unit:=()
def PySem.W.Fast.tw3361040376731334985:Unit:=()
def PySem.W.Fast.tw3533830504987436996:Unit:=()
def PySem.W.Fast.tw455994710415048886:Unit:=()
def PySem.W.Fast.tw15255910509220227555:Unit:=()
def PySem.W.Fast.tw5268231484657381760:Unit:=()
def PySem.W.Fast.tw1881118211071768518:Unit:=()
def PySem.W.Fast.tw1267188114044111190:Unit:=()
def PySem.W.Fast.tw6002794651103477509:Unit:=()
def PySem.W.Fast.tw11310450646387265560:Unit:=()
def PySem.W.Fast.tw8165034142721662314:Unit:=()
def PySem.W.Fast.tw2295090717796292299:Unit:=()
def PySem.W.Fast.tw5787363506389040117:Unit:=()
def PySem.W.Fast.tw1321636530425899450:Unit:=()
def PySem.W.Fast.tw9772605321717945328:Unit:=()
def PySem.W.Fast.tw16973279693335595381:Unit:=()
def PySem.W.Fast.tw10583269010108460335:Unit:=()
def PySem.W.Fast.tw14934376749927619889:Unit:=()
def PySem.W.Fast.tw14893762594466615145:Unit:=()
def PySem.W.Fast.tw11363123839021925442:Unit:=()
def PySem.W.Fast.tw1991482344004757987:Unit:=()
def PySem.W.Fast.tw12334409210695058552:Unit:=()
def PySem.W.Fast.tw11607823510854080085:Unit:=()
def PySem.W.Fast.tw9953743346201093152:Unit:=()
def PySem.W.Fast.tw12525318891103798414:Unit:=()
def PySem.W.Fast.tw7894650101898918508:Unit:=()
def PySem.W.Fast.tw8401528793353408632:Unit:=()
def PySem.W.Fast.tw10650535226252535390:Unit:=()
def PySem.W.Fast.tw17442690076862430922:Unit:=()
def PySem.W.Fast.tw17246237653148155154:Unit:=()
def PySem.W.Fast.tw9542055077251483142:Unit:=()
def PySem.W.Fast.tw13606870071783897169:Unit:=()
def PySem.W.Fast.tw4102049606255141611:Unit:=()
def PySem.W.Fast.tw15692408206094036879:Unit:=()
def PySem.W.Fast.tw333891604621765769:Unit:=()
def PySem.W.Fast.tw13790082129258861432:Unit:=()
def PySem.W.Fast.tw13133146929899093002:Unit:=()
def PySem.W.Fast.tw5586595572469171617:Unit:=()
def PySem.W.Fast.tw5776807468243954127:Unit:=()
def PySem.W.Fast.tw8399421795694806632:Unit:=()
def PySem.W.Fast.tw5686959635291703337:Unit:=()
def PySem.W.Fast.tw5542069053292587883:Unit:=()
def PySem.W.Fast.tw12650544184271317911:Unit:=()
def PySem.W.Fast.tw12927972289325439881:Unit:=()
def PySem.W.Fast.tw4844710313339634775:Unit:=()
def PySem.W.Fast.tw9829579744051854489:Unit:=()
def PySem.W.Fast.tw5243940692011400324:Unit:=()
def PySem.W.Fast.tw6568897055270220009:Unit:=()
def PySem.W.Fast.tw11961966678933528115:Unit:=()
def PySem.W.Fast.tw13253657842325245790:Unit:=()
def PySem.W.Fast.tw12164049380687341449:Unit:=()
def PySem.W.Fast.tw16564348869564904131:Unit:=()
def PySem.W.Fast.tw9247729298336796881:Unit:=()
def PySem.W.Fast.tw2242668608219104244:Unit:=()
def PySem.W.Fast.tw7776765046207013177:Unit:=()
def PySem.W.Fast.tw15462669270042686775:Unit:=()
set_option maxRecDepth 100000 in
set_option maxHeartbeats 0 in
theorem PySem.Challenge.cw_treewatch_k31_whole_steps_holds : PySem.Challenge.rw_treewatch_k31_whole_steps.Holds := by
 w_on; o_law; k_head; (case hw=>w_witness2)
 k_fill
 refine TK.walk (l:=PySem.Challenge.rw_treewatch_k31_whole_steps) rfl rfl (λw h Y=>PySem.W.kIn_of Y) ?F
 case F =>
  intro w mg fa h KX G hmg
  refine' TK.wu KX G hmg ?a1 ?F1 ?a2 ?F2 ?a3 ?F3 ?a4 ?F4 ?a5 ?F5 ?a6 ?F6 ?a7 ?F7 ?a8 ?F8 ?a9 ?F9 ?a10 ?F10 ?a11 ?F11 ?a12 ?F12 ?a13 ?F13 ?a14 ?F14 ?a15 ?F15 ?a16 ?F16 ?a17 ?F17 ?a18 ?F18 ?a19 ?F19 ?a20 ?F20 ?a21 ?F21 ?a22 ?F22 ?a23 ?F23 ?a24 ?F24 ?a25 ?F25 ?a26 ?F26 ?a27 ?F27 ?a28 ?F28 ?a29 ?F29 ?a30 ?F30 ?a31 ?F31 ?a32 ?F32 ?a33 ?F33 ?z1 ?z2 ?z3 ?z4 ?z5 ?z6 ?z7 ?z8 ?z9 ?z10 ?z11 ?z12 ?z13 ?z14 ?z15 ?z16 ?z17 ?z18 ?z19 ?v1t ?v2t ?xD ?gD ?x0 ?q0 ?s0 ?x1 ?q1 ?s1 ?x2 ?q2 ?s2 ?x3 ?q3 ?s3 ?x4 ?q4 ?s4 ?x5 ?q5 ?s5 ?xN ?qN
  (case a1|a2|a3|a4|a5|a6|a7|a8|a9|a10|a11|a12|a13|a14|a15|a16|a17|a18|a19|a20|a21|a22|a23|a24|a25|a26|a27|a28|a29|a30|a31|a32|a33=>unfold TK.gA; k_is)
  (case F1|F2|F3|F4|F5|F6|F7|F8|F9|F10|F11|F12|F13|F14|F15|F16|F17|F18|F19|F20|F21|F22|F23|F24|F25|F26|F27|F28|F29|F30|F31|F32|F33=>apply L2.vh <;> k_is)
  (case z1|z2|z3|z4|z5|z6|z7|z8|z9|z10|z11|z12|z13|z14|z15|z16|z17|z18|z19=>unfold TK.gN; k_is)
  (case v1t|v2t|xD=>k_is)
  (case gD=>kts_isx)
  (case x0=>k_is)
  (case q0=>k_exc)
  (case s0|x1=>k_is)
  (case q1=>k_exc)
  (case s1|x2=>k_is)
  (case q2=>k_exc)
  (case s2|x3=>k_is)
  (case q3=>k_exc)
  (case s3|x4=>k_is)
  (case q4=>k_exc)
  (case s4|x5=>k_is)
  (case q5=>k_exc)
  (case s5|xN=>k_is)
  (case qN=>k_exc)
