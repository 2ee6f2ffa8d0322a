import PyProof.Rows.All
import Wide.All
import OpenK.AllK
import Wide.FinOn
import Lean
import PyProof.EqAt
import PyProof.EqKinds
import PyProof.TupleCall
import PyProof.CompFree
import PySem.SetTable
import PyProof.SetScanFacts
import PyProof.TupleKey
import PyProof.SetKind
import PyProof.IsRules
import PyProof.SetRoads
import PyProof.InstSpecial
import PyProof.Rows.SetFrom
import KE.KSortTup
import PyProof.StrWalks
import PyProof.EnumMake
import PyProof.ConsumeWalk
import PyProof.ListRange
import PyProof.NeKinds
import PyProof.ZipIter
import KE.KTryDeep
import OpenK.KOwn
import PyProof.RulesAs
import PyProof.NsDelKeeps
import PyProof.ExcArgsOwn
import PyProof.ExcAttrAll.ValueError
import KE.KIsAll
import OpenK.KNot
import PyProof.IsiH_list
import PyProof.Rows.FStr
import KE.KDictOf
import PyProof.AttrMissHeap
import PyProof.DictIter
import PyProof.DictWalks
import PyProof.Rows.DictUnroll
import KE.KRevIter
import KE.KDictList
import PyProof.CollectIter
import PyProof.TupleOfGen
import KE.KSortKey
import PyProof.FactsAll.NoneType_1
import PyProof.CompUse
import PyProof.Rows.FStrParts
import PyProof.StrLaws
import PySem.Challenge.RW_treewatch_k32_whole_few
set_option Elab.async false
set_option linter.all false
set_option maxRecDepth 100000
set_option maxHeartbeats 8000000
open PySem.W (instObj methodObj hideAll hideAll_get of_hideAll lookIn plainGet findIn mroIn kitOne kia_one kitx_list kitx_dict keepIn fnOf codeIn kat_cons KatTups kat_lt_int Looks subIn ktsIn excIn nsIn mg_of mg_none_of)
open PyProof.Rows (boot_dict boot_sorted boot_str)
open PySem.F (slot_tuple_add entry_tuple_add args_tuple_add_2 slot_dict_pop slot_dict_keyiterator_next plainAttrs_list slot_list_pop type_list_pop)
open List (mem_filter mem_range mem_cons_self mem_cons_of_mem mem_cons mem_append mem_append_left getElem_inj mem_append_right size_toArray append_nil nodup_cons of_mem_zip length length_take getElem?_map mem_of_getElem? length_append length_map length_replicate map_nil map_cons any_cons length_singleton find?_cons length_cons length_nil filter_cons length_filter_le toArray find?_eq_none find?_some mem_map any_map any_eq_true length_range length_eq_zero_iff getD_eq_getElem?_getD getElem?_eq_getElem getElem_mem ext_getElem? getElem?_eq_none map_map map_congr_left not_mem_nil take_succ nodup_nil map_append take_length filter_append filter_cons_of_pos filter_cons_of_neg all_eq_true filter_eq_nil_iff filter_congr Nodup pairwise_map pairwise_cons append_assoc filter_sublist filter_map Sublist nodup_append cons_ne_nil mem_singleton foldl_cons any_nil map_eq_nil_iff sum_cons lookup_cons filter)
open Nat (lt_of_lt_of_le lt_irrefl ne_of_lt le_trans le_of_lt ne_of_gt le_refl zero_le le_succ lt_trans le_of_eq lt_of_le_of_lt lt_succ_of_lt)
open Array (length_toList toList getElem?_toList getD_eq_getD_getElem?)
open Option (isSome_some map_some isSome_map)
open Bool (and_eq_true false_eq_true not_eq_true')
open PySem.Heap (lt_size SameBut get?_push_of_some get?_push_size size_push FlyingW)
open PySem.Calls (spliced_cons evalArgs_plain)
open PySem.SeqAt (EqAt in_listAt RcNeAt)
open PySem.Value (float type)
open PySem (SetTable boot_len)
open PySem.Str (empty ofString ext')
open Ne (symm)
noncomputable section
namespace L2
open PySem PySem.Spec PyProof.Rows
abbrev Key:=Sum Int Str
def jr:Key→Value→Bool
 |.inl k,v=>Value.isInt k v
 |.inr x,v=>Value.isStrOf x v
def xb(w:World):Key→Int
 |.inl k=>hashInt k
 |.inr x=>hashStr w x
theorem bp:∀{k:Key}{v:Value},jr k v=true→(∃i t,k=Sum.inl i∧v=Value.int i t)∨(∃x t,k=Sum.inr x∧v=Value.str x t)
 |.inl i,v,h=>by
  obtain⟨t,e⟩:=Value.isInt_shape (k:=i) (v:=v) h;exact .inl ⟨i,t,rfl,e⟩
 |.inr x,v,h=>by
  obtain⟨t,e⟩:=Value.isStrOf_shape (x:=x) (v:=v) h;exact .inr ⟨x,t,rfl,e⟩
theorem oQ(i:Int)(t:Tok):jr (.inl i) (.int i t)=true:=by simp[jr,Value.isInt]
theorem oR(x:Str)(t:Tok):jr (.inr x) (.str x t)=true:=by simp[jr,Value.isStrOf]
theorem uy(a b:Int):decide ((Sum.inl a:Key)=Sum.inl b)=(a==b):=by
 by_cases e:a=b
 ·subst e;simp
 ·have h:¬(Sum.inl a:Key)=Sum.inl b:=λq=>e (Sum.inl.inj q);rw[decide_eq_false h];exact(beq_eq_false_iff_ne.mpr e).symm
theorem uz(a b:Str):decide ((Sum.inr a:Key)=Sum.inr b)=decide (a=b):=by
 by_cases e:a=b
 ·subst e;simp
 ·have h:¬(Sum.inr a:Key)=Sum.inr b:=λq=>e (Sum.inr.inj q);rw[decide_eq_false h,decide_eq_false e]
theorem uA(a:Int)(b:Str):decide ((Sum.inl a:Key)=Sum.inr b)=false:=decide_eq_false (λq=>nomatch q)
theorem uB(a:Str)(b:Int):decide ((Sum.inr a:Key)=Sum.inl b)=false:=decide_eq_false (λq=>nomatch q)
def bb(prog:Program)(w:World):PySem.KeyKind prog w Key where
 is:=jr
 hash:=xb w
 inj:=λv a b ha hb=>by
  rcases bp ha with⟨i,t,rfl,rfl⟩|⟨x,t,rfl,rfl⟩
  ·rcases bp hb with⟨j,u,rfl,e⟩|⟨y,u,rfl,e⟩
   ·injection e with e1 _;rw[e1]
   ·exact nomatch e
  ·rcases bp hb with⟨j,u,rfl,e⟩|⟨y,u,rfl,e⟩
   ·exact nomatch e
   ·injection e with e1 _;rw[e1]
 byValue:=λk v h=>by
  rcases bp h with⟨i,t,rfl,rfl⟩|⟨x,t,rfl,rfl⟩<;>rfl
 pyHash:=λhv h=>by
  rcases bp hv with⟨i,t,rfl,rfl⟩|⟨x,t,rfl,rfl⟩
  ·exact wpAny_pyHash_int h
  ·exact wpAny_pyHash_str h
 eqBool:=λhu hv h=>by
  rcases bp hu with⟨i,t,rfl,rfl⟩|⟨x,t,rfl,rfl⟩
  ·rcases bp hv with⟨j,u,rfl,rfl⟩|⟨y,u,rfl,rfl⟩
   ·rw[uy]at h;exact wpAny_eqBool_int h
   ·rw[uA]at h;exact EqAt.int_str i t y u _ _ _ _ h
  ·rcases bp hv with⟨j,u,rfl,rfl⟩|⟨y,u,rfl,rfl⟩
   ·rw[uB]at h;exact EqAt.str_int x t j u _ _ _ _ h
   ·rw[uz]at h;exact wpAny_eqBool_str h
 «strs»:=λk x t v h=>by
  rcases bp h with⟨i,u,rfl,e⟩|⟨y,u,rfl,e⟩
  ·exact nomatch e
  ·injection e with e1 _
   subst e1;cases v<;>rfl
theorem kS(prog:Program)(w:World)(i:Int)(t:Tok):(bb prog w).is (.inl i) (.int i t)=true:=oQ i t
theorem kT(prog:Program)(w:World)(x:Str)(t:Tok):(bb prog w).is (.inr x) (.str x t)=true:=oR x t
inductive V where
 |non|bl (b:Bool)|int (i:Int)|str (x:Str)|byt (b:Array UInt8)|flt (b:UInt64)|ref (a:Addr)|ty (n:String)
 deriving DecidableEq
def aS:V→Value→Prop
 |.non,u=>u=Value.none
 |.bl b,u=>u=Value.bool b
 |.int i,u=>∃t,u=Value.int i t
 |.str x,u=>∃t,u=Value.str x t
 |.byt b,u=>∃t,u=Value.bytes b t
 |.flt b,u=>∃t,u=float b t
 |.ref a,u=>u=Value.ref a
 |.ty n,u=>u=type n
abbrev aN:List V→List Value→Prop:=Paired aS
theorem aN.length{xs:List V}{us:List Value}(r:aN xs us):xs.length=us.length:=Paired.length r
theorem aN.get:∀{xs:List V}{us:List Value}{i:Nat}{x:V},aN xs us→xs[i]?=some x→∃u,us[i]?=some u∧aS x u
 |_,_,_,_,.nil,e=>by simp at e
 |_,_,0,_,.cons r _,e=>by simp at e;subst e;exact⟨_,rfl,r⟩
 |_,_,i+1,x,.cons _ t,e=>by
  obtain⟨u,h1,h2⟩:=aN.get (i:=i) (x:=x) t (by simpa using e);exact⟨u,by simpa using h1,h2⟩
theorem aN.append:∀{xs ys:List V}{us ws:List Value},aN xs us→aN ys ws→aN (xs++ys) (us++ws)
 |_,_,_,_,.nil,s=>s
 |_,_,_,_,.cons r t,s=>.cons r (aN.append t s)
theorem aN.take:∀{xs:List V}{us:List Value}(n:Nat),aN xs us→aN (xs.take n) (us.take n)
 |_,_,0,_=>.nil
 |_,_,_+1,.nil=>.nil
 |_,_,n+1,.cons r t=>.cons r (aN.take n t)
theorem aN.drop:∀{xs:List V}{us:List Value}(n:Nat),aN xs us→aN (xs.drop n) (us.drop n)
 |_,_,0,r=>r
 |_,_,_+1,.nil=>.nil
 |_,_,n+1,.cons _ t=>aN.drop n t
def fX:Option V→Option Value→Prop
 |some v,some u=>aS v u
 |none,none=>True
 |_,_=>False
def KV{κ:Type}:List (κ×V)→List (κ×Value)→Prop:=Paired λ(p:κ×V) (q:κ×Value)=>p.1=q.1∧aS p.2 q.2
def kV:Key→V
 |.inl i=>.int i
 |.inr x=>.str x
inductive HO where
 |lst (xs:List V)
 |tup (xs:List V)
 |dK (kvs:List (Key×V))|dT (kvs:List (List Key×V))
 |set (S:Int→Bool) (n:Nat)
 |ins (C dx:Addr) (fs:List (Str×V))
 |own (x:Addr)
 |xd (fs:List (Str×V))
 |met (f x:Addr)
 |rng (lo hi:Int)
 |frz (o:Obj) (u:HO)
 |tbl (ps:Array Value)
 |ext (φ:Heap→Prop)
abbrev Hp:=Addr→Option HO
def upd(H:Hp)(a:Addr)(o:HO):Hp:=λb=>if b=a then some o else H b
theorem ac{H:Hp}{a:Addr}{o:HO}:upd H a o a=some o:=by unfold upd;rw[if_pos rfl]
theorem al{H:Hp}{a b:Addr}{o:HO}(h:b≠a):upd H a o b=H b:=by unfold upd;rw[if_neg h]
theorem wt{H:Hp}{a b:Addr}{o u:HO}(h:H a=some o)(h':H b=some u)(d:o≠u):a≠b:=by
 intro e;subst e;rw[h]at h';exact d (Option.some.inj h')
theorem cv{H:Hp}{a b:Addr}{o:HO}(h:H a=some o)(h':H b=none):a≠b:=by
 intro e;subst e;rw[h]at h';cases h'
section
variable(P:Program)(w:World)
def bw(H:Hp)(h:Heap)(a:Addr):HO→Prop
 |.lst xs=>xs.length≤sizeLine∧∃(its:List Value) (n:Nat),aN xs its∧h.get? a=some {cls:=.type "list",data:=.seq its.toArray n}
 |.tup xs=>xs.length≤sizeLine∧∃its:List Value,aN xs its∧IsTup h a its.toArray
 |.dK kvs=>kvs.length≤sizeLine∧(a==sysModules)=false∧∃vs,KV kvs vs∧h.DictOf (bb P w) a vs
 |.dT kvs=>kvs.length≤sizeLine∧(a==sysModules)=false∧∃xs:List (List Key×Addr×Value),
   Paired (λ(p:List Key×V) (q:List Key×Addr×Value)=>p.1=q.1∧H q.2.1=some (.tup (p.1.map kV))∧aS p.2 q.2.2) kvs xs ∧
   ∃o es ep,h.get? a=some o∧o.ExactDict∧o.data=.dict es ep∧es.toList=xs.map (entryOfKey (tupleKind (bb P w)))∧(xs.map (·.1)).Nodup
 |.set S n=>h.SetOf (intKind P w) a S n
 |.ins C dx fs=>H dx=some (.own a)∧fs.length≤1000∧dx≠a∧h.get? a=some (instObj C dx) ∧
   ∃mA,h.Ns1 dx mA∧(∀f,fX (fs.lookup f) (mA f))∧PySem.Within mA (fs.map (·.1))
 |.own _=>∃o,h.get? a=some o
 |.xd fs=>∃mA,h.Ns1 a mA∧∀f,fX (fs.lookup f) (mA f)
 |.rng lo hi=>∃t u v,h.get? a=some {cls:=.type "range",data:=.fields #[.int lo t,.int hi u,.int 1 v]}
 |.frz o u=>h.get? a=some o∧bw H h a u
 |.tbl ps=>h.get? a=some {cls:=.none,data:=.fields ps}
 |.met f x=>h.get? a=some (methodObj (.ref f) (.ref x))
 |.ext φ=>φ h∧(∃o,h.get? a=some o)∧∀h1 h2:Heap,φ h1→(∀o,h1.get? a=some o→h2.get? a=some o)→φ h2
def HOk(H:Hp)(h:Heap):Prop:=∀a o,H a=some o→bw P w H h a o
end
section
variable{P:Program}{w:World}{H H':Hp}{h h':Heap}{a:Addr}{o:HO}
theorem bw.lt(x:bw P w H h a o):a<h.objs.size:=by
 cases o with
 |lst xs=>obtain⟨_,_,_,_,e⟩:=x;exact lt_size e
 |tup xs=>obtain⟨_,_,_,p⟩:=x;exact p.lt
 |dK kvs=>obtain⟨_,_,_,_,o,_,_,e,_⟩:=x;exact lt_size e
 |dT kvs=>obtain⟨_,_,_,_,o,_,_,e,_⟩:=x;exact lt_size e
 |set S n=>obtain⟨o,_,_,_,e,_⟩:=x;exact lt_size e
 |ins C dx fs=>obtain⟨_,_,_,e,_⟩:=x;exact lt_size e
 |own y=>obtain⟨_,e⟩:=x;exact lt_size e
 |xd fs=>obtain⟨_,⟨_,_,_,e,_⟩,_⟩:=x;exact lt_size e
 |rng lo hi=>obtain⟨_,_,_,e⟩:=x;exact lt_size e
 |frz ob u=>obtain⟨e,_⟩:=x;exact lt_size e
 |tbl ps=>exact lt_size (show h.get? a=some _ from x)
 |met f y=>exact lt_size (show h.get? a=some _ from x)
 |ext φ=>obtain⟨_,⟨_,e⟩,_⟩:=x;exact lt_size e
theorem Paired.mapP{α β:Type}{F G:α→β→Prop}:∀{l₁:List α}{l₂:List β},Paired F l₁ l₂→(∀a b,F a b→G a b)→Paired G l₁ l₂
 |_,_,.nil,_=>.nil
 |_,_,.cons r t,f=>.cons (f _ _ r) (Paired.mapP t f)
theorem bw.stay(x:bw P w H h a o)(k:∀b u,(b=a∨H b=some (.own a))→h.get? b=some u→h'.get? b=some u)(ho:∀b,H b=some (.own a)→H' b=some (.own a))(ht:∀b xs,H b=some (.tup xs)→H' b=some (.tup xs)):bw P w H' h' a o:=by
 induction o with
 |lst xs=>obtain⟨z,its,n,r,e⟩:=x;exact⟨z,its,n,r,k _ _ (.inl rfl) e⟩
 |tup xs=>obtain⟨z,its,r,ob,e,c⟩:=x;exact⟨z,its,r,ob,k _ _ (.inl rfl) e,c⟩
 |dK kvs=>obtain⟨z,y,vs,r,ob,es,ep,e,c⟩:=x;exact⟨z,y,vs,r,ob,es,ep,k _ _ (.inl rfl) e,c⟩
 |dT kvs =>
  obtain⟨z,y,xs,r,ob,es,ep,e,c⟩:=x;exact⟨z,y,xs,Paired.mapP r λp q z=>⟨z.1,ht _ _ z.2.1,z.2.2⟩,ob,es,ep,k _ _ (.inl rfl) e,c⟩
 |set S n=>obtain⟨ob,es,ep,t,e,c⟩:=x;exact⟨ob,es,ep,t,k _ _ (.inl rfl) e,c⟩
 |ins C dx fs =>
  obtain⟨d,z,ne,e,mA,⟨od,es,ep,e2,c⟩,r⟩:=x;exact⟨ho _ d,z,ne,k _ _ (.inl rfl) e,mA,⟨od,es,ep,k _ _ (.inr d) e2,c⟩,r⟩
 |own y=>obtain⟨ob,e⟩:=x;exact⟨ob,k _ _ (.inl rfl) e⟩
 |xd fs=>obtain⟨mA,⟨od,es,ep,e,c⟩,r⟩:=x;exact⟨mA,⟨od,es,ep,k _ _ (.inl rfl) e,c⟩,r⟩
 |rng lo hi=>obtain⟨t,u,v,e⟩:=x;exact⟨t,u,v,k _ _ (.inl rfl) e⟩
 |frz ob u ih=>obtain⟨e,q⟩:=x;exact⟨k _ _ (.inl rfl) e,ih q⟩
 |tbl ps =>
  have e:h.get? a=some {cls:=.none,data:=.fields ps}:=x;show h'.get? a=some {cls:=.none,data:=.fields ps};exact k a _ (.inl rfl) e
 |met f y =>
  have e:h.get? a=some (methodObj (.ref f) (.ref y)):=x;show h'.get? a=some (methodObj (.ref f) (.ref y));exact k a _ (.inl rfl) e
 |ext φ=>obtain⟨p,⟨o,e⟩,st⟩:=x;exact⟨st _ _ p λo q=>k _ _ (.inl rfl) q,⟨o,k _ _ (.inl rfl) e⟩,st⟩
theorem HOk.lt(x:HOk P w H h)(e:H a=some o):a<h.objs.size:=(x a o e).lt
theorem HOk.fresh(x:HOk P w H h)(e:h.objs.size≤a):H a=none:=by
 cases q:H a with
 |none=>rfl
 |some u=>exact absurd (lt_of_lt_of_le (x.lt q) e) (lt_irrefl _)
theorem HOk.kept(x:HOk P w H h)(k:∀b u,h.get? b=some u→h'.get? b=some u):HOk P w H h':=λa o e =>
 (x a o e).stay (λb u _ q=>k b u q) (λ_ q=>q) λ_ _ q=>q
theorem HOk.laid(x:HOk P w H h)(k:∀b u,h.get? b=some u→h'.get? b=some u)(hp:h.objs.size≤a)(new:bw P w (upd H a o) h' a o):HOk P w (upd H a o) h':=λb u e=>by
 have hn:=x.fresh hp
 by_cases hb:b=a
 ·subst hb;rw[ac]at e;cases e;exact new
 ·rw[al hb]at e;exact(x b u e).stay (λc v _ q=>k c v q) (λc q=>by rw[al (cv q hn)];exact q) λc xs q=>by rw[al (cv q hn)];exact q
end
def Rd(H:Hp)(a:Addr)(u:HO):Prop:=H a=some u∨∃o,H a=some (.frz o u)
theorem Rd.of{H:Hp}{a:Addr}{u:HO}(h:H a=some u):Rd H a u:=.inl h
theorem Rd.ok{P:Program}{w:World}{H:Hp}{h:Heap}{a:Addr}{u:HO}(r:Rd H a u)(x:HOk P w H h):bw P w H h a u:=by
 rcases r with r|⟨o,r⟩
 ·exact x a u r
 ·obtain⟨_,q⟩:=x a _ r;exact q
def Mut:Option HO→Prop
 |some (.lst _)=>True
 |some (.dK _)=>True
 |some (.dT _)=>True
 |some (.set _ _)=>True
 |some (.ins _ _ _)=>True
 |some (.ext _)=>True
 |_=>False
section
variable{P:Program}{w:World}{H:Hp}{h h':Heap}{x e:Addr}{o':HO}
theorem HOk.write(ok:HOk P w H h)(mu:Mut (H x))(he:e=x∨H e=some (.own x))(k:∀b u,b≠e→h.get? b=some u→h'.get? b=some u)(heo:∃u,h'.get? e=some u)(new:bw P w (upd H x o') h' x o'):HOk P w (upd H x o') h':=λb u q=>by
 have nown:∀c y,H c=some (.own y)→c≠x:=λc y r z=>by subst z;rw[r]at mu;exact mu
 have ntup:∀c xs,H c=some (.tup xs)→c≠x:=λc xs r z=>by subst z;rw[r]at mu;exact mu
 by_cases hb:b=x
 ·subst hb;rw[ac]at q;cases q;exact new
 ·rw[al hb]at q
  by_cases hbe:b=e
  ·have q':H b=some (.own x):=by
    rcases he with z|z
    ·exact absurd (hbe.trans z) hb
    ·rw[hbe];exact z
   rw[q]at q';cases q';obtain⟨v,hv⟩:=heo;exact⟨v,by rw[hbe];exact hv⟩
  ·refine(ok b u q).stay (λc v hc r=>k c v ?_ r) (λc r=>by rw[al (nown c b r)];exact r) λc xs r=>by rw[al (ntup c xs r)];exact r
   rcases hc with rfl|hc
   ·exact hbe
   ·rintro rfl;rcases he with z|z
    ·exact nown c b hc z
    ·rw[hc]at z;cases z;exact hb rfl
end
structure Un(fs ex:List Addr)(H H':Hp)(h h':Heap):Prop where
 keep:∀b o,h.get? b=some o→H b=none→b∉fs→b∉ex→h'.get? b=some o
 slot:∀b o,h.get? b=some o→H b=none→b∈fs→b∉ex→∃sl,h'.get? b=some {o with slots:=sl}
 free:∀b o,h.get? b=some o→H b=none→b∉ex→H' b=none
 there:∀b o,h.get? b=some o→b∉ex→∃o',h'.get? b=some o'
 tups:∀b xs,H b=some (.tup xs)→H' b=some (.tup xs)
 frzs:∀b o u,H b=some (.frz o u)→H' b=some (.frz o u)
 tbls:∀b ps,H b=some (.tbl ps)→∃more,H' b=some (.tbl (ps++more))
section
variable{fs fs' ex ex':List Addr}{H H1 H2:Hp}{h h1 h2 h':Heap}{a x e:Addr}{o:HO}
theorem Un.any(u:Un fs ex H H1 h h1){b:Addr}{ob:Obj}(q:h.get? b=some ob)(n:H b=none)(hx:b∉ex):∃sl,h1.get? b=some {ob with slots:=sl}:=by
 by_cases hb:b∈fs
 ·exact u.slot b ob q n hb hx
 ·exact⟨ob.slots,u.keep b ob q n hb hx⟩
theorem Un.kept(k:∀b u,h.get? b=some u→h'.get? b=some u):Un fs ex H H h h' :=
 ⟨λb ob q _ _ _=>k b ob q,λb ob q _ _ _=>⟨ob.slots,k b ob q⟩,λ_ _ _ n _=>n,λb ob q _=>⟨ob,k b ob q⟩,λ_ _ q=>q,λ_ _ _ q=>q,λ_ ps q=>⟨#[],by rw[q];simp⟩⟩
theorem Un.refl:Un fs ex H H h h:=Un.kept λ_ _ q=>q
theorem Un.laid(k:∀b u,h.get? b=some u→h'.get? b=some u)(hp:h.objs.size≤a)(hn:H a=none):Un fs ex H (upd H a o) h h' where
 keep:=λb u q _ _ _=>k b u q
 slot:=λb u q _ _ _=>⟨u.slots,k b u q⟩
 free:=λb u q n _=>by rw[al (ne_of_lt (lt_of_lt_of_le (lt_size q) hp))];exact n
 there:=λb u q _=>⟨u,k b u q⟩
 tups:=λb xs q=>by rw[al (cv q hn)];exact q
 frzs:=λb u xs q=>by rw[al (cv q hn)];exact q
 tbls:=λb ps q=>⟨#[],by rw[al (cv q hn),q];simp⟩
theorem Un.write(mu:Mut (H x))(he:e=x∨H e=some (.own x))(k:∀b u,b≠e→h.get? b=some u→h'.get? b=some u)(heo:∃u,h'.get? e=some u):Un fs ex H (upd H x o) h h':=by
 have hx:∀b,H b=none→b≠x:=λb n z=>by subst z;rw[n]at mu;exact mu
 have hb:∀b,H b=none→b≠e:=λb n z=>by
  subst z;rcases he with r|r
  ·exact hx b n r
  ·rw[n]at r;cases r
 have hm:∀b u,H b=some u→¬Mut (some u)→b≠x:=λb u q nm z=>by subst z;rw[q]at mu;exact nm mu
 refine⟨λb u q n _ _=>k b u (hb b n) q,λb u q n _ _=>⟨u.slots,k b u (hb b n) q⟩,λb u q n _=>by rw[al (hx b n)];exact n,λb u q _=>?_,
  λb xs q=>by rw[al (hm b _ q λz=>z)];exact q,λb u xs q=>by rw[al (hm b _ q λz=>z)];exact q,λb ps q=>⟨#[],by rw[al (hm b _ q λz=>z),q];simp⟩⟩
 by_cases hbe:b=e
 ·subst hbe;exact heo
 ·exact⟨u,k b u hbe q⟩
end
def trk(h:Heap)(H:Hp):List Addr:=(List.range h.objs.size).filter λa=>(H a).isSome
def jW(h:Heap)(H:Hp):Heap:=hideAll h (trk h H)
theorem oS(h:Heap)(H:Hp):(jW h H).objs.size=h.objs.size:=PySem.W.hideAll_size _ _
theorem pT{h:Heap}{H:Hp}{b:Addr}{o:Obj}(e:h.get? b=some o)(n:H b=none):(jW h H).get? b=some o :=
 hideAll_get _ e λhm=>by
  have q:(H b).isSome=true:=(mem_filter.mp hm).2;rw[n]at q;simp at q
theorem rV{h:Heap}{H:Hp}{b:Addr}{o:Obj}(e:(jW h H).get? b=some o):h.get? b=some o∧H b=none:=by
 have e':h.get? b=some o:=of_hideAll (trk h H) e;refine⟨e',?_⟩;cases q:H b with
 |none=>rfl
 |some x =>
  have hm:b∈trk h H:=mem_filter.mpr ⟨mem_range.mpr (lt_size e'),by simp[q]⟩;have z:(jW h H).get? b=none:=PySem.W.hideAll_none (trk h H) hm;rw[z]at e;cases e
structure Mod(K:PySem.W.Frag)(mg:Str→Option Value)(base:Heap):Prop where
 kin:K.In base
 glob:base.Ns mainGlobals mg
 blt:∃mb,base.Ns builtinsNs mb∧∀x:Str,x≠"__name__"→mb x=bootBuiltins x
 nolimit:base.NoLimit
structure Cx where
 prog:Program
 w:World
 K:PySem.W.Frag
 mg:Str→Option Value
 base:Heap
 A:Around
 N:List Str
 s₀:Shared
 H₀:Hp
 env:Env
 outer:List Env
 stack:List Env
 ex:List Addr
 fn:Str→Bool
 calm:Bool
 pn:List (Addr×Obj)
 xe:Value→Shared→Prop
def frs(l:List Env):List Addr:=l.filterMap (·.frame)
abbrev Cx.fs(X:Cx):List Addr:=frs X.outer
def Vis(sc:Scope)(x:Str):Prop:=sc.names.lookup x=some .local∨sc.names.lookup x=some .cell∨sc.names.lookup x=some .free
def Loc(sc:Scope)(x:Str):Prop:=sc.names.lookup x=some .local∨sc.names.lookup x=some .cell
def xc(env:Env)(h:Heap)(m:Str→Option Value)(x:Str)(u:Value):Prop :=
 (env.kindOf x=some .local∧m x=some u)∨((env.kindOf x=some .cell∨env.kindOf x=some .free)∧∃c,env.cells.lookup x=some c∧h.IsCell c (some u))
structure Cx.Ok(X:Cx):Prop where
 mod:Mod X.K X.mg X.base
 kind:X.env.scope.kind=.function
 glob:X.env.globals=mainGlobals
 blt:X.env.builtins=builtinsNs
 above:X.s₀.heap.objs.size≤X.env.locals
 inj:∀x y c,X.env.cells.lookup x=some c→X.env.cells.lookup y=some c→x=y
 has:∀x,(X.env.kindOf x=some .cell∨X.env.kindOf x=some .free)→∃c,X.env.cells.lookup x=some c
 cab:∀x c,X.fn x=true→X.env.cells.lookup x=some c→X.s₀.heap.objs.size≤c
 hd:X.calm=true→X.A.handled=none
 frames:X.A.frames=some X.stack
 stk:X.stack=X.outer∨(X.stack=X.env::X.outer∧X.env.frame=some X.env.locals)
 exf:∀b∈X.ex,b≠X.env.locals∧∀x c,X.env.cells.lookup x=some c→c≠b
 bs:∀b o,X.base.get? b=some o→X.s₀.heap.get? b=some o∧X.H₀ b=none
 bsz:X.base.objs.size≤X.s₀.heap.objs.size
 noex:∀b o,X.base.get? b=some o→b∉X.ex
 exfs:∀b∈X.ex,b∉X.fs
 funs:X.s₀.heap.FunFrames X.base X.outer
 frf:∀b∈X.fs,X.H₀ b=none
structure Inv(X:Cx)(pins:List (Addr×Obj))(σ:List (Option V))(H:Hp)(s:Shared):Prop where
 ok:X.Ok
 os:s.os=X.s₀.os
 bare:AllBare s.gens
 base:Un X.fs X.ex X.H₀ H X.s₀.heap s.heap
 loc:∃m,s.heap.Ns X.env.locals m∧∀(i:Nat)(x:Str)(v:V),X.N[i]?=some x→σ[i]?=some (some v)→Vis X.env.scope x→∃u,aS v u∧xc X.env s.heap m x u
 cell:∀x c,X.env.cells.lookup x=some c→∃v,s.heap.IsCell c v
 free:H X.env.locals=none
 freeC:∀x c,X.env.cells.lookup x=some c→H c=none
 pin:∀p∈X.pn++pins,s.heap.get? p.1=some p.2∧H p.1=none∧p.1≠X.env.locals∧p.1∉X.fs∧∀v,p.2.data≠.cell v
 hok:HOk X.prog X.w H s.heap
 len:σ.length=X.N.length
section
variable{X:Cx}{pins:List (Addr×Obj)}{σ:List (Option V)}{H H':Hp}{s:Shared}{h':Heap}
theorem Cx.Ok.nofr(ok:X.Ok){b:Addr}{o:Obj}(e:X.base.get? b=some o):b∉X.fs:=λhb=>by
 have:=(ok.funs.mem hb).1;rw[e]at this;cases this
theorem Inv.bs(I:Inv X pins σ H s):∀b o,X.base.get? b=some o→s.heap.get? b=some o∧H b=none:=λb o e =>
 ⟨I.base.keep b o (I.ok.bs b o e).1 (I.ok.bs b o e).2 (I.ok.nofr e) (I.ok.noex b o e),I.base.free b o (I.ok.bs b o e).1 (I.ok.bs b o e).2 (I.ok.noex b o e)⟩
theorem Inv.bk(I:Inv X pins σ H s):∀b o,X.base.get? b=some o→s.heap.get? b=some o:=λb o e=>(I.bs b o e).1
theorem Inv.mod(I:Inv X pins σ H s):Mod X.K X.mg X.base:=I.ok.mod
theorem Inv.kIn(I:Inv X pins σ H s):X.K.In s.heap:=I.ok.mod.kin.keeps I.bk
theorem Inv.lt(I:Inv X pins σ H s):X.env.locals<s.heap.objs.size:=let⟨_,hn,_⟩:=I.loc;hn.lt
theorem Inv.sz(I:Inv X pins σ H s):X.s₀.heap.objs.size≤s.heap.objs.size:=le_trans I.ok.above (le_of_lt I.lt)
theorem Inv.nofs(I:Inv X pins σ H s){a:Addr}(h:s.heap.objs.size≤a):a∉X.fs:=λhb=>by
 obtain⟨_,o,ho,_⟩:=I.ok.funs.mem hb;exact absurd (lt_of_lt_of_le (lt_size ho) (le_trans I.sz h)) (lt_irrefl _)
theorem Inv.cne(I:Inv X pins σ H s):∀x c,X.env.cells.lookup x=some c→c≠X.env.locals:=λx c e z=>by
 obtain⟨v,o,ho,hd⟩:=I.cell x c e;obtain⟨m,⟨o',es,ep,ho',hd',_⟩,_⟩:=I.loc;rw[z,ho']at ho;cases ho;rw[hd']at hd;cases hd
theorem Inv.funs(I:Inv X pins σ H s):s.heap.FunFrames X.base X.outer:=by
 have all:∀(l:List Env),(∀b∈frs l,b∈X.fs)→X.s₀.heap.FunFrames X.base l→s.heap.FunFrames X.base l:=by
  intro l
  induction l with
  |nil=>intro _ _;trivial
  |cons env r ih =>
   intro hs hl;obtain⟨hk,⟨L,o,hf,hn,ho,hd⟩,hr⟩:=hl;have hL:L∈X.fs:=hs L (by unfold frs;rw[List.filterMap_cons,hf];exact mem_cons_self);obtain⟨sl,e⟩:=I.base.slot L o ho (I.ok.frf L hL) hL λz=>I.ok.exfs L z hL;exact⟨hk,⟨L,_,hf,hn,e,hd⟩,ih (λb hb=>hs b (by unfold frs;rw[List.filterMap_cons,hf];exact mem_cons_of_mem _ hb)) hr⟩
 exact all X.outer (λ_ hb=>hb) I.ok.funs
theorem Inv.stack(I:Inv X pins σ H s):s.heap.FunFrames X.base X.stack:=by
 rcases I.ok.stk with e|⟨e,hf⟩
 ·rw[e];exact I.funs
 ·rw[e];obtain⟨m,hn,_⟩:=I.loc;refine .cons (by rw[I.ok.kind];decide) hf hn ?_ I.funs;exact Heap.get?_none_of_le (le_trans I.ok.bsz I.ok.above)
theorem Inv.stkSub(I:Inv X pins σ H s):∀b∈frs X.stack,b∈X.env.locals::X.fs:=λb hb=>by
 rcases I.ok.stk with e|⟨e,hf⟩
 ·rw[e]at hb;exact mem_cons_of_mem _ hb
 ·rw[e]at hb;unfold frs at hb;rw[List.filterMap_cons,hf]at hb;exact hb
theorem Inv.stkFree(I:Inv X pins σ H s):∀b∈frs X.stack,H b=none:=λb hb=>by
 rcases mem_cons.mp (I.stkSub b hb)with e|hb
 ·rw[e];exact I.free
 ·obtain⟨_,o,ho,_⟩:=I.ok.funs.mem hb;exact I.base.free b o ho (I.ok.frf b hb) λz=>I.ok.exfs b z hb
theorem Inv.step{g':Array GenState}{t':Nat}{d':Drawn}{ch:List Addr}(I:Inv X pins σ H s)(hch:∀b∈ch,(b∈X.ex∨X.s₀.heap.objs.size≤b)∧b≠X.env.locals∧(∀x c,X.env.cells.lookup x=some c→c≠b)∧∀p∈X.pn++pins,p.1≠b)(keep:∀b o,b≠X.env.locals→b∉X.fs→b∉ch→s.heap.get? b=some o→H b=none→h'.get? b=some o)(slot:∀b o,b≠X.env.locals→b∈X.fs→b∉ch→s.heap.get? b=some o→H b=none→∃sl,h'.get? b=some {o with slots:=sl})(free:∀b o,b∉ch→s.heap.get? b=some o→H b=none→H' b=none)(there:∀b o,b∉ch→s.heap.get? b=some o→∃o',h'.get? b=some o')(tups:∀b xs,H b=some (.tup xs)→H' b=some (.tup xs))(frzs:∀b o u,H b=some (.frz o u)→H' b=some (.frz o u))(tbls:∀b ps,H b=some (.tbl ps)→∃more,H' b=some (.tbl (ps++more)))(ns:∀m,s.heap.Ns X.env.locals m→h'.Ns X.env.locals m)(hok:HOk X.prog X.w H' h')(hg:AllBare g'):
  Inv X pins σ H' {s with heap:=h',gens:=g',drawn:=d',toks:=t'}:=by
 have neL:∀b o,X.s₀.heap.get? b=some o→b≠X.env.locals:=λb o e=>ne_of_lt (lt_of_lt_of_le (lt_size e) I.ok.above);have neC:∀b o,X.s₀.heap.get? b=some o→b∉X.ex→b∉ch:=λb o e hx hb=>by
  rcases (hch b hb).1 with z|z
  ·exact hx z
  ·exact absurd (lt_of_lt_of_le (lt_size e) z) (lt_irrefl _)
 have cellK:∀x c,X.env.cells.lookup x=some c→∀v,s.heap.IsCell c v→h'.IsCell c v:=λx c e v ⟨o,ho,hd⟩=>by
  have nch:c∉ch:=λz=>(hch c z).2.2.1 x c e rfl
  by_cases hc:c∈X.fs
  ·obtain⟨sl,q⟩:=slot c o (I.cne x c e) hc nch ho (I.freeC x c e);exact⟨_,q,hd⟩
  ·exact⟨o,keep c o (I.cne x c e) hc nch ho (I.freeC x c e),hd⟩
 refine⟨I.ok,I.os,hg,⟨λb o e n hb hx=>?_,λb o e n hb hx=>?_,λb o e n hx=>?_,λb o e hx=>?_,λb xs e=>tups b xs (I.base.tups b xs e),λb o xs e=>frzs b o xs (I.base.frzs b o xs e),λb ps e=>?_⟩,?_,λx c e=>?_,?_,λx c e=>?_,λp hp=>?_,hok,I.len⟩
 ·exact keep b o (neL b o e) hb (neC b o e hx) (I.base.keep b o e n hb hx) (I.base.free b o e n hx)
 ·obtain⟨sl,e1⟩:=I.base.slot b o e n hb hx;obtain⟨sl',e2⟩:=slot b _ (neL b o e) hb (neC b o e hx) e1 (I.base.free b o e n hx);exact⟨sl',e2⟩
 ·obtain⟨o',e1⟩:=I.base.there b o e hx;exact free b o' (neC b o e hx) e1 (I.base.free b o e n hx)
 ·obtain⟨o',e1⟩:=I.base.there b o e hx;exact there b o' (neC b o e hx) e1
 ·obtain⟨m1,e1⟩:=I.base.tbls b ps e;obtain⟨m2,e2⟩:=tbls b _ e1;exact⟨m1++m2,by rw[e2,Array.append_assoc]⟩
 ·obtain⟨m,hn,hl⟩:=I.loc;refine⟨m,ns m hn,λi x v e1 e2 e3=>?_⟩;obtain⟨u,r,l⟩:=hl i x v e1 e2 e3;refine⟨u,r,?_⟩;rcases l with l|⟨k,c,e,z⟩
  ·exact .inl l
  ·exact .inr ⟨k,c,e,cellK x c e _ z⟩
 ·obtain⟨v,z⟩:=I.cell x c e;exact⟨v,cellK x c e v z⟩
 ·obtain⟨m,⟨o,_,_,ho,_⟩,_⟩:=I.loc;exact free _ o (λz=>(hch _ z).2.1 rfl) ho I.free
 ·obtain⟨v,o,ho,hd⟩:=I.cell x c e;exact free c o (λz=>(hch c z).2.2.1 x c e rfl) ho (I.freeC x c e)
 ·obtain⟨e,n,ne,nf,d⟩:=I.pin p hp;have nch:p.1∉ch:=λz=>(hch p.1 z).2.2.2 p hp rfl;exact⟨keep p.1 p.2 ne nf nch e n,free p.1 p.2 nch e n,ne,nf,d⟩
theorem Inv.un{t':Nat}(I:Inv X pins σ H s)(u:Un X.fs [] H H' s.heap h')(hok:HOk X.prog X.w H' h'):Inv X pins σ H' {s with heap:=h',toks:=t'}:=by
 obtain⟨m,⟨o,es,ep,ho,r⟩,_⟩:=id I.loc;obtain⟨sl,hL⟩:=u.any ho I.free (by simp);exact I.step (g':=s.gens) (d':=s.drawn) (ch:=[]) (λ_ z=>nomatch z) (λb o _ hb _ e n=>u.keep b o e n hb (by simp)) (λb o _ hb _ e n=>u.slot b o e n hb (by simp)) (λb o _ e n=>u.free b o e n (by simp)) (λb o _ e=>u.there b o e (by simp)) u.tups u.frzs u.tbls (λm' hm=>by
  obtain⟨o',es',ep',ho',r'⟩:=hm;rw[ho]at ho';cases ho';exact⟨_,es',ep',hL,r'⟩) hok I.bare
theorem Inv.call{g':Array GenState}{t':Nat}{d':Drawn}{ch:List Addr}(I:Inv X pins σ H s)(u:Un (frs X.stack) ch H H' s.heap h')(hok:HOk X.prog X.w H' h')(hg:AllBare g')(hch:∀b∈ch,(b∈X.ex∨X.s₀.heap.objs.size≤b)∧b≠X.env.locals∧(∀x c,X.env.cells.lookup x=some c→c≠b)∧∀p∈X.pn++pins,p.1≠b):
  Inv X pins σ H' {s with heap:=h',gens:=g',drawn:=d',toks:=t'}:=by
 obtain⟨m,⟨o,es,ep,ho,r⟩,_⟩:=id I.loc;obtain⟨sl,hL⟩:=u.any ho I.free λz=>(hch _ z).2.1 rfl;exact I.step (ch:=ch) hch (λb o hL hb hc e n=>u.keep b o e n (λz=>(mem_cons.mp (I.stkSub b z)).elim hL hb) hc) (λb o _ _ hc e n=>u.any e n hc) (λb o hc e n=>u.free b o e n hc) (λb o hc e=>u.there b o e hc) u.tups u.frzs u.tbls (λm' hm=>by
  obtain⟨o',es',ep',ho',r'⟩:=hm;rw[ho]at ho';cases ho';exact⟨_,es',ep',hL,r'⟩) hok hg
theorem Inv.turned{t':Nat}{it:Addr}(I:Inv X pins σ H s)(k:∀b o,b≠it→s.heap.get? b=some o→h'.get? b=some o)(hn:H it=none)(hL:it≠X.env.locals)(h1:it∈X.ex∨X.s₀.heap.objs.size≤it)(h2:∀x c,X.env.cells.lookup x=some c→c≠it)(h3:∀p∈X.pn++pins,p.1≠it):Inv X pins σ H {s with heap:=h',toks:=t'}:=by
 have nit:∀b u,H b=some u→b≠it:=λb u e z=>by rw[z,hn]at e;cases e
 refine I.step (g':=s.gens) (d':=s.drawn) (ch:=[it]) (λb hb=>?_) (λb o _ _ hc e _=>k b o (λz=>hc (by simp[z])) e) (λb o _ _ hc e _=>⟨o.slots,k b o (λz=>hc (by simp[z])) e⟩) (λ_ _ _ _ n=>n)
  (λb o hc e=>⟨o,k b o (λz=>hc (by simp[z])) e⟩) (λ_ _ e=>e) (λ_ _ _ e=>e) (λb ps e=>⟨#[],by rw[e];simp⟩) (λm hm=>?_) (λb u e=>?_) I.bare
 ·have e:b=it:=by simpa using hb
  subst e;exact⟨h1,hL,h2,h3⟩
 ·obtain⟨o,es,ep,ho,r⟩:=hm;exact⟨o,es,ep,k _ o (symm hL) ho,r⟩
 ·refine(I.hok b u e).stay (λc v hc q=>k c v ?_ q) (λ_ q=>q) λ_ _ q=>q;rcases hc with z|z
  ·rw[z];exact nit b u e
  ·exact nit c _ z
theorem Inv.tok(I:Inv X pins σ H s)(t:Nat):Inv X pins σ H {s with toks:=t}:=I.un (h':=s.heap) (t':=t) Un.refl I.hok
theorem Inv.kept{t':Nat}(I:Inv X pins σ H s)(k:∀b u,s.heap.get? b=some u→h'.get? b=some u):Inv X pins σ H {s with heap:=h',toks:=t'}:=I.un (Un.kept k) (I.hok.kept k)
theorem Inv.laid{a:Addr}{o:HO}{t':Nat}(I:Inv X pins σ H s)(k:∀b u,s.heap.get? b=some u→h'.get? b=some u)(hp:s.heap.objs.size≤a)(new:bw X.prog X.w (upd H a o) h' a o):
  Inv X pins σ (upd H a o) {s with heap:=h',toks:=t'}:=I.un (Un.laid k hp (I.hok.fresh hp)) (I.hok.laid k hp new)
theorem Inv.write{x e:Addr}{o:HO}{t':Nat}(I:Inv X pins σ H s)(mu:Mut (H x))(he:e=x∨H e=some (.own x))(k:∀b u,b≠e→s.heap.get? b=some u→h'.get? b=some u)(heo:∃u,h'.get? e=some u)(new:bw X.prog X.w (upd H x o) h' x o):Inv X pins σ (upd H x o) {s with heap:=h',toks:=t'}:=I.un (Un.write mu he k heo) (I.hok.write mu he k heo new)
theorem Inv.pins_of{pins':List (Addr×Obj)}(I:Inv X pins σ H s)(h:∀p∈pins',s.heap.get? p.1=some p.2∧H p.1=none∧p.1≠X.env.locals∧p.1∉X.fs∧∀v,p.2.data≠.cell v):Inv X pins' σ H s :=
 ⟨I.ok,I.os,I.bare,I.base,I.loc,I.cell,I.free,I.freeC,λp hp=>(mem_append.mp hp).elim (λz=>I.pin p (mem_append_left _ z)) (h p),I.hok,I.len⟩
theorem kX{N:List Str}(hN:N.Nodup){i j:Nat}{x:Str}(a:N[i]?=some x)(b:N[j]?=some x):i=j:=by
 obtain⟨h1,e1⟩:=List.getElem?_eq_some_iff.mp a;obtain⟨h2,e2⟩:=List.getElem?_eq_some_iff.mp b;exact(getElem_inj hN).mp (e1.trans e2.symm)
theorem hJ{M:Model}{A:Around}{E:Value→Shared→Prop}{i:Nat}{x:Str}{v:V}{u:Value}{Q:Unit→Shared→Prop}(I:Inv X pins σ H s)(hN:X.N.Nodup)(hi:X.N[i]?=some x)(hx:Loc X.env.scope x)(r:aS v u)(h:∀s',Inv X pins (σ.set i (some v)) H s'→(∃a,SameBut a s.heap s'.heap∧(a=X.env.locals∨X.env.cells.lookup x=some a))→Q () s')(hf:X.fn x=true∨X.env.scope.names.lookup x=some .local:=by first|exact .inl rfl|exact .inr rfl|assumption):wpAny M A (storeName X.env x u) Q E s:=by
 obtain⟨m,hn,hl⟩:=id I.loc;have hcls:(X.env.scope.kind==.class||(X.env.scope.kind==.module&&X.env.locals != X.env.globals))=false:=by rw[I.ok.kind];rfl
 have hiσ:i<σ.length:=by rw[I.len];exact(List.getElem?_eq_some_iff.mp hi).1
 have cne:=I.cne;have tracked:∀{a:Addr}{h':Heap},(∃o,s.heap.get? a=some o∧H a=none)→SameBut a s.heap h'→HOk X.prog X.w H h':=λ{a h'} ha hs b ob e=>by
  obtain⟨_,_,hfree⟩:=ha;refine(I.hok b ob e).stay (λc w' hc q=>(hs.2 c ?_).trans q) (λ_ q=>q) λ_ _ q=>q;rintro rfl;rcases hc with rfl|hc
  ·rw[hfree]at e;cases e
  ·rw[hfree]at hc;cases hc
 rcases hx with hk|hk
 ·refine wpAny_storeName_local hk hn (λh' hn' hs=>?_) hcls;obtain⟨oL,_,_,hoL,_⟩:=id hn;refine h _ ⟨I.ok,I.os,I.bare,⟨λb o e n hb hx=>?_,λb o e n hb hx=>?_,I.base.free,λb o e hx=>?_,I.base.tups,I.base.frzs,I.base.tbls⟩,⟨_,hn',λj y v' e1 e2 e3=>?_⟩,λy c e=>?_,I.free,I.freeC,λp hp=>?_,tracked ⟨oL,hoL,I.free⟩ hs,by simpa using I.len⟩ ⟨_,hs,.inl rfl⟩
  ·exact(hs.2 b (ne_of_lt (lt_of_lt_of_le (lt_size e) I.ok.above))).trans (I.base.keep b o e n hb hx)
  ·obtain⟨sl,e1⟩:=I.base.slot b o e n hb hx;exact⟨sl,(hs.2 b (ne_of_lt (lt_of_lt_of_le (lt_size e) I.ok.above))).trans e1⟩
  ·obtain⟨o',e1⟩:=I.base.there b o e hx;exact⟨o',(hs.2 b (ne_of_lt (lt_of_lt_of_le (lt_size e) I.ok.above))).trans e1⟩
  ·by_cases hj:j=i
   ·subst hj;rw[hi]at e1;cases e1;rw[List.getElem?_set_self hiσ]at e2;cases e2;exact⟨u,r,.inl ⟨hk,by simp⟩⟩
   ·rw[List.getElem?_set_ne (symm hj)]at e2;obtain⟨u',r',q⟩:=hl j y v' e1 e2 e3;refine⟨u',r',?_⟩;rcases q with⟨k,e⟩|⟨k,c,e,z⟩
    ·refine .inl ⟨k,?_⟩;have:y≠x:=λe=>hj (kX hN e1 (e ▸ hi));simp[this,e]
    ·exact .inr ⟨k,c,e,z.sameBut hs (cne y c e)⟩
  ·obtain⟨w',z⟩:=I.cell y c e;exact⟨w',z.sameBut hs (cne y c e)⟩
  ·obtain⟨e,n,ne,nf,d⟩:=I.pin p hp;exact⟨(hs.2 p.1 ne).trans e,n,ne,nf,d⟩
 ·have hfn:X.fn x=true:=by
   rcases hf with z|z
   ·exact z
   ·rw[z]at hk;cases hk
  obtain⟨c,hc⟩:=I.ok.has x (.inl hk);obtain⟨w',z⟩:=I.cell x c hc;refine wpAny_storeName_cell I.ok.kind hk hc z (λh' hc' hs=>?_);obtain⟨oc,hoc,hocd⟩:=id z;refine h {s with heap:=h'} ⟨I.ok,I.os,I.bare,⟨λb o e n hb hx=>?_,λb o e n hb hx=>?_,I.base.free,λb o e hx=>?_,I.base.tups,I.base.frzs,I.base.tbls⟩,⟨m,hn.sameBut hs (symm (cne x c hc)),λj y v' e1 e2 e3=>?_⟩,λy c' e=>?_,I.free,I.freeC,λp hp=>?_,tracked ⟨oc,hoc,I.freeC x c hc⟩ hs,by simpa using I.len⟩ ⟨c,hs,.inr hc⟩
  ·exact(hs.2 b (ne_of_lt (lt_of_lt_of_le (lt_size e) (I.ok.cab x c hfn hc)))).trans (I.base.keep b o e n hb hx)
  ·obtain⟨sl,e1⟩:=I.base.slot b o e n hb hx;exact⟨sl,(hs.2 b (ne_of_lt (lt_of_lt_of_le (lt_size e) (I.ok.cab x c hfn hc)))).trans e1⟩
  ·obtain⟨o',e1⟩:=I.base.there b o e hx;exact⟨o',(hs.2 b (ne_of_lt (lt_of_lt_of_le (lt_size e) (I.ok.cab x c hfn hc)))).trans e1⟩
  ·by_cases hj:j=i
   ·subst hj;rw[hi]at e1;cases e1;rw[List.getElem?_set_self hiσ]at e2;cases e2;exact⟨u,r,.inr ⟨.inl hk,c,hc,hc'⟩⟩
   ·rw[List.getElem?_set_ne (symm hj)]at e2;obtain⟨u',r',q⟩:=hl j y v' e1 e2 e3;refine⟨u',r',?_⟩;rcases q with q|⟨k,c',e,z'⟩
    ·exact .inl q
    ·refine .inr ⟨k,c',e,z'.sameBut hs ?_⟩;rintro rfl;exact hj (kX hN e1 (I.ok.inj _ _ _ e hc ▸ hi))
  ·by_cases hcc:c'=c
   ·subst hcc;exact⟨_,hc'⟩
   ·obtain⟨w2,z2⟩:=I.cell y c' e;exact⟨w2,z2.sameBut hs hcc⟩
  ·obtain⟨e,n,ne,nf,d⟩:=I.pin p hp;refine⟨(hs.2 p.1 ?_).trans e,n,ne,nf,d⟩;intro q;rw[q,hoc]at e;have q':oc=p.2:=Option.some.inj e;exact d w' (by rw[←q'];exact hocd)
theorem iJ{M:Model}{A:Around}{E:Value→Shared→Prop}{i:Nat}{x:Str}{v:V}{u:Value}{Q:Unit→Shared→Prop}(I:Inv X pins σ H s)(hN:X.N.Nodup)(hi:X.N[i]?=some x)(hx:Loc X.env.scope x)(r:aS v u)(h:∀s',Inv X pins (σ.set i (some v)) H s'→Q () s')(hf:X.fn x=true∨X.env.scope.names.lookup x=some .local:=by first|exact .inl rfl|exact .inr rfl|assumption):wpAny M A (storeName X.env x u) Q E s :=
 hJ I hN hi hx r (λs' I' _=>h s' I') hf
theorem Inv.call'{s':Shared}{ch:List Addr}(I:Inv X pins σ H s)(ho:s'.os=s.os)(u:Un (frs X.stack) ch H H' s.heap s'.heap)(hok:HOk X.prog X.w H' s'.heap)(hg:AllBare s'.gens)(hch:∀b∈ch,(b∈X.ex∨X.s₀.heap.objs.size≤b)∧b≠X.env.locals∧(∀x c,X.env.cells.lookup x=some c→c≠b)∧∀p∈X.pn++pins,p.1≠b):Inv X pins σ H' s':=by
 obtain⟨h',g',d',t',o'⟩:=s';have e:o'=s.os:=ho;subst e;exact I.call (g':=g') (t':=t') (d':=d') u hok hg hch
end
abbrev XK:=Value→Option Addr→Hp→Prop
abbrev St:=List (Option V)
abbrev VK:=V→Hp→Prop
abbrev TE:=St→Hp→VK→Prop
abbrev TT:=St→Hp→(Bool→Hp→Prop)→Prop
abbrev TA:=St→Hp→(List V→Hp→Prop)→Prop
structure Ends where
 nx:St→Hp→Prop
 rt:VK
 bk:St→Hp→Prop:=λ_ _=>False
 ct:St→Hp→Prop:=λ_ _=>False
abbrev TS:=Ends→St→Hp→Prop
def EP(X:Cx)(pins:List (Addr×Obj))(σ:St)(Q:VK)(u:Value)(s':Shared):Prop:=∃v H',Inv X pins σ H' s'∧aS v u∧Q v H'
def TP(X:Cx)(pins:List (Addr×Obj))(σ:St)(Q:Bool→Hp→Prop)(b:Bool)(s':Shared):Prop:=∃H',Inv X pins σ H' s'∧Q b H'
def AP(X:Cx)(pins:List (Addr×Obj))(σ:St)(Q:List V→Hp→Prop)(us:List Value)(s':Shared):Prop:=∃vs H',Inv X pins σ H' s'∧aN vs us∧Q vs H'
def SP(X:Cx)(pins:List (Addr×Obj))(D:Ends)(f:Flow)(s':Shared):Prop :=
 match f with
 |.next=>∃σ' H',Inv X pins σ' H' s'∧D.nx σ' H'
 |.brk=>∃σ' H',Inv X pins σ' H' s'∧D.bk σ' H'
 |.cont=>∃σ' H',Inv X pins σ' H' s'∧D.ct σ' H'
 |.ret u=>∃v σ' H',Inv X pins σ' H' s'∧aS v u∧D.rt v H'
def PE(X:Cx)(e:Expr)(t:TE):Prop :=
 ∀(pins:List (Addr×Obj))(s:Shared)(σ:St)(H:Hp)(Q:VK),Inv X pins σ H s→t σ H Q→wpAny (model X.prog X.w) X.A (eval e X.env) (EP X pins σ Q) X.xe s
def PT(X:Cx)(e:Expr)(t:TT):Prop :=
 ∀(pins:List (Addr×Obj))(s:Shared)(σ:St)(H:Hp)(Q:Bool→Hp→Prop),Inv X pins σ H s→t σ H Q→wpAny (model X.prog X.w) X.A (isTrue e X.env (eval e X.env)) (TP X pins σ Q) X.xe s
def PW(X:Cx)(e:Expr)(t:TT):Prop :=
 ∀(whole:Sem Value)(pins:List (Addr×Obj))(s:Shared)(σ:St)(H:Hp)(Q:Bool→Hp→Prop),Inv X pins σ H s→t σ H Q→wpAny (model X.prog X.w) X.A (isTrue e X.env whole) (TP X pins σ Q) X.xe s
theorem PW.pt{X:Cx}{e:Expr}{t:TT}(h:PW X e t):PT X e t:=h _
def PA(X:Cx)(es:List Expr)(t:TA):Prop :=
 ∀(pos:Pos)(pins:List (Addr×Obj))(s:Shared)(σ:St)(H:Hp)(Q:List V→Hp→Prop),Inv X pins σ H s→t σ H Q→wpAny (model X.prog X.w) X.A (spliced (backTo pos (starEach es X.env))) (AP X pins σ Q) X.xe s
def PS(X:Cx)(st:Stmt)(t:TS):Prop :=
 ∀(pins:List (Addr×Obj))(s:Shared)(σ:St)(H:Hp)(D:Ends),Inv X pins σ H s→t D σ H→wpAny (model X.prog X.w) X.A (exec st X.env) (SP X pins D) X.xe s
def PSs(X:Cx)(st:List Stmt)(t:TS):Prop :=
 ∀(pins:List (Addr×Obj))(s:Shared)(σ:St)(H:Hp)(D:Ends),Inv X pins σ H s→t D σ H→wpAny (model X.prog X.w) X.A (execs st X.env) (SP X pins D) X.xe s
theorem thn{α:Type}{t:Sem α}{Q Q':α→Shared→Prop}{M:Model}{A:Around}{E:Value→Shared→Prop}{s:Shared}(h:wpAny M A t Q E s)(hQ:∀a s,Q a s→Q' a s):wpAny M A t Q' E s:=wpAny_mono h hQ λ_ _ x=>x
section
variable{X:Cx}
theorem bin{a b:Expr}{ta tb:TE}(ha:PE X a ta)(hb:PE X b tb){pins:List (Addr×Obj)}{s:Shared}{σ:St}{H:Hp}{R:V→V→Hp→Prop}(I:Inv X pins σ H s)(h:ta σ H λx H1=>tb σ H1 λy H2=>R x y H2){α:Type}{Q:α→Shared→Prop}{f:Value→Value→Sem α}(hf:∀v u s2 x y H2,Inv X pins σ H2 s2→aS x v→aS y u→R x y H2→wpAny (model X.prog X.w) X.A (f v u) Q X.xe s2):
  wpAny (model X.prog X.w) X.A (eval a X.env) (λv s₁=>wpAny (model X.prog X.w) X.A (eval b X.env) (λu s₂=>wpAny (model X.prog X.w) X.A (f v u) Q X.xe s₂) X.xe s₁) X.xe s:=by
 refine thn (ha pins s σ H _ I h) λv s1 hpt=>?_;obtain⟨x,H1,I1,r1,q1⟩:=hpt;refine thn (hb pins s1 σ H1 _ I1 q1) λu s2 hpt=>?_;obtain⟨y,H2,I2,r2,q2⟩:=hpt;exact hf v u s2 x y H2 I2 r1 r2 q2
def gv(i:Nat):TE:=λσ H Q=>∃v,σ[i]?=some (some v)∧Q v H
def tC(v:V):TE:=λ_ H Q=>Q v H
theorem uC{i:Nat}{x:Str}{pos:Pos}(hN:X.N[i]?=some x)(hv:Vis X.env.scope x)(hd:(x==("__debug__":Str))=false:=by decide)(hcd:(x==("__classdict__":Str))=false:=by decide):PE X (.Name x pos) (gv i):=by
 intro pins s σ H Q I h;obtain⟨v,e,h⟩:=h;obtain⟨m,hn,hl⟩:=I.loc;obtain⟨u,r,l⟩:=hl i x v hN e hv;have fin:EP X pins σ Q u s:=⟨v,H,I,r,h⟩;rcases l with⟨hk,hm⟩|⟨hk,c,hc,hcell⟩
 ·exact wpAny_Name (wpAny_loadName_local I.ok.kind hk hn hm fin) hd
 ·rcases hk with hk|hk
  ·exact wpAny_Name (wpAny_loadName_cell I.ok.kind hk hc hcell fin) hd
  ·exact wpAny_Name (wpAny_loadName_free I.ok.kind hk hc hcell fin hcd) hd
theorem ag{i j pos}:PE X (.Constant (.int i) j pos) (tC (.int i)):=λ_ _ _ H _ I h=>wpAny_Constant_int ⟨.int i,H,I.tok _,⟨_,rfl⟩,h⟩
theorem io{b j pos}:PE X (.Constant (.bool b) j pos) (tC (.bl b)):=λ_ _ _ H _ I h=>Constant_bool ⟨.bl b,H,I,rfl,h⟩
theorem cq{j pos}:PE X (.Constant .none j pos) (tC .non):=λ_ _ _ H _ I h=>Constant_none ⟨.non,H,I,rfl,h⟩
theorem aM{x j pos}:PE X (.Constant (.str x) j pos) (tC (.str x)):=λ_ _ _ H _ I h=>Calls.Constant_str ⟨.str x,H,I.tok _,⟨_,rfl⟩,h⟩
def Gl(X:Cx)(x:Str):Prop:=X.env.kindOf x=some .globalImplicit
theorem jX{E:Value→Shared→Prop}{pins:List (Addr×Obj)}{s:Shared}{σ:St}{H:Hp}{x:Str}{u:Value}{pos:Pos}{Q:Value→Shared→Prop}(I:Inv X pins σ H s)(hg:Gl X x)(hm:X.mg x=some u)(h:Q u s)(hd:(x==("__debug__":Str))=false:=by decide):wpAny (model X.prog X.w) X.A (eval (.Name x pos) X.env) Q E s :=
 Calls.Name_function_global I.ok.kind hg (Calls.loadGlobal_global (by rw[I.ok.glob];exact I.mod.glob.keeps I.bk) hm h) hd
theorem jY{E:Value→Shared→Prop}{pins:List (Addr×Obj)}{s:Shared}{σ:St}{H:Hp}{x:Str}{u:Value}{pos:Pos}{Q:Value→Shared→Prop}(I:Inv X pins σ H s)(hg:Gl X x)(hm:X.mg x=none)(hv:bootBuiltins x=some u)(h:Q u s)(hn:x≠"__name__":=by decide)(hd:(x==("__debug__":Str))=false:=by decide):wpAny (model X.prog X.w) X.A (eval (.Name x pos) X.env) Q E s:=by
 obtain⟨mb,h1,h2⟩:=I.mod.blt;exact Calls.Name_function_global I.ok.kind hg (Calls.loadGlobal_builtin (by rw[I.ok.glob];exact I.mod.glob.keeps I.bk) hm (by rw[I.ok.blt];exact h1.keeps I.bk) ((h2 x hn).trans hv) h) hd
theorem dg{x:Str}{v:V}{u:Value}{pos:Pos}(hg:Gl X x)(hm:X.mg x=some u)(r:aS v u)(hd:(x==("__debug__":Str))=false:=by decide):PE X (.Name x pos) (tC v) :=
 λ_ _ _ H _ I h=>jX I hg hm ⟨v,H,I,r,h⟩ hd
theorem rW{x:Str}{v:V}{u:Value}{pos:Pos}(hg:Gl X x)(hm:X.mg x=none)(hv:bootBuiltins x=some u)(r:aS v u)(hn:x≠"__name__":=by decide)(hd:(x==("__debug__":Str))=false:=by decide):PE X (.Name x pos) (tC v) :=
 λ_ _ _ H _ I h=>jY I hg hm hv ⟨v,H,I,r,h⟩ hn hd
def t2I(ta tb:TE)(k:Int→Int→Hp→Prop):St→Hp→Prop:=λσ H=>ta σ H λx H1=>tb σ H1 λy H2=>∃i j,x=.int i∧y=.int j∧k i j H2
def xf(ta tb:TE):TE:=λσ H Q=>t2I ta tb (λi j H2=>Q (.int (i+j)) H2) σ H
variable{a b:Expr}{ta tb:TE}{pos:Pos}
theorem uD(ha:PE X a ta)(hb:PE X b tb):PE X (.BinOp a .Add b pos) (xf ta tb):=by
 intro pins s σ H Q I h;refine wpAny_BinOp (bin ha hb I h λv u s2 x y H2 I2 rx ry q=>?_);obtain⟨i,j,rfl,rfl,q⟩:=q;obtain⟨t,rfl⟩:=rx;obtain⟨t',rfl⟩:=ry;exact add_int ⟨.int _,H2,I2.tok _,⟨_,rfl⟩,q⟩
def PC(X:Cx)(op:CmpOp)(a b:Expr)(t:TE):Prop :=
 ∀(pins:List (Addr×Obj))(s:Shared)(σ:St)(H:Hp)(Q:VK),Inv X pins σ H s→t σ H Q →
  wpAny (model X.prog X.w) X.A (eval a X.env) (λv s₁=>wpAny (model X.prog X.w) X.A (eval b X.env) (λu s₂=>wpAny (model X.prog X.w) X.A (compareOp op v u) (EP X pins σ Q) X.xe s₂) X.xe s₁) X.xe s
def tB(t:TE):TT:=λσ H Q=>t σ H λx H1=>∃c,x=.bl c∧Q c H1
theorem bT{op:CmpOp}{t:TE}(h:PC X op a b t)(h1:behindInMarks op b=false:=by first|exact nobehind _ (by decide) (by decide)|rfl):PT X (.Compare a [op] [b] pos) (tB t):=by
 intro pins s σ H Q I hw;refine wpAny_isTrue_Compare1 (thn (h pins s σ H _ I hw) λv s1 h1=>thn h1 λu s2 h2=>thn h2 λc s3 ⟨x,H1,I1,r1,q1⟩=>?_) h1;obtain⟨d,rfl,q⟩:=q1;cases r1;exact wpAny_truthy_bool ⟨H1,I1,q⟩
theorem iK{e:Expr}{t:TE}(h:PE X e t)(he:∀whole,isTrue e X.env whole=(do let v ← whole;standAt e.pos;holding [v] (truthy v)):=by intro _;rfl):PT X e (tB t):=by
 intro pins s σ H Q I hw;refine isTrue_plain (thn (h pins s σ H _ I hw) λv s1 ⟨x,H1,I1,r1,q1⟩=>?_) (he _);obtain⟨d,rfl,q⟩:=q1;cases r1;exact wpAny_truthy_bool ⟨H1,I1,q⟩
variable{tA tB':TT}{rest:List Expr}
def xg(t u:TT):TT:=λσ H Q=>t σ H λc H1=>if c=true then u σ H1 Q else Q false H1
def tOr(t u:TT):TT:=λσ H Q=>t σ H λc H1=>if c=true then Q true H1 else u σ H1 Q
def xh(t:TT):TT:=λσ H Q=>t σ H λc H1=>Q (!c) H1
theorem pw_and1(ha:PT X a tA):PW X (.BoolOp .And [a] pos) tA:=by
 intro wh pins s σ H Q I h;refine isTrue_and (thn (ha pins s σ H Q I h) λc s1 e=>?_);cases c with
 |true=>exact isTrue_and_nil e
 |false=>exact e
theorem pw_or1(ha:PT X a tA):PW X (.BoolOp .Or [a] pos) tA:=by
 intro wh pins s σ H Q I h;refine isTrue_or (thn (ha pins s σ H Q I h) λc s1 e=>?_);cases c with
 |false=>exact isTrue_or_nil e
 |true=>exact e
theorem pw_and(ha:PT X a tA)(hb:PW X (.BoolOp .And (b::rest) pos) tB'):PW X (.BoolOp .And (a::b::rest) pos) (xg tA tB'):=by
 intro wh pins s σ H Q I h;refine isTrue_and (thn (ha pins s σ H _ I h) λc s1 hpt=>?_);obtain⟨H1,I1,q1⟩:=hpt;cases c with
 |true=>exact hb wh pins s1 σ H1 Q I1 q1
 |false=>exact⟨H1,I1,q1⟩
theorem pw_or(ha:PT X a tA)(hb:PW X (.BoolOp .Or (b::rest) pos) tB'):PW X (.BoolOp .Or (a::b::rest) pos) (tOr tA tB'):=by
 intro wh pins s σ H Q I h;refine isTrue_or (thn (ha pins s σ H _ I h) λc s1 hpt=>?_);obtain⟨H1,I1,q1⟩:=hpt;cases c with
 |true=>exact⟨H1,I1,q1⟩
 |false=>exact hb wh pins s1 σ H1 Q I1 q1
theorem md(ha:PT X a tA):PT X (.UnaryOp .Not a pos) (xh tA):=by
 intro pins s σ H Q I h;exact isTrue_not (ha pins s σ H (λc H1=>Q (!c) H1) I h)
def wu(ta tb:TE):TE:=λσ H Q=>ta σ H λx H1=>∃c,x=.bl c∧if c=true then tb σ H1 Q else Q (.bl false) H1
theorem uE{op}{t:TE}(h:PE X a t):PE X (.BoolOp op [a] pos) t:=λpins s σ H Q I hw=>BoolOp_one (h pins s σ H Q I hw)
theorem uF(ha:PE X a ta)(hb:PE X (.BoolOp .And (b::rest) pos) tb):PE X (.BoolOp .And (a::b::rest) pos) (wu ta tb):=by
 intro pins s σ H Q I h;refine BoolOp_and (thn (ha pins s σ H _ I h) λv s1 hpt=>?_);obtain⟨x,H1,I1,r1,q1⟩:=hpt;obtain⟨c,rfl,q1⟩:=q1;cases r1;refine wpAny_truthy_bool ?_;cases c with
 |true=>exact hb pins s1 σ H1 Q I1 q1
 |false=>exact⟨.bl false,H1,I1,rfl,q1⟩
def tIf(t:TT)(ta tb:TE):TE:=λσ H Q=>t σ H λc H1=>if c=true then ta σ H1 Q else tb σ H1 Q
theorem iL{c:Expr}(hc:PT X c tA)(ha:PE X a ta)(hb:PE X b tb):PE X (.IfExp c a b pos) (tIf tA ta tb):=by
 intro pins s σ H Q I h;refine wpAny_IfExp (thn (hc pins s σ H _ I h) λd s1 hpt=>?_);obtain⟨H1,I1,q1⟩:=hpt;cases d with
 |true=>exact ha pins s1 σ H1 Q I1 q1
 |false=>exact hb pins s1 σ H1 Q I1 q1
end
def SqL(K:PySem.W.Frag)(H:Hp)(a:Addr)(xs:List V):Prop :=
 Rd H a (.lst xs) ∨
  ∃(o:Obj) (its:Array Value) (n:Nat),K.lookup a=some o∧o.cls=.type "list"∧o.dict=none∧o.data=.seq its n∧its.size≤sizeLine∧aN xs its.toList
def SqT(K:PySem.W.Frag)(H:Hp)(a:Addr)(xs:List V):Prop :=
 Rd H a (.tup xs) ∨
  ∃(o:Obj) (its:Array Value) (n:Nat),K.lookup a=some o∧o.cls=.type "tuple"∧o.data=.seq its n∧its.size≤sizeLine∧aN xs its.toList
def xi:Value→Option V
 |.none=>some .non
 |.bool b=>some (.bl b)
 |.int i _=>some (.int i)
 |.str x _=>some (.str x)
 |.bytes b _=>some (.byt b)
 |.float b _=>some (.flt b)
 |.ref a=>some (.ref a)
 |.type n=>some (.ty n)
 |_=>none
theorem aS.abs{x:V}{u:Value}(r:aS x u):xi u=some x:=by
 cases x with
 |non=>cases r;rfl
 |bl _=>cases r;rfl
 |int _=>obtain⟨t,rfl⟩:=r;rfl
 |str _=>obtain⟨t,rfl⟩:=r;rfl
 |byt _=>obtain⟨t,rfl⟩:=r;rfl
 |flt _=>obtain⟨t,rfl⟩:=r;rfl
 |ref _=>cases r;rfl
 |ty _=>cases r;rfl
theorem aS.inj{x y:V}{u:Value}(r:aS x u)(q:aS y u):x=y:=Option.some.inj (r.abs.symm.trans q.abs)
theorem aN.inj:∀{xs ys:List V}{us:List Value},aN xs us→aN ys us→xs=ys
 |_,_,_,.nil,.nil=>rfl
 |_,_,_,.cons r t,.cons r' t'=>by rw[r.inj r',aN.inj t t']
section
variable{X:Cx}{pins:List (Addr×Obj)}{σ:St}{H:Hp}{s:Shared}{a:Addr}{xs ys:List V}
theorem SqL.of{K:PySem.W.Frag}(h:H a=some (.lst xs)):SqL K H a xs:=.inl (.inl h)
theorem SqT.of{K:PySem.W.Frag}(h:H a=some (.tup xs)):SqT K H a xs:=.inl (.inl h)
theorem Inv.list(I:Inv X pins σ H s)(h:SqL X.K H a xs):∃its:List Value,aN xs its∧PlainL s.heap a its.toArray∧xs.length≤sizeLine:=by
 rcases h with h|⟨o,its,n,hk,hc,hd,hs,hz,r⟩
 ·obtain⟨z,its,n,r,e⟩:=h.ok I.hok;exact⟨its,r,⟨_,n,e,rfl,rfl,rfl⟩,z⟩
 ·refine⟨its.toList,r,⟨o,n,I.kIn a o hk,hc,hd,by simpa using hs⟩,?_⟩
  have e:=r.length;simp only[length_toList]at e;omega
theorem Inv.tuple(I:Inv X pins σ H s)(h:SqT X.K H a xs):∃its:List Value,aN xs its∧IsTup s.heap a its.toArray∧xs.length≤sizeLine:=by
 rcases h with h|⟨o,its,n,hk,hc,hs,hz,r⟩
 ·obtain⟨z,its,r,p⟩:=h.ok I.hok;exact⟨its,r,p,z⟩
 ·refine⟨its.toList,r,⟨o,I.kIn a o hk,hc,n,by simpa using hs⟩,?_⟩
  have e:=r.length;simp only[length_toList]at e;omega
theorem Inv.list_inj(I:Inv X pins σ H s)(h:SqL X.K H a xs)(h':SqL X.K H a ys):xs=ys:=by
 obtain⟨its,r,⟨o,n,e,_,_,d⟩,_⟩:=I.list h;obtain⟨its',r',⟨o',n',e',_,_,d'⟩,_⟩:=I.list h';rw[e]at e';cases e';rw[d]at d';injection d' with d1 _
 have:its=its':=by simpa using congrArg toList d1
 subst this;exact r.inj r'
theorem Inv.tuple_inj(I:Inv X pins σ H s)(h:SqT X.K H a xs)(h':SqT X.K H a ys):xs=ys:=by
 obtain⟨its,r,⟨o,e,_,n,d⟩,_⟩:=I.tuple h;obtain⟨its',r',⟨o',e',_,n',d'⟩,_⟩:=I.tuple h';rw[e]at e';cases e';rw[d]at d';injection d' with d1 _
 have:its=its':=by simpa using congrArg toList d1
 subst this;exact r.inj r'
end
abbrev Cx.wish(X:Cx)(E:Value→Shared→Prop):Cx:={X with xe:=E}
abbrev Cx.nox(X:Cx):Cx:=X.wish λ_ _=>False
theorem Cx.Ok.wish{X:Cx}(ok:X.Ok)(E:Value→Shared→Prop):(X.wish E).Ok :=
 ⟨ok.mod,ok.kind,ok.glob,ok.blt,ok.above,ok.inj,ok.has,ok.cab,ok.hd,ok.frames,ok.stk,ok.exf,ok.bs,ok.bsz,ok.noex,ok.exfs,ok.funs,ok.frf⟩
theorem Cx.Ok.unwish{X:Cx}{E:Value→Shared→Prop}(ok:(X.wish E).Ok):X.Ok :=
 ⟨ok.mod,ok.kind,ok.glob,ok.blt,ok.above,ok.inj,ok.has,ok.cab,ok.hd,ok.frames,ok.stk,ok.exf,ok.bs,ok.bsz,ok.noex,ok.exfs,ok.funs,ok.frf⟩
section
variable{X:Cx}{pins:List (Addr×Obj)}{σ:St}{H:Hp}{s:Shared}{E:Value→Shared→Prop}
theorem Inv.wish(I:Inv X pins σ H s)(E:Value→Shared→Prop):Inv (X.wish E) pins σ H s:=⟨I.ok.wish E,I.os,I.bare,I.base,I.loc,I.cell,I.free,I.freeC,I.pin,I.hok,I.len⟩
theorem Inv.unwish(I:Inv (X.wish E) pins σ H s):Inv X pins σ H s:=⟨I.ok.unwish,I.os,I.bare,I.base,I.loc,I.cell,I.free,I.freeC,I.pin,I.hok,I.len⟩
theorem SP.unwish{D:Ends}{f:Flow}{s':Shared}(h:SP (X.wish E) pins D f s'):SP X pins D f s':=by
 cases f with
 |next=>obtain⟨σ',H',I,q⟩:=h;exact⟨σ',H',I.unwish,q⟩
 |brk=>obtain⟨σ',H',I,q⟩:=h;exact⟨σ',H',I.unwish,q⟩
 |cont=>obtain⟨σ',H',I,q⟩:=h;exact⟨σ',H',I.unwish,q⟩
 |ret u=>obtain⟨v,σ',H',I,r,q⟩:=h;exact⟨v,σ',H',I.unwish,r,q⟩
theorem PSs.nox{st:List Stmt}{t:TS}(h:PSs X.nox st t):PSs X st t:=λpins s σ H D I hw =>
 wpAny_mono (h pins s σ H D (I.wish _) hw) (λ_ _ q=>q.unwish) λ_ _ z=>False.elim z
end
section
variable{X:Cx}{st:Stmt}{rest:List Stmt}{t u:TS}{e:Expr}{te:TE}{pos:Pos}
def wv:TS:=λD σ H=>D.nx σ H
def jm(t u:TS):TS:=λD σ H=>t {D with nx:=u D} σ H
theorem aH:PSs X [] wv:=λ_ _ σ H _ I h=>wpAny_execs_nil ⟨σ,H,I,h⟩
theorem ae(h1:PS X st t)(h2:PSs X rest u):PSs X (st::rest) (jm t u):=by
 intro pins s σ H D I h;refine wpAny_execs_cons (thn (h1 pins s σ H {D with nx:=u D} I h) λf s1 q=>?_);cases f with
 |next =>
  obtain⟨σ',H',I',q⟩:=q;exact h2 pins s1 σ' H' D I' q
 |ret v=>exact q
 |brk=>exact q
 |cont=>exact q
theorem aj(h1:PS X st t):PSs X [st] t:=by
 intro pins s σ H D I h;refine wpAny_execs_cons (thn (h1 pins s σ H D I h) λf s1 q=>?_);cases f with
 |next=>exact wpAny_execs_nil q
 |ret v=>exact q
 |brk=>exact q
 |cont=>exact q
theorem Inv.quiet{pins:List (Addr×Obj)}{σ:St}{H:Hp}{s:Shared}(I:Inv X pins σ H s):interactive X.env=false:=by simp[interactive,I.ok.kind]
def tW(te:TE):TS:=λD σ H=>te σ H λ_ H1=>D.nx σ H1
theorem bY(he:PE X e te)(hs:swapsWith e none pos.line X.env=pure false:=by rfl):PS X (.Expr e pos) (tW te):=by
 intro pins s σ H D I h;exact wpAny_Expr_any (thn (he pins s σ H _ I h) λv s1 ⟨x,H1,I1,r1,q1⟩=>⟨σ,H1,I1,q1⟩) I.quiet hs
def uG(te:TE):TS:=λD σ H=>te σ H D.rt
theorem aD(he:PE X e te):PS X (.Return (some e) pos) (uG te):=by
 intro pins s σ H D I h;exact wpAny_Return_some (thn (he pins s σ H _ I h) λv s1 ⟨x,H1,I1,r1,q1⟩=>⟨x,σ,H1,I1,r1,q1⟩)
def xj(c:TT)(t u:TS):TS:=λD σ H=>c σ H λb H1=>if b=true then t D σ H1 else u D σ H1
theorem be{c:Expr}{a b:List Stmt}{tc:TT}(hc:PT X c tc)(ha:PSs X a t)(hb:PSs X b u):PS X (.If c a b pos) (xj tc t u):=by
 intro pins s σ H D I h;refine wpAny_If (thn (hc pins s σ H _ I h) λd s1 hpt=>?_);obtain⟨H1,I1,q1⟩:=hpt;cases d with
 |true=>exact ha pins s1 σ H1 D I1 q1
 |false=>exact hb pins s1 σ H1 D I1 q1
def uH:TS:=λ_ _ _=>False
theorem pU:PS X st uH:=λ_ _ _ _ _ _ h=>h.elim
end
abbrev TG:=V→St→Hp→(St→Hp→Prop)→Prop
def PG(X:Cx)(target:Expr)(t:TG):Prop :=
 ∀(pins:List (Addr×Obj))(s:Shared)(σ:St)(H:Hp)(v:V)(u:Value)(Q:St→Hp→Prop),Inv X pins σ H s→aS v u→t v σ H Q →
  wpAny (model X.prog X.w) X.A (assign target X.env u) (λ_ s'=>∃σ' H',Inv X pins σ' H' s'∧Q σ' H') X.xe s
abbrev TIp:=V→V→Hp→VK→Prop
def PIp(X:Cx)(op:Operator)(t:TIp):Prop :=
 ∀(pins:List (Addr×Obj))(s:Shared)(σ:St)(H:Hp)(x y:V)(v u:Value)(Q:VK),Inv X pins σ H s→aS x v→aS y u→t x y H Q →
  wpAny (model X.prog X.w) X.A (inplaceOp op v u) (EP X pins σ Q) X.xe s
section
variable{X:Cx}{pos:Pos}
def aZ(i:Nat):TG:=λv σ H Q=>Q (σ.set i (some v)) H
theorem aE{i:Nat}{x:Str}(hN:X.N.Nodup)(hi:X.N[i]?=some x)(hx:Loc X.env.scope x)(hf:X.fn x=true∨X.env.scope.names.lookup x=some .local:=by first|exact .inl rfl|exact .inr rfl|assumption):PG X (.Name x pos) (aZ i):=by
 intro pins s σ H v u Q I r h;exact wpAny_assign_Name (iJ I hN hi hx r (λs' I'=>⟨_,H,I',h⟩) hf)
def uI(te:TE)(g:TG):TS:=λD σ H=>te σ H λx H1=>g x σ H1 D.nx
theorem ap{i:Nat}{x:Str}{e:Expr}{te:TE}{pos':Pos}(hN:X.N.Nodup)(hi:X.N[i]?=some x)(hx:Loc X.env.scope x)(he:PE X e te)(hs:swapsWith e (some (.Name x pos')) pos.line X.env=pure false:=by rfl)(hf:X.fn x=true∨X.env.scope.names.lookup x=some .local:=by first|exact .inl rfl|exact .inr rfl|assumption):
  PS X (.Assign [.Name x pos'] e pos) (uI te (aZ i)):=by
 intro pins s σ H D I h;refine wpAny_Assign_Name (thn (he pins s σ H _ I h) λv s1 ⟨y,H1,I1,r1,q1⟩=>?_) hs;exact iJ I1 hN hi hx r1 (λs2 I2=>⟨_,H1,I2,q1⟩) hf
def xk(i:Nat)(te:TE)(ti:TIp):TS:=λD σ H=>∃x,σ[i]?=some (some x)∧te σ H λy H1=>ti x y H1 λz H2=>D.nx (σ.set i (some z)) H2
theorem uJ{i:Nat}{x:Str}{e:Expr}{te:TE}{op:Operator}{ti:TIp}{pos':Pos}(hN:X.N.Nodup)(hi:X.N[i]?=some x)(hx:Loc X.env.scope x)(he:PE X e te)(ho:PIp X op ti)(hf:X.fn x=true∨X.env.scope.names.lookup x=some .local:=by first|exact .inl rfl|exact .inr rfl|assumption):
  PS X (.AugAssign (.Name x pos') op e pos) (xk i te ti):=by
 intro pins s σ H D I h;obtain⟨v,e1,h⟩:=h;obtain⟨m,hn,hl⟩:=I.loc;have vis:Vis X.env.scope x:=by rcases hx with k|k;exact .inl k;exact .inr (.inl k)
 obtain⟨u,r,l⟩:=hl i x v hi e1 vis;refine wpAny_AugAssign_Name ?_;have go:wpAny (model X.prog X.w) X.A (eval e X.env) (λw s₂=>wpAny (model X.prog X.w) X.A (inplaceOp op u w) (λr s₃=>wpAny (model X.prog X.w) X.A (storeName X.env x r) (λ_=>SP X pins D .next) X.xe s₃) X.xe s₂) X.xe s:=by
  refine thn (he pins s σ H _ I h) λw s1 hpt=>?_;obtain⟨y,H1,I1,r1,q1⟩:=hpt;refine thn (ho pins s1 σ H1 v y u w _ I1 r r1 q1) λz s2 hpt=>?_;obtain⟨zv,H2,I2,r2,q2⟩:=hpt;exact iJ I2 hN hi hx r2 (λs3 I3=>⟨_,H2,I3,q2⟩) hf
 rcases l with⟨hk,hm⟩|⟨hk,c,hc,hcell⟩
 ·exact wpAny_loadName_local I.ok.kind hk hn hm go
 ·rcases hk with hk|hk
  ·exact wpAny_loadName_cell I.ok.kind hk hc hcell go
  ·rcases hx with k|k
   ·have:X.env.scope.names.lookup x=some .free:=hk;rw[k]at this;cases this
   ·have:X.env.scope.names.lookup x=some .free:=hk;rw[k]at this;cases this
def pV(c:TT)(tb:TS):TS:=λD σ H=>∃W:Nat→St→Hp→Prop,(∃m,W m σ H)∧∀m σ H,W m σ H →
 c σ H λb H1=>if b=true then ∃N:St→Hp→Prop,(∀σ' H',N σ' H'→∃m',m'<m∧W m' σ' H')∧tb {D with nx:=N,ct:=N,bk:=D.nx} σ H1 else D.nx σ H1
theorem ee{c:Expr}{body:List Stmt}{tc:TT}{tb:TS}(hp:PassesOwn (model X.prog X.w) X.A X.env X.xe)(hc:PT X c tc)(hb:PSs X body tb):PS X (.While c body [] pos) (pV tc tb):=by
 intro pins s σ H D I h;obtain⟨W,⟨m0,w0⟩,turn⟩:=h;refine wpAny_While (codeAny_whileLoop (λn s'=>∃σ' H',Inv X pins σ' H' s'∧W n σ' H') ?_ m0 ⟨σ,H,I,w0⟩);rintro n s1 ⟨σ1,H1,I1,w1⟩;refine wpAny_passesOwn hp (thn (hc pins s1 σ1 H1 _ I1 (turn n σ1 H1 w1)) λb s2 hpt=>?_);obtain⟨H2,I2,q2⟩:=hpt;cases b with
 |true =>
  obtain⟨N,hN,q2⟩:=q2;rw[if_pos rfl];refine wpAny_passesOwn hp (thn (hb pins s2 σ1 H2 _ I2 q2) λf s3 q3=>?_);cases f with
  |next =>
   obtain⟨σ3,H3,I3,n3⟩:=q3;obtain⟨m',hm,w3⟩:=hN σ3 H3 n3;exact⟨m',hm,σ3,H3,I3,w3⟩
  |cont =>
   obtain⟨σ3,H3,I3,n3⟩:=q3;obtain⟨m',hm,w3⟩:=hN σ3 H3 n3;exact⟨m',hm,σ3,H3,I3,w3⟩
  |brk=>exact q3
  |ret v=>exact q3
 |false =>
  rw[if_neg Bool.false_ne_true];exact wpAny_execs_nil ⟨σ1,H2,I2,q2⟩
end
structure It where
 go:Nat→Hp→Prop
 yld:Nat→Hp→V→Hp→Prop
 stop:Nat→Hp→Prop
def dJ(X:Cx)(pins:List (Addr×Obj))(H:Hp)(b:Addr):Prop :=
 H b=none∧b≠X.env.locals∧b∉X.fs∧(b∈X.ex∨X.s₀.heap.objs.size≤b)∧(∀x c,X.env.cells.lookup x=some c→c≠b)∧∀p∈X.pn++pins,p.1≠b
theorem Inv.fpOk{X:Cx}{pins:List (Addr×Obj)}{σ:St}{H H':Hp}{s:Shared}{b:Addr}(I:Inv X pins σ H s)(hb:s.heap.objs.size≤b)(hn:H' b=none):dJ X pins H' b:=by
 refine⟨hn,ne_of_gt (lt_of_lt_of_le I.lt hb),I.nofs hb,.inr (le_trans I.sz hb),λx c e z=>?_,λp hp z=>?_⟩
 ·obtain⟨v,q⟩:=I.cell x c e;exact absurd (lt_of_lt_of_le q.lt (by rw[z];exact hb)) (lt_irrefl _)
 ·exact absurd (lt_of_lt_of_le (lt_size (I.pin p hp).1) (by rw[z];exact hb)) (lt_irrefl _)
structure Turn(P:Program)(w:World)(K:PySem.W.Frag)(tg:Expr)(J:It)(fp:List Addr)(it:Addr)(tn:Nat→Heap→Prop):Prop where
 mem:it∈fp
 obj:∀i h,tn i h→∀b∈fp,∃o,h.get? b=some o∧∀v,o.data≠.cell v
 keep:∀i h h',tn i h→(∀b∈fp,∀o,h.get? b=some o→h'.get? b=some o)→tn i h'
 item:∀(X:Cx),X.prog=P→X.w=w→X.K=K→X.calm=true→∀(i:Nat)(pins:List (Addr×Obj))(s:Shared)(σ:St)(H:Hp)(E:Value→Shared→Prop),Inv X pins σ H s→(∀b∈fp,dJ X pins H b)→tn i s.heap→J.go i H →
  wpAny (model P w) X.A (pyNext (.ref it)) (λr s1=>∃u,r=some u ∧
   wpAny (model P w) X.A (letOwnedTupleGo tg (.ref it) u) (λ_ s2=>∃x H',Inv X pins σ H' s2∧aS x u∧J.yld i H x H'∧tn (i+1) s2.heap∧∀b∈fp,H' b=none) E s1) E s
 done:∀(X:Cx),X.prog=P→X.w=w→X.K=K→X.calm=true→∀(i:Nat)(pins:List (Addr×Obj))(s:Shared)(σ:St)(H:Hp)(E:Value→Shared→Prop),Inv X pins σ H s→(∀b∈fp,dJ X pins H b)→tn i s.heap→J.stop i H →
  wpAny (model P w) X.A (pyNext (.ref it)) (λr s1=>r=none∧Inv X pins σ H s1) E s
 self:∀(A:Around)(i:Nat)(s:Shared)(Q:Value→Shared→Prop)(E:Value→Shared→Prop),tn i s.heap→Q (.ref it) s→wpAny (model P w) A (pyIter (.ref it)) Q E s
abbrev TI:=St→Hp→(It→Hp→Prop)→Prop
def PIE(X:Cx)(pins:List (Addr×Obj))(σ:St)(tg:Expr)(R:It→Hp→Prop)(itv:Value)(s2:Shared):Prop :=
 ∃(it:Addr) (fp:List Addr) (tn:Nat→Heap→Prop) (J:It) (H':Hp),itv=.ref it∧Inv X pins σ H' s2∧Turn X.prog X.w X.K tg J fp it tn∧tn 0 s2.heap∧(∀b∈fp,dJ X pins H' b)∧R J H'
def PI(X:Cx)(tg iter:Expr)(wi:TI):Prop :=
 ∀(pins:List (Addr×Obj))(s:Shared)(σ:St)(H:Hp)(R:It→Hp→Prop),Inv X pins σ H s→wi σ H R →
  wpAny (model X.prog X.w) X.A (eval iter X.env) (λv s1=>wpAny (model X.prog X.w) X.A (pyIter v) (PIE X pins σ tg R) X.xe s1) X.xe s
theorem nI{M:Model}{A:Around}{E:Value→Shared→Prop}{s:Shared}{tg:Expr}{it:Addr}{u:Value}{o:Obj}{n:String}{vs:Array Value}{Q:Unit→Shared→Prop}(ho:s.heap.get? it=some o)(hc:o.cls=.type n)(hd:o.data=.fields vs)(hn:["enumerate","zip","dict_itemiterator","dict_reverseitemiterator","odict_iterator","itertools.zip_longest","itertools.pairwise"].contains n=false)(hQ:Q () s):wpAny M A (letOwnedTupleGo tg (.ref it) u) Q E s:=by
 unfold letOwnedTupleGo;cases tg<;>first
  |exact wpAny_pure hQ
  | (cases u<;>first
    |exact wpAny_pure hQ
    | (refine wpAny_bind (wpAny_load ho ?_)
       rw[hc,hd];show wpAny M A (if (["enumerate","zip","dict_itemiterator","dict_reverseitemiterator","odict_iterator","itertools.zip_longest","itertools.pairwise"].contains n&&vs[0]?==some (rawInt _))=true then _ else _) Q E s
       rw[if_neg (by intro h;rw[hn,Bool.false_and]at h;cases h)];exact wpAny_pure hQ))
def Itl(K:PySem.W.Frag)(a:Addr):It :=
 ⟨λi H=>∃xs x,SqL K H a xs∧xs[i]?=some x,λi H x H'=>H'=H∧∀xs,SqL K H a xs→xs[i]?=some x,λi H=>∃xs,SqL K H a xs∧xs.length≤i⟩
def Itt(K:PySem.W.Frag)(a:Addr):It :=
 ⟨λi H=>∃xs x,SqT K H a xs∧xs[i]?=some x,λi H x H'=>H'=H∧∀xs,SqT K H a xs→xs[i]?=some x,λi H=>∃xs,SqT K H a xs∧xs.length≤i⟩
def Itr(lo:Int)(n:Nat):It:=⟨λi _=>i<n,λi H x H'=>H'=H∧x=.int (lo+i),λi _=>n≤i⟩
theorem oT{P:Program}{w:World}{K:PySem.W.Frag}{tg:Expr}(a it:Addr):Turn P w K tg (Itl K a) [it] it (λi h=>h.IsListIter it a i) where
 mem:=by simp
 obj:=λi h st b hb=>by
  have e:b=it:=by simpa using hb
  subst e;obtain⟨o,e,c,d⟩:=st;exact⟨o,e,λv z=>by rw[d]at z;cases z⟩
 keep:=λi h h' st k=>st.at λo e=>k it (by simp) o e
 item:=by
  intro X hP hw hK hc i pins s σ H E I hf st hg;subst hP hw hK;obtain⟨xs,x,hq,hx⟩:=hg;obtain⟨its,rv,p,hz⟩:=I.list hq;obtain⟨u,hu,ru⟩:=rv.get hx;obtain⟨f0,f1,f2,f3,f4,f5⟩:=hf it (by simp);refine wpAny_pyNext_list_item st p.isList (x:=u) (by simpa using hu) λh' st' sb=>?_;have I1:Inv X pins σ H {s with heap:=h'}:=I.turned (t':=s.toks) (λb o hb e=>(sb.2 b hb).trans e) f0 f1 f3 f4 f5
  obtain⟨o,e,c,d⟩:=id st';exact⟨u,rfl,nI (s:={s with heap:=h'}) e c d (by decide) ⟨x,H,I1,ru,⟨rfl,λys hy=>by rw[I.list_inj hy hq];exact hx⟩,st',λb hb=>(hf b hb).1⟩⟩
 done:=by
  intro X hP hw hK hc i pins s σ H E I hf st hg;subst hP hw hK;obtain⟨xs,hq,hx⟩:=hg;obtain⟨its,rv,p,hz⟩:=I.list hq;obtain⟨f0,f1,f2,f3,f4,f5⟩:=hf it (by simp);have hl:=rv.length;exact wpAny_pyNext_list_end (I.ok.hd hc) st p.isList (by simp;omega) λh' eb=>⟨rfl,I.turned (t':=s.toks) (λb o hb e=>eb b o hb e) f0 f1 f3 f4 f5⟩
 self:=λ_ _ _ _ _ st h=>wpAny_pyIter_listiter st h
theorem mh{P:Program}{w:World}{K:PySem.W.Frag}{tg:Expr}(a it:Addr):Turn P w K tg (Itt K a) [it] it (λi h=>h.IsTupleIter it a i) where
 mem:=by simp
 obj:=λi h st b hb=>by
  have e:b=it:=by simpa using hb
  subst e;obtain⟨o,e,c,d⟩:=st;exact⟨o,e,λv z=>by rw[d]at z;cases z⟩
 keep:=λi h h' st k=>st.at λo e=>k it (by simp) o e
 item:=by
  intro X hP hw hK hc i pins s σ H E I hf st hg;subst hP hw hK;obtain⟨xs,x,hq,hx⟩:=hg;obtain⟨its,rv,p,hz⟩:=I.tuple hq;obtain⟨u,hu,ru⟩:=rv.get hx;obtain⟨f0,f1,f2,f3,f4,f5⟩:=hf it (by simp);refine wpAny_pyNext_tuple_item st (show s.heap.IsTuple a its.toArray from p) (x:=u) (by simpa using hu) λh' st' sb=>?_;have I1:Inv X pins σ H {s with heap:=h'}:=I.turned (t':=s.toks) (λb o hb e=>(sb.2 b hb).trans e) f0 f1 f3 f4 f5
  obtain⟨o,e,c,d⟩:=id st';exact⟨u,rfl,nI (s:={s with heap:=h'}) e c d (by decide) ⟨x,H,I1,ru,⟨rfl,λys hy=>by rw[I.tuple_inj hy hq];exact hx⟩,st',λb hb=>(hf b hb).1⟩⟩
 done:=by
  intro X hP hw hK hc i pins s σ H E I hf st hg;subst hP hw hK;obtain⟨xs,hq,hx⟩:=hg;obtain⟨its,rv,p,hz⟩:=I.tuple hq;obtain⟨f0,f1,f2,f3,f4,f5⟩:=hf it (by simp);have hl:=rv.length;exact wpAny_pyNext_tuple_end (I.ok.hd hc) st (show s.heap.IsTuple a its.toArray from p) (by simp;omega) λh' eb=>⟨rfl,I.turned (t':=s.toks) (λb o hb e=>eb b o hb e) f0 f1 f3 f4 f5⟩
 self:=λ_ _ _ _ _ st h=>wpAny_pyIter_tupleiter st h
theorem ml{P:Program}{w:World}{K:PySem.W.Frag}{tg:Expr}(it:Addr)(lo:Int)(n:Nat):Turn P w K tg (Itr lo n) [it] it (λi h=>IsRangeIter h it (lo+(i:Nat)*1) ((n:Int)-(i:Nat)) 1) where
 mem:=by simp
 obj:=λi h st b hb=>by
  have e:b=it:=by simpa using hb
  subst e;exact⟨_,st,λv z=>by
   have z':Data.fields _=Data.cell v:=z;cases z'⟩
 keep:=λi h h' st k=>k it (by simp) _ st
 item:=by
  intro X hP hw hK hc i pins s σ H E I hf st hg;subst hP hw hK;obtain⟨f0,f1,f2,f3,f4,f5⟩:=hf it (by simp);have W:=Walks.range (prog:=X.prog) (w:=X.w) (I.ok.hd hc) it lo 1 n;refine W.item i s _ _ hg st λv h' tk hv st' kk=>?_;obtain⟨t,rfl⟩:=hv;have I1:Inv X pins σ H {s with heap:=h',toks:=tk}:=I.turned (λb o hb e=>kk b o (by simpa using hb) e) f0 f1 f3 f4 f5
  refine⟨_,rfl,nI (s:={s with heap:=h',toks:=tk}) (n:="range_iterator") st' rfl rfl (by decide) ⟨.int (lo+i),H,I1,⟨t,?_⟩,⟨rfl,rfl⟩,st',λb hb=>(hf b hb).1⟩⟩;rw[Int.mul_one]
 done:=by
  intro X hP hw hK hc i pins s σ H E I hf st hg;subst hP hw hK;obtain⟨f0,f1,f2,f3,f4,f5⟩:=hf it (by simp);exact wpAny_pyNext_range_end (I.ok.hd hc) st (by have:n≤i:=hg;omega) λh' eb=>⟨rfl,I.turned (t':=s.toks) (λb o hb e=>eb b o hb e) f0 f1 f3 f4 f5⟩
 self:=λ_ _ _ _ _ st h=>wpAny_pyIter_rangeiter st h
section
variable{X:Cx}{tg:Expr}
def tX(K:PySem.W.Frag)(tl:TE):TI:=λσ H R=>tl σ H λx H1=>∃a,x=.ref a∧(∃xs,SqL K H1 a xs)∧R (Itl K a) H1
def xl(K:PySem.W.Frag)(tl:TE):TI:=λσ H R=>tl σ H λx H1=>∃a,x=.ref a∧(∃xs,SqT K H1 a xs)∧R (Itt K a) H1
theorem cH{l:Expr}{tl:TE}(hl:PE X l tl):PI X tg l (tX X.K tl):=by
 intro pins s σ H R I h;refine thn (hl pins s σ H _ I h) λv s1 hpt=>?_;obtain⟨x,H1,I1,r1,q1⟩:=hpt;obtain⟨a,e,⟨xs,hq⟩,q⟩:=q1;subst e;cases r1;obtain⟨its,rv,p,hz⟩:=I1.list hq;refine wpAny_pyIter_list p.isList ?_;refine⟨s1.heap.objs.size,[s1.heap.objs.size],_,_,H1,rfl,I1.kept (t':=s1.toks) λb o e=>get?_push_of_some _ e,oT a _,⟨_,get?_push_size _ rfl,rfl,rfl⟩,λb hb=>?_,q⟩;have e:b=s1.heap.objs.size:=by simpa using hb
 subst e;exact I1.fpOk (le_refl _) (I1.hok.fresh (le_refl _))
theorem cC{l:Expr}{tl:TE}(hl:PE X l tl):PI X tg l (xl X.K tl):=by
 intro pins s σ H R I h;refine thn (hl pins s σ H _ I h) λv s1 hpt=>?_;obtain⟨x,H1,I1,r1,q1⟩:=hpt;obtain⟨a,e,⟨xs,hq⟩,q⟩:=q1;subst e;cases r1;obtain⟨its,rv,p,hz⟩:=I1.tuple hq;refine wpAny_pyIter_tuple (show s1.heap.IsTuple a its.toArray from p) ?_;refine⟨s1.heap.objs.size,[s1.heap.objs.size],_,_,H1,rfl,I1.kept (t':=s1.toks) λb o e=>get?_push_of_some _ e,mh a _,⟨_,get?_push_size _ rfl,rfl,rfl⟩,λb hb=>?_,q⟩;have e:b=s1.heap.objs.size:=by simpa using hb
 subst e;exact I1.fpOk (le_refl _) (I1.hok.fresh (le_refl _))
theorem pW{pins:List (Addr×Obj)}{σ:St}{H:Hp}{s:Shared}{R:It→Hp→Prop}{E:Value→Shared→Prop}{lo hi:Int}{t u v:Tok}{tk:Nat}(I:Inv X pins σ H s)(h1:-(2 ^ 62)≤lo)(h2:lo<2 ^ 62)(h3:-(2 ^ 62)≤hi)(h4:hi<2 ^ 62)(q:R (Itr lo (hi-lo).toNat) H):wpAny (model X.prog X.w) X.A (pyIter (.ref s.heap.objs.size)) (PIE X pins σ tg R) E {s with heap:=s.heap.push {cls:=.type "range",data:=.fields #[.int lo t,.int hi u,.int 1 v]},toks:=tk}:=by
 refine wpAny_pyIter_range (IsRange.new ..) (small_one h1 h2 h3 h4) ?_;have I1:Inv X pins σ H {s with heap:=s.heap.push {cls:=.type "range",data:=.fields #[.int lo t,.int hi u,.int 1 v]},toks:=tk}:=I.kept λb o e=>get?_push_of_some _ e
 refine⟨(s.heap.push {cls:=.type "range",data:=.fields #[.int lo t,.int hi u,.int 1 v]}).objs.size,[(s.heap.push {cls:=.type "range",data:=.fields #[.int lo t,.int hi u,.int 1 v]}).objs.size],_,_,H,rfl,
  I1.kept (t':=tk) λb o e=>get?_push_of_some _ e,ml _ lo (hi-lo).toNat,?_,λb hb=>?_,q⟩
 ·have e1:lo+((0:Nat):Int)*1=lo:=by simp
  have e2:(((hi-lo).toNat:Nat):Int)-((0:Nat):Int)=Builtin.Range.rangeSize lo hi 1:=by rw[rangeSize_one];split<;>omega
  show IsRangeIter _ _ (lo+((0:Nat):Int)*1) ((((hi-lo).toNat:Nat):Int)-((0:Nat):Int)) 1;rw[e1,e2];exact get?_push_size _ rfl
 ·have e:b=(s.heap.push {cls:=.type "range",data:=.fields #[.int lo t,.int hi u,.int 1 v]}).objs.size:=by simpa using hb
  subst e;exact I1.fpOk (le_refl _) (I1.hok.fresh (le_refl _))
def ww(ta:TA):TI:=λσ H R=>ta σ H λvs H1=>∃j:Int,vs=[.int j]∧-(2 ^ 62)≤j∧j<2 ^ 62∧R (Itr 0 j.toNat) H1
theorem jt{a:Expr}{ta:TA}{p pos:Pos}(hg:Gl X "range")(hm:X.mg "range"=none)(ha:PA X [a] ta)(hs:starEach [a] X.env=[(false,eval a X.env)]:=by rfl):PI X tg (.Call (.Name "range" p) [a] [] pos) (ww ta):=by
 intro pins s σ H R I h;refine Call_ (jY I hg hm boot_range (PyProof.Rows.callWith_type1 (thn (ha pos pins s σ H _ I h) λus s1 ⟨vs,H1,I1,r1,q1⟩=>?_) hs rfl));obtain⟨j,e,q1,q2,q⟩:=q1;subst e;cases r1 with
 |cons r rr =>
  cases rr;obtain⟨t,rfl⟩:=r;exact call_range_1 (pW I1 (by omega) (by omega) q1 q2 (by simpa using q))
def xm(wi:TI)(g:TG)(tb:TS):TS:=λD σ H=>wi σ H λJ H1=>∃W:Nat→Nat→St→Hp→Prop,(∃m,W 0 m σ H1)∧∀i m σ H,W i m σ H →
 (J.stop i H∧D.nx σ H)∨(J.go i H∧∃N:St→Hp→Prop,(∀σ' H',N σ' H'→∃m',m'<m∧W (i+1) m' σ' H')∧∀x H',J.yld i H x H'→g x σ H' λσ2 H2=>tb {D with nx:=N,ct:=N,bk:=D.nx} σ2 H2)
def jZ(fp:List Addr)(h:Heap):List (Addr×Obj):=fp.filterMap λb=>(h.get? b).map λo=>(b,o)
theorem aP{fp:List Addr}{h:Heap}{b:Addr}{o:Obj}(hb:b∈fp)(e:h.get? b=some o):(b,o)∈jZ fp h:=List.mem_filterMap.mpr ⟨b,hb,by rw[e];rfl⟩
theorem oU{fp:List Addr}{h:Heap}{p:Addr×Obj}(hp:p∈jZ fp h):p.1∈fp∧h.get? p.1=some p.2:=by
 obtain⟨b,hb,e⟩:=List.mem_filterMap.mp hp;cases q:h.get? b with
 |none=>rw[q]at e;cases e
 |some o =>
  rw[q]at e;have e':(b,o)=p:=Option.some.inj e;subst e';exact⟨hb,q⟩
theorem Inv.pinned{pins:List (Addr×Obj)}{σ:St}{H:Hp}{s:Shared}{fp:List Addr}(I:Inv X pins σ H s)(hf:∀b∈fp,dJ X pins H b)(ho:∀b∈fp,∃o,s.heap.get? b=some o∧∀v,o.data≠.cell v):Inv X (pins++jZ fp s.heap) σ H s :=
 I.pins_of λp hp=>(mem_append.mp hp).elim (λz=>I.pin p (mem_append_right _ z)) λz=>by
  obtain⟨hb,e⟩:=oU z;obtain⟨f0,f1,f2,_⟩:=hf p.1 hb;obtain⟨o,e',d⟩:=ho p.1 hb;rw[e]at e';cases e';exact⟨e,f0,f1,f2,d⟩
theorem Inv.unpinned{pins pl:List (Addr×Obj)}{σ:St}{H:Hp}{s:Shared}(I:Inv X (pins++pl) σ H s):Inv X pins σ H s:=I.pins_of λp hp=>I.pin p (mem_append_right _ (mem_append_left _ hp))
theorem dt{iter:Expr}{body:List Stmt}{wi:TI}{g:TG}{tb:TS}{pos:Pos}(hp:PassesOwn (model X.prog X.w) X.A X.env X.xe)(hc:X.calm=true)(hi:PI X tg iter wi)(hg:PG X tg g)(hb:PSs X body tb)(hs:∀x,foldedSetIterable iter X.env x=pure x:=by intro _;rfl):PS X (.For tg iter body [] pos) (xm wi g tb):=by
 intro pins s σ H D I h;refine wpAny_For (thn (hi pins s σ H _ I h) λv s1 h1=>thn h1 λitv s2 h2=>?_) hs;obtain⟨it,fp,tn,J,H2,e,I2,T,st2,f2,W,⟨m0,w0⟩,turn⟩:=h2;subst e;have stat:∀{H':Hp},(∀b∈fp,H' b=none)→∀b∈fp,dJ X pins H' b:=λhn b hb=>⟨hn b hb,(f2 b hb).2⟩;refine codeAny_forLoop_any (λn s'=>∃i σ' H',Inv X pins σ' H' s'∧tn i s'.heap∧(∀b∈fp,H' b=none)∧W i n σ' H') ?_ m0 ⟨0,σ,H2,I2,st2,λb hb=>(f2 b hb).1,w0⟩;rintro n s3 ⟨i,σ3,H3,I3,st3,fr3,w3⟩;rcases turn i n σ3 H3 w3 with⟨stop,qn⟩|⟨go,N,hN,step⟩
 ·refine wpAny_passesOwn hp (thn (T.done X rfl rfl rfl hc i pins s3 σ3 H3 X.xe I3 (stat fr3) st3 stop) λr s4 hpt=>?_);obtain⟨hr,I4⟩:=hpt;subst hr;exact wpAny_execs_nil ⟨σ3,H3,I4,qn⟩
 ·refine wpAny_passesOwn hp (thn (T.item X rfl rfl rfl hc i pins s3 σ3 H3 X.xe I3 (stat fr3) st3 go) λr s4 hpt=>?_);obtain⟨u,hr,h4⟩:=hpt;subst hr;refine wpAny_passesOwn hp (thn h4 λ_ s5 hpt=>?_);obtain⟨x,H5,I5,r5,y5,st5,fr5⟩:=hpt;have I5':=I5.pinned (stat fr5) (T.obj _ _ st5);refine wpAny_passesOwn hp (thn (hg _ s5 σ3 H5 x u _ I5' r5 (step x H5 y5)) λ_ s6 hpt=>?_);obtain⟨σ6,H6,I6,q6⟩:=hpt;refine wpAny_passesOwn hp (thn (hb _ s6 σ6 H6 _ I6 q6) λf s7 q7=>?_);have again:∀{σ7:St}{H7:Hp},Inv X (pins++jZ fp s5.heap) σ7 H7 s7→N σ7 H7→∃m,m<n∧∃i σ' H',Inv X pins σ' H' s7∧tn i s7.heap∧(∀b∈fp,H' b=none)∧W i m σ' H':=λ{σ7 H7} I7 n7=>by
   obtain⟨m',hm,w7⟩:=hN σ7 H7 n7;refine⟨m',hm,i+1,σ7,H7,I7.unpinned,T.keep _ _ _ st5 λb hb o e=>(I7.pin (b,o) (mem_append_right _ (mem_append_right _ (aP hb e)))).1,λb hb=>?_,w7⟩;obtain⟨o,e,d⟩:=T.obj _ _ st5 b hb;exact(I7.pin (b,o) (mem_append_right _ (mem_append_right _ (aP hb e)))).2.1
  cases f with
  |next=>obtain⟨σ7,H7,I7,n7⟩:=q7;exact again I7 n7
  |cont=>obtain⟨σ7,H7,I7,n7⟩:=q7;exact again I7 n7
  |brk=>obtain⟨σ7,H7,I7,q7⟩:=q7;exact⟨σ7,H7,I7.unpinned,q7⟩
  |ret v=>obtain⟨x7,σ7,H7,I7,r7,q7⟩:=q7;exact⟨x7,σ7,H7,I7.unpinned,r7,q7⟩
end
theorem gw{K:PySem.W.Frag}{a:Addr}{xs:List V}{g:TG}{tb:TS}{D:Ends}{σ:St}{H:Hp}(Pv:Nat→St→Hp→Prop)(h0:Pv 0 σ H)(hl:∀i σ H,i≤xs.length→Pv i σ H→SqL K H a xs)(hs:∀i x σ H,xs[i]?=some x→Pv i σ H→g x σ H λσ2 H2=>tb {D with nx:=Pv (i+1),ct:=Pv (i+1),bk:=D.nx} σ2 H2)(hd:∀σ H,Pv xs.length σ H→D.nx σ H):
  ∃W:Nat→Nat→St→Hp→Prop,(∃m,W 0 m σ H)∧∀i m σ H,W i m σ H →
   ((Itl K a).stop i H∧D.nx σ H)∨((Itl K a).go i H∧∃N:St→Hp→Prop,(∀σ' H',N σ' H'→∃m',m'<m∧W (i+1) m' σ' H')∧∀x H',(Itl K a).yld i H x H'→g x σ H' λσ2 H2=>tb {D with nx:=N,ct:=N,bk:=D.nx} σ2 H2):=by
 refine⟨λi m σ H=>m=xs.length-i∧i≤xs.length∧Pv i σ H,⟨xs.length,by simp,zero_le _,h0⟩,?_⟩;rintro i m σ H ⟨rfl,hi,p⟩;have q:=hl i σ H hi p
 by_cases hlt:i<xs.length
 ·refine .inr ⟨⟨xs,xs[i],q,by simp[hlt]⟩,Pv (i+1),λσ' H' p'=>⟨xs.length-(i+1),by omega,rfl,hlt,p'⟩,λx H' y=>?_⟩;obtain⟨e,y⟩:=y;subst e;exact hs i x σ _ (y xs q) p
 ·have e:i=xs.length:=by omega
  subst e;exact .inl ⟨⟨xs,q,le_refl _⟩,hd σ H p⟩
theorem gB{K:PySem.W.Frag}{a:Addr}{xs:List V}{g:TG}{tb:TS}{D:Ends}{σ:St}{H:Hp}(Pv:Nat→St→Hp→Prop)(h0:Pv 0 σ H)(hl:∀i σ H,i≤xs.length→Pv i σ H→SqT K H a xs)(hs:∀i x σ H,xs[i]?=some x→Pv i σ H→g x σ H λσ2 H2=>tb {D with nx:=Pv (i+1),ct:=Pv (i+1),bk:=D.nx} σ2 H2)(hd:∀σ H,Pv xs.length σ H→D.nx σ H):
  ∃W:Nat→Nat→St→Hp→Prop,(∃m,W 0 m σ H)∧∀i m σ H,W i m σ H →
   ((Itt K a).stop i H∧D.nx σ H)∨((Itt K a).go i H∧∃N:St→Hp→Prop,(∀σ' H',N σ' H'→∃m',m'<m∧W (i+1) m' σ' H')∧∀x H',(Itt K a).yld i H x H'→g x σ H' λσ2 H2=>tb {D with nx:=N,ct:=N,bk:=D.nx} σ2 H2):=by
 refine⟨λi m σ H=>m=xs.length-i∧i≤xs.length∧Pv i σ H,⟨xs.length,by simp,zero_le _,h0⟩,?_⟩;rintro i m σ H ⟨rfl,hi,p⟩;have q:=hl i σ H hi p
 by_cases hlt:i<xs.length
 ·refine .inr ⟨⟨xs,xs[i],q,by simp[hlt]⟩,Pv (i+1),λσ' H' p'=>⟨xs.length-(i+1),by omega,rfl,hlt,p'⟩,λx H' y=>?_⟩;obtain⟨e,y⟩:=y;subst e;exact hs i x σ _ (y xs q) p
 ·have e:i=xs.length:=by omega
  subst e;exact .inl ⟨⟨xs,q,le_refl _⟩,hd σ H p⟩
theorem ju{lo:Int}{n:Nat}{g:TG}{tb:TS}{D:Ends}{σ:St}{H:Hp}(Pv:Nat→St→Hp→Prop)(h0:Pv 0 σ H)(hs:∀i σ H,i<n→Pv i σ H→g (.int (lo+i)) σ H λσ2 H2=>tb {D with nx:=Pv (i+1),ct:=Pv (i+1),bk:=D.nx} σ2 H2)(hd:∀σ H,Pv n σ H→D.nx σ H):
  ∃W:Nat→Nat→St→Hp→Prop,(∃m,W 0 m σ H)∧∀i m σ H,W i m σ H →
   ((Itr lo n).stop i H∧D.nx σ H)∨((Itr lo n).go i H∧∃N:St→Hp→Prop,(∀σ' H',N σ' H'→∃m',m'<m∧W (i+1) m' σ' H')∧∀x H',(Itr lo n).yld i H x H'→g x σ H' λσ2 H2=>tb {D with nx:=N,ct:=N,bk:=D.nx} σ2 H2):=by
 refine⟨λi m σ H=>m=n-i∧i≤n∧Pv i σ H,⟨n,by simp,zero_le _,h0⟩,?_⟩;rintro i m σ H ⟨rfl,hi,p⟩
 by_cases hlt:i<n
 ·refine .inr ⟨hlt,Pv (i+1),λσ' H' p'=>⟨n-(i+1),by omega,rfl,hlt,p'⟩,λx H' y=>?_⟩;obtain⟨e,y⟩:=y;subst e y;exact hs i σ _ hlt p
 ·have e:i=n:=by omega
  subst e;exact .inl ⟨le_refl _,hd σ H p⟩
theorem eS{c:TT}{tb:TS}{D:Ends}{σ:St}{H:Hp}(Pv:St→Hp→Prop)(μ:St→Hp→Nat)(h0:Pv σ H)(hs:∀σ H,Pv σ H→c σ H λb H1=>if b=true then tb {D with nx:=λσ' H'=>Pv σ' H'∧μ σ' H'<μ σ H,ct:=λσ' H'=>Pv σ' H'∧μ σ' H'<μ σ H,bk:=D.nx} σ H1 else D.nx σ H1)(mono:∀σ H Q Q',(∀b H1,Q b H1→Q' b H1)→c σ H Q→c σ H Q'):pV c tb D σ H:=by
 refine⟨λm σ H=>m=μ σ H∧Pv σ H,⟨_,rfl,h0⟩,?_⟩;rintro m σ H ⟨rfl,p⟩;refine mono σ H _ _ (λb H1 q=>?_) (hs σ H p);cases b with
 |true=>exact⟨_,λσ' H' ⟨p',l⟩=>⟨_,l,rfl,p'⟩,q⟩
 |false=>exact q
abbrev R2:=V→V→Hp→VK→Prop
def OpR(X:Cx)(f:Value→Value→Sem Value)(r:R2):Prop :=
 ∀(pins:List (Addr×Obj))(s:Shared)(σ:St)(H:Hp)(x y:V)(v u:Value)(Q:VK),Inv X pins σ H s→aS x v→aS y u→r x y H Q →
  wpAny (model X.prog X.w) X.A (f v u) (EP X pins σ Q) X.xe s
def du(X:Cx)(f:Value)(r:List V→Hp→VK→Prop):Prop :=
 ∀(pins:List (Addr×Obj))(s:Shared)(σ:St)(H:Hp)(xs:List V)(us:List Value)(Q:VK),Inv X pins σ H s→aN xs us→r xs H Q →
  wpAny (model X.prog X.w) X.A (call f us) (EP X pins σ Q) X.xe s
def xn(X:Cx)(r:V→Hp→(Bool→Hp→Prop)→Prop):Prop :=
 ∀(pins:List (Addr×Obj))(s:Shared)(σ:St)(H:Hp)(x:V)(v:Value)(Q:Bool→Hp→Prop),Inv X pins σ H s→aS x v→r x H Q →
  wpAny (model X.prog X.w) X.A (truthy v) (TP X pins σ Q) X.xe s
def tOp(r:R2)(ta tb:TE):TE:=λσ H Q=>ta σ H λx H1=>tb σ H1 λy H2=>r x y H2 Q
def rI(C:Int→Int→Prop)(g:Int→Int→V):R2:=λx y H Q=>∃i j,x=.int i∧y=.int j∧C i j∧Q (g i j) H
def rI0(g:Int→Int→V):R2:=λx y H Q=>∃i j,x=.int i∧y=.int j∧Q (g i j) H
section
variable{X:Cx}{a b c:Expr}{ta tb tc:TE}{pos:Pos}
theorem uK(ha:PE X a ta)(hb:PE X b tb){pins:List (Addr×Obj)}{s:Shared}{σ:St}{H:Hp}{R:V→V→Hp→Prop}(I:Inv X pins σ H s)(h:ta σ H λx H1=>tb σ H1 λy H2=>R x y H2){Q:Value→Shared→Prop}{f:Value→Value→Sem Value}(hf:∀v u s2 x y H2,Inv X pins σ H2 s2→aS x v→aS y u→R x y H2→wpAny (model X.prog X.w) X.A (f v u) Q X.xe s2):
  wpAny (model X.prog X.w) X.A (eval a X.env) (λv s₁=>wpAny (model X.prog X.w) X.A (eval b X.env) (λu s₂=>wpAny (model X.prog X.w) X.A (f v u) Q X.xe s₂) X.xe s₁) X.xe s:=by
 refine thn (ha pins s σ H _ I h) λv s1 hpt=>?_;obtain⟨x,H1,I1,r1,q1⟩:=hpt;refine thn (hb pins s1 σ H1 _ I1 q1) λu s2 hpt=>?_;obtain⟨y,H2,I2,r2,q2⟩:=hpt;exact hf v u s2 x y H2 I2 r1 r2 q2
theorem aF{op:Operator}{r:R2}(ho:OpR X (binaryOp op) r)(ha:PE X a ta)(hb:PE X b tb):PE X (.BinOp a op b pos) (tOp r ta tb):=by
 intro pins s σ H Q I h;exact wpAny_BinOp (uK ha hb I h λv u s2 x y H2 I2 rx ry q=>ho pins s2 σ H2 x y v u Q I2 rx ry q)
theorem opI{f:Value→Value→Sem Value}{C:Int→Int→Prop}{g:Int→Int→Int}(rule:∀(i j:Int) (t u:Tok) (s:Shared) (Q:Value→Shared→Prop) (E:Value→Shared→Prop),C i j→Q (.int (g i j) s.toks) {s with toks:=s.toks+1}→wpAny (model X.prog X.w) X.A (f (.int i t) (.int j u)) Q E s):
  OpR X f (rI C λi j=>.int (g i j)):=by
 intro pins s σ H x y v u Q I rx ry h;obtain⟨i,j,rfl,rfl,hc,q⟩:=h;obtain⟨t,rfl⟩:=rx;obtain⟨t',rfl⟩:=ry;exact rule i j t t' s _ _ hc ⟨.int (g i j),H,I.tok _,⟨_,rfl⟩,q⟩
theorem uL{f:Value→Value→Sem Value}{g:Int→Int→Int}(rule:∀(i j:Int) (t u:Tok) (s:Shared) (Q:Value→Shared→Prop) (E:Value→Shared→Prop),Q (.int (g i j) s.toks) {s with toks:=s.toks+1}→wpAny (model X.prog X.w) X.A (f (.int i t) (.int j u)) Q E s):
  OpR X f (rI0 λi j=>.int (g i j)):=by
 intro pins s σ H x y v u Q I rx ry h;obtain⟨i,j,rfl,rfl,q⟩:=h;obtain⟨t,rfl⟩:=rx;obtain⟨t',rfl⟩:=ry;exact rule i j t t' s _ _ ⟨.int (g i j),H,I.tok _,⟨_,rfl⟩,q⟩
theorem uM{f:Value→Value→Sem Value}{g:Int→Int→Bool}(rule:∀(i j:Int) (t u:Tok) (s:Shared) (Q:Value→Shared→Prop) (E:Value→Shared→Prop),Q (.bool (g i j)) s→wpAny (model X.prog X.w) X.A (f (.int i t) (.int j u)) Q E s):
  OpR X f (rI0 λi j=>.bl (g i j)):=by
 intro pins s σ H x y v u Q I rx ry h;obtain⟨i,j,rfl,rfl,q⟩:=h;obtain⟨t,rfl⟩:=rx;obtain⟨t',rfl⟩:=ry;exact rule i j t t' s _ _ ⟨.bl (g i j),H,I,rfl,q⟩
def xo(i j:Int):Prop:=0<j∧j<1073741824
def uN(i j:Int):Prop:=(-(2 ^ 64)<i∧i<2 ^ 64)∨(-(2 ^ 64)<j∧j<2 ^ 64)
theorem uN.ok{i j:Int}(h:uN i j):IntMulOk i j:=by
 rcases h with⟨h1,h2⟩|⟨h1,h2⟩
 ·exact .of_left (intBits_le_64 h1 h2)
 ·exact .of_right (intBits_le_64 h1 h2)
theorem bc:OpR X (binaryOp .Add) (rI0 λi j=>.int (i+j)):=uL λ_ _ _ _ _ _ _ q=>add_int q
theorem pX:OpR X (binaryOp .Sub) (rI0 λi j=>.int (i-j)):=uL λ_ _ _ _ _ _ _ q=>sub_int q
theorem dw:OpR X (binaryOp .Mult) (rI uN λi j=>.int (i*j)):=opI λ_ _ _ _ _ _ _ hc q=>mul_int q hc.ok
theorem ka:OpR X (binaryOp .FloorDiv) (rI xo λi j=>.int (i / j)):=opI λi j _ _ _ _ _ hc q=>by
 have h1:(0:Int)<j:=hc.1;have h2:j<1073741824:=hc.2;exact floordiv_int (by omega) (by rw[Int.fdiv_eq_ediv_of_nonneg i (by omega)];exact q) (.inl (PyProof.noPylong_small (by omega)))
theorem iM:OpR X (binaryOp .Mod) (rI (λ_ j=>0<j) λi j=>.int (i % j)):=opI λi j _ _ _ _ _ hc q=>by
 have h1:(0:Int)<j:=hc;exact mod_int' (by omega) (by rw[Int.fmod_eq_emod_of_nonneg i (by omega)];exact q)
theorem rX:OpR X (inplaceOp .Add) (rI0 λi j=>.int (i+j)):=uL λ_ _ _ _ _ _ _ q=>iadd_int q
end
def uO:V→V→Bool
 |.non,.non=>true | .non,.int _=>true | .int _,.non=>true | .non,.bl _=>true | .bl _,.non=>true | .non,.str _=>true | .str _,.non=>true
 |.int _,.int _=>true | .bl _,.bl _=>true | .str _,.str _=>true | .byt _,.byt _=>true
 |.int _,.str _=>true | .str _,.int _=>true | .bl _,.str _=>true | .str _,.bl _=>true
 |_,_=>false
def rEq:R2:=λx y H Q=>uO x y=true∧Q (.bl (decide (x=y))) H
def rNe:R2:=λx y H Q=>uO x y=true∧Q (.bl (!decide (x=y))) H
theorem kb{i j:Int}:decide (V.int i=V.int j)=(i==j):=by
 rw[Bool.eq_iff_iff];simp
theorem pY{i j:Bool}:decide (V.bl i=V.bl j)=(i==j):=by
 rw[Bool.eq_iff_iff];simp
theorem nJ{i j:Str}:decide (V.str i=V.str j)=(i==j):=by
 rw[Bool.eq_iff_iff];simp
theorem nK{i j:Array UInt8}:decide (V.byt i=V.byt j)=(i.toList==j.toList):=by
 rw[Bool.eq_iff_iff];cases i;cases j;simp
section
variable{X:Cx}{a b c:Expr}{ta tb tc:TE}{pos:Pos}
theorem aX{pins:List (Addr×Obj)}{σ:St}{H:Hp}{s:Shared}{Q:VK}{k k':Bool}(I:Inv X pins σ H s)(q:Q (.bl k) H)(e:k=k'):EP X pins σ Q (.bool k') s:=by
 subst e;exact⟨.bl k,H,I,rfl,q⟩
theorem cx:OpR X (compareOp .Eq) rEq:=by
 intro pins s σ H x y v u Q I rx ry h;obtain⟨hs,q⟩:=h;cases x with
 |non =>
  cases rx;cases y with
  |non=>cases ry;exact PySem.EqNone.eq_none_none (aX I q (by simp))
  |bl j=>cases ry;exact PySem.EqNone.eq_none_bool (aX I q (by simp))
  |int j=>obtain⟨t',rfl⟩:=ry;exact PySem.EqNone.eq_none_int (aX I q (by simp))
  |str j=>obtain⟨t',rfl⟩:=ry;exact PySem.EqNone.eq_none_str (aX I q (by simp))
  |_=>exact absurd (show false=true from hs) Bool.false_ne_true
 |bl i =>
  cases rx;cases y with
  |non=>cases ry;exact PySem.EqNone.eq_bool_none (aX I q (by simp))
  |bl j=>cases ry;exact eq_bool (aX I q pY)
  |str j=>obtain⟨t',rfl⟩:=ry;exact PySem.EqMixed.eq_bool_str (aX I q (by simp))
  |_=>exact absurd (show false=true from hs) Bool.false_ne_true
 |int i =>
  obtain⟨t,rfl⟩:=rx;cases y with
  |non=>cases ry;exact PySem.EqNone.eq_int_none (aX I q (by simp))
  |int j=>obtain⟨t',rfl⟩:=ry;exact eq_int (aX I q kb)
  |str j=>obtain⟨t',rfl⟩:=ry;exact PySem.EqMixed.eq_int_str (aX I q (by simp))
  |_=>exact absurd (show false=true from hs) Bool.false_ne_true
 |str i =>
  obtain⟨t,rfl⟩:=rx;cases y with
  |non=>cases ry;exact PySem.EqNone.eq_str_none (aX I q (by simp))
  |bl j=>cases ry;exact PySem.EqMixed.eq_str_bool (aX I q (by simp))
  |int j=>obtain⟨t',rfl⟩:=ry;exact PySem.EqMixed.eq_str_int (aX I q (by simp))
  |str j=>obtain⟨t',rfl⟩:=ry;exact eq_str (aX I q nJ)
  |_=>exact absurd (show false=true from hs) Bool.false_ne_true
 |byt i =>
  obtain⟨t,rfl⟩:=rx;cases y with
  |byt j=>obtain⟨t',rfl⟩:=ry;exact PySem.W.eq_bytes (aX I q nK)
  |_=>exact absurd (show false=true from hs) Bool.false_ne_true
 |_=>cases y<;>exact absurd (show false=true from hs) Bool.false_ne_true
theorem dy:OpR X (compareOp .NotEq) rNe:=by
 intro pins s σ H x y v u Q I rx ry h;obtain⟨hs,q⟩:=h;cases x with
 |non =>
  cases rx;cases y with
  |non=>cases ry;exact PySem.EqNone.ne_none_none (aX I q (by simp))
  |bl j=>cases ry;exact PySem.EqNone.ne_none_bool (aX I q (by simp))
  |int j=>obtain⟨t',rfl⟩:=ry;exact PySem.EqNone.ne_none_int (aX I q (by simp))
  |str j=>obtain⟨t',rfl⟩:=ry;exact PySem.EqNone.ne_none_str (aX I q (by simp))
  |_=>exact absurd (show false=true from hs) Bool.false_ne_true
 |bl i =>
  cases rx;cases y with
  |non=>cases ry;exact PySem.EqNone.ne_bool_none (aX I q (by simp))
  |bl j=>cases ry;exact ne_bool (aX I q (congrArg not pY))
  |str j=>obtain⟨t',rfl⟩:=ry;exact PySem.EqMixed.ne_bool_str (aX I q (by simp))
  |_=>exact absurd (show false=true from hs) Bool.false_ne_true
 |int i =>
  obtain⟨t,rfl⟩:=rx;cases y with
  |non=>cases ry;exact PySem.EqNone.ne_int_none (aX I q (by simp))
  |int j=>obtain⟨t',rfl⟩:=ry;exact ne_int (aX I q (congrArg not kb))
  |str j=>obtain⟨t',rfl⟩:=ry;exact PySem.EqMixed.ne_int_str (aX I q (by simp))
  |_=>exact absurd (show false=true from hs) Bool.false_ne_true
 |str i =>
  obtain⟨t,rfl⟩:=rx;cases y with
  |non=>cases ry;exact PySem.EqNone.ne_str_none (aX I q (by simp))
  |bl j=>cases ry;exact PySem.EqMixed.ne_str_bool (aX I q (by simp))
  |int j=>obtain⟨t',rfl⟩:=ry;exact PySem.EqMixed.ne_str_int (aX I q (by simp))
  |str j=>obtain⟨t',rfl⟩:=ry;exact ne_str (aX I q (congrArg not nJ))
  |_=>exact absurd (show false=true from hs) Bool.false_ne_true
 |byt i =>
  obtain⟨t,rfl⟩:=rx;cases y with
  |byt j=>obtain⟨t',rfl⟩:=ry;exact PySem.W.ne_bytes (aX I q (congrArg not nK))
  |_=>exact absurd (show false=true from hs) Bool.false_ne_true
 |_=>cases y<;>exact absurd (show false=true from hs) Bool.false_ne_true
theorem pZ:OpR X (compareOp .Lt) (rI0 λi j=>.bl (decide (i<j))):=uM λ_ _ _ _ _ _ _ q=>lt_int q
theorem wx:OpR X (compareOp .LtE) (rI0 λi j=>.bl (decide (i≤j))):=uM λ_ _ _ _ _ _ _ q=>le_int q
theorem tY:OpR X (compareOp .Gt) (rI0 λi j=>.bl (decide (j<i))):=uM λ_ _ _ _ _ _ _ q=>gt_int q
theorem eE:OpR X (compareOp .Is) (λx y H Q=>y=.non∧Q (.bl (decide (x=.non))) H):=by
 intro pins s σ H x y v u Q I rx ry h;obtain⟨rfl,q⟩:=h;cases ry;refine is_none_gen (aX I q ?_);cases x<;>first
  |(cases rx;rfl)
  |(obtain⟨t,rfl⟩:=rx;rfl)
theorem iB:OpR X (compareOp .IsNot) (λx y H Q=>y=.non∧Q (.bl (!decide (x=.non))) H):=by
 intro pins s σ H x y v u Q I rx ry h;obtain⟨rfl,q⟩:=h;cases ry;refine isnot_none_gen (aX I q ?_);cases x<;>first
  |(cases rx;rfl)
  |(obtain⟨t,rfl⟩:=rx;rfl)
theorem OpR.or{f:Value→Value→Sem Value}{r r':R2}(h:OpR X f r)(h':OpR X f r'):OpR X f (λx y H Q=>r x y H Q∨r' x y H Q):=by
 intro pins s σ H x y v u Q I rx ry q;rcases q with q|q
 ·exact h pins s σ H x y v u Q I rx ry q
 ·exact h' pins s σ H x y v u Q I rx ry q
theorem aw(b:Expr){op:CmpOp}(h:op≠.In:=by decide)(h2:op≠.NotIn:=by decide):behindInMarks op b=false:=by
 have e1:(op==CmpOp.In)=false:=by cases op<;>first|rfl|exact absurd rfl h
 have e2:(op==CmpOp.NotIn)=false:=by cases op<;>first|rfl|exact absurd rfl h2
 cases b<;>simp[behindInMarks,e1,e2]
theorem dL{op:CmpOp}{r:R2}(ho:OpR X (compareOp op) r)(ha:PE X a ta)(hb:PE X b tb)(hm:behindInMarks op b=false):PE X (.Compare a [op] [b] pos) (tOp r ta tb):=by
 intro pins s σ H Q I h;exact wpAny_Compare1 (uK ha hb I h λv u s2 x y H2 I2 rx ry q=>ho pins s2 σ H2 x y v u Q I2 rx ry q) hm
def wz(t:TE):TT:=λσ H Q=>t σ H λx H'=>∃k,x=.bl k∧Q k H'
theorem am{op:CmpOp}{r:R2}(ho:OpR X (compareOp op) r)(ha:PE X a ta)(hb:PE X b tb)(hm:behindInMarks op b=false):PT X (.Compare a [op] [b] pos) (wz (tOp r ta tb)):=by
 intro pins s σ H Q I h;refine wpAny_isTrue_Compare1 (thn (ha pins s σ H _ I h) λv s1 ⟨x,H1,I1,r1,q1⟩=>thn (hb pins s1 σ H1 _ I1 q1) λu s2 ⟨y,H2,I2,r2,q2⟩ =>
  thn (ho pins s2 σ H2 x y v u _ I2 r1 r2 q2) λc s3 ⟨z,H3,I3,r3,k,e,q3⟩=>?_) hm
 subst e;cases r3;exact wpAny_truthy_bool ⟨H3,I3,q3⟩
def wA(K:PySem.W.Frag)(x:V)(H:Hp)(k:Bool):Prop :=
 match x with
 |.non=>k=false
 |.bl b=>k=b
 |.int i=>k=(i != 0)
 |.str y=>y.length≤sizeLine∧k=((y.length:Int) != 0)
 |.byt y=>y.size≤sizeLine∧k=((y.size:Int) != 0)
 |.ref p=>(∃xs,SqL K H p xs∧k = !xs.isEmpty)∨(∃xs,SqT K H p xs∧k = !xs.isEmpty)∨∃kvs,H p=some (.dK kvs)∧k = !kvs.isEmpty
 |_=>False
theorem mn{κ:Type}{kvs:List (κ×V)}{vs:List (κ×Value)}(r:KV kvs vs):(!vs.isEmpty) = !kvs.isEmpty:=by
 cases r<;>rfl
theorem iN{xs:List V}{its:List Value}(r:aN xs its):(!its.toArray.isEmpty) = !xs.isEmpty:=by
 cases r<;>simp
theorem hU:(sizeLine:Nat)<2 ^ 63:=by rw[sizeLine_eq];decide
theorem uP:xn X (λx H Q=>∃k,wA X.K x H k∧Q k H):=by
 intro pins s σ H x v Q I rx h;obtain⟨k,e,q⟩:=h;have hl:=hU;have hs:sizeLine=16777216:=sizeLine_eq;cases x with
 |non =>
  cases rx;have e':k=false:=e;subst e';exact truthy_none ⟨H,I,q⟩
 |bl b =>
  cases rx;have e':k=b:=e;subst e';exact wpAny_truthy_bool ⟨H,I,q⟩
 |int i =>
  obtain⟨t,rfl⟩:=rx;have e':k=(i != 0):=e;subst e';exact PySem.P.truthy_int ⟨H,I,q⟩
 |str y =>
  obtain⟨t,rfl⟩:=rx;obtain⟨hy,e'⟩:y.length≤sizeLine∧k=((y.length:Int) != 0):=e;subst e';exact PySem.P.truthy_str (by omega) ⟨H,I.tok _,q⟩
 |byt y =>
  obtain⟨t,rfl⟩:=rx;obtain⟨hy,e'⟩:y.size≤sizeLine∧k=((y.size:Int) != 0):=e;subst e';exact PySem.W.truthy_bytes (by omega) ⟨H,I.tok _,q⟩
 |ref p =>
  cases rx;have e':(∃xs,SqL X.K H p xs∧k = !xs.isEmpty)∨(∃xs,SqT X.K H p xs∧k = !xs.isEmpty)∨∃kvs,H p=some (.dK kvs)∧k = !kvs.isEmpty:=e;rcases e' with⟨xs,hx,e'⟩|⟨xs,hx,e'⟩|⟨kvs,hx,e'⟩
  ·subst e';obtain⟨its,r,pl,hz⟩:=I.list hx;have hlen:=r.length;exact wpAny_truthy_list pl.isList (by simp only[size_toArray];omega) ⟨H,I.tok _,by rw[iN r];exact q⟩
  ·subst e';obtain⟨its,r,pl,hz⟩:=I.tuple hx;have hlen:=r.length;exact truthy_tuple pl (by simp only[size_toArray];omega) ⟨H,I.tok _,by rw[iN r];exact q⟩
  ·subst e';obtain⟨hz,hS,vs,r,m⟩:kvs.length≤sizeLine∧(p==sysModules)=false∧∃vs,KV kvs vs∧s.heap.DictOf (bb X.prog X.w) p vs:=I.hok p _ hx;have hlen:kvs.length=vs.length:=Paired.length r;exact wpAny_truthy_dict hS m (by omega) ⟨H,I.tok _,by rw[mn r];exact q⟩
 |_=>exact(show False from e).elim
theorem qb(ha:PE X a ta)(he:∀whole,isTrue a X.env whole=(do let v ← whole;standAt a.pos;holding [v] (truthy v))):
  PT X a (λσ H Q=>ta σ H λx H'=>∃k,wA X.K x H' k∧Q k H'):=by
 intro pins s σ H Q I h;exact isTrue_plain (thn (ha pins s σ H _ I h) λv s1 ⟨x,H1,I1,r1,q1⟩=>uP pins s1 σ H1 x v Q I1 r1 q1) (he _)
theorem mq:OpR X (binaryOp .Add) (λx y H Q=>∃i j,x=.str i∧y=.str j∧i.length+j.length≤sizeLine∧Q (.str (i++j)) H):=by
 intro pins s σ H x y v u Q I rx ry h;obtain⟨i,j,rfl,rfl,hz,q⟩:=h;obtain⟨t,rfl⟩:=rx;obtain⟨t',rfl⟩:=ry;exact add_str (λt' tk=>⟨.str (i++j),H,I.tok _,⟨_,rfl⟩,q⟩) hz
theorem ip{x:V}{us:List Value}(r:aN [x] us):∃u,us=[u]∧aS x u:=by
 cases r with
 |cons r1 r2=>cases r2;exact⟨_,rfl,r1⟩
theorem tZ{x y:V}{us:List Value}(r:aN [x,y] us):∃u w',us=[u,w']∧aS x u∧aS y w':=by
 cases r with
 |cons r1 r2 =>
  cases r2 with
  |cons r3 r4=>cases r4;exact⟨_,_,rfl,r1,r3⟩
end
structure ObjM(h:Heap)(x dx C:Addr)(mA:Str→Option Value):Prop where
 obj:h.get? x=some (instObj C dx)
 ns:h.Ns1 dx mA
 ne:dx≠x
theorem oV{h:Heap}{dx:Addr}{mA:Str→Option Value}(n:h.Ns1 dx mA):∃od,h.get? dx=some od∧∀name,lookIn name od=some (mA name):=by
 obtain⟨o,es,ep,ho,hd,hk,_,hm⟩:=n;refine⟨o,ho,λname=>?_⟩;have e:=hm name;unfold nsFind findBy at e;rw[←Array.find?_toList]at e;unfold lookIn;rw[hd];dsimp only
 split
 ·rename_i y q
  rw[q]at e;exact congrArg some e
 ·rename_i q
  rw[q]at e;have a:es.toList.any (·.refKey)=false:=by
   rw[List.any_eq_false];intro y hy;obtain⟨z,t,hkey⟩:=hk y (Array.mem_toList_iff.mp hy);simp[DictEntry.refKey,hkey]
  have a':¬es.toList.any (·.refKey)=true:=by rw[a];exact Bool.false_ne_true
  rw[if_neg a'];exact congrArg some e
theorem ObjM.look{h:Heap}{x dx C:Addr}{mA:Str→Option Value}(I:ObjM h x dx C mA):∃od,PySem.W.InstAt h x (instObj C dx) C (some od)∧∀name,lookIn name od=some (mA name) :=
 let⟨od,ho,hl⟩:=oV I.ns
 ⟨od,⟨I.obj,rfl,rfl,ho⟩,hl⟩
section
variable{prog:Program}{w:World}{A:Around}{E:Value→Shared→Prop}{s:Shared}{K:PySem.W.Frag}{x dx C f:Addr}{mA:Str→Option Value}{name:Str}{v:Value}
end
theorem fX.some_of{v:V}{o:Option Value}(r:fX (some v) o):∃u,o=some u∧aS v u:=by
 cases o with
 |none=>exact(show False from r).elim
 |some u=>exact⟨u,rfl,r⟩
theorem fX.none_of{o:Option Value}(r:fX none o):o=none:=by
 cases o with
 |none=>rfl
 |some u=>exact(show False from r).elim
section
variable{P:Program}{w:World}{H H':Hp}{h h':Heap}{a C dx:Addr}{fs fs':List (Str×V)}
theorem rY(hok:HOk P w H h)(e:H a=some (.ins C dx fs)):∃mA,ObjM h a dx C mA∧(∀f,fX (fs.lookup f) (mA f))∧PySem.Within mA (fs.map (·.1))∧fs.length≤1000∧H dx=some (.own a):=by
 obtain⟨d,z,ne,ob,mA,n,r,q⟩:=(show bw P w H h a (.ins C dx fs)from hok a _ e);exact⟨mA,⟨ob,n,ne⟩,r,q,z,d⟩
end
structure Cls(K:PySem.W.Frag)(C:Addr):Prop where
 pg:plainGet K C empty=true
 hd:PySem.W.hasDictIn K C=true
 po:PySem.W.plainOver K C=true
 sa:findIn K (.ref C) "__setattr__"=some (some (.builtin "object.__setattr__"))
theorem Cls.get{K:PySem.W.Frag}{C:Addr}(c:Cls K C)(f:Str):plainGet K C f=true:=c.pg
section
variable{X:Cx}{pins:List (Addr×Obj)}{σ:St}{H:Hp}{s:Shared}{a C dx:Addr}{fs:List (Str×V)}{f:Str}{v:V}{A:Around}{E:Value→Shared→Prop}
end
section
variable{X:Cx}{o e value:Expr}{f:Str}{pos pos' tpos:Pos}{ta tv:TE}
end
section
variable{X:Cx}{pins:List (Addr×Obj)}{σ:St}{H:Hp}{s:Shared}{A:Around}{E:Value→Shared→Prop}{Q:Value→Shared→Prop}{c:Value}{b:Bool}
inductive TyOf(K:PySem.W.Frag)(H:Hp):V→Value→Prop where
 |non:TyOf K H .non (.type "NoneType")
 |bl (x:Bool):TyOf K H (.bl x) (.type "bool")
 |int (i:Int):TyOf K H (.int i) (.type "int")
 |str (x:Str):TyOf K H (.str x) (.type "str")
 |flt (x:UInt64):TyOf K H (.flt x) (.type "float")
 |lst {a:Addr} {xs:List V} (e:H a=some (.lst xs)):TyOf K H (.ref a) (.type "list")
 |frz {a:Addr} {o:Obj} {xs:List V} (e:H a=some (.frz o (.lst xs))):TyOf K H (.ref a) (.type "list")
 |tup {a:Addr} {xs:List V} (e:H a=some (.tup xs)):TyOf K H (.ref a) (.type "tuple")
 |dK {a:Addr} {kvs:List (Key×V)} (e:H a=some (.dK kvs)):TyOf K H (.ref a) (.type "dict")
 |dT {a:Addr} {kvs:List (List Key×V)} (e:H a=some (.dT kvs)):TyOf K H (.ref a) (.type "dict")
 |ins {a C dx:Addr} {fs:List (Str×V)} (e:H a=some (.ins C dx fs)) (cl:Cls K C) (ha:findIn K (.ref C) "__class__"=some (some (.builtin "object.__class__")))
   (hn:PySem.W.specialIn K (.builtin "object.__class__") "__get__"=some (some (.builtin "getset_descriptor.__get__"))) (htk:PySem.W.takesIn K (.builtin "object.__class__")=some true)
   (hm:mroIn K C (.type "object")=some true):TyOf K H (.ref a) (.ref C)
theorem oW{x:V}{u t:Value}(I:Inv X pins σ H s)(rx:aS x u)(ty:TyOf X.K H x t)(e:kitOne X.K t c=some b)(h:∀tk,Q (.bool b) {s with toks:=tk}):
  wpAny (model X.prog X.w) A (call (.builtin "isinstance") [u,c]) Q E s:=by
 cases ty with
 |non=>cases (show u=Value.none from rx);exact kia_one PySem.W.kitx_none I.kIn True.intro e (λz=>nomatch z) h
 |bl y=>cases (show u=Value.bool y from rx);exact kia_one PySem.W.kitx_bool I.kIn True.intro e (λz=>nomatch z) h
 |int i=>obtain⟨t,q⟩:=(show ∃t,u=Value.int i t from rx);cases q;exact kia_one PySem.W.kitx_int I.kIn True.intro e (λz=>nomatch z) h
 |str y=>obtain⟨t,q⟩:=(show ∃t,u=Value.str y t from rx);cases q;exact kia_one PySem.W.kitx_str I.kIn True.intro e (λz=>nomatch z) h
 |flt y=>obtain⟨t,q⟩:=(show ∃t,u=float y t from rx);cases q;exact kia_one PySem.W.kitx_float I.kIn True.intro e (λz=>nomatch z) h
 |@lst a xs ea =>
  cases (show u=Value.ref a from rx);obtain⟨_,_,n,_,h1⟩:=(show bw X.prog X.w H s.heap a (.lst xs)from I.hok a _ ea);exact kia_one kitx_list I.kIn ⟨_,h1,rfl⟩ e (λz=>nomatch z) h
 |@frz a ob xs ea =>
  cases (show u=Value.ref a from rx);obtain⟨_,_,_,n,_,h1⟩:=(show bw X.prog X.w H s.heap a (.frz ob (.lst xs))from I.hok a _ ea);exact kia_one kitx_list I.kIn ⟨_,h1,rfl⟩ e (λz=>nomatch z) h
 |@tup a xs ea =>
  cases (show u=Value.ref a from rx);obtain⟨_,_,_,p⟩:=(show bw X.prog X.w H s.heap a (.tup xs)from I.hok a _ ea);obtain⟨o,h1,h2,_⟩:=p;exact kia_one PySem.W.kitx_tuple I.kIn ⟨o,h1,h2⟩ e (λz=>nomatch z) h
 |@dK a kvs ea =>
  cases (show u=Value.ref a from rx);obtain⟨_,_,vs,_,p⟩:=(show bw X.prog X.w H s.heap a (.dK kvs)from I.hok a _ ea);obtain⟨o,es,ep,h1,h2,_⟩:=p;exact kia_one kitx_dict I.kIn ⟨o,h1,h2.1⟩ e (λz=>nomatch z) h
 |@dT a kvs ea =>
  cases (show u=Value.ref a from rx);obtain⟨_,_,xs,_,o,es,ep,h1,h2,_⟩:=(show bw X.prog X.w H s.heap a (.dT kvs)from I.hok a _ ea);exact kia_one kitx_dict I.kIn ⟨o,h1,h2.1⟩ e (λz=>nomatch z) h
 |@ins a C dx fs ea cl ha hn htk hm =>
  cases (show u=Value.ref a from rx);obtain⟨mA,O,_⟩:=rY I.hok ea;obtain⟨od,J,_⟩:=O.look;exact kia_one (PySem.W.kitx_own (cl.get _) cl.hd ha hn htk hm) I.kIn J e (λz=>nomatch z) h
end
structure Room(k:Nat)(A:Around):Prop where
 hd:A.handled=none
 dp:A.depth+3*k+5<recursionLimit
 un:A.units+16*k+200<cLine
 gd:A.guards=some []
theorem Room.mono{j k:Nat}{A:Around}(r:Room k A)(h:j≤k):Room j A:=⟨r.hd,by have:=r.dp;omega,by have:=r.un;omega,r.gd⟩
theorem Room.deeper{k:Nat}{A:Around}(r:Room (k+1) A)(env:Env):Room k (A.deeper env) :=
 ⟨r.hd,by have:=r.dp;show A.depth+1+3*k+5<_;omega,by have:=r.un;show A.units+3+16*k+200<_;omega,r.gd⟩
theorem Room.depth{k:Nat}{A:Around}(r:Room k A):A.depth<recursionLimit:=by have:=r.dp;omega
theorem Room.units{k:Nat}{A:Around}(r:Room k A):A.units+64<cLine:=by have:=r.un;omega
theorem Room.units0{k:Nat}{A:Around}(r:Room k A):A.units<cLine:=by have:=r.un;omega
def kc:TA:=λ_ H Q=>Q [] H
def cV(ta:TE)(tr:TA):TA:=λσ H Q=>ta σ H λx H1=>tr σ H1 λxs H2=>Q (x::xs) H2
section
variable{X:Cx}{e:Expr}{es:List Expr}{te:TE}{t:TA}{pos:Pos}
theorem ai:PA X [] kc:=λ_ _ _ _ H Q I h=>Calls.spliced_nil ⟨[],H,I,.nil,h⟩
theorem aa(ha:PE X e te)(hr:PA X es t)(hs:starEach (e::es) X.env=(false,eval e X.env)::starEach es X.env:=by rfl):PA X (e::es) (cV te t):=by
 intro pos pins s σ H Q I h;rw[hs];show wpAny _ _ (spliced ((false,eval e X.env)::backTo pos (starEach es X.env))) _ _ s;refine spliced_cons (thn (ha pins s σ H _ I h) λu s1 hpt=>?_);obtain⟨x,H1,I1,r1,q1⟩:=hpt;exact thn (hr pos pins s1 σ H1 _ I1 q1) λus s2 ⟨xs,H2,I2,r2,q2⟩=>⟨x::xs,H2,I2,.cons r1 r2,q2⟩
def wB(t:TA):TE:=λσ H Q=>t σ H λxs H1=>xs.length≤sizeLine∧∀p,H1 p=none→Q (.ref p) (upd H1 p (.tup xs))
def xp(t:TA):TE:=λσ H Q=>t σ H λxs H1=>xs.length≤sizeLine∧∀p,H1 p=none→Q (.ref p) (upd H1 p (.lst xs))
theorem bq{x1}(h:PA X es t):PE X (.Tuple es x1 pos) (wB t):=by
 intro pins s σ H Q I hq;refine wpAny_Tuple_spliced (thn (h pos pins s σ H _ I hq) λus s1 ⟨xs,H1,I1,r,z,q⟩=>⟨by rw[←r.length];exact z,?_⟩);have hf:H1 s1.heap.objs.size=none:=I1.hok.fresh (le_refl _);refine⟨.ref s1.heap.objs.size,upd H1 s1.heap.objs.size (.tup xs),I1.laid (t':=s1.toks) (λb u e=>get?_push_of_some _ e) (le_refl _) ?_,rfl,q _ hf⟩;exact⟨z,us,r,⟨_,get?_push_size _ rfl,rfl,_,rfl⟩⟩
theorem bX(h:PA X es t):PE X (.List es pos) (xp t):=by
 intro pins s σ H Q I hq;refine wpAny_List_spliced (thn (h pos pins s σ H _ I hq) λus s1 ⟨xs,H1,I1,r,z,q⟩=>⟨by rw[←r.length];exact z,?_⟩);have hf:H1 s1.heap.objs.size=none:=I1.hok.fresh (le_refl _);refine⟨.ref s1.heap.objs.size,upd H1 s1.heap.objs.size (.lst xs),I1.laid (t':=s1.toks) (λb u e=>get?_push_of_some _ e) (le_refl _) ?_,rfl,q _ hf⟩;exact⟨z,us,0,r,get?_push_size _ rfl⟩
end
abbrev Sp:=List V→Hp→VK→XK→Prop
abbrev CXT:=List Env→Hp→Shared→XK→Value→Shared→Prop
structure Env0(P:Program)(w:World)(K:PySem.W.Frag)(mg:Str→Option Value)(base:Heap)(A:Around)(outer:List Env)(s:Shared)(H:Hp):Prop where
 frames:A.frames=some outer
 mod:Mod K mg base
 bs:∀b o,base.get? b=some o→s.heap.get? b=some o∧H b=none
 bsz:base.objs.size≤s.heap.objs.size
 funs:s.heap.FunFrames base outer
 frf:∀b∈frs outer,H b=none
 hok:HOk P w H s.heap
 bare:AllBare s.gens
def CE(outer:List Env)(P:Program)(w:World)(H:Hp)(s:Shared)(Q:VK)(u:Value)(s':Shared):Prop :=
 ∃v H',s'.os=s.os∧AllBare s'.gens∧Un (frs outer) [] H H' s.heap s'.heap∧HOk P w H' s'.heap∧aS v u∧Q v H'
def CR(CX:CXT)(outer:List Env)(P:Program)(w:World)(H:Hp)(s:Shared)(Q:VK)(E:XK)(r:Result)(s':Shared):Prop :=
 match r with
 |.ok (.ret u)=>CE outer P w H s Q u s'
 |.ok _=>False
 |.error e=>CX outer H s E e s'
structure FnOk(P:Program)(w:World)(K:PySem.W.Frag)(mg:Str→Option Value)(base:Heap)(CX:CXT)(k:Nat)(f:Addr)(fd:FuncData)(ps:List Str)(sp:Sp):Prop where
 len:∀vs H Q E,sp vs H Q E→vs.length=ps.length
 run:∀(A:Around)(outer:List Env)(s:Shared)(H:Hp)(args:Args)(us:List Value)(vs:List V)(Q:VK)(E:XK),Room k A→Env0 P w K mg base A outer s H→BindsTo s fd args (ps.zip us)→aN vs us→sp vs H Q E →
  codeAny (model P w) A (.call (.ref f) args) (CR CX outer P w H s Q E) s
theorem FnOk.imp{P:Program}{w:World}{K:PySem.W.Frag}{mg:Str→Option Value}{base:Heap}{CX:CXT}{k:Nat}{f:Addr}{fd:FuncData}{ps:List Str}{sp sp':Sp}(F:FnOk P w K mg base CX k f fd ps sp)(h:∀vs H Q E,sp' vs H Q E→sp vs H Q E):FnOk P w K mg base CX k f fd ps sp' :=
 ⟨λvs H Q E q=>F.len vs H Q E (h _ _ _ _ q),λA outer s H args us vs Q E hr he hb hv hs=>F.run A outer s H args us vs Q E hr he hb hv (h _ _ _ _ hs)⟩
section
variable{X:Cx}{pins:List (Addr×Obj)}{σ:St}{H:Hp}{s s':Shared}
theorem Inv.env0(I:Inv X pins σ H s):Env0 X.prog X.w X.K X.mg X.base X.A X.stack s H :=
 ⟨I.ok.frames,I.ok.mod,I.bs,le_trans I.ok.bsz I.sz,I.stack,I.stkFree,I.hok,I.bare⟩
theorem Inv.after{Q:VK}{u:Value}(I:Inv X pins σ H s)(h:CE X.stack X.prog X.w H s Q u s'):EP X pins σ Q u s':=by
 obtain⟨v,H',os,bare,un,hok,r,q⟩:=h;obtain⟨hh,g,d,t,os'⟩:=s';obtain rfl:os'=s.os:=os;exact⟨v,H',I.call (h':=hh) (g':=g) (d':=d) (t':=t) (ch:=[]) un hok bare (λb z=>absurd z (by simp)),r,q⟩
end
def nL(sp:Sp)(dvs:List V)(E:XK)(t:TA):TE:=λσ H Q=>t σ H λvs H1=>sp (vs++dvs) H1 Q E
def dM(K:PySem.W.Frag)(fd:FuncData)(ps:List Str)(ds:List Value):Prop :=
 ∀(s:Shared)(us:List Value),K.In s.heap→(us++ds).length=ps.length→BindsTo s fd ⟨us,[]⟩ (ps.zip (us++ds))
theorem dM.all{K:PySem.W.Frag}{fd:FuncData}{ps:List Str}(h:∀us:List Value,us.length=ps.length→bindArgs fd ⟨us,[]⟩=pure (ps.zip us)):dM K fd ps []:=λs us _ hl=>by
 rw[append_nil]at hl⊢;exact .of_eq (h us hl)
def hV(CX:CXT)(X:Cx)(E:XK):Prop:=∀(pins:List (Addr×Obj))(σ:St)(H:Hp)(s:Shared)(e:Value)(s':Shared),Inv X pins σ H s→CX X.stack H s E e s'→X.xe e s'
section
variable{X:Cx}{CX:CXT}{k:Nat}{f C:Addr}{fd:FuncData}{ps:List Str}{sp:Sp}{dvs:List V}{ds:List Value}{E:XK}{x m:Str}{p pos apos:Pos}{e o:Expr}{es:List Expr}{ta:TE}{t:TA}
theorem uQ{pins:List (Addr×Obj)}{σ:St}{H:Hp}{s:Shared}{Q:VK}{us:List Value}{vs:List V}(F:FnOk X.prog X.w X.K X.mg X.base CX k f fd ps sp)(hr:Room k X.A)(hb:dM X.K fd ps ds)(hd:aN dvs ds)(hx:hV CX X E)(I:Inv X pins σ H s)(r:aN vs us)(h:sp (vs++dvs) H Q E):wpAny (model X.prog X.w) X.A (call (.ref f) us) (EP X pins σ Q) X.xe s:=by
 have r2:aN (vs++dvs) (us++ds):=r.append hd;have hl:(us++ds).length=ps.length:=by rw[←r2.length];exact F.len _ _ _ _ h
 refine wpAny_call (codeAny_mono (F.run X.A X.stack s H ⟨us,[]⟩ (us++ds) (vs++dvs) Q E hr I.env0 (hb s us I.kIn hl) r2 h) λr s' hq=>?_);cases r with
 |error e=>exact hx pins σ H s e s' I hq
 |ok fl =>
  cases fl with
  |ret u=>exact I.after hq
  |next=>exact False.elim hq
  |brk=>exact False.elim hq
  |cont=>exact False.elim hq
theorem ak(F:FnOk X.prog X.w X.K X.mg X.base CX k f fd ps sp)(hr:Room k X.A)(hg:Gl X x)(hm:X.mg x=some (.ref f))(hk:keepIn X.K (.ref f)=true)(hb:dM X.K fd ps ds)(hd:aN dvs ds)(hx:hV CX X E)(ha:PA X (e::es) t)(hdb:(x==("__debug__":Str))=false:=by decide)(he:starEach (e::es) X.env=(false,eval e X.env)::starEach es X.env:=by rfl)(hpl:(backTo pos (starEach es X.env)).any (·.1)=false:=by rfl):
  PE X (.Call (.Name x p) (e::es) [] pos) (nL sp dvs E t):=by
 intro pins s σ H Q I h;refine wpAny_Call_Name_kw (jX I hg hm ?_ hdb);refine PySem.W.callWith_K (h₀:=X.base) I.ok.mod.kin hk (thn (ha pos pins s σ H _ I h) λus s1 ⟨vs,H1,I1,r,q⟩=>⟨I1.kIn,?_⟩) he hpl;exact uQ F hr hb hd hx I1 r q
end
section
variable{X:Cx}{CX:CXT}{k:Nat}{f C:Addr}{fd:FuncData}{ps ks:List Str}{sp:Sp}{E:XK}{x m:Str}{p pos apos kpos:Pos}{e o:Expr}{es:List Expr}{kws:List Keyword}{te ta:TE}{t tk:TA}{nm:Option Str}
variable{g:List Value→List Value→List Value}{gV:List V→List V→List V}
end
structure FnScope(N P:List Str)(sc:Scope):Prop where
 kind:sc.kind=.function
 co:sc.isCoroutine=false
 gen:sc.isGenerator=false
 nd:N.Nodup
 pre:N.take P.length=P
 par:∀x∈P,sc.names.lookup x=some .local∨sc.names.lookup x=some .cell
 nofree:∀y∈sc.names,y.2≠.free
theorem fsc{N P:List Str}{c:Scope}(a:c.kind=.function:=by rfl)(b:c.isCoroutine=false:=by rfl)(d:c.isGenerator=false:=by rfl)(e:N.Nodup:=by decide +kernel)(f:N.take P.length=P:=by rfl)(g:∀x∈P,c.names.lookup x=some .local∨c.names.lookup x=some .cell:=by decide +kernel)(h:∀y∈c.names,y.2≠.free:=by decide +kernel):FnScope N P c:=⟨a,b,d,e,f,g,h⟩
theorem jv{kindOf:Str→Option NameKind}{x:Str}:∀{binds:List (Str×Value)}{m:Str→Option Value},(∀v,(x,v)∉binds)→bindL kindOf binds m x=m x
 |[],_,_=>rfl
 |(n,v)::r,m,h=>by
  unfold bindL;rw[jv λw hw=>h w (mem_cons_of_mem _ hw)]
  split
  ·have:x≠n:=by rintro rfl;exact h v mem_cons_self
   simp[this]
  ·rfl
theorem jw{kindOf:Str→Option NameKind}{x:Str}:∀{binds:List (Str×Value)}{m:Str→Option Value},(∀v,(x,v)∉binds)→bindC kindOf binds m x=m x
 |[],_,_=>rfl
 |(n,v)::r,m,h=>by
  unfold bindC;rw[jw λw hw=>h w (mem_cons_of_mem _ hw)]
  split
  ·rfl
  ·have:x≠n:=by rintro rfl;exact h v mem_cons_self
   simp[this]
theorem jx{kindOf:Str→Option NameKind}{x:Str}{v:Value}:∀{P:List Str}{vs:List Value}{i:Nat}{m:Str→Option Value},P.Nodup→P[i]?=some x→vs[i]?=some v→kindOf x=some .local →
  bindL kindOf (P.zip vs) m x=some v
 |[],_,_,_,_,h,_,_=>by simp at h
 |_::_,[],_,_,_,_,h,_=>by simp at h
 |p::P,w::vs,0,m,nd,h1,h2,hk=>by
  simp at h1 h2;subst h1;subst h2;show bindL kindOf ((p,w)::P.zip vs) m p=_;unfold bindL;rw[jv λv hv=>(nodup_cons.mp nd).1 (of_mem_zip hv).1,if_pos hk];simp
 |p::P,w::vs,i+1,m,nd,h1,h2,hk=>by
  show bindL kindOf ((p,w)::P.zip vs) m x=_;unfold bindL;exact jx (i:=i) (nodup_cons.mp nd).2 (by simpa using h1) (by simpa using h2) hk
theorem jy{kindOf:Str→Option NameKind}{x:Str}{v:Value}:∀{P:List Str}{vs:List Value}{i:Nat}{m:Str→Option Value},P.Nodup→P[i]?=some x→vs[i]?=some v→kindOf x≠some .local →
  bindC kindOf (P.zip vs) m x=some v
 |[],_,_,_,_,h,_,_=>by simp at h
 |_::_,[],_,_,_,_,h,_=>by simp at h
 |p::P,w::vs,0,m,nd,h1,h2,hk=>by
  simp at h1 h2;subst h1;subst h2;show bindC kindOf ((p,w)::P.zip vs) m p=_;unfold bindC;rw[jw λv hv=>(nodup_cons.mp nd).1 (of_mem_zip hv).1,if_neg hk];simp
 |p::P,w::vs,i+1,m,nd,h1,h2,hk=>by
  show bindC kindOf ((p,w)::P.zip vs) m x=_;unfold bindC;exact jy (i:=i) (nodup_cons.mp nd).2 (by simpa using h1) (by simpa using h2) hk
def start(N:List Str)(vs:List V):St:=vs.map some++List.replicate (N.length-vs.length) none
def gC(CX:CXT)(P:Program)(w:World)(K:PySem.W.Frag)(mg:Str→Option Value)(base:Heap)(N:List Str)(qual:Str)(scope:Scope)(f:Addr)(cd:Value)(A:Around)(outer:List Env)(s:Shared)(H:Hp)(E:XK):Cx where
 prog:=P
 w:=w
 K:=K
 mg:=mg
 base:=base
 A:=A.deeper (envOfC qual scope s.heap.objs.size f cd)
 N:=N
 s₀:=s
 H₀:=H
 env:=envOfC qual scope s.heap.objs.size f cd
 outer:=outer
 stack:=envOfC qual scope s.heap.objs.size f cd::outer
 ex:=[]
 calm:=true
 fn:=λ_=>true
 pn:=[]
 xe:=λe s'=>wpAny (model P w) (A.deeper (envOfC qual scope s.heap.objs.size f cd)) (leaving (envOfC qual scope s.heap.objs.size f cd) e) (λ_ s''=>CX outer H s E e s'') (λe' s''=>CX outer H s E e' s'') s'
theorem kY{sc:Scope}{n:Nat}{x:Str}(h:sc.names.lookup x=some .cell):∃c,(cellsFrom n sc.names []).lookup x=some c:=by
 have q:=PySem.W.cellsFrom_some sc.names n [] (.inl h);exact Option.isSome_iff_exists.mp q
theorem oX{CX:CXT}{P:Program}{w:World}{K:PySem.W.Frag}{mg:Str→Option Value}{base:Heap}{N ps:List Str}{qual:Str}{scope:Scope}{f:Addr}{cd:Value}{A:Around}{outer:List Env}{s s1:Shared}{H:Hp}{E:XK}{us:List Value}{vs:List V}(S:FnScope N ps scope)(hd:A.handled=none)(e0:Env0 P w K mg base A outer s H)(hl:vs.length=ps.length)(r:aN vs us)(x:InCallC s s.heap.objs.size (bindL (envOfC qual scope s.heap.objs.size f cd).kindOf (ps.zip us) λ_=>none) (cellsFrom (s.heap.objs.size+1) scope.names []) (bindC (envOfC qual scope s.heap.objs.size f cd).kindOf (ps.zip us) λ_=>none) s1):
  Inv (gC CX P w K mg base N qual scope f cd A outer s H E) [] (start N vs) H s1:=by
 have hpl:ps.length≤N.length:=by have:=congrArg length S.pre;rw[length_take]at this;omega
 obtain⟨h1,tk,rfl,hk⟩:=x.done;have noA:∀b:Addr,b∉(gC CX P w K mg base N qual scope f cd A outer s H E).ex:=λb z=>absurd (show b∈([]:List Addr)from z) (by simp);refine⟨⟨e0.mod,S.kind,rfl,rfl,le_refl _,λy z c h1 h2=>?_,λy hy=>?_,λy c _ h=>?_,λ_=>hd,Around.frames_deeper e0.frames,.inr ⟨rfl,rfl⟩,λb z=>absurd z (noA b),e0.bs,e0.bsz,λb _ _=>noA b,λb z=>absurd z (noA b),e0.funs,e0.frf⟩,
  rfl,e0.bare,Un.kept hk,⟨_,x.toInCall.ns,λi y v h1 h2 h3=>?_⟩,λy c h=>⟨_,x.cell y c h⟩,e0.hok.fresh (le_refl _),λy c h=>?_,λp hp=>absurd (show p∈([]:List (Addr×Obj))from hp) (by simp),e0.hok.kept hk,?_⟩
 ·exact name_of_addr x.apart (PySem.mem_of_lookup h1) (PySem.mem_of_lookup h2)
 ·have hy:scope.names.lookup y=some .cell∨scope.names.lookup y=some .free:=hy;rcases hy with hy|hy
  ·exact kY hy
  ·exact absurd rfl (S.nofree _ (PySem.mem_of_lookup hy))
 ·exact le_of_lt (x.above y c (PySem.mem_of_lookup h))
 ·have hi:i<vs.length:=by
   unfold start at h2
   by_cases hi:i<vs.length
   ·exact hi
   ·rw[List.getElem?_append_right (by simpa using hi)]at h2;rw[List.getElem?_replicate]at h2
    split at h2<;>cases h2
  have ha:vs[i]?=some v:=by
   unfold start at h2;rw[List.getElem?_append_left (by simpa using hi),getElem?_map]at h2;cases e:vs[i]? with
   |none=>rw[e]at h2;cases h2
   |some a=>rw[e]at h2;cases h2;rfl
  obtain⟨u,hu,rv⟩:=r.get ha;have hp:ps[i]?=some y:=by
   rw[←S.pre,List.getElem?_take_of_lt (by omega)];exact h1
  have ndP:ps.Nodup:=by rw[←S.pre];exact S.nd.sublist (List.take_sublist _ _)
  refine⟨u,rv,?_⟩;rcases S.par y (mem_of_getElem? hp)with k|k
  ·exact .inl ⟨k,jx ndP hp hu k⟩
  ·obtain⟨c,e⟩:=kY (n:=s.heap.objs.size+1) k;refine .inr ⟨.inl k,c,e,?_⟩;have q:=x.cell y c e;rw[jy ndP hp hu (by show scope.names.lookup y≠_;rw[k];decide)]at q;exact q
 ·exact e0.hok.fresh (le_of_lt (x.above y c (PySem.mem_of_lookup h)))
 ·unfold start;show _=N.length;rw[length_append,length_map,length_replicate];omega
theorem ua{CX:CXT}{P:Program}{w:World}{K:PySem.W.Frag}{mg:Str→Option Value}{base:Heap}{k:Nat}{f:Addr}{name qual:Str}{params:Arguments}{body:List Stmt}{scope:Scope}{dV kV doc pm cdv ct oc:Value}{an od:Option Addr}{osl:Array (Option Value)}{N ps:List Str}{sp:Sp}(lk:K.lookup f=some ⟨oc,od,.func (fnOf name qual params body scope dV kV doc pm an cdv ct),osl⟩)(hcd:codeIn K cdv qual=true)(S:FnScope N ps scope)(len:∀vs H Q E,sp vs H Q E→vs.length=ps.length)(hbody:∀(A:Around) (outer:List Env) (s:Shared) (H:Hp) (vs:List V) (Q:VK) (E:XK),Room k (A.deeper (envOfC qual scope s.heap.objs.size f cdv))→sp vs H Q E →
   ∃t,PSs (gC CX P w K mg base N qual scope f cdv A outer s H E) body t∧t {nx:=λ_ H'=>Q .non H',rt:=Q} (start N vs) H):
  FnOk P w K mg base CX (k+1) f (fnOf name qual params body scope dV kV doc pm an cdv ct) ps sp:=by
 refine⟨len,λA outer s H args us vs Q E hr e0 hb r hsp=>?_⟩;have hl:=len _ _ _ _ hsp;have KX:K.In s.heap:=e0.mod.kin.keeps λb o e=>(e0.bs b o e).1;have lim:s.heap.NoLimit:=e0.mod.nolimit.keeps λb o e=>(e0.bs b o e).1;have hkind:∀y∈ps.zip us,scope.names.lookup y.1=some .local∨(scope.names.lookup y.1=some .cell∧((cellsFrom (s.heap.objs.size+1) scope.names []).lookup y.1).isSome=true):=λ⟨n,v⟩ hy=>by
  rcases S.par n (of_mem_zip hy).1 with q|q
  ·exact .inl q
  ·exact .inr ⟨q,PySem.W.cellsFrom_some _ _ _ (.inl q)⟩
 refine codeAny_call_function hr.depth (KX _ _ lk) rfl S.co S.gen rfl (PySem.W.codeRec_of KX hcd) (hb _ _ _ _ ?_);refine wpAny_newFunctionEnv_cells S.kind hkind λenv he s1 x=>?_;subst he;refine⟨lim.keeps x.toInCall.keep,codeAny_func ?_⟩;obtain⟨t,ht,hq⟩:=hbody A outer s H vs Q E (hr.deeper _) hsp;have I:Inv (gC CX P w K mg base N qual scope f cdv A outer s H E) [] (start N vs) H s1:=oX S hr.hd e0 hl r x;refine wpAny_mono (ht [] s1 (start N vs) H _ I hq) (λfl s' hs=>?_) λe s' hs=>hs;have fin:∀{σ':St}{H':Hp}{v:V}{u:Value},Inv (gC CX P w K mg base N qual scope f cdv A outer s H E) [] σ' H' s'→aS v u→Q v H'→CE outer P w H s Q u s' :=
  λ{σ' H' v u} J rv q=>⟨v,H',J.os,J.bare,J.base,J.hok,rv,q⟩
 cases fl with
 |ret u =>
  obtain⟨v,σ',H',J,rv,q⟩:=hs;exact fin J rv q
 |next =>
  obtain⟨σ',H',J,q⟩:=hs;exact fin (v:=V.non) (u:=Value.none) J rfl q
 |brk =>
  obtain⟨_,_,_,q⟩:=hs;exact False.elim q
 |cont =>
  obtain⟨_,_,_,q⟩:=hs;exact False.elim q
section
variable{X:Cx}{x:Str}{p pos:Pos}{e:Expr}{es:List Expr}{t:TA}{id T:String}{r:List V→Hp→VK→Prop}
def tCB(r:List V→Hp→VK→Prop)(t:TA):TE:=λσ H Q=>t σ H λvs H1=>r vs H1 Q
theorem aW(hc:du X (.builtin id) r)(hg:Gl X x)(hm:X.mg x=none)(hv:bootBuiltins x=some (.builtin id))(ha:PA X (e::es) t)(hn:x≠"__name__":=by decide)(hdb:(x==("__debug__":Str))=false:=by decide)(he:starEach (e::es) X.env=(false,eval e X.env)::starEach es X.env:=by rfl)(hpl:(backTo pos (starEach es X.env)).any (·.1)=false:=by rfl):PE X (.Call (.Name x p) (e::es) [] pos) (tCB r t):=by
 intro pins s σ H Q I h;refine wpAny_Call_Name_kw (jY I hg hm hv ?_ hn hdb);exact PyProof.Rows.callWith_builtin1 (thn (ha pos pins s σ H _ I h) λus s1 ⟨vs,H1,I1,r1,q1⟩=>hc pins s1 σ H1 vs us Q I1 r1 q1) he hpl
theorem bg(hc:du X (.type T) r)(hg:Gl X x)(hm:X.mg x=none)(hv:bootBuiltins x=some (.type T))(ha:PA X (e::es) t)(hn:x≠"__name__":=by decide)(hdb:(x==("__debug__":Str))=false:=by decide)(he:starEach (e::es) X.env=(false,eval e X.env)::starEach es X.env:=by rfl)(hpl:(backTo pos (starEach es X.env)).any (·.1)=false:=by rfl):PE X (.Call (.Name x p) (e::es) [] pos) (tCB r t):=by
 intro pins s σ H Q I h;refine wpAny_Call_Name_kw (jY I hg hm hv ?_ hn hdb);exact PyProof.Rows.callWith_type1 (thn (ha pos pins s σ H _ I h) λus s1 ⟨vs,H1,I1,r1,q1⟩=>hc pins s1 σ H1 vs us Q I1 r1 q1) he hpl
end
end L2
namespace HT
open PySem PyProof.Rows
section
open PySem.SeqAt
open PySem.AutoSeq1 (wpAny_loadPart')
open PySem.MeetsSeq PySem.MeetsSeq2 PySem.MeetsSeq3
end
section
variable{prog:Program}{w:World}{A:Around}{E:Value→Shared→Prop}{s:Shared}
theorem rZ{t b:Addr}{vs ws:List Value}{Q:Value→Shared→Prop}(ht:IsTup s.heap t vs.toArray)(hb:IsTup s.heap b ws.toArray)(hv:vs≠[])(h1:ws=[]→Q (.ref t) s)(h2:ws≠[]→Q (.ref s.heap.objs.size) {s with heap:=s.heap.push {cls:=.type "tuple",data:=.seq (vs++ws).toArray}})(hsz:vs.length+ws.length≤sizeLine):wpAny (model prog w) A (binaryOp .Add (.ref t) (.ref b)) Q E s:=by
 obtain⟨⟨cls,dd,data,sl⟩,ho,hc,n,hd⟩:=id ht;obtain⟨⟨cls2,dd2,data2,sl2⟩,ho2,hc2,n2,hd2⟩:=id hb;simp only at hc hd hc2 hd2;subst hc hd hc2 hd2;have e:vs.toArray++ws.toArray=(vs++ws).toArray:=by simp
 by_cases hw:ws=[]
 ·exact concat_meets ⟨_,ho,rfl⟩ ⟨_,ho2,rfl⟩ noFill_tuple_add seq_tuple_add slot_tuple_add entry_tuple_add (args_tuple_add_2 _ _)
   (tuple_addW1 t b vs.toArray ws.toArray n n2 dd dd2 sl sl2 (by simpa using hv) (by simp[hw])) ⟨ho,ho2,h1 hw⟩
 ·refine concat_meets ⟨_,ho,rfl⟩ ⟨_,ho2,rfl⟩ noFill_tuple_add seq_tuple_add slot_tuple_add entry_tuple_add (args_tuple_add_2 _ _)
   (tuple_addW2 t b vs.toArray ws.toArray n n2 dd dd2 sl sl2 (by simpa using hv) (by simpa using hw) (by rw[size_toArray,size_toArray];exact hsz)) ⟨ho,ho2,?_⟩
  rw[e];exact h2 hw
def sIx(n d:Nat):Option Int→Nat
 |none=>d
 |some v=>if v<0 then (v+(n:Int)).toNat else min v.toNat n
theorem uR(n d:Nat)(hd:d≤n)(o:Option Int):sIx n d o≤n:=by
 cases o with
 |none=>exact hd
 |some v =>
  show(if v<0 then (v+(n:Int)).toNat else min v.toNat n)≤n
  by_cases hv:v<0
  ·rw[if_pos hv];omega
  ·rw[if_neg hv];exact Nat.min_le_right _ _
theorem nM(v:Int)(n d:Nat):(if v<0 then max (v+(n:Int)) 0 else min v (n:Int))=((sIx n d (some v):Nat):Int):=by
 show(if v<0 then max (v+(n:Int)) 0 else min v (n:Int))=(((if v<0 then (v+(n:Int)).toNat else min v.toNat n):Nat):Int)
 by_cases hv:v<0
 ·simp only[if_pos hv];omega
 ·simp only[if_neg hv];omega
theorem mr(lo hi:Option Int)(n:Nat):Builtin.Slice.sliceAdjust lo hi 1 (n:Int)=(((sIx n 0 lo:Nat):Int),((sIx n n hi:Nat):Int)):=by
 have h1:¬((1:Int)<0):=by omega
 unfold Builtin.Slice.sliceAdjust;simp only[h1,if_false];refine Prod.ext ?_ ?_
 ·cases lo with
  |none=>rfl
  |some v=>exact nM v n 0
 ·cases hi with
  |none=>rfl
  |some v=>exact nM v n n
theorem mw(i j:Nat):Builtin.Slice.slicePlaces (i:Int) (j:Int) 1=j-i:=by
 unfold Builtin.Slice.slicePlaces;have h1:(1:Int)>0:=by omega
 simp only[h1,if_true,Int.ediv_one]
 split<;>omega
theorem iO{v:Value}{o:Option Int}{Q:Option Int→Shared→Prop}(p:IsPart v o)(h:Q o s):wpAny (model prog w) A (Builtin.Slice.slicePartIndex v) Q E s:=by
 cases p with
 |none=>exact slicePart_none h
 |int i t=>exact slicePart_int h
theorem hX{sl:Addr}{vl vu:Value}{lo hi:Option Int}{n:Nat}{Q:Int×Int×Nat→Shared→Prop}(hs:s.heap.IsSliceOf sl vl vu .none)(pl:IsPart vl lo)(pu:IsPart vu hi)(h:Q (((sIx n 0 lo:Nat):Int),1,sIx n n hi-sIx n 0 lo) s):wpAny (model prog w) A (Builtin.Slice.sliceApplied (.ref sl) (pure (n:Int))) Q E s:=by
 obtain⟨os,hos,hcs,hds⟩:=id hs;unfold Builtin.Slice.sliceApplied Builtin.Slice.sliceFields;refine wpAny_bind (wpAny_bind (wpAny_field hos hds (x:=vl) rfl (wpAny_bind (wpAny_field hos hds (x:=vu) rfl (wpAny_bind (wpAny_field hos hds (x:=.none) rfl (wpAny_pure ?_)))))));refine wpAny_bind (slicePart_none ?_);show wpAny _ _ (if ((1:Int)==0)=true then _ else _) _ _ s
 rw[if_neg (by decide)];refine wpAny_bind (iO pl (wpAny_bind (iO pu (wpAny_bind (wpAny_pure ?_)))));show wpAny _ _ (match Builtin.Slice.sliceAdjust lo hi 1 (n:Int)with|(lo,hi)=>pure (lo,(1:Int),Builtin.Slice.slicePlaces lo hi 1)) _ _ s
 rw[mr lo hi n];show wpAny _ _ (pure (((sIx n 0 lo:Nat):Int),(1:Int),Builtin.Slice.slicePlaces ((sIx n 0 lo:Nat):Int) ((sIx n n hi:Nat):Int) 1)) _ _ s;rw[mw];exact wpAny_pure h
theorem qc(xs:Array Value)(i k:Nat):((List.range k).filterMap λ(m:Nat)=>xs[((i:Int)+(m:Int)*1).toNat]?).toArray=((xs.toList.drop i).take k).toArray:=by
 have e:(λ(m:Nat)=>xs[((i:Int)+(m:Int)*1).toNat]?)=λm=>xs[i+m]?:=by
  funext m
  have:((i:Int)+(m:Int)*1).toNat=i+m:=by omega
  rw[this]
 rw[e];have:=pick_run xs i k;rw[List.filterMap_map]at this;have e2:((λx=>xs[x]?)∘λx=>i+x)=λm=>xs[i+m]?:=rfl;rw[e2]at this;rw[this]
theorem gE{t sl:Addr}{items:Array Value}{vl vu:Value}{lo hi:Option Int}{Q:Value→Shared→Prop}(ht:IsTup s.heap t items)(hs:s.heap.IsSliceOf sl vl vu .none)(pl:IsPart vl lo)(pu:IsPart vu hi)(hw:¬(sIx items.size 0 lo=0∧sIx items.size items.size hi=items.size))(h:Q (.ref s.heap.objs.size) {s with heap:=s.heap.push {cls:=.type "tuple",data:=.seq ((items.toList.drop (sIx items.size 0 lo)).take (sIx items.size items.size hi-sIx items.size 0 lo)).toArray}})(hsz:items.size≤sizeLine):wpAny (model prog w) A (getItem (.ref t) (.ref sl)) Q E s:=by
 have htake:sizeOk (.seq ((items.toList.drop (sIx items.size 0 lo)).take (sIx items.size items.size hi-sIx items.size 0 lo)).toArray):=by
  show((items.toList.drop (sIx items.size 0 lo)).take (sIx items.size items.size hi-sIx items.size 0 lo)).toArray.size≤sizeLine;rw[size_toArray,length_take,List.length_drop,length_toList];omega
 have hj:sIx items.size items.size hi≤items.size:=uR _ _ (le_refl _) hi;obtain⟨os,hos,hcs,hds⟩:=id hs;have hTs:s.TypeIs (.ref sl) "slice":=⟨os,hos,hcs⟩;unfold getItem
 try with_reducible refine wpAny_holding ?_
 first|refine wpAny_bind (wpAny_pure ?_)|skip
 refine wpAny_bind (wpAny_sequenceKey ht.typeIs (by decide) ?_);refine wpAny_bind (wpAny_callSpecial?_slot (name:=ofString "__getitem__") ht.typeIs PyProof.Rows.slot_tuple_getitem
  (wpAny_call_entry PyProof.Rows.slot_tuple_getitem ht.typeIs entry_tuple_getitem ?_ (args_tuple_getitem _ _)))
 show wpAny _ _ (Builtin.Tuple.tupleItemsOf (.ref t) >>= _) _ _ s;refine wpAny_bind (tupleItemsOf_ ht ?_);refine wpAny_bind (wpAny_typeOf hTs ?_);rw[if_pos (by decide)];refine wpAny_bind (hX hs pl pu ?_);have hno:¬((((sIx items.size 0 lo:Nat):Int)==0&&(1:Int)==1&&(sIx items.size items.size hi-sIx items.size 0 lo)==items.size)=true):=by
  intro q;rw[and_eq_true,and_eq_true]at q;have q1:((sIx items.size 0 lo:Nat):Int)=0:=eq_of_beq q.1.1;have q2:sIx items.size items.size hi-sIx items.size 0 lo=items.size:=eq_of_beq q.2;exact hw ⟨by omega,by omega⟩
 show wpAny _ _ (if (((sIx items.size 0 lo:Nat):Int)==0&&(1:Int)==1&&(sIx items.size items.size hi-sIx items.size 0 lo)==items.size)=true then _ else _) _ _ s
 rw[if_neg hno,qc]
 first
  |exact wpAny_bind (m:=Builtin.Tuple.tupleExact _) (wpAny_newObj_type (wpAny_pure ⟨_,rfl,wpAny_pure h⟩) htake)
  |exact wpAny_bind (m:=Builtin.Tuple.tupleExact _) (wpAny_newObj_type (wpAny_bind (wpAny_pure (wpAny_pure ⟨_,rfl,wpAny_pure h⟩))) htake)
  |exact wpAny_bind (wpAny_bind (m:=Builtin.Tuple.tupleExact _) (wpAny_newObj_type (wpAny_pure (wpAny_pure ⟨_,rfl,wpAny_pure h⟩)) htake))
  |exact wpAny_bind (wpAny_bind (m:=Builtin.Tuple.tupleExact _) (wpAny_newObj_type (wpAny_pure ⟨_,rfl,wpAny_pure h⟩) htake))
end
end HT
namespace L2
open PySem PySem.Spec PyProof.Rows
abbrev TO:=St→Hp→(Option Int→Hp→Prop)→Prop
def PO(X:Cx)(e:Option Expr)(t:TO):Prop :=
 ∀(pins:List (Addr×Obj))(s:Shared)(σ:St)(H:Hp)(Q:Option Int→Hp→Prop),Inv X pins σ H s→t σ H Q →
  wpAny (model X.prog X.w) X.A (evalPart e X.env) (λu s'=>∃o H',Inv X pins σ H' s'∧IsPart u o∧Q o H') X.xe s
def si:TO:=λ_ H Q=>Q none H
def wC(t:TE):TO:=λσ H Q=>t σ H λx H1=>∃i,x=.int i∧Q (some i) H1
theorem mG{ns:List Int}:∀{us:List Value},aN (ns.map V.int) us→IntsAre us ns:=by
 induction ns with
 |nil=>intro us r;rw[map_nil]at r;cases r;exact .nil
 |cons n ns ih =>
  intro us r;rw[map_cons]at r;cases r with
  |cons r1 r2 =>
   obtain⟨t,e⟩:=r1;subst e;exact .cons n t (ih r2)
section
variable{X:Cx}{e:Expr}{te:TE}{lo hi:Option Expr}{tl th:TO}{pos p2:Pos}
theorem dh:PO X none si:=by
 intro pins s σ H Q I h;rw[evalPart_none];exact wpAny_pure ⟨none,H,I,.none,h⟩
theorem bt(h:PE X e te):PO X (some e) (wC te):=by
 intro pins s σ H Q I hw;rw[evalPart_some];refine thn (h pins s σ H _ I hw) λu s1 hpt=>?_;obtain⟨x,H1,I1,r1,q1⟩:=hpt;obtain⟨i,rfl,q⟩:=q1;obtain⟨t,rfl⟩:=r1;exact⟨some i,H1,I1,.int i t,q⟩
def SlR(X:Cx)(r:V→Option Int→Option Int→Hp→VK→Prop):Prop :=
 ∀(pins:List (Addr×Obj))(s:Shared)(σ:St)(H:Hp)(x:V)(v vl vu:Value)(lo hi:Option Int)(sl:Addr)(Q:VK),Inv X pins σ H s→aS x v→s.heap.IsSliceOf sl vl vu .none→IsPart vl lo→IsPart vu hi→r x lo hi H Q →
  ∃T id,typeLookup (.type T) "__getitem__"=pure (some (.builtin id))∧s.TypeIs v T∧wpAny (model X.prog X.w) X.A (getItem v (.ref sl)) (EP X pins σ Q) X.xe s
def tSl(r:V→Option Int→Option Int→Hp→VK→Prop)(te:TE)(tl th:TO):TE:=λσ H Q=>te σ H λx H1=>tl σ H1 λl H2=>th σ H2 λu H3=>r x l u H3 Q
theorem bJ{r:V→Option Int→Option Int→Hp→VK→Prop}(hr:SlR X r)(he:PE X e te)(hl:PO X lo tl)(hu:PO X hi th):PE X (.Subscript e (.Slice lo hi none p2) pos) (tSl r te tl th):=by
 intro pins s σ H Q I h;refine Subscript_ (thn (he pins s σ H _ I h) λv s1 hpt=>?_);obtain⟨x,H1,I1,r1,q1⟩:=hpt;refine wpAny_Slice (thn (hl pins s1 σ H1 _ I1 q1) λvl s2 ⟨l,H2,I2,pl,q2⟩=>thn (hu pins s2 σ H2 _ I2 q2) λvu s3 hpt=>?_);obtain⟨u,H3,I3,pu,q3⟩:=hpt;rw[evalPart_none];refine wpAny_pure ?_;have I4:Inv X pins σ H3 {s3 with heap:=s3.heap.push {cls:=.type "slice",data:=.fields #[vl,vu,.none]}}:=I3.kept (t':=s3.toks) λb ob q=>get?_push_of_some _ q
 obtain⟨T,id,hT,ht,hg⟩:=hr pins {s3 with heap:=s3.heap.push {cls:=.type "slice",data:=.fields #[vl,vu,.none]}} σ H3 x v vl vu l u s3.heap.objs.size Q I4 r1 (Heap.IsSliceOf.new ..) pl pu q3
 show wpAny (model X.prog X.w) X.A (subscriptTail e (.Slice lo hi none p2) v (.ref s3.heap.objs.size)) (EP X pins σ Q) X.xe {s3 with heap:=s3.heap.push {cls:=.type "slice",data:=.fields #[vl,vu,.none]}}
 exact tail_any (ops:=[.ref s3.heap.objs.size,v]) ht hT hg (by with_unfolding_all rfl)
def dU(xs:List V)(lo hi:Option Int):List V:=(xs.drop (HT.sIx xs.length 0 lo)).take (HT.sIx xs.length xs.length hi-HT.sIx xs.length 0 lo)
theorem kZ(xs:List V)(lo hi:Option Int):(dU xs lo hi).length≤xs.length:=by
 unfold dU;rw[length_take,List.length_drop];omega
def kd(K:PySem.W.Frag):V→Option Int→Option Int→Hp→VK→Prop:=λx lo hi H Q=>∃a xs,x=.ref a∧SqT K H a xs ∧
 ¬(HT.sIx xs.length 0 lo=0∧HT.sIx xs.length xs.length hi=xs.length)∧∀p,H p=none→Q (.ref p) (upd H p (.tup (dU xs lo hi)))
theorem cI:SlR X (kd X.K):=by
 intro pins s σ H x v vl vu lo hi sl Q I rx hs pl pu h;obtain⟨a,xs,rfl,hx,hw,q⟩:=h;cases rx;obtain⟨its,r,ht,hz⟩:=I.tuple hx;have hlen:its.toArray.size=xs.length:=by rw[size_toArray];exact r.length.symm
 refine⟨"tuple",_,PyProof.Rows.slot_tuple_getitem.lookup,ht.typeIs,?_⟩;refine HT.gE ht hs pl pu (by rw[hlen];exact hw) ?_ (by rw[hlen];exact hz);rw[hlen];refine⟨.ref s.heap.objs.size,_,I.laid (t':=s.toks) (o:=.tup (dU xs lo hi)) (λb ob q=>get?_push_of_some _ q) (le_refl _) ?_,rfl,q _ (I.hok.fresh (le_refl _))⟩;exact⟨le_trans (kZ xs lo hi) hz,_,(r.drop (HT.sIx xs.length 0 lo)).take (HT.sIx xs.length xs.length hi-HT.sIx xs.length 0 lo),IsTup.new _ _⟩
def nN(K:PySem.W.Frag):R2:=λx y H Q=>∃a b xs ys,x=.ref a∧y=.ref b∧SqT K H a xs∧SqT K H b ys∧xs≠[]∧xs.length+ys.length≤sizeLine ∧
 (ys=[]→Q (.ref a) H)∧(ys≠[]→∀p,H p=none→Q (.ref p) (upd H p (.tup (xs++ys))))
theorem aN.nil_iff{xs:List V}{us:List Value}(r:aN xs us):us=[]↔xs=[]:=by
 cases r with
 |nil=>simp
 |cons _ _=>simp
theorem dN:OpR X (binaryOp .Add) (nN X.K):=by
 intro pins s σ H x y v u Q I rx ry h;obtain⟨a,b,xs,ys,rfl,rfl,ha,hb,hx,hz,q1,q2⟩:=h;cases rx;cases ry;obtain⟨its,r1,p1,_⟩:=I.tuple ha;obtain⟨its2,r2,p2,_⟩:=I.tuple hb;refine HT.rZ p1 p2 (λz=>hx (r1.nil_iff.mp z)) (λz=>⟨.ref a,H,I,rfl,q1 (r2.nil_iff.mp z)⟩) (λz=>?_) (by rw[←r1.length,←r2.length];exact hz);refine⟨.ref s.heap.objs.size,_,I.laid (t':=s.toks) (o:=.tup (xs++ys)) (λb ob q=>get?_push_of_some _ q) (le_refl _) ?_,rfl,q2 (λw=>z (r2.nil_iff.mpr w)) _ (I.hok.fresh (le_refl _))⟩;exact⟨by rw[length_append];exact hz,_,r1.append r2,IsTup.new _ _⟩
end
def ixN(n:Nat)(i:Int):Option Nat:=if 0≤i then (if i<n then some i.toNat else none)else if -(n:Int)≤i then some (i+n).toNat else none
def atI{α:Type}(xs:List α)(i:Int):Option α:=(ixN xs.length i).bind λj=>xs[j]?
theorem nO{n:Nat}{i:Int}{j:Nat}(h:ixN n i=some j):seqIndex? i n=some j∧j<n∧-(n:Int)≤i∧i<n:=by
 unfold ixN at h
 by_cases h0:0≤i
 ·rw[if_pos h0]at h
  by_cases h1:i<n
  ·rw[if_pos h1]at h;have e:i.toNat=j:=Option.some.inj h;exact⟨by rw[seqIndex_of h0 h1,e],by omega,by omega,h1⟩
  ·rw[if_neg h1]at h;cases h
 ·rw[if_neg h0]at h
  by_cases h1:-(n:Int)≤i
  ·rw[if_pos h1]at h;have e:(i+n).toNat=j:=Option.some.inj h;exact⟨by rw[seqIndex_neg (by omega) h1,e],by omega,h1,by omega⟩
  ·rw[if_neg h1]at h;cases h
theorem ke{α:Type}{xs:List α}{i:Int}{v:α}(h:atI xs i=some v):∃j,seqIndex? i xs.length=some j∧xs[j]?=some v∧j<xs.length∧-(xs.length:Int)≤i∧i<xs.length:=by
 unfold atI at h;cases e:ixN xs.length i with
 |none=>rw[e]at h;cases h
 |some j =>
  rw[e]at h;obtain⟨h1,h2,h3,h4⟩:=nO e;exact⟨j,h1,h,h2,h3,h4⟩
theorem dO{α:Type}{xs:List α}{j:Nat}{v:α}(h:xs[j]?=some v):atI xs (j:Int)=some v:=by
 have hj:j<xs.length:=(List.getElem?_eq_some_iff.mp h).1;have e:ixN xs.length (j:Int)=some j:=by
  unfold ixN;rw[if_pos (by omega),if_pos (by omega)];simp
 unfold atI;rw[e];exact h
def sj(b:Expr):Prop:=∀o i,subscripted b false o i=operate [o,i] (getItem o i)
def IxR(X:Cx)(r:R2):Prop :=
 ∀(value slice:Expr)(pins:List (Addr×Obj))(s:Shared)(σ:St)(H:Hp)(x y:V)(v u:Value)(Q:VK),Inv X pins σ H s→aS x v→aS y u→r x y H Q →
  subscripted slice false v u=operate [v,u] (getItem v u)→wpAny (model X.prog X.w) X.A (subscriptTail value slice v u) (EP X pins σ Q) X.xe s
def MtR(X:Cx)(id:String)(r:V→List V→Hp→VK→Prop):Prop :=
 ∀(pins:List (Addr×Obj))(s:Shared)(σ:St)(H:Hp)(x:V)(xs:List V)(v:Value)(us:List Value)(Q:VK),Inv X pins σ H s→aS x v→aN xs us→r x xs H Q →
  wpAny (model X.prog X.w) X.A (call (.builtin id) (v::us)) (EP X pins σ Q) X.xe s
section
variable{X:Cx}{a b:Expr}{ta tb:TE}{pos:Pos}
theorem av{r:R2}(hr:IxR X r)(ha:PE X a ta)(hb:PE X b tb)(hs:sj b):PE X (.Subscript a b pos) (tOp r ta tb):=by
 intro pins s σ H Q I h;exact Subscript_ (uK ha hb I h λv u s2 x y H2 I2 rx ry q=>hr a b pins s2 σ H2 x y v u Q I2 rx ry q (hs _ _))
def xq(K:PySem.W.Frag):R2:=λx y H Q=>∃p xs i v,x=.ref p∧y=.int i∧SqL K H p xs∧atI xs i=some v∧Q v H
def cG(K:PySem.W.Frag):R2:=λx y H Q=>∃p xs i v,x=.ref p∧y=.int i∧SqT K H p xs∧atI xs i=some v∧Q v H
def xr:R2:=λx y H Q=>∃z i c,x=.str z∧y=.int i∧z.length≤sizeLine∧atI z.cps.toList i=some c∧Q (.str ⟨#[c]⟩) H
theorem cJ:IxR X (xq X.K):=by
 intro value slice pins s σ H x y v u Q I rx ry h hs;obtain⟨p,xs,i,z,rfl,rfl,hq,he,q⟩:=h;cases rx;obtain⟨t,rfl⟩:=ry;obtain⟨its,r,pl,hz⟩:=I.list hq;obtain⟨j,h1,h2,h3,h4,h5⟩:=ke he;obtain⟨w,ew,rw'⟩:=r.get h2;have hl:=r.length;have hn:=hU;have fin:EP X pins σ Q w s:=⟨z,H,I,rw',q⟩
 by_cases h0:0≤i
 ·have hj:i.toNat=j:=by
   rw[seqIndex_of h0 h5]at h1;exact Option.some.inj h1
  exact item_listR pl.isList h0 (by omega) (by rw[hj];simpa using ew) fin hs
 ·have hj:(i+(its.toArray.size:Int)).toNat=j:=by
   rw[seqIndex_neg (by omega) h4]at h1;rw[size_toArray,←hl];exact Option.some.inj h1
  exact subscriptTail_builtinR (x:=w) pl.isList.typeIs slot_list_getitem.lookup
   (wpAny_getItem_list_neg (Q:=λr s'=>r=w∧EP X pins σ Q r s') pl.isList (by omega) (by rw[size_toArray]<;>omega) (by omega) (by rw[hj];simpa using ew) ⟨rfl,fin⟩) hs
theorem ao:IxR X (cG X.K):=by
 intro value slice pins s σ H x y v u Q I rx ry h hs;obtain⟨p,xs,i,z,rfl,rfl,hq,he,q⟩:=h;cases rx;obtain⟨t,rfl⟩:=ry;obtain⟨its,r,pl,hz⟩:=I.tuple hq;obtain⟨j,h1,h2,h3,h4,h5⟩:=ke he;obtain⟨w,ew,rw'⟩:=r.get h2;have hl:=r.length;have hn:=hU;have fin:EP X pins σ Q w s:=⟨z,H,I,rw',q⟩;exact subscriptTail_builtinR (x:=w) pl.typeIs slot_tuple_getitem.lookup
  (getItem_tuple (j:=j) (Q:=λr s'=>r=w∧EP X pins σ Q r s') pl (by omega) (by omega) (by rw[size_toArray,←hl];exact h1) (by simpa using ew) ⟨rfl,fin⟩) hs
theorem uS:IxR X xr:=by
 intro value slice pins s σ H x y v u Q I rx ry h hs;obtain⟨z,i,c,rfl,rfl,hz,he,q⟩:=h;obtain⟨t,rfl⟩:=rx;obtain⟨t',rfl⟩:=ry;obtain⟨j,h1,h2,h3,h4,h5⟩:=ke he;have hl:z.cps.toList.length=z.length:=by simp[Str.length]
 rw[hl]at h1 h4 h5;have hn:=hU;exact tail_any (typeIs_str s z t) slot_str_getitem.lookup (getItem_str (c:=c) (by
  have e1:decide (i < -(2 ^ 63:Int))=false:=decide_eq_false (by omega);have e2:decide (i≥2 ^ 63)=false:=decide_eq_false (by omega);rw[e1,e2,Bool.or_false]) (by rw[h1];simpa using h2) ⟨.str ⟨#[c]⟩,H,I.tok _,⟨_,rfl⟩,q⟩) hs
def eT:V→Bool
 |.non=>true
 |.bl _=>true
 |.int _=>true
 |.str _=>true
 |_=>false
def eqV:V→V→Bool
 |.non,.non=>true
 |.bl a,.bl b=>a==b
 |.bl a,.int b=>(if a then 1 else 0)==b
 |.int a,.bl b=>a==(if b then 1 else 0)
 |.int a,.int b=>a==b
 |.str a,.str b=>a==b
 |_,_=>false
theorem qd{A:Around}{s:Shared}{y x:V}{u v:Value}(ry:aS y u)(rx:aS x v)(fy:eT y=true)(fx:eT x=true):EqAt A s u v (eqV y x):=by
 cases y with
 |non =>
  cases ry;cases x with
  |non=>cases rx;exact EqAt.same _
  |bl b=>cases rx;exact EqAt.none_bool b
  |int b=>obtain⟨t,rfl⟩:=rx;exact EqAt.none_int b t
  |str b=>obtain⟨t,rfl⟩:=rx;exact EqAt.none_str b t
  |_=>exact absurd (show false=true from fx) Bool.false_ne_true
 |bl a =>
  cases ry;cases x with
  |non=>cases rx;exact EqAt.bool_none a
  |bl b=>cases rx;exact EqAt.bool_bool a b
  |int b=>obtain⟨t,rfl⟩:=rx;exact EqAt.bool_int a b t
  |str b=>obtain⟨t,rfl⟩:=rx;exact EqAt.bool_str a b t
  |_=>exact absurd (show false=true from fx) Bool.false_ne_true
 |int a =>
  obtain⟨t',rfl⟩:=ry;cases x with
  |non=>cases rx;exact EqAt.int_none a t'
  |bl b=>cases rx;exact EqAt.int_bool a t' b
  |int b=>obtain⟨t,rfl⟩:=rx;exact EqAt.int_int a t' b t
  |str b=>obtain⟨t,rfl⟩:=rx;exact EqAt.int_str a t' b t
  |_=>exact absurd (show false=true from fx) Bool.false_ne_true
 |str a =>
  obtain⟨t',rfl⟩:=ry;cases x with
  |non=>cases rx;exact EqAt.str_none a t'
  |bl b=>cases rx;exact EqAt.str_bool a t' b
  |int b=>obtain⟨t,rfl⟩:=rx;exact EqAt.str_int a t' b t
  |str b=>obtain⟨t,rfl⟩:=rx;exact EqAt.str_str a t' b t
  |_=>exact absurd (show false=true from fx) Bool.false_ne_true
 |_=>exact absurd (show false=true from fy) Bool.false_ne_true
def eqU(x:V)(u:Value):Bool:=match u with
 |.none=>eqV .non x
 |.bool b=>eqV (.bl b) x
 |.int i _=>eqV (.int i) x
 |.str z _=>eqV (.str z) x
 |_=>false
theorem qe{x y:V}{u:Value}(r:aS y u)(f:eT y=true):eqU x u=eqV y x:=by
 cases y with
 |non=>cases r;rfl
 |bl b=>cases r;rfl
 |int i=>obtain⟨t,rfl⟩:=r;rfl
 |str z=>obtain⟨t,rfl⟩:=r;rfl
 |_=>exact absurd (show false=true from f) Bool.false_ne_true
theorem gF{x:V}:∀{xs:List V}{us:List Value},aN xs us→xs.all eT=true→us.any (eqU x)=xs.any λy=>eqV y x
 |_,_,.nil,_=>rfl
 |y::xs,u::us,.cons r t,f=>by
  rw[List.all_cons,and_eq_true]at f;rw[any_cons,any_cons,qe r f.1,gF t f.2]
theorem eU{A:Around}{s:Shared}{x:V}{v:Value}(rx:aS x v)(fx:eT x=true):∀{xs:List V}{us:List Value},aN xs us→xs.all eT=true→∀u∈us,EqAt A s u v (eqU x u)
 |_,_,.nil,_=>λu hu=>by cases hu
 |y::xs,u::us,.cons r t,f=>λu' hu=>by
  rw[List.all_cons,and_eq_true]at f;rcases mem_cons.mp hu with rfl|hu
  ·rw[qe r f.1];exact qd r rx f.1 fx
  ·exact eU rx fx t f.2 u' hu
def inV(x:V)(xs:List V):Bool:=xs.any λy=>eqV y x
def rIn(K:PySem.W.Frag)(neg:Bool):R2:=λx y H Q=>∃p xs,y=.ref p∧(SqL K H p xs∨SqT K H p xs)∧eT x=true∧xs.all eT=true∧Q (.bl (if neg then !inV x xs else inV x xs)) H
theorem jz:OpR X (compareOp .In) (rIn X.K false):=by
 intro pins s σ H x y v u Q I rx ry h;obtain⟨p,xs,rfl,hq,fx,fs,q⟩:=h;cases ry;rcases hq with hq|hq
 ·obtain⟨its,r,pl,hz⟩:=I.list hq;refine in_listAt (eqU x) pl.isList (λw hw=>eU rx fx r fs w (by simpa using hw)) ⟨.bl _,H,I,rfl,?_⟩;rw[show its.toArray.any (eqU x)=its.any (eqU x)by simp,gF r fs];exact q
 ·obtain⟨its,r,pl,hz⟩:=I.tuple hq;refine SeqAt.in_tupleAt (eqU x) pl (λw hw=>eU rx fx r fs w (by simpa using hw)) ⟨.bl _,H,I,rfl,?_⟩;rw[show its.toArray.any (eqU x)=its.any (eqU x)by simp,gF r fs];exact q
theorem gG:OpR X (compareOp .NotIn) (rIn X.K true):=by
 intro pins s σ H x y v u Q I rx ry h;obtain⟨p,xs,rfl,hq,fx,fs,q⟩:=h;cases ry;rcases hq with hq|hq
 ·obtain⟨its,r,pl,hz⟩:=I.list hq;refine SeqAt.notIn_listAt (eqU x) pl.isList (λw hw=>eU rx fx r fs w (by simpa using hw)) ⟨.bl _,H,I,rfl,?_⟩;rw[show its.toArray.any (eqU x)=its.any (eqU x)by simp,gF r fs];exact q
 ·obtain⟨its,r,pl,hz⟩:=I.tuple hq;refine SeqAt.notIn_tupleAt (eqU x) pl (λw hw=>eU rx fx r fs w (by simpa using hw)) ⟨.bl _,H,I,rfl,?_⟩;rw[show its.toArray.any (eqU x)=its.any (eqU x)by simp,gF r fs];exact q
theorem aR:du X (.builtin "len") (λxs H Q=>∃p ys,xs=[.ref p]∧(SqL X.K H p ys∨SqT X.K H p ys)∧Q (.int ys.length) H):=by
 intro pins s σ H xs us Q I r h;obtain⟨p,ys,rfl,hq,q⟩:=h;obtain⟨u,rfl,rx⟩:=ip r;cases rx;have hn:=hU;rcases hq with hq|hq
 ·obtain⟨its,r',pl,hz⟩:=I.list hq;have hlen:=r'.length;exact Calls.call_len_list pl.isList (by simp only[size_toArray]<;>omega) ⟨.int ys.length,H,I.tok _,⟨s.toks+1,by rw[size_toArray,hlen]⟩,q⟩
 ·obtain⟨its,r',pl,hz⟩:=I.tuple hq;have hlen:=r'.length;exact len_tuple pl (by simp only[size_toArray]<;>omega) ⟨.int ys.length,H,I.tok _,⟨s.toks+1,by rw[size_toArray,hlen]⟩,q⟩
theorem gH:du X (.builtin "len") (λxs H Q=>∃z,xs=[.str z]∧z.length≤sizeLine∧Q (.int z.length) H):=by
 intro pins s σ H xs us Q I r h;obtain⟨z,rfl,hz,q⟩:=h;obtain⟨u,rfl,t,rfl⟩:=ip r;have hn:=hU;exact len_str (by omega) ⟨.int z.length,H,I.tok _,⟨_,rfl⟩,q⟩
theorem bu:du X (.type "tuple") (λxs H Q=>∃p ys,xs=[.ref p]∧((SqL X.K H p ys∧∀l,H l=none→Q (.ref l) (upd H l (.tup ys)))∨(SqT X.K H p ys∧Q (.ref p) H))):=by
 intro pins s σ H xs us Q I r h;obtain⟨p,ys,rfl,h⟩:=h;obtain⟨u,rfl,rx⟩:=ip r;cases rx;rcases h with⟨hq,q⟩|⟨hq,q⟩
 ·obtain⟨its,r',pl,hz⟩:=I.list hq;have hlen:=r'.length;refine call_tuple_list pl.isList (λh' kp=>?_) (by simp only[size_toArray]<;>omega);have I1:Inv X pins σ H {s with heap:=h'}:=I.kept (t':=s.toks) kp
  have I2:Inv X pins σ (upd H h'.objs.size (.tup ys)) {s with heap:=h'.push {cls:=.type "tuple",data:=.seq its.toArray}} :=
   I1.laid (t':=s.toks) (λb o e=>get?_push_of_some _ e) (le_refl _) (show bw X.prog X.w _ _ _ (.tup ys)from⟨hz,its,r',IsTup.new _ _⟩)
  exact⟨.ref h'.objs.size,_,I2,rfl,q _ (I1.hok.fresh (le_refl _))⟩
 ·obtain⟨its,r',pl,hz⟩:=I.tuple hq;exact call_tuple_same pl ⟨.ref p,H,I,rfl,q⟩
def tyV(K:PySem.W.Frag)(T:String)(x:V)(H:Hp):Prop:=match x with
 |.str _=>T="str"
 |.int _=>T="int"
 |.ref p=>(T="list"∧∃xs,SqL K H p xs)∨(T="tuple"∧∃o,K.lookup p=some o∧o.cls=.type "tuple"∧o.dict=none) ∨
   (T="dict"∧((∃kvs,H p=some (.dK kvs))∨∃kvs,H p=some (.dT kvs)))∨(T="set"∧∃S n,H p=some (.set S n))
 |_=>False
theorem qf{pins:List (Addr×Obj)}{σ:St}{H:Hp}{s:Shared}{T:String}{x:V}{v:Value}(I:Inv X pins σ H s)(r:aS x v)(ty:tyV X.K T x H):
  s.TypeIs v T∧∀a,v=.ref a→∃ob,s.heap.get? a=some ob∧ob.dict=none:=by
 cases x with
 |str z =>
  obtain⟨t,rfl⟩:=r;cases (show T="str" from ty);exact⟨typeIs_str s z t,λ_ e=>nomatch e⟩
 |int i =>
  obtain⟨t,rfl⟩:=r;cases (show T="int" from ty);exact⟨typeIs_int s i t,λ_ e=>nomatch e⟩
 |ref p =>
  cases r;rcases ty with⟨rfl,xs,hq⟩|⟨rfl,o,hk,hc,hd⟩|⟨rfl,hk⟩|⟨rfl,S,n,hk⟩
  ·obtain⟨its,_,pl,_⟩:=I.list hq;refine⟨pl.isList.typeIs,λa e=>?_⟩;cases e;obtain⟨o,n,e,c,hd,_⟩:=pl;exact⟨o,e,hd⟩
  ·refine⟨⟨o,I.kIn p o hk,hc⟩,λa e=>?_⟩;cases e;exact⟨o,I.kIn _ o hk,hd⟩
  ·have z:∃o,s.heap.get? p=some o∧o.ExactDict:=by
    rcases hk with⟨kvs,hk⟩|⟨kvs,hk⟩
    ·obtain⟨_,_,_,_,o,_,_,e,ex,_⟩:=I.hok p _ hk;exact⟨o,e,ex⟩
    ·obtain⟨_,_,_,_,o,_,_,e,ex,_⟩:=I.hok p _ hk;exact⟨o,e,ex⟩
   obtain⟨o,e,ex⟩:=z;refine⟨⟨o,e,ex.1⟩,λa e2=>?_⟩;cases e2;exact⟨o,e,ex.2.1⟩
  ·obtain⟨o,_,_,_,e,ex,_⟩:=I.hok p _ hk;refine⟨⟨o,e,ex.1⟩,λa e2=>?_⟩;cases e2;exact⟨o,e,ex.2.1⟩
 |_=>exact False.elim ty
def xt(K:PySem.W.Frag)(T:String)(r:V→List V→Hp→VK→Prop)(to:TE):TE:=λσ H Q=>to σ H λx H1=>tyV K T x H1∧r x [] H1 Q
def tBM(K:PySem.W.Frag)(T:String)(r:V→List V→Hp→VK→Prop)(to:TE)(t:TA):TE:=λσ H Q=>to σ H λx H1=>tyV K T x H1∧t σ H1 λxs H2=>r x xs H2 Q
variable{o e:Expr}{es:List Expr}{to:TE}{t:TA}{name:Str}{apos cpos:Pos}{T id:String}{r:V→List V→Hp→VK→Prop}
theorem uT(pa:PlainAttrs T)(slot:Slot T name id)(hty:typeOf (.builtin id)=pure (.type "method_descriptor"))(hm:MtR X id r)(ho:PE X o to)(hbase:attributeBase o name X.env (eval o X.env)=eval o X.env:=by rfl)(hline:(apos.endLine==cpos.line)=true:=by rfl):PE X (.Call (.Attribute o name apos) [] [] cpos) (xt X.K T r to):=by
 intro pins s σ H Q I h;refine wpAny_Call_method0_late hbase hline (thn (ho pins s σ H _ I h) λv s1 hpt=>?_);obtain⟨x,H1,I1,r1,ty,q1⟩:=hpt;obtain⟨h1,h2⟩:=qf I1 r1 ty;exact⟨T,id,pa,slot,hty,h1,h2,Calls.callWith_builtin rfl (PySem.evalArgs_none (hm pins s1 σ H1 x [] v [] Q I1 r1 .nil q1))⟩
theorem fH(pa:PlainAttrs T)(slot:Slot T name id)(hty:typeOf (.builtin id)=pure (.type "method_descriptor"))(hm:MtR X id r)(ho:PE X o to)(ha:PA X (e::es) t)(hbase:attributeBase o name X.env (eval o X.env)=eval o X.env:=by rfl)(hfew:((backTo cpos (starEach (e::es) X.env)).all (λx=>!x.1)&&(backToKw cpos (keywordEach [] X.env)).all (λx=>x.1.isSome)
   && decide ((e::es).length+([]:List Keyword).length+(if ([]:List Keyword).isEmpty then 0 else 1)<30))=true:=by rfl)(hline:(apos.endLine==cpos.line)=true:=by rfl)(hs:starEach (e::es) X.env=(false,eval e X.env)::starEach es X.env:=by rfl)(hplain:(backTo cpos (starEach es X.env)).any (·.1)=false:=by rfl):
  PE X (.Call (.Attribute o name apos) (e::es) [] cpos) (tBM X.K T r to t):=by
 intro pins s σ H Q I h;refine wpAny_Call_method_late hbase hfew hline rfl (thn (ho pins s σ H _ I h) λv s1 hpt=>?_);obtain⟨x,H1,I1,r1,ty,q1⟩:=hpt;obtain⟨h1,h2⟩:=qf I1 r1 ty;refine⟨T,id,pa,slot,hty,h1,h2,?_⟩;have hA:=ha cpos pins s1 σ H1 _ I1 q1;rw[hs]at hA⊢;refine Calls.callWith_builtin (by show(false||(backTo cpos (starEach es X.env)).any (·.1))=false;rw[hplain]<;>rfl) (evalArgs_plain ?_);exact thn hA λus s2 ⟨vs,H2,I2,r2,q2⟩=>hm pins s2 σ H2 x vs v us Q I2 r1 r2 q2
end
def MtM(X:Cx)(id:String)(r:V→List V→Hp→VK→Prop):Prop :=
 ∀(pins:List (Addr×Obj))(s:Shared)(σ:St)(H:Hp)(x:V)(xs:List V)(v:Value)(us:List Value)(Q:VK),Inv X pins σ H s→aS x v→aN xs us→r x xs H Q →
  wpAny (model X.prog X.w) X.A (call (.builtin id) (v::us)) (EP X pins σ Q) X.xe s
theorem aN.one:∀{x:V}{us:List Value},aN [x] us→∃u,us=[u]∧aS x u
 |_,_,.cons r .nil=>⟨_,rfl,r⟩
theorem aN.two:∀{x y:V}{us:List Value},aN [x,y] us→∃u v,us=[u,v]∧aS x u∧aS y v
 |_,_,_,.cons r (.cons q .nil)=>⟨_,_,rfl,r,q⟩
theorem aN.zero:∀{us:List Value},aN [] us→us=[]
 |_,.nil=>rfl
theorem aN.dropLast{xs:List V}{us:List Value}(h:aN xs us):aN xs.dropLast us.dropLast:=by
 induction h with
 |nil=>exact .nil
 |cons r t ih =>
  cases t with
  |nil=>exact .nil
  |cons q t'=>exact .cons r ih
theorem aN.eraseIdx:∀{xs:List V}{us:List Value}(i:Nat),aN xs us→aN (xs.eraseIdx i) (us.eraseIdx i)
 |_,_,_,.nil=>.nil
 |_,_,0,.cons _ t=>t
 |_,_,i+1,.cons r t=>.cons r (aN.eraseIdx i t)
theorem mH{α:Type}(l:List α):l.eraseIdx (l.length-1)=l.dropLast:=by
 induction l with
 |nil=>rfl
 |cons a r ih =>
  cases r with
  |nil=>rfl
  |cons b r =>
   have e:(a::b::r).length-1=((b::r).length-1)+1:=by
    have h1:(a::b::r).length=r.length+2:=rfl;have h2:(b::r).length=r.length+1:=rfl;omega
   rw[e,List.eraseIdx_cons_succ,ih]
   all_goals rfl
theorem jA{α:Type}:∀(l:List α)(i:Nat),(l.eraseIdx i).length≤l.length
 |[],_=>le_refl _
 |_::_,0=>le_succ _
 |_::r,i+1=>Nat.succ_le_succ (jA r i)
section
variable{X:Cx}{pins:List (Addr×Obj)}{σ:St}{H:Hp}{s:Shared}{l b:Addr}{xs ys zs:List V}
theorem Inv.lset{its its':List Value}{n:Nat}{f:Array Value→Array Value}{t':Nat}(I:Inv X pins σ H s)(hH:H l=some (.lst xs))(e:s.heap.get? l=some {cls:=.type "list",data:=.seq its.toArray n})(hf:f its.toArray=its'.toArray)(hv:aN ys its')(hz:ys.length≤sizeLine):
  Inv X pins σ (upd H l (.lst ys)) {s with heap:=s.heap.update l (Obj.mapSeq f),toks:=t'}:=by
 have q:=PySem.IsL.update e f;rw[hf]at q;refine I.write (x:=l) (e:=l) (by rw[hH];exact trivial) (.inl rfl) (λb' u hb hu=>(Heap.get?_update_other s.heap (Obj.mapSeq f) (symm hb)).trans hu) ⟨_,q⟩ ?_;exact⟨hz,its',_,hv,q⟩
theorem Inv.lnew{its:List Value}{t':Nat}(I:Inv X pins σ H s)(hv:aN ys its)(hz:ys.length≤sizeLine):
  Inv X pins σ (upd H s.heap.objs.size (.lst ys)) {s with heap:=s.heap.push {cls:=.type "list",data:=.seq its.toArray},toks:=t'} :=
 I.laid (λ_ _ q=>get?_push_of_some _ q) (le_refl _) ⟨hz,its,0,hv,get?_push_size _ rfl⟩
theorem Inv.fresh(I:Inv X pins σ H s):H s.heap.objs.size=none:=I.hok.fresh (le_refl _)
theorem Inv.lstM(I:Inv X pins σ H s)(hH:H l=some (.lst xs)):xs.length≤sizeLine∧∃(its:List Value) (n:Nat),aN xs its∧xs.length=its.length∧s.heap.get? l=some {cls:=.type "list",data:=.seq its.toArray n}:=by
 obtain⟨z,its,n,r,e⟩:=I.hok l _ hH;exact⟨z,its,n,r,r.length,e⟩
def sm:V→List V→Hp→VK→Prop:=λx vs H Q=>∃l xs y,x=.ref l∧vs=[y]∧H l=some (.lst xs)∧xs.length<sizeLine∧Q .non (upd H l (.lst (xs++[y])))
theorem bv:MtM X "list.append" sm:=by
 intro pins s σ H x vs v us Q I rx rv h;obtain⟨l,xs,y,rfl,rfl,hH,hz,q⟩:=h;cases rx;obtain⟨u,rfl,ru⟩:=rv.one;obtain⟨z,its,n,r,hl,e⟩:=I.lstM hH;refine call_meets F.slot_list_append ⟨_,e,rfl⟩ F.entry_list_append (F.args_list_append_2 _ _) (PySem.list_append l its.toArray n u (by rw[size_toArray];omega)) ⟨e,?_⟩;refine⟨.non,_,I.lset (its':=its++[u]) hH e (by simp) (r.append (.cons ru .nil)) ?_,rfl,q⟩;rw[length_append,length_singleton];omega
def xv:V→List V→Hp→VK→Prop:=λx vs H Q=>∃l xs y,x=.ref l∧vs=[]∧H l=some (.lst xs)∧xs[xs.length-1]?=some y∧Q y (upd H l (.lst xs.dropLast))
theorem uU:MtM X "list.pop" xv:=by
 intro pins s σ H x vs v us Q I rx rv h;obtain⟨l,xs,y,rfl,rfl,hH,hy,q⟩:=h;cases rx;have hus:=rv.zero;subst hus;obtain⟨z,its,n,r,hl,e⟩:=I.lstM hH;obtain⟨u,hu,ru⟩:=r.get hy;have hy':its.toArray[its.toArray.size-1]?=some u:=by
  show its.toArray[its.length-1]?=some u;rw[←getElem?_toList,←hl];exact hu
 refine call_meets F.slot_list_pop ⟨_,e,rfl⟩ F.entry_list_pop (F.args_list_pop_1 _) (MeetsSeq.list_pop_last l its.toArray n u hy' (by rw[size_toArray];omega)) ⟨e,?_⟩;refine⟨y,_,I.lset (its':=its.dropLast) hH e ?_ r.dropLast ?_,ru,q⟩
 ·show its.toArray.eraseIdxIfInBounds (its.toArray.size-1)=its.dropLast.toArray;rw[size_toArray,List.eraseIdxIfInBounds_toArray,mH]
 ·rw[List.length_dropLast];omega
def uV:V→List V→Hp→VK→Prop:=λx vs H Q=>∃l xs i k y,x=.ref l∧vs=[.int i]∧H l=some (.lst xs)∧-(2 ^ 63)≤i∧i<2 ^ 63∧seqIndex? i xs.length=some k∧xs[k]?=some y∧Q y (upd H l (.lst (xs.eraseIdx k)))
theorem qg:MtM X "list.pop" uV:=by
 intro pins s σ H x vs v us Q I rx rv h;obtain⟨l,xs,i,k,y,rfl,rfl,hH,h1,h2,hk,hy,q⟩:=h;cases rx;obtain⟨u,rfl,ru⟩:=rv.one;obtain⟨t,rfl⟩:=ru;obtain⟨z,its,n,r,hl,e⟩:=I.lstM hH;obtain⟨w,hw,rw'⟩:=r.get hy;refine call_meets F.slot_list_pop ⟨_,e,rfl⟩ F.entry_list_pop (F.args_list_pop_2 _ _)
  (MeetsSeq.list_pop_at l its.toArray n i t k w (fitsIndex_both h1 h2) (by rw[size_toArray,←hl];exact hk) (by rw[←getElem?_toList];exact hw) (by rw[size_toArray];omega)) ⟨e,?_⟩
 refine⟨y,_,I.lset (its':=its.eraseIdx k) hH e ?_ (r.eraseIdx k) ?_,rw',q⟩
 ·show its.toArray.eraseIdxIfInBounds k=(its.eraseIdx k).toArray;rw[List.eraseIdxIfInBounds_toArray]
 ·have:=jA xs k;omega
def xw:R2:=λx y H Q=>∃l b xs zs,x=.ref l∧y=.ref b∧H l=some (.lst xs)∧H b=some (.lst zs)∧xs.length+zs.length≤sizeLine∧∀p,H p=none→Q (.ref p) (upd H p (.lst (xs++zs)))
theorem fY:OpR X (binaryOp .Add) xw:=by
 intro pins s σ H x y v u Q I rx ry h;obtain⟨l,b,xs,zs,rfl,rfl,hH,hB,hz,q⟩:=h;cases rx;cases ry;obtain⟨z,its,n,r,hl,e⟩:=I.lstM hH;obtain⟨z2,its2,n2,r2,hl2,e2⟩:=I.lstM hB;refine PySem.P.add_list e e2 ?_ (by rw[size_toArray,size_toArray];omega);have ea:its.toArray++its2.toArray=(its++its2).toArray:=by simp
 rw[ea];exact⟨.ref _,_,I.lnew (t':=s.toks) (r.append r2) (by rw[length_append];omega),rfl,q _ I.fresh⟩
end
section
variable{prog:Program}{w:World}{A:Around}{E:Value→Shared→Prop}{s:Shared}
end
section
variable{X:Cx}
end
section
variable{κ:Type}[DecidableEq κ]
def bi(kvs:List (κ×V))(k:κ):Option V:=(kvs.find? λkv=>decide (kv.1=k)).map (·.2)
def cg(kvs:List (κ×V))(k:κ)(v:V):List (κ×V) :=
 if (kvs.any λkv=>decide (kv.1=k))=true then kvs.map (λkv=>if kv.1=k then (kv.1,v)else kv)else kvs++[(k,v)]
def de(kvs:List (κ×V))(k:κ):List (κ×V):=kvs.filter λkv=>decide (kv.1≠k)
theorem bx{p:κ×V}{r:List (κ×V)}{k:κ}(e:p.1=k):bi (p::r) k=some p.2:=by simp[bi,find?_cons,e]
theorem bn{p:κ×V}{r:List (κ×V)}{k:κ}(e:¬p.1=k):bi (p::r) k=bi r k:=by simp[bi,find?_cons,e]
theorem cz(k:κ):∀kvs:List (κ×V),(kvs.any λkv=>decide (kv.1=k))=(bi kvs k).isSome
 |[]=>rfl
 |p::r=>by
  rw[any_cons]
  by_cases e:p.1=k
  ·simp only[bx e,decide_eq_true e,Bool.true_or,isSome_some]
  ·rw[bn e,decide_eq_false e,Bool.false_or];exact cz k r
theorem la(k j:κ)(y:V):∀kvs:List (κ×V),bi (kvs.map λkv=>if kv.1=k then (kv.1,y)else kv) j=(bi kvs j).map λx=>if j=k then y else x
 |[]=>rfl
 |p::r=>by
  have ih:=la k j y r;rw[map_cons]
  by_cases h:p.1=k
  ·rw[if_pos h]
   by_cases e:p.1=j
   ·rw[bx (p:=(p.1,y)) e,bx e,map_some,if_pos (e.symm.trans h)]
   ·rw[bn (p:=(p.1,y)) e,bn e,ih]
  ·rw[if_neg h]
   by_cases e:p.1=j
   ·rw[bx (p:=p) e,bx e,map_some,if_neg (λz=>h (e.trans z))]
   ·rw[bn (p:=p) e,bn e,ih]
theorem jB(k j:κ)(y:V):∀kvs:List (κ×V),bi kvs k=none→bi (kvs++[(k,y)]) j=if j=k then some y else bi kvs j
 |[],_=>by
  by_cases e:k=j
  ·rw[if_pos e.symm];exact bx (p:=(k,y)) e
  ·rw[if_neg (λz=>e z.symm)];exact bn (p:=(k,y)) e
 |p::r,hn=>by
  rw[List.cons_append];have hk:¬p.1=k:=λz=>by rw[bx z]at hn;cases hn
  rw[bn hk]at hn;have ih:=jB k j y r hn
  by_cases e:p.1=j
  ·rw[bx e,bx e,if_neg (λz=>hk (e.trans z))]
  ·rw[bn e,bn e,ih]
theorem eV(kvs:List (κ×V))(k j:κ)(y:V):bi (cg kvs k y) j=if j=k then some y else bi kvs j:=by
 unfold cg
 by_cases a:(kvs.any λkv=>decide (kv.1=k))=true
 ·rw[if_pos a,la];rw[cz]at a
  by_cases e:j=k
  ·obtain⟨x,hx⟩:=Option.isSome_iff_exists.mp a;rw[if_pos e,e,hx,map_some,if_pos rfl]
  ·rw[if_neg e];cases bi kvs j with
   |none=>rfl
   |some x=>rw[map_some,if_neg e]
 ·rw[if_neg a];refine jB k j y kvs ?_;rw[cz]at a;cases q:bi kvs k with
  |none=>rfl
  |some x=>rw[q]at a;exact(a rfl).elim
theorem dP(kvs:List (κ×V))(k:κ)(v:V):(cg kvs k v).length≤kvs.length+1:=by
 unfold cg
 split
 ·rw[length_map];omega
 ·rw[length_append,length_cons,length_nil];omega
theorem qh{kvs:List (κ×V)}{k:κ}(v:V)(h:bi kvs k=none):cg kvs k v=kvs++[(k,v)]:=by
 unfold cg;rw[cz,h];exact if_neg (by decide)
theorem fX.isSome_eq{o:Option V}{u:Option Value}(r:fX o u):o.isSome=u.isSome:=by
 cases o with
 |none=>cases u with
  |none=>rfl
  |some _=>exact(show False from r).elim
 |some _=>cases u with
  |none=>exact(show False from r).elim
  |some _=>rfl
theorem KV.val{kvs:List (κ×V)}{vs:List (κ×Value)}(r:KV kvs vs)(k:κ):fX (bi kvs k) (valueAt vs k):=by
 unfold KV at r
 induction r with
 |nil=>exact True.intro
 |@cons p q ps qs h t ih =>
  obtain⟨h1,h2⟩:=h
  by_cases e:p.1=k
  ·have e':q.1=k:=h1.symm.trans e;have b:valueAt (q::qs) k=some q.2:=by simp[valueAt,find?_cons,e']
   rw[bx e,b];exact h2
  ·have e':¬q.1=k:=λz=>e (h1.trans z);have b:valueAt (q::qs) k=valueAt qs k:=by simp[valueAt,find?_cons,e']
   rw[bn e,b];exact ih
theorem KV.any{kvs:List (κ×V)}{vs:List (κ×Value)}(r:KV kvs vs)(k:κ):(kvs.any λkv=>decide (kv.1=k))=vs.any λkv=>decide (kv.1=k):=by
 unfold KV at r
 induction r with
 |nil=>rfl
 |cons h t ih=>rw[any_cons,any_cons,ih,h.1]
theorem KV.repl{kvs:List (κ×V)}{vs:List (κ×Value)}(r:KV kvs vs)(k:κ){y:V}{u:Value}(ry:aS y u):
  KV (kvs.map λkv=>if kv.1=k then (kv.1,y)else kv) (vs.map λkv=>if kv.1=k then (kv.1,u)else kv):=by
 unfold KV at r⊢
 induction r with
 |nil=>exact .nil
 |@cons p q ps qs h t ih =>
  rw[map_cons,map_cons];refine .cons ?_ ih;obtain⟨h1,h2⟩:=h
  by_cases e:p.1=k
  ·rw[if_pos e,if_pos (h1.symm.trans e)];exact⟨h1,ry⟩
  ·rw[if_neg e,if_neg (λz=>e (h1.trans z))];exact⟨h1,h2⟩
theorem KV.put{kvs:List (κ×V)}{vs:List (κ×Value)}(r:KV kvs vs)(k:κ){y:V}{u:Value}(ry:aS y u):KV (cg kvs k y) (stored vs k u):=by
 unfold cg stored;rw[r.any k]
 by_cases e:(vs.any λkv=>decide (kv.1=k))=true
 ·rw[if_pos e,if_pos e];exact r.repl k ry
 ·rw[if_neg e,if_neg e];exact Paired.snoc r ⟨rfl,ry⟩
theorem KV.drop{kvs:List (κ×V)}{vs:List (κ×Value)}(r:KV kvs vs)(k:κ):KV (de kvs k) (without vs k):=by
 unfold KV at r⊢;unfold de without
 induction r with
 |nil=>exact .nil
 |@cons p q ps qs h t ih =>
  obtain⟨h1,h2⟩:=h;rw[filter_cons,filter_cons]
  by_cases e:p.1=k
  ·have a:¬decide (p.1≠k)=true:=by simp[e]
   have b:¬decide (q.1≠k)=true:=by simp[h1.symm.trans e]
   rw[if_neg a,if_neg b];exact ih
  ·have e':¬q.1=k:=λz=>e (h1.trans z);have a:decide (p.1≠k)=true:=by simp[e]
   have b:decide (q.1≠k)=true:=by simp[e']
   rw[if_pos a,if_pos b];exact .cons ⟨h1,h2⟩ ih
theorem KV.length{kvs:List (κ×V)}{vs:List (κ×Value)}(r:KV kvs vs):kvs.length=vs.length:=Paired.length r
theorem lg(kvs:List (κ×V))(k:κ):(de kvs k).length≤kvs.length:=length_filter_le _ _
end
theorem fJ{P:Program}{w:World}{k:Key}{u:Value}(r:aS (kV k) u):(bb P w).is k u=true:=by
 cases k with
 |inl i=>obtain⟨t,e⟩:=(show ∃t,u=Value.int i t from r);subst e;exact kS P w i t
 |inr x=>obtain⟨t,e⟩:=(show ∃t,u=Value.str x t from r);subst e;exact kT P w x t
theorem uW{a b:Key}(e:kV a=kV b):a=b:=by
 cases a with
 |inl i=>cases b with
  |inl j=>have e':V.int i=V.int j:=e;injection e' with e';rw[e']
  |inr y=>exact nomatch (show V.int i=V.str y from e)
 |inr x=>cases b with
  |inl j=>exact nomatch (show V.str x=V.int j from e)
  |inr y=>have e':V.str x=V.str y:=e;injection e' with e';rw[e']
theorem kg:∀{a b:List Key},a.map kV=b.map kV→a=b
 |[],[],_=>rfl
 |[],_::_,e=>by simp at e
 |_::_,[],e=>by simp at e
 |x::xs,y::ys,e=>by
  rw[map_cons,map_cons]at e;injection e with e1 e2
  rw[uW e1,kg e2]
theorem hZ{P:Program}{w:World}:∀{ks:List Key}{us:List Value},aN (ks.map kV) us→ItemsAre (bb P w) ks us
 |[],_,r=>by rw[map_nil]at r;cases r;exact .nil
 |k::ks,_,r=>by
  rw[map_cons]at r;cases r with
  |cons h t=>exact .cons (fJ h) (hZ t)
abbrev KT(H:Hp):List (List Key×V)→List (List Key×Addr×Value)→Prop:=Paired λp q=>p.1=q.1∧H q.2.1=some (.tup (p.1.map kV))∧aS p.2 q.2.2
theorem KT.val{H:Hp}{kvs:List (List Key×V)}{xs:List (List Key×Addr×Value)}(r:KT H kvs xs)(k:List Key):fX (bi kvs k) ((atKey xs k).map (·.2)):=by
 induction r with
 |nil=>exact True.intro
 |@cons p q ps qs h t ih =>
  obtain⟨h1,_,h2⟩:=h
  by_cases e:p.1=k
  ·have e':q.1=k:=h1.symm.trans e;have b:atKey (q::qs) k=some q.2:=by simp[atKey,find?_cons,e']
   rw[bx e,b];exact h2
  ·have e':¬q.1=k:=λz=>e (h1.trans z);have b:atKey (q::qs) k=atKey qs k:=by simp[atKey,find?_cons,e']
   rw[bn e,b];exact ih
theorem KT.repl{H:Hp}{kvs:List (List Key×V)}{xs:List (List Key×Addr×Value)}(r:KT H kvs xs)(k:List Key){y:V}{u:Value}(ry:aS y u):
  KT H (kvs.map λkv=>if kv.1=k then (kv.1,y)else kv) (xs.map (putAt k u)):=by
 induction r with
 |nil=>exact .nil
 |@cons p q ps qs h t ih =>
  rw[map_cons,map_cons];refine .cons ?_ ih;obtain⟨h1,h2,h3⟩:=h;unfold putAt
  by_cases e:p.1=k
  ·rw[if_pos e,if_pos (h1.symm.trans e)];exact⟨h1,h2,ry⟩
  ·rw[if_neg e,if_neg (λz=>e (h1.trans z))];exact⟨h1,h2,h3⟩
theorem KT.put{H:Hp}{kvs:List (List Key×V)}{xs:List (List Key×Addr×Value)}(r:KT H kvs xs)(k:List Key){b:Addr}{y:V}{u:Value}(hb:H b=some (.tup (k.map kV)))(ry:aS y u):
  KT H (cg kvs k y) (storedH xs k b u):=by
 have e:(kvs.any λkv=>decide (kv.1=k))=(atKey xs k).isSome:=by
  rw[cz,(r.val k).isSome_eq,isSome_map]
 unfold cg storedH;rw[e]
 by_cases q:(atKey xs k).isSome=true
 ·rw[if_pos q,if_pos q];exact r.repl k ry
 ·rw[if_neg q,if_neg q];exact Paired.snoc r ⟨rfl,hb,ry⟩
theorem KT.keeps{H H':Hp}{kvs:List (List Key×V)}{xs:List (List Key×Addr×Value)}(r:KT H kvs xs)(ht:∀b ys,H b=some (.tup ys)→H' b=some (.tup ys)):KT H' kvs xs :=
 Paired.mapP r λ_ _ z=>⟨z.1,ht _ _ z.2.1,z.2.2⟩
section
variable{P:Program}{w:World}{H:Hp}{h:Heap}{a:Addr}
theorem uc{u:HO}(ok:HOk P w H h)(e:Rd H a u):bw P w H h a u:=e.ok ok
theorem jC{kvs:List (Key×V)}(ok:HOk P w H h)(e:Rd H a (.dK kvs)):kvs.length≤sizeLine∧(a==sysModules)=false∧∃vs,KV kvs vs∧h.DictOf (bb P w) a vs :=
 show bw P w H h a (.dK kvs)from uc ok e
theorem nP{kvs:List (Key×V)}(ok:HOk P w H h)(e:H a=some (.dK kvs)):kvs.length≤sizeLine∧(a==sysModules)=false∧∃vs,KV kvs vs∧h.DictOf (bb P w) a vs:=jC ok (.inl e)
theorem iP{ks:List Key}(ok:HOk P w H h)(e:H a=some (.tup (ks.map kV))):(tupleKind (bb P w)).is h ks a:=by
 obtain⟨_,its,r,o,h1,h2,n,h3⟩:=(show bw P w H h a (.tup (ks.map kV))from ok a _ e);exact⟨o,its.toArray,n,h1,h2,h3,by simpa using hZ r⟩
theorem jD{kvs:List (List Key×V)}(ok:HOk P w H h)(e:Rd H a (.dT kvs)):kvs.length≤sizeLine∧(a==sysModules)=false ∧
  ∃xs,KT H kvs xs∧h.DictOfH (tupleKind (bb P w)) a xs:=by
 obtain⟨z,y,xs,r,o,es,ep,h1,h2,h3,h4,h5⟩:=(show bw P w H h a (.dT kvs)from uc ok e);refine⟨z,y,xs,r,o,es,ep,h1,h2,h3,h4,λx hx=>?_,h5⟩;have all:∀{l:List (List Key×V)}{m:List (List Key×Addr×Value)},KT H l m→∀x∈m,(tupleKind (bb P w)).is h x.1 x.2.1:=by
  intro l m q
  induction q with
  |nil=>intro x hx;exact nomatch hx
  |@cons p q ps qs hq t ih =>
   intro x hx;rcases mem_cons.mp hx with e|hx
   ·subst e;exact iP ok (by rw[←hq.1];exact hq.2.1)
   ·exact ih x hx
 exact all r x hx
theorem wD{kvs:List (List Key×V)}(ok:HOk P w H h)(e:H a=some (.dT kvs)):kvs.length≤sizeLine∧(a==sysModules)=false ∧
  ∃xs,KT H kvs xs∧h.DictOfH (tupleKind (bb P w)) a xs:=jD ok (.inl e)
end
def cW(H:Hp)(a:Addr)(y:V)(r:Option V):Prop :=
 (∃kvs k,Rd H a (.dK kvs)∧y=kV k∧r=bi kvs k)∨∃kvs k b,Rd H a (.dT kvs)∧y=.ref b∧H b=some (.tup (k.map kV))∧r=bi kvs k
def jn(H:Hp)(a:Addr)(y v:V)(H':Hp):Prop :=
 (∃kvs k,H a=some (.dK kvs)∧y=kV k∧kvs.length<sizeLine∧H'=upd H a (.dK (cg kvs k v))) ∨
 ∃kvs k b,H a=some (.dT kvs)∧y=.ref b∧H b=some (.tup (k.map kV))∧kvs.length<sizeLine∧H'=upd H a (.dT (cg kvs k v))
theorem cW.k{H:Hp}{a:Addr}{kvs:List (Key×V)}{k:Key}(e:H a=some (.dK kvs)):cW H a (kV k) (bi kvs k):=.inl ⟨kvs,k,.inl e,rfl,rfl⟩
theorem jn.k{H:Hp}{a:Addr}{kvs:List (Key×V)}{k:Key}{v:V}(e:H a=some (.dK kvs))(hl:kvs.length<sizeLine):jn H a (kV k) v (upd H a (.dK (cg kvs k v))):=.inl ⟨kvs,k,e,rfl,hl,rfl⟩
section
variable{X:Cx}{pins:List (Addr×Obj)}{σ:St}{H:Hp}{s:Shared}{a:Addr}{y v:V}{u r:Value}{o:Option V}{A:Around}{E:Value→Shared→Prop}
theorem Inv.big(I:Inv X pins σ H s):sysModules<s.heap.objs.size:=by
 have h:mainGlobals<s.heap.objs.size:=(I.mod.glob.keeps I.bk).lt;exact lt_trans (by decide) h
theorem oY{Q:Value→Shared→Prop}(hu:A.units+1<cLine)(I:Inv X pins σ H s)(g:cW H a y (some v))(ry:aS y u)(h:∀w' s',Inv X pins σ H s'→aS v w'→Q w' s'):
  wpAny (model X.prog X.w) A (getItem (.ref a) u) Q E s:=by
 rcases g with⟨kvs,k,e,ey,l⟩|⟨kvs,k,b,e,ey,eb,l⟩
 ·subst ey;obtain⟨z,hd,vs,rel,dd⟩:=jC I.hok e;obtain⟨w',hw,rw'⟩:=fX.some_of (v:=v) (o:=valueAt vs k) (by rw[l];exact rel.val k);exact wpAny_getItem_of (fJ ry) dd.mapOf hw (h w' _ (I.tok _) rw')
 ·subst ey;cases (show u=Value.ref b from ry);obtain⟨z,hd,xs,rel,dd⟩:=jD I.hok e;obtain⟨w',hw,rw'⟩:=fX.some_of (v:=v) (o:=(atKey xs k).map (·.2)) (by rw[l];exact rel.val k);obtain⟨p,hp,hp2⟩:=Option.map_eq_some_iff.mp hw;refine wpAny_getItem_heap (tupleKind_room_in1 hu) (iP I.hok eb) dd hp ?_;rw[hp2];exact h w' _ (I.tok _) rw'
theorem xx{Q:Value→Shared→Prop}(hu:A.units+1<cLine)(I:Inv X pins σ H s)(g:cW H a y o)(ry:aS y u)(h:∀s',Inv X pins σ H s'→Q (.bool o.isSome) s'):
  wpAny (model X.prog X.w) A (compareOp .In u (.ref a)) Q E s:=by
 rcases g with⟨kvs,k,e,ey,l⟩|⟨kvs,k,b,e,ey,eb,l⟩
 ·subst ey;obtain⟨z,hd,vs,rel,dd⟩:=jC I.hok e;refine wpAny_in_of (fJ ry) hd dd.mapOf ?_;rw[←(rel.val k).isSome_eq,←l];exact h _ (I.tok _)
 ·subst ey;cases (show u=Value.ref b from ry);obtain⟨z,hd,xs,rel,dd⟩:=jD I.hok e;refine wpAny_in_heap (tupleKind_room_in1 hu) (iP I.hok eb) hd dd ?_;have q:=(rel.val k).isSome_eq;rw[isSome_map]at q;rw[←q,←l];exact h _ (I.tok _)
theorem so{Q:Value→Shared→Prop}(hu:A.units+1<cLine)(I:Inv X pins σ H s)(g:cW H a y o)(ry:aS y u)(h:∀s',Inv X pins σ H s'→Q (.bool (!o.isSome)) s'):
  wpAny (model X.prog X.w) A (compareOp .NotIn u (.ref a)) Q E s:=by
 rcases g with⟨kvs,k,e,ey,l⟩|⟨kvs,k,b,e,ey,eb,l⟩
 ·subst ey;obtain⟨z,hd,vs,rel,dd⟩:=jC I.hok e;refine wpAny_notIn_of (fJ ry) hd dd.mapOf ?_;rw[←(rel.val k).isSome_eq,←l];exact h _ (I.tok _)
 ·subst ey;cases (show u=Value.ref b from ry);obtain⟨z,hd,xs,rel,dd⟩:=jD I.hok e;refine wpAny_notIn_heap (tupleKind_room_in1 hu) (iP I.hok eb) hd dd ?_;have q:=(rel.val k).isSome_eq;rw[isSome_map]at q;rw[←q,←l];exact h _ (I.tok _)
theorem iC{h':Heap}{t':Nat}{ob:HO}(I:Inv X pins σ H s)(mu:Mut (H a))(hs:SameBut a s.heap h')(he:∃q,h'.get? a=some q)(new:bw X.prog X.w (upd H a ob) h' a ob):
  Inv X pins σ (upd H a ob) {s with heap:=h',toks:=t'} :=
 I.write (x:=a) (e:=a) mu (.inl rfl) (λb q hb z=>(hs.2 b hb).trans z) he new
theorem iQ{P:Program}{w:World}{H':Hp}{h':Heap}{kvs:List (Key×V)}{vs:List (Key×Value)}(z:kvs.length≤sizeLine)(hd:(a==sysModules)=false)(rel:KV kvs vs)(dd:h'.DictOf (bb P w) a vs):
  bw P w H' h' a (.dK kvs):=⟨z,hd,vs,rel,dd⟩
theorem oZ{H':Hp}{Q:Unit→Shared→Prop}(hu:A.units+1<cLine)(I:Inv X pins σ H s)(g:jn H a y v H')(ry:aS y u)(rv:aS v r)(h:∀s',Inv X pins σ H' s'→Q () s'):
  wpAny (model X.prog X.w) A (setItem (.ref a) u r) Q E s:=by
 rcases g with⟨kvs,k,e,ey,l,eH⟩|⟨kvs,k,b,e,ey,eb,l,eH⟩
 ·subst ey eH;obtain⟨z,hd,vs,rel,dd⟩:=nP I.hok e;have hz:vs.length≤sizeLine:=by rw[←rel.length];exact z
  have hl:(cg kvs k v).length≤sizeLine:=by have:=dP kvs k v;omega
  refine wpAny_setItem_pairs (hsz:=hz) (fJ ry) dd λh' dd' hs=>h _ ?_;have he:∃q,h'.get? a=some q:=let⟨q,_,_,hq,_⟩:=dd';⟨q,hq⟩;exact iC I (by rw[e];exact True.intro) hs he (iQ hl hd (rel.put k rv) dd')
 ·subst ey eH;cases (show u=Value.ref b from ry);obtain⟨z,hd,xs,rel,dd⟩:=wD I.hok e;have hz:xs.length≤sizeLine:=by rw[←Paired.length rel];exact z
  have hl:(cg kvs k v).length≤sizeLine:=by have:=dP kvs k v;omega
  refine wpAny_setItem_heap (hsz:=hz) (tupleKind_room_in1 hu) (iP I.hok eb) dd λh' dd' hs=>h _ ?_;obtain⟨q,es,ep,hq,h2,h3,h4,_,h5⟩:=dd';refine iC I (by rw[e];exact True.intro) hs ⟨q,hq⟩ ⟨hl,hd,_,(rel.put k eb rv).keeps λc ys ec=>?_,q,es,ep,hq,h2,h3,h4,h5⟩;rw[al (wt ec e (λz=>nomatch z))];exact ec
end
section
variable{X:Cx}{pins:List (Addr×Obj)}{σ:St}{H:Hp}{s:Shared}{a:Addr}{kvs:List (Key×V)}{k:Key}{u:Value}{A:Around}{E:Value→Shared→Prop}
theorem wE{v:V}{more:List Value}{Q:Value→Shared→Prop}(I:Inv X pins σ H s)(e:H a=some (.dK kvs))(ry:aS (kV k) u)(l:bi kvs k=some v)(hm:more=[]∨∃x,more=[x])(h:∀w' s',Inv X pins σ (upd H a (.dK (de kvs k))) s'→aS v w'→Q w' s'):wpAny (model X.prog X.w) A (call (.builtin "dict.pop") (.ref a::u::more)) Q E s:=by
 obtain⟨z,hd,vs,rel,dd⟩:=nP I.hok e;obtain⟨w',hw,rw'⟩:=fX.some_of (v:=v) (o:=valueAt vs k) (by rw[←l];exact rel.val k);have hp:(keyPart u).isSome=true:=by
  cases k with
  |inl i=>obtain⟨t,q⟩:=(show ∃t,u=Value.int i t from ry);subst q;rfl
  |inr x=>obtain⟨t,q⟩:=(show ∃t,u=Value.str x t from ry);subst q;rfl
 have ha:argsOk "dict.pop" ⟨.ref a::u::more,[]⟩:=by
  rcases hm with q|⟨x,q⟩
  ·subst q;exact PySem.F.args_dict_pop_2 _ _
  ·subst q;exact PySem.F.args_dict_pop_3 _ _ _
 refine call_meetsIn slot_dict_pop dd.typeIs PySem.F.entry_dict_pop ha (meets_dict_pop_there (bb X.prog X.w) a (fJ ry) more hm hp)
  ⟨vs,w',dd,by rw[←rel.length];exact z,hw,λh' dd' hs=>h w' _ ?_ rw'⟩
 have he:∃q,h'.get? a=some q:=let⟨q,_,_,hq,_⟩:=dd';⟨q,hq⟩;exact iC I (by rw[e];exact True.intro) hs he (iQ (le_trans (lg kvs k) z) hd (rel.drop k) dd')
theorem uX{r:Value}{Q:Value→Shared→Prop}(I:Inv X pins σ H s)(e:H a=some (.dK kvs))(ry:aS (kV k) u)(l:bi kvs k=none)(h:∀s',Inv X pins σ H s'→Q r s'):
  wpAny (model X.prog X.w) A (call (.builtin "dict.pop") [.ref a,u,r]) Q E s:=by
 obtain⟨z,hd,vs,rel,dd⟩:=nP I.hok e;have hn:valueAt vs k=none:=fX.none_of (by rw[←l];exact rel.val k);have hp:(keyPart u).isSome=true:=by
  cases k with
  |inl i=>obtain⟨t,q⟩:=(show ∃t,u=Value.int i t from ry);subst q;rfl
  |inr x=>obtain⟨t,q⟩:=(show ∃t,u=Value.str x t from ry);subst q;rfl
 exact call_meetsIn slot_dict_pop dd.typeIs PySem.F.entry_dict_pop (PySem.F.args_dict_pop_3 _ _ _) (meets_dict_pop_default (bb X.prog X.w) a (fJ ry) hd hp r) ⟨vs,dd,hn,h _ (I.tok _)⟩
end
def wF(i:Expr):Prop:=∀ov iv,subscripted i false ov iv=operate [ov,iv] (getItem ov iv)
theorem sr{prog:Program}{w:World}{A:Around}{E:Value→Shared→Prop}{s:Shared}{env:Env}{value slice:Expr}{pos:Pos}{T id:String}{Q:Value→Shared→Prop}(hl:typeLookup (.type T) "__getitem__"=pure (some (.builtin id)))(hs:wF slice)(h:wpAny (model prog w) A (eval value env) (λo s₁=>wpAny (model prog w) A (eval slice env) (λi s₂=>s₂.TypeIs o T∧wpAny (model prog w) A (getItem o i) Q E s₂) E s₁) E s):
  wpAny (model prog w) A (eval (.Subscript value slice pos) env) Q E s:=by
 refine Subscript_ (wpAny_mono h (λo s₁ h₁=>wpAny_mono h₁ (λi s₂ h₂=>?_) λ_ _ x=>x) λ_ _ x=>x);obtain⟨hT,h₂⟩:=h₂;unfold subscriptTail;refine wpAny_bind ?_;rw[getitemInPython_of_ne hT.not_modules];refine wpAny_bind (wpAny_specialOf hT hl ?_);have fin:wpAny (model prog w) A (subscripted slice false o i) (λr s₃=>wpAny (model prog w) A (letTemporaryGo value o r >>= λ_=>pure r) Q E s₃) E s₂:=by
  rw[hs o i];exact wpAny_operating (wpAny_mono h₂ (λr s₃ h₃=>wpAny_bind (wpAny_letTemporaryGo (wpAny_pure h₃))) λ_ _ x=>x)
 first
  |exact wpAny_pure (wpAny_bind fin)
  |exact wpAny_bind (wpAny_pure (wpAny_bind fin))
  |exact wpAny_bind fin
theorem lh{X:Cx}{pins:List (Addr×Obj)}{σ:St}{H:Hp}{s:Shared}{a:Addr}{y:V}{o:Option V}(I:Inv X pins σ H s)(g:cW H a y o):s.TypeIs (.ref a) "dict":=by
 rcases g with⟨kvs,k,e,_,_⟩|⟨kvs,k,b,e,_,_,_⟩
 ·obtain⟨_,_,vs,_,dd⟩:=jC I.hok e;exact dd.typeIs
 ·obtain⟨_,_,xs,_,dd⟩:=jD I.hok e;exact dd.typeIs
def wG(td ty:TE):TE:=λσ H Q=>td σ H λx H1=>ty σ H1 λy H2=>∃a v,x=.ref a∧cW H2 a y (some v)∧Q v H2
def xy(ty td:TE):TE:=λσ H Q=>ty σ H λy H1=>td σ H1 λx H2=>∃a o,x=.ref a∧cW H2 a y o∧Q (.bl o.isSome) H2
def su(ty td:TE):TE:=λσ H Q=>ty σ H λy H1=>td σ H1 λx H2=>∃a o,x=.ref a∧cW H2 a y o∧Q (.bl (!o.isSome)) H2
def wH(td ty tv:TE):TS:=λD σ H=>tv σ H λv H1=>td σ H1 λx H2=>ty σ H2 λy H3=>∃a H4,x=.ref a∧jn H3 a y v H4∧D.nx σ H4
section
variable{X:Cx}{o i e value:Expr}{pos pos' tpos:Pos}{td ty tv:TE}
theorem aU(hu:X.A.units+1<cLine)(ho:PE X o td)(hi:PE X i ty)(hs:wF i):PE X (.Subscript o i pos) (wG td ty):=by
 intro pins s σ H Q I h;refine sr PySem.F.slot_dict_getitem.lookup hs (thn (ho pins s σ H _ I h) λu s1 ⟨x,H1,I1,rx,q1⟩=>thn (hi pins s1 σ H1 _ I1 q1) λiv s2 hpt=>?_);obtain⟨y,H2,I2,ry,a,v,ex,g,q2⟩:=hpt;subst ex;obtain rfl:u=Value.ref a:=rx;exact⟨lh I2 g,oY hu I2 g ry λw' s3 I3 rw'=>⟨v,H2,I3,rw',q2⟩⟩
theorem dz(hu:X.A.units+1<cLine)(hi:PE X i ty)(ho:PE X o td):PC X .In i o (xy ty td):=by
 intro pins s σ H Q I h;refine thn (hi pins s σ H _ I h) λiv s1 ⟨y,H1,I1,ry,q1⟩=>thn (ho pins s1 σ H1 _ I1 q1) λu s2 hpt=>?_;obtain⟨x,H2,I2,rx,a,ov,ex,g,q2⟩:=hpt;subst ex;obtain rfl:u=Value.ref a:=rx;exact xx hu I2 g ry λs3 I3=>⟨.bl ov.isSome,H2,I3,rfl,q2⟩
theorem cn(hu:X.A.units+1<cLine)(hi:PE X i ty)(ho:PE X o td):PC X .NotIn i o (su ty td):=by
 intro pins s σ H Q I h;refine thn (hi pins s σ H _ I h) λiv s1 ⟨y,H1,I1,ry,q1⟩=>thn (ho pins s1 σ H1 _ I1 q1) λu s2 hpt=>?_;obtain⟨x,H2,I2,rx,a,ov,ex,g,q2⟩:=hpt;subst ex;obtain rfl:u=Value.ref a:=rx;exact so hu I2 g ry λs3 I3=>⟨.bl (!ov.isSome),H2,I3,rfl,q2⟩
theorem gI(hu:X.A.units+1<cLine)(ho:PE X o td)(hi:PE X i ty)(hv:PE X value tv)(hs:swapsWith value (some (.Subscript o i pos')) pos.line X.env=pure false):
  PS X (.Assign [.Subscript o i pos'] value pos) (wH td ty tv):=by
 intro pins s σ H D I h;refine wpAny_Assign_Subscript (thn (hv pins s σ H _ I h) λr s1 ⟨v,H1,I1,rv,q1⟩=>thn (ho pins s1 σ H1 _ I1 q1) λu s2 ⟨x,H2,I2,rx,q2⟩=>thn (hi pins s2 σ H2 _ I2 q2) λiv s3 ⟨y,H3,I3,ry,a,H4,ex,g,q3⟩=>?_) hs;subst ex;obtain rfl:u=Value.ref a:=rx;exact oZ hu I3 g ry rv λs4 I4=>⟨σ,H4,I4,q3⟩
end
theorem qi{P:Program}{w:World}{H:Hp}(h:Heap)(hb:sysModules<h.objs.size):bw P w H (h.push {cls:=.type "dict",data:=.dict #[]}) h.objs.size (.dK []) :=
 ⟨zero_le _,beq_eq_false_iff_ne.mpr (symm (ne_of_lt hb)),[],.nil,Heap.DictOf.new h⟩
def uY:TE:=λ_ H Q=>∀p,H p=none→Q (.ref p) (upd H p (.dK []))
section
variable{X:Cx}{pos:Pos}
theorem li:PE X (.Dict [] [] pos) uY:=λpins s σ H Q I h =>
 wpAny_Dict_empty ⟨.ref s.heap.objs.size,_,I.laid (a:=s.heap.objs.size) (o:=.dK []) (t':=s.toks) (λ_ _ q=>get?_push_of_some _ q) (le_refl _) (qi s.heap I.big),rfl,h _ (I.hok.fresh (le_refl _))⟩
end
structure M2(X:Cx)(o:Expr)(m:Str)(apos:Pos)(e f:Expr)(cpos:Pos):Prop where
 base:attributeBase o m X.env (eval o X.env)=eval o X.env
 few:((backTo cpos (starEach [e,f] X.env)).all (λx=>!x.1)&&(backToKw cpos (keywordEach [] X.env)).all (λx=>x.1.isSome)
  && decide (([e,f]:List Expr).length+([]:List Keyword).length+(if ([]:List Keyword).isEmpty then 0 else 1)<30))=true
 line:(apos.endLine==cpos.line)=true
 trees:backTo cpos (starEach [e,f] X.env)=[(false,eval e X.env),(false,eval f X.env)]
def IsD(H:Hp)(a:Addr):Prop:=(∃kvs,Rd H a (.dK kvs))∨∃kvs,Rd H a (.dT kvs)
theorem uZ{X:Cx}{pins:List (Addr×Obj)}{σ:St}{H:Hp}{s:Shared}{a:Addr}(I:Inv X pins σ H s)(d:IsD H a):
  s.TypeIs (.ref a) "dict"∧(∀b,Value.ref a=.ref b→∃ob,s.heap.get? b=some ob∧ob.dict=none)∧(a==sysModules)=false:=by
 rcases d with⟨kvs,e⟩|⟨kvs,e⟩
 ·obtain⟨_,hd,vs,_,dd⟩:=jC I.hok e;refine⟨dd.typeIs,λb q=>?_,hd⟩;cases q;obtain⟨ob,_,_,h1,h2,_⟩:=dd;exact⟨ob,h1,h2.2.1⟩
 ·obtain⟨_,hd,xs,_,dd⟩:=jD I.hok e;refine⟨dd.typeIs,λb q=>?_,hd⟩;cases q;obtain⟨ob,_,_,h1,h2,_⟩:=dd;exact⟨ob,h1,h2.2.1⟩
section
variable{X:Cx}{pins:List (Addr×Obj)}{σ:St}{H:Hp}{s:Shared}{a:Addr}{y d:V}{u r:Value}{o:Option V}{A:Around}{E:Value→Shared→Prop}
end
def ve(td ty tx:TE):TE:=λσ H Q=>td σ H λx H1=>∃a,x=.ref a∧IsD H1 a∧ty σ H1 λy H2=>tx σ H2 λz H3=>∃kvs k,H3 a=some (.dK kvs)∧y=kV k ∧
 (∀v,bi kvs k=some v→Q v (upd H3 a (.dK (de kvs k))))∧(bi kvs k=none→Q z H3)
section
variable{X:Cx}{o e f:Expr}{apos cpos:Pos}{td ty tx:TE}
theorem qj(ho:PE X o td)(he:PE X e ty)(hf:PE X f tx)(m:M2 X o "pop" apos e f cpos):PE X (.Call (.Attribute o "pop" apos) [e,f] [] cpos) (ve td ty tx):=by
 intro pins s σ H Q I h;refine wpAny_Call_method m.base m.few m.line PySem.F.plainAttrs_dict slot_dict_pop PySem.F.type_dict_pop (thn (ho pins s σ H _ I h) λu s1 hpt=>?_);obtain⟨x,H1,I1,rx,a,ex,d,q1⟩:=hpt;subst ex;obtain rfl:u=Value.ref a:=rx;obtain⟨t1,t2,_⟩:=uZ I1 d;refine⟨t1,t2,?_⟩;rw[m.trees];refine Calls.callWith_builtin rfl (evalArgs_plain (spliced_cons (thn (he pins s1 σ H1 _ I1 q1) λiv s2 ⟨y,H2,I2,ry,q2⟩ =>
  spliced_cons (thn (hf pins s2 σ H2 _ I2 q2) λfv s3 ⟨z,H3,I3,rz,kvs,k,ea,ey,q3,q4⟩=>Calls.spliced_nil ?_))))
 subst ey;cases l:bi kvs k with
 |some v=>exact wE I3 ea ry l (.inr ⟨fv,rfl⟩) λw' s4 I4 rw'=>⟨v,_,I4,rw',q3 v l⟩
 |none=>exact uX I3 ea ry l λs4 I4=>⟨z,H3,I4,rz,q4 l⟩
end
section
variable{X:Cx}{pins:List (Addr×Obj)}{σ:St}{H:Hp}{s:Shared}{a:Addr}{kvs:List (Key×V)}{A:Around}{E:Value→Shared→Prop}
end
section
variable{X:Cx}{pins:List (Addr×Obj)}{σ:St}{H:Hp}{s:Shared}{a:Addr}{y:V}{u:Value}{A:Around}{E:Value→Shared→Prop}
end
end L2
namespace Att
open PySem PySem.W PySem.Calls PyProof.Rows
theorem iz{P:Params}{h:Heap}:∀(ns:List Int)(vs:List Value),WellAll P h vs (ns.map WData.int)→IntsAre vs ns:=by
 intro ns
 induction ns with
 |nil =>
  intro vs w;rw[map_nil]at w;cases w;exact .nil
 |cons n ns ih =>
  intro vs w;rw[map_cons]at w;cases w with
  |cons a b =>
   cases a;exact .cons _ _ (ih _ b)
theorem pb{l:OpenLaw}{n:Nat}(hn:l.most=some n){P:Params}{h:Heap}{args:List WData}{vals:List Value}(hpre:l.row.toRowW.claim.pre args=true)(hwl:WellAll P h vals args):
  ∃a vs ns,vals=[Value.ref a]∧args=[WData.list (ns.map WData.int)]∧h.get? a=some {cls:=.type "list",data:=.seq vs.toArray}∧IntsAre vs ns∧ns.length≤n:=by
 have hsh:WShape.hasAll [] args [.list .int]=true:=(pre_splitW hpre).1;have hc:l.pre.holds [] {args:=args}=true:=(pre_splitW hpre).2;obtain⟨d,r,rfl,h1,h2⟩:=hasAllW_cons hsh;obtain rfl:=hasAllW_nil h2;obtain⟨xs,rfl,h3⟩:=hasW_list h1;obtain⟨ns,rfl⟩:=items_int h3;have hlen:ns.length≤n:=by
  unfold OpenLaw.pre at hc;have h4:(WTm.not (.lt (.lit (.int (n:Int))) (.len (.arg 0)))).holds [] {args:=[.list (ns.map .int)]}=true:=by
   have h4:=(holds_andW hc).1;rw[hn]at h4;exact h4
  have h5:=condW_of h4 (w_not (w_lt w_lit (w_len_list (w_arg rfl))));rw[length_map]at h5;refine Nat.le_of_not_lt λq=>?_;have q':(n:Int)<((ns.length:Nat):Int):=by omega
  first
   |(rw[decide_eq_true q']at h5;exact absurd h5 (by decide))
   |(simp at h5;omega)
 cases hwl with
 |cons w1 w2 =>
  cases w2;cases w1 with
  |list ho hall=>exact⟨_,_,ns,rfl,rfl,ho,iz ns _ hall,hlen⟩
theorem ph(l:OpenLaw)(args:List WData):l.row.toRowW.claim.post args (.bool true) args=true :=
 postW_of (r:=l.row.toRowW) (X:=(true==true))
  (show WShape.has [] (.bool true) .bool=true by first|rfl|decide|simp[WShape.has,WShape.arms,WShape.armsAll])
  (show(WTm.eq .res (.lit (.bool true))).value [] {args:=args,res:=some (.bool true),after:=args}=some (.bool (true==true))from w_eq_bool (w_res rfl) w_lit) rfl
theorem lj{l:OpenLaw}{n:Nat}{q:Program}{loose:List Str}{XP:(Str→Option Value)→Heap→Prop}{YP:World→Heap→Prop}{d:DefRec}(hn:l.most=some n)(hdf:d.params.defaults=[])(call:∀(w:World) (s₀ s₁:Shared) (mg mb:Str→Option Value) (fa:Addr) (o:Obj) (pm cd doc:Value) (a:Addr) (vs:List Value) (ns:List Int),
   Ground q loose [] XP w s₀ mg mb s₁.heap→YP w s₁.heap →
   s₁.heap.get? fa=some o→o.data=.func (docDef d.name d.params d.body d.scope pm cd doc)→s₁.heap.CodeRec cd d.name→mg d.name=some (.ref fa) →
   s₁.heap.get? a=some {cls:=.type "list",data:=.seq vs.toArray}→IntsAre vs ns→ns.length≤n→s₁.gens=#[] →
   codeAny (model l.prog w) callerA (.call (.ref fa) ⟨[.ref a],[]⟩) (λr s'=>r=.ok (.ret (.bool true))∧OldK s₁.heap s'.heap∧s'.os=s₁.os∧AllBare s'.gens) s₁):
  WalkO q loose XP YP l.row.toRowW d [] (λf vs=>PySem.call f vs):=by
 intro w s₀ s₁ mg mb G Y fa o pm cd doc dV kV ho hd hcd hD hmg hg args vals as hpre hlay hrd hwl hlo;obtain rfl:dV=.none:=Dflts.none hD hdf;obtain rfl:kV=.none:=Dflts.noKw hD;obtain⟨a,vs,ns,rfl,rfl,hobj,hints,hlen⟩:=pb hn hpre hwl;refine enter_call (codeAny_mono (call w s₀ s₁ mg mb fa o pm cd doc a vs ns G Y ho (fd_plain hd) hcd hmg hobj hints hlen hg) λr s' hq=>?_);obtain⟨rfl,h2,h3,h4⟩:=hq;exact⟨.inl ⟨.bool true,.bool true,[],rfl,λ_=>rfl,.bool true,ph l _,λ_=>⟨List.Pairwise.nil,λ_ hm=>(nomatch hm)⟩⟩,h2,h3,h4⟩
section
variable{prog:Program}{w:World}{A:Around}{E:Value→Shared→Prop}{s:Shared}{K:Frag}
end
end Att
namespace L2
open PySem PySem.Spec PyProof.Rows
theorem jE:∀{vs:List Value}{ns:List Int},IntsAre vs ns→aN (ns.map V.int) vs
 |_,_,.nil=>.nil
 |_,_,.cons n t h=>.cons ⟨t,rfl⟩ (jE h)
def vf(H:Hp):Prop:=∀b,H b=none∨∃o xs,H b=some (.frz o (.lst xs))
theorem qk{P:Program}{w:World}{K:PySem.W.Frag}{mg mb:Str→Option Value}{CX:CXT}{k:Nat}{fa a:Addr}{fd:FuncData}{x:Str}{sp:Sp}{s₁:Shared}{vs:List Value}{ns:List Int}(KX:K.In s₁.heap)(hns:s₁.heap.Ns mainGlobals mg)(hb:s₁.heap.Ns builtinsNs mb)(hbb:∀x:Str,x≠"__name__"→mb x=bootBuiltins x)(hlim:s₁.heap.NoLimit)(hg:s₁.gens=#[])(ha:s₁.heap.get? a=some {cls:=.type "list",data:=.seq vs.toArray})(hi:IntsAre vs ns)(hl:ns.length≤sizeLine)(hr:Room k callerA)(F:∀base:Heap,K.In base→base.Ns mainGlobals mg→FnOk P w K mg base CX k fa fd [x] sp)(hbind:∀(s:Shared) (u:Value),BindsTo s fd ⟨[u],[]⟩ [(x,u)])(hsp:∀H:Hp,vf H→SqL K H a (ns.map V.int)→sp [.ref a] H (λv _=>v=.bl true) λ_ _ _=>False)(hCX:∀H e s',CX [] H s₁ (λ_ _ _=>False) e s'→False):
  codeAny (model P w) callerA (.call (.ref fa) ⟨[.ref a],[]⟩) (λr s'=>r=.ok (.ret (.bool true))∧OldK s₁.heap s'.heap∧s'.os=s₁.os∧AllBare s'.gens) s₁:=by
 have rv:=jE hi;have lenV:=hi.length;have core:∀H:Hp,vf H→SqL K H a (ns.map V.int)→HOk P w H s₁.heap→(∀b,H b≠none→b=a)→(H a≠none→K.lookup a=none) →
   codeAny (model P w) callerA (.call (.ref fa) ⟨[.ref a],[]⟩) (λr s'=>r=.ok (.ret (.bool true))∧OldK s₁.heap s'.heap∧s'.os=s₁.os∧AllBare s'.gens) s₁:=by
  intro H hO hS hok hA hK;have base_of:∀{b:Addr}{o:Obj},s₁.heap.get? b=some o→H b=none→(jW s₁.heap H).get? b=some o:=λe n=>pT e n;have noA:∀{b:Addr}{o:Obj}{es:Array DictEntry}{ep:Nat},s₁.heap.get? b=some o→o.data=.dict es ep→H b=none:=λ{b o es ep} e d=>by
   cases q:H b with
   |none=>rfl
   |some u =>
    have e':b=a:=hA b (by rw[q];simp);subst e';rw[ha]at e;cases e;have d':Data.seq vs.toArray _=Data.dict es ep:=d;cases d'
  have nsK:∀{b:Addr}{m:Str→Option Value},s₁.heap.Ns b m→(jW s₁.heap H).Ns b m:=λ{b m} ⟨o,es,ep,e,d,r⟩=>⟨o,es,ep,base_of e (noA e d),d,r⟩;have hKb:K.In (jW s₁.heap H):=λb o e=>base_of (KX b o e) (by
   cases q:H b with
   |none=>rfl
   |some u =>
    have e':b=a:=hA b (by rw[q];simp);subst e';rw[hK (by rw[q];simp)]at e;cases e)
  have hM:Mod K mg (jW s₁.heap H):=⟨hKb,nsK hns,⟨mb,nsK hb,hbb⟩,let⟨mc,h1,h2⟩:=hlim;⟨mc,nsK h1,h2⟩⟩;have e0:Env0 P w K mg (jW s₁.heap H) callerA [] s₁ H:=⟨rfl,hM,λb o e=>rV e,le_of_eq (oS _ _),trivial,λb hb=>absurd (show b∈([]:List Addr)from hb) (by simp),hok,.of_eq hg⟩;refine codeAny_mono ((F _ hKb (nsK hns)).run callerA [] s₁ H ⟨[.ref a],[]⟩ [.ref a] [.ref a] _ _ hr e0 (hbind s₁ (.ref a)) (.cons rfl .nil) (hsp H hO hS)) λr s' h=>?_;cases r with
  |error e=>exact(hCX H e s' h).elim
  |ok fl =>
   cases fl with
   |next=>exact False.elim h
   |brk=>exact False.elim h
   |cont=>exact False.elim h
   |ret u =>
    obtain⟨v,H',os,bare,un,hok',r',q⟩:=h;have q':v=.bl true:=q;subst q';obtain rfl:u=Value.bool true:=r';refine⟨rfl,OldK.of_keep λb o e=>?_,os,bare⟩;cases q:H b with
    |none=>exact un.keep b o e q (by intro z;exact absurd (show b∈([]:List Addr)from z) (by simp)) (by simp)
    |some u =>
     rcases hO b with z|⟨ob,xs,z⟩
     ·rw[q]at z;cases z
     ·have z2:=un.frzs b ob _ z;obtain⟨e1,_⟩:=hok b _ z;obtain⟨e2,_⟩:=hok' b _ z2;rw[e]at e1;cases e1;exact e2
 cases hk:K.lookup a with
 |some o =>
  have e:=KX a o hk;rw[ha]at e;cases e;refine core (λ_=>none) (λ_=>.inl rfl) (.inr ⟨_,vs.toArray,_,hk,rfl,rfl,rfl,by rw[size_toArray,lenV];exact hl,by simpa using rv⟩) (λb u z=>by have z':(none:Option HO)=some u:=z;cases z') (λb z=>absurd rfl z) λz=>absurd rfl z
 |none =>
  refine core (λb=>if b=a then some (.frz {cls:=.type "list",data:=.seq vs.toArray} (.lst (ns.map V.int)))else none) (λb=>?_) (.inl (.inr ⟨{cls:=.type "list",data:=.seq vs.toArray},if_pos rfl⟩)) (λb u z=>?_) (λb z=>?_) λ_=>hk
  ·by_cases hb:b=a
   ·exact .inr ⟨_,_,if_pos hb⟩
   ·exact .inl (if_neg hb)
  ·by_cases hb:b=a
   ·have z':=(if_pos hb).symm.trans z;cases z';subst hb;exact⟨ha,by rw[length_map];exact hl,vs,_,rv,ha⟩
   ·have z':=(if_neg hb).symm.trans z;cases z'
  ·by_cases hb:b=a
   ·exact hb
   ·exact absurd (if_neg hb) z
theorem sv{l:PySem.W.OpenLaw}{n k:Nat}{q:Program}{loose:List Str}{XP:(Str→Option Value)→Heap→Prop}{YP:World→Heap→Prop}{d:DefRec}{K:Params→PySem.W.Frag}{CX:World→CXT}{sp:World→Sp}{x:Str}(hn:l.most=some n)(hn2:n≤sizeLine)(hdf:d.params.defaults=[])(hr:Room k callerA)(hY:∀(w:World) (h:Heap),YP w h→(K w.params).In h)(F:∀(w:World) (mg:Str→Option Value) (fa:Addr) (h:Heap),(K w.params).In h→h.Ns mainGlobals mg→mg d.name=some (.ref fa) →
   ∃fd:FuncData,(∀(s:Shared) (u:Value),BindsTo s fd ⟨[u],[]⟩ [(x,u)]) ∧
    ∀base:Heap,(K w.params).In base→base.Ns mainGlobals mg→FnOk l.prog w (K w.params) mg base (CX w) k fa fd [x] (sp w))(hsp:∀(w:World) (H:Hp) (a:Addr) (ns:List Int),ns.length≤n→vf H→SqL (K w.params) H a (ns.map V.int)→sp w [.ref a] H (λv _=>v=.bl true) λ_ _ _=>False)(hCX:∀(w:World) (H:Hp) (s:Shared) (e:Value) (s':Shared),CX w [] H s (λ_ _ _=>False) e s'→False):
  PySem.W.WalkO q loose XP YP l.row.toRowW d [] (λf vs=>PySem.call f vs):=by
 refine Att.lj hn hdf λw s₀ s₁ mg mb fa o pm cd doc a vs ns G Y ho hd hcd hmg hobj hints hlen hg=>?_;have KX:=hY w _ Y;obtain⟨fd,hb,hF⟩:=F w mg fa _ KX G.T.g hmg;exact qk KX G.T.g G.T.b G.T.builtins G.T.nolimit hg hobj hints (le_trans hlen hn2) hr hF hb (λH hO hS=>hsp w H a ns hlen hO hS) λH e s'=>hCX w H s₁ e s'
def di(s:Stmt):Arguments:=match s with
 |.FunctionDef _ a _ _ _ _ _ _ _ _=>a
 |_=>{posonlyargs:=[],args:=[],vararg:=none,kwonlyargs:=[],kw_defaults:=[],kwarg:=none,defaults:=[]}
def bA(s:Stmt):List Stmt:=match s with
 |.FunctionDef _ _ b _ _ _ _ _ _ _=>b
 |_=>[]
def ah(s:Stmt):Scope:=match s with
 |.FunctionDef _ _ _ _ _ _ sc _ _ _=>sc
 |_=>{kind:=.function,names:=[],isGenerator:=false,isCoroutine:=false}
abbrev CX0:CXT:=λ_ _ _ _ _ _=>False
abbrev E0:XK:=λ_ _ _=>False
theorem aL{X:Cx}:hV CX0 X E0:=λ_ _ _ _ _ _ _ h=>h.elim
structure Fun(K:PySem.W.Frag)(x qual:Str)(st:Stmt)(f:Addr)(fd:FuncData):Prop where
 ex:∃(oc:Value) (od:Option Addr) (kV doc pm:Value) (an:Option Addr) (cdv ct:Value) (osl:Array (Option Value)),
  fd=fnOf x qual (di st) (bA st) (ah st) .none kV doc pm an cdv ct∧K.lookup f=some ⟨oc,od,.func fd,osl⟩∧codeIn K cdv qual=true
 kp:keepIn K (.ref f)=true
section
variable{P:Program}{w:World}{K:PySem.W.Frag}{mg:Str→Option Value}{base:Heap}
theorem Fun.ok{x qual:Str}{st:Stmt}{f:Addr}{fd:FuncData}{N ps:List Str}{k:Nat}{sp:Sp}(F:Fun K x qual st f fd)(S:FnScope N ps (ah st))(len:∀vs H Q E,sp vs H Q E→vs.length=ps.length)(hbody:∀(cdv:Value) (A:Around) (outer:List Env) (s:Shared) (H:Hp) (vs:List V) (Q:VK) (E:XK),Room k (A.deeper (envOfC qual (ah st) s.heap.objs.size f cdv))→sp vs H Q E →
   ∃t,PSs (gC CX0 P w K mg base N qual (ah st) f cdv A outer s H E).nox (bA st) t∧t {nx:=λ_ H'=>Q .non H',rt:=Q} (start N vs) H):FnOk P w K mg base CX0 (k+1) f fd ps sp:=by
 obtain⟨oc,od,kV,doc,pm,an,cdv,ct,osl,rfl,lk,hcd⟩:=F.ex;refine ua lk hcd S len λA outer s H vs Q E hr hsp=>?_;obtain⟨t,h,q⟩:=hbody cdv A outer s H vs Q E hr hsp;exact⟨t,h.nox,q⟩
theorem Fun.binds{x qual:Str}{st:Stmt}{f:Addr}{fd:FuncData}{ps:List Str}(F:Fun K x qual st f fd)(h:∀(kV doc pm:Value) (an:Option Addr) (cdv ct:Value) (us:List Value),us.length=ps.length→bindArgs (fnOf x qual (di st) (bA st) (ah st) .none kV doc pm an cdv ct) ⟨us,[]⟩=pure (ps.zip us)):dM K fd ps []:=by
 obtain⟨oc,od,kV,doc,pm,an,cdv,ct,osl,rfl,lk,hcd⟩:=F.ex;exact .all (h kV doc pm an cdv ct)
theorem vg{x qual:Str}{st:Stmt}{f:Addr}{oc:Value}{od an:Option Addr}{osl:Array (Option Value)}{kV doc pm cdv ct:Value}(l:K.lookup f=some ⟨oc,od,.func (fnOf x qual (di st) (bA st) (ah st) .none kV doc pm an cdv ct),osl⟩)(c:codeIn K cdv qual=true)(k:keepIn K (.ref f)=true):Fun K x qual st f (fnOf x qual (di st) (bA st) (ah st) .none kV doc pm an cdv ct):=⟨⟨oc,od,kV,doc,pm,an,cdv,ct,osl,rfl,l,c⟩,k⟩
end
theorem aK{A:Around}{k:Nat}(hr:Room k A):A.units+1<cLine:=lt_of_le_of_lt (Nat.add_le_add_left (by decide:1≤64) _) hr.units
theorem aG{n:Nat}(h:n≤1000):n<sizeLine:=lt_of_le_of_lt h (by decide)
section
variable{X:Cx}
theorem pv(i:Nat){x:Str}{pos:Pos}(hN:X.N[i]?=some x:=by rfl)(hv:Vis X.env.scope x:=by first|exact Or.inl rfl|exact Or.inr (Or.inl rfl)|exact Or.inr (Or.inr rfl))(hd:(x==("__debug__":Str))=false:=by decide)(hcd:(x==("__classdict__":Str))=false:=by decide):PE X (.Name x pos) (gv i):=uC hN hv hd hcd
end
theorem aJ{A B:Prop}(h:B):if false=true then A else B:=by
 rw[if_neg Bool.false_ne_true];exact h
theorem aT{A B:Prop}(h:A):if true=true then A else B:=by
 rw[if_pos rfl];exact h
theorem pi{c A B:Prop}[Decidable c](h1:c→A)(h2:¬c→B):if c then A else B:=by
 by_cases h:c
 ·rw[if_pos h];exact h1 h
 ·rw[if_neg h];exact h2 h
def Same(H H':Hp):Prop:=∀b o,H b=some o→H' b=some o
theorem Same.refl(H:Hp):Same H H:=λ_ _ h=>h
theorem Same.trans{H H1 H2:Hp}(a:Same H H1)(b:Same H1 H2):Same H H2:=λc o h=>b c o (a c o h)
theorem Same.free{H H':Hp}(e:Same H H'){l:Addr}(h:H' l=Option.none):H l=Option.none:=by
 cases q:H l with
 |none=>rfl
 |some o =>
  rw[e l o q]at h;cases h
theorem Same.seq{K:PySem.W.Frag}{H H':Hp}{a:Addr}{xs:List V}(e:Same H H')(h:SqL K H a xs):SqL K H' a xs:=by
 rcases h with (h|⟨o,h⟩)|h
 ·exact .inl (.inl (e _ _ h))
 ·exact .inl (.inr ⟨o,e _ _ h⟩)
 ·exact .inr h
section
variable{κ:Type}[DecidableEq κ]
theorem pj{p:κ×V}{r:List (κ×V)}{k:κ}(e:p.1=k):de (p::r) k=de r k:=by
 unfold de;rw[filter_cons,if_neg (by simp[e])]
theorem pk{p:κ×V}{r:List (κ×V)}{k:κ}(e:¬p.1=k):de (p::r) k=p::de r k:=by
 unfold de;rw[filter_cons,if_pos (by simp[e])]
end
structure LcOk(X:Cx)(scope:Scope)(cl:List (Str×Addr)):Prop where
 kind:scope.kind=.function
 clos:closureFor scope X.env=pure cl
 names:∀x∈scope.names,x.2=.local→scope.names.lookup x.1=some .local
 nocell:∀x∈scope.names,x.2≠.cell
 cells:∀x c,cl.lookup x=some c→X.env.cells.lookup x=some c
 has:∀x,((relabel scope X.env).names.lookup x=some .cell∨(relabel scope X.env).names.lookup x=some .free)→∃c,cl.lookup x=some c
abbrev cy(X:Cx)(N:List Str)(scope:Scope)(cl:List (Str×Addr))(s:Shared)(H:Hp)(ex:List Addr):Cx :=
 {X with N:=N,s₀:=s,H₀:=H,env:=compEnvC scope cl s.heap.objs.size X.env,outer:=X.stack,stack:=X.stack,ex:=ex,fn:=λ_=>false,pn:=[],xe:=λ_ _=>False}
section
variable{X:Cx}{pins:List (Addr×Obj)}{σ:St}{H:Hp}{s:Shared}{N:List Str}{scope:Scope}{cl:List (Str×Addr)}{fp:List Addr}
theorem ll(I:Inv X pins σ H s)(L:LcOk X scope cl)(hf:∀b∈fp,dJ X pins H b)(ho:∀b∈fp,b<s.heap.objs.size):(cy X N scope cl s H fp).Ok where
 mod:=I.ok.mod
 kind:=L.kind
 glob:=I.ok.glob
 blt:=I.ok.blt
 above:=le_refl _
 inj:=λx y c h1 h2=>I.ok.inj x y c (L.cells x c h1) (L.cells y c h2)
 has:=λx hx=>L.has x hx
 cab:=λx c h _=>absurd h (by simp)
 hd:=I.ok.hd
 frames:=I.ok.frames
 stk:=.inl rfl
 exf:=λb hb=>⟨ne_of_lt (ho b hb),λx c h=>(hf b hb).2.2.2.2.1 x c (L.cells x c h)⟩
 bs:=I.bs
 bsz:=le_trans I.ok.bsz I.sz
 noex:=λb o e hb=>by
  rcases (hf b hb).2.2.2.1 with z|z
  ·exact I.ok.noex b o e z
  ·exact absurd (lt_of_lt_of_le (lt_size e) (le_trans I.ok.bsz z)) (lt_irrefl _)
 exfs:=λb hb hs=>by
  rcases mem_cons.mp (I.stkSub b hs)with z|z
  ·exact(hf b hb).2.1 z
  ·exact(hf b hb).2.2.1 z
 funs:=I.stack
 frf:=I.stkFree
def cA(k:Nat)(js:List Nat)(σ:St):St:=List.replicate k none++js.map λj=>(σ[j]?).getD none
theorem gJ{h₁:Heap}{tk:Nat}{k:Nat}{js:List Nat}(I:Inv X pins σ H s)(L:LcOk X scope cl)(hf:∀b∈fp,dJ X pins H b)(ho:∀b∈fp,b<s.heap.objs.size)(hns:∃m,h₁.Ns s.heap.objs.size m)(hk:∀b o,s.heap.get? b=some o→h₁.get? b=some o)(hN:N.length=k+js.length)(hj:∀(i j:Nat) x,js[i]?=some j→N[k+i]?=some x→X.N[j]?=some x∧Vis X.env.scope x∧X.env.scope.names.lookup x≠some .local∧((relabel scope X.env).names.lookup x=some .cell∨(relabel scope X.env).names.lookup x=some .free)):
  Inv (cy X N scope cl s H fp) [] (cA k js σ) H {s with heap:=h₁,toks:=tk}:=by
 obtain⟨m,hm⟩:=hns;have cellK:∀c v,s.heap.IsCell c v→h₁.IsCell c v:=λc v ⟨o,e,d⟩=>⟨o,hk c o e,d⟩;refine⟨ll I L hf ho,rfl,I.bare,Un.kept hk,⟨m,hm,λi x v e1 e2 e3=>?_⟩,λx c e=>?_,I.hok.fresh (le_refl _),λx c e=>I.freeC x c (L.cells x c e),λp hp=>absurd (show p∈([]:List (Addr×Obj))from hp) (by simp),I.hok.kept hk,?_⟩
 ·unfold cA at e2
  by_cases hi:i<k
  ·rw[List.getElem?_append_left (by simpa using hi),List.getElem?_replicate]at e2
   split at e2<;>cases e2
  ·obtain⟨i',rfl⟩:∃i',i=k+i':=⟨i-k,by omega⟩;rw[List.getElem?_append_right (by simp),length_replicate,Nat.add_sub_cancel_left,getElem?_map]at e2;cases ej:js[i']? with
   |none=>rw[ej]at e2;cases e2
   |some j =>
    rw[ej]at e2;have e2':(σ[j]?).getD none=some v:=Option.some.inj e2;obtain⟨h1,h2,h3,h4⟩:=hj i' j x ej e1;have e4:σ[j]?=some (some v):=by
     cases q:σ[j]? with
     |none=>rw[q]at e2';cases e2'
     |some y=>rw[q]at e2';exact congrArg some e2'
    obtain⟨m0,_,hl⟩:=I.loc;obtain⟨u,r,lk⟩:=hl j x v h1 e4 h2;refine⟨u,r,.inr ⟨h4,?_⟩⟩;rcases lk with⟨q,_⟩|⟨_,c,e5,e6⟩
    ·exact absurd q h3
    ·obtain⟨c',e7⟩:=L.has x h4;have:c'=c:=Option.some.inj ((L.cells x c' e7).symm.trans e5);subst this;exact⟨c',e7,cellK c' _ e6⟩
 ·obtain⟨v,e1⟩:=I.cell x c (L.cells x c e);exact⟨v,cellK c v e1⟩
 ·unfold cA;rw[length_append,length_replicate,length_map];exact hN.symm
theorem kh{H':Hp}{σ':St}{s':Shared}{h':Heap}(I:Inv X pins σ H s)(hf:∀b∈fp,dJ X pins H b)(J:Inv (cy X N scope cl s H fp) [] σ' H' s')(hs:SameBut s.heap.objs.size s'.heap h'):Inv X pins σ H' {s' with heap:=h'}:=by
 have ne:∀b o,s.heap.get? b=some o→b≠s.heap.objs.size:=λb o e=>ne_of_lt (lt_size e);have u:=J.base;have u':Un (frs X.stack) fp H H' s.heap h' :=
  ⟨λb o e n hb hx=>(hs.2 b (ne b o e)).trans (u.keep b o e n hb hx),λb o e n hb hx=>by
   obtain⟨sl,q⟩:=u.slot b o e n hb hx;exact⟨sl,(hs.2 b (ne b o e)).trans q⟩,u.free,λb o e hx=>by
   obtain⟨o',q⟩:=u.there b o e hx;exact⟨o',(hs.2 b (ne b o e)).trans q⟩,u.tups,u.frzs,u.tbls⟩
 have nt:∀b o,H' b=some o→b≠s.heap.objs.size:=λb o e z=>by
  have:=J.free;rw[show(cy X N scope cl s H fp).env.locals=s.heap.objs.size from rfl,←z,e]at this;cases this
 refine I.call' (s':={s' with heap:=h'}) J.os u' (λb o e=>?_) J.bare λb hb=>?_
 ·refine(J.hok b o e).stay (λc v hc q=>(hs.2 c ?_).trans q) (λ_ q=>q) λ_ _ q=>q;rcases hc with z|z
  ·rw[z];exact nt b o e
  ·exact nt c _ z
 ·obtain⟨f0,f1,f2,f3,f4,f5⟩:=hf b hb;exact⟨f3,f1,f4,f5⟩
end
section
variable{prog:Program}{w:World}{A:Around}{R:Result→Shared→Prop}{s:Shared}
theorem nQ{elt target iter:Expr}{scope:Scope}{pos:Pos}{it acc:Value}{env:Env}(I:Nat→Shared→Prop)(turn:∀n s,I n s→wpAny (model prog w) A (pyNext it) (λr s₁=>match r with
   |none=>R (.ok .next) s₁
   | some v=>wpAny (model prog w) A (letOwnedTupleGo target it v) (λ_ s₂=>wpAny (model prog w) A (assign target env v) (λ_ s₃=>wpAny (model prog w) A (eval elt env) (λx s₄ =>
     wpAny (model prog w) A (call (.builtin "list.append") [acc,x]) (λ_ s₅=>∃m,m<n∧I m s₅) (λ_ _=>False) s₄) (λ_ _=>False) s₃) (λ_ _=>False) s₂) (λ_ _=>False) s₁) (λ_ _=>False) s)(n:Nat)(h:I n s):codeAny (model prog w) A (.compLoop (.ListComp elt [⟨target,iter,[],0⟩] scope pos) 0 it acc env) R s:=by
 refine codeAny_loop rfl I (λn s hI=>?_) n h;show wpAny _ _ ((compTurn (.ListComp elt [⟨target,iter,[],0⟩] scope pos) 0 it acc env).onRaise (λx=>do noteFrame x env;theTreesLotGoes x)) _ _ s;refine wpAny_noted ?_;rw[compTurn_list1];refine wpAny_bind (wpAny_standAt (wpAny_bind (wpAny_mono (turn n s hI) (λr s₁ h₁=>?_) λ_ _ h'=>h'.elim)));cases r with
 |none=>exact wpAny_pure h₁
 |some v =>
  refine wpAny_bind (wpAny_mono h₁ (λ_ s₂ h₂=>?_) λ_ _ h'=>h'.elim);exact wpAny_bind (wpAny_mono h₂ (λ_ s₂ h₂=>wpAny_bind (wpAny_bind (wpAny_mono h₂ (λx s₃ h₃=>wpAny_bind (wpAny_mono h₃
   (λ_ s₄ h₄=>wpAny_pure (wpAny_pure ⟨rfl,h₄⟩)) λ_ _ h'=>h'.elim)) λ_ _ h'=>h'.elim))) λ_ _ h'=>h'.elim)
theorem iR(elt target iter c:Expr)(scope:Scope)(pos:Pos)(it acc:Value)(env:Env):
  compTurn (.ListComp elt [⟨target,iter,[c],0⟩] scope pos) 0 it acc env=(standAt iter.pos >>= λ_=>pyNext it >>= λr=>match r with
   |none=>pure (.done .next)
   |some v=>letOwnedTupleGo target it v >>= λ_=>assign target env v >>= λ_ =>
    (forIn [c] true λc r=>if r=true then do let ok ← isTrue c env (eval c env);pure (ForInStep.yield ok)else pure (ForInStep.yield r)) >>= λok =>
    if ok=true then (eval elt env >>= λx=>call (.builtin "list.append") [acc,x] >>= λ_=>pure ()) >>= λ_ =>
     again (.compLoop (.ListComp elt [⟨target,iter,[c],0⟩] scope pos) 0 it acc env)
    else again (.compLoop (.ListComp elt [⟨target,iter,[c],0⟩] scope pos) 0 it acc env)):=by rfl
theorem iS{elt target iter c:Expr}{scope:Scope}{pos:Pos}{it acc:Value}{env:Env}(I:Nat→Shared→Prop)(turn:∀n s,I n s→wpAny (model prog w) A (pyNext it) (λr s₁=>match r with
   |none=>R (.ok .next) s₁
   | some v=>wpAny (model prog w) A (letOwnedTupleGo target it v) (λ_ s₂=>wpAny (model prog w) A (assign target env v) (λ_ s₃=>wpAny (model prog w) A (isTrue c env (eval c env)) (λok s₃ =>
     if ok=true then wpAny (model prog w) A (eval elt env) (λx s₄ =>
      wpAny (model prog w) A (call (.builtin "list.append") [acc,x]) (λ_ s₅=>∃m,m<n∧I m s₅) (λ_ _=>False) s₄) (λ_ _=>False) s₃
     else ∃m,m<n∧I m s₃) (λ_ _=>False) s₃) (λ_ _=>False) s₂) (λ_ _=>False) s₁) (λ_ _=>False) s)(n:Nat)(h:I n s):codeAny (model prog w) A (.compLoop (.ListComp elt [⟨target,iter,[c],0⟩] scope pos) 0 it acc env) R s:=by
 refine codeAny_loop rfl I (λn s hI=>?_) n h;show wpAny _ _ ((compTurn (.ListComp elt [⟨target,iter,[c],0⟩] scope pos) 0 it acc env).onRaise (λx=>do noteFrame x env;theTreesLotGoes x)) _ _ s;refine wpAny_noted ?_;rw[iR];refine wpAny_bind (wpAny_standAt (wpAny_bind (wpAny_mono (turn n s hI) (λr s₁ h₁=>?_) λ_ _ h'=>h'.elim)));cases r with
 |none=>exact wpAny_pure h₁
 |some v =>
  refine wpAny_bind (wpAny_mono h₁ (λ_ s₂ h₂=>?_) λ_ _ h'=>h'.elim);refine wpAny_bind (wpAny_mono h₂ (λ_ s₃ h₃=>?_) λ_ _ h'=>h'.elim);rw[List.forIn_cons];simp only[if_true];refine wpAny_bind (wpAny_bind (wpAny_bind (wpAny_mono h₃ (λok s₄ h₄=>wpAny_pure ?_) λ_ _ h'=>h'.elim)));simp only[List.forIn_nil];refine wpAny_pure ?_;cases ok with
  |true =>
   rw[if_pos rfl]at h₄⊢;exact wpAny_bind (wpAny_bind (wpAny_mono h₄ (λx s₃ h₃=>wpAny_bind (wpAny_mono h₃ (λ_ s₄ h₄=>wpAny_pure (wpAny_pure ⟨rfl,h₄⟩)) λ_ _ h'=>h'.elim)) λ_ _ h'=>h'.elim))
  |false =>
   rw[if_neg (by simp)]at h₄⊢;exact wpAny_pure ⟨rfl,h₄⟩
end
def LcW(k:Nat)(js:List Nat)(g:TG)(te:TE)(σ:St)(Q:VK)(J:It)(H1:Hp)(p:Addr):Prop:=∃W:Nat→Nat→List V→St→Hp→Prop,
 (∃m,W 0 m [] (cA k js σ) (upd H1 p (.lst [])))∧∀i m ys σ' H',W i m ys σ' H'→(J.stop i H'∧Q (.ref p) H') ∨
  (J.go i H'∧ys.length<sizeLine∧∀x H2,J.yld i H' x H2→g x σ' H2 λσ2 H3=>te σ2 H3 λy H4=>H4 p=some (.lst ys)∧∃m',m'<m∧W (i+1) m' (ys++[y]) σ2 (upd H4 p (.lst (ys++[y]))))
def tLc(k:Nat)(js:List Nat)(wi:TI)(g:TG)(te:TE):TE:=λσ H Q=>wi σ H λJ H1=>∀p,H1 p=none→LcW k js g te σ Q J H1 p
def wI(k:Nat)(js:List Nat)(g:TG)(tc:TT)(te:TE)(σ:St)(Q:VK)(J:It)(H1:Hp)(p:Addr):Prop:=∃W:Nat→Nat→List V→St→Hp→Prop,
 (∃m,W 0 m [] (cA k js σ) (upd H1 p (.lst [])))∧∀i m ys σ' H',W i m ys σ' H'→(J.stop i H'∧Q (.ref p) H') ∨
  (J.go i H'∧ys.length<sizeLine∧∀x H2,J.yld i H' x H2→g x σ' H2 λσ2 H3=>tc σ2 H3 λb H4=>if b=true then te σ2 H4 λy H5=>H5 p=some (.lst ys)∧∃m',m'<m∧W (i+1) m' (ys++[y]) σ2 (upd H5 p (.lst (ys++[y])))
   else ∃m',m'<m∧W (i+1) m' ys σ2 H4)
def vh(k:Nat)(js:List Nat)(wi:TI)(g:TG)(tc:TT)(te:TE):TE:=λσ H Q=>wi σ H λJ H1=>∀p,H1 p=none→wI k js g tc te σ Q J H1 p
section
variable{X:Cx}{N:List Str}{scope:Scope}{cl:List (Str×Addr)}{k:Nat}{js:List Nat}
theorem gL{elt tg iter:Expr}{pos:Pos}{wi:TI}{g:TG}{te:TE}(hc:X.calm=true)(L:LcOk X scope cl)(hN:N.length=k+js.length)(hj:∀(i j:Nat) x,js[i]?=some j→N[k+i]?=some x→X.N[j]?=some x∧Vis X.env.scope x∧X.env.scope.names.lookup x≠some .local∧((relabel scope X.env).names.lookup x=some .cell∨(relabel scope X.env).names.lookup x=some .free))(hi:PI X tg iter wi)(hg:∀s H fp,PG (cy X N scope cl s H fp) tg g)(he:∀s H fp,PE (cy X N scope cl s H fp) elt te)(hs:∀x,foldedSetIterable iter X.env x=pure x:=by intro _;rfl):PE X (.ListComp elt [⟨tg,iter,[],0⟩] scope pos) (tLc k js wi g te):=by
 intro pins s σ H Q I h;rw[eval_ListComp];refine wpAny_comprehension_free (use:=none) rfl hs L.clos L.kind L.names ?_;refine thn (hi pins s σ H _ I h) λv s1 h1=>thn h1 λitv s2 h2=>?_;obtain⟨it,fp,tn,J,H2,e,I2,T,st2,f2,hW⟩:=h2;subst e;have hfp:∀b∈fp,b<s2.heap.objs.size:=λb hb=>by
  obtain⟨o,e,_⟩:=T.obj _ _ st2 b hb;exact lt_size e
 refine wpAny_newObj_type (wpAny_newFunctionEnv L.nocell (by intro y hy;simp at hy) (λh₁ hns hsb=>?_) L.kind);dsimp only at hns hsb⊢;obtain⟨W,⟨m0,w0⟩,turn⟩:=hW s2.heap.objs.size (I2.hok.fresh (le_refl _));have I3:Inv X pins σ (upd H2 s2.heap.objs.size (.lst [])) {s2 with heap:=s2.heap.push {cls:=.type "list",dict:=none,data:=.seq ([]:List Value).toArray}}:=I2.lnew (t':=s2.toks) .nil (zero_le _)
 generalize hA:s2.heap.push {cls:=.type "list",dict:=none,data:=.seq ([]:List Value).toArray}=hpA at hns hsb I3⊢;have hszA:hpA.objs.size=s2.heap.objs.size+1:=by rw[←hA,size_push]
 have keepA:∀b o,s2.heap.get? b=some o→hpA.get? b=some o:=λb o e=>by rw[←hA];exact get?_push_of_some _ e
 have f3:∀b∈fp,dJ X pins (upd H2 s2.heap.objs.size (.lst [])) b:=λb hb=>⟨by rw[al (ne_of_lt (hfp b hb))];exact(f2 b hb).1,(f2 b hb).2⟩;have hfp3:∀b∈fp,b<hpA.objs.size:=λb hb=>by rw[hszA];exact lt_succ_of_lt (hfp b hb)
 have keep1:∀b o,hpA.get? b=some o→h₁.get? b=some o:=λb o e=>hsb.extBut b o (ne_of_lt (lt_size e)) (get?_push_of_some _ e);have J0:=gJ (N:=N) (k:=k) (js:=js) (tk:=s2.toks+([]:List (Str×Value)).length) I3 L f3 hfp3 ⟨_,hns⟩ keep1 hN hj;have st1:tn 0 h₁:=T.keep _ _ _ st2 λb hb o e=>keep1 b o (keepA b o e);have stat:∀{H':Hp},(∀b∈fp,H' b=none)→∀b∈fp,dJ (cy X N scope cl {s2 with heap:=hpA} (upd H2 s2.heap.objs.size (.lst [])) fp) [] H' b:=λhn b hb =>
  ⟨hn b hb,ne_of_lt (hfp3 b hb),(ll (N:=N) I3 L f3 hfp3).exfs b hb,.inl hb,λx c h=>(f3 b hb).2.2.2.2.1 x c (L.cells x c h),λp hp=>absurd (show p∈([]:List (Addr×Obj))from hp) (by simp)⟩
 have loop:codeAny (model X.prog X.w) X.A (.compLoop (.ListComp elt [⟨tg,iter,[],0⟩] scope pos) 0 (.ref it) (.ref s2.heap.objs.size) (compEnvC scope cl hpA.objs.size X.env))
   (compPost (model X.prog X.w) X.A X.xe none (EP X pins σ Q) (.ref s2.heap.objs.size) hpA.objs.size) {s2 with heap:=h₁,toks:=s2.toks+([]:List (Str×Value)).length}:=by
  refine nQ (λn s'=>∃i ys σ' H',Inv (cy X N scope cl {s2 with heap:=hpA} (upd H2 s2.heap.objs.size (.lst [])) fp) [] σ' H' s'∧tn i s'.heap∧(∀b∈fp,H' b=none)∧W i n ys σ' H') ?_ m0 ⟨0,[],_,_,J0,st1,λb hb=>(f3 b hb).1,w0⟩
  rintro n s3 ⟨i,ys,σ3,H3,J3,st3,fr3,w3⟩;rcases turn i n ys σ3 H3 w3 with⟨stop,qn⟩|⟨go,hlen,step⟩
  ·refine thn (T.done (cy X N scope cl {s2 with heap:=hpA} (upd H2 s2.heap.objs.size (.lst [])) fp) rfl rfl rfl hc i [] s3 σ3 H3 (λ_ _=>False) J3 (stat fr3) st3 stop) λr s4 hpt=>?_
   obtain⟨hr,J4⟩:=hpt;subst hr;obtain⟨m,hm,_⟩:=J4.loc;exact⟨m,hm,λh' hs'=>⟨.ref s2.heap.objs.size,H3,kh I3 f3 J4 hs',rfl,qn⟩⟩
  ·refine thn (T.item (cy X N scope cl {s2 with heap:=hpA} (upd H2 s2.heap.objs.size (.lst [])) fp) rfl rfl rfl hc i [] s3 σ3 H3 (λ_ _=>False) J3 (stat fr3) st3 go) λr s4 hpt=>?_
   obtain⟨u,hr,h4⟩:=hpt;subst hr;refine thn h4 λ_ s5 hpt=>?_;obtain⟨x,H5,J5,r5,y5,st5,fr5⟩:=hpt;have J5':=J5.pinned (stat fr5) (T.obj _ _ st5);refine thn (hg _ _ _ _ s5 σ3 H5 x u _ J5' r5 (step x H5 y5)) λ_ s6 hpt=>?_;obtain⟨σ6,H6,J6,q6⟩:=hpt;refine thn (he _ _ _ _ s6 σ6 H6 _ J6 q6) λy s7 hpt=>?_;obtain⟨vy,H7,J7,r7,q7,m',hm',w7⟩:=hpt;refine thn (bv _ s7 σ6 H7 (.ref s2.heap.objs.size) [vy] _ _ (λ_ H8=>H8=upd H7 s2.heap.objs.size (.lst (ys++[vy]))) J7 rfl (.cons r7 .nil) ⟨_,ys,vy,rfl,rfl,q7,hlen,rfl⟩) λ_ s8 hpt=>?_;obtain⟨_,H8,J8,_,e8⟩:=hpt;subst e8;refine⟨m',hm',i+1,ys++[vy],σ6,_,J8.unpinned,T.keep _ _ _ st5 λb hb o e=>(J8.pin (b,o) (mem_append_right _ (mem_append_right _ (aP hb e)))).1,λb hb=>?_,w7⟩;obtain⟨o,e,d⟩:=T.obj _ _ st5 b hb;exact(J8.pin (b,o) (mem_append_right _ (mem_append_right _ (aP hb e)))).2.1
 exact codeAny_compStart_list loop (T.self _ 0 _ _ _ st1 loop)
theorem db{elt tg iter c:Expr}{pos:Pos}{wi:TI}{g:TG}{tc:TT}{te:TE}(hc:X.calm=true)(L:LcOk X scope cl)(hN:N.length=k+js.length)(hj:∀(i j:Nat) x,js[i]?=some j→N[k+i]?=some x→X.N[j]?=some x∧Vis X.env.scope x∧X.env.scope.names.lookup x≠some .local∧((relabel scope X.env).names.lookup x=some .cell∨(relabel scope X.env).names.lookup x=some .free))(hi:PI X tg iter wi)(hg:∀s H fp,PG (cy X N scope cl s H fp) tg g)(ht:∀s H fp,PT (cy X N scope cl s H fp) c tc)(he:∀s H fp,PE (cy X N scope cl s H fp) elt te)(hs:∀x,foldedSetIterable iter X.env x=pure x:=by intro _;rfl):PE X (.ListComp elt [⟨tg,iter,[c],0⟩] scope pos) (vh k js wi g tc te):=by
 intro pins s σ H Q I h;rw[eval_ListComp];refine wpAny_comprehension_free (use:=none) rfl hs L.clos L.kind L.names ?_;refine thn (hi pins s σ H _ I h) λv s1 h1=>thn h1 λitv s2 h2=>?_;obtain⟨it,fp,tn,J,H2,e,I2,T,st2,f2,hW⟩:=h2;subst e;have hfp:∀b∈fp,b<s2.heap.objs.size:=λb hb=>by
  obtain⟨o,e,_⟩:=T.obj _ _ st2 b hb;exact lt_size e
 refine wpAny_newObj_type (wpAny_newFunctionEnv L.nocell (by intro y hy;simp at hy) (λh₁ hns hsb=>?_) L.kind);dsimp only at hns hsb⊢;obtain⟨W,⟨m0,w0⟩,turn⟩:=hW s2.heap.objs.size (I2.hok.fresh (le_refl _));have I3:Inv X pins σ (upd H2 s2.heap.objs.size (.lst [])) {s2 with heap:=s2.heap.push {cls:=.type "list",dict:=none,data:=.seq ([]:List Value).toArray}}:=I2.lnew (t':=s2.toks) .nil (zero_le _)
 generalize hA:s2.heap.push {cls:=.type "list",dict:=none,data:=.seq ([]:List Value).toArray}=hpA at hns hsb I3⊢;have hszA:hpA.objs.size=s2.heap.objs.size+1:=by rw[←hA,size_push]
 have keepA:∀b o,s2.heap.get? b=some o→hpA.get? b=some o:=λb o e=>by rw[←hA];exact get?_push_of_some _ e
 have f3:∀b∈fp,dJ X pins (upd H2 s2.heap.objs.size (.lst [])) b:=λb hb=>⟨by rw[al (ne_of_lt (hfp b hb))];exact(f2 b hb).1,(f2 b hb).2⟩;have hfp3:∀b∈fp,b<hpA.objs.size:=λb hb=>by rw[hszA];exact lt_succ_of_lt (hfp b hb)
 have keep1:∀b o,hpA.get? b=some o→h₁.get? b=some o:=λb o e=>hsb.extBut b o (ne_of_lt (lt_size e)) (get?_push_of_some _ e);have J0:=gJ (N:=N) (k:=k) (js:=js) (tk:=s2.toks+([]:List (Str×Value)).length) I3 L f3 hfp3 ⟨_,hns⟩ keep1 hN hj;have st1:tn 0 h₁:=T.keep _ _ _ st2 λb hb o e=>keep1 b o (keepA b o e);have stat:∀{H':Hp},(∀b∈fp,H' b=none)→∀b∈fp,dJ (cy X N scope cl {s2 with heap:=hpA} (upd H2 s2.heap.objs.size (.lst [])) fp) [] H' b:=λhn b hb =>
  ⟨hn b hb,ne_of_lt (hfp3 b hb),(ll (N:=N) I3 L f3 hfp3).exfs b hb,.inl hb,λx c h=>(f3 b hb).2.2.2.2.1 x c (L.cells x c h),λp hp=>absurd (show p∈([]:List (Addr×Obj))from hp) (by simp)⟩
 have loop:codeAny (model X.prog X.w) X.A (.compLoop (.ListComp elt [⟨tg,iter,[c],0⟩] scope pos) 0 (.ref it) (.ref s2.heap.objs.size) (compEnvC scope cl hpA.objs.size X.env))
   (compPost (model X.prog X.w) X.A X.xe none (EP X pins σ Q) (.ref s2.heap.objs.size) hpA.objs.size) {s2 with heap:=h₁,toks:=s2.toks+([]:List (Str×Value)).length}:=by
  refine iS (λn s'=>∃i ys σ' H',Inv (cy X N scope cl {s2 with heap:=hpA} (upd H2 s2.heap.objs.size (.lst [])) fp) [] σ' H' s'∧tn i s'.heap∧(∀b∈fp,H' b=none)∧W i n ys σ' H') ?_ m0 ⟨0,[],_,_,J0,st1,λb hb=>(f3 b hb).1,w0⟩
  rintro n s3 ⟨i,ys,σ3,H3,J3,st3,fr3,w3⟩;rcases turn i n ys σ3 H3 w3 with⟨stop,qn⟩|⟨go,hlen,step⟩
  ·refine thn (T.done (cy X N scope cl {s2 with heap:=hpA} (upd H2 s2.heap.objs.size (.lst [])) fp) rfl rfl rfl hc i [] s3 σ3 H3 (λ_ _=>False) J3 (stat fr3) st3 stop) λr s4 hpt=>?_
   obtain⟨hr,J4⟩:=hpt;subst hr;obtain⟨m,hm,_⟩:=J4.loc;exact⟨m,hm,λh' hs'=>⟨.ref s2.heap.objs.size,H3,kh I3 f3 J4 hs',rfl,qn⟩⟩
  ·refine thn (T.item (cy X N scope cl {s2 with heap:=hpA} (upd H2 s2.heap.objs.size (.lst [])) fp) rfl rfl rfl hc i [] s3 σ3 H3 (λ_ _=>False) J3 (stat fr3) st3 go) λr s4 hpt=>?_
   obtain⟨u,hr,h4⟩:=hpt;subst hr;refine thn h4 λ_ s5 hpt=>?_;obtain⟨x,H5,J5,r5,y5,st5,fr5⟩:=hpt;have J5':=J5.pinned (stat fr5) (T.obj _ _ st5);refine thn (hg _ _ _ _ s5 σ3 H5 x u _ J5' r5 (step x H5 y5)) λ_ s6 hpt=>?_;obtain⟨σ6,H6,J6,q6⟩:=hpt;refine thn (ht _ _ _ _ s6 σ6 H6 _ J6 q6) λb s6 hpt=>?_;obtain⟨H6,J6,q6⟩:=hpt;cases b with
   |true =>
    rw[if_pos rfl]at q6⊢;refine thn (he _ _ _ _ s6 σ6 H6 _ J6 q6) λy s7 hpt=>?_;obtain⟨vy,H7,J7,r7,q7,m',hm',w7⟩:=hpt;refine thn (bv _ s7 σ6 H7 (.ref s2.heap.objs.size) [vy] _ _ (λ_ H8=>H8=upd H7 s2.heap.objs.size (.lst (ys++[vy]))) J7 rfl (.cons r7 .nil) ⟨_,ys,vy,rfl,rfl,q7,hlen,rfl⟩) λ_ s8 hpt=>?_;obtain⟨_,H8,J8,_,e8⟩:=hpt;subst e8;refine⟨m',hm',i+1,ys++[vy],σ6,_,J8.unpinned,T.keep _ _ _ st5 λb hb o e=>(J8.pin (b,o) (mem_append_right _ (mem_append_right _ (aP hb e)))).1,λb hb=>?_,w7⟩;obtain⟨o,e,d⟩:=T.obj _ _ st5 b hb;exact(J8.pin (b,o) (mem_append_right _ (mem_append_right _ (aP hb e)))).2.1
   |false =>
    rw[if_neg (by simp)]at q6⊢;obtain⟨m',hm',w7⟩:=q6;refine⟨m',hm',i+1,ys,σ6,_,J6.unpinned,T.keep _ _ _ st5 λb hb o e=>(J6.pin (b,o) (mem_append_right _ (mem_append_right _ (aP hb e)))).1,λb hb=>?_,w7⟩;obtain⟨o,e,d⟩:=T.obj _ _ st5 b hb;exact(J6.pin (b,o) (mem_append_right _ (mem_append_right _ (aP hb e)))).2.1
 exact codeAny_compStart_list loop (T.self _ 0 _ _ _ st1 loop)
end
end L2
namespace TB
open PySem SetTable
section
variable{prog:Program}{w:World}{K:Type}[DecidableEq K]{knd:KeyKind prog w K}{A:Around}{E:Value→Shared→Prop}{s:Shared}
end
section
variable{prog:Program}{w:World}{K:Type}[DecidableEq K](knd:KeyKind prog w K)
variable{knd}
variable{A:Around}{E:Value→Shared→Prop}{s:Shared}
end
section
variable{prog:Program}{w:World}{K:Type}[DecidableEq K]{knd:KeyKind prog w K}{A:Around}{E:Value→Shared→Prop}{s:Shared}
end
section
variable{prog:Program}{w:World}{K:Type}[DecidableEq K]{knd:KeyKind prog w K}{A:Around}{R:Result→Shared→Prop}{I:Addr}{fp wr:List Addr}{G:Array GenState→Array GenState→Prop}{n:Nat}{P:Nat→Value→Prop}{St:Nat→Shared→Prop}
end
section
variable{prog:Program}{w:World}{K:Type}[DecidableEq K]{knd:KeyKind prog w K}{A:Around}{E:Value→Shared→Prop}{s:Shared}
end
end TB
namespace SRT
open PySem PySem.W PyProof.Rows
def run{α:Type}(f:Nat→Nat→Bool):KasT α→α
 |.ret a=>a
 |.ask i j k=>run f (k (f i j))
theorem eu{α β:Type}(f:Nat→Nat→Bool)(g:α→KasT β):∀t:KasT α,run f (t.bind g)=run f (g (run f t))
 |.ret a=>rfl
 |.ask i j k=>eu f g (k (f i j))
def gM{α:Type}(f:Nat→Nat→Bool)(n:Nat):KasT α→Prop
 |.ret _=>True
 |.ask i j k=>i<n∧j<n∧gM f n (k (f i j))
theorem dj{α β:Type}{f:Nat→Nat→Bool}{n:Nat}{g:α→KasT β}:∀{t:KasT α},gM f n t→gM f n (g (run f t))→gM f n (t.bind g)
 |.ret a,_,h=>h
 |.ask i j k,h,h'=>⟨h.1,h.2.1,dj (t:=k (f i j)) h.2.2 h'⟩
theorem nR{α:Type}{f:Nat→Nat→Bool}{n:Nat}{cmp:Nat→Nat→(Bool→Shared→Prop)→Shared→Prop}{s:Shared}(hc:∀i j C,i<n→j<n→C (f i j) s→cmp i j C s)(Q:α→Shared→Prop):∀t:KasT α,gM f n t→Q (run f t) s→t.kasWp cmp Q s
 |.ret a,_,h=>h
 |.ask i j k,p,h=>hc i j _ p.1 p.2.1 (nR hc Q (k (f i j)) p.2.2 h)
structure Ord(f:Nat→Nat→Bool)(n:Nat):Prop where
 irr:∀i,i<n→f i i=false
 tr:∀i j k,i<n→j<n→k<n→f i j=true→f j k=true→f i k=true
 tot:∀i j,i<n→j<n→i≠j→f i j=true∨f j i=true
section
variable{f:Nat→Nat→Bool}{n:Nat}
structure Row(n:Nat)(p:Array Nat):Prop where
 perm:p.toList.Perm (List.range n)
theorem Row.size{p:Array Nat}(r:Row n p):p.size=n:=by have:=r.perm.length_eq;simpa using this
theorem Row.lt{p:Array Nat}(r:Row n p){i:Nat}(hi:i<n):p.getD i 0<n:=by
 have hs:=r.size;have:p.getD i 0∈p.toList:=by
  rw[getD_eq_getD_getElem?,Array.getElem?_eq_getElem (by omega)];exact Array.getElem_mem_toList (by omega)
 exact mem_range.mp (r.perm.mem_iff.mp this)
theorem Row.ne{p:Array Nat}(r:Row n p){i j:Nat}(hi:i<n)(hj:j<n)(hij:i≠j):p.getD i 0≠p.getD j 0:=by
 have hs:=r.size;have nd:p.toList.Nodup:=r.perm.nodup_iff.mpr List.nodup_range;rw[getD_eq_getD_getElem?,getD_eq_getD_getElem?,Array.getElem?_eq_getElem (by omega),Array.getElem?_eq_getElem (by omega)];intro e;have e':p.toList[i]'(by simpa using (by omega:i<p.size))=p.toList[j]'(by simpa using (by omega:j<p.size)):=by simpa using e
 exact hij ((getElem_inj nd).mp e')
theorem Row.rev{p:Array Nat}(r:Row n p)(i j:Nat):Row n (kas_rev p i j):=⟨(Array.perm_iff_toList_perm.mp (mirror_perm p i j _)).trans r.perm⟩
theorem Row.bub{p:Array Nat}(r:Row n p)(i j:Nat):Row n (bubble p i j):=⟨(Array.perm_iff_toList_perm.mp (bubble_perm p i j)).trans r.perm⟩
def Up(f:Nat→Nat→Bool)(p:Array Nat)(m:Nat):Prop:=∀i j,i<j→j<m→f (p.getD i 0) (p.getD j 0)=true
theorem sw(O:Ord f n){p:Array Nat}(r:Row n p){m:Nat}(hm:m<n)(h1:1≤m)(u:Up f p m)(h:f (p.getD m 0) (p.getD (m-1) 0)=false):Up f p (m+1):=by
 have hl:f (p.getD (m-1) 0) (p.getD m 0)=true:=by
  rcases O.tot _ _ (r.lt (i:=m) hm) (r.lt (i:=m-1) (by omega)) (r.ne hm (by omega) (by omega))with z|z
  ·rw[h]at z;cases z
  ·exact z
 intro i j hij hj
 by_cases e:j=m
 ·subst e
  by_cases e2:i=j-1
  ·rw[e2];exact hl
  ·exact O.tr _ _ _ (r.lt (by omega)) (r.lt (by omega)) (r.lt hm) (u i (j-1) (by omega) (by omega)) hl
 ·exact u i j hij (by omega)
theorem ki(O:Ord f n){p:Array Nat}(r:Row n p):∀(fuel m:Nat),1≤m→m+fuel≤n→Up f p m →
  m≤run f (kas_asc p fuel m)∧run f (kas_asc p fuel m)≤m+fuel∧Up f p (run f (kas_asc p fuel m))∧(run f (kas_asc p fuel m)<m+fuel→f (p.getD (run f (kas_asc p fuel m)) 0) (p.getD (run f (kas_asc p fuel m)-1) 0)=true)
 |0,m,_,_,u=>⟨le_refl _,le_refl _,u,λh=>absurd h (by simp[kas_asc,run])⟩
 |fuel+1,m,h1,hm,u=>by
  cases e:f (p.getD m 0) (p.getD (m-1) 0)with
  |true =>
   have er:run f (kas_asc p (fuel+1) m)=m:=by
    show run f (if f (p.getD m 0) (p.getD (m-1) 0)=true then KasT.ret m else kas_asc p fuel (m+1))=m
    rw[e,if_pos rfl];rfl
   rw[er];exact⟨le_refl _,by omega,u,λ_=>e⟩
  |false =>
   have er:run f (kas_asc p (fuel+1) m)=run f (kas_asc p fuel (m+1)):=by
    show run f (if f (p.getD m 0) (p.getD (m-1) 0)=true then KasT.ret m else kas_asc p fuel (m+1))=_
    rw[e,if_neg (by simp)]
   rw[er];obtain⟨a1,a2,a3,a4⟩:=ki O r fuel (m+1) (by omega) (by omega) (sw O r (by omega) h1 u e);exact⟨by omega,by omega,a3,λh=>a4 (by omega)⟩
def vi(f:Nat→Nat→Bool)(p:Array Nat)(m:Nat):Prop:=∀i j,i<j→j<m→f (p.getD j 0) (p.getD i 0)=true
theorem kj(O:Ord f n){p:Array Nat}(r:Row n p):∀(fuel m:Nat),1≤m→m+fuel≤n→vi f p m →
  ∃m',run f (kas_desc fuel p m 0)=(p,m',0)∧m≤m'∧m'≤m+fuel∧vi f p m'
 |0,m,_,_,u=>⟨m,rfl,le_refl _,le_refl _,u⟩
 |fuel+1,m,h1,hm,u=>by
  cases e:f (p.getD m 0) (p.getD (m-1) 0)with
  |true =>
   have er:run f (kas_desc (fuel+1) p m 0)=run f (kas_desc fuel p (m+1) 0):=by
    show run f (if f (p.getD m 0) (p.getD (m-1) 0)=true then (if 0>0 then _ else kas_desc fuel p (m+1) 0)else _)=_
    rw[e,if_pos rfl,if_neg (by omega)]
   rw[er];obtain⟨m',a1,a2,a3,a4⟩:=kj O r fuel (m+1) (by omega) (by omega) (by
    intro i j hij hj
    by_cases ej:j=m
    ·subst ej
     by_cases e2:i=j-1
     ·rw[e2];exact e
     ·exact O.tr _ _ _ (r.lt (by omega)) (r.lt (i:=j-1) (by omega)) (r.lt (by omega)) e (u i (j-1) (by omega) (by omega))
    ·exact u i j hij (by omega))
   exact⟨m',a1,by omega,by omega,a4⟩
  |false =>
   have e2:f (p.getD (m-1) 0) (p.getD m 0)=true:=by
    rcases O.tot _ _ (r.lt (i:=m) (by omega)) (r.lt (i:=m-1) (by omega)) (r.ne (by omega) (by omega) (by omega))with z|z
    ·rw[e]at z;cases z
    ·exact z
   have er:run f (kas_desc (fuel+1) p m 0)=(p,m,0):=by
    show run f (if f (p.getD m 0) (p.getD (m-1) 0)=true then _ else KasT.ask (p.getD (m-1) 0) (p.getD m 0) λd=>if d=true then .ret (p,m,0)else kas_desc fuel p (m+1) (0+1))=_
    rw[e,if_neg (by simp)];show run f (if f (p.getD (m-1) 0) (p.getD m 0)=true then KasT.ret (p,m,0)else kas_desc fuel p (m+1) (0+1))=_
    rw[e2,if_pos rfl];rfl
   exact⟨m,er,le_refl _,by omega,u⟩
theorem nS{p:Array Nat}{m:Nat}(hm:m≤p.size)(k:Nat)(hk:k<m):(kas_rev p 0 m).getD k 0=p.getD (m-1-k) 0:=by
 unfold kas_rev;rw[getD_eq_getD_getElem?,getElem?_mirror_all hm k,if_pos ⟨by omega,hk⟩,getD_eq_getD_getElem?]
 congr 2
 omega
theorem vj{p:Array Nat}{m:Nat}(hm:m≤p.size)(d:vi f p m):Up f (kas_rev p 0 m) m:=by
 intro i j hij hj;rw[nS hm i (by omega),nS hm j hj];exact d _ _ (by omega) (by omega)
theorem ln(O:Ord f n){p:Array Nat}(r:Row n p)(h2:1≤n):∃m p',run f (kas_count n p)=(m,p')∧1≤m∧m≤n∧Row n p'∧Up f p' m:=by
 obtain⟨a1,a2,a3,a4⟩:=ki O r (n-1) 1 (by omega) (by omega) (by intro i j hij hj;omega);have er:run f (kas_count n p)=run f (if (run f (kas_asc p (n-1) 1)==n)=true then KasT.ret (run f (kas_asc p (n-1) 1),p)else if run f (kas_asc p (n-1) 1)>1 then .ask (p.getD 0 0) (p.getD (run f (kas_asc p (n-1) 1)-1) 0) λc=>if c=true then .ret (run f (kas_asc p (n-1) 1),p)else kas_descPart (run f (kas_asc p (n-1) 1)) n (kas_rev p 0 (run f (kas_asc p (n-1) 1)))
  else kas_descPart (run f (kas_asc p (n-1) 1)) n p):=by
  unfold kas_count;rw[eu]
 rw[er];generalize run f (kas_asc p (n-1) 1)=m at a1 a2 a3 a4⊢
 by_cases e:m=n
 ·rw[if_pos (by simp[e])];exact⟨m,p,rfl,a1,by omega,r,a3⟩
 ·rw[if_neg (by simpa using e)]
  by_cases e1:m>1
  ·rw[if_pos e1];refine⟨m,p,?_,a1,by omega,r,a3⟩;show run f (if f (p.getD 0 0) (p.getD (m-1) 0)=true then KasT.ret (m,p)else _)=_
   rw[a3 0 (m-1) (by omega) (by omega),if_pos rfl];rfl
  ·rw[if_neg e1];have em:m=1:=by omega
   subst em;have hd:=a4 (by omega);unfold kas_descPart;obtain⟨m',b1,b2,b3,b4⟩:=kj O r (n-(1+1)) (1+1) (by omega) (by omega) (by
    intro i j hij hj;have:i=0∧j=1:=by omega
    rw[this.1,this.2];exact hd)
   rw[eu,b1];dsimp only;rw[if_neg (by omega)];unfold kas_tail3;have hs:=r.size;have ur:=vj (f:=f) (by omega:m'≤p.size) b4;obtain⟨c1,c2,c3,c4⟩:=ki O (r.rev 0 m') (n-m') m' (by omega) (by omega) ur;rw[eu];exact⟨_,_,rfl,by omega,by omega,r.rev 0 m',c3⟩
theorem gO(O:Ord f n){p:Array Nat}(r:Row n p){k:Nat}(hk:k<n)(u:Up f p k):∀(fuel l r':Nat),r'-l≤fuel→l≤r'→r'≤k →
  (∀i,i<l→f (p.getD i 0) (p.getD k 0)=true)→(∀i,r'≤i→i<k→f (p.getD k 0) (p.getD i 0)=true) →
  run f (kas_place p k fuel l r')≤k∧(∀i,i<run f (kas_place p k fuel l r')→f (p.getD i 0) (p.getD k 0)=true)∧(∀i,run f (kas_place p k fuel l r')≤i→i<k→f (p.getD k 0) (p.getD i 0)=true)
 |0,l,r',h1,h2,h3,h4,h5=>by
  have:l=r':=by omega
  subst this;exact⟨h3,h4,h5⟩
 |fuel+1,l,r',h1,h2,h3,h4,h5=>by
  unfold kas_place
  by_cases e:l≥r'
  ·rw[if_pos e];have:l=r':=by omega
   subst this;exact⟨h3,h4,h5⟩
  ·rw[if_neg e];have hmid:(l+r') / 2<k:=by omega
   cases c:f (p.getD k 0) (p.getD ((l+r') / 2) 0)with
   |true =>
    have er:run f (KasT.ask (p.getD k 0) (p.getD ((l+r') / 2) 0) λc=>if c=true then kas_place p k fuel l ((l+r') / 2)else kas_place p k fuel ((l+r') / 2+1) r')=run f (kas_place p k fuel l ((l+r') / 2)):=by
     show run f (if f (p.getD k 0) (p.getD ((l+r') / 2) 0)=true then _ else _)=_
     rw[c,if_pos rfl]
    rw[er];refine gO O r hk u fuel l _ (by omega) (by omega) (by omega) h4 (λi hi hik=>?_)
    by_cases ei:i=(l+r') / 2
    ·rw[ei];exact c
    ·exact O.tr _ _ _ (r.lt hk) (r.lt (i:=(l+r') / 2) (by omega)) (r.lt (by omega)) c (u _ _ (by omega) hik)
   |false =>
    have er:run f (KasT.ask (p.getD k 0) (p.getD ((l+r') / 2) 0) λc=>if c=true then kas_place p k fuel l ((l+r') / 2)else kas_place p k fuel ((l+r') / 2+1) r')=run f (kas_place p k fuel ((l+r') / 2+1) r'):=by
     show run f (if f (p.getD k 0) (p.getD ((l+r') / 2) 0)=true then _ else _)=_
     rw[c,if_neg (by simp)]
    rw[er];have c':f (p.getD ((l+r') / 2) 0) (p.getD k 0)=true:=by
     rcases O.tot _ _ (r.lt (i:=k) hk) (r.lt (i:=(l+r') / 2) (by omega)) (r.ne hk (by omega) (by omega))with z|z
     ·rw[c]at z;cases z
     ·exact z
    refine gO O r hk u fuel _ r' (by omega) (by omega) h3 (λi hi=>?_) h5
    by_cases ei:i=(l+r') / 2
    ·rw[ei];exact c'
    ·exact O.tr _ _ _ (r.lt (by omega)) (r.lt (i:=(l+r') / 2) (by omega)) (r.lt hk) (u i _ (by omega) (by omega)) c'
theorem iD{p:Array Nat}{k l:Nat}(hk:k<p.size)(hl:l≤k)(i:Nat):(bubble p k (k-l)).getD i 0=if i=l then p.getD k 0 else if l<i∧i≤k then p.getD (i-1) 0 else p.getD i 0:=by
 simp only[getD_eq_getD_getElem?];rw[getElem?_bubble hk (k-l) (by omega) i];have e:k-(k-l)=l:=by omega
 rw[e]
 by_cases h1:i=l
 ·rw[if_pos h1,if_pos h1]
 ·rw[if_neg h1,if_neg h1]
  by_cases h2:l<i∧i≤k
  ·rw[if_pos h2,if_pos h2]
  ·rw[if_neg h2,if_neg h2]
theorem ql(O:Ord f n):∀(fuel:Nat)(p:Array Nat)(k:Nat),Row n p→k+fuel=n→Up f p k→Row n (run f (kas_bin fuel p k))∧Up f (run f (kas_bin fuel p k)) n
 |0,p,k,r,hk,u=>by
  have:k=n:=by omega
  subst this;exact⟨r,u⟩
 |fuel+1,p,k,r,hk,u=>by
  have hkn:k<n:=by omega
  obtain⟨a1,a2,a3⟩:=gO O r hkn u k 0 k (by omega) (by omega) (le_refl _) (λi hi=>by omega) (λi h1 h2=>by omega);have er:run f (kas_bin (fuel+1) p k)=run f (kas_bin fuel (bubble p k (k-run f (kas_place p k k 0 k))) (k+1)):=by
   show run f ((kas_place p k k 0 k).bind λl=>kas_bin fuel (bubble p k (k-l)) (k+1))=_;rw[eu]
  rw[er];generalize run f (kas_place p k k 0 k)=l at a1 a2 a3⊢;have hs:=r.size;refine ql O fuel _ (k+1) (r.bub _ _) (by omega) ?_;intro i j hij hj;rw[iD (by omega) a1 i,iD (by omega) a1 j]
  by_cases ei:i=l
  ·rw[if_pos ei,if_neg (by omega),if_pos ⟨by omega,by omega⟩];exact a3 (j-1) (by omega) (by omega)
  ·rw[if_neg ei]
   by_cases ej:j=l
   ·rw[if_pos ej,if_neg (by omega)];exact a2 i (by omega)
   ·rw[if_neg ej]
    by_cases hi2:l<i∧i≤k
    ·rw[if_pos hi2,if_pos ⟨by omega,by omega⟩];exact u _ _ (by omega) (by omega)
    ·rw[if_neg hi2]
     by_cases hj2:l<j∧j≤k
     ·rw[if_pos hj2]
      by_cases e3:i=j-1
      ·omega
      ·exact u i (j-1) (by omega) (by omega)
     ·rw[if_neg hj2];exact u i j hij (by omega)
theorem iT{p:Array Nat}(r:Row n p):∀(fuel m:Nat),1≤m→m+fuel≤n→gM f n (kas_asc p fuel m)
 |0,m,_,_=>trivial
 |fuel+1,m,h1,hm=>by
  refine⟨r.lt (by omega),r.lt (by omega),?_⟩;show gM f n (if f (p.getD m 0) (p.getD (m-1) 0)=true then KasT.ret m else kas_asc p fuel (m+1))
  split
  ·exact trivial
  ·exact iT r fuel (m+1) (by omega) (by omega)
theorem jF(O:Ord f n){p:Array Nat}(r:Row n p):∀(fuel m:Nat),1≤m→m+fuel≤n→gM f n (kas_desc fuel p m 0)
 |0,m,_,_=>trivial
 |fuel+1,m,h1,hm=>by
  refine⟨r.lt (by omega),r.lt (by omega),?_⟩;show gM f n (if f (p.getD m 0) (p.getD (m-1) 0)=true then (if 0>0 then _ else kas_desc fuel p (m+1) 0)else KasT.ask (p.getD (m-1) 0) (p.getD m 0) λd=>if d=true then .ret (p,m,0)else kas_desc fuel p (m+1) (0+1))
  cases e:f (p.getD m 0) (p.getD (m-1) 0)with
  |true =>
   rw[if_pos rfl,if_neg (by omega)];exact jF O r fuel (m+1) (by omega) (by omega)
  |false =>
   rw[if_neg (by simp)];have e2:f (p.getD (m-1) 0) (p.getD m 0)=true:=by
    rcases O.tot _ _ (r.lt (i:=m) (by omega)) (r.lt (i:=m-1) (by omega)) (r.ne (by omega) (by omega) (by omega))with z|z
    ·rw[e]at z;cases z
    ·exact z
   refine⟨r.lt (by omega),r.lt (by omega),?_⟩;dsimp only;rw[e2,if_pos rfl];exact trivial
theorem mJ(O:Ord f n){p:Array Nat}(r:Row n p)(h2:1≤n):gM f n (kas_count n p):=by
 obtain⟨a1,a2,a3,a4⟩:=ki O r (n-1) 1 (by omega) (by omega) (by intro i j hij hj;omega);unfold kas_count;refine dj (iT r _ _ (by omega) (by omega)) ?_;generalize run f (kas_asc p (n-1) 1)=m at a1 a2 a3 a4⊢
 by_cases e:m=n
 ·rw[if_pos (by simp[e])];exact trivial
 ·rw[if_neg (by simpa using e)]
  by_cases e1:m>1
  ·rw[if_pos e1];refine⟨r.lt (by omega),r.lt (by omega),?_⟩;dsimp only;rw[a3 0 (m-1) (by omega) (by omega),if_pos rfl];exact trivial
  ·rw[if_neg e1];have em:m=1:=by omega
   subst em;have hd:=a4 (by omega);unfold kas_descPart;refine dj (jF O r _ _ (by omega) (by omega)) ?_;obtain⟨m',b1,b2,b3,b4⟩:=kj O r (n-(1+1)) (1+1) (by omega) (by omega) (by
    intro i j hij hj;have:i=0∧j=1:=by omega
    rw[this.1,this.2];exact hd)
   rw[b1];dsimp only;rw[if_neg (by omega)];unfold kas_tail3;exact dj (iT (r.rev 0 m') _ _ (by omega) (by omega)) trivial
theorem fZ{p:Array Nat}(r:Row n p){k:Nat}(hk:k<n):∀(fuel l r':Nat),r'≤k→gM f n (kas_place p k fuel l r')
 |0,l,r',_=>trivial
 |fuel+1,l,r',h=>by
  unfold kas_place
  by_cases e:l≥r'
  ·rw[if_pos e];exact trivial
  ·rw[if_neg e];refine⟨r.lt hk,r.lt (by omega),?_⟩;dsimp only
   split
   ·exact fZ r hk fuel _ _ (by omega)
   ·exact fZ r hk fuel _ _ h
theorem lp(O:Ord f n):∀(fuel:Nat)(p:Array Nat)(k:Nat),Row n p→k+fuel=n→Up f p k→gM f n (kas_bin fuel p k)
 |0,p,k,r,hk,u=>trivial
 |fuel+1,p,k,r,hk,u=>by
  have hkn:k<n:=by omega
  show gM f n ((kas_place p k k 0 k).bind λl=>kas_bin fuel (bubble p k (k-l)) (k+1));refine dj (fZ r hkn _ _ _ (le_refl _)) ?_;obtain⟨a1,a2,a3⟩:=gO O r hkn u k 0 k (by omega) (by omega) (le_refl _) (λi hi=>by omega) (λi h1 h2=>by omega);generalize run f (kas_place p k k 0 k)=l at a1 a2 a3⊢;have hs:=r.size;refine lp O fuel _ (k+1) (r.bub _ _) (by omega) ?_;intro i j hij hj;rw[iD (by omega) a1 i,iD (by omega) a1 j]
  by_cases ei:i=l
  ·rw[if_pos ei,if_neg (by omega),if_pos ⟨by omega,by omega⟩];exact a3 (j-1) (by omega) (by omega)
  ·rw[if_neg ei]
   by_cases ej:j=l
   ·rw[if_pos ej,if_neg (by omega)];exact a2 i (by omega)
   ·rw[if_neg ej]
    by_cases hi2:l<i∧i≤k
    ·rw[if_pos hi2,if_pos ⟨by omega,by omega⟩];exact u _ _ (by omega) (by omega)
    ·rw[if_neg hi2]
     by_cases hj2:l<j∧j≤k
     ·rw[if_pos hj2]
      by_cases e3:i=j-1
      ·omega
      ·exact u i (j-1) (by omega) (by omega)
     ·rw[if_neg hj2];exact u i j hij (by omega)
theorem pq(O:Ord f n)(h:1≤n):gM f n (kas_sort n):=by
 have r0:Row n (toArray (List.range n)):=⟨by simp⟩;obtain⟨m,p',e,h1,h2,r,u⟩:=ln O r0 h;unfold kas_sort;refine dj (mJ O r0 h) ?_;rw[e];dsimp only
 by_cases hm:m<n
 ·rw[if_pos hm];have:max m 1=m:=by omega
  rw[this];exact lp O (n-m) p' m r (by omega) u
 ·rw[if_neg hm];exact trivial
theorem sx(O:Ord f n)(h:1≤n):Row n (run f (kas_sort n))∧Up f (run f (kas_sort n)) n:=by
 have r0:Row n (toArray (List.range n)):=⟨by simp⟩;obtain⟨m,p',e,h1,h2,r,u⟩:=ln O r0 h;unfold kas_sort;rw[eu,e];dsimp only
 by_cases hm:m<n
 ·rw[if_pos hm];have:max m 1=m:=by omega
  rw[this];exact ql O (n-m) p' m r (by omega) u
 ·rw[if_neg hm];have:m=n:=by omega
  subst this;exact⟨r,u⟩
end
section
variable{prog:Program}{w:World}{A:Around}{E:Value→Shared→Prop}{s:Shared}
theorem sy{vs:List Value}(h:vs.length<2):((vs.toArray.zip vs.toArray).map (·.2)).toList=(toArray ((toArray (List.range vs.length)).toList.map λi=>vs.getD i Value.none)).toList:=by
 cases vs with
 |nil=>simp
 |cons v r =>
  cases r with
  |nil=>simp
  |cons u r=>exact absurd h (by simp)
theorem kl{f:Nat→Nat→Bool}{a:Addr}{vs:List Value}{n:Nat}{κ:SortKind}{P:PySem.Fin→Shared→Prop}(O:Ord f vs.length)(ho:s.heap.get? a=some (seqObj "list" vs.toArray n))(h64:vs.length<64)(hk:∀s':Shared,(∀b o,b≠a→s.heap.get? b=some o→s'.heap.get? b=some o)→∀Q:SortKind→Shared→Prop,2≤vs.length→Q κ s'→wpAny (model prog w) A (keyKind' vs.toArray) Q (λ_ _=>False) s')(hlt:∀s':Shared,(∀b o,b≠a→s.heap.get? b=some o→s'.heap.get? b=some o)→∀(i j:Nat) (C:Bool→Shared→Prop),i<vs.length→j<vs.length→C (f i j) s'→wpAny (model prog w) A (keyLt' κ (vs.getD i Value.none) (vs.getD j Value.none)) C (λ_ _=>False) s')(h:∀p:Array Nat,Row vs.length p→Up f p vs.length→P (.done (.ret .none)) {s with heap:=sortedHeap s.heap a vs (toArray (p.toList.map λi=>vs.getD i Value.none))}):
  wpAny (model prog w) A (Builtin.«list.sort» ⟨[.ref a],[]⟩) P E s:=by
 have ha:a<s.heap.objs.size:=lt_size ho;have s1:=SameBut.update s.heap a (Obj.mapSeq λ_=>(#[]:Array Value));obtain⟨e1,ho1⟩:∃e1,(s.heap.update a (Obj.mapSeq λ_=>(#[]:Array Value))).get? a=some (seqObj "list" #[] e1):=⟨_,get?_update_seq ho λ_=>#[]⟩;rw[list_sort_plain];refine wpAny_bind (listItems_at ho rfl ?_);refine wpAny_bind (listUpdate_at ho rfl ?_ (by rw[size_toArray,sizeLine_eq];omega) (zero_le _));refine wpAny_bind (seqEpoch_at ho1 rfl ?_);refine wpAny_bind (wpAny_newTuple ?_ (by show vs.length≤_;rw[sizeLine_eq];omega));refine wpAny_bind (wpAny_newList ?_ (zero_le _));refine wpAny_holding ?_;have ho6:(((s.heap.update a (Obj.mapSeq λ_=>(#[]:Array Value))).push (seqObj "tuple" vs.toArray 0)).push (seqObj "list" #[] 0)).get? a=some (seqObj "list" #[] e1):=get?_push_of_some _ (get?_push_of_some _ ho1);have keep:∀b o,b≠a→s.heap.get? b=some o→(((s.heap.update a (Obj.mapSeq λ_=>(#[]:Array Value))).push (seqObj "tuple" vs.toArray 0)).push (seqObj "list" #[] 0)).get? b=some o:=λb o hb e =>
  get?_push_of_some _ (get?_push_of_some _ ((s1.2 b hb).trans e))
 show wpAny (model prog w) A _ P E {s with heap:=((s.heap.update a (Obj.mapSeq λ_=>(#[]:Array Value))).push (seqObj "tuple" vs.toArray 0)).push (seqObj "list" #[] 0)}
 dsimp only
 by_cases hn2:vs.toArray.size<2
 ·rw[if_pos hn2,if_pos hn2];refine wpAny_bind (wpAny_pure ?_);rw[StateT.run_pure];refine wpAny_bind (wpAny_pure ?_);dsimp only;have hn2':vs.length<2:=by simpa using hn2
  have hr:Row vs.length (toArray (List.range vs.length)):=⟨by simp⟩;have hu:Up f (toArray (List.range vs.length)) vs.length:=λi j hij hj=>by omega
  have e2:(arrOf (SortSt.mk' general' (vs.toArray.zip vs.toArray) #[] 7 none)).map (·.2)=toArray ((toArray (List.range vs.length)).toList.map λi=>vs.getD i Value.none):=by
   show(vs.toArray.zip vs.toArray).map (·.2)=_;apply Array.toList_inj.mp;exact sy hn2'
  refine wpAny_bind (seqEpoch_at ho6 rfl ?_);rw[e2];refine wpAny_bind (listUpdate_at ho6 rfl ?_ (zero_le _) (by rw[size_toArray,length_map,length_toList,hr.size,sizeLine_eq];omega));show wpAny _ _ (if (e1 != e1)=true then _ else _) _ _ _
  simp only[bne_self_eq_false,false_eq_true,if_false];exact wpAny_pure (h _ hr hu)
 ·have hn2':2≤vs.length:=by rw[size_toArray]at hn2;omega
  rw[if_neg hn2,if_neg hn2];refine wpAny_bind (wpAny_mono (hk {s with heap:=((s.heap.update a (Obj.mapSeq λ_=>(#[]:Array Value))).push (seqObj "tuple" vs.toArray 0)).push (seqObj "list" #[] 0)} keep (λk' s'=>k'=κ∧s'={s with heap:=((s.heap.update a (Obj.mapSeq λ_=>(#[]:Array Value))).push (seqObj "tuple" vs.toArray 0)).push (seqObj "list" #[] 0)}) hn2' ⟨rfl,rfl⟩) (λκ' s0 hes=>?_) λ_ _ x=>x.elim)
  obtain⟨ek,es⟩:=hes;subst ek es;obtain⟨hrow,hup⟩:=sx O (by omega:1≤vs.length);refine wpAny_bind (wpAny_mono (kat_run (Q:=λst' s'=>∃p:Array Nat,p.size=vs.length∧arrOf st'=p.map (kas_item (vs.toArray.zip vs.toArray))∧failedOf st'=none∧p=run f (kas_sort vs.length)∧s'={s with heap:=((s.heap.update a (Obj.mapSeq λ_=>(#[]:Array Value))).push (seqObj "tuple" vs.toArray 0)).push (seqObj "list" #[] 0)})
   rfl hn2' h64 (λp' st' s' a1 a2 a3 a4=>⟨p',a1,a2,a3,a4⟩) (nR (n:=vs.length) (λi j C hi hj hC=>hlt _ keep i j C hi hj hC) (λp s'=>p=run f (kas_sort vs.length)∧s'={s with heap:=((s.heap.update a (Obj.mapSeq λ_=>(#[]:Array Value))).push (seqObj "tuple" vs.toArray 0)).push (seqObj "list" #[] 0)}) _ (pq O (by omega)) ⟨rfl,rfl⟩)) ?_ λ_ _ e=>e)
  rintro⟨⟨⟩,st'⟩ s' ⟨p,hp,har,hf,ep,es⟩;subst es;dsimp only;have hout:=kat_snds (ks:=vs) rfl har;refine wpAny_bind (seqEpoch_at ho6 rfl ?_);rw[hout];refine wpAny_bind (listUpdate_at ho6 rfl ?_ (zero_le _) (by rw[size_toArray,length_map,length_toList,hp,sizeLine_eq];omega));rw[hf];simp only[bne_self_eq_false,false_eq_true,if_false];rw[ep];exact wpAny_pure (h _ hrow hup)
theorem lr{l:Addr}{vs:List Value}{Q:List Value→Shared→Prop}(hl:IsTup s.heap l vs.toArray)(h:Q vs {s with heap:=(s.heap.push (seqObj "list" #[] 0)).update s.heap.objs.size (Obj.mapSeq (· ++ vs.toArray))})(hsz:vs.length≤sizeLine):
  wpAny (model prog w) A (collect (.ref l)) Q E s:=by
 obtain⟨o,ho,hc,n,hd⟩:=id hl;unfold collect;refine wpAny_bind (wpAny_runValue (codeAny_builtin entry_proto_collect' ?_));show wpAny _ _ (do again (.builtin "list.__iadd__" ⟨[←newList [],.ref l],[]⟩)) _ _ s
 refine wpAny_bind (wpAny_newList (wpAny_pure ⟨Code.quiet_builtin _ (by decide +kernel),codeAny_builtin entry_list_iadd' ?_⟩));show wpAny _ _ (Builtin.List.listExtendWith (.ref s.heap.objs.size) (.ref l) (.ref s.heap.objs.size)) _ _ {s with heap:=s.heap.push (seqObj "list" #[] 0)}
 unfold Builtin.List.listExtendWith;have ho':(s.heap.push (seqObj "list" #[] 0)).get? l=some o:=get?_push_of_some _ ho;refine wpAny_bind (wpAny_typeOf (T:="tuple") ⟨o,ho',hc⟩ ?_);have ht:(type "tuple"==type "tuple")=true:=by rfl
 rw[if_pos (by rw[ht];simp)];refine wpAny_bind (listItems_at ho' hd ?_);refine wpAny_bind (listItems_at (xs:=#[]) (n:=0) (get?_push_size _ rfl) rfl ?_);rw[if_neg (by simp)];refine wpAny_bind (listUpdate_at (xs:=#[]) (n:=0) (get?_push_size _ rfl) rfl ?_ (zero_le _) (by show(#[]++vs.toArray).size≤sizeLine+1;simp only[Array.size_append,size_toArray,length_nil];omega));refine wpAny_pure ?_;show wpAny (model prog w) A (do
   let o ← load s.heap.objs.size
   match o.data with
   |.seq xs _=>pure xs.toList
   | _=>unsupported "internal:collect") Q E {s with heap:=(s.heap.push (seqObj "list" #[] 0)).update s.heap.objs.size (Obj.mapSeq (· ++ vs.toArray))}
 refine wpAny_bind (wpAny_load (get?_update_seq (get?_push_size _ rfl) _) ?_);show wpAny _ _ (pure ((#[]:Array Value)++vs.toArray).toList) Q E _;rw[show((#[]:Array Value)++vs.toArray).toList=vs by simp];exact wpAny_pure h
theorem lu{l:Addr}{vs:List Value}{Q:List Value→Shared→Prop}(hl:s.heap.IsList l vs.toArray∨IsTup s.heap l vs.toArray)(h:Q vs {s with heap:=(s.heap.push (seqObj "list" #[] 0)).update s.heap.objs.size (Obj.mapSeq (· ++ vs.toArray))})(hsz:vs.length≤sizeLine):
  wpAny (model prog w) A (collect (.ref l)) Q E s:=by
 rcases hl with hl|hl
 ·exact collect_list hl h hsz
 ·exact lr hl h hsz
theorem iU{f:Nat→Nat→Bool}{l:Addr}{vs:List Value}{κ:SortKind}{Q:Value→Shared→Prop}(O:Ord f vs.length)(hl:s.heap.IsList l vs.toArray∨IsTup s.heap l vs.toArray)(h64:vs.length<64)(hk:∀(A':Around) (s':Shared),A'.units≤A.units+2→(∀b o,s.heap.get? b=some o→s'.heap.get? b=some o)→∀Q:SortKind→Shared→Prop,2≤vs.length→Q κ s'→wpAny (model prog w) A' (keyKind' vs.toArray) Q (λ_ _=>False) s')(hlt:∀(A':Around) (s':Shared),A'.units≤A.units+2→(∀b o,s.heap.get? b=some o→s'.heap.get? b=some o)→∀(i j:Nat) (C:Bool→Shared→Prop),i<vs.length→j<vs.length→C (f i j) s'→wpAny (model prog w) A' (keyLt' κ (vs.getD i Value.none) (vs.getD j Value.none)) C (λ_ _=>False) s')(h:∀(p:Array Nat) (h':Heap),Row vs.length p→Up f p vs.length→(∀b o,s.heap.get? b=some o→h'.get? b=some o)→s.heap.objs.size≤s.heap.objs.size+1→(∃k,h'.get? (s.heap.objs.size+1)=some (seqObj "list" (toArray (p.toList.map λi=>vs.getD i Value.none)) k))→Q (.ref (s.heap.objs.size+1)) {s with heap:=h'}):
  wpAny (model prog w) A (call (.builtin "sorted") [.ref l]) Q E s:=by
 refine Calls.call_function_entry kind_sorted plain_sorted entry_sorted (args_sorted1 _) ?_;unfold Builtin.«sorted»;refine wpAny_bind (m:=checkCount "sorted" 1 1 _) (wpAny_pure ?_);refine wpAny_bind (lu hl ?_ (by rw[sizeLine_eq];omega));refine wpAny_bind (wpAny_newList ?_ (by rw[sizeLine_eq];omega));have hsz:((s.heap.push (seqObj "list" #[] 0)).update s.heap.objs.size (Obj.mapSeq (· ++ vs.toArray))).objs.size=s.heap.objs.size+1:=by
  rw[Heap.size_update,size_push']
 have hoL:(((s.heap.push (seqObj "list" #[] 0)).update s.heap.objs.size (Obj.mapSeq (· ++ vs.toArray))).push (seqObj "list" vs.toArray 0)).get? (s.heap.objs.size+1)=some (seqObj "list" vs.toArray 0):=by
  rw[←hsz];exact get?_push_size _ rfl
 have keep:∀b o,s.heap.get? b=some o→(((s.heap.push (seqObj "list" #[] 0)).update s.heap.objs.size (Obj.mapSeq (· ++ vs.toArray))).push (seqObj "list" vs.toArray 0)).get? b=some o:=λb o q=>by
  have hlt:b<s.heap.objs.size:=lt_size q;rw[Heap.get?_push_ne _ _ _ (by rw[hsz];exact ne_of_lt (lt_succ_of_lt hlt)),Heap.get?_update_ne _ _ _ _ (ne_of_lt hlt),Heap.get?_push_ne _ _ _ (ne_of_lt hlt)];exact q
 have neD:∀b o,s.heap.get? b=some o→b≠s.heap.objs.size+1:=λb o q=>ne_of_lt (lt_succ_of_lt (lt_size q));show wpAny _ _ _ _ _ {s with heap:=((s.heap.push (seqObj "list" #[] 0)).update s.heap.objs.size (Obj.mapSeq (· ++ vs.toArray))).push (seqObj "list" vs.toArray 0)}
 rw[hsz];refine wpAny_bind (wpAny_holding (wpAny_call_entry slot_list_sort ⟨_,hoL,rfl⟩ entry_list_sort (kl (κ:=κ) (s:={s with heap:=((s.heap.push (seqObj "list" #[] 0)).update s.heap.objs.size (Obj.mapSeq (· ++ vs.toArray))).push (seqObj "list" vs.toArray 0)}) O hoL h64 ?_ ?_ λp hr hu=>⟨_,rfl,?_⟩) (args_list_sort _)))
 ·intro s' hs' Q' h2 hq;exact hk _ s' (by simp[Around.in1_units]) (λb o e=>hs' b o (neD b o e) (keep b o e)) Q' h2 hq
 ·intro s' hs' i j C hi hj hC;exact hlt _ s' (by simp[Around.in1_units]) (λb o e=>hs' b o (neD b o e) (keep b o e)) i j C hi hj hC
 ·refine wpAny_pure ⟨_,rfl,h p _ hr hu (λb o e=>?_) (le_succ _) ?_⟩
  ·unfold sortedHeap;rw[Heap.get?_update_ne _ _ _ _ (neD b o e)];refine get?_push_of_some _ (get?_push_of_some _ ?_);rw[Heap.get?_update_ne _ _ _ _ (neD b o e)];exact keep b o e
  ·unfold sortedHeap;obtain⟨e1,ho1⟩:∃e1,((((s.heap.push (seqObj "list" #[] 0)).update s.heap.objs.size (Obj.mapSeq (· ++ vs.toArray))).push (seqObj "list" vs.toArray 0)).update (s.heap.objs.size+1) (Obj.mapSeq λ_=>(#[]:Array Value))).get? (s.heap.objs.size+1)=some (seqObj "list" #[] e1):=⟨_,get?_update_seq hoL λ_=>#[]⟩;exact⟨_,get?_update_seq (get?_push_of_some _ (get?_push_of_some _ ho1)) _⟩
theorem pr{f:Nat→Nat→Bool}{l:Addr}{vs:List Value}{κ:SortKind}{Q:Value→Shared→Prop}(O:Ord f vs.length)(hl:s.heap.IsList l vs.toArray)(h64:vs.length<64)(hk:∀(A':Around) (s':Shared),A'.units≤A.units+2→(∀b o,s.heap.get? b=some o→s'.heap.get? b=some o)→∀Q:SortKind→Shared→Prop,2≤vs.length→Q κ s'→wpAny (model prog w) A' (keyKind' vs.toArray) Q (λ_ _=>False) s')(hlt:∀(A':Around) (s':Shared),A'.units≤A.units+2→(∀b o,s.heap.get? b=some o→s'.heap.get? b=some o)→∀(i j:Nat) (C:Bool→Shared→Prop),i<vs.length→j<vs.length→C (f i j) s'→wpAny (model prog w) A' (keyLt' κ (vs.getD i Value.none) (vs.getD j Value.none)) C (λ_ _=>False) s')(h:∀(p:Array Nat) (h':Heap),Row vs.length p→Up f p vs.length→(∀b o,s.heap.get? b=some o→h'.get? b=some o)→s.heap.objs.size≤s.heap.objs.size+1→(∃k,h'.get? (s.heap.objs.size+1)=some (seqObj "list" (toArray (p.toList.map λi=>vs.getD i Value.none)) k))→Q (.ref (s.heap.objs.size+1)) {s with heap:=h'}):
  wpAny (model prog w) A (call (.builtin "sorted") [.ref l]) Q E s:=iU O (.inl hl) h64 hk hlt h
end
end SRT
namespace L2
open PySem PySem.Spec PyProof.Rows
section
variable{X:Cx}{tg:Expr}
theorem lv:du X (.builtin "isinstance") (λxs H Q=>∃x n t b,xs=[x,.ty n]∧TyOf X.K H x t∧kitOne X.K t (.type n)=some b∧Q (.bl b) H):=by
 intro pins s σ H xs us Q I r h;obtain⟨x,n,t,b,rfl,ty,e,q⟩:=h;obtain⟨u,u',rfl,ru,ru'⟩:=tZ r;cases (show u'=type n from ru');exact oW I ru ty e λtk=>⟨.bl b,H,I.tok tk,rfl,q⟩
theorem sA{pins:List (Addr×Obj)}{σ:St}{H:Hp}{s:Shared}{a:Addr}{ks:List Key}(I:Inv X pins σ H s)(h:H a=some (.tup (ks.map kV)))(P:Program)(w:World):IsTupleKey (bb P w) s.heap ks a:=by
 obtain⟨_,its,r,o,e,c,n,d⟩:=I.hok a _ h;exact⟨o,its.toArray,n,e,c,d,by simpa using hZ r⟩
theorem dk:∀{as:List Addr}{us:List Value},aN (as.map V.ref) us→us=as.map Value.ref
 |[],_,.nil=>rfl
 |b::bs,_,.cons r t=>by
  have e:_=Value.ref b:=r;rw[e,dk t];rfl
theorem jo(hu:X.A.units+1<cLine):OpR X (compareOp .NotIn) (λx y H Q=>∃a p ks,∃kss:List (Addr×List Key),x=.ref a∧H a=some (.tup (ks.map kV))∧y=.ref p∧SqL X.K H p ((kss.map (·.1)).map V.ref) ∧
  (∀z∈kss,H z.1=some (.tup (z.2.map kV)))∧Q (.bl (!(kss.any λz=>decide (z.2=ks)))) H):=by
 intro pins s σ H x y v u Q I rx ry h;obtain⟨a,p,ks,kss,rfl,ha,rfl,hq,hk,q⟩:=h;cases rx;cases ry;obtain⟨its,rv,pl,hz⟩:=I.list hq;have e:=dk rv;subst e
 let e:Value→Bool:=λv=>match v with | .ref b=>((kss.find? λz=>z.1==b).map λz=>decide (z.2=ks)).getD false | _=>false
 have he:∀z∈kss,e (.ref z.1)=decide (z.2=ks):=λz hz'=>by
  show((kss.find? λy=>y.1==z.1).map λz=>decide (z.2=ks)).getD false=_;cases ef:kss.find? λy=>y.1==z.1 with
  |none=>have:=find?_eq_none.mp ef z hz';simp at this
  |some y =>
   have h1:=find?_some ef;have h2:=List.mem_of_find?_eq_some ef;have e1:y.1=z.1:=by simpa using h1
   have e2:=hk y h2;rw[e1,hk z hz']at e2;have e3:z.2.map kV=y.2.map kV:=by injection (Option.some.inj e2)
   rw[kg e3];rfl
 refine SeqAt.notIn_listAt e pl.isList (λy hy=>?_) ⟨.bl _,H,I,rfl,?_⟩
 ·have hy':y∈(kss.map (·.1)).map Value.ref:=by simpa using hy
  obtain⟨b,hb,rfl⟩:=mem_map.mp hy';obtain⟨z,hz',rfl⟩:=mem_map.mp hb;rw[he z hz'];intro prog w E' Q' hQ;exact wpAny_eqBool_tuple (knd:=bb prog w) (by simp;exact hu) (sA I (hk z hz') prog w) (sA I ha prog w) hQ
 ·have e1:(((kss.map (·.1)).map Value.ref).toArray.any e)=kss.any λz=>decide (z.2=ks):=by
   rw[List.any_toArray,any_map,any_map];apply Bool.eq_iff_iff.mpr;rw[any_eq_true,any_eq_true];constructor
   ·rintro⟨z,hz',h1⟩;exact⟨z,hz',by rw[←he z hz'];exact h1⟩
   ·rintro⟨z,hz',h1⟩;exact⟨z,hz',by show e (.ref z.1)=true;rw[he z hz'];exact h1⟩
  rw[e1];exact q
def sB:V→List V→Hp→VK→Prop:=λx vs H Q=>∃d kvs k y,x=.ref d∧vs=[kV k,y]∧H d=some (.dK kvs)∧kvs.length<sizeLine∧(∀v,bi kvs k=some v→Q v H)∧(bi kvs k=none→Q y (upd H d (.dK (cg kvs k y))))
theorem jp:MtM X "dict.setdefault" sB:=by
 intro pins s σ H x vs v us Q I rx rv h;obtain⟨d,kvs,k,y,rfl,rfl,hd,hz,q1,q2⟩:=h;cases rx;obtain⟨u,u',rfl,ru,ru'⟩:=rv.two;obtain⟨z,hs,ws,rel,dd⟩:=nP I.hok hd;have hzw:ws.length≤sizeLine:=by rw[←rel.length];exact z
 refine call_meetsIn F.slot_dict_setdefault dd.typeIs F.entry_dict_setdefault (F.args_dict_setdefault_3 _ _ _) (kt_meets_setdefault (bb X.prog X.w) d (fJ ru) hs u') ⟨ws,dd,hzw,λw' hw=>?_,λhw h' dd' sb=>?_⟩
 ·have:=rel.val k;rw[hw]at this;cases e:bi kvs k with
  |none=>rw[e]at this;cases this
  |some v =>
   rw[e]at this;exact⟨v,H,I.tok _,this,q1 v e⟩
 ·have:=rel.val k;rw[hw]at this;cases e:bi kvs k with
  |some v=>rw[e]at this;cases this
  |none =>
   have he:∃q,h'.get? d=some q:=let⟨q,_,_,hq,_⟩:=dd';⟨q,hq⟩;have hl:(cg kvs k y).length≤sizeLine:=by have:=dP kvs k y;omega
   exact⟨y,_,iC I (by rw[hd];exact True.intro) sb he (iQ hl hs (rel.put k ru') dd'),ru',q2 e⟩
theorem pw:du X (.type "range") (λxs H Q=>∃i j,xs=[.int i,.int j]∧∀p,H p=none→Q (.ref p) (upd H p (.rng i j))):=by
 intro pins s σ H xs us Q I r h;obtain⟨i,j,rfl,q⟩:=h;obtain⟨u,u',rfl,⟨t,rfl⟩,⟨t',rfl⟩⟩:=tZ r;refine call_range_2 ⟨.ref s.heap.objs.size,_,I.laid (t':=s.toks+1) (o:=.rng i j) (λb ob q=>get?_push_of_some _ q) (le_refl _) ?_,rfl,q _ (I.hok.fresh (le_refl _))⟩;exact⟨t,t',_,get?_push_size _ rfl⟩
theorem mQ{lo:Int}{n:Nat}{acc:Array Value}(h:ItemsOf (λi v=>∃t,v=.int (lo+i*1) t) acc n):aN ((List.range n).map λk=>V.int (lo+(k:Nat))) acc.toList:=by
 obtain⟨h1,h2⟩:=h;have key:∀(l:List Value)(k:Nat),(∀(i:Nat)(v:Value),l[i]?=some v→∃t,v=Value.int (lo+(k+i:Nat)) t)→aN ((List.range' k l.length).map λk=>V.int (lo+(k:Nat))) l:=by
  intro l
  induction l with
  |nil=>intro k _;exact .nil
  |cons v l ih =>
   intro k hv;rw[length_cons,List.range'_succ,map_cons];refine .cons ?_ (ih (k+1) λi w hw=>?_)
   ·obtain⟨t,e⟩:=hv 0 v rfl;exact⟨t,e⟩
   ·obtain⟨t,e⟩:=hv (i+1) w hw;exact⟨t,by rw[e,show k+(i+1)=k+1+i by omega]⟩
 have hl:acc.toList.length=n:=by simpa using h1
 have:=key acc.toList 0 λi v hv=>by
  have hv':acc[i]?=some v:=by simpa using hv
  obtain⟨t,e⟩:=h2 i v hv';exact⟨t,by rw[e,Int.mul_one,Nat.zero_add]⟩
 rw[hl]at this;rw[List.range_eq_range'];exact this
theorem jq(hc:X.calm=true):du X (.type "list") (λxs H Q=>∃p i j,xs=[.ref p]∧H p=some (.rng i j)∧(-(2 ^ 62)≤i∧i<2 ^ 62∧-(2 ^ 62)≤j∧j<2 ^ 62)∧(j-i).toNat≤1000 ∧
  ∀l,H l=none→Q (.ref l) (upd H l (.lst ((List.range (j-i).toNat).map λk=>V.int (i+(k:Nat)))))):=by
 intro pins s σ H xs us Q I r h;obtain⟨p,i,j,rfl,hp,⟨b1,b2,b3,b4⟩,hn,q⟩:=h;obtain⟨u,rfl,rx⟩:=ip r;cases rx;obtain⟨t,t',t'',e⟩:=(show bw X.prog X.w H s.heap p (.rng i j)from I.hok p _ hp);have hsz:Builtin.Range.rangeSize i j 1=((j-i).toNat:Nat):=by rw[rangeSize_one];split<;>omega
 refine call_list_range (n:=(j-i).toNat) (I.ok.hd hc) e (small_one b1 b2 b3 b4) hsz (by omega) λh' tk acc c' kp hg hi=>?_;refine⟨.ref s.heap.objs.size,_,I.laid (t':=tk) kp (le_refl _) (show bw X.prog X.w _ h' _ (.lst _)from⟨?_,acc.toList,c',mQ hi,by simpa using hg⟩),rfl,q _ (I.hok.fresh (le_refl _))⟩
 rw[length_map,length_range,sizeLine_eq];omega
theorem lw:OpR X (binaryOp .Add) (λx y H Q=>∃a b ys,x=.ref a∧y=.ref b∧SqT X.K H a []∧SqT X.K H b ys∧Q (.ref b) H):=by
 intro pins s σ H x y v u Q I rx ry h;obtain⟨a,b,ys,rfl,rfl,ha,hb,q⟩:=h;cases rx;cases ry;obtain⟨its,r1,ht,_⟩:=I.tuple ha;obtain⟨its2,r2,hb',_⟩:=I.tuple hb;cases r1;obtain⟨⟨cls,dd,data,sl⟩,ho,hc,n,hd⟩:=id ht;obtain⟨⟨cls2,dd2,data2,sl2⟩,ho2,hc2,n2,hd2⟩:=id hb';simp only at hc hd hc2 hd2;subst hc hd hc2 hd2;exact concat_meets ⟨_,ho,rfl⟩ ⟨_,ho2,rfl⟩ noFill_tuple_add seq_tuple_add slot_tuple_add entry_tuple_add (args_tuple_add_2 _ _)
  (tuple_addW0 a b _ its2.toArray n n2 dd dd2 sl sl2 (by rfl)) ⟨ho,ho2,⟨.ref b,H,I,rfl,q⟩⟩
theorem ga(hu:X.A.units<cLine):OpR X (compareOp .Eq) (λx y H Q=>∃a b xs,x=.ref a∧y=.ref b∧SqL X.K H a xs∧SqL X.K H b []∧Q (.bl (decide (xs=[]))) H):=by
 intro pins s σ H x y v u Q I rx ry h;obtain⟨a,b,xs,rfl,rfl,ha,hb,q⟩:=h;cases rx;cases ry;obtain⟨its,r1,ht,_⟩:=I.list ha;obtain⟨its2,r2,hb',_⟩:=I.list hb;cases r2
 by_cases e:xs=[]
 ·subst e;cases r1;refine SeqAt.eq_listAt (e:=λ_=>true) ht.isList hb'.isList rfl hu (λj h1 h2=>absurd h2 (by simp)) ⟨.bl _,H,I,?_,q⟩;rfl
 ·have e2:its≠[]:=λz=>e (r1.nil_iff.mp z);have e3:its.length≠0:=λz=>e2 (length_eq_zero_iff.mp z);refine SeqAt.eq_list_lengthsAt ht.isList hb'.isList (by simp[e3]) hu ⟨.bl _,H,I,?_,q⟩;show _=Value.bool _;simp[e]
end
end L2
namespace ZT
open PySem PySem.SeqAt
section
variable{prog:Program}{w:World}{A:Around}{E:Value→Shared→Prop}{s:Shared}
end
end ZT
namespace L2
open PySem PySem.Spec PyProof.Rows
section
variable{X:Cx}{tg:Expr}
abbrev gP:=Addr×Int×List V
def numAt(zs:List gP)(i:Nat):Int:=(zs.getD i (0,0,[])).2.1
theorem qm{zs:List gP}(h:(zs.map (·.2.1)).Nodup):SRT.Ord (λi j=>decide (numAt zs i<numAt zs j)) zs.length:=by
 refine⟨λi _=>by simp,λi j k _ _ _ h1 h2=>?_,λi j hi hj hij=>?_⟩
 ·simp only[decide_eq_true_eq]at *;omega
 ·simp only[decide_eq_true_eq];have:numAt zs i≠numAt zs j:=by
   unfold numAt;rw[getD_eq_getElem?_getD,getD_eq_getElem?_getD,getElem?_eq_getElem hi,getElem?_eq_getElem hj];intro e;have e':(zs.map (·.2.1))[i]'(by simpa using hi)=(zs.map (·.2.1))[j]'(by simpa using hj):=by simpa using e
   exact hij ((getElem_inj h).mp e')
  omega
theorem lx{prog:Program}{w:World}{A:Around}{s:Shared}{b:Bool}{Q:Bool→Shared→Prop}(h:Q false s):∀(l:List Value)(i:Nat),PySem.W.KatLex prog w A b false Q (l.zip l) i s
 |[],i=>h
 |v::l,i=>kat_cons (EqAt.same v prog w _ _ (PySem.W.kat_yes (lx h l (i+1))))
theorem cr:du X (.builtin "sorted") (λxs H Q=>∃l,∃zs:List gP,xs=[.ref l]∧(SqL X.K H l ((zs.map (·.1)).map V.ref)∨SqT X.K H l ((zs.map (·.1)).map V.ref))∧(∀z∈zs,H z.1=some (.tup (.int z.2.1::z.2.2)))∧(zs.map (·.2.1)).Nodup∧zs.length<64 ∧
  ∀zs':List gP,zs'.Perm zs→zs'.Pairwise (λa b=>a.2.1<b.2.1)→∀p,H p=none→Q (.ref p) (upd H p (.lst ((zs'.map (·.1)).map V.ref)))):=by
 intro pins s σ H xs us Q I r h;obtain⟨l,zs,rfl,hq,hk,hnd,h64,q⟩:=h;obtain⟨u,rfl,ru⟩:=ip r;cases ru;obtain⟨its,rv,pl⟩:∃its,aN ((zs.map (·.1)).map V.ref) its∧(s.heap.IsList l its.toArray∨IsTup s.heap l its.toArray):=by
  rcases hq with hq|hq
  ·obtain⟨its,rv,pl,hz⟩:=I.list hq;exact⟨its,rv,.inl pl.isList⟩
  ·obtain⟨its,rv,pl,hz⟩:=I.tuple hq;exact⟨its,rv,.inr pl⟩
 have e:=dk rv;subst e;have hlen:((zs.map (·.1)).map Value.ref).length=zs.length:=by simp
 have hobj:∀z∈zs,∃o its n t,s.heap.get? z.1=some o∧o.cls=.type "tuple"∧o.data=.seq its n∧its.toList=.int z.2.1 t::its.toList.drop 1:=λz hz'=>by
  obtain⟨_,its,rr,o,e1,e2,n,e3⟩:=I.hok z.1 _ (hk z hz');cases rr with
  |cons r1 r2 =>
   obtain⟨t,rfl⟩:=r1;exact⟨o,_,n,t,e1,e2,e3,by simp⟩
 have hget:∀i,i<zs.length→((zs.map (·.1)).map Value.ref).getD i Value.none=.ref (zs.getD i (0,0,[])).1∧zs.getD i (0,0,[])∈zs:=λi hi=>by
  rw[getD_eq_getElem?_getD,getD_eq_getElem?_getD,getElem?_map,getElem?_map,getElem?_eq_getElem hi];exact⟨rfl,getElem_mem hi⟩
 refine SRT.iU (κ:=tuples' true) (f:=λi j=>decide (numAt zs i<numAt zs j)) (by rw[hlen];exact qm hnd) pl (by rw[hlen];exact h64) ?kind ?less ?fin
 case kind =>
  intro A' s' _ kp Q' h2 hQ';have key:∀ys:List gP,(∀z∈ys,z∈zs)→∃fs:List Value,KatTups s'.heap ((ys.map (·.1)).map Value.ref) fs∧fs.length=ys.length∧∀v∈fs,∃i t,v=Value.int i t:=by
   intro ys
   induction ys with
   |nil=>intro _;exact⟨[],KatTups.nil,rfl,λv hv=>by simp at hv⟩
   |cons z ys ih =>
    intro hm;obtain⟨fs,h1,h2',h3⟩:=ih λy hy=>hm y (by simp[hy]);obtain⟨o,its,n,t,e1,e2,e3,e4⟩:=hobj z (hm z (by simp));refine⟨.int z.2.1 t::fs,KatTups.cons (kp _ _ e1) e2 e3 ?_ h1,by simp[h2'],λv hv=>?_⟩
    ·rw[←getElem?_toList,e4];rfl
    ·rcases mem_cons.mp hv with rfl|hv
     ·exact⟨_,_,rfl⟩
     ·exact h3 v hv
  obtain⟨fs,h1,h2',h3⟩:=key zs λz hz'=>hz';refine PySem.W.kat_kind (T:=.type "int") h1 (by rw[h2'];rw[hlen]at h2;omega) (λv hv=>?_) (by rfl) hQ';obtain⟨i,t,rfl⟩:=h3 v hv;exact .now
 case less =>
  intro A' s' _ kp i j C hi hj hC;rw[hlen]at hi hj;obtain⟨gi,mi⟩:=hget i hi;obtain⟨gj,mj⟩:=hget j hj;rw[gi,gj];obtain⟨oi,ii,ni,ti,a1,a2,a3,a4⟩:=hobj _ mi;obtain⟨oj,ij,nj,tj,b1,b2,b3,b4⟩:=hobj _ mj;refine PySem.W.kat_lt (kp _ _ a1) a3 (kp _ _ b1) b3 ?_
  by_cases hij:i=j
  ·subst hij;rw[a1]at b1;cases b1;rw[a3]at b3;cases b3;have:C false s':=by simpa using hC
   have e2:decide (ii.size<ii.size)=false:=by simp
   rw[e2];exact lx this _ _
  ·have hne:numAt zs i≠numAt zs j:=by
    rcases (qm hnd).tot i j hi hj hij with h1|h1<;>simp only[decide_eq_true_eq]at h1<;>omega
   rw[a4,b4];refine kat_cons (wpAny_eqBool_int ?_);have e2:((zs.getD i (0,0,[])).2.1==(zs.getD j (0,0,[])).2.1)=false:=beq_eq_false_iff_ne.mpr hne;rw[e2];refine PySem.W.kat_no ?_;exact kat_lt_int hC
 case fin =>
  intro p h' hrow hup kp _ hg;obtain⟨c,hg⟩:=hg;rw[hlen]at hrow hup;obtain⟨zs',hzs'⟩:∃zs',zs'=p.toList.map λi=>zs.getD i (0,0,[]):=⟨_,rfl⟩;have hperm:zs'.Perm zs:=by
   rw[hzs'];refine(hrow.perm.map _).trans ?_;have:(List.range zs.length).map (λi=>zs.getD i (0,0,[]))=zs:=by
    apply ext_getElem?;intro i;rw[getElem?_map]
    by_cases hi:i<zs.length
    ·rw[List.getElem?_range hi,getElem?_eq_getElem hi];show some (zs.getD i (0,0,[]))=_;rw[getD_eq_getElem?_getD,getElem?_eq_getElem hi];rfl
    ·rw[getElem?_eq_none (by rw[length_range];omega),getElem?_eq_none (by omega)];rfl
   rw[this]
  have hpl:p.size=zs.length:=hrow.size;have hpw:zs'.Pairwise (λa b=>a.2.1<b.2.1):=by
   rw[List.pairwise_iff_getElem];intro i j hi hj hij;have hi':i<p.size:=by rw[hzs',length_map,length_toList]at hi;exact hi
   have hj':j<p.size:=by rw[hzs',length_map,length_toList]at hj;exact hj
   have:=hup i j hij (by omega);simp only[decide_eq_true_eq,numAt]at this;rw[getD_eq_getD_getElem?,getD_eq_getD_getElem?,Array.getElem?_eq_getElem hi',Array.getElem?_eq_getElem hj']at this;simpa [hzs']using this
  have hout:(toArray (p.toList.map λi=>((zs.map (·.1)).map Value.ref).getD i Value.none))=((zs'.map (·.1)).map Value.ref).toArray:=by
   congr 1
   rw[hzs'];simp only[map_map];apply map_congr_left;intro i hi;have hi':i<zs.length:=mem_range.mp (hrow.perm.mem_iff.mp hi);have:=(hget i hi').1;simp only[map_map]at this;exact this
  rw[hout]at hg;have hv:aN ((zs'.map (·.1)).map V.ref) ((zs'.map (·.1)).map Value.ref):=by
   generalize zs'.map (·.1)=as
   induction as with
   |nil=>exact .nil
   |cons a as ih=>exact .cons rfl ih
  refine⟨.ref (s.heap.objs.size+1),_,I.laid (t':=s.toks) (o:=.lst ((zs'.map (·.1)).map V.ref)) kp (le_succ _) ⟨?_,_,c,hv,hg⟩,rfl,q zs' hperm hpw _ (I.hok.fresh (le_succ _))⟩;rw[length_map,length_map,hperm.length_eq,sizeLine_eq];omega
theorem ia:du X (.builtin "sorted") (λxs H Q=>∃l,∃zs:List gP,xs=[.ref l]∧SqL X.K H l ((zs.map (·.1)).map V.ref)∧(∀z∈zs,H z.1=some (.tup (.int z.2.1::z.2.2)))∧(zs.map (·.2.1)).Nodup∧zs.length<64 ∧
  ∀zs':List gP,zs'.Perm zs→zs'.Pairwise (λa b=>a.2.1<b.2.1)→∀p,H p=none→Q (.ref p) (upd H p (.lst ((zs'.map (·.1)).map V.ref)))) :=
 λpins s σ H xs us Q I r ⟨l,zs,e,hq,h⟩=>cr pins s σ H xs us Q I r ⟨l,zs,e,.inl hq,h⟩
end
theorem km{scope:Scope}{env:Env}(h:∀y∈scope.names,y.2≠.free):relabel scope env=scope:=by
 unfold relabel;rw[map_eq_self (l:=scope.names) (λx hx=>by
  obtain⟨n,k⟩:=x;have:(k==NameKind.free)=false:=by simpa using h _ hx
  simp[this])]
theorem eF{X:Cx}{scope:Scope}(hk:scope.kind=.function)(hf:∀y∈scope.names,y.2≠.free)(hc:∀y∈scope.names,y.2≠.cell)(hn:∀x∈scope.names,x.2=.local→scope.names.lookup x.1=some .local):LcOk X scope [] :=
 ⟨hk,closureFor_none hf,hn,hc,λx c h=>by simp at h,λx h=>by
  rw[km hf]at h;rcases h with h|h
  ·exact absurd rfl (hc _ (PySem.mem_of_lookup h))
  ·exact absurd rfl (hf _ (PySem.mem_of_lookup h))⟩
theorem ud{k:Nat}{js:List Nat}{J:It}{g:TG}{te:TE}{σ:St}{H1:Hp}{Q:VK}{p:Addr}(n:Nat)(hn:n≤1000)(Pv:Nat→List V→St→Hp→Prop)(h0:Pv 0 [] (cA k js σ) (upd H1 p (.lst [])))(hy:∀i ys σ' H',Pv i ys σ' H'→ys.length≤i)(go:∀i ys σ' H',i<n→Pv i ys σ' H'→J.go i H')(stop:∀ys σ' H',Pv n ys σ' H'→J.stop n H'∧Q (.ref p) H')(step:∀i ys σ' H',i<n→Pv i ys σ' H'→∀x H2,J.yld i H' x H2→g x σ' H2 λσ2 H3=>te σ2 H3 λy H4=>H4 p=some (.lst ys)∧Pv (i+1) (ys++[y]) σ2 (upd H4 p (.lst (ys++[y]))))(mg:∀x σ H (Q Q':St→Hp→Prop),(∀σ H,Q σ H→Q' σ H)→g x σ H Q→g x σ H Q')(me:∀σ H (Q Q':VK),(∀y H,Q y H→Q' y H)→te σ H Q→te σ H Q'):
  LcW k js g te σ Q J H1 p:=by
 refine⟨λi m ys σ' H'=>m=n-i∧i≤n∧Pv i ys σ' H',⟨n,by simp,zero_le _,h0⟩,?_⟩;rintro i m ys σ' H' ⟨rfl,hi,hp⟩
 by_cases hlt:i<n
 ·refine .inr ⟨go i ys σ' H' hlt hp,?_,λx H2 y=>?_⟩
  ·have:=hy i ys σ' H' hp;exact lt_of_le_of_lt this (aG (by omega))
  ·refine mg _ _ _ _ _ (λσ2 H3 h3=>me _ _ _ _ (λz H4 h4=>⟨h4.1,n-(i+1),by omega,rfl,hlt,h4.2⟩) h3) (step i ys σ' H' hlt hp x H2 y)
 ·have e:i=n:=by omega
  subst e;exact .inl (stop ys σ' H' hp)
theorem af{H:Hp}{p:Addr}{o:HO}(h:H p=none):Same H (upd H p o):=λb u e=>by rw[al (cv e h)];exact e
theorem br{H:Hp}{p a:Addr}{o u:HO}(h:H p=none)(e:H a=some u):upd H p o a=some u:=by rw[al (cv e h)];exact e
theorem aO{H0 H:Hp}{p:Addr}{o:HO}(h0:H0 p=none)(s:Same H0 H):Same H0 (upd H p o):=λb u e=>by
 rw[al (cv e h0)];exact s b u e
structure Fly(P:Program)(w:World)(outer:List Env)(H:Hp)(s:Shared)(H':Hp)(ea C:Addr)(s':Shared):Prop where
 os:s'.os=s.os
 bare:AllBare s'.gens
 un:Un (frs outer) [] H H' s.heap s'.heap
 new:H' ea=none
 fly:∃B a0,FlyingW B outer ea (.ref C) a0 s'.heap∧HOk P w H' B∧(∀b o,s.heap.get? b=some o→H b=none→b∉frs outer→B.get? b=some o) ∧
  ∀b o,s.heap.get? b=some o→b∉frs outer→∃o',B.get? b=some o'
def CX1(P:Program)(w:World):CXT:=λouter H s E e s'=>∃ea C H',e=.ref ea∧Fly P w outer H s H' ea C s'∧E (.ref C) none H'
theorem bw.ex{P:Program}{w:World}{H:Hp}{h:Heap}{a:Addr}{o:HO}(x:bw P w H h a o):∃ob,h.get? a=some ob:=by
 cases o with
 |lst xs=>obtain⟨_,_,_,_,e⟩:=x;exact⟨_,e⟩
 |tup xs=>obtain⟨_,_,_,ob,e,_⟩:=x;exact⟨ob,e⟩
 |dK kvs=>obtain⟨_,_,_,_,o,_,_,e,_⟩:=x;exact⟨_,e⟩
 |dT kvs=>obtain⟨_,_,_,_,o,_,_,e,_⟩:=x;exact⟨_,e⟩
 |set S n=>obtain⟨o,_,_,_,e,_⟩:=x;exact⟨_,e⟩
 |ins C dx fs=>obtain⟨_,_,_,e,_⟩:=x;exact⟨_,e⟩
 |own y=>obtain⟨_,e⟩:=x;exact⟨_,e⟩
 |xd fs=>obtain⟨_,⟨_,_,_,e,_⟩,_⟩:=x;exact⟨_,e⟩
 |rng lo hi=>obtain⟨_,_,_,e⟩:=x;exact⟨_,e⟩
 |frz ob u=>obtain⟨e,_⟩:=x;exact⟨_,e⟩
 |tbl ps=>exact⟨_,(show h.get? a=some _ from x)⟩
 |met f y=>exact⟨_,(show h.get? a=some _ from x)⟩
 |ext φ=>obtain⟨_,⟨_,e⟩,_⟩:=x;exact⟨_,e⟩
theorem qp{P:Program}{w:World}{H:Hp}{h:Heap}{l:List Addr}(x:HOk P w H h)(hl:∀b∈l,H b=none):HOk P w H (hideAll h l):=λa o e =>
 (x a o e).stay (λb u hb q=>hideAll_get l q λz=>by
  have:=hl b z;rcases hb with hb|hb
  ·rw[hb,e]at this;cases this
  ·rw[hb]at this;cases this) (λ_ q=>q) λ_ _ q=>q
section
variable{P:Program}{w:World}{l:List Env}{H H':Hp}{h1 h2 h3 B:Heap}{ea:Addr}{cls a0:Value}
theorem ly(un:Un (frs l) [] H H' h1 h2)(fl:FlyingW B l ea cls a0 h2)(hB:HOk P w H' B)(kp:∀b o,h1.get? b=some o→H b=none→b∉frs l→B.get? b=some o)(th:∀b o,h1.get? b=some o→b∉frs l→∃o',B.get? b=some o')(st:B.StaysIn h3)(hs:h2.UpToSlots h3):Un (frs l) [] H H' h1 h3∧HOk P w H' h3:=by
 refine⟨⟨λb o e n hb _=>st b o (kp b o e n hb),λb o e n hb hx=>?_,un.free,λb o e _=>?_,un.tups,un.frzs,un.tbls⟩,hB.kept st⟩
 ·obtain⟨sl,q⟩:=un.slot b o e n hb hx;obtain⟨_,o',ho',hd⟩:=fl.2.2.1.mem hb;rw[q]at ho';cases ho';obtain⟨sl',q'⟩:=hs b _ q hd;exact⟨sl',q'⟩
 ·by_cases hb:b∈frs l
  ·obtain⟨_,o',ho',hd⟩:=fl.2.2.1.mem hb;obtain⟨sl',q'⟩:=hs b _ ho' hd;exact⟨_,q'⟩
  ·obtain⟨o',q⟩:=th b o e hb;exact⟨o',st b o' q⟩
end
section
variable{X:Cx}{pins:List (Addr×Obj)}{σ:St}{H H':Hp}{s s':Shared}{ea C:Addr}{E:XK}
theorem Inv.fly_up(I:Inv X pins σ H s)(hex:X.ex=[])(J:Inv X pins σ H' s')(new:H' ea=none){B:Heap}{a0:Value}(fl:FlyingW B X.outer ea (.ref C) a0 s'.heap)(hB:HOk X.prog X.w H' B)(kp:∀b o,s.heap.get? b=some o→H b=none→b∉frs X.stack→B.get? b=some o)(th:∀b o,s.heap.get? b=some o→b∉frs X.stack→∃o',B.get? b=some o'):Fly X.prog X.w X.outer X.H₀ X.s₀ H' ea C s':=by
 have ub:=I.base;rw[hex]at ub;have uj:=J.base;rw[hex]at uj;have ne:∀b o,X.s₀.heap.get? b=some o→b∉frs X.outer→b∉frs X.stack:=λb o e n hb=>by
  rcases mem_cons.mp (I.stkSub b hb)with z|z
  ·have:=lt_size e;rw[z]at this;exact absurd (lt_of_lt_of_le this I.ok.above) (lt_irrefl _)
  ·exact n z
 refine⟨J.os,J.bare,uj,new,B,a0,fl,hB,λb o e n hb=>?_,λb o e hb=>?_⟩
 ·exact kp b o (ub.keep b o e n hb (by simp)) (ub.free b o e n (by simp)) (ne b o e hb)
 ·obtain⟨o',q⟩:=ub.there b o e (by simp);exact th b o' q (ne b o e hb)
structure Lv(X:Cx)(E:XK):Prop where
 ex:X.ex=[]
 stk:X.stack=X.env::X.outer
 fr:X.env.frame=some X.env.locals
 xe:X.xe=λe s'=>wpAny (model X.prog X.w) X.A (leaving X.env e) (λ_ s''=>CX1 X.prog X.w X.outer X.H₀ X.s₀ E e s'') (λe' s''=>CX1 X.prog X.w X.outer X.H₀ X.s₀ E e' s'') s'
theorem ca{P:Program}{w:World}{K:PySem.W.Frag}{mg:Str→Option Value}{base:Heap}{N:List Str}{qual:Str}{scope:Scope}{f:Addr}{cd:Value}{A:Around}{outer:List Env}{s:Shared}{H:Hp}{E:XK} :
  Lv (gC (CX1 P w) P w K mg base N qual scope f cd A outer s H E) E:=⟨rfl,rfl,rfl,rfl⟩
theorem cX(L:Lv X E):hV (CX1 X.prog X.w) X E:=by
 intro pins σ H s e s' I h;obtain⟨ea,C,H',rfl,F,hE⟩:=h;rw[L.xe];obtain⟨B,a0,fl,hB,kp,th⟩:=id F.fly;have fl':=fl;rw[L.stk]at fl';refine wpAny_leaves_onW (by rw[I.ok.frames,L.stk]) L.fr fl' λh' fl2 hs=>?_;obtain⟨u,ok⟩:=ly F.un fl hB kp th fl2.1 hs;have J:Inv X pins σ H' {s' with heap:=h'}:=I.call' (s':={s' with heap:=h'}) F.os u ok F.bare λb z=>absurd z (by simp)
 exact⟨ea,C,H',rfl,I.fly_up L.ex J F.new fl2 hB kp th,hE⟩
theorem Inv.ground(I:Inv X pins σ H s):(hideAll s.heap (frs X.stack)).StaysIn s.heap∧s.heap.FunFrames (hideAll s.heap (frs X.stack)) X.stack∧HOk X.prog X.w H (hideAll s.heap (frs X.stack)) :=
 ⟨λb o q=>of_hideAll _ q,PySem.W.funFrames_hide I.stack λenv he b hb=>List.mem_filterMap.mpr ⟨env,he,hb⟩,qp I.hok I.stkFree⟩
theorem wJ(L:Lv X E)(I:Inv X pins σ H s){h':Heap}{vs:List Value}(hx:Heap.MadeExcOf s.heap h' ea (.ref C) vs)(hE:E (.ref C) none H):X.xe (.ref ea) {s with heap:=h'}:=by
 rw[L.xe];obtain⟨g1,g2,g3⟩:=I.ground;have g2':s.heap.FunFrames (hideAll s.heap (frs X.stack)) (X.env::X.outer):=L.stk ▸ g2;refine wpAny_leaves_madeW (s:={s with heap:=h'}) (by rw[I.ok.frames,L.stk]) L.fr g1 g2' hx λh'' t fl _ _ hs=>?_;have hs':s.heap.UpToSlots h'':=(Heap.UpToSlots.of_keeps hx.keeps).trans hs;have u:Un (frs X.stack) [] H H s.heap h'':=⟨λb o e n hb _=>fl.1 b o (hideAll_get _ e hb),λb o e n hb _=>by
   obtain⟨_,o',ho',hd⟩:=g2.mem hb;rw[e]at ho';cases ho';exact hs' b o e hd,λb o e n _=>n,λb o e _=>by
   by_cases hb:b∈frs X.stack
   ·obtain⟨_,o',ho',hd⟩:=g2.mem hb;obtain⟨sl,q⟩:=hs' b o' ho' hd;exact⟨_,q⟩
   ·exact⟨o,fl.1 b o (hideAll_get _ e hb)⟩,λ_ _ q=>q,λ_ _ _ q=>q,λb ps q=>⟨#[],by simpa using q⟩⟩
 have J:Inv X pins σ H {s with heap:=h''}:=I.call' (s':={s with heap:=h''}) rfl u (g3.kept fl.1) I.bare λb z=>absurd z (by simp)
 have new:H ea=none:=by
  cases q:H ea with
  |none=>rfl
  |some o =>
   obtain⟨ob,e⟩:=(I.hok ea o q).ex;have h2:=hx.new;rw[e]at h2;cases h2
 exact⟨ea,C,H,rfl,I.fly_up L.ex J new fl g3 (λb o e _ hb=>hideAll_get _ e hb) λb o e hb=>⟨o,hideAll_get _ e hb⟩,hE⟩
end
end L2
namespace XI
open PySem PySem.Spec PySem.W
section
variable{prog:Program}{w:World}{A:Around}{E:Value→Shared→Prop}{h:Heap}{g:Array GenState}{d:Drawn}{t:Nat}{os:OsState}{a:Addr}{o:Obj}{vs:Array Value}{nm q:Str}{C N:Addr}{bs bm:List Value}{hdct:Bool}{sn:List Str}{sub:List Value}{ab:Bool}{col:Option Bool}{dd:Option Addr}{k0 k1 k2 k3 k5:Option Value}{newId:String}
end
def ue(e C:Addr)(h:Heap):Prop:=∃o vs,h.get? e=some o∧o.cls=.ref C∧o.data=.fields vs
end XI
namespace L2
open PySem PySem.Spec PyProof.Rows
section
variable{X:Cx}{pins:List (Addr×Obj)}{σ:St}{H:Hp}{s:Shared}
abbrev bmV:List Value:=[.type "ValueError",.type "Exception",.type "BaseException",.type "object"]
abbrev wK(X:Cx)(x:Str)(C:Addr):Prop:=OwnCls x C bmV "ValueError.__new__" X.mg X.base
def vk(C:Addr)(E:XK)(ta:TE):TS:=λ_ σ H=>cV ta kc σ H λvs H1=>vs.length≤sizeLine∧E (.ref C) none H1
theorem dA{E:XK}(L:Lv X E){x:Str}{C:Addr}{np cpos pos:Pos}{a:Expr}{ta:TE}(O:wK X x C)(hh:X.A.handled=none)(hg:Gl X x)(ha:PE X a ta)(hs:starEach [a] X.env=[(false,eval a X.env)]:=by rfl)(hd:(x==("__debug__":Str))=false:=by decide):PS X (.Raise (some (.Call (.Name x np) [a] [] cpos)) none pos) (vk C E ta):=by
 intro pins s σ H D I h;obtain⟨tl,N,nm,q,bs,hdct,sn,sub,ab,col,dd,k0,k1,k2,k3,k5,mN,hC,hN,hni,T⟩:=O.obj;refine wpAny_Raise_call_subT (C:=C) (nm:=nm) (q:=q) (N:=N) (bs:=bs) (bm:=tl) (hdct:=hdct) (sn:=sn) (sub:=sub) (ab:=ab) (col:=col) (dd:=dd) (k0:=k0) (k1:=k1) (k2:=k2) (k3:=k3) (k5:=k5)
  PySem.F.excBase_ValueError (mN:=mN) (T.hasType PySem.F.excBase_ValueError.hasBase) hh (by rw[hs];rfl) hni (jX I hg O.bound ⟨rfl,?_⟩ hd)
 have hA:PA X [a] (cV ta kc):=aa ha ai hs;have h':=hA cpos pins s σ H (λvs H1=>vs.length≤sizeLine∧E (.ref C) none H1) I h;rw[hs]at h'⊢;refine evalArgs_plain (thn h' λus s2 hpt=>?_);obtain⟨vs,H2,I2,r2,q2⟩:=hpt;exact⟨rfl,by rw[←r2.length];exact q2.1,I2.bk _ _ hC,hN.keeps I2.bk,T.keeps I2.bk,λh' e hx=>wJ L I2 hx q2.2⟩
theorem sC{M:Model}{A:Around}{E:Value→Shared→Prop}{nm q:Str}{C N:Addr}{bs bm:List Value}{hdct:Bool}{sn:List Str}{sub:List Value}{ab:Bool}{col:Option Bool}{dd:Option Addr}{k0 k1 k2 k3 k5:Option Value}{newId:String}{h:Heap}{g:Array GenState}{d:Drawn}{t:Nat}{os:OsState}{e T:Addr}{oe:Obj}{Q:Bool→Shared→Prop}(hT:h.get? T=some (excClassObj nm q T N bs bm hdct sn sub ab col dd k0 k1 k2 k3 k5 newId))(hbase:bm.contains (.type "BaseException")=true)(LCT:Looks M h (isSubtype (.ref C) (.ref T)) true)(he:h.get? e=some oe)(hcls:oe.cls=.ref C)(hq:Q true ⟨h,g,d,t,os⟩):wpAny M A (excMatches (.ref e) (.ref T)) Q E ⟨h,g,d,t,os⟩:=by
 have hcB:(Value.ref T::bm).contains (.type "BaseException")=true:=by rw[List.contains_cons,hbase,Bool.or_true]
 have f:=tc_notTuple;unfold excMatches
 repeat (first|(with_reducible refine wpAny_loadPart_at he ?_;rw[hcls])|with_reducible refine LCT.at ?_|with_reducible refine wpAny_loadPart_at hT ?_|(with_reducible refine wpAny_isSubtype_exc hT ?_;rw[hcB])|wp_step)
 exact hq
theorem Inv.caught{H':Hp}{ea C:Addr}{s':Shared}{B h6:Heap}{a0:Value}(I:Inv X pins σ H s)(F:Fly X.prog X.w X.stack H s H' ea C s')(fl:FlyingW B X.stack ea (.ref C) a0 s'.heap)(hB:HOk X.prog X.w H' B)(kp:∀b o,s.heap.get? b=some o→H b=none→b∉frs X.stack→B.get? b=some o)(th:∀b o,s.heap.get? b=some o→b∉frs X.stack→∃o',B.get? b=some o')(f6:FlyingW B X.stack ea (.ref C) a0 h6)(hs:s'.heap.UpToSlots h6):
  Inv X pins σ (upd H' ea (.ext (XI.ue ea C))) {s' with heap:=h6}:=by
 obtain⟨u,ok⟩:=ly F.un fl hB kp th f6.1 hs;obtain⟨oe,vs,g1,g2,g3,_⟩:=f6.first;have ne:∀b o,s.heap.get? b=some o→b≠ea:=λb o e z=>by
  by_cases hb:b∈frs X.stack
  ·obtain⟨_,o',ho',hd⟩:=f6.2.2.1.mem hb;rw[z,g1]at ho';cases ho';exact hd _ g3
  ·obtain⟨o',q⟩:=th b o e hb;rw[z,f6.2.1]at q;cases q
 have ner:∀b u,H' b=some u→b≠ea:=λb u e z=>by rw[z,F.new]at e;cases e
 refine I.call' (s':={s' with heap:=h6}) F.os ⟨u.keep,u.slot,λb o e n hx=>?_,u.there,λb xs e=>?_,λb o v e=>?_,λb ps e=>?_⟩ (λb ob e=>?_) F.bare λb z=>absurd z (by simp)
 ·rw[al (ne b o e)];exact u.free b o e n hx
 ·have:=u.tups b xs e;rw[al (ner b _ this)];exact this
 ·have:=u.frzs b o v e;rw[al (ner b _ this)];exact this
 ·obtain⟨more,this⟩:=u.tbls b ps e;exact⟨more,by rw[al (ner b _ this)];exact this⟩
 ·by_cases hb:b=ea
  ·subst hb;rw[ac]at e;cases e;refine⟨⟨oe,vs,g1,g2,g3⟩,⟨oe,g1⟩,λh1 h2 ⟨o,vs,a1,a2,a3⟩ k=>⟨o,vs,k o a1,a2,a3⟩⟩
  ·rw[al hb]at e;exact(ok b ob e).stay (λ_ _ _ q=>q) (λc q=>by rw[al (ner c _ q)];exact q) λc xs q=>by rw[al (ner c _ q)];exact q
structure TryOk(X:Cx):Prop where
 no:∀e s,¬X.xe e s
 stk:X.stack=X.env::X.outer
 fr:X.env.frame=some X.env.locals
end
end L2
namespace DL
open PySem PySem.Spec PyProof.Rows
theorem iV:entryFor table "dict.update.loop"=some Builtin.«dict.update.loop»:=entryFor_of_tree (by kernel_rfl)
theorem eG:plainId "dict.update.loop"=true:=by decide +kernel
theorem kn:typeLookup (.type "list") "keys"=pure none:=by rw[typeLookup_type,builtinLookup_eq_fast];kernel_rfl
section
variable{prog:Program}{w:World}{A:Around}{E:Value→Shared→Prop}{s:Shared}
theorem sD{a:Addr}{xs:Array Value}{k:Nat}{sl:Array (Option Value)}{u:Tok}{Q:Value→Shared→Prop}(hx:s.heap.get? a=some {cls:=.type "list",dict:=none,data:=.seq xs k,slots:=sl})(hA:A.handled=none)(h:∀h' tk e,Heap.NewExcOf s.heap h' e "AttributeError"→E (.ref e) {s with heap:=h',toks:=tk}):
  wpAny (model prog w) A (getAttrBy (.ref a) (.str "keys" u) false) Q E s:=by
 obtain⟨hp,g,d,tk,os⟩:=s;have hT:∀tk',(⟨hp,g,d,tk',os⟩:Shared).TypeIs (.ref a) "list":=λ_=>⟨_,hx,rfl⟩;have f1:=sub_AttributeError;have f3:=F.slot_list_getattribute.lookup;have f4:=F.slot_list_getattribute.bind (.ref a);have f5:=am_list_getattr_none;unfold getAttrBy
 repeat (any_goals (first|assumption|exact hT _|((with_reducible show wpAny _ _ (call (Value.builtin "list.__getattribute__") _ _) _ _ _);refine call_meets F.slot_list_getattribute (hT _) am_entry_list_getattribute (F.args_list_getattribute_2 _ _) (meets_getattribute_miss_list a xs k sl "keys" _ kn (by decide) (by size_fits)) ⟨hx,hA,λh' tk' e hx'=>?_⟩)|wp_step))
 obtain⟨t',u',he⟩:=hx'.there;show wpAny _ _ (getattributeRaised _ _ _ _ _ _ _) _ _ _;unfold getattributeRaised
 repeat (any_goals (first|assumption|wp_step))
 exact h _ _ _ hx'.of
theorem sE{a:Addr}{xs:Array Value}{k:Nat}{sl:Array (Option Value)}{Q:Option Value→Shared→Prop}(hx:s.heap.get? a=some {cls:=.type "list",dict:=none,data:=.seq xs k,slots:=sl})(hA:A.handled=none)(h:∀h' tk,(∀b o,s.heap.get? b=some o→h'.get? b=some o)→Q none {s with heap:=h',toks:=tk}):
  wpAny (model prog w) A (getAttr? (.ref a) "keys") Q E s:=by
 obtain⟨hp,g,d,tk,os⟩:=s;have f1:=sub_AttributeError;unfold getAttr? getAttrBy?
 repeat (any_goals (first|assumption|((with_reducible show wpAny _ _ (getAttrBy _ _ false) _ _ _);refine sD (s:=⟨hp,g,d,_,os⟩) hx hA λh' tk' e hx'=>?_)|wp_step))
 obtain⟨⟨oc,od,odt,osl⟩,vs,he,hc,_,_⟩:=hx'.there;simp only at hc;subst hc
 repeat (any_goals (first|assumption|with_reducible refine wpAny_loadPart_at he ?_|wp_step))
 exact h h' tk' λb o e=>hx'.keeps b o e
end
section
variable{prog:Program}{w:World}{A:Around}{E:Value→Shared→Prop}{R:Result→Shared→Prop}{I:Addr}{fp wr:List Addr}{G:Array GenState→Array GenState→Prop}{n:Nat}{P:Nat→Value→Prop}{St:Nat→Shared→Prop}
theorem pz(W:WalksS prog w A.in1 I fp wr G n P St)(d:Addr)(hdf:d∉fp)(ad:Nat→Addr)(kk vv:Nat→Value)(hval:∀i v,P i v→v=.ref (ad i))(had:∀i,i<n→ad i∉d::wr)(D:Nat→Heap→Prop)(hD:∀i (h h':Heap),D i h→(∀b o,b∉wr→h.get? b=some o→h'.get? b=some o)→D i h')(step:∀i (s:Shared) (E:Value→Shared→Prop) (Q:Unit→Shared→Prop),i<n→D i s.heap→(∀h' tk,s.toks≤tk→SameBut d s.heap h'→D (i+1) h'→Q () {s with heap:=h',toks:=tk})→wpAny (model prog w) A.in1 (dictSet d (kk i) (vv i)) Q E s):
  ∀(k i:Nat)(s:Shared)(tk:Tok),n-i=k→i≤n→St i s→D i s.heap→(∀j,j<n→IsTup s.heap (ad j) #[kk j,vv j]) →
   (∀s',Moved (d::wr) G s s'→D n s'.heap→R (.ok (.ret .none)) s') →
   codeAny (model prog w) A (.builtin "dict.update.loop" ⟨[.ref d,.ref I,.int i tk,.none],[]⟩) R s:=by
 have hdw:d∉wr:=λh=>hdf (W.sub _ h);have hsub:∀b∈wr,b∈d::wr:=λb hb=>mem_cons_of_mem _ hb;have hadw:∀i,i<n→ad i∉wr:=λi hi h=>had i hi (mem_cons_of_mem _ h);have hadd:∀i,i<n→ad i≠d:=λi hi h=>had i hi (by rw[h];exact mem_cons_self);intro k
 induction k with
 |zero =>
  intro i s tk hk hi hst hDi htp hR;have hin:i=n:=by omega
  subst hin;refine codeAny_builtin iV ?_;rw[Around.under_plainId eG _];show wpAny _ A.in1 (pyNext (.ref I) >>= _) _ _ s;refine wpAny_bind (W.done s _ _ hst λs' hm=>?_);show wpAny _ A.in1 (Builtin.Dict.addKeywords d [] >>= λ_=>ret Value.none) _ _ s';exact wpAny_bind (wpAny_pure (wpAny_pure (hR s' (hm.mono hsub) (hD _ _ _ hDi hm.heap))))
 |succ k ih =>
  intro i s tk hk hi hst hDi htp hR;have hlt:i<n:=by omega
  refine codeAny_builtin iV ?_;rw[Around.under_plainId eG _];show wpAny _ A.in1 (pyNext (.ref I) >>= _) _ _ s;refine wpAny_bind (W.item i s _ _ hlt hst λv s' hP hst' hm=>?_);have hv:=hval i v hP;subst hv;have hDi':D i s'.heap:=hD _ _ _ hDi hm.heap;have htp':∀j,j<n→IsTup s'.heap (ad j) #[kk j,vv j]:=λj hj=>by
   obtain⟨o,ho,r⟩:=htp j hj;exact⟨o,hm.heap _ o (hadw j hj) ho,r⟩
  obtain⟨ot,hot,hct,nt,hdt⟩:=htp' i hlt;have hT:s'.TypeIs (.ref (ad i)) "tuple":=⟨ot,hot,hct⟩;refine wpAny_bind (wpAny_holding ?_);refine wpAny_bind (wpAny_tryCatch ?_);unfold Builtin.Dict.pairItems;refine wpAny_bind (wpAny_typeOf hT ?_);rw[if_pos (by decide)];generalize hDS:dictSet=DS;obtain⟨hp,g,dr,t,os⟩:=s';obtain⟨ocls,odict,odata,oslots⟩:=ot;simp only at hct hdt;subst hct hdt
  repeat (any_goals (first|assumption|with_reducible refine wpAny_loadPart_at hot ?_|wp_step))
  subst hDS;refine step i _ _ _ hlt hDi' λh' tk' htk hsb hD'=>?_;have hsb':SameBut d hp h':=hsb;have hkeep:∀b o,b∉d::wr→hp.get? b=some o→h'.get? b=some o:=λb o hb e=>by
   rw[hsb'.2 b (λz:b=d=>hb (by rw[z];exact mem_cons_self))];exact e
  refine wpAny_pure ⟨plainId_quiet eG _,?_⟩;refine ih (i+1) _ _ (by omega) hlt (W.frame _ _ _ _ hst' htk λb hb o e=>?_) hD' (λj hj=>?_) λs'' hm'' hD''=>?_
  ·rw[hsb'.2 b (λh:b=d=>hdf (by rw[←h];exact hb))];exact e
  ·obtain⟨o,ho,r⟩:=htp' j hj;exact⟨o,hkeep _ o (had j hj) ho,r⟩
  ·exact hR s'' (Moved.trans W.gtrans ((hm.mono hsub).then_heap htk λb o hb e=>hkeep b o hb e) hm'') hD''
end
section
variable{prog:Program}{w:World}{A:Around}{E:Value→Shared→Prop}{s:Shared}
theorem eW{l:Addr}{items:Array Value}{nl:Nat}{sl:Array (Option Value)}{Q:Value→Shared→Prop}(hh:A.handled=none)(hl:s.heap.get? l=some {cls:=.type "list",dict:=none,data:=.seq items nl,slots:=sl})(ad:Nat→Addr)(kk vv:Nat→Value)(hi:∀(i:Nat) (v:Value),items[i]?=some v→v=Value.ref (ad i))(ht:∀i,i<items.size→IsTup s.heap (ad i) #[kk i,vv i])(D:Nat→Heap→Prop)(hD0:∀h',h'.get? s.heap.objs.size=some {cls:=.type "dict",data:=.dict #[]}→(∀b o,s.heap.get? b=some o→h'.get? b=some o)→D 0 h')(hD:∀i (h h':Heap),D i h→(∀b o,b≤s.heap.objs.size→h.get? b=some o→h'.get? b=some o)→D i h')(step:∀i (s':Shared) (E:Value→Shared→Prop) (Q:Unit→Shared→Prop),i<items.size→D i s'.heap→(∀h' tk,s'.toks≤tk→SameBut s.heap.objs.size s'.heap h'→D (i+1) h'→Q () {s' with heap:=h',toks:=tk}) →
   wpAny (model prog w) A.in1.in1 (dictSet s.heap.objs.size (kk i) (vv i)) Q E s')(h:∀h' tk,D items.size h'→(∀b o,s.heap.get? b=some o→h'.get? b=some o)→Q (.ref s.heap.objs.size) {s with heap:=h',toks:=tk}):
  wpAny (model prog w) A (call (.type "dict") [.ref l]) Q E s:=by
 refine callType_codes (Q₁:=λobj s₁=>obj=.ref s.heap.objs.size∧s₁={s with heap:=s.heap.push {cls:=.type "dict",data:=.dict #[]}}) F.kt_called_dict (F.kt_typeCall_dict_1 _) F.entry_dict_init (kt_code_dict_new _ ⟨rfl,rfl⟩) ?_;rintro obj s₁ ⟨rfl,rfl⟩;have hnew:(s.heap.push {cls:=.type "dict",data:=.dict #[]}).get? s.heap.objs.size=some {cls:=.type "dict",data:=.dict #[]}:=get?_push_size _ rfl;have hTd:Shared.TypeIs {s with heap:=s.heap.push {cls:=.type "dict",data:=.dict #[]}} (.ref s.heap.objs.size) "dict":=⟨_,hnew,rfl⟩
 have hl':(s.heap.push {cls:=.type "dict",data:=.dict #[]}).get? l=some {cls:=.type "list",dict:=none,data:=.seq items nl,slots:=sl}:=get?_push_of_some _ hl;have hTl:Shared.TypeIs {s with heap:=s.heap.push {cls:=.type "dict",data:=.dict #[]}} (.ref l) "list":=⟨_,hl',rfl⟩
 refine⟨hTd,F.args_dict_init_2 _ _,?_⟩;unfold Builtin.«dict.__init__»;refine wpAny_bind ?_;unfold Builtin.Dict.selfAndRest;refine wpAny_bind (wpAny_notOrdered_dict hTd ?_);show wpAny _ _ (pure (s.heap.objs.size,[Value.ref l])) _ _ _;refine wpAny_pure ?_;show wpAny _ _ (Builtin.Dict.updateFrom "dict.__init__" s.heap.objs.size (.ref l) [] .none) _ _ _;unfold Builtin.Dict.updateFrom;refine wpAny_bind (wpAny_typeOf hTl ?_);rw[if_pos (by decide)];refine wpAny_bind (sE (s:={s with heap:=s.heap.push {cls:=.type "dict",data:=.dict #[]}}) hl' (show A.in1.in1.handled=none by simp[hh]) λh1 tk1 hk1=>?_);have hk1':∀b o,(s.heap.push {cls:=.type "dict",data:=.dict #[]}).get? b=some o→h1.get? b=some o:=hk1;have hL1:h1.IsList l items:=⟨_,hk1' _ _ hl',rfl,nl,rfl⟩;rw[if_pos (show(none:Option Value).isNone=true from rfl)];refine wpAny_bind (wpAny_rule ?_);refine wpAny_bind (wpAny_pyIter_list hL1 ?_);have hlS:l<s.heap.objs.size:=lt_size hl;have hS1:s.heap.objs.size<h1.objs.size:=lt_size (hk1' _ _ hnew);have k0:∀b o,s.heap.get? b=some o→h1.get? b=some o:=λb o e=>hk1' b o (get?_push_of_some _ e);have hadlt:∀i,i<items.size→ad i<s.heap.objs.size:=λi hi'=>by
  obtain⟨o,ho,_⟩:=ht i hi';exact lt_size ho
 refine wpAny_pure ⟨plainId_quiet eG _,pz (A:=A.in1) ((Walks.list (show A.in1.in1.handled=none by simp[hh]) h1.objs.size l (ne_of_lt (lt_trans hlS hS1)) items).toS) s.heap.objs.size ?hdf ad kk vv hi ?had D ?hD' (λi s' E Q hi' hDi hq=>step i s' E Q hi' hDi hq)
  (items.size-0) 0 _ 0 (by omega) (zero_le _) ⟨⟨_,get?_push_size _ rfl,rfl,rfl⟩,hL1.push _⟩ ?hD0' ?ht' λs' hm hDn=>?_⟩
 case hdf =>
  simp only[mem_cons,not_mem_nil,or_false,not_or];exact⟨ne_of_lt hS1,ne_of_gt hlS⟩
 case had =>
  intro i hi';simp only[mem_cons,not_mem_nil,or_false,not_or];exact⟨ne_of_lt (hadlt i hi'),ne_of_lt (lt_trans (hadlt i hi') hS1)⟩
 case hD' =>
  intro i g g' hDi hk;refine hD i g g' hDi λb o hb e=>hk b o ?_ e;simp only[mem_cons,not_mem_nil,or_false];exact ne_of_lt (lt_of_le_of_lt hb hS1)
 case hD0' =>
  exact hD0 _ (get?_push_of_some _ (hk1' _ _ hnew)) λb o e=>get?_push_of_some _ (k0 b o e)
 case ht' =>
  intro j hj;obtain⟨o,ho,r⟩:=ht j hj;exact⟨o,get?_push_of_some _ (k0 _ _ ho),r⟩
 obtain⟨h',g',d',tk',os'⟩:=s';have eg:g'=s.gens:=hm.gens;have ed:d'=s.drawn:=hm.drawn;have eo:os'=s.os:=hm.os;subst eg;subst ed;subst eo;refine⟨rfl,h h' tk' hDn λb o e=>?_⟩;have hb:b<s.heap.objs.size:=lt_size e;refine hm.heap b o ?_ (get?_push_of_some _ (k0 b o e));simp only[mem_cons,not_mem_nil,or_false,not_or];exact⟨ne_of_lt hb,ne_of_lt (lt_trans hb hS1)⟩
end
end DL
namespace L2
open PySem PySem.Spec PyProof.Rows
section
variable{X:Cx}
theorem vm{pins:List (Addr×Obj)}{σ:St}{H:Hp}{s:Shared}(I:Inv X pins σ H s){a:Addr}{x y:V}(h:H a=some (.tup [x,y])):∃u v,aS x u∧aS y v∧IsTup s.heap a #[u,v]:=by
 obtain⟨_,its,r,ht⟩:=I.hok a _ h;cases r with
 |cons r1 r =>
  cases r with
  |cons r2 r=>cases r;exact⟨_,_,r1,r2,by simpa using ht⟩
theorem lz{κ:Type}{pins:List (Addr×Obj)}{σ:St}{H:Hp}{s:Shared}(I:Inv X pins σ H s){zs:List (Addr×κ×V)}(kf:Addr×κ×V→V)(hk:∀z∈zs,H z.1=some (.tup [kf z,z.2.2])):
  ∃f:Addr×κ×V→Value×Value,∀z∈zs,aS (kf z) (f z).1∧aS z.2.2 (f z).2∧IsTup s.heap z.1 #[(f z).1,(f z).2]:=by
 have hch:∀z:Addr×κ×V,∃p:Value×Value,z∈zs→aS (kf z) p.1∧aS z.2.2 p.2∧IsTup s.heap z.1 #[p.1,p.2]:=λz=>by
  by_cases hz':z∈zs
  ·obtain⟨u,v,a,b,c⟩:=vm I (hk z hz');exact⟨(u,v),λ_=>⟨a,b,c⟩⟩
  ·exact⟨(.none,.none),λh=>absurd h hz'⟩
 exact⟨λz=>Classical.choose (hch z),λz hz=>Classical.choose_spec (hch z) hz⟩
theorem dB{α:Type}{l:List α}{i:Nat}{d:α}(h:i<l.length):l.getD i d∈l∧l[i]?=some (l.getD i d):=by
 rw[getD_eq_getElem?_getD,getElem?_eq_getElem h];exact⟨getElem_mem h,rfl⟩
theorem jG{κ:Type}{zs:List (Addr×κ×V)}{d:Addr×κ×V}{i:Nat}{v:Value}(h:(((zs.map (·.1)).map Value.ref).toArray)[i]?=some v):v=Value.ref (zs.getD i d).1:=by
 have h':((zs.map (·.1)).map Value.ref)[i]?=some v:=by simpa using h
 rw[getElem?_map,getElem?_map]at h';rw[getD_eq_getElem?_getD];cases e:zs[i]? with
 |none=>rw[e]at h';cases h'
 |some z=>rw[e]at h';exact(Option.some.inj h').symm
theorem bH{α:Type}{l:List α}{i:Nat}{x:α}(h:l[i]?=some x):l.take (i+1)=l.take i++[x]:=by rw[take_succ,h];rfl
theorem pA{α κ:Type}{l:List α}{f:α→κ}{i:Nat}{x:α}(hn:(l.map f).Nodup)(h:l[i]?=some x):f x∉(l.take i).map f:=by
 intro hm;obtain⟨y,hy,e⟩:=mem_map.mp hm;obtain⟨j,hj,e2⟩:=List.mem_iff_getElem.mp hy;have hj':j<i:=by rw[length_take]at hj;omega
 have hi:i<l.length:=(List.getElem?_eq_some_iff.mp h).1;have e3:(l.map f)[j]'(by rw[length_map];omega)=(l.map f)[i]'(by rw[length_map];omega):=by
  rw[List.getElem_map,List.getElem_map];rw[List.getElem_take]at e2;rw[e2,e,(List.getElem?_eq_some_iff.mp h).2]
 have:=(getElem_inj hn).mp e3;omega
theorem iq(hc:X.calm=true):du X (.type "dict") (λxs H Q=>∃l,∃zs:List (Addr×Key×V),xs=[.ref l]∧H l=some (.lst ((zs.map (·.1)).map V.ref))∧(∀z∈zs,H z.1=some (.tup [kV z.2.1,z.2.2]))∧zs.length≤1000 ∧
  (zs.map (·.2.1)).Nodup∧((∀d o,H d=none→Q (.ref d) (upd H d (.frz o (.dK (zs.map (·.2))))))∨∀d,H d=none→Q (.ref d) (upd H d (.dK (zs.map (·.2)))))):=by
 intro pins s σ H xs us Q I r h;obtain⟨l,zs,rfl,hl,hk,hz,hnd,q⟩:=h;obtain⟨u,rfl,ru⟩:=ip r;cases ru;obtain⟨_,its,nl,rv,ho⟩:=I.hok l _ hl;have e:=dk rv;subst e;obtain⟨f,hf⟩:=lz I (λz=>kV z.2.1) hk;have hsz:(((zs.map (·.1)).map Value.ref).toArray).size=zs.length:=by simp
 refine DL.eW (s:=s) (I.ok.hd hc) ho (λi=>(zs.getD i (0,.inl 0,.non)).1) (λi=>(f (zs.getD i (0,.inl 0,.non))).1) (λi=>(f (zs.getD i (0,.inl 0,.non))).2) (λi v hv=>jG hv) (λi hi=>?_)
  (λi h'=>h'.DictOf (bb X.prog X.w) s.heap.objs.size ((zs.take i).map λz=>(z.2.1,(f z).2))) (λh' hg _=>?_) (λi g g' hd hk=>?_) (λi s' E Q hi hd hq=>?_) λh' tk hd hkeep=>?_
 ·rw[hsz]at hi;exact(hf _ (dB hi).1).2.2
 ·exact⟨_,#[],0,hg,⟨rfl,rfl,rfl⟩,rfl,λ_ he=>by simp at he,Pairs.nil,nodup_nil⟩
 ·obtain⟨o,es,ep,ho,r⟩:=hd;exact⟨o,es,ep,hk _ o (le_refl _) ho,r⟩
 ·rw[hsz]at hi;obtain⟨hm,hg⟩:=dB (d:=((0,.inl 0,.non):Addr×Key×V)) hi;refine wpAny_dictSet_pairs (hsz:=by rw[length_map,length_take];have:=aG hz;omega) (k:=(zs.getD i (0,.inl 0,.non)).2.1) (fJ (hf _ hm).1) hd λh' hd' hs=>hq h' _ (le_succ _) hs ?_;have e1:=bH hg;have e2:=pA hnd hg;rw[e1,map_append];unfold stored at hd';rw[if_neg]at hd'
  ·exact hd'
  ·intro ha;obtain⟨p,hp,he⟩:=any_eq_true.mp ha;obtain⟨z,hz',rfl⟩:=mem_map.mp hp;exact e2 (mem_map.mpr ⟨z,hz',of_decide_eq_true he⟩)
 ·rw[hsz,take_length]at hd;obtain⟨ob,hob⟩:∃ob,h'.get? s.heap.objs.size=some ob:=let⟨o,_,_,ho,_⟩:=hd;⟨o,ho⟩;have hrel:KV (zs.map (·.2)) (zs.map λz=>(z.2.1,(f z).2)):=by
   have:∀ys:List (Addr×Key×V),(∀z∈ys,z∈zs)→KV (ys.map (·.2)) (ys.map λz=>(z.2.1,(f z).2)):=by
    intro ys
    induction ys with
    |nil=>intro _;exact .nil
    |cons z ys ih=>intro hm;exact .cons ⟨rfl,(hf z (hm z (by simp))).2.1⟩ (ih λy hy=>hm y (by simp[hy]))
   exact this zs λz hz=>hz
  have hdk:∀H':Hp,bw X.prog X.w H' h' s.heap.objs.size (.dK (zs.map (·.2))):=λH'=>iQ (le_of_lt (aG (by rw[length_map];exact hz))) (beq_eq_false_iff_ne.mpr (symm (ne_of_lt I.big))) hrel hd;rcases q with q|q
  ·exact⟨.ref s.heap.objs.size,_,I.laid (t':=tk) (o:=.frz ob (.dK (zs.map (·.2)))) hkeep (le_refl _) ⟨hob,hdk _⟩,rfl,q _ ob (I.hok.fresh (le_refl _))⟩
  ·exact⟨.ref s.heap.objs.size,_,I.laid (t':=tk) (o:=.dK (zs.map (·.2))) hkeep (le_refl _) (hdk _),rfl,q _ (I.hok.fresh (le_refl _))⟩
theorem mS(hc:X.calm=true):du X (.type "dict") (λxs H Q=>∃l,∃zs:List (Addr×Key×V),xs=[.ref l]∧H l=some (.lst ((zs.map (·.1)).map V.ref))∧(∀z∈zs,H z.1=some (.tup [kV z.2.1,z.2.2]))∧zs.length≤1000∧(zs.map (·.2.1)).Nodup∧∀d o,H d=none→Q (.ref d) (upd H d (.frz o (.dK (zs.map (·.2)))))) :=
 λpins s σ H xs us Q I r ⟨l,zs,h1,h2,h3,h4,h5,q⟩=>iq hc pins s σ H xs us Q I r ⟨l,zs,h1,h2,h3,h4,h5,.inl q⟩
theorem eX(hc:X.calm=true):du X (.type "dict") (λxs H Q=>∃l,∃zs:List (Addr×Key×V),xs=[.ref l]∧H l=some (.lst ((zs.map (·.1)).map V.ref))∧(∀z∈zs,H z.1=some (.tup [kV z.2.1,z.2.2]))∧zs.length≤1000∧(zs.map (·.2.1)).Nodup∧∀d,H d=none→Q (.ref d) (upd H d (.dK (zs.map (·.2))))) :=
 λpins s σ H xs us Q I r ⟨l,zs,h1,h2,h3,h4,h5,q⟩=>iq hc pins s σ H xs us Q I r ⟨l,zs,h1,h2,h3,h4,h5,.inr q⟩
end
def vn(h:Heap)(d:Addr)(es:Array DictEntry)(ep:Nat):Prop:=∃o,h.get? d=some o∧o.ExactDict∧o.data=.dict es ep
section
variable{prog:Program}{w:World}{A:Around}{E:Value→Shared→Prop}{s:Shared}
theorem lA{d:Addr}{es:Array DictEntry}{ep:Nat}{Q:Value→Shared→Prop}(hd:(d==sysModules)=false)(hm:vn s.heap d es ep)(hQ:Q (.ref s.heap.objs.size) {s with heap:=s.heap.push {cls:=.type "dict_keyiterator",data:=.fields #[.ref d,.int 0 0,.int es.size 0,.int ep 0]}}):
  wpAny (model prog w) A (pyIter (.ref d)) Q E s:=by
 obtain⟨o,ho,hc,hdat⟩:=id hm;have hT:s.TypeIs (.ref d) "dict":=⟨o,ho,hc.1⟩;refine wpAny_pyIter_slot hT PySem.F.slot_dict_iter (wpAny_call_entry PySem.F.slot_dict_iter hT PySem.F.entry_dict_iter ?_ (PySem.F.args_dict_iter_1 _));unfold Builtin.«dict.__iter__»;refine wpAny_bind ?_;unfold Builtin.Dict.dictSlotNone;refine wpAny_bind (wpAny_notOrdered_dict hT ?_);show wpAny _ _ (pure (Value.ref d)) _ _ s;refine wpAny_pure ?_;show wpAny _ _ (Builtin.Dict.showsAll d >>= _) _ _ s;unfold Builtin.Dict.showsAll;rw[if_neg (by rw[hd];exact Bool.false_ne_true)];refine wpAny_bind (wpAny_pure ?_);refine wpAny_bind (wpAny_dictEntries ho hdat ?_);refine wpAny_bind (wpAny_dictEpoch ho hdat ?_);refine wpAny_bind (wpAny_newObj_type (wpAny_pure ⟨_,rfl,"dict_keyiterator",_,⟨_,get?_push_size _ rfl,rfl⟩,slot_dict_keyiterator_next.lookup,?_⟩));simpa [rawInt]using hQ
theorem qq{it d:Addr}{i ep:Nat}{es:Array DictEntry}{e:DictEntry}{Q:Option Value→Shared→Prop}(hit:s.heap.IsKeyIter it d i es.size ep)(hm:vn s.heap d es ep)(hx:es[i]?=some e)(hQ:∀h',h'.IsKeyIter it d (i+1) es.size ep→SameBut it s.heap h'→Q (some e.key) {s with heap:=h'}):
  wpAny (model prog w) A (pyNext (.ref it)) Q E s:=by
 obtain⟨o,ho,hc,hd⟩:=id hit;obtain⟨od,hod,hcd,hdd⟩:=id hm;unfold pyNext;refine wpAny_bind (wpAny_attempt (wpAny_callSpecial?_slot (name:=ofString "__next__") hit.typeIs slot_dict_keyiterator_next
  (wpAny_call_entry slot_dict_keyiterator_next hit.typeIs PySem.F.entry_dict_keyiterator_next ?_ (PySem.F.args_dict_keyiterator_next_1 _))))
 refine wpAny_bind (wpAny_pure ?_);refine wpAny_bind ?_;refine wpAny_bind ?_
 first|refine wpAny_bind (wpAny_typeNameOfWhole_keyiter hit.typeIs (wpAny_pure ?_))|refine wpAny_bind (wpAny_typeNameOf_keyiter hit.typeIs (wpAny_pure ?_))
 refine wpAny_bind (wpAny_fieldsOf ho hd ?_);have hown:Builtin.Dict_items.ownsTuple "dict_keyiterator"=false:=by decide
 simp only[hown,false_eq_true,if_false];show wpAny _ _ (if (Value.ref d==Value.none)=true then _ else _) _ _ s
 rw[if_neg (show ¬((Value.ref d==Value.none)=true)from Bool.false_ne_true)];refine wpAny_bind (wpAny_pure ?_);refine wpAny_bind (wpAny_dictEntries hod hdd ?_);rw[if_neg (by simp)];refine wpAny_bind (wpAny_pure ?_);refine wpAny_bind (wpAny_dictEpoch hod hdd ?_);rw[if_neg (by simp)];refine wpAny_pure ?_;have hlt':i<es.size:=(Array.getElem?_eq_some_iff.mp hx).1;have he:es[i]=e:=(Array.getElem?_eq_some_iff.mp hx).2;simp only[show ¬((i:Int)<0)from by omega,if_false,Int.toNat_natCast,Array.getElem?_eq_getElem hlt'];refine wpAny_bind ?_
 first|refine wpAny_bind (wpAny_typeNameOfWhole_keyiter hit.typeIs (wpAny_pure ?_))|refine wpAny_bind (wpAny_typeNameOf_keyiter hit.typeIs (wpAny_pure ?_))
 refine wpAny_bind (wpAny_isOneOf_keyiter hit.typeIs ?_);show wpAny _ _ (setField (.ref it) 1 (rawInt ((i:Int)+1)) >>= _) _ _ s;refine wpAny_bind (wpAny_setField ho hd (by simp) ?_);have hit':(s.heap.update it (Obj.mapFields (·.setIfInBounds 1 (rawInt ((i:Int)+1))))).IsKeyIter it d (i+1) es.size ep :=
  ⟨_,Heap.get?_update_self _ ho (Obj.isFreed_of_fields (Obj.data_mapFields hd _)),(Obj.cls_mapFields ..).trans hc,by rw[Obj.data_mapFields hd];simp[rawInt]⟩
 refine wpAny_bind (wpAny_holding ?_);refine wpAny_bind (wpAny_isOneOf_keyiter (s:={s with heap:=s.heap.update it (Obj.mapFields (·.setIfInBounds 1 (rawInt ((i:Int)+1))))}) hit'.typeIs ?_)
 show wpAny _ _ (pure es[i].key) _ _ _;rw[he];exact wpAny_pure (wpAny_pure ⟨_,rfl,wpAny_pure (hQ _ hit' (SameBut.update ..))⟩)
theorem sF{it d:Addr}{i ep:Nat}{es:Array DictEntry}{Q:Option Value→Shared→Prop}(hh:A.handled=none)(hit:s.heap.IsKeyIter it d i es.size ep)(hm:vn s.heap d es ep)(hge:es.size≤i)(hQ:∀h',Heap.ExtBut it s.heap h'→Q none {s with heap:=h'}):wpAny (model prog w) A (pyNext (.ref it)) Q E s:=by
 obtain⟨o,ho,hc,hd⟩:=id hit;obtain⟨od,hod,hcd,hdd⟩:=id hm;unfold pyNext;refine wpAny_bind (wpAny_attempt (wpAny_callSpecial?_slot (name:=ofString "__next__") hit.typeIs slot_dict_keyiterator_next
  (wpAny_call_entry slot_dict_keyiterator_next hit.typeIs PySem.F.entry_dict_keyiterator_next ?_ (PySem.F.args_dict_keyiterator_next_1 _))))
 refine wpAny_bind (wpAny_pure ?_);refine wpAny_bind ?_;refine wpAny_bind ?_
 first|refine wpAny_bind (wpAny_typeNameOfWhole_keyiter hit.typeIs (wpAny_pure ?_))|refine wpAny_bind (wpAny_typeNameOf_keyiter hit.typeIs (wpAny_pure ?_))
 refine wpAny_bind (wpAny_fieldsOf ho hd ?_);have hown:Builtin.Dict_items.ownsTuple "dict_keyiterator"=false:=by decide
 simp only[hown,false_eq_true,if_false];show wpAny _ _ (if (Value.ref d==Value.none)=true then _ else _) _ _ s
 rw[if_neg (show ¬((Value.ref d==Value.none)=true)from Bool.false_ne_true)];refine wpAny_bind (wpAny_pure ?_);refine wpAny_bind (wpAny_dictEntries hod hdd ?_);rw[if_neg (by simp)];refine wpAny_bind (wpAny_pure ?_);refine wpAny_bind (wpAny_dictEpoch hod hdd ?_);rw[if_neg (by simp)];refine wpAny_pure ?_;simp only[show ¬((i:Int)<0)from by omega,if_false,Int.toNat_natCast,Array.getElem?_eq_none hge];refine wpAny_bind ?_
 first|refine wpAny_bind (wpAny_typeNameOfWhole_keyiter hit.typeIs (wpAny_pure ?_))|refine wpAny_bind (wpAny_typeNameOf_keyiter hit.typeIs (wpAny_pure ?_))
 show wpAny _ _ (setField (.ref it) 0 .none >>= _) _ _ s;refine wpAny_bind (wpAny_setField ho hd (by simp) ?_);show wpAny _ _ (newExc (.type "StopIteration") [] >>= _) _ _ _;refine wpAny_bind ?_;simp only[newExc,newTuple];refine wpAny_bind (wpAny_newObj_type ?_ (by size_fits));refine wpAny_bind (m:=firstArgMember _ _) (wpAny_of_eq (a:=Value.none) (by first|rfl|(simp only[firstArgMember];rfl)) ?_)
 refine wpAny_newObj_type ?_ (by size_fits);simp only[raiseNew];refine wpAny_bind (wpAny_handled ?_);rw[show A.in1.handled=none from hh];refine wpAny_bind (wpAny_pure (wpAny_throw ?_));refine wpAny_bind (wpAny_isInstance (T:="StopIteration") (b:=true) ⟨_,get?_push_size _ rfl,rfl⟩ isSubtype_stop ?_);exact wpAny_pure (hQ _ (((SameBut.update ..).extBut.push _).push _))
end
def Itk(d:Addr)(o:Obj)(u:HO)(ks:List V):It:=⟨λi H=>H d=some (.frz o u)∧i<ks.length,λi H x H'=>H'=H∧ks[i]?=some x,λi H=>H d=some (.frz o u)∧ks.length≤i⟩
theorem jH{P:Program}{w:World}{K:PySem.W.Frag}{tg:Expr}{d it:Addr}{o:Obj}{u:HO}{es:Array DictEntry}{ep:Nat}{ks:List V}(hx:o.ExactDict)(hd:o.data=.dict es ep)(hv:aN ks (es.toList.map (·.key))):
  Turn P w K tg (Itk d o u ks) [it] it (λi h=>h.IsKeyIter it d i es.size ep) where
 mem:=by simp
 obj:=λi h st b hb=>by
  have e:b=it:=by simpa using hb
  subst e;obtain⟨o,e,c,d⟩:=st;exact⟨o,e,λv z=>by rw[d]at z;cases z⟩
 keep:=λi h h' st k=>st.at λo e=>k it (by simp) o e
 item:=by
  intro X hP hw hK hc i pins s σ H E I hf st hg;subst hP hw hK;obtain⟨hH,hi⟩:=hg;have ho:=(I.hok d _ hH).1;have hl:ks.length=es.size:=by rw[hv.length,length_map,length_toList]
  have hi':i<es.size:=by omega
  obtain⟨v,hv1,hv2⟩:=hv.get (getElem?_eq_getElem hi);obtain⟨f0,f1,f2,f3,f4,f5⟩:=hf it (by simp);have ev:v=es[i].key:=by
   rw[getElem?_map,getElem?_toList,Array.getElem?_eq_getElem hi']at hv1;exact(Option.some.inj hv1).symm
  refine qq st ⟨o,ho,hx,hd⟩ (Array.getElem?_eq_getElem hi') λh' st' sb=>?_;have I1:Inv X pins σ H {s with heap:=h'}:=I.turned (t':=s.toks) (λb o hb e=>(sb.2 b hb).trans e) f0 f1 f3 f4 f5
  obtain⟨oi,e,c,dd⟩:=id st';exact⟨_,rfl,nI (s:={s with heap:=h'}) e c dd (by decide) ⟨ks[i],H,I1,ev ▸ hv2,⟨rfl,getElem?_eq_getElem hi⟩,st',λb hb=>(hf b hb).1⟩⟩
 done:=by
  intro X hP hw hK hc i pins s σ H E I hf st hg;subst hP hw hK;obtain⟨hH,hi⟩:=hg;have ho:=(I.hok d _ hH).1;have hl:ks.length=es.size:=by rw[hv.length,length_map,length_toList]
  obtain⟨f0,f1,f2,f3,f4,f5⟩:=hf it (by simp);exact sF (I.ok.hd hc) st ⟨o,ho,hx,hd⟩ (by omega) λh' eb=>⟨rfl,I.turned (t':=s.toks) (λb o hb e=>eb b o hb e) f0 f1 f3 f4 f5⟩
 self:=λ_ _ _ _ _ st h=>wpAny_pyIter_keyiter st h
section
variable{X:Cx}{tg:Expr}
def iDF(td:TE):TI:=λσ H R=>td σ H λv H1=>∃d o kvs,v=.ref d∧H1 d=some (.frz o (.dK kvs))∧R (Itk d o (.dK kvs) (kvs.map λp=>kV p.1)) H1
theorem fQ{l:Expr}{tl:TE}(hl:PE X l tl):PI X tg l (iDF tl):=by
 intro pins s σ H R I h;refine thn (hl pins s σ H _ I h) λv s1 hpt=>?_;obtain⟨x,H1,I1,r1,q1⟩:=hpt;obtain⟨d,o,kvs,e,hH,q⟩:=q1;subst e;cases r1;obtain⟨ho,_,hsm,vs,rel,o',es,ep,ho',hx,hd,hk,hp,hn⟩:=I1.hok d _ hH;rw[ho]at ho';cases ho';refine lA hsm ⟨o,ho,hx,hd⟩ ?_;refine⟨s1.heap.objs.size,[s1.heap.objs.size],_,_,H1,rfl,I1.kept (t':=s1.toks) λb o e=>get?_push_of_some _ e,jH hx hd ?_,⟨_,get?_push_size _ rfl,rfl,rfl⟩,λb hb=>?_,q⟩
 ·have key:∀(es:List DictEntry)(vs:List (Key×Value))(kvs:List (Key×V)),Pairs (bb X.prog X.w) es vs→KV kvs vs→aN (kvs.map λp=>kV p.1) (es.map (·.key)):=by
   intro es vs kvs hp
   induction hp generalizing kvs with
   |nil=>intro r;cases r;exact .nil
   |cons h1 h2 _ ih =>
    intro r;cases r with
    |cons r1 r2 =>
     refine .cons ?_ (ih _ r2);dsimp only;rw[r1.1];rcases bp h1 with⟨i,t,e1,e2⟩|⟨x,t,e1,e2⟩
     ·rw[e1,e2];exact⟨t,rfl⟩
     ·rw[e1,e2];exact⟨t,rfl⟩
  exact key _ _ _ hp rel
 ·have e:b=s1.heap.objs.size:=by simpa using hb
  subst e;exact I1.fpOk (le_refl _) (I1.hok.fresh (le_refl _))
end
section
variable{prog:Program}{w:World}{A:Around}{E:Value→Shared→Prop}{s:Shared}
end
section
variable{X:Cx}
end
end L2
namespace HT
open PySem PyProof.Rows
section
open PySem.SeqAt
open PySem.AutoSeq1 (wpAny_loadPart')
open PySem.MeetsSeq PySem.MeetsSeq2 PySem.MeetsSeq3
end
section
variable{prog:Program}{w:World}{A:Around}{E:Value→Shared→Prop}{s:Shared}
end
end HT
namespace L2
open PySem PySem.Spec PyProof.Rows
section
variable{X:Cx}{pins:List (Addr×Obj)}{σ:St}{H:Hp}{s:Shared}
theorem pB{α:Type}{zs:List α}{val:α→V}{d:α}:∀{us:List Value},aN (zs.map val) us→∀(ps:List Nat),(∀i∈ps,i<zs.length)→aN ((ps.map λi=>zs.getD i d).map val) (ps.map λi=>us.getD i Value.none):=by
 intro us rv ps
 induction ps with
 |nil=>intro _;exact .nil
 |cons i ps ih =>
  intro h;refine .cons ?_ (ih λj hj=>h j (by simp[hj]));have hi:=h i (by simp);obtain⟨u,hu,r⟩:=rv.get (i:=i) (x:=val (zs.getD i d)) (by rw[getElem?_map,(dB (d:=d) hi).2];rfl);have:us.getD i Value.none=u:=by rw[getD_eq_getElem?_getD,hu];rfl
  show aS (val (zs.getD i d)) (us.getD i Value.none);rw[this];exact r
theorem lB{α:Type}{zs:List α}{val:α→V}{d:α}{us:List Value}{f:α→α→Bool}{l:Addr}{pins:List (Addr×Obj)}{σ:St}{H:Hp}{s:Shared}{Q:VK}{κ:SortKind}{E:Value→Shared→Prop}(I:Inv X pins σ H s)(rv:aN (zs.map val) us)(O:SRT.Ord (λi j=>f (zs.getD i d) (zs.getD j d)) zs.length)(pl:s.heap.IsList l us.toArray)(h64:zs.length<64)(hk:∀(A':Around) (s':Shared),A'.units≤X.A.units+2→(∀b o,s.heap.get? b=some o→s'.heap.get? b=some o)→∀Q:SortKind→Shared→Prop,2≤zs.length→Q κ s'→wpAny (model X.prog X.w) A' (keyKind' us.toArray) Q (λ_ _=>False) s')(hlt:∀(A':Around) (s':Shared),A'.units≤X.A.units+2→(∀b o,s.heap.get? b=some o→s'.heap.get? b=some o)→∀(i j:Nat) (C:Bool→Shared→Prop),i<zs.length→j<zs.length→C (f (zs.getD i d) (zs.getD j d)) s'→wpAny (model X.prog X.w) A' (keyLt' κ (us.getD i Value.none) (us.getD j Value.none)) C (λ_ _=>False) s')(q:∀zs':List α,zs'.Perm zs→zs'.Pairwise (λa b=>f a b=true)→∀p,H p=none→Q (.ref p) (upd H p (.lst (zs'.map val)))):wpAny (model X.prog X.w) X.A (call (.builtin "sorted") [.ref l]) (EP X pins σ Q) E s:=by
 have hlen:us.length=zs.length:=by rw[←rv.length,length_map]
 refine SRT.pr (κ:=κ) (f:=λi j=>f (zs.getD i d) (zs.getD j d)) (by rw[hlen];exact O) pl (by rw[hlen];exact h64) (λA' s' h1 h2 Q' h3=>hk A' s' h1 h2 Q' (by omega)) (λA' s' h1 h2 i j C hi hj=>hlt A' s' h1 h2 i j C (by omega) (by omega)) ?_;intro p h' hrow hup kp _ hg;obtain⟨c,hg⟩:=hg;rw[hlen]at hrow hup;have hin:∀i∈p.toList,i<zs.length:=λi hi=>mem_range.mp (hrow.perm.mem_iff.mp hi);have hperm:(p.toList.map λi=>zs.getD i d).Perm zs:=by
  refine(hrow.perm.map _).trans ?_;have:(List.range zs.length).map (λi=>zs.getD i d)=zs:=by
   apply ext_getElem?;intro i;rw[getElem?_map]
   by_cases hi:i<zs.length
   ·rw[List.getElem?_range hi,(dB (d:=d) hi).2];rfl
   ·rw[getElem?_eq_none (by rw[length_range];omega),getElem?_eq_none (by omega)];rfl
  rw[this]
 have hpl:p.size=zs.length:=hrow.size;have hpw:(p.toList.map λi=>zs.getD i d).Pairwise (λa b=>f a b=true):=by
  rw[List.pairwise_iff_getElem];intro i j hi hj hij;have hi':i<p.size:=by rw[length_map,length_toList]at hi;exact hi
  have hj':j<p.size:=by rw[length_map,length_toList]at hj;exact hj
  have:=hup i j hij (by omega);simp only[]at this;rw[getD_eq_getD_getElem?,getD_eq_getD_getElem?,Array.getElem?_eq_getElem hi',Array.getElem?_eq_getElem hj']at this;simpa using this
 refine⟨.ref (s.heap.objs.size+1),_,I.laid (t':=s.toks) (o:=.lst ((p.toList.map λi=>zs.getD i d).map val)) kp (le_succ _) ⟨?_,_,c,pB rv p.toList hin,hg⟩,rfl,q _ hperm hpw _ (I.hok.fresh (le_succ _))⟩;rw[length_map,hperm.length_eq,sizeLine_eq];omega
theorem sG{ns:List Int}{us:List Value}(r:aN (ns.map V.int) us):IntsAre us ns:=mG r
theorem ib:du X (.builtin "sorted") (λxs H Q=>∃l,∃ns:List Int,xs=[.ref l]∧H l=some (.lst (ns.map V.int))∧ns.Nodup∧ns.length<64 ∧
  ∀ms:List Int,ms.Perm ns→ms.Pairwise (λa b=>a<b)→∀p,H p=none→Q (.ref p) (upd H p (.lst (ms.map V.int)))):=by
 intro pins s σ H xs us Q I r h;obtain⟨l,ns,rfl,hl,hnd,h64,q⟩:=h;obtain⟨u,rfl,ru⟩:=ip r;cases ru;obtain⟨_,its,n,rv,ho⟩:=I.hok l _ hl;have hI:=sG rv;have hlen:its.length=ns.length:=by rw[←rv.length,length_map]
 refine lB (val:=V.int) (d:=(0:Int)) (f:=λa b=>decide (a<b)) (κ:=oneType') I rv ⟨λi _=>by simp,λi j k _ _ _ h1 h2=>?_,λi j hi hj hij=>?_⟩ ⟨_,ho,rfl,n,rfl⟩ h64 (λA' s' _ _ Q' h2 hQ=>?_) (λA' s' _ _ i j C hi hj hC=>?_) λzs' h1 h2 p hp=>q zs' h1 (h2.imp λh=>by simpa using h) p hp
 ·simp only[decide_eq_true_eq]at *;omega
 ·simp only[decide_eq_true_eq];have:ns.getD i 0≠ns.getD j 0:=by
   rw[getD_eq_getElem?_getD,getD_eq_getElem?_getD,getElem?_eq_getElem hi,getElem?_eq_getElem hj];exact λe=>hij ((getElem_inj hnd).mp e)
  omega
 ·rw[ksk_kind (keys:=its.toArray) (kz:=ns) (by simpa using hI) (by rw[size_toArray];omega)];exact wpAny_pure hQ
 ·have gi:∀i,i<ns.length→∃t,its.getD i Value.none=.int (ns.getD i 0) t:=λi hi=>by
   obtain⟨v,hv,r⟩:=rv.get (i:=i) (x:=.int (ns.getD i 0)) (by rw[getElem?_map,(dB (d:=(0:Int)) hi).2];rfl);obtain⟨t,rfl⟩:=r;exact⟨t,by rw[getD_eq_getElem?_getD,hv];rfl⟩
  obtain⟨t,e1⟩:=gi i hi;obtain⟨t',e2⟩:=gi j hj;rw[e1,e2];exact kat_lt_int hC
end
section
variable{prog:Program}{w:World}{A:Around}{E:Value→Shared→Prop}{s:Shared}
end
section
variable{P:Program}{w:World}
end
section
variable{X:Cx}{o e:Expr}{td ty:TE}{apos cpos:Pos}
end
def Ext(p:Addr)(H H':Hp):Prop:=∀b o,b≠p→H b=some o→H' b=some o
theorem Ext.of{p:Addr}{H H':Hp}(s:Same H H'):Ext p H H':=λb o _ e=>s b o e
theorem Ext.upd{p:Addr}{H:Hp}{o:HO}:Ext p H (upd H p o):=λb u hb e=>by rw[al hb];exact e
theorem Ext.trans{p:Addr}{H H1 H2:Hp}(a:Ext p H H1)(b:Ext p H1 H2):Ext p H H2:=λc o hc e=>b c o hc (a c o hc e)
def wL(te:TE):Prop:=∀σ H (Q Q':VK),(∀y H,Q y H→Q' y H)→te σ H Q→te σ H Q'
theorem qr{js:List Nat}{J:It}{te:TE}{σ:St}{H1:Hp}{Q:VK}{p:Addr}{fr:List (Option V)}(n:Nat)(hn:n≤1000)(hp:H1 p=none)(hfr:cA 1 js σ=none::fr)(R:Nat→V→Hp→Prop)(hR:∀i y H H',R i y H→Ext p H H'→R i y H')(go:∀i H',i<n→Same H1 H'→J.go i H')(stop:∀H',Same H1 H'→J.stop n H')(me:wL te)(step:∀i H' x H2,i<n→Same H1 H'→(∃ys,H' p=some (.lst ys))→J.yld i H' x H2→H2=H'∧te (some x::fr) H' λy H4=>Same H' H4∧R i y H4)(fin:∀ys H',Same H1 H'→H' p=some (.lst ys)→ys.length=n→(∀(j:Nat) y,ys[j]?=some y→R j y H')→Q (.ref p) H'):LcW 1 js (aZ 0) te σ Q J H1 p:=by
 refine ud (k:=1) (js:=js) (J:=J) (p:=p) n hn (λi ys σ' H'=>(∃o,σ'=o::fr)∧Same H1 H'∧H' p=some (.lst ys)∧ys.length=i∧∀(j:Nat) y,ys[j]?=some y→R j y H') ⟨⟨none,hfr⟩,af hp,ac,rfl,λj y h=>by simp at h⟩
  (λi ys σ' H' h=>by have:=h.2.2.2.1;omega) (λi ys σ' H' hi h=>go i H' hi h.2.1) (λys σ' H' h=>⟨stop H' h.2.1,fin ys H' h.2.1 h.2.2.1 h.2.2.2.1 h.2.2.2.2⟩) (λi ys σ' H' hi h x H2 hy=>?_) ?_ me
 ·obtain⟨⟨o,rfl⟩,s1,hl,hlen,hrs⟩:=h;obtain⟨rfl,ht⟩:=step i H' x H2 hi s1 ⟨ys,hl⟩ hy;refine me _ _ _ _ (λy H4 h4=>?_) ht;obtain⟨s4,r4⟩:=h4;refine⟨s4 _ _ hl,⟨some x,rfl⟩,aO hp (s1.trans s4),ac,by rw[length_append,hlen];rfl,λj z hz=>?_⟩;have ex:Ext p H2 (upd H4 p (.lst (ys++[y]))):=(Ext.of s4).trans Ext.upd
  by_cases hj:j<ys.length
  ·rw[List.getElem?_append_left hj]at hz;exact hR _ _ _ _ (hrs j z hz) ex
  ·rw[List.getElem?_append_right (by omega)]at hz;have hj':j-ys.length=0:=by
    cases e:j-ys.length with
    |zero=>rfl
    |succ m=>rw[e]at hz;simp at hz
   rw[hj']at hz;have ez:y=z:=by simpa using hz
   subst ez;have ej:j=i:=by omega
   subst ej;exact hR _ _ _ _ r4 Ext.upd
 ·intro _ _ _ _ _ m q;exact m _ _ q
theorem dC{H:Hp}{p q:Addr}(hp:∃ys,H p=some (.lst ys))(hq:H q=none):q≠p:=λe=>by
 obtain⟨ys,h⟩:=hp;rw[←e,hq]at h;cases h
section
variable{X:Cx}{N:List Str}{scope:Scope}{cl:List (Str×Addr)}{k:Nat}{js:List Nat}
theorem dm{elt tg iter c:Expr}{pos spos py:Pos}{y:Str}{ii:Nat}{wi:TI}{g:TG}{tc:TT}{te:TE}(hXN:X.N.Nodup)(hii:X.N[ii]?=some y)(hx:Loc X.env.scope y)(hc:X.calm=true)(L:LcOk X scope cl)(hN:N.length=k+js.length)(hj:∀(i j:Nat) x,js[i]?=some j→N[k+i]?=some x→X.N[j]?=some x∧Vis X.env.scope x∧X.env.scope.names.lookup x≠some .local∧((relabel scope X.env).names.lookup x=some .cell∨(relabel scope X.env).names.lookup x=some .free))(hi:PI X tg iter wi)(hg:∀s H fp,PG (cy X N scope cl s H fp) tg g)(ht:∀s H fp,PT (cy X N scope cl s H fp) c tc)(he:∀s H fp,PE (cy X N scope cl s H fp) elt te)(hs:∀x,foldedSetIterable iter X.env x=pure x:=by intro _;rfl)(hsw:swapsWith (.ListComp elt [⟨tg,iter,[c],0⟩] scope pos) (some (.Name y py)) spos.line X.env=pure true:=by rfl)(hf:X.fn y=true∨X.env.scope.names.lookup y=some .local:=by first|exact .inl rfl|exact .inr rfl|assumption):PS X (.Assign [.Name y py] (.ListComp elt [⟨tg,iter,[c],0⟩] scope pos) spos) (uI (vh k js wi g tc te) (aZ ii)):=by
 intro pins s σ H D I h;rw[exec_Assign_Name_used _ _ _ _ hsw];refine wpAny_bind (wpAny_standAt (wpAny_bind ?_));show wpAny _ X.A (do let _ ← comprehension (.ListComp elt [⟨tg,iter,[c],0⟩] scope pos) scope X.env _ (newList []) false (eval iter X.env) (some (assign (.Name y py) X.env))) _ _ s
 refine wpAny_bind (wpAny_mono (wpAny_comprehension_free (use:=some (assign (.Name y py) X.env)) (Q:=λ_ s'=>∃σ' H',Inv X pins σ' H' s'∧D.nx σ' H') rfl hs L.clos L.kind L.names ?_) (λ_ s' hq=>wpAny_pure (wpAny_pure hq)) λ_ _ e=>e);refine thn (hi pins s σ H _ I h) λv s1 h1=>thn h1 λitv s2 h2=>?_;obtain⟨it,fp,tn,J,H2,e,I2,T,st2,f2,hW⟩:=h2;subst e;have hfp:∀b∈fp,b<s2.heap.objs.size:=λb hb=>by
  obtain⟨o,e,_⟩:=T.obj _ _ st2 b hb;exact lt_size e
 refine wpAny_newObj_type (wpAny_newFunctionEnv L.nocell (by intro y hy;simp at hy) (λh₁ hns hsb=>?_) L.kind);dsimp only at hns hsb⊢;obtain⟨W,⟨m0,w0⟩,turn⟩:=hW s2.heap.objs.size (I2.hok.fresh (le_refl _));have I3:Inv X pins σ (upd H2 s2.heap.objs.size (.lst [])) {s2 with heap:=s2.heap.push {cls:=.type "list",dict:=none,data:=.seq ([]:List Value).toArray}}:=I2.lnew (t':=s2.toks) .nil (zero_le _)
 generalize hA:s2.heap.push {cls:=.type "list",dict:=none,data:=.seq ([]:List Value).toArray}=hpA at hns hsb I3⊢;have hszA:hpA.objs.size=s2.heap.objs.size+1:=by rw[←hA,size_push]
 have keepA:∀b o,s2.heap.get? b=some o→hpA.get? b=some o:=λb o e=>by rw[←hA];exact get?_push_of_some _ e
 have f3:∀b∈fp,dJ X pins (upd H2 s2.heap.objs.size (.lst [])) b:=λb hb=>⟨by rw[al (ne_of_lt (hfp b hb))];exact(f2 b hb).1,(f2 b hb).2⟩;have hfp3:∀b∈fp,b<hpA.objs.size:=λb hb=>by rw[hszA];exact lt_succ_of_lt (hfp b hb)
 have keep1:∀b o,hpA.get? b=some o→h₁.get? b=some o:=λb o e=>hsb.extBut b o (ne_of_lt (lt_size e)) (get?_push_of_some _ e);have J0:=gJ (N:=N) (k:=k) (js:=js) (tk:=s2.toks+([]:List (Str×Value)).length) I3 L f3 hfp3 ⟨_,hns⟩ keep1 hN hj;have st1:tn 0 h₁:=T.keep _ _ _ st2 λb hb o e=>keep1 b o (keepA b o e);have stat:∀{H':Hp},(∀b∈fp,H' b=none)→∀b∈fp,dJ (cy X N scope cl {s2 with heap:=hpA} (upd H2 s2.heap.objs.size (.lst [])) fp) [] H' b:=λhn b hb =>
  ⟨hn b hb,ne_of_lt (hfp3 b hb),(ll (N:=N) I3 L f3 hfp3).exfs b hb,.inl hb,λx c h=>(f3 b hb).2.2.2.2.1 x c (L.cells x c h),λp hp=>absurd (show p∈([]:List (Addr×Obj))from hp) (by simp)⟩
 have loop:codeAny (model X.prog X.w) X.A (.compLoop (.ListComp elt [⟨tg,iter,[c],0⟩] scope pos) 0 (.ref it) (.ref s2.heap.objs.size) (compEnvC scope cl hpA.objs.size X.env))
   (compPost (model X.prog X.w) X.A X.xe (some (assign (.Name y py) X.env)) (λ_ s'=>∃σ' H',Inv X pins σ' H' s'∧D.nx σ' H') (.ref s2.heap.objs.size) hpA.objs.size) {s2 with heap:=h₁,toks:=s2.toks+([]:List (Str×Value)).length}:=by
  refine iS (λn s'=>∃i ys σ' H',Inv (cy X N scope cl {s2 with heap:=hpA} (upd H2 s2.heap.objs.size (.lst [])) fp) [] σ' H' s'∧tn i s'.heap∧(∀b∈fp,H' b=none)∧W i n ys σ' H') ?_ m0 ⟨0,[],_,_,J0,st1,λb hb=>(f3 b hb).1,w0⟩
  rintro n s3 ⟨i,ys,σ3,H3,J3,st3,fr3,w3⟩;rcases turn i n ys σ3 H3 w3 with⟨stop,qn⟩|⟨go,hlen,step⟩
  ·refine thn (T.done (cy X N scope cl {s2 with heap:=hpA} (upd H2 s2.heap.objs.size (.lst [])) fp) rfl rfl rfl hc i [] s3 σ3 H3 (λ_ _=>False) J3 (stat fr3) st3 stop) λr s4 hpt=>?_
   obtain⟨hr,J4⟩:=hpt;subst hr;obtain⟨m,hm,_⟩:=J4.loc;have I4:Inv X pins σ H3 s4:=kh I3 f3 J4 (SameBut.refl _ _);obtain⟨f0,f1,f2,f3',f4,f5⟩:=I3.fpOk (b:=hpA.objs.size) (le_refl _) (H':=H3) J4.free;show wpAny _ _ (assign (.Name y py) X.env (.ref s2.heap.objs.size)) _ _ _;refine wpAny_assign_Name (hJ I4 hXN hii hx (v:=.ref s2.heap.objs.size) rfl (λs5 I5 ⟨a,sb,ha⟩=>⟨m,hm.sameBut sb ?_,λh' hs'=>⟨_,H3,I5.turned (t':=s5.toks) (λb o hb e=>(hs'.2 b hb).trans e) f0 f1 f3' f4 f5,qn⟩⟩) hf);rcases ha with e|e
   ·rw[e];exact f1
   ·exact λz=>f4 _ _ e z.symm
  ·refine thn (T.item (cy X N scope cl {s2 with heap:=hpA} (upd H2 s2.heap.objs.size (.lst [])) fp) rfl rfl rfl hc i [] s3 σ3 H3 (λ_ _=>False) J3 (stat fr3) st3 go) λr s4 hpt=>?_
   obtain⟨u,hr,h4⟩:=hpt;subst hr;refine thn h4 λ_ s5 hpt=>?_;obtain⟨x,H5,J5,r5,y5,st5,fr5⟩:=hpt;have J5':=J5.pinned (stat fr5) (T.obj _ _ st5);refine thn (hg _ _ _ _ s5 σ3 H5 x u _ J5' r5 (step x H5 y5)) λ_ s6 hpt=>?_;obtain⟨σ6,H6,J6,q6⟩:=hpt;refine thn (ht _ _ _ _ s6 σ6 H6 _ J6 q6) λb s6 hpt=>?_;obtain⟨H6,J6,q6⟩:=hpt;cases b with
   |true =>
    rw[if_pos rfl]at q6⊢;refine thn (he _ _ _ _ s6 σ6 H6 _ J6 q6) λy s7 hpt=>?_;obtain⟨vy,H7,J7,r7,q7,m',hm',w7⟩:=hpt;refine thn (bv _ s7 σ6 H7 (.ref s2.heap.objs.size) [vy] _ _ (λ_ H8=>H8=upd H7 s2.heap.objs.size (.lst (ys++[vy]))) J7 rfl (.cons r7 .nil) ⟨_,ys,vy,rfl,rfl,q7,hlen,rfl⟩) λ_ s8 hpt=>?_;obtain⟨_,H8,J8,_,e8⟩:=hpt;subst e8;refine⟨m',hm',i+1,ys++[vy],σ6,_,J8.unpinned,T.keep _ _ _ st5 λb hb o e=>(J8.pin (b,o) (mem_append_right _ (mem_append_right _ (aP hb e)))).1,λb hb=>?_,w7⟩;obtain⟨o,e,d⟩:=T.obj _ _ st5 b hb;exact(J8.pin (b,o) (mem_append_right _ (mem_append_right _ (aP hb e)))).2.1
   |false =>
    rw[if_neg (by simp)]at q6⊢;obtain⟨m',hm',w7⟩:=q6;refine⟨m',hm',i+1,ys,σ6,_,J6.unpinned,T.keep _ _ _ st5 λb hb o e=>(J6.pin (b,o) (mem_append_right _ (mem_append_right _ (aP hb e)))).1,λb hb=>?_,w7⟩;obtain⟨o,e,d⟩:=T.obj _ _ st5 b hb;exact(J6.pin (b,o) (mem_append_right _ (mem_append_right _ (aP hb e)))).2.1
 exact codeAny_compStart_list loop (T.self _ 0 _ _ _ st1 loop)
theorem qu{elt tg iter:Expr}{pos spos py:Pos}{y:Str}{ii:Nat}{wi:TI}{g:TG}{te:TE}(hXN:X.N.Nodup)(hii:X.N[ii]?=some y)(hx:Loc X.env.scope y)(hc:X.calm=true)(L:LcOk X scope cl)(hN:N.length=k+js.length)(hj:∀(i j:Nat) x,js[i]?=some j→N[k+i]?=some x→X.N[j]?=some x∧Vis X.env.scope x∧X.env.scope.names.lookup x≠some .local∧((relabel scope X.env).names.lookup x=some .cell∨(relabel scope X.env).names.lookup x=some .free))(hi:PI X tg iter wi)(hg:∀s H fp,PG (cy X N scope cl s H fp) tg g)(he:∀s H fp,PE (cy X N scope cl s H fp) elt te)(hs:∀x,foldedSetIterable iter X.env x=pure x:=by intro _;rfl)(hsw:swapsWith (.ListComp elt [⟨tg,iter,[],0⟩] scope pos) (some (.Name y py)) spos.line X.env=pure true:=by rfl)(hf:X.fn y=true∨X.env.scope.names.lookup y=some .local:=by first|exact .inl rfl|exact .inr rfl|assumption):PS X (.Assign [.Name y py] (.ListComp elt [⟨tg,iter,[],0⟩] scope pos) spos) (uI (tLc k js wi g te) (aZ ii)):=by
 intro pins s σ H D I h;rw[exec_Assign_Name_used _ _ _ _ hsw];refine wpAny_bind (wpAny_standAt (wpAny_bind ?_));show wpAny _ X.A (do let _ ← comprehension (.ListComp elt [⟨tg,iter,[],0⟩] scope pos) scope X.env _ (newList []) false (eval iter X.env) (some (assign (.Name y py) X.env))) _ _ s
 refine wpAny_bind (wpAny_mono (wpAny_comprehension_free (use:=some (assign (.Name y py) X.env)) (Q:=λ_ s'=>∃σ' H',Inv X pins σ' H' s'∧D.nx σ' H') rfl hs L.clos L.kind L.names ?_) (λ_ s' hq=>wpAny_pure (wpAny_pure hq)) λ_ _ e=>e);refine thn (hi pins s σ H _ I h) λv s1 h1=>thn h1 λitv s2 h2=>?_;obtain⟨it,fp,tn,J,H2,e,I2,T,st2,f2,hW⟩:=h2;subst e;have hfp:∀b∈fp,b<s2.heap.objs.size:=λb hb=>by
  obtain⟨o,e,_⟩:=T.obj _ _ st2 b hb;exact lt_size e
 refine wpAny_newObj_type (wpAny_newFunctionEnv L.nocell (by intro y hy;simp at hy) (λh₁ hns hsb=>?_) L.kind);dsimp only at hns hsb⊢;obtain⟨W,⟨m0,w0⟩,turn⟩:=hW s2.heap.objs.size (I2.hok.fresh (le_refl _));have I3:Inv X pins σ (upd H2 s2.heap.objs.size (.lst [])) {s2 with heap:=s2.heap.push {cls:=.type "list",dict:=none,data:=.seq ([]:List Value).toArray}}:=I2.lnew (t':=s2.toks) .nil (zero_le _)
 generalize hA:s2.heap.push {cls:=.type "list",dict:=none,data:=.seq ([]:List Value).toArray}=hpA at hns hsb I3⊢;have hszA:hpA.objs.size=s2.heap.objs.size+1:=by rw[←hA,size_push]
 have keepA:∀b o,s2.heap.get? b=some o→hpA.get? b=some o:=λb o e=>by rw[←hA];exact get?_push_of_some _ e
 have f3:∀b∈fp,dJ X pins (upd H2 s2.heap.objs.size (.lst [])) b:=λb hb=>⟨by rw[al (ne_of_lt (hfp b hb))];exact(f2 b hb).1,(f2 b hb).2⟩;have hfp3:∀b∈fp,b<hpA.objs.size:=λb hb=>by rw[hszA];exact lt_succ_of_lt (hfp b hb)
 have keep1:∀b o,hpA.get? b=some o→h₁.get? b=some o:=λb o e=>hsb.extBut b o (ne_of_lt (lt_size e)) (get?_push_of_some _ e);have J0:=gJ (N:=N) (k:=k) (js:=js) (tk:=s2.toks+([]:List (Str×Value)).length) I3 L f3 hfp3 ⟨_,hns⟩ keep1 hN hj;have st1:tn 0 h₁:=T.keep _ _ _ st2 λb hb o e=>keep1 b o (keepA b o e);have stat:∀{H':Hp},(∀b∈fp,H' b=none)→∀b∈fp,dJ (cy X N scope cl {s2 with heap:=hpA} (upd H2 s2.heap.objs.size (.lst [])) fp) [] H' b:=λhn b hb =>
  ⟨hn b hb,ne_of_lt (hfp3 b hb),(ll (N:=N) I3 L f3 hfp3).exfs b hb,.inl hb,λx c h=>(f3 b hb).2.2.2.2.1 x c (L.cells x c h),λp hp=>absurd (show p∈([]:List (Addr×Obj))from hp) (by simp)⟩
 have loop:codeAny (model X.prog X.w) X.A (.compLoop (.ListComp elt [⟨tg,iter,[],0⟩] scope pos) 0 (.ref it) (.ref s2.heap.objs.size) (compEnvC scope cl hpA.objs.size X.env))
   (compPost (model X.prog X.w) X.A X.xe (some (assign (.Name y py) X.env)) (λ_ s'=>∃σ' H',Inv X pins σ' H' s'∧D.nx σ' H') (.ref s2.heap.objs.size) hpA.objs.size) {s2 with heap:=h₁,toks:=s2.toks+([]:List (Str×Value)).length}:=by
  refine nQ (λn s'=>∃i ys σ' H',Inv (cy X N scope cl {s2 with heap:=hpA} (upd H2 s2.heap.objs.size (.lst [])) fp) [] σ' H' s'∧tn i s'.heap∧(∀b∈fp,H' b=none)∧W i n ys σ' H') ?_ m0 ⟨0,[],_,_,J0,st1,λb hb=>(f3 b hb).1,w0⟩
  rintro n s3 ⟨i,ys,σ3,H3,J3,st3,fr3,w3⟩;rcases turn i n ys σ3 H3 w3 with⟨stop,qn⟩|⟨go,hlen,step⟩
  ·refine thn (T.done (cy X N scope cl {s2 with heap:=hpA} (upd H2 s2.heap.objs.size (.lst [])) fp) rfl rfl rfl hc i [] s3 σ3 H3 (λ_ _=>False) J3 (stat fr3) st3 stop) λr s4 hpt=>?_
   obtain⟨hr,J4⟩:=hpt;subst hr;obtain⟨m,hm,_⟩:=J4.loc;have I4:Inv X pins σ H3 s4:=kh I3 f3 J4 (SameBut.refl _ _);obtain⟨f0,f1,f2,f3',f4,f5⟩:=I3.fpOk (b:=hpA.objs.size) (le_refl _) (H':=H3) J4.free;show wpAny _ _ (assign (.Name y py) X.env (.ref s2.heap.objs.size)) _ _ _;refine wpAny_assign_Name (hJ I4 hXN hii hx (v:=.ref s2.heap.objs.size) rfl (λs5 I5 ⟨a,sb,ha⟩=>⟨m,hm.sameBut sb ?_,λh' hs'=>⟨_,H3,I5.turned (t':=s5.toks) (λb o hb e=>(hs'.2 b hb).trans e) f0 f1 f3' f4 f5,qn⟩⟩) hf);rcases ha with e|e
   ·rw[e];exact f1
   ·exact λz=>f4 _ _ e z.symm
  ·refine thn (T.item (cy X N scope cl {s2 with heap:=hpA} (upd H2 s2.heap.objs.size (.lst [])) fp) rfl rfl rfl hc i [] s3 σ3 H3 (λ_ _=>False) J3 (stat fr3) st3 go) λr s4 hpt=>?_
   obtain⟨u,hr,h4⟩:=hpt;subst hr;refine thn h4 λ_ s5 hpt=>?_;obtain⟨x,H5,J5,r5,y5,st5,fr5⟩:=hpt;have J5':=J5.pinned (stat fr5) (T.obj _ _ st5);refine thn (hg _ _ _ _ s5 σ3 H5 x u _ J5' r5 (step x H5 y5)) λ_ s6 hpt=>?_;obtain⟨σ6,H6,J6,q6⟩:=hpt;refine thn (he _ _ _ _ s6 σ6 H6 _ J6 q6) λy s7 hpt=>?_;obtain⟨vy,H7,J7,r7,q7,m',hm',w7⟩:=hpt;refine thn (bv _ s7 σ6 H7 (.ref s2.heap.objs.size) [vy] _ _ (λ_ H8=>H8=upd H7 s2.heap.objs.size (.lst (ys++[vy]))) J7 rfl (.cons r7 .nil) ⟨_,ys,vy,rfl,rfl,q7,hlen,rfl⟩) λ_ s8 hpt=>?_;obtain⟨_,H8,J8,_,e8⟩:=hpt;subst e8;refine⟨m',hm',i+1,ys++[vy],σ6,_,J8.unpinned,T.keep _ _ _ st5 λb hb o e=>(J8.pin (b,o) (mem_append_right _ (mem_append_right _ (aP hb e)))).1,λb hb=>?_,w7⟩;obtain⟨o,e,d⟩:=T.obj _ _ st5 b hb;exact(J8.pin (b,o) (mem_append_right _ (mem_append_right _ (aP hb e)))).2.1
 exact codeAny_compStart_list loop (T.self _ 0 _ _ _ st1 loop)
end
abbrev TJ:=St→Hp→(Hp→Prop)→Prop
section
variable{X:Cx}{tg:Expr}
def PJ(X:Cx)(ps:List Expr)(b:Nat)(t:TJ):Prop :=
 ∀(out:Str)(pins:List (Addr×Obj))(s:Shared)(σ:St)(H:Hp)(Q:VK),Inv X pins σ H s→out.length+b≤1000→(t σ H λH1=>∀y,Q (.str y) H1)→wpAny (model X.prog X.w) X.A (joinParts out (evalEach ps X.env)) (EP X pins σ Q) X.xe s
theorem gb:PJ X [] 0 (λσ H k=>k H):=by
 intro out pins s σ H Q I hb h;exact joinParts_nilE (joinParts_nil ⟨.str _,H,I.tok _,⟨_,rfl⟩,h _⟩ (le_of_lt (aG (by omega))))
theorem cR{x:Str}{c b:Nat}{j:Nat}{p:Pos}{ps:List Expr}{t:TJ}(hx:x.length≤c)(h:PJ X ps b t):PJ X (.Constant (.str x) j p::ps) (c+b) t:=by
 intro out pins s σ H Q I hb hq;refine joinParts_cons (Calls.Constant_str ?_);have hl:(out++x).length=out.length+x.length:=strLen_append ..;exact⟨le_of_lt (aG (by omega)),h _ pins _ σ H Q (I.tok _) (by omega) hq⟩
theorem vo{e:Expr}{te:TE}{b:Nat}{p:Pos}{ps:List Expr}{t:TJ}(he:PE X e te)(h:PJ X ps b t):PJ X (.FormattedValue e (-1) none p::ps) (100+b) (λσ H k=>te σ H λv H1=>∃x:Str,v=.str x∧x.length≤100∧t σ H1 k):=by
 intro out pins s σ H Q I hb hq;refine joinParts_cons (FormattedValue_plain (thn (he pins _ σ H _ I hq) λv s1 hpt=>?_));obtain⟨y,H1,I1,r1,q1⟩:=hpt;obtain⟨x,rfl,h2,q⟩:=q1;obtain⟨tk,rfl⟩:=r1;have hl:(out++x).length=out.length+x.length:=strLen_append ..;refine formatField_str (λt' tk=>⟨le_of_lt (aG (by omega)),?_⟩) (le_of_lt (aG (by omega)));exact h _ pins _ σ H1 Q (I1.tok _) (by omega) q
def wM(t:TJ):TE:=λσ H Q=>t σ H λH1=>∀y,Q (.str y) H1
theorem eI{p1 p2:Expr}{ps:List Expr}{pos:Pos}{b:Nat}{t:TJ}(h:PJ X (p1::p2::ps) b t)(hb:b≤1000):PE X (.JoinedStr (p1::p2::ps) pos) (wM t):=by
 intro pins s σ H Q I hq;exact JoinedStr_many (h empty pins s σ H Q I (by show 0+b≤1000;omega) hq)
theorem vp{E:XK}(L:Lv X E):PassesOwn (model X.prog X.w) X.A X.env X.xe:=by
 rw[L.xe];exact PassesOwn.leaving
def iDK(td:TE):TI:=λσ H R=>td σ H λv H1=>∃d kvs,v=.ref d∧H1 d=some (.dK kvs)∧∀o,R (Itk d o (.dK kvs) (kvs.map λp=>kV p.1)) (upd H1 d (.frz o (.dK kvs)))
theorem uf{l:Expr}{tl:TE}(hl:PE X l tl):PI X tg l (iDK tl):=by
 intro pins s σ H R I h;refine thn (hl pins s σ H _ I h) λv s1 hpt=>?_;obtain⟨x,H1,I1,r1,q1⟩:=hpt;obtain⟨d,kvs,e,hH,q⟩:=q1;subst e;cases r1;obtain⟨hz,hsm,vs,rel,o,es,ep,ho,hx,hd,hk,hp,hn⟩:=I1.hok d _ hH;have I2:Inv X pins σ (upd H1 d (.frz o (.dK kvs))) s1:=I1.write (t':=s1.toks) (x:=d) (e:=d) (by rw[hH];trivial) (.inl rfl) (λ_ _ _ q=>q) ⟨o,ho⟩ ⟨ho,hz,hsm,vs,rel,o,es,ep,ho,hx,hd,hk,hp,hn⟩;refine lA hsm ⟨o,ho,hx,hd⟩ ?_;refine⟨s1.heap.objs.size,[s1.heap.objs.size],_,_,upd H1 d (.frz o (.dK kvs)),rfl,I2.kept (t':=s1.toks) λb o e=>get?_push_of_some _ e,jH hx hd ?_,⟨_,get?_push_size _ rfl,rfl,rfl⟩,λb hb=>?_,q o⟩
 ·have key:∀(es:List DictEntry)(vs:List (Key×Value))(kvs:List (Key×V)),Pairs (bb X.prog X.w) es vs→KV kvs vs→aN (kvs.map λp=>kV p.1) (es.map (·.key)):=by
   intro es vs kvs hp
   induction hp generalizing kvs with
   |nil=>intro r;cases r;exact .nil
   |cons h1 h2 _ ih =>
    intro r;cases r with
    |cons r1 r2 =>
     refine .cons ?_ (ih _ r2);dsimp only;rw[r1.1];rcases bp h1 with⟨i,t,e1,e2⟩|⟨x,t,e1,e2⟩
     ·rw[e1,e2];exact⟨t,rfl⟩
     ·rw[e1,e2];exact⟨t,rfl⟩
  exact key _ _ _ hp rel
 ·have e:b=s1.heap.objs.size:=by simpa using hb
  subst e;exact I2.fpOk (le_refl _) (I2.hok.fresh (le_refl _))
theorem mT(hu:X.A.units+1<cLine):OpR X (compareOp .In) (λx y H Q=>∃a p ks,∃kss:List (Addr×List Key),x=.ref a∧H a=some (.tup (ks.map kV))∧y=.ref p∧SqL X.K H p ((kss.map (·.1)).map V.ref) ∧
  (∀z∈kss,H z.1=some (.tup (z.2.map kV)))∧Q (.bl (kss.any λz=>decide (z.2=ks))) H):=by
 intro pins s σ H x y v u Q I rx ry h;obtain⟨a,p,ks,kss,rfl,ha,rfl,hq,hk,q⟩:=h;cases rx;cases ry;obtain⟨its,rv,pl,hz⟩:=I.list hq;have e:=dk rv;subst e
 let e:Value→Bool:=λv=>match v with | .ref b=>((kss.find? λz=>z.1==b).map λz=>decide (z.2=ks)).getD false | _=>false
 have he:∀z∈kss,e (.ref z.1)=decide (z.2=ks):=λz hz'=>by
  show((kss.find? λy=>y.1==z.1).map λz=>decide (z.2=ks)).getD false=_;cases ef:kss.find? λy=>y.1==z.1 with
  |none=>have:=find?_eq_none.mp ef z hz';simp at this
  |some y =>
   have h1:=find?_some ef;have h2:=List.mem_of_find?_eq_some ef;have e1:y.1=z.1:=by simpa using h1
   have e2:=hk y h2;rw[e1,hk z hz']at e2;have e3:z.2.map kV=y.2.map kV:=by injection (Option.some.inj e2)
   rw[kg e3];rfl
 refine in_listAt e pl.isList (λy hy=>?_) ⟨.bl _,H,I,rfl,?_⟩
 ·have hy':y∈(kss.map (·.1)).map Value.ref:=by simpa using hy
  obtain⟨b,hb,rfl⟩:=mem_map.mp hy';obtain⟨z,hz',rfl⟩:=mem_map.mp hb;rw[he z hz'];intro prog w E' Q' hQ;exact wpAny_eqBool_tuple (knd:=bb prog w) (by simp;exact hu) (sA I (hk z hz') prog w) (sA I ha prog w) hQ
 ·have e1:(((kss.map (·.1)).map Value.ref).toArray.any e)=kss.any λz=>decide (z.2=ks):=by
   rw[List.any_toArray,any_map,any_map];apply Bool.eq_iff_iff.mpr;rw[any_eq_true,any_eq_true];constructor
   ·rintro⟨z,hz',h1⟩;exact⟨z,hz',by rw[←he z hz'];exact h1⟩
   ·rintro⟨z,hz',h1⟩;exact⟨z,hz',by show e (.ref z.1)=true;rw[he z hz'];exact h1⟩
  rw[e1];exact q
end
theorem Same.seqT{K:PySem.W.Frag}{H H':Hp}{a:Addr}{xs:List V}(e:Same H H')(h:SqT K H a xs):SqT K H' a xs:=by
 rcases h with (h|⟨o,h⟩)|h
 ·exact .inl (.inl (e _ _ h))
 ·exact .inl (.inr ⟨o,e _ _ h⟩)
 ·exact .inr h
structure Src(J:It)(H1:Hp)(xs:List V):Prop where
 go:∀i H',i<xs.length→Same H1 H'→J.go i H'
 stop:∀H',Same H1 H'→J.stop xs.length H'
 yl:∀i H' x H2,i<xs.length→Same H1 H'→J.yld i H' x H2→H2=H'∧xs[i]?=some x
theorem dQ{K:PySem.W.Frag}{a:Addr}{xs:List V}{H1:Hp}(h:SqT K H1 a xs):Src (Itt K a) H1 xs :=
 ⟨λi H' hi s=>⟨xs,xs[i],s.seqT h,getElem?_eq_getElem hi⟩,λH' s=>⟨xs,s.seqT h,le_refl _⟩,λi H' x H2 _ s ⟨e,y⟩=>⟨e,y xs (by subst e;exact s.seqT h)⟩⟩
theorem fo{K:PySem.W.Frag}{a:Addr}{xs:List V}{H1:Hp}(h:SqL K H1 a xs):Src (Itl K a) H1 xs :=
 ⟨λi H' hi s=>⟨xs,xs[i],s.seq h,getElem?_eq_getElem hi⟩,λH' s=>⟨xs,s.seq h,le_refl _⟩,λi H' x H2 _ s ⟨e,y⟩=>⟨e,y xs (by subst e;exact s.seq h)⟩⟩
theorem ck{d:Addr}{o:Obj}{u:HO}{ks:List V}{H1:Hp}(h:H1 d=some (.frz o u)):Src (Itk d o u ks) H1 ks :=
 ⟨λi H' hi s=>⟨s _ _ h,hi⟩,λH' s=>⟨s _ _ h,le_refl _⟩,λi H' x H2 _ s ⟨e,y⟩=>⟨e,y⟩⟩
theorem Paired.snoc{α β:Type}{R:α→β→Prop}:∀{as:List α}{bs:List β}{a:α}{b:β},Paired R as bs→R a b→Paired R (as++[a]) (bs++[b])
 |_,_,_,_,.nil,h=>.cons h .nil
 |_,_,_,_,.cons r t,h=>.cons r (Paired.snoc t h)
theorem ci{α:Type}{js:List Nat}{J:It}{tc:TT}{te:TE}{σ:St}{H1:Hp}{Q:VK}{p:Addr}{fr:List (Option V)}(zs:List α)(val:α→V)(hn:zs.length≤1000)(hp:H1 p=none)(S:Src J H1 (zs.map val))(hfr:cA 1 js σ=none::fr)(g:α→Bool)(R:α→V→Hp→Prop)(hR:∀z y H H',R z y H→Ext p H H'→R z y H')(cond:∀z H' (k:Bool→Hp→Prop),z∈zs→Same H1 H'→(∃ys,H' p=some (.lst ys))→(∀H4,Same H' H4→k (g z) H4)→tc (some (val z)::fr) H' k)(elt:∀z H' (k:VK),z∈zs→g z=true→Same H1 H'→(∃ys,H' p=some (.lst ys))→(∀y H4,Same H' H4→R z y H4→k y H4)→te (some (val z)::fr) H' k)(fin:∀ys H',Same H1 H'→H' p=some (.lst ys)→Paired (λz y=>R z y H') (zs.filter g) ys→Q (.ref p) H'):wI 1 js (aZ 0) tc te σ Q J H1 p:=by
 have grow:∀{as:List α}{ys:List V}{H H':Hp},Ext p H H'→Paired (λz y=>R z y H) as ys→Paired (λz y=>R z y H') as ys:=λex r=>Paired.mapP r λa b h=>hR a b _ _ h ex;have hlen:∀{as:List α}{ys:List V}{H:Hp},Paired (λz y=>R z y H) as ys→ys.length=as.length:=λr=>(Paired.length r).symm;refine⟨λi m ys σ' H'=>m=zs.length-i∧i≤zs.length∧(∃o,σ'=o::fr)∧Same H1 H'∧H' p=some (.lst ys)∧Paired (λz y=>R z y H') ((zs.take i).filter g) ys,⟨zs.length,by simp,zero_le _,⟨none,hfr⟩,af hp,ac,.nil⟩,?_⟩;rintro i m ys σ' H' ⟨rfl,hi,⟨o,rfl⟩,s1,hl,hys⟩
 by_cases hlt:i<zs.length
 ·have hlt':i<(zs.map val).length:=by rw[length_map];exact hlt
  refine .inr ⟨S.go i H' hlt' s1,?_,λx H2 hy=>?_⟩
  ·have h1:ys.length≤zs.length:=by
    rw[hlen hys];exact le_trans (length_filter_le _ _) (by rw[length_take];omega)
   exact lt_of_le_of_lt h1 (aG hn)
  ·obtain⟨rfl,hx⟩:=S.yl i H' x H2 hlt' s1 hy;have gz:zs[i]?=some zs[i]:=getElem?_eq_getElem hlt;have mz:=mem_of_getElem? gz;rw[getElem?_map,gz]at hx;have ex:val zs[i]=x:=Option.some.inj hx;have et:zs.take (i+1)=zs.take i++[zs[i]]:=bH gz;subst ex;generalize zs[i]=z at gz mz et⊢;refine cond z H2 _ mz s1 ⟨ys,hl⟩ λH4 s4=>?_;cases hb:g z with
   |true =>
    rw[if_pos rfl];refine elt z H4 _ mz hb (s1.trans s4) ⟨ys,s4 _ _ hl⟩ λy H5 s5 r5=>⟨s5 _ _ (s4 _ _ hl),zs.length-(i+1),by omega,rfl,hlt,⟨_,rfl⟩,aO hp ((s1.trans s4).trans s5),ac,?_⟩;rw[et,filter_append,filter_cons_of_pos hb];exact Paired.snoc (grow ((Ext.of (s4.trans s5)).trans Ext.upd) hys) (hR _ _ _ _ r5 Ext.upd)
   |false =>
    rw[if_neg (by simp)];refine⟨zs.length-(i+1),by omega,rfl,hlt,⟨_,rfl⟩,s1.trans s4,s4 _ _ hl,?_⟩;rw[et,filter_append,filter_cons_of_neg (by simp[hb]),List.filter_nil,append_nil];exact grow (Ext.of s4) hys
 ·have e:i=zs.length:=by omega
  subst e;have st:=S.stop H' s1;rw[length_map]at st;refine .inl ⟨st,fin ys H' s1 hl ?_⟩;rw[take_length]at hys;exact hys
theorem eJ{α:Type}{js:List Nat}{J:It}{te:TE}{σ:St}{H1:Hp}{Q:VK}{p:Addr}{fr:List (Option V)}(zs:List α)(val:α→V)(hn:zs.length≤1000)(hp:H1 p=none)(S:Src J H1 (zs.map val))(hfr:cA 1 js σ=none::fr)(R:α→V→Hp→Prop)(hR:∀z y H H',R z y H→Ext p H H'→R z y H')(elt:∀z H' (k:VK),z∈zs→Same H1 H'→(∃ys,H' p=some (.lst ys))→(∀y H4,Same H' H4→R z y H4→k y H4)→te (some (val z)::fr) H' k)(fin:∀ys H',Same H1 H'→H' p=some (.lst ys)→Paired (λz y=>R z y H') zs ys→Q (.ref p) H'):LcW 1 js (aZ 0) te σ Q J H1 p:=by
 have grow:∀{as:List α}{ys:List V}{H H':Hp},Ext p H H'→Paired (λz y=>R z y H) as ys→Paired (λz y=>R z y H') as ys:=λex r=>Paired.mapP r λa b h=>hR a b _ _ h ex;have hlen:∀{as:List α}{ys:List V}{H:Hp},Paired (λz y=>R z y H) as ys→ys.length=as.length:=λr=>(Paired.length r).symm;refine⟨λi m ys σ' H'=>m=zs.length-i∧i≤zs.length∧(∃o,σ'=o::fr)∧Same H1 H'∧H' p=some (.lst ys)∧Paired (λz y=>R z y H') (zs.take i) ys,⟨zs.length,by simp,zero_le _,⟨none,hfr⟩,af hp,ac,.nil⟩,?_⟩;rintro i m ys σ' H' ⟨rfl,hi,⟨o,rfl⟩,s1,hl,hys⟩
 by_cases hlt:i<zs.length
 ·have hlt':i<(zs.map val).length:=by rw[length_map];exact hlt
  refine .inr ⟨S.go i H' hlt' s1,?_,λx H2 hy=>?_⟩
  ·have h1:ys.length≤zs.length:=by
    rw[hlen hys,length_take];omega
   exact lt_of_le_of_lt h1 (aG hn)
  ·obtain⟨rfl,hx⟩:=S.yl i H' x H2 hlt' s1 hy;have gz:zs[i]?=some zs[i]:=getElem?_eq_getElem hlt;have mz:=mem_of_getElem? gz;rw[getElem?_map,gz]at hx;have ex:val zs[i]=x:=Option.some.inj hx;have et:zs.take (i+1)=zs.take i++[zs[i]]:=bH gz;subst ex;generalize zs[i]=z at gz mz et⊢;refine elt z H2 _ mz s1 ⟨ys,hl⟩ λy H5 s5 r5=>⟨s5 _ _ hl,zs.length-(i+1),by omega,rfl,hlt,⟨_,rfl⟩,aO hp (s1.trans s5),ac,?_⟩;rw[et];exact Paired.snoc (grow ((Ext.of s5).trans Ext.upd) hys) (hR _ _ _ _ r5 Ext.upd)
 ·have e:i=zs.length:=by omega
  subst e;have st:=S.stop H' s1;rw[length_map]at st;refine .inl ⟨st,fin ys H' s1 hl ?_⟩;rw[take_length]at hys;exact hys
theorem cE{α β:Type}{R:α→V→Prop}{val:β→V}{S:α→β→Prop}{zs:List α}{ys:List V}(h:Paired R zs ys)(f:∀z y,z∈zs→R z y→∃b,y=val b∧S z b):
  ∃bs:List (α×β),bs.map (·.1)=zs∧ys=bs.map (λx=>val x.2)∧∀x∈bs,S x.1 x.2:=by
 induction h with
 |nil=>exact⟨[],rfl,rfl,by simp⟩
 |@cons a y as bs r _ ih =>
  obtain⟨cs,e1,e2,e3⟩:=ih λz y hz=>f z y (by simp[hz]);obtain⟨b,e,s⟩:=f _ _ (by simp) r;refine⟨(a,b)::cs,by rw[map_cons,e1],by rw[map_cons,←e2,e],λx hx=>?_⟩;rcases mem_cons.mp hx with rfl|hx
  ·exact s
  ·exact e3 x hx
theorem aQ{α:Type}{R:α→V→Prop}{f:α→V}{zs:List α}{ys:List V}(h:Paired R zs ys)(hf:∀z y,z∈zs→R z y→y=f z):ys=zs.map f:=by
 induction h with
 |nil=>rfl
 |cons r _ ih=>rw[map_cons,←ih λz y hz=>hf z y (by simp[hz]),hf _ _ (by simp) r]
theorem ko(p:Int)(ms:List Int):inV (.int p) (ms.map V.int)=decide (p∈ms):=by
 unfold inV;rw[any_map,Bool.eq_iff_iff,any_eq_true,decide_eq_true_eq];constructor
 ·rintro⟨x,hx,e⟩;have:x=p:=by simpa [eqV]using e
  rw[←this];exact hx
 ·intro h;exact⟨p,h,by simp[eqV]⟩
theorem ic(ms:List Int):(ms.map V.int).all eT=true:=by
 rw[List.all_map,all_eq_true];intro x _;rfl
theorem ug{X:Cx}:hV (CX1 X.prog X.w) X E0:=λ_ _ _ _ _ _ _ ⟨_,_,_,_,_,h⟩=>h.elim
theorem Inv.thaw{X:Cx}{pins:List (Addr×Obj)}{σ:St}{H:Hp}{s:Shared}{d:Addr}{o:Obj}{kvs:List (Key×V)}(I:Inv X pins σ H s)(h:H d=some (.frz o (.dK kvs)))(h0:X.H₀ d=none):Inv X pins σ (upd H d (.dK kvs)) s:=by
 have nd:∀b u,H b=some u→(∀o' u',u≠.frz o' u')→b≠d:=λb u e hn z=>by
  subst z;rw[h]at e;cases e;exact hn _ _ rfl
 have nn:∀b,H b=none→b≠d:=λb e z=>by
  subst z;rw[h]at e;cases e
 refine⟨I.ok,I.os,I.bare,⟨I.base.keep,I.base.slot,λb o e n hx=>?_,I.base.there,λb xs e=>?_,λb o' u e=>?_,λb ps e=>?_⟩,I.loc,I.cell,?_,λx c e=>?_,λp hp=>?_,λb u e=>?_,I.len⟩
 ·have:=I.base.free b o e n hx;rw[al (nn b this)];exact this
 ·have:=I.base.tups b xs e;rw[al (nd b _ this λ_ _ z=>by cases z)];exact this
 ·have hb:b≠d:=λz=>by subst z;rw[h0]at e;cases e
  rw[al hb];exact I.base.frzs b o' u e
 ·obtain⟨m,this⟩:=I.base.tbls b ps e;exact⟨m,by rw[al (nd b _ this λ_ _ z=>by cases z)];exact this⟩
 ·rw[al (nn _ I.free)];exact I.free
 ·rw[al (nn _ (I.freeC x c e))];exact I.freeC x c e
 ·obtain⟨e,n,r⟩:=I.pin p hp;exact⟨e,by rw[al (nn _ n)];exact n,r⟩
 ·by_cases hb:b=d
  ·subst hb;rw[ac]at e;cases e;obtain⟨_,q⟩:=I.hok b _ h;exact q
  ·rw[al hb]at e;exact(I.hok b u e).stay (λ_ _ _ q=>q) (λc q=>by rw[al (nd c _ q λ_ _ z=>by cases z)];exact q) λc xs q=>by rw[al (nd c _ q λ_ _ z=>by cases z)];exact q
def wN(H₀:Hp)(t:TS):TS:=λD σ H=>∃d o kvs,H₀ d=none∧H d=some (.frz o (.dK kvs))∧t D σ (upd H d (.dK kvs))
theorem sI{X:Cx}{st:Stmt}{t:TS}(hs:PS X st t):PS X st (wN X.H₀ t):=λpins s σ H D I ⟨d,o,kvs,h0,h,ht⟩=>hs pins s σ _ D (I.thaw h h0) ht
end L2
namespace TW
structure Nd(S:Type) where
 num:Int
 par:Int
 nm:S
 st:Option Int
section
variable{S:Type}
inductive Reach(ns:List (Nd S))(f:Int):Nd S→Prop where
 |base {n:Nd S}:n∈ns→n.par=f→Reach ns f n
 |step {m n:Nd S}:Reach ns f m→m.st=none→n∈ns→n.par=m.num→Reach ns f n
theorem Reach.mem{ns:List (Nd S)}{f:Int}{n:Nd S}(h:Reach ns f n):n∈ns:=by
 cases h<;>assumption
theorem Reach.mono{ns ms:List (Nd S)}{f:Int}{n:Nd S}(h:Reach ns f n)(hs:∀x∈ns,x∈ms):Reach ms f n:=by
 induction h with
 |base hm hp=>exact .base (hs _ hm) hp
 |step _ hf hm hp ih=>exact .step ih hf (hs _ hm) hp
def inside(ns:List (Nd S))(k:Int):List (Nd S):=ns.filter λn=>decide (n.par=k)
def eP(dn:List Int)(n:Nd S):Bool:=decide (n.par∈dn)
structure Walk(ns:List (Nd S))(f:Int)(dn:List Int)(fd:List (Nd S))(pd:List Int):Prop where
 perm:fd.Perm (ns.filter (eP dn))
 reach:∀n∈fd,Reach ns f n
 cover:∀k,(k∈pd∨k∈dn)↔(k=f∨∃m∈fd,m.st=none∧m.num=k)
theorem Walk.start(ns:List (Nd S))(f:Int):Walk ns f [] [] [f]:=by
 refine⟨?_,by simp,λk=>by simp⟩;have e:ns.filter (eP [])=[]:=by
  rw[filter_eq_nil_iff];intro a _;simp[eP]
 rw[e]
theorem eY{α:Type}(p q:α→Bool)(hd:∀x,p x=true→q x=true→False):∀l:List α,
  (l.filter p++l.filter q).Perm (l.filter λx=>p x||q x)
 |[]=>by simp
 |x::l=>by
  have ih:=eY p q hd l;cases hp:p x with
  |true =>
   have hq:q x=false:=by
    cases h:q x with
    |false=>rfl
    |true=>exact(hd x hp h).elim
   rw[filter_cons_of_pos hp,filter_cons_of_neg (by simp[hq]),filter_cons_of_pos (by simp[hp])];exact List.Perm.cons x ih
  |false =>
   cases hq:q x with
   |true =>
    rw[filter_cons_of_neg (by simp[hp]),filter_cons_of_pos hq,filter_cons_of_pos (by simp[hq])];exact List.perm_middle.trans (List.Perm.cons x ih)
   |false =>
    rw[filter_cons_of_neg (by simp[hp]),filter_cons_of_neg (by simp[hq]),filter_cons_of_neg (by simp[hp,hq])];exact ih
def here(ns:List (Nd S))(dn:List Int)(x:Int):List (Nd S):=if x∈dn then []else inside ns x
def aV(l:List (Nd S)):List Int:=(l.filter λn=>n.st.isNone).map (·.num)
theorem ir{l:List (Nd S)}{k:Int}:k∈aV l↔∃m∈l,m.st=none∧m.num=k:=by
 unfold aV;rw[mem_map];constructor
 ·rintro⟨m,hm,e⟩;rw[mem_filter]at hm;exact⟨m,hm.1,by simpa using hm.2,e⟩
 ·rintro⟨m,hm,h,e⟩;exact⟨m,mem_filter.mpr ⟨hm,by simp[h]⟩,e⟩
theorem Walk.turn{ns:List (Nd S)}{f x:Int}{dn:List Int}{fd:List (Nd S)}{pd:List Int}(w:Walk ns f dn fd (pd++[x])):
  Walk ns f (x::dn) (fd++here ns dn x) (pd++aV (here ns dn x)):=by
 have hx:=(w.cover x).mp (.inl (by simp))
 by_cases hd:x∈dn
 ·have eh:here ns dn x=[]:=by unfold here;rw[if_pos hd]
  rw[eh];refine⟨?_,by simpa using w.reach,λk=>?_⟩
  ·have e:ns.filter (eP (x::dn))=ns.filter (eP dn):=by
    apply filter_congr;intro n _;simp only[eP,mem_cons,decide_eq_decide];constructor
    ·rintro(h|h)
     ·rw[h];exact hd
     ·exact h
    ·exact .inr
   rw[e,append_nil];exact w.perm
  ·have c:=w.cover k;rw[append_nil,←c];simp only[aV,List.filter_nil,map_nil,append_nil,mem_append,mem_cons,not_mem_nil,or_false];constructor
   ·rintro(h|h|h)
    ·exact .inl (.inl h)
    ·exact .inl (.inr h)
    ·exact .inr h
   ·rintro((h|h)|h)
    ·exact .inl h
    ·exact .inr (.inl h)
    ·exact .inr (.inr h)
 ·have eh:here ns dn x=inside ns x:=by unfold here;rw[if_neg hd]
  rw[eh];refine⟨?_,λn hn=>?_,λk=>?_⟩
  ·have e:ns.filter (eP (x::dn))=ns.filter λn=>eP dn n||decide (n.par=x):=by
    apply filter_congr;intro n _;rw[Bool.eq_iff_iff];simp only[eP,mem_cons,decide_eq_true_eq,Bool.or_eq_true];constructor
    ·rintro(h|h)
     ·exact .inr h
     ·exact .inl h
    ·rintro(h|h)
     ·exact .inr h
     ·exact .inl h
   rw[e];refine(List.Perm.append_right _ w.perm).trans (eY _ _ (λy h1 h2=>?_) ns);simp only[eP,decide_eq_true_eq]at h1 h2;rw[h2]at h1;exact hd h1
  ·rcases mem_append.mp hn with h|h
   ·exact w.reach n h
   ·unfold inside at h;rw[mem_filter]at h;obtain⟨hm,hp⟩:=h;simp only[decide_eq_true_eq]at hp;rcases hx with e|⟨m,hm',hf,e⟩
    ·exact .base hm (hp.trans e)
    ·exact .step (w.reach m hm') hf hm (hp.trans e.symm)
  ·have c:=w.cover k;simp only[mem_append,mem_cons,not_mem_nil,or_false]at c⊢;rw[ir];constructor
   ·rintro((h|⟨m,hm,h1,h2⟩)|h|h)
    ·rcases c.mp (.inl (.inl h))with e|⟨m,hm,z⟩
     ·exact .inl e
     ·exact .inr ⟨m,.inl hm,z⟩
    ·exact .inr ⟨m,.inr hm,h1,h2⟩
    ·rcases c.mp (.inl (.inr h))with e|⟨m,hm,z⟩
     ·exact .inl e
     ·exact .inr ⟨m,.inl hm,z⟩
    ·rcases c.mp (.inr h)with e|⟨m,hm,z⟩
     ·exact .inl e
     ·exact .inr ⟨m,.inl hm,z⟩
   ·rintro(e|⟨m,hm|hm,z⟩)
    ·rcases c.mpr (.inl e)with (h|h)|h
     ·exact .inl (.inl h)
     ·exact .inr (.inl h)
     ·exact .inr (.inr h)
    ·rcases c.mpr (.inr ⟨m,hm,z⟩)with (h|h)|h
     ·exact .inl (.inl h)
     ·exact .inr (.inl h)
     ·exact .inr (.inr h)
    ·exact .inl (.inr ⟨m,hm,z⟩)
theorem Walk.len{ns:List (Nd S)}{f:Int}{dn:List Int}{fd:List (Nd S)}{pd:List Int}(w:Walk ns f dn fd pd):fd.length≤ns.length:=by
 rw[w.perm.length_eq];exact length_filter_le _ _
theorem dR(l:List (Nd S)):(aV l).length≤l.length:=by
 unfold aV;rw[length_map];exact length_filter_le _ _
theorem Walk.mem{ns:List (Nd S)}{f:Int}{dn:List Int}{fd:List (Nd S)}(w:Walk ns f dn fd [])(n:Nd S):n∈fd↔Reach ns f n:=by
 constructor
 ·exact w.reach n
 ·have cov:∀k,(k=f∨∃m∈fd,m.st=none∧m.num=k)→k∈dn:=λk h=>by
   rcases (w.cover k).mpr h with z|z
   ·simp at z
   ·exact z
  have back:∀x,x∈ns→x.par∈dn→x∈fd:=λx hx hp=>w.perm.mem_iff.mpr (mem_filter.mpr ⟨hx,by simp[eP,hp]⟩);intro h
  induction h with
  |base hm hp=>exact back _ hm (cov _ (.inl hp))
  |step _ hf hm hp ih=>exact back _ hm (cov _ (.inr ⟨_,ih,hf,hp.symm⟩))
def cD(ns:List (Nd S)):Prop:=ns.Pairwise λa b=>a.num<b.num
def dD(ns:List (Nd S)):Prop:=(ns.map λn=>(n.par,n.nm)).Nodup
structure Tree(ns:List (Nd S)):Prop where
 rise:cD ns
 own:dD ns
 down:∀n∈ns,Reach ns 0 n
inductive Built:List (Nd S)→Prop where
 |nil:Built []
 |snoc {l:List (Nd S)} {n:Nd S}:Built l→(n.par=0∨∃m∈l,m.st=none∧m.num=n.par)→Built (l++[n])
theorem Built.down{l:List (Nd S)}(b:Built l):∀n∈l,Reach l 0 n:=by
 induction b with
 |nil=>simp
 |@snoc l n b h ih =>
  intro x hx;have up:∀y∈l,y∈l++[n]:=λy hy=>mem_append_left _ hy;rcases mem_append.mp hx with hx|hx
  ·exact(ih x hx).mono up
  ·have e:x=n:=by simpa using hx
   subst e;rcases h with h|⟨m,hm,hf,he⟩
   ·exact .base (by simp) h
   ·exact .step ((ih m hm).mono up) hf (by simp) he.symm
theorem sJ{l t:List (Nd S)}(b:Built l)(p:t.Perm l)(hr:t.Pairwise λa b=>a.num≤b.num)(hn:(l.map (·.num)).Nodup)(ho:dD l):Tree t:=by
 refine⟨?_,?_,λn hn'=>?_⟩
 ·have hn':(t.map (·.num)).Nodup:=((p.map _).nodup_iff).mpr hn;unfold Nodup at hn';rw[pairwise_map]at hn';unfold cD;exact hr.imp₂ (λa b h1 h2=>by omega) hn'
 ·unfold dD;exact((p.map _).nodup_iff).mpr ho
 ·exact(b.down n (p.mem_iff.mp hn')).mono λx hx=>p.mem_iff.mpr hx
theorem qv{t:List (Nd S)}(h:cD t){a b:Nd S}(ha:a∈t)(hb:b∈t)(e:a.num=b.num):a=b:=by
 unfold cD at h
 induction t with
 |nil=>simp at ha
 |cons x r ih =>
  rw[pairwise_cons]at h;rcases mem_cons.mp ha with ea|ha'
  ·rcases mem_cons.mp hb with eb|hb'
   ·rw[ea,eb]
   ·have:=h.1 b hb';rw[←ea]at this;omega
  ·rcases mem_cons.mp hb with eb|hb'
   ·have:=h.1 a ha';rw[←eb]at this;omega
   ·exact ih h.2 ha' hb'
end
end TW
namespace TW
section
variable{S:Type}
inductive PathTo(ns:List (Nd S)):Int→List S→Prop where
 |top:PathTo ns 0 []
 |node {n:Nd S} {p:List S}:n∈ns→PathTo ns n.par p→PathTo ns n.num (p++[n.nm])
structure Tree1(ns:List (Nd S)):Prop extends Tree ns where
 pos:∀n∈ns,1≤n.num
theorem Tree1.inj{ns:List (Nd S)}(T:Tree1 ns){a b:Nd S}(ha:a∈ns)(hb:b∈ns)(e:a.num=b.num):a=b:=qv T.rise ha hb e
theorem PathTo.zero{ns:List (Nd S)}(T:Tree1 ns){k:Int}{p:List S}(h:PathTo ns k p)(e:k=0):p=[]:=by
 cases h with
 |top=>rfl
 |@node n p hm _=>have:=T.pos n hm;omega
theorem PathTo.inv{ns:List (Nd S)}(T:Tree1 ns){k:Int}{p:List S}(h:PathTo ns k p){n:Nd S}(hn:n∈ns)(e:k=n.num):∃q,p=q++[n.nm]∧PathTo ns n.par q:=by
 cases h with
 |top=>have:=T.pos n hn;omega
 |@node m q hm hq =>
  have:m=n:=T.inj hm hn e;subst this;exact⟨q,rfl,hq⟩
theorem PathTo.uniq{ns:List (Nd S)}(T:Tree1 ns){k:Int}{p:List S}(h:PathTo ns k p):∀{q:List S},PathTo ns k q→p=q:=by
 induction h with
 |top=>intro q hq;exact(hq.zero T rfl).symm
 |@node n p hm _ ih =>
  intro q hq;obtain⟨q',e,hq'⟩:=hq.inv T hm rfl;rw[e,ih hq']
theorem PathTo.ex{ns:List (Nd S)}(T:Tree1 ns){n:Nd S}(hn:n∈ns):∃p,PathTo ns n.num p:=by
 have key:∀x,Reach ns 0 x→∃p,PathTo ns x.num p:=by
  intro x r
  induction r with
  |base hm hp=>exact⟨_,.node hm (by rw[hp];exact .top)⟩
  |step _ _ hm hp ih =>
   obtain⟨p,h⟩:=ih;exact⟨_,.node hm (by rw[hp];exact h)⟩
 exact key n (T.down n hn)
inductive Und(ns:List (Nd S))(g:Int):Int→Prop where
 |here:Und ns g g
 |up {n:Nd S}:n∈ns→Und ns g n.par→Und ns g n.num
theorem Und.zero{ns:List (Nd S)}(T:Tree1 ns){g k:Int}(h:Und ns g k)(e:k=0):g=0:=by
 cases h with
 |here=>exact e
 |@up n hm _=>have:=T.pos n hm;omega
theorem Und.inv{ns:List (Nd S)}(T:Tree1 ns){g k:Int}(h:Und ns g k){n:Nd S}(hn:n∈ns)(e:k=n.num)(hg:k≠g):Und ns g n.par:=by
 cases h with
 |here=>exact absurd rfl hg
 |@up m hm hu =>
  have:m=n:=T.inj hm hn e;subst this;exact hu
theorem cF{ns:List (Nd S)}(T:Tree1 ns){n:Nd S}(hn:n∈ns):n.par=0∨∃m∈ns,m.st=none∧m.num=n.par:=by
 have:=T.down n hn;cases this with
 |base _ hp=>exact .inl hp
 |@step m _ hr hf _ hp=>exact .inr ⟨m,hr.mem,hf,hp.symm⟩
theorem jI{ns:List (Nd S)}(T:Tree1 ns){g:Int}{n:Nd S}(h:Reach ns g n):Und ns g n.num∧∃p q,PathTo ns n.num (p++q)∧q≠[]∧PathTo ns g p:=by
 induction h with
 |@base n hm hp =>
  obtain⟨p,h⟩:=PathTo.ex T hm;obtain⟨q,e,hq⟩:=h.inv T hm rfl;refine⟨.up hm (by rw[hp];exact .here),q,[n.nm],by rw[←e];exact h,by simp,by rw[←hp];exact hq⟩
 |@step m n hr hf hm hp ih =>
  obtain⟨hu,p,q,h1,h2,h3⟩:=ih;refine⟨.up hm (by rw[hp];exact hu),p,q++[n.nm],?_,by simp,h3⟩;rw[←append_assoc];exact .node hm (by rw[hp];exact h1)
theorem eZ{ns:List (Nd S)}(T:Tree1 ns){g:Int}{n:Nd S}(h:Reach ns g n):n.num≠g:=by
 obtain⟨_,p,q,h1,h2,h3⟩:=jI T h;intro e;rw[e]at h1;have:=h1.uniq T h3;have hl:=congrArg length this;rw[length_append]at hl;have:q.length≠0:=λz=>h2 (length_eq_zero_iff.mp z);omega
theorem pC{ns:List (Nd S)}(T:Tree1 ns){g:Int}(hg:1≤g):∀{k:Int}{p:List S},PathTo ns k p→∀{n:Nd S},n∈ns→k=n.num→Und ns g k→k≠g→Reach ns g n:=by
 intro k p h
 induction h with
 |top=>intro n hn e;have:=T.pos n hn;omega
 |@node m p hm hp ih =>
  intro n hn e hu hne;have:m=n:=T.inj hm hn e;subst this;have hu':=hu.inv T hm rfl hne
  by_cases hpg:m.par=g
  ·exact .base hm hpg
  ·rcases cF T hm with h0|⟨r,hr,hf,er⟩
   ·have:=hu'.zero T h0;omega
   ·exact .step (ih hr er.symm hu' hpg) hf hm er.symm
theorem dq{ns:List (Nd S)}(T:Tree1 ns){g:Int}(hg:1≤g){n:Nd S}(hn:n∈ns):Reach ns g n↔n.num≠g∧Und ns g n.num:=by
 constructor
 ·intro h;exact⟨eZ T h,(jI T h).1⟩
 ·rintro⟨h1,h2⟩;obtain⟨p,hp⟩:=PathTo.ex T hn;exact pC T hg hp hn rfl h2 h1
end
end TW
namespace TW
section
variable{S:Type}
theorem jJ{t:List (Nd S)}:cD t↔(t.map (·.num)).Pairwise (λa b:Int=>a<b):=by
 unfold cD;rw[pairwise_map]
def gf(t:List (Nd S))(p:Int):Prop:=p=0∨∃m∈t,m.st=none∧m.num=p
theorem made{t u:List (Nd S)}{n:Nd S}(T:Tree1 t)(hp:u.Perm (n::t))(hr:cD u)(h1:1≤n.num)(hf:gf t n.par)(ho:∀m∈t,¬(m.par=n.par∧m.nm=n.nm)):Tree1 u:=by
 have hm:∀x,x∈u↔x=n∨x∈t:=λx=>by rw[hp.mem_iff,mem_cons]
 have ht:∀x,x∈t→x∈u:=λx hx=>(hm x).mpr (.inr hx);refine⟨⟨hr,?_,λx hx=>?_⟩,λx hx=>?_⟩
 ·unfold dD;rw[(hp.map λn:Nd S=>(n.par,n.nm)).nodup_iff,map_cons,nodup_cons];refine⟨λhx=>?_,T.own⟩;obtain⟨m,h2,e⟩:=mem_map.mp hx;injection e with e1 e2
  exact ho m h2 ⟨e1,e2⟩
 ·rcases (hm x).mp hx with e|hx
  ·subst e;rcases hf with e|⟨m,h2,h3,e⟩
   ·exact .base hx e
   ·exact .step ((T.down m h2).mono ht) h3 hx e.symm
  ·exact(T.down x hx).mono ht
 ·rcases (hm x).mp hx with e|hx
  ·subst e;exact h1
  ·exact T.pos x hx
def put(z:Nd S)(m:Nd S):Nd S:=if m.num=z.num then z else m
theorem nT(z m:Nd S):(put z m).num=m.num:=by
 unfold put
 split
 ·rename_i h;exact h.symm
 ·rfl
theorem cb{z m:Nd S}(h:m.num≠z.num):put z m=m:=by unfold put;rw[if_neg h]
theorem dE{z m:Nd S}(h:m.num=z.num):put z m=z:=by unfold put;rw[if_pos h]
theorem qx(z:Nd S)(t:List (Nd S)):(t.map (put z)).map (·.num)=t.map (·.num):=by
 rw[map_map];apply map_congr_left;intro m _;exact nT z m
theorem gQ{z:Nd S}{t:List (Nd S)}(h:cD t):cD (t.map (put z)):=by
 rw[jJ,qx,←jJ];exact h
theorem nU{z:Nd S}{t:List (Nd S)}(T:Tree1 t):∀n∈t.map (put z),1≤n.num:=λn hn=>by
 obtain⟨m,hm,rfl⟩:=mem_map.mp hn;rw[nT];exact T.pos m hm
theorem wrote{t:List (Nd S)}{y z:Nd S}(T:Tree1 t)(hy:y∈t)(e1:z.num=y.num)(e2:z.par=y.par)(e3:z.nm=y.nm)(hs:y.st≠none):Tree1 (t.map (put z)):=by
 have par:∀m∈t,(put z m).par=m.par∧(put z m).nm=m.nm:=λm hm=>by
  by_cases h:m.num=z.num
  ·have:m=y:=T.inj hm hy (h.trans e1);subst this;rw[dE h];exact⟨e2,e3⟩
  ·rw[cb h];exact⟨rfl,rfl⟩
 refine⟨⟨gQ T.rise,?_,λn hn=>?_⟩,nU T⟩
 ·have:(t.map (put z)).map (λn=>(n.par,n.nm))=t.map (λn=>(n.par,n.nm)):=by
   rw[map_map];apply map_congr_left;intro m hm;show((put z m).par,(put z m).nm)=_;rw[(par m hm).1,(par m hm).2]
  unfold dD;rw[this];exact T.own
 ·obtain⟨m,hm,rfl⟩:=mem_map.mp hn;have key:∀x,Reach t 0 x→Reach (t.map (put z)) 0 (put z x):=by
   intro x r
   induction r with
   |@base x hx hp=>exact .base (mem_map.mpr ⟨x,hx,rfl⟩) (by rw[(par x hx).1];exact hp)
   |@step a x ra hf hx hp ih =>
    have ha:put z a=a:=cb λe=>hs (by rw[←T.inj ra.mem hy (e.trans e1)];exact hf);rw[ha]at ih;exact .step ih hf (mem_map.mpr ⟨x,hx,rfl⟩) (by rw[(par x hx).1];exact hp)
  exact key m (T.down m hm)
theorem jK{t:List (Nd S)}{k:Int}{n:Nd S}(r:Reach t 0 n)(h:¬Und t k n.num){u:List (Nd S)}(hu:∀x∈t,¬Und t k x.num→x∈u):Reach u 0 n:=by
 induction r with
 |@base n hm hp=>exact .base (hu n hm h) hp
 |@step m n rm hf hn hp ih=>exact .step (ih λhx=>h (.up hn (by rw[hp];exact hx))) hf (hu n hn h) hp
theorem dropped{t:List (Nd S)}{k:Int}(T:Tree1 t){p:Nd S→Bool}(hp:∀n∈t,p n=true↔¬Und t k n.num):Tree1 (t.filter p):=by
 refine⟨⟨T.rise.sublist filter_sublist,T.own.sublist (filter_sublist.map _),λn hn=>?_⟩,λn hn=>T.pos n (mem_filter.mp hn).1⟩;obtain⟨h1,h2⟩:=mem_filter.mp hn;exact jK (T.down n h1) ((hp n h1).mp h2) λx hx hu=>mem_filter.mpr ⟨hx,(hp x hx).mpr hu⟩
theorem moved{t:List (Nd S)}{y z:Nd S}(T:Tree1 t)(hy:y∈t)(e1:z.num=y.num)(e4:z.st=y.st)(hf:gf t z.par)(hi:z.par≠0→¬Und t y.num z.par)(ho:∀m∈t,m.num≠y.num→¬(m.par=z.par∧m.nm=z.nm)):Tree1 (t.map (put z)):=by
 have hz:z∈t.map (put z):=mem_map.mpr ⟨y,hy,dE e1.symm⟩;have other:∀m∈t,m.num≠y.num→m∈t.map (put z):=λm hm h=>mem_map.mpr ⟨m,hm,cb (by rw[e1];exact h)⟩;have free:∀n∈t,¬Und t y.num n.num→Reach (t.map (put z)) 0 n:=λn hn h=>jK (T.down n hn) h λx hx hu=>other x hx λe=>hu (by rw[e];exact .here);have rz:Reach (t.map (put z)) 0 z:=by
  rcases hf with e|⟨m,h2,h3,e⟩
  ·exact .base hz e
  ·have h0:z.par≠0:=λe'=>by have:=T.pos m h2;omega
   exact .step (free m h2 (by rw[e];exact hi h0)) h3 hz e.symm
 refine⟨⟨gQ T.rise,?_,λn hn=>?_⟩,nU T⟩
 ·have h:=T.own;have hr:=T.rise;unfold dD cD Nodup at *;rw[pairwise_map]at h;rw[map_map,pairwise_map];have both:=h.and hr;refine both.imp_of_mem λ{a b} ha hb hab=>?_;obtain⟨h1,h2⟩:=hab;show((put z a).par,(put z a).nm)≠((put z b).par,(put z b).nm)
  by_cases ea:a.num=y.num
  ·have eb:b.num≠y.num:=by omega
   rw[dE (by rw[e1];exact ea),cb (by rw[e1];exact eb)];intro e;injection e with q1 q2
   exact ho b hb eb ⟨q1.symm,q2.symm⟩
  ·by_cases eb:b.num=y.num
   ·rw[dE (m:=b) (by rw[e1];exact eb),cb (by rw[e1];exact ea)];intro e;injection e with q1 q2
    exact ho a ha ea ⟨q1,q2⟩
   ·rw[cb (by rw[e1];exact ea),cb (by rw[e1];exact eb)];exact h1
 ·obtain⟨m,hm,rfl⟩:=mem_map.mp hn
  by_cases em:m.num=y.num
  ·rw[dE (by rw[e1];exact em)];exact rz
  ·rw[cb (by rw[e1];exact em)]
   by_cases hu:Und t y.num m.num
   ·have r:Reach t y.num m:=(dq T (T.pos y hy) hm).mpr ⟨em,hu⟩;clear hu em hm hn
    induction r with
    |@base n hn hp =>
     have hzs:z.st=none:=by
      rcases cF T hn with e|⟨a,ha,h3,e⟩
      ·have:=T.pos y hy;omega
      ·have:a=y:=T.inj ha hy (e.trans hp);subst this;rw[e4];exact h3
     have hne:n.num≠y.num:=eZ T (.base hn hp);exact .step rz hzs (other n hn hne) (by rw[hp,e1])
    |@step a n ra hfa hn hp ih=>exact .step ih hfa (other n hn (eZ T (.step ra hfa hn hp))) hp
   ·exact free m hm hu
end
end TW
namespace TW
section
variable{S:Type}
inductive Deed(S:Type) where
 |make (n p:Int) (nm:S) (st:Option Int)
 |write (n st:Int)
 |move (n p:Int) (nm:S)
 |drop (n:Int)
inductive Wd where
 |known|noNode|notFile|notFolder|inside|taken
def ax(t:List (Nd S))(k:Int):Prop:=∃m∈t,m.num=k
inductive Told(t:List (Nd S)):Deed S→Sum Wd (List (Nd S))→Prop where
 |mKnown {n p:Int} {nm:S} {st:Option Int}:ax t n→Told t (.make n p nm st) (.inl .known)
 |mNo {n p:Int} {nm:S} {st:Option Int}:¬ax t n→p≠0→¬ax t p→Told t (.make n p nm st) (.inl .noNode)
 |mFile {n p:Int} {nm:S} {st:Option Int} {m:Nd S}:¬ax t n→p≠0→m∈t→m.num=p→m.st≠none→Told t (.make n p nm st) (.inl .notFolder)
 |mTaken {n p:Int} {nm:S} {st:Option Int} {m:Nd S}:¬ax t n→gf t p→m∈t→m.par=p→m.nm=nm→Told t (.make n p nm st) (.inl .taken)
 |made {n p:Int} {nm:S} {st:Option Int} {u:List (Nd S)}:¬ax t n→gf t p→(∀m∈t,¬(m.par=p∧m.nm=nm))→u.Perm (⟨n,p,nm,st⟩::t)→cD u→Told t (.make n p nm st) (.inr u)
 |wNo {n st:Int}:¬ax t n→Told t (.write n st) (.inl .noNode)
 |wFold {n st:Int} {y:Nd S}:y∈t→y.num=n→y.st=none→Told t (.write n st) (.inl .notFile)
 |wrote {n st:Int} {y:Nd S}:y∈t→y.num=n→y.st≠none→Told t (.write n st) (.inr (t.map (put ⟨n,y.par,y.nm,some st⟩)))
 |vNo {n p:Int} {nm:S}:¬ax t n→Told t (.move n p nm) (.inl .noNode)
 |vNoP {n p:Int} {nm:S}:ax t n→p≠0→¬ax t p→Told t (.move n p nm) (.inl .noNode)
 |vFile {n p:Int} {nm:S} {m:Nd S}:ax t n→p≠0→m∈t→m.num=p→m.st≠none→Told t (.move n p nm) (.inl .notFolder)
 |vIn {n p:Int} {nm:S}:ax t n→gf t p→p≠0→Und t n p→Told t (.move n p nm) (.inl .inside)
 |vTaken {n p:Int} {nm:S} {m:Nd S}:ax t n→gf t p→(p≠0→¬Und t n p)→m∈t→m.num≠n→m.par=p→m.nm=nm→Told t (.move n p nm) (.inl .taken)
 |moved {n p:Int} {nm:S} {y:Nd S}:y∈t→y.num=n→gf t p→(p≠0→¬Und t n p)→(∀m∈t,m.num≠n→¬(m.par=p∧m.nm=nm))→Told t (.move n p nm) (.inr (t.map (put ⟨n,p,nm,y.st⟩)))
 |dNo {n:Int}:¬ax t n→Told t (.drop n) (.inl .noNode)
 |dropped {n:Int} {f:Nd S→Bool}:ax t n→(∀m∈t,f m=true↔¬Und t n m.num)→Told t (.drop n) (.inr (t.filter f))
theorem cT{t:List (Nd S)}{p:Int}(h:gf t p)(h0:p≠0)(hn:¬ax t p):False:=by
 rcases h with h|⟨m,hm,_,e⟩
 ·exact h0 h
 ·exact hn ⟨m,hm,e⟩
theorem cp{t:List (Nd S)}(T:Tree1 t){p:Int}{m:Nd S}(h:gf t p)(h0:p≠0)(hm:m∈t)(e:m.num=p)(hs:m.st≠none):False:=by
 rcases h with h|⟨y,hy,h2,e2⟩
 ·exact h0 h
 ·have:=T.inj hm hy (e.trans e2.symm);subst this;exact hs h2
theorem iW{t u:List (Nd S)}(ht:cD t)(hu:cD u)(h:t.Perm u):t=u:=by
 have main:∀{l m:List (Nd S)},cD l→cD m→(∀x,x∈l↔x∈m)→l=m:=by
  intro l
  induction l with
  |nil =>
   intro m _ _ h;cases m with
   |nil=>rfl
   |cons b m=>exact absurd ((h b).mpr (by simp)) (by simp)
  |cons a l ih =>
   intro m hl hm h;cases m with
   |nil=>exact absurd ((h a).mp (by simp)) (by simp)
   |cons b m =>
    unfold cD at hl hm ih;rw[pairwise_cons]at hl hm;have e:a=b:=by
     rcases mem_cons.mp ((h a).mp (by simp))with e|h1
     ·exact e
     ·rcases mem_cons.mp ((h b).mpr (by simp))with e|h2
      ·exact e.symm
      ·have:=hl.1 b h2;have:=hm.1 a h1;omega
    subst e;rw[ih hl.2 hm.2 λx=>?_];constructor
    ·intro hx;rcases mem_cons.mp ((h x).mp (by simp[hx]))with e|h1
     ·subst e;have:=hl.1 x hx;omega
     ·exact h1
    ·intro hx;rcases mem_cons.mp ((h x).mpr (by simp[hx]))with e|h1
     ·subst e;have:=hm.1 x hx;omega
     ·exact h1
 exact main ht hu λx=>h.mem_iff
theorem Told.one{t:List (Nd S)}(T:Tree1 t){d:Deed S}{r r':Sum Wd (List (Nd S))}(h:Told t d r)(h':Told t d r'):r=r':=by
 have hno:∀{k:Int}{m:Nd S},m∈t→m.num=k→¬ax t k→False:=λhm e hn=>hn ⟨_,hm,e⟩;have one:∀{k:Int}{a b:Nd S},a∈t→a.num=k→b∈t→b.num=k→a=b:=λha ea hb eb=>T.inj ha hb (ea.trans eb.symm);cases h with
 |mKnown a1=>cases h'<;>first|rfl|(exfalso;contradiction)
 |mNo a1 a2 a3=>cases h' with
  |mKnown b1=>exact absurd b1 a1
  |mNo=>rfl
  |mFile b1 b2 b3 b4 b5=>exact(hno b3 b4 a3).elim
  |mTaken b1 b2=>exact(cT b2 a2 a3).elim
  |made b1 b2=>exact(cT b2 a2 a3).elim
 |mFile a1 a2 a3 a4 a5=>cases h' with
  |mKnown b1=>exact absurd b1 a1
  |mNo b1 b2 b3=>exact(hno a3 a4 b3).elim
  |mFile=>rfl
  |mTaken b1 b2=>exact(cp T b2 a2 a3 a4 a5).elim
  |made b1 b2=>exact(cp T b2 a2 a3 a4 a5).elim
 |mTaken a1 a2 a3 a4 a5=>cases h' with
  |mKnown b1=>exact absurd b1 a1
  |mNo b1 b2 b3=>exact(cT a2 b2 b3).elim
  |mFile b1 b2 b3 b4 b5=>exact(cp T a2 b2 b3 b4 b5).elim
  |mTaken=>rfl
  |made b1 b2 b3=>exact(b3 _ a3 ⟨a4,a5⟩).elim
 |made a1 a2 a3 a4 a5=>cases h' with
  |mKnown b1=>exact absurd b1 a1
  |mNo b1 b2 b3=>exact(cT a2 b2 b3).elim
  |mFile b1 b2 b3 b4 b5=>exact(cp T a2 b2 b3 b4 b5).elim
  |mTaken b1 b2 b3 b4 b5=>exact(a3 _ b3 ⟨b4,b5⟩).elim
  |made b1 b2 b3 b4 b5=>rw[iW a5 b5 (a4.trans b4.symm)]
 |wNo a1=>cases h' with
  |wNo=>rfl
  |wFold b1 b2=>exact(hno b1 b2 a1).elim
  |wrote b1 b2=>exact(hno b1 b2 a1).elim
 |wFold a1 a2 a3=>cases h' with
  |wNo b1=>exact(hno a1 a2 b1).elim
  |wFold=>rfl
  |wrote b1 b2 b3=>rw[one a1 a2 b1 b2]at a3;exact absurd a3 b3
 |wrote a1 a2 a3=>cases h' with
  |wNo b1=>exact(hno a1 a2 b1).elim
  |wFold b1 b2 b3=>rw[one b1 b2 a1 a2]at b3;exact absurd b3 a3
  |wrote b1 b2 b3=>rw[one b1 b2 a1 a2]
 |vNo a1=>cases h' with
  |vNo=>rfl
  |vNoP=>rfl
  |vFile b1=>exact absurd b1 a1
  |vIn b1=>exact absurd b1 a1
  |vTaken b1=>exact absurd b1 a1
  |moved b1 b2=>exact(hno b1 b2 a1).elim
 |vNoP a1 a2 a3=>cases h' with
  |vNo=>rfl
  |vNoP=>rfl
  |vFile b1 b2 b3 b4=>exact(hno b3 b4 a3).elim
  |vIn b1 b2=>exact(cT b2 a2 a3).elim
  |vTaken b1 b2=>exact(cT b2 a2 a3).elim
  |moved b1 b2 b3=>exact(cT b3 a2 a3).elim
 |vFile a1 a2 a3 a4 a5=>cases h' with
  |vNo b1=>exact absurd a1 b1
  |vNoP b1 b2 b3=>exact(hno a3 a4 b3).elim
  |vFile=>rfl
  |vIn b1 b2=>exact(cp T b2 a2 a3 a4 a5).elim
  |vTaken b1 b2=>exact(cp T b2 a2 a3 a4 a5).elim
  |moved b1 b2 b3=>exact(cp T b3 a2 a3 a4 a5).elim
 |vIn a1 a2 a3 a4=>cases h' with
  |vNo b1=>exact absurd a1 b1
  |vNoP b1 b2 b3=>exact(cT a2 b2 b3).elim
  |vFile b1 b2 b3 b4 b5=>exact(cp T a2 b2 b3 b4 b5).elim
  |vIn=>rfl
  |vTaken b1 b2 b3=>exact absurd a4 (b3 a3)
  |moved b1 b2 b3 b4=>exact absurd a4 (b4 a3)
 |vTaken a1 a2 a3 a4 a5 a6 a7=>cases h' with
  |vNo b1=>exact absurd a1 b1
  |vNoP b1 b2 b3=>exact(cT a2 b2 b3).elim
  |vFile b1 b2 b3 b4 b5=>exact(cp T a2 b2 b3 b4 b5).elim
  |vIn b1 b2 b3 b4=>exact absurd b4 (a3 b3)
  |vTaken=>rfl
  |moved b1 b2 b3 b4 b5=>exact(b5 _ a4 a5 ⟨a6,a7⟩).elim
 |moved a1 a2 a3 a4 a5=>cases h' with
  |vNo b1=>exact(hno a1 a2 b1).elim
  |vNoP b1 b2 b3=>exact(cT a3 b2 b3).elim
  |vFile b1 b2 b3 b4 b5=>exact(cp T a3 b2 b3 b4 b5).elim
  |vIn b1 b2 b3 b4=>exact absurd b4 (a4 b3)
  |vTaken b1 b2 b3 b4 b5 b6 b7=>exact(a5 _ b4 b5 ⟨b6,b7⟩).elim
  |moved b1 b2=>rw[one b1 b2 a1 a2]
 |dNo a1=>cases h' with
  |dNo=>rfl
  |dropped b1=>exact absurd b1 a1
 |dropped a1 a2=>cases h' with
  |dNo b1=>exact absurd a1 b1
  |dropped b1 b2 =>
   congr 1
   apply filter_congr;intro m hm;rw[Bool.eq_iff_iff,a2 m hm,b2 m hm]
def Deed.pos:Deed S→Prop
 |.make n _ _ _=>1≤n
 |_=>True
theorem Told.tree{t u:List (Nd S)}(T:Tree1 t){d:Deed S}(h:Told t d (.inr u))(hp:d.pos):Tree1 u:=by
 generalize er:(Sum.inr u:Sum Wd (List (Nd S)))=r at h;cases h with
 |made a1 a2 a3 a4 a5 =>
  injection er with er
  subst er;exact TW.made T a4 a5 hp a2 λm hm=>a3 m hm
 |wrote a1 a2 a3 =>
  injection er with er
  subst er a2;exact TW.wrote T a1 rfl rfl rfl a3
 |moved a1 a2 a3 a4 a5 =>
  injection er with er
  subst er a2;exact TW.moved T a1 rfl rfl a3 a4 a5
 |dropped a1 a2 =>
  injection er with er
  subst er;exact TW.dropped T a2
 |_=>cases er
theorem Told.all{t u:List (Nd S)}{P:Nd S→Prop}(ht:∀n∈t,P n){d:Deed S}(h:Told t d (.inr u))(hm:∀n p nm st,d=.make n p nm st→P ⟨n,p,nm,st⟩)(hw:∀n st,d=.write n st→∀y∈t,y.num=n→P ⟨n,y.par,y.nm,some st⟩)(hv:∀n p nm,d=.move n p nm→∀y∈t,y.num=n→P ⟨n,p,nm,y.st⟩):∀n∈u,P n:=by
 have hput:∀z:Nd S,P z→∀n∈t.map (put z),P n:=λz hz n hn=>by
  obtain⟨m,hm,rfl⟩:=mem_map.mp hn
  by_cases e:m.num=z.num
  ·rw[dE e];exact hz
  ·rw[cb e];exact ht m hm
 generalize er:(Sum.inr u:Sum Wd (List (Nd S)))=r at h;cases h with
 |made a1 a2 a3 a4 a5 =>
  injection er with er
  subst er;intro n hn;rcases mem_cons.mp (a4.mem_iff.mp hn)with e|h
  ·subst e;exact hm _ _ _ _ rfl
  ·exact ht n h
 |wrote a1 a2 a3 =>
  injection er with er
  subst er;exact hput _ (hw _ _ rfl _ a1 a2)
 |moved a1 a2 a3 a4 a5 =>
  injection er with er
  subst er;exact hput _ (hv _ _ _ rfl _ a1 a2)
 |dropped a1 a2 =>
  injection er with er
  subst er;intro n hn;exact ht n (mem_filter.mp hn).1
 |_=>cases er
theorem Told.len{t u:List (Nd S)}{d:Deed S}(h:Told t d (.inr u)):u.length≤t.length+1:=by
 generalize er:(Sum.inr u:Sum Wd (List (Nd S)))=r at h;cases h with
 |made a1 a2 a3 a4 a5 =>
  injection er with er
  subst er;rw[a4.length_eq];simp
 |wrote a1 a2 a3 =>
  injection er with er
  subst er;simp
 |moved a1 a2 a3 a4 a5 =>
  injection er with er
  subst er;simp
 |dropped a1 a2 =>
  injection er with er
  subst er;exact Nat.le_succ_of_le (length_filter_le _ _)
 |_=>cases er
end
end TW
namespace TW
section
variable{S:Type}
inductive Chain:List (Nd S)→List (Deed S)→List (Nd S)→Prop where
 |nil {t:List (Nd S)}:Chain t [] t
 |cons {t u v:List (Nd S)} {d:Deed S} {ds:List (Deed S)}:Told t d (.inr u)→Chain u ds v→Chain t (d::ds) v
theorem Chain.snoc{t u v:List (Nd S)}{ds:List (Deed S)}{d:Deed S}(h:Chain t ds u)(hd:Told u d (.inr v)):Chain t (ds++[d]) v:=by
 induction h with
 |nil=>exact .cons hd .nil
 |cons h1 _ ih=>exact .cons h1 (ih hd)
end
end TW
namespace L2
open PySem PySem.Spec PyProof.Rows
section
variable{P:Program}{w:World}{K:PySem.W.Frag}{mg:Str→Option Value}{base:Heap}
theorem Fun.okX{x qual:Str}{st:Stmt}{f:Addr}{fd:FuncData}{N ps:List Str}{k:Nat}{sp:Sp}(F:Fun K x qual st f fd)(S:FnScope N ps (ah st))(len:∀vs H Q E,sp vs H Q E→vs.length=ps.length)(hbody:∀(cdv:Value) (A:Around) (outer:List Env) (s:Shared) (H:Hp) (vs:List V) (Q:VK) (E:XK),Room k (A.deeper (envOfC qual (ah st) s.heap.objs.size f cdv))→sp vs H Q E →
   ∃t,PSs (gC (CX1 P w) P w K mg base N qual (ah st) f cdv A outer s H E) (bA st) t∧t {nx:=λ_ H'=>Q .non H',rt:=Q} (start N vs) H):FnOk P w K mg base (CX1 P w) (k+1) f fd ps sp:=by
 obtain⟨oc,od,kV,doc,pm,an,cdv,ct,osl,rfl,lk,hcd⟩:=F.ex;exact ua lk hcd S len λA outer s H vs Q E hr hsp=>hbody cdv A outer s H vs Q E hr hsp
theorem LcOk.mk'{X:Cx}{scope:Scope}{cl:List (Str×Addr)}(fs:List Str)(hk:scope.kind=.function)(hc:closureFor scope X.env=pure cl)(hn:∀x∈scope.names,x.2=.local→scope.names.lookup x.1=some .local)(hnc:∀x∈scope.names,x.2≠.cell)(hcl:∀y∈cl,X.env.cells.lookup y.1=some y.2)(hfs:cl.map (·.1)=fs)(hall:scope.names.all (λy=>!(y.2==.free)||fs.contains y.1)=true):LcOk X scope cl:=by
 refine⟨hk,hc,hn,hnc,λx c h=>hcl (x,c) (PySem.mem_of_lookup h),λx h=>?_⟩;have hm:∃k,(x,k)∈(relabel scope X.env).names∧(k=.cell∨k=.free):=by
  rcases h with h|h
  ·exact⟨_,PySem.mem_of_lookup h,.inl rfl⟩
  ·exact⟨_,PySem.mem_of_lookup h,.inr rfl⟩
 obtain⟨k,hm,hk'⟩:=hm;unfold relabel at hm;obtain⟨⟨y,k0⟩,hy,e⟩:=mem_map.mp hm;have hfree:x=y∧k0=.free:=by
  cases k0 with
  |free =>
   simp only at e
   split at e
   ·injection e with e1 e2;exact⟨e1.symm,rfl⟩
   ·injection e with e1 e2;exact⟨e1.symm,rfl⟩
  |cell=>exact absurd rfl (hnc _ hy)
  |_ =>
   exfalso
   have e2:k=_:=(congrArg Prod.snd e).symm;simp at e2;rcases hk' with z|z<;>rw[z]at e2<;>cases e2
 obtain⟨rfl,rfl⟩:=hfree;have:=all_eq_true.mp hall _ hy;have hin:fs.contains x=true:=by simpa using this
 rw[←hfs]at hin;have hmem:x∈cl.map (·.1):=List.contains_iff_mem.mp hin;cases e:cl.lookup x with
 |some c=>exact⟨c,rfl⟩
 |none =>
  exfalso
  obtain⟨y,hy,ey⟩:=mem_map.mp hmem;have:=List.lookup_eq_none_iff.mp e y hy;rw[ey]at this;simp at this
end
end L2
namespace TK
open PySem L2
abbrev Nd:=TW.Nd Str
def stV:Option Int→V
 |none=>.non
 |some i=>.int i
def vals(n:Nd):List V:=[.int n.num,.int n.par,.str n.nm,stV n.st]
abbrev ZN:=List (Addr×Nd)
def aY(zs:ZN):List V:=(zs.map (·.1)).map V.ref
def nds(zs:ZN):List Nd:=zs.map (·.2)
def At(H:Hp)(zs:ZN):Prop:=∀z∈zs,H z.1=some (.tup (vals z.2))
theorem At.same{H H':Hp}{zs:ZN}(h:At H zs)(s:Same H H'):At H' zs:=λz hz=>s _ _ (h z hz)
theorem bQ(zs:ZN):(aY zs).length=zs.length:=by simp[aY]
theorem cu(zs:ZN):(nds zs).length=zs.length:=by simp[nds]
theorem cK{zs:ZN}{i:Nat}{x:V}(h:(aY zs)[i]?=some x):∃z,zs[i]?=some z∧x=.ref z.1:=by
 unfold aY at h;rw[getElem?_map,getElem?_map]at h;cases e:zs[i]? with
 |none=>rw[e]at h;cases h
 |some z=>rw[e]at h;exact⟨z,rfl,(Option.some.inj h).symm⟩
theorem iX{zs:ZN}{i:Nat}{z:Addr×Nd}(h:zs[i]?=some z):(aY zs)[i]?=some (.ref z.1):=by
 unfold aY;rw[getElem?_map,getElem?_map,h];rfl
theorem at0(n:Nd):atI (vals n) 0=some (.int n.num):=rfl
theorem at1(n:Nd):atI (vals n) 1=some (.int n.par):=rfl
theorem at2(n:Nd):atI (vals n) 2=some (.str n.nm):=rfl
theorem at3(n:Nd):atI (vals n) 3=some (stV n.st):=rfl
theorem vq{σ:St}(h:σ.length=1):∃a,σ=[a]:=by
 match σ,h with
 |[a],_=>exact⟨a,rfl⟩
theorem aq{n:Nat}(h:n≤1000):n≤sizeLine:=le_of_lt (aG h)
theorem le2:2≤sizeLine:=aq (by decide)
def plK(n:Nd):List Key:=[.inl n.par,.inr n.nm]
def ins(zs:ZN)(k:Int):ZN:=zs.filter λz=>decide (z.2.par=k)
theorem nV(zs:ZN)(k:Int):nds (ins zs k)=TW.inside (nds zs) k:=by
 unfold nds ins TW.inside;rw[filter_map];rfl
theorem fb(zs:ZN)(z:Addr×Nd)(k:Int):ins (zs++[z]) k=if z.2.par=k then ins zs k++[z]else ins zs k:=by
 unfold ins;rw[filter_append]
 by_cases h:z.2.par=k
 ·rw[if_pos h,filter_cons_of_pos (by simp[h])];rfl
 ·rw[if_neg h,filter_cons_of_neg (by simp[h])];simp
theorem sK{zs:ZN}{k:Int}{z:Addr×Nd}(h:z∈ins zs k):z∈zs:=(mem_filter.mp h).1
theorem ie(zs:ZN)(z:Addr×Nd):aY (zs++[z])=aY zs++[.ref z.1]:=by simp[aY]
theorem qy{zs:ZN}(h:aY zs=[]):zs=[]:=by
 cases zs with
 |nil=>rfl
 |cons a r=>simp[aY]at h
structure Mem(H0 H:Hp)(d:Addr)(L:Int→Addr)(kvs:List (Key×V))(xs:ZN)(dn:List Int):Prop where
 dict:H d=some (.dK kvs)
 d0:H0 d=none
 len:kvs.length≤xs.length
 val:∀k:Int,bi kvs (Sum.inl k:Key)=if k∈dn∨ins xs k=[]then none else some (.ref (L k))
 at':∀k,k∉dn→ins xs k≠[]→H (L k)=some (.lst (aY (ins xs k)))∧H0 (L k)=none
 inj:∀k k',k∉dn→k'∉dn→ins xs k≠[]→ins xs k'≠[]→L k=L k'→k=k'
 same:Same H0 H
theorem Mem.grow{H0 H H':Hp}{d:Addr}{L:Int→Addr}{kvs:List (Key×V)}{xs:ZN}{dn:List Int}(m:Mem H0 H d L kvs xs dn)(s:Same H H'):Mem H0 H' d L kvs xs dn :=
 ⟨s _ _ m.dict,m.d0,m.len,m.val,λk h1 h2=>⟨s _ _ (m.at' k h1 h2).1,(m.at' k h1 h2).2⟩,m.inj,m.same.trans s⟩
theorem Mem.other{H0 H:Hp}{d p:Addr}{L:Int→Addr}{kvs:List (Key×V)}{xs:ZN}{dn:List Int}{is:List Int}{o:HO}(m:Mem H0 H d L kvs xs dn)(hp:H p=some (.lst (is.map V.int)))(h0:H0 p=none):Mem H0 (upd H p o) d L kvs xs dn:=by
 refine⟨?_,m.d0,m.len,m.val,λk h1 h2=>⟨?_,(m.at' k h1 h2).2⟩,m.inj,aO h0 m.same⟩
 ·rw[al]
  ·exact m.dict
  ·intro e;have:=m.dict;rw[e,hp]at this;cases this
 ·have e1:=(m.at' k h1 h2).1;rw[al]
  ·exact e1
  ·intro e;rw[e,hp]at e1;injection e1 with e1
   injection e1 with e1
   have hne:=h2;cases hk:ins xs k with
   |nil=>exact h2 hk
   |cons a r =>
    rw[hk]at e1;cases is with
    |nil=>simp[aY]at e1
    |cons i r'=>simp[aY]at e1
theorem Mem.start{H0:Hp}{d:Addr}(h:H0 d=none):Mem H0 (upd H0 d (.dK [])) d (λ_=>d) [] [] [] :=
 ⟨ac,h,by simp,λk=>by rw[if_pos (.inr rfl)];rfl,λk _ h=>absurd rfl h,λk k' _ _ h=>absurd rfl h,af h⟩
theorem Mem.hit{H0 H:Hp}{d:Addr}{L:Int→Addr}{kvs:List (Key×V)}{xs:ZN}{z:Addr×Nd}(m:Mem H0 H d L kvs xs [])(hp:ins xs z.2.par≠[]):
  Mem H0 (upd H (L z.2.par) (.lst (aY (ins xs z.2.par)++[.ref z.1]))) d L kvs (xs++[z]) []:=by
 have e1:=(m.at' z.2.par (by simp) hp);have hd:d≠L z.2.par:=λe=>by
  have:=m.dict;rw[e,e1.1]at this;cases this
 have ne:∀k,ins (xs++[z]) k=[]↔ins xs k=[]:=λk=>by
  rw[fb]
  by_cases h:z.2.par=k
  ·rw[if_pos h];subst h;simp[hp]
  ·rw[if_neg h]
 refine⟨by rw[al hd];exact m.dict,m.d0,by have:=m.len;simp;omega,λk=>?_,λk h1 h2=>?_,λk k' _ _ h2 h3 e=>m.inj k k' (by simp) (by simp) (λh=>h2 ((ne k).mpr h)) (λh=>h3 ((ne k').mpr h)) e,aO e1.2 m.same⟩
 ·rw[m.val k];simp only[ne k]
 ·have h2':ins xs k≠[]:=λh=>h2 ((ne k).mpr h);refine⟨?_,(m.at' k h1 h2').2⟩
  by_cases h:z.2.par=k
  ·subst h;rw[ac,fb,if_pos rfl,ie]
  ·rw[al,fb,if_neg h]
   ·exact(m.at' k h1 h2').1
   ·intro e;exact h (m.inj _ _ (by simp) (by simp) hp h2' e.symm)
theorem Mem.fresh{H0 H:Hp}{d q:Addr}{L:Int→Addr}{kvs:List (Key×V)}{xs:ZN}{z:Addr×Nd}(m:Mem H0 H d L kvs xs [])(hp:ins xs z.2.par=[])(hq:H q=none):
  Mem H0 (upd (upd (upd H q (.lst [])) d (.dK (cg kvs (Sum.inl z.2.par:Key) (.ref q)))) q (.lst ([]++[.ref z.1]))) d (λk=>if k=z.2.par then q else L k) (cg kvs (Sum.inl z.2.par:Key) (.ref q)) (xs++[z]) []:=by
 have hdq:d≠q:=λe=>by
  have:=m.dict;rw[e,hq]at this;cases this
 have lq:∀k,ins xs k≠[]→L k≠q:=λk h e=>by
  have:=(m.at' k (by simp) h).1;rw[e,hq]at this;cases this
 have ld:∀k,ins xs k≠[]→L k≠d:=λk h e=>by
  have:=(m.at' k (by simp) h).1;rw[e,m.dict]at this;cases this
 have q0:H0 q=none:=m.same.free hq;have e2:∀k,k≠z.2.par→ins (xs++[z]) k=ins xs k:=λk h=>by rw[fb,if_neg (λe=>h e.symm)]
 have e3:ins (xs++[z]) z.2.par=[z]:=by rw[fb,if_pos rfl,hp];rfl
 refine⟨by rw[al hdq,ac],m.d0,?_,λk=>?_,λk h1 h2=>?_,λk k' _ _ h2 h3 e=>?_,?_⟩
 ·have h1:=m.len;have h2:=dP kvs (Sum.inl z.2.par:Key) (.ref q);rw[length_append,length_singleton];omega
 ·rw[eV]
  by_cases h:k=z.2.par
  ·subst h;rw[if_pos rfl,if_neg (by rw[e3];simp),if_pos rfl]
  ·rw[if_neg (λe=>h (Sum.inl.inj e)),m.val k,e2 k h,if_neg h]
 ·by_cases h:k=z.2.par
  ·subst h;simp only[if_true];exact⟨by rw[ac,e3];rfl,q0⟩
  ·rw[e2 k h]at h2;simp only[if_neg h];refine⟨?_,(m.at' k h1 h2).2⟩;rw[al (lq k h2),al (ld k h2),al (lq k h2),e2 k h];exact(m.at' k h1 h2).1
 ·by_cases h:k=z.2.par
  ·by_cases h':k'=z.2.par
   ·rw[h,h']
   ·rw[e2 k' h']at h3;simp only[if_pos h,if_neg h']at e;exact absurd e.symm (lq k' h3)
  ·rw[e2 k h]at h2
   by_cases h':k'=z.2.par
   ·simp only[if_neg h,if_pos h']at e;exact absurd e (lq k h2)
   ·rw[e2 k' h']at h3;simp only[if_neg h,if_neg h']at e;exact m.inj k k' (by simp) (by simp) h2 h3 e
 ·exact aO q0 (aO m.d0 (m.same.trans (af hq)))
theorem pD{κ:Type}[DecidableEq κ](kvs:List (κ×V))(k j:κ):bi (de kvs k) j=if j=k then none else bi kvs j:=by
 induction kvs with
 |nil=>simp[de,bi]
 |cons p r ih =>
  by_cases e:p.1=k
  ·rw[pj e,ih]
   by_cases h:j=k
   ·rw[if_pos h,if_pos h]
   ·rw[if_neg h,if_neg h,bn (λz=>h (z.symm.trans e))]
  ·rw[pk e]
   by_cases h:p.1=j
   ·rw[bx h,if_neg (λz=>e (h.trans z)),bx h]
   ·rw[bn h,ih,bn h]
theorem Mem.drop{H0 H:Hp}{d:Addr}{L:Int→Addr}{kvs:List (Key×V)}{xs:ZN}{dn:List Int}(m:Mem H0 H d L kvs xs dn)(x:Int):Mem H0 (upd H d (.dK (de kvs (Sum.inl x:Key)))) d L (de kvs (Sum.inl x:Key)) xs (x::dn):=by
 have ld:∀k,k∉dn→ins xs k≠[]→L k≠d:=λk h0 h e=>by
  have:=(m.at' k h0 h).1;rw[e,m.dict]at this;cases this
 have no:∀k,k∉x::dn→k∉dn:=λk h h'=>h (mem_cons_of_mem _ h');refine⟨ac,m.d0,le_trans (lg _ _) m.len,λk=>?_,λk h1 h2=>?_,λk k' h0 h1 h2 h3 e=>m.inj k k' (no k h0) (no k' h1) h2 h3 e,aO m.d0 m.same⟩
 ·rw[pD,m.val k]
  by_cases h:k=x
  ·rw[if_pos (by rw[h]),if_pos (.inl (by rw[h];simp))]
  ·rw[if_neg (λe=>h (Sum.inl.inj e))];simp[h]
 ·rw[al (ld k (no k h1) h2)];exact m.at' k (no k h1) h2
theorem Mem.skip{H0 H:Hp}{d:Addr}{L:Int→Addr}{kvs:List (Key×V)}{xs:ZN}{dn:List Int}(m:Mem H0 H d L kvs xs dn){x:Int}(hx:x∈dn∨ins xs x=[]):Mem H0 H d L kvs xs (x::dn):=by
 have no:∀k,k∉x::dn→k∉dn:=λk h h'=>h (mem_cons_of_mem _ h');refine⟨m.dict,m.d0,m.len,λk=>?_,λk h1 h2=>m.at' k (no k h1) h2,λk k' h0 h1 h2 h3 e=>m.inj k k' (no k h0) (no k' h1) h2 h3 e,m.same⟩;rw[m.val k]
 by_cases h:k=x
 ·subst h;rw[if_pos hx,if_pos (.inl (by simp))]
 ·simp[h]
theorem qz{Q:VK}{H0 H:Hp}{d q:Addr}{L:Int→Addr}{kvs:List (Key×V)}{zs:ZN}{dn:List Int}{x:Int}(m:Mem H0 H d L kvs zs dn)(hq:H q=some (.lst []))(k:∀hl Hc kvs' hs,Mem H0 Hc d L kvs' zs (x::dn)→Hc hl=some (.lst (aY hs))→nds hs=TW.here (nds zs) dn x→(∀z∈hs,z∈zs)→(∀p,p≠d→Hc p=H p)→(hs=[]→hl=q)→Q (.ref hl) Hc):
  ∃kvs k,H d=some (.dK kvs)∧V.int x=kV k∧(∀v,bi kvs k=some v→Q v (upd H d (.dK (de kvs k))))∧(bi kvs k=none→Q (.ref q) H):=by
 refine⟨kvs,.inl x,m.dict,rfl,λv hv=>?_,λhn=>?_⟩
 ·rw[m.val x]at hv
  by_cases h:x∈dn∨ins zs x=[]
  ·rw[if_pos h]at hv;cases hv
  ·rw[if_neg h]at hv;have h1:x∉dn:=λz=>h (.inl z);have h2:ins zs x≠[]:=λz=>h (.inr z);cases hv;have a:=(m.at' x h1 h2).1;have ld:L x≠d:=λe=>by rw[e,m.dict]at a;cases a
   refine k (L x) _ _ (ins zs x) (m.drop x) (by rw[al ld];exact a) ?_ (λz hz=>sK hz) (λp hp=>al hp) (λe=>absurd e h2);rw[nV];unfold TW.here;rw[if_neg h1]
 ·rw[m.val x]at hn
  by_cases h:x∈dn∨ins zs x=[]
  ·refine k q _ _ [] (m.skip h) hq ?_ (by simp) (λp _=>rfl) (λ_=>rfl);unfold TW.here
   by_cases h1:x∈dn
   ·rw[if_pos h1];rfl
   ·rw[if_neg h1];rcases h with h|h
    ·exact absurd h h1
    ·rw[←nV,h]
  ·rw[if_neg h]at hn;cases hn
theorem nW{H:Hp}{p hl:Addr}{hs:ZN}{is:List Int}(hp:H p=some (.lst (is.map V.int)))(h:H hl=some (.lst (aY hs)))(hne:hs≠[]):hl≠p:=by
 intro e;rw[e,hp]at h;injection h with h
 injection h with h
 cases hs with
 |nil=>exact hne rfl
 |cons a r =>
  cases is with
  |nil=>simp[aY]at h
  |cons i r'=>simp[aY]at h
def jL(H:Hp)(p:Addr):Nat:=match H p with
 |some (.lst xs)=>xs.length
 |_=>0
theorem gR{H:Hp}{p:Addr}{xs:List V}(h:H p=some (.lst xs)):jL H p=xs.length:=by unfold jL;rw[h]
def eA(l:List Nd):List V:=(l.map (·.num)).map V.int
def dF(K:PySem.W.Frag)(H:Hp)(a:Addr):Prop:=∃ns:List Int,SqL K H a (ns.map V.int)
theorem dF.same{K:PySem.W.Frag}{H H':Hp}{a:Addr}(h:dF K H a)(s:Same H H'):dF K H' a:=let⟨ns,e⟩:=h;⟨ns,s.seq e⟩
theorem lC{ns:List Int}{i:Int}(h0:0≤i)(h1:i<ns.length):∃j,atI (ns.map V.int) i=some (.int j):=by
 refine⟨ns[i.toNat]'(by omega),?_⟩;have:=dO (xs:=ns.map V.int) (j:=i.toNat) (v:=.int (ns[i.toNat]'(by omega))) (by rw[getElem?_map,getElem?_eq_getElem (by omega)];rfl);rw[show((i.toNat:Nat):Int)=i by omega]at this;exact this
def Has(P:Program)(w:World)(K:PySem.W.Frag)(mg:Str→Option Value)(base:Heap)(k:Nat)(x:Str)(ps:List Str)(sp:Sp):Prop:=∃f fd,FnOk P w K mg base CX0 k f fd ps sp∧mg x=some (.ref f)∧keepIn K (.ref f)=true∧dM K fd ps []
def sL(n:Nd):Prop:=1≤n.num∧n.num≤12∧(n.nm="a"∨n.nm="b"∨n.nm="c"∨n.nm="abcde")∧(n.st=none∨n.st=some 0∨n.st=some 1∨n.st=some 2∨n.st=some 999)
structure Bd(zs:ZN)(lf:List Int):Prop where
 built:TW.Built (nds zs)
 nd:((nds zs).map (·.num)++lf).Nodup
 rng:∀x∈lf,1≤x∧x≤12
 own:TW.dD (nds zs)
 ok:∀z∈zs,sL z.2
theorem Bd.skip{zs:ZN}{lf:List Int}(b:Bd zs lf)(i:Nat):Bd zs (lf.eraseIdx i) :=
 ⟨b.built,Nodup.sublist (Sublist.append (Sublist.refl _) (List.eraseIdx_sublist lf i)) b.nd,λx hx=>b.rng x ((List.eraseIdx_sublist lf i).mem hx),b.own,b.ok⟩
theorem iY:∀{l:List Int}{i:Nat}{x:Int},l[i]?=some x→(x::l.eraseIdx i).Perm l
 |a::l,0,x,h=>by
  have:a=x:=by simpa using h
  subst this;exact List.Perm.refl _
 |a::l,i+1,x,h=>by
  have h':l[i]?=some x:=by simpa using h
  exact(List.Perm.swap a x _).trans (List.Perm.cons a (iY h'))
 |[],i,x,h=>by simp at h
theorem Bd.add{zs:ZN}{lf:List Int}{i:Nat}{q:Addr}{n:Nd}(b:Bd zs lf)(hi:lf[i]?=some n.num)(hp:n.par∈(0:Int)::TW.aV (nds zs))(ho:∀z∈zs,¬(z.2.par=n.par∧z.2.nm=n.nm))(h3:n.nm="a"∨n.nm="b"∨n.nm="c"∨n.nm="abcde")(h4:n.st=none∨n.st=some 0∨n.st=some 1∨n.st=some 2∨n.st=some 999):Bd (zs++[(q,n)]) (lf.eraseIdx i):=by
 have e:nds (zs++[(q,n)])=nds zs++[n]:=by simp[nds]
 have pm:=iY hi;refine⟨?_,?_,λx hx=>b.rng x ((List.eraseIdx_sublist lf i).mem hx),?_,λz hz=>?_⟩
 ·rw[e];refine .snoc b.built ?_;rcases mem_cons.mp hp with h|h
  ·exact .inl h
  ·exact .inr (TW.ir.mp h)
 ·rw[e,map_append,append_assoc];exact((List.Perm.append_left _ pm).nodup_iff).mpr b.nd
 ·rw[e];unfold TW.dD;rw[map_append,nodup_append];refine⟨b.own,by simp,λx hx y hy=>?_⟩;have ey:y=(n.par,n.nm):=by simpa using hy
  subst ey;obtain⟨m,hm,rfl⟩:=mem_map.mp hx;obtain⟨z,hz,rfl⟩:=mem_map.mp hm;intro h;injection h with h1 h2
  exact ho z hz ⟨h1,h2⟩
 ·rcases mem_append.mp hz with h|h
  ·exact b.ok z h
  ·have ez:z=(q,n):=by simpa using h
   subst ez;have:=b.rng n.num (mem_of_getElem? hi);exact⟨this.1,this.2,h3,h4⟩
def tp(z:Addr×Nd):gP:=(z.1,z.2.num,[.int z.2.par,.str z.2.nm,stV z.2.st])
def un(t:gP):Addr×Nd:=(t.1,match t.2.2 with
 |[.int p,.str s,.int i]=>⟨t.2.1,p,s,some i⟩
 |[.int p,.str s,_]=>⟨t.2.1,p,s,none⟩
 | _=>⟨0,0,"",none⟩)
theorem uh(z:Addr×Nd):un (tp z)=z:=by
 obtain⟨a,⟨n,p,s,st⟩⟩:=z;cases st<;>rfl
theorem back{zs:ZN}{ts:List gP}(h:ts.Perm (zs.map tp)):(ts.map un).Perm zs∧(ts.map un).map tp=ts:=by
 constructor
 ·have:=h.map un;rw[map_map]at this;have e:zs.map (un∘tp)=zs.map id:=map_congr_left λz _=>uh z;rw[e,List.map_id]at this;exact this
 ·rw[map_map,map_congr_left (g:=id)]
  ·simp
  ·intro t ht;obtain⟨z,_,rfl⟩:=mem_map.mp (h.mem_iff.mp ht);show tp (un (tp z))=tp z;rw[uh]
theorem iE(zs:ZN):((zs.map tp).map (·.1)).map V.ref=aY zs:=by
 unfold aY;simp only[map_map];rfl
theorem vr{n:Nat}{j:Int}(h0:0≤j)(h1:j<n):seqIndex? j n=some j.toNat:=(nO (by unfold ixN;rw[if_pos h0,if_pos h1])).1
theorem jM:∀(l:List Int)(i:Nat),(l.map V.int).eraseIdx i=(l.eraseIdx i).map V.int
 |[],i=>by simp
 |a::l,0=>rfl
 |a::l,i+1=>by
  show V.int a::(l.map V.int).eraseIdx i=V.int a::(l.eraseIdx i).map V.int;rw[jM l i]
theorem nX{ns:List Int}{i:Int}(h0:0≤i)(h1:i<ns.length):∃x∈ns,atI (ns.map V.int) i=some (.int x):=by
 refine⟨ns[i.toNat]'(by omega),getElem_mem _,?_⟩;have:=dO (xs:=ns.map V.int) (j:=i.toNat) (v:=.int (ns[i.toNat]'(by omega))) (by rw[getElem?_map,getElem?_eq_getElem (by omega)];rfl);rw[show((i.toNat:Nat):Int)=i by omega]at this;exact this
theorem nY{j:Int}(h0:0≤j)(h1:j<4):∃x:Str,(x="a"∨x="b"∨x="c"∨x="abcde")∧atI [V.str "a",.str "b",.str "c",.str "abcde"] j=some (.str x):=by
 obtain rfl|rfl|rfl|rfl:j=0∨j=1∨j=2∨j=3:=by omega
 ·exact⟨"a",.inl rfl,rfl⟩
 ·exact⟨"b",.inr (.inl rfl),rfl⟩
 ·exact⟨"c",.inr (.inr (.inl rfl)),rfl⟩
 ·exact⟨"abcde",.inr (.inr (.inr rfl)),rfl⟩
theorem sM{j:Int}(h0:0≤j)(h1:j<4):∃i:Int,(some i=none∨some i=some (0:Int)∨some i=some 1∨some i=some 2∨some i=some 999)∧atI [V.int 0,.int 1,.int 2,.int 999] j=some (.int i):=by
 obtain rfl|rfl|rfl|rfl:j=0∨j=1∨j=2∨j=3:=by omega
 ·exact⟨0,.inr (.inl rfl),rfl⟩
 ·exact⟨1,.inr (.inr (.inl rfl)),rfl⟩
 ·exact⟨2,.inr (.inr (.inr (.inl rfl))),rfl⟩
 ·exact⟨999,.inr (.inr (.inr (.inr rfl))),rfl⟩
structure Sta(H:Hp)(pl pf pn:Addr)(Hx:Hp)(lf fs:List Int)(zs:ZN):Prop where
 same:Same H Hx
 l:Hx pl=some (.lst (lf.map V.int))
 f:Hx pf=some (.lst (fs.map V.int))
 n:Hx pn=some (.lst (aY zs))
 nd:At Hx zs
 l0:H pl=none
 f0:H pf=none
 n0:H pn=none
 lf':pl≠pf
 ln':pl≠pn
 fn':pf≠pn
theorem Sta.grow{H Hx Hy:Hp}{pl pf pn:Addr}{lf fs:List Int}{zs:ZN}(a:Sta H pl pf pn Hx lf fs zs)(s:Same Hx Hy):Sta H pl pf pn Hy lf fs zs :=
 ⟨a.same.trans s,s _ _ a.l,s _ _ a.f,s _ _ a.n,a.nd.same s,a.l0,a.f0,a.n0,a.lf',a.ln',a.fn'⟩
theorem At.over{H:Hp}{p:Addr}{xs:List V}{o:HO}{zs:ZN}(h:At H zs)(hp:H p=some (.lst xs)):At (upd H p o) zs:=λz hz=>by
 rw[al]
 ·exact h z hz
 ·intro e;have:=h z hz;rw[e,hp]at this;cases this
theorem Sta.pop{H Hx:Hp}{pl pf pn:Addr}{lf fs:List Int}{zs:ZN}(a:Sta H pl pf pn Hx lf fs zs)(lf2:List Int):Sta H pl pf pn (upd Hx pl (.lst (lf2.map V.int))) lf2 fs zs :=
 ⟨aO a.l0 a.same,ac,by rw[al (symm a.lf')];exact a.f,by rw[al (symm a.ln')];exact a.n,a.nd.over a.l,a.l0,a.f0,a.n0,a.lf',a.ln',a.fn'⟩
theorem Sta.fold{H Hx:Hp}{pl pf pn:Addr}{lf fs:List Int}{zs:ZN}(a:Sta H pl pf pn Hx lf fs zs)(x:Int):Sta H pl pf pn (upd Hx pf (.lst (fs.map V.int++[.int x]))) lf (fs++[x]) zs :=
 ⟨aO a.f0 a.same,by rw[al a.lf'];exact a.l,by rw[ac];simp,by rw[al (symm a.fn')];exact a.n,a.nd.over a.f,a.l0,a.f0,a.n0,a.lf',a.ln',a.fn'⟩
theorem Sta.node{H Hx:Hp}{pl pf pn q:Addr}{lf fs:List Int}{zs:ZN}{n:Nd}(a:Sta H pl pf pn Hx lf fs zs)(hq:Hx q=some (.tup (vals n))):Sta H pl pf pn (upd Hx pn (.lst (aY zs++[.ref q]))) lf fs (zs++[(q,n)]) :=
 ⟨aO a.n0 a.same,by rw[al a.ln'];exact a.l,by rw[al a.fn'];exact a.f,by rw[ac,ie],(λz hz=>by
  rcases mem_append.mp hz with h|h
  ·exact a.nd.over a.n z h
  ·have ez:z=(q,n):=by simpa using h
   subst ez;rw[al]
   ·exact hq
   ·intro e;have e':q=pn:=e;rw[e',a.n]at hq;cases hq),a.l0,a.f0,a.n0,a.lf',a.ln',a.fn'⟩
def lf0(m:Int):List Int:=(List.range (m+4-1).toNat).map λk=>(1:Int)+(k:Nat)
theorem sN{m:Int}(h:0≤m):((lf0 m).length:Int)=m+3:=by unfold lf0;rw[length_map,length_range];omega
theorem sO{m:Int}(h:m≤9):∀x∈lf0 m,1≤x∧x≤12:=λx hx=>by
 unfold lf0 at hx;obtain⟨k,hk,rfl⟩:=mem_map.mp hx;have:=mem_range.mp hk;omega
theorem vt(m:Int):(lf0 m).Nodup:=by
 unfold lf0 Nodup;rw[pairwise_map];exact List.nodup_range.imp λh e=>h (by omega)
theorem Bd.zero{m:Int}(h:m≤9):Bd [] (lf0 m):=⟨.nil,by show(([]:List Int)++lf0 m).Nodup;rw[List.nil_append];exact vt m,sO h,by unfold TW.dD nds;simp,by simp⟩
def dc(zs:ZN):List (Key×V):=zs.map λz=>((Sum.inl z.2.num:Key),V.ref z.1)
theorem kq{zs:ZN}(hn:((nds zs).map (·.num)).Nodup){z:Addr×Nd}(hz:z∈zs):bi (dc zs) (Sum.inl z.2.num:Key)=some (.ref z.1):=by
 induction zs with
 |nil=>simp at hz
 |cons y zs ih =>
  have hn':y.2.num∉(nds zs).map (·.num)∧((nds zs).map (·.num)).Nodup:=by simpa [nds]using hn
  show bi (((Sum.inl y.2.num:Key),V.ref y.1)::dc zs) _=_;rcases mem_cons.mp hz with e|hz'
  ·subst e;exact bx rfl
  ·rw[bn]
   ·exact ih hn'.2 hz'
   ·intro e;injection e with e
    exact hn'.1 (mem_map.mpr ⟨z.2,mem_map.mpr ⟨z,hz',rfl⟩,e.symm⟩)
theorem mX{zs:ZN}{k:Int}(h:∀z∈zs,z.2.num≠k):bi (dc zs) (Sum.inl k:Key)=none:=by
 induction zs with
 |nil=>rfl
 |cons y zs ih =>
  show bi (((Sum.inl y.2.num:Key),V.ref y.1)::dc zs) _=_;rw[bn]
  ·exact ih λz hz=>h z (mem_cons_of_mem _ hz)
  ·intro e;injection e with e
   exact h y (by simp) e
def gg(H:Hp)(d:Addr)(zs:ZN):Prop:=∃o,H d=some (.frz o (.dK (dc zs)))
theorem gg.same{H H':Hp}{d:Addr}{zs:ZN}(h:gg H d zs)(s:Same H H'):gg H' d zs:=let⟨o,e⟩:=h;⟨o,s _ _ e⟩
theorem gg.get{H:Hp}{d:Addr}{zs:ZN}(h:gg H d zs)(hn:((nds zs).map (·.num)).Nodup){z:Addr×Nd}(hz:z∈zs):cW H d (.int z.2.num) (some (.ref z.1)):=by
 obtain⟨o,e⟩:=h;exact .inl ⟨dc zs,Sum.inl z.2.num,.inr ⟨o,e⟩,rfl,(kq hn hz).symm⟩
theorem gg.not{H:Hp}{d:Addr}{zs:ZN}(h:gg H d zs){k:Int}(hk:∀z∈zs,z.2.num≠k):cW H d (.int k) none:=by
 obtain⟨o,e⟩:=h;exact .inl ⟨dc zs,Sum.inl k,.inr ⟨o,e⟩,rfl,(mX hk).symm⟩
theorem aI{ns:List Nd}(T:TW.Tree1 ns):(ns.map (·.num)).Nodup:=by
 have h:=T.rise;unfold TW.cD at h;unfold Nodup;rw[pairwise_map];exact h.imp λh e=>by omega
theorem sP{ys:List V}{zs:ZN}{H:Hp}{p:Addr}{g:Addr×Nd→List V}(hlen:ys.length=zs.length)(h:∀(i:Nat) y,ys[i]?=some y→∃q z,zs[i]?=some z∧y=.ref q∧q≠p∧H q=some (.tup (g z))):
  ∃as:List (Addr×(Addr×Nd)),as.map (·.2)=zs∧ys=(as.map (·.1)).map V.ref∧∀a∈as,a.1≠p∧H a.1=some (.tup (g a.2)):=by
 induction ys generalizing zs with
 |nil =>
  have:zs=[]:=length_eq_zero_iff.mp hlen.symm;subst this;exact⟨[],rfl,rfl,by simp⟩
 |cons y ys ih =>
  cases zs with
  |nil=>simp at hlen
  |cons z zs =>
   obtain⟨as,e1,e2,e3⟩:=ih (zs:=zs) (by simpa using hlen) λi x hx=>by simpa using h (i+1) x (by simpa using hx)
   obtain⟨q,z',f1,f2,f3,f4⟩:=h 0 y rfl;have:z=z':=by simpa using f1
   subst this;refine⟨(q,z)::as,by simp[e1],by simp[e2,f2],λa ha=>?_⟩;rcases mem_cons.mp ha with rfl|ha
   ·exact⟨f3,f4⟩
   ·exact e3 a ha
theorem gS{κ:Type}[DecidableEq κ]{kvs:List (κ×V)}(hn:(kvs.map (·.1)).Nodup){k:κ}{v:V}(h:(k,v)∈kvs):bi kvs k=some v:=by
 induction kvs with
 |nil=>simp at h
 |cons y kvs ih =>
  have hn':y.1∉kvs.map (·.1)∧(kvs.map (·.1)).Nodup:=by simpa using hn
  rcases mem_cons.mp h with e|h'
  ·subst e;exact bx rfl
  ·rw[bn]
   ·exact ih hn'.2 h'
   ·intro e;exact hn'.1 (mem_map.mpr ⟨_,h',e.symm⟩)
theorem kr{κ:Type}[DecidableEq κ]{kvs:List (κ×V)}{k:κ}(h:k∉kvs.map (·.1)):bi kvs k=none:=by
 induction kvs with
 |nil=>rfl
 |cons y kvs ih =>
  have h':¬k=y.1∧k∉kvs.map (·.1):=by simpa using h
  rw[bn (λe=>h'.1 e.symm)];exact ih h'.2
theorem nZ{zs:ZN}{k:Int}{q:List Str}(T:TW.Tree1 (nds zs))(h:TW.PathTo (nds zs) k q)(hk:k≠0):∃z∈zs,z.2.num=k∧∃q',q=q'++[z.2.nm]∧TW.PathTo (nds zs) z.2.par q':=by
 cases h with
 |top=>exact absurd rfl hk
 |@node n q' hm hq' =>
  obtain⟨z,hz,rfl⟩:=mem_map.mp hm;exact⟨z,hz,rfl,q',rfl,hq'⟩
def dG(P:Program)(w:World)(K:PySem.W.Frag)(mg:Str→Option Value)(base:Heap)(k:Nat)(x:Str)(ps:List Str)(sp:Sp):Prop:=∃f fd,FnOk P w K mg base (CX1 P w) k f fd ps sp∧mg x=some (.ref f)∧keepIn K (.ref f)=true∧dM K fd ps []
structure Tre(H:Hp)(t:Addr)(zs:ZN):Prop where
 tup:H t=some (.tup (aY zs))
 nod:At H zs
 tr:TW.Tree1 (nds zs)
 len:zs.length≤30
theorem Tre.same{H H':Hp}{t:Addr}{zs:ZN}(h:Tre H t zs)(s:Same H H'):Tre H' t zs:=⟨s _ _ h.tup,h.nod.same s,h.tr,h.len⟩
theorem pE{ns:List Nd}(T:TW.Tree1 ns){f:Int}{dn:List Int}{fd:List Nd}(wk:TW.Walk ns f dn fd []):(fd.map (·.num)).Nodup:=by
 have h:=aI T;have:(fd.map (·.num)).Perm ((ns.filter (TW.eP dn)).map (·.num)):=wk.perm.map _;exact this.nodup_iff.mpr (h.sublist (filter_sublist.map _))
theorem _root_.L2.Same.rd{H H':Hp}(s:Same H H'){a:Addr}{u:HO}(r:Rd H a u):Rd H' a u:=by
 rcases r with r|⟨o,r⟩
 ·exact .inl (s _ _ r)
 ·exact .inr ⟨o,s _ _ r⟩
def aC(as:List (Addr×(Addr×Nd))):List (Key×V):=as.map λa=>((Sum.inl a.2.2.num:Key),V.ref a.1)
def bz(n:Nd):List V:=[.int n.par,.str n.nm,stV n.st]
structure Book(H:Hp)(d:Addr)(as:List (Addr×(Addr×Nd)))(zs:ZN):Prop where
 dict:Rd H d (.dK (aC as))
 of:as.map (·.2)=zs
 at':∀a∈as,H a.1=some (.tup (bz a.2.2))
theorem Book.same{H H':Hp}{d:Addr}{as:List (Addr×(Addr×Nd))}{zs:ZN}(b:Book H d as zs)(s:Same H H'):Book H' d as zs:=⟨s.rd b.dict,b.of,λa ha=>s _ _ (b.at' a ha)⟩
theorem iZ{as:List (Addr×(Addr×Nd))}{zs:ZN}(h:as.map (·.2)=zs):(aC as).map (·.1)=((nds zs).map (·.num)).map (Sum.inl:Int→Key):=by
 rw[←h];unfold aC nds;simp only[map_map];rfl
theorem qA{as:List (Addr×(Addr×Nd))}{zs:ZN}(h:as.map (·.2)=zs)(hn:((nds zs).map (·.num)).Nodup):((aC as).map (·.1)).Nodup:=by
 rw[iZ h];unfold Nodup at hn⊢;rw[pairwise_map];exact hn.imp λh e=>h (by injection e)
theorem Book.get{H:Hp}{d:Addr}{as:List (Addr×(Addr×Nd))}{zs:ZN}(b:Book H d as zs)(hn:((nds zs).map (·.num)).Nodup){z:Addr×Nd}(hz:z∈zs):∃q,cW H d (.int z.2.num) (some (.ref q))∧H q=some (.tup (bz z.2)):=by
 have:z∈as.map (·.2):=by rw[b.of];exact hz
 obtain⟨a,ha,rfl⟩:=mem_map.mp this;refine⟨a.1,.inl ⟨aC as,Sum.inl a.2.2.num,b.dict,rfl,?_⟩,b.at' a ha⟩;exact(gS (qA b.of hn) (mem_map.mpr ⟨a,ha,rfl⟩)).symm
theorem Book.not{H:Hp}{d:Addr}{as:List (Addr×(Addr×Nd))}{zs:ZN}(b:Book H d as zs){k:Int}(hk:∀z∈zs,z.2.num≠k):cW H d (.int k) none:=by
 refine .inl ⟨aC as,Sum.inl k,b.dict,rfl,(kr λhm=>?_).symm⟩;rw[iZ b.of]at hm;obtain⟨i,hi,e⟩:=mem_map.mp hm;obtain⟨n,hn,rfl⟩:=mem_map.mp hi;obtain⟨z,hz,rfl⟩:=mem_map.mp hn;injection e with e
 exact hk z hz e
def lD(ns:List Nd)(k:Int):Nat:=open Classical in if h:∃p,TW.PathTo ns k p then (Classical.choose h).length else 0
theorem iF{ns:List Nd}(T:TW.Tree1 ns){k:Int}{p:List Str}(h:TW.PathTo ns k p):lD ns k=p.length:=by
 unfold lD;have hx:∃p,TW.PathTo ns k p:=⟨p,h⟩;rw[dif_pos hx];rw[(Classical.choose_spec hx).uniq T h]
theorem qB(n:Nd):atI (bz n) 0=some (.int n.par):=rfl
abbrev lE(x:Str)(mg:Str→Option Value)(base:Heap)(C:Addr):Prop:=PyProof.Rows.OwnCls x C bmV "ValueError.__new__" mg base
theorem oa(o:Option Int):(!decide (stV o=V.non))=o.isSome:=by cases o<;>simp[stV]
theorem bS(zs:ZN):zs.map (λz=>V.ref z.1)=aY zs:=by simp[aY]
def xz:TW.Wd→Str
 |.known=>"Known"
 |.noNode=>"NoNode"
 |.notFile=>"NotFile"
 |.notFolder=>"NotFolder"
 |.inside=>"Inside"
 |.taken=>"Taken"
abbrev sQ(mg:Str→Option Value)(base:Heap)(cls:TW.Wd→Addr):Prop:=∀w,lE (xz w) mg base (cls w)
structure Outs(H:Hp)(t:List Nd)(d:TW.Deed Str)(cls:TW.Wd→Addr)(Q:VK)(E:XK):Prop where
 ok:∀us t' H',Same H H'→H' t'=some (.tup (aY us))→At H' us→TW.Told t d (.inr (nds us))→Q (.ref t') H'
 no:∀w H',Same H H'→TW.Told t d (.inl w)→E (.ref (cls w)) none H'
theorem fc{K:PySem.W.Frag}{H:Hp}{l:Addr}{zs:ZN}{Q:VK}(hl:SqL K H l (aY zs)∨SqT K H l (aY zs))(hA:At H zs)(hn:((nds zs).map (·.num)).Nodup)(h64:zs.length<64)(q:∀us t' H',Same H H'→H' t'=some (.tup (aY us))→At H' us→us.Perm zs→TW.cD (nds us)→Q (.ref t') H'):
  ∃l',∃ts:List gP,[V.ref l]=[V.ref l']∧(SqL K H l' ((ts.map (·.1)).map V.ref)∨SqT K H l' ((ts.map (·.1)).map V.ref))∧(∀z∈ts,H z.1=some (.tup (.int z.2.1::z.2.2)))∧(ts.map (·.2.1)).Nodup∧ts.length<64 ∧
   ∀ts':List gP,ts'.Perm ts→ts'.Pairwise (λa b=>a.2.1<b.2.1)→∀p,H p=none→∃p' ys,[V.ref p]=[V.ref p']∧((SqL K (upd H p (.lst ((ts'.map (·.1)).map V.ref))) p' ys∧∀l,upd H p (.lst ((ts'.map (·.1)).map V.ref)) l=none→Q (.ref l) (upd (upd H p (.lst ((ts'.map (·.1)).map V.ref))) l (.tup ys))) ∨
    (SqT K (upd H p (.lst ((ts'.map (·.1)).map V.ref))) p' ys∧Q (.ref p') (upd H p (.lst ((ts'.map (·.1)).map V.ref))))):=by
 have hnum:(zs.map tp).map (·.2.1)=(nds zs).map (·.num):=by
  unfold nds;simp only[map_map];rfl
 refine⟨l,zs.map tp,rfl,by rw[iE];exact hl,λz hz=>?_,by rw[hnum];exact hn,by rw[length_map];exact h64,λts pm up p hp=>?_⟩
 ·obtain⟨y,hy,rfl⟩:=mem_map.mp hz;exact hA y hy
 ·obtain⟨pm2,eb⟩:=back pm;have er:(ts.map (·.1)).map V.ref=aY (ts.map un):=by rw[←iE,eb]
  rw[er];refine⟨p,_,rfl,.inl ⟨SqL.of ac,λl hl=>?_⟩⟩;refine q (ts.map un) l _ ((af hp).trans (af hl)) ac ?_ pm2 ?_
  ·intro z hz;exact((af hp).trans (af hl)) _ _ (hA z (pm2.mem_iff.mp hz))
  ·unfold nds TW.cD;rw[pairwise_map];have up2:((ts.map un).map tp).Pairwise (λa b=>a.2.1<b.2.1):=by rw[eb];exact up
   rw[pairwise_map]at up2;exact up2
def bf:TW.Deed Str→List V
 |.make n p nm st=>[.str "make",.int n,.int p,.str nm,stV st]
 |.write n st=>[.str "write",.int n,.int st]
 |.move n p nm=>[.str "move",.int n,.int p,.str nm]
 |.drop n=>[.str "drop",.int n]
def kt:TW.Deed Str→Prop
 |.make n p nm _=>1≤n∧n≤60∧0≤p∧p≤60∧nm.length≤100
 |.write n _=>1≤n∧n≤60
 |.move n p nm=>1≤n∧n≤60∧0≤p∧p≤60∧nm.length≤100
 |.drop n=>1≤n∧n≤60
theorem kt.pos{d:TW.Deed Str}(h:kt d):d.pos:=by
 cases d<;>first|exact h.1|trivial
theorem aA{zs:ZN}{z:Addr×Nd}(h:z∈zs):z.2∈nds zs:=mem_map.mpr ⟨z,h,rfl⟩
theorem bj{zs:ZN}{n:Nd}(h:n∈nds zs):∃z∈zs,z.2=n:=mem_map.mp h
theorem cL{zs:ZN}{k:Int}(h:¬∃z∈zs,z.2.num=k):¬TW.ax (nds zs) k:=λ⟨m,hm,e⟩=>by
 obtain⟨z,hz,rfl⟩:=bj hm;exact h ⟨z,hz,e⟩
theorem eB{zs:ZN}{k:Int}{z:Addr×Nd}(hz:z∈zs)(e:z.2.num=k):TW.ax (nds zs) k:=⟨z.2,aA hz,e⟩
def qC:TW.Wd→Str
 |.known=>"known"
 |.noNode=>"no node"
 |.notFile=>"not file"
 |.notFolder=>"not folder"
 |.inside=>"inside"
 |.taken=>"taken"
def cc(bs:List (Addr×Nd)):List (Key×V):=bs.map λb=>((Sum.inl b.2.num:Key),V.ref b.1)
theorem ku(as:List (Addr×(Addr×Nd))):aC as=cc (as.map λa=>(a.1,a.2.2)):=by
 unfold aC cc;rw[map_map];rfl
theorem ja(bs:List (Addr×Nd)):(cc bs).map (λp=>kV p.1)=bs.map λb=>V.int b.2.num:=by
 unfold cc;rw[map_map];rfl
theorem jN{bs:List (Addr×Nd)}(hn:(bs.map (·.2.num)).Nodup){b:Addr×Nd}(hb:b∈bs):bi (cc bs) (Sum.inl b.2.num:Key)=some (.ref b.1):=by
 refine gS ?_ (mem_map.mpr ⟨b,hb,rfl⟩);unfold cc;rw[map_map];unfold Nodup at hn⊢;rw[pairwise_map]at hn⊢;exact hn.imp λh e=>h (by injection e)
theorem pF(bs:List (Addr×Nd))(c:Addr)(n:Nd):cg (cc bs) (Sum.inl n.num:Key) (.ref c)=cc (if ∃b∈bs,b.2.num=n.num then bs.map (λb=>if b.2.num=n.num then (c,n)else b)else bs++[(c,n)]):=by
 unfold cg
 by_cases h:∃b∈bs,b.2.num=n.num
 ·obtain⟨b,hb,e⟩:=h;have ha:((cc bs).any λkv=>decide (kv.1=(Sum.inl n.num:Key)))=true:=by
   rw[any_eq_true];exact⟨_,mem_map.mpr ⟨b,hb,rfl⟩,by simp[e]⟩
  rw[if_pos ha,if_pos ⟨b,hb,e⟩];unfold cc;rw[map_map,map_map];apply map_congr_left;intro x _;show(if (Sum.inl x.2.num:Key)=Sum.inl n.num then ((Sum.inl x.2.num:Key),V.ref c)else ((Sum.inl x.2.num:Key),V.ref x.1))=_
  by_cases e:x.2.num=n.num
  ·rw[if_pos (by rw[e])];show _=((Sum.inl (if x.2.num=n.num then (c,n)else x).2.num:Key),V.ref (if x.2.num=n.num then (c,n)else x).1)
   rw[if_pos e,e]
  ·rw[if_neg (λh=>e (by injection h))];show _=((Sum.inl (if x.2.num=n.num then (c,n)else x).2.num:Key),V.ref (if x.2.num=n.num then (c,n)else x).1)
   rw[if_neg e]
 ·have ha:¬((cc bs).any λkv=>decide (kv.1=(Sum.inl n.num:Key)))=true:=λha=>h (by
   obtain⟨y,hy,e⟩:=any_eq_true.mp ha;obtain⟨b,hb,rfl⟩:=mem_map.mp hy;have e':(Sum.inl b.2.num:Key)=Sum.inl n.num:=by simpa using e
   exact⟨b,hb,by injection e'⟩)
  rw[if_neg ha,if_neg h];unfold cc;rw[map_append];rfl
theorem mY(n:Nd):atI (bz n) 2=some (stV n.st):=rfl
theorem lF{H:Hp}{d q:Addr}{as:List (Addr×(Addr×Nd))}{zs:ZN}{new:Nd}(hd:H d=some (.dK (aC as)))(hof:as.map (·.2)=zs)(hat:∀a∈as,H a.1=some (.tup (bz a.2.2)))(hq:H q=some (.tup (bz new)))(hnd:((nds zs).map (·.num)).Nodup):
  ∃bs:List (Addr×Nd),upd H d (.dK (cg (aC as) (Sum.inl new.num:Key) (.ref q))) d=some (.dK (cc bs))∧(∀b∈bs,upd H d (.dK (cg (aC as) (Sum.inl new.num:Key) (.ref q))) b.1=some (.tup (bz b.2)))∧(bs.map (·.2.num)).Nodup∧bs.length≤zs.length+1 ∧
   ((TW.ax (nds zs) new.num∧bs.map (·.2)=(nds zs).map (TW.put new))∨(¬TW.ax (nds zs) new.num∧bs.map (·.2)=nds zs++[new])):=by
 have en:(as.map λa=>(a.1,a.2.2)).map (·.2)=nds zs:=by rw[←hof];unfold nds;rw[map_map,map_map];rfl
 have hl:(as.map λa=>(a.1,a.2.2)).length=zs.length:=by rw[←hof,length_map,length_map]
 have ne:∀a xs,H a=some (.tup xs)→a≠d:=λa xs h e=>by rw[e,hd]at h;cases h
 have hat':∀b∈as.map (λa=>(a.1,a.2.2)),H b.1=some (.tup (bz b.2)):=λb hb=>by
  obtain⟨a,ha,rfl⟩:=mem_map.mp hb;exact hat a ha
 rw[ku,pF];generalize as.map (λa=>(a.1,a.2.2))=cs at en hl hat'⊢;have hh:(∃b∈cs,b.2.num=new.num)↔TW.ax (nds zs) new.num:=by
  rw[←en];constructor
  ·rintro⟨b,hb,e⟩;exact⟨b.2,mem_map.mpr ⟨b,hb,rfl⟩,e⟩
  ·rintro⟨m,hm,e⟩;obtain⟨b,hb,rfl⟩:=mem_map.mp hm;exact⟨b,hb,e⟩
 have hn2:(cs.map (·.2.num)).Nodup:=by
  have:cs.map (·.2.num)=(nds zs).map (·.num):=by rw[←en,map_map];rfl
  rw[this];exact hnd
 by_cases h:∃b∈cs,b.2.num=new.num
 ·rw[if_pos h];refine⟨_,ac,λb hb=>?_,?_,by rw[length_map];omega,.inl ⟨hh.mp h,?_⟩⟩
  ·obtain⟨c,hc,rfl⟩:=mem_map.mp hb
   by_cases e:c.2.num=new.num
   ·rw[if_pos e,al (ne _ _ hq)];exact hq
   ·rw[if_neg e,al (ne _ _ (hat' c hc))];exact hat' c hc
  ·have:(cs.map λb=>if b.2.num=new.num then (q,new)else b).map (·.2.num)=cs.map (·.2.num):=by
    rw[map_map];apply map_congr_left;intro c _;show(if c.2.num=new.num then (q,new)else c).2.num=c.2.num
    by_cases e:c.2.num=new.num
    ·rw[if_pos e];exact e.symm
    ·rw[if_neg e]
   rw[this];exact hn2
  ·rw[←en,map_map,map_map];apply map_congr_left;intro c _;show(if c.2.num=new.num then (q,new)else c).2=TW.put new c.2
   unfold TW.put
   by_cases e:c.2.num=new.num
   ·rw[if_pos e,if_pos e]
   ·rw[if_neg e,if_neg e]
 ·rw[if_neg h];refine⟨_,ac,λb hb=>?_,?_,by rw[length_append];simp;omega,.inr ⟨λx=>h (hh.mpr x),by rw[map_append,en];rfl⟩⟩
  ·rcases mem_append.mp hb with hb|hb
   ·rw[al (ne _ _ (hat' b hb))];exact hat' b hb
   ·have e:b=(q,new):=by simpa using hb
    subst e;rw[al (ne _ _ hq)];exact hq
  ·rw[map_append,nodup_append];refine⟨hn2,by simp,λx hx y hy e=>?_⟩;have ey:y=new.num:=by simpa using hy
   obtain⟨b,hb,eb⟩:=mem_map.mp hx;exact h ⟨b,hb,by rw[eb,e,ey]⟩
def jb(t:List Nd)(dd:TW.Deed Str)(n p:Int)(nm:Str):Prop:=(∃st,dd=.make n p nm st∧¬TW.ax t n)∨(dd=.move n p nm∧TW.ax t n)
theorem jb.no{t:List Nd}{dd:TW.Deed Str}{n p:Int}{nm:Str}(h:jb t dd n p nm)(h0:p≠0)(hp:¬TW.ax t p):TW.Told t dd (.inl .noNode):=by
 rcases h with⟨st,rfl,hn⟩|⟨rfl,hn⟩
 ·exact .mNo hn h0 hp
 ·exact .vNoP hn h0 hp
theorem jb.file{t:List Nd}{dd:TW.Deed Str}{n p:Int}{nm:Str}(h:jb t dd n p nm)(h0:p≠0){m:Nd}(hm:m∈t)(e:m.num=p)(hs:m.st≠none):TW.Told t dd (.inl .notFolder):=by
 rcases h with⟨st,rfl,hn⟩|⟨rfl,hn⟩
 ·exact .mFile hn h0 hm e hs
 ·exact .vFile hn h0 hm e hs
def NotIn(t:List Nd)(dd:TW.Deed Str)(n p:Int):Prop:=(∃nm,dd=.move n p nm)→p≠0→¬TW.Und t n p
theorem jb.taken{t:List Nd}{dd:TW.Deed Str}{n p:Int}{nm:Str}(h:jb t dd n p nm)(hF:TW.gf t p)(hi:NotIn t dd n p){m:Nd}(hm:m∈t)(hne:m.num≠n)(e1:m.par=p)(e2:m.nm=nm):TW.Told t dd (.inl .taken):=by
 rcases h with⟨st,rfl,hn⟩|⟨rfl,hn⟩
 ·exact .mTaken hn hF hm e1 e2
 ·exact .vTaken hn hF (hi ⟨_,rfl⟩) hm hne e1 e2
def lG(x:Str):Prop:=x="a"∨x="b"∨x="c"∨x="abcde"
def vw(s:Option Int):Prop:=∀i,s=some i→0≤i∧i≤999
def iA(n:Nd):Prop:=1≤n.num∧n.num≤60∧lG n.nm∧vw n.st
def dH:TW.Deed Str→Prop
 |.make n p nm st=>1≤n∧n≤60∧0≤p∧p≤60∧lG nm∧vw st
 |.write n st=>1≤n∧n≤60∧0≤st∧st≤999
 |.move n p nm=>1≤n∧n≤60∧0≤p∧p≤60∧lG nm
 |.drop n=>1≤n∧n≤60
theorem lG.len{x:Str}(h:lG x):x.length≤100:=by
 rcases h with rfl|rfl|rfl|rfl<;>decide +kernel
theorem dH.ok{d:TW.Deed Str}(h:dH d):kt d:=by
 cases d with
 |make n p nm st=>obtain⟨h1,h2,h3,h4,h5,_⟩:=h;exact⟨h1,h2,h3,h4,h5.len⟩
 |write n st=>exact⟨h.1,h.2.1⟩
 |move n p nm=>obtain⟨h1,h2,h3,h4,h5⟩:=h;exact⟨h1,h2,h3,h4,h5.len⟩
 |drop n=>exact h
theorem iA.told{t u:List Nd}{d:TW.Deed Str}(ht:∀n∈t,iA n)(hd:dH d)(h:TW.Told t d (.inr u)):∀n∈u,iA n:=by
 refine h.all ht (λn p nm st e=>?_) (λn st e y hy ey=>?_) (λn p nm e y hy ey=>?_)
 ·subst e;obtain⟨h1,h2,h3,h4,h5,h6⟩:=hd;exact⟨h1,h2,h5,h6⟩
 ·subst e;obtain⟨h1,h2,h3,h4⟩:=hd;exact⟨h1,h2,(ht y hy).2.2.1,λi e=>by injection e with e;omega⟩
 ·subst e;obtain⟨h1,h2,h3,h4,h5⟩:=hd;exact⟨h1,h2,h5,(ht y hy).2.2.2⟩
theorem sL.ok{n:Nd}(h:sL n):iA n:=by
 obtain⟨h1,h2,h3,h4⟩:=h;refine⟨h1,by omega,h3,λi e=>?_⟩;rcases h4 with h|h|h|h|h<;>rw[h]at e<;>cases e<;>decide
theorem og{ns:List Int}{i:Int}(h0:0≤i)(h1:i<ns.length){P:Int→Prop}(hP:∀x∈ns,P x):∃x,atI (ns.map V.int) i=some (.int x)∧P x:=by
 obtain⟨x,hx,e⟩:=nX h0 h1;exact⟨x,e,hP x hx⟩
def top(i:Nat):Stmt:=PySem.Challenge.pw_treewatch_k32_whole_few.main.body.getD i (.Pass ⟨0,0,0,0⟩)
abbrev vx:Stmt:=top 12
abbrev vz:Stmt:=top 13
abbrev vA:Stmt:=top 14
abbrev vB:Stmt:=top 15
abbrev vC:Stmt:=top 16
abbrev vD:Stmt:=top 18
abbrev ol:Stmt:=top 19
abbrev qD:Stmt:=top 20
abbrev mZ:Stmt:=top 21
abbrev qF:Stmt:=top 22
abbrev om:Stmt:=top 23
abbrev qG:Stmt:=top 24
abbrev dW:Stmt:=top 26
abbrev cM:Stmt:=top 27
abbrev fe:Stmt:=top 28
abbrev gh:Stmt:=top 29
abbrev eK:Stmt:=top 30
abbrev ig:Stmt:=top 31
abbrev ff:Stmt:=top 32
abbrev fg:Stmt:=top 33
abbrev gT:Stmt:=top 34
abbrev gk:Stmt:=top 35
abbrev qH:Stmt:=top 37
abbrev qI:Stmt:=top 38
abbrev ik:Stmt:=top 39
abbrev qJ:Stmt:=top 40
abbrev na:Stmt:=top 42
abbrev cw:Stmt:=top 43
abbrev iu:Stmt:=top 44
abbrev vE:Stmt:=top 45
abbrev aB:Stmt:=top 46
abbrev au:Stmt:=top 47
abbrev cN:Stmt:=top 48
structure Txt(mg:Str→Option Value):Prop where
 isin:mg "isinstance"=none
 dict:mg "dict"=none
 len:mg "len"=none
 tuple:mg "tuple"=none
 list:mg "list"=none
 range:mg "range"=none
 sorted:mg "sorted"=none
 reversed:mg "reversed"=none
 ValueError:mg "ValueError"=none
 str:mg "str"=none
 set:mg "set"=none
 max:mg "max"=none
 min:mg "min"=none
 sum:mg "sum"=none
 zip:mg "zip"=none
 enumerate:mg "enumerate"=none
 all:mg "all"=none
 int:mg "int"=none
 bool:mg "bool"=none
 top:∃t,mg "TOP"=some (.int 0 t)
 letters:∃t,mg "LETTERS"=some (.str "abcdefghijklmnopqrstuvwxyz" t)
section
variable{P:Program}{w:World}{K:PySem.W.Frag}{mg:Str→Option Value}{base:Heap}
def oo:Sp:=λvs H Q _=>∃t f zs,vs=[.ref t,.int f]∧H t=some (.tup (aY zs))∧At H zs∧zs.length≤100∧∀fd dn l H',TW.Walk (nds zs) f dn fd []→H' l=some (.lst (eA fd))→Same H H'→Q (.ref l) H'
theorem jc:FnScope ["nodes","folder","members","node","found","pending","here"] ["nodes","folder"] (ah vx):=fsc
theorem vF{f:Addr}{fd:FuncData}(F:Fun K "numbers_inside" "numbers_inside" vx f fd)(T:Txt mg):FnOk P w K mg base CX0 1 f fd ["nodes","folder"] oo:=by
 refine F.ok jc (λvs H Q E h=>?_) (λcdv A outer s H vs Q E hr h=>?_)
 ·obtain⟨t,f,zs,rfl,_⟩:=h;rfl
 ·obtain⟨t,f,zs,rfl,ht,hA,hl,k⟩:=h;refine⟨_,ae (ap (i:=2) jc.nd rfl (Or.inl rfl) li)
   (ae (dt PassesOwn.never rfl (cC (pv 0)) (aE (i:=3) jc.nd rfl (Or.inl rfl)) (aj (bY (fH plainAttrs_list PySem.F.slot_list_append PySem.F.type_list_append bv
     (fH PySem.F.plainAttrs_dict PySem.F.slot_dict_setdefault PySem.F.type_dict_setdefault jp (pv 2) (aa (av ao (pv 3) ag (λ_ _=>rfl)) (aa (bX ai) ai))) (aa (pv 3) ai)))))
   (ae (ap (i:=4) jc.nd rfl (Or.inl rfl) (bX ai))
   (ae (ap (i:=5) jc.nd rfl (Or.inl rfl) (bX (aa (pv 1) ai)))
   (ae (ee PassesOwn.never (qb (pv 5) (λ_=>rfl))
    (ae (ap (i:=6) jc.nd rfl (Or.inl rfl) (qj (pv 2) (uT plainAttrs_list slot_list_pop type_list_pop uU (pv 5)) (bX ai) ⟨rfl,rfl,rfl,rfl⟩))
    (aj (dt PassesOwn.never rfl (cH (pv 6)) (aE (i:=3) jc.nd rfl (Or.inl rfl))
     (ae (bY (fH plainAttrs_list PySem.F.slot_list_append PySem.F.type_list_append bv (pv 4) (aa (av ao (pv 3) ag (λ_ _=>rfl)) ai)))
     (aj (be (am eE (av ao (pv 3) ag (λ_ _=>rfl)) cq (aw _)) (aj (bY (fH plainAttrs_list PySem.F.slot_list_append PySem.F.type_list_append bv (pv 5) (aa (av ao (pv 3) ag (λ_ _=>rfl)) ai)))) aH)))))))
   (aj (aD (pv 4))))))),?_⟩
  refine λd hd=>?_;have z100:∀{n:Nat},n≤100→n<sizeLine:=λh=>aG (by omega);refine⟨_,rfl,t,rfl,⟨_,SqT.of (br hd ht)⟩,gB (xs:=aY zs) (λi σ H'=>∃L kvs on,σ=[some (.ref t),some (.int f),some (.ref d),on,none,none,none]∧Mem H H' d L kvs (zs.take i) [])
   ⟨_,_,_,rfl,Mem.start hd⟩ (λi σ H' _ h=>?_) (λi x σ H' hx h=>?_) (λσ H' h=>?_)⟩
  ·obtain⟨_,_,_,_,m⟩:=h;exact SqT.of (m.same _ _ ht)
  ·obtain⟨L,kvs,on,rfl,m⟩:=h;obtain⟨z,gz,rfl⟩:=cK hx;have mz:=mem_of_getElem? gz;have ez:zs.take (i+1)=zs.take i++[z]:=by rw[take_succ,gz];rfl
   have hkl:kvs.length≤100:=by have:=m.len;rw[length_take]at this;omega
   refine⟨_,rfl,.inr (.inr (.inl ⟨rfl,.inl ⟨_,m.dict⟩⟩)),_,rfl,z.1,_,_,_,rfl,rfl,SqT.of (m.same _ _ (hA z mz)),at1 z.2,zero_le _,λq hq=>?_⟩;have m':=m.grow (af (o:=.lst []) hq);refine⟨d,kvs,.inl z.2.par,.ref q,rfl,rfl,m'.dict,z100 hkl,λv hv=>?_,λhn=>?_⟩
   ·rw[m.val]at hv
    by_cases h:z.2.par∈([]:List Int)∨ins (zs.take i) z.2.par=[]
    ·rw[if_pos h]at hv;cases hv
    ·rw[if_neg h]at hv;cases hv;have h2:ins (zs.take i) z.2.par≠[]:=λz=>h (.inr z);have a:=(m'.at' z.2.par (by simp) h2).1;refine⟨.inl ⟨rfl,_,SqL.of a⟩,_,rfl,_,_,_,rfl,rfl,a,?_,?_⟩
     ·refine z100 ?_;rw[bQ];exact le_trans (Sublist.length_le (Sublist.trans filter_sublist (List.take_sublist _ _))) hl
     ·refine⟨L,kvs,_,rfl,?_⟩;rw[ez];exact m'.hit h2
   ·rw[m.val]at hn
    by_cases h:z.2.par∈([]:List Int)∨ins (zs.take i) z.2.par=[]
    ·have h2:ins (zs.take i) z.2.par=[]:=h.resolve_left (by simp);have hqd:q≠d:=λe=>by rw[e,m.dict]at hq;cases hq
     have a:upd (upd H' q (.lst [])) d (.dK (cg kvs (Sum.inl z.2.par:Key) (.ref q))) q=some (.lst []):=by rw[al hqd];exact ac
     refine⟨.inl ⟨rfl,_,SqL.of a⟩,_,rfl,q,[],_,rfl,rfl,a,z100 (zero_le _),?_⟩;have fr:=m.fresh (z:=z) h2 hq;rw[←ez]at fr;exact⟨_,_,_,rfl,fr⟩
    ·rw[if_neg h]at hn;cases hn
  ·obtain⟨L,kvs,on,rfl,m⟩:=h;rw[bQ,take_length]at m;refine⟨zero_le _,λpf hpf=>⟨_,rfl,aq (by simp),λpp hpp=>?_⟩⟩;have m1:=(m.grow (af (o:=.lst []) hpf)).grow (af (o:=.lst [.int f]) hpp);have hpf0:H pf=none:=m.same.free hpf;have hne:pp≠pf:=λe=>by rw[e,ac]at hpp;cases hpp
   have hpp0:H pp=none:=by rw[al hne]at hpp;exact m.same.free hpp
   dsimp only[aZ,jm];refine eS (λσ H'=>∃L kvs dn fd pd on oh,σ=[some (.ref t),some (.int f),some (.ref d),on,some (.ref pf),some (.ref pp),oh]∧pd.length≤fd.length+1∧Mem H H' d L kvs zs dn∧TW.Walk (nds zs) f dn fd pd∧H' pf=some (.lst (eA fd))∧H' pp=some (.lst (pd.map V.int)))
    (λσ H'=>2*(zs.length-jL H' pf)+jL H' pp) ⟨L,kvs,[],[],[f],_,_,rfl,le_refl _,m1,TW.Walk.start _ _,by rw[al (symm hne),ac];rfl,ac⟩ (λσ H' h=>?_) ?_
   ·obtain⟨L,kvs,dn,fd,pd,on,oh,rfl,hpl,m,wk,ef,ep⟩:=h;refine⟨_,rfl,_,.inl ⟨_,SqL.of ep,rfl⟩,?_⟩
    by_cases hpd:pd=[]
    ·subst hpd;exact aJ ⟨_,rfl,k fd dn pf H' wk ef m.same⟩
    ·obtain⟨pd',x,rfl⟩:∃pd' x,pd=pd'++[x]:=⟨pd.dropLast,pd.getLast hpd,(List.dropLast_concat_getLast hpd).symm⟩;have et:(!((pd'++[x]).map V.int).isEmpty)=true:=by simp
     rw[if_pos et];have elast:((pd'++[x]).map V.int)[((pd'++[x]).map V.int).length-1]?=some (.int x):=by simp
     have edrop:((pd'++[x]).map V.int).dropLast=pd'.map V.int:=by simp
     refine⟨_,rfl,d,rfl,.inl ⟨_,Rd.of m.dict⟩,_,rfl,.inl ⟨rfl,_,SqL.of ep⟩,pp,_,.int x,rfl,rfl,ep,elast,zero_le _,λq hq=>?_⟩;rw[edrop]at hq⊢;have m2:=(m.other (o:=.lst (pd'.map V.int)) ep hpp0).grow (af (o:=.lst []) hq);have hqp:q≠pp:=λe=>by rw[e,ac]at hq;cases hq
     have hqf:q≠pf:=λe=>by rw[e,al (symm hne),ef]at hq;cases hq
     refine qz m2 ac λhl Hc kvs' hs m3 ehl eh hsub hkeep hnil=>?_;have df:pf≠d:=λe=>by have:=m.dict;rw[←e,ef]at this;cases this
     have dp:pp≠d:=λe=>by have:=m.dict;rw[←e,ep]at this;cases this
     have ef3:Hc pf=some (.lst (eA fd)):=by rw[hkeep pf df,al (symm hqf),al (symm hne)];exact ef
     have ep3:Hc pp=some (.lst (pd'.map V.int)):=by rw[hkeep pp dp,al (symm hqp),ac]
     have hlf:hl≠pf:=by
      by_cases h:hs=[]
      ·rw[hnil h];exact hqf
      ·exact nW ef3 ehl h
     have hlp:hl≠pp:=by
      by_cases h:hs=[]
      ·rw[hnil h];exact hqp
      ·exact nW ep3 ehl h
     have wk':=wk.turn;rw[←eh]at wk';have hlen:=wk'.len;rw[length_append,cu,cu]at hlen;rw[length_append,length_singleton]at hpl;refine⟨_,rfl,hl,rfl,⟨_,SqL.of ehl⟩,gw (xs:=aY hs) (λj σ H'=>∃on,σ=[some (.ref t),some (.int f),some (.ref d),on,some (.ref pf),some (.ref pp),some (.ref hl)]∧Mem H H' d L kvs' zs (x::dn)∧H' hl=some (.lst (aY hs)) ∧
      H' pf=some (.lst (eA (fd++nds (hs.take j))))∧H' pp=some (.lst ((pd'++TW.aV (nds (hs.take j))).map V.int))) ⟨_,rfl,m3,ehl,by rw[ef3];simp[nds],by rw[ep3];simp[nds,TW.aV]⟩
      (λj σ H' _ h=>?_) (λj y σ H' hy h=>?_) (λσ H' h=>?_)⟩
     ·obtain⟨_,_,_,e,_⟩:=h;exact SqL.of e
     ·obtain⟨on,rfl,m4,e1,e2,e3⟩:=h;obtain⟨z,gz,rfl⟩:=cK hy;have mz:=hsub z (mem_of_getElem? gz);have ez:hs.take (j+1)=hs.take j++[z]:=by rw[take_succ,gz];rfl
      have l1:(eA (fd++nds (hs.take j))).length≤100:=by
       unfold eA;rw[length_map,length_map,length_append,cu,length_take];omega
      have l2:((pd'++TW.aV (nds (hs.take j))).map V.int).length≤1000:=by
       have:=TW.dR (nds (hs.take j));rw[cu,length_take]at this;rw[length_map,length_append];omega
      have g0:∀{Hx:Hp},Same H Hx→Hx z.1=some (.tup (vals z.2)):=λs=>s _ _ (hA z mz);have e4:eA (fd++nds (hs.take (j+1)))=eA (fd++nds (hs.take j))++[.int z.2.num]:=by rw[ez];simp[eA,nds]
      have m5:Mem H (upd H' pf (.lst (eA (fd++nds (hs.take j))++[.int z.2.num]))) d L kvs' zs (x::dn):=m4.other e2 hpf0;have e5:(upd H' pf (.lst (eA (fd++nds (hs.take j))++[.int z.2.num]))) hl=some (.lst (aY hs)):=by rw[al hlf];exact e1
      have e6:(upd H' pf (.lst (eA (fd++nds (hs.take j))++[.int z.2.num]))) pp=some (.lst ((pd'++TW.aV (nds (hs.take j))).map V.int)):=by rw[al hne];exact e3
      refine⟨_,rfl,.inl ⟨rfl,_,SqL.of e2⟩,_,rfl,z.1,_,_,_,rfl,rfl,SqT.of (g0 m4.same),at0 z.2,pf,_,_,rfl,rfl,e2,z100 l1,?_⟩;refine⟨_,rfl,z.1,_,_,_,rfl,rfl,SqT.of (g0 m5.same),at3 z.2,rfl,_,rfl,?_⟩;cases est:z.2.st with
      |none =>
       have e7:TW.aV (nds (hs.take (j+1)))=TW.aV (nds (hs.take j))++[z.2.num]:=by rw[ez];simp[TW.aV,nds,est]
       refine aT ⟨_,rfl,.inl ⟨rfl,_,SqL.of e6⟩,_,rfl,z.1,_,_,_,rfl,rfl,SqT.of (g0 m5.same),at0 z.2,pp,_,_,rfl,rfl,e6,aG l2,?_⟩;refine⟨_,rfl,m5.other e6 hpp0,by rw[al hlp];exact e5,by rw[al (symm hne),ac,e4],?_⟩;rw[ac,e7];simp
      |some i =>
       have e7:TW.aV (nds (hs.take (j+1)))=TW.aV (nds (hs.take j)):=by rw[ez];simp[TW.aV,nds,est]
       refine aJ ⟨_,rfl,m5,e5,by rw[ac,e4],?_⟩;rw[e6,e7]
     ·obtain⟨on,rfl,m4,e1,e2,e3⟩:=h;rw[bQ,take_length]at e2 e3;refine⟨⟨L,kvs',x::dn,_,_,on,_,rfl,?_,m4,wk',e2,e3⟩,?_⟩
      ·have:=TW.dR (nds hs);rw[cu]at this;rw[length_append,length_append,cu];omega
      show 2*(zs.length-jL H' pf)+jL H' pp<_;rw[gR e2,gR e3,gR ef,gR ep];have:=TW.dR (nds hs);rw[cu]at this;simp only[eA,length_map,length_append,cu,length_singleton];omega
   ·rintro σ H Q Q' mo ⟨v,e,k,tv,q⟩;exact⟨v,e,k,tv,mo _ _ q⟩
end
end TK
namespace L2
open PySem PySem.Spec PyProof.Rows
section
variable{X:Cx}
theorem iw(i:Int)(h0:-1≤i)(h1:i≤99):(ofString (toString i)).length≤100:=by
 have key:∀n:Fin 101,(ofString (toString (((n.val:Nat):Int)-1))).length≤100:=by decide +kernel
 have:=key ⟨(i+1).toNat,by omega⟩;have e:(((i+1).toNat:Nat):Int)-1=i:=by omega
 rw[e]at this;exact this
theorem sR{e:Expr}{te:TE}{b:Nat}{p:Pos}{ps:List Expr}{t:TJ}(he:PE X e te)(h:PJ X ps b t):PJ X (.FormattedValue e (-1) none p::ps) (100+b) (λσ H k=>te σ H λv H1=>∃i:Int,v=.int i∧-1≤i∧i≤99∧t σ H1 k):=by
 intro out pins s σ H Q I hb hq;refine joinParts_cons (FormattedValue_plain (thn (he pins _ σ H _ I hq) λv s1 hpt=>?_));obtain⟨y,H1,I1,r1,q1⟩:=hpt;obtain⟨i,rfl,h0,h1,q⟩:=q1;obtain⟨tk,rfl⟩:=r1;have h2:=iw i h0 h1;have hl:(out++ofString (toString i)).length=out.length+(ofString (toString i)).length:=strLen_append ..;refine formatField_int_small (lt_of_le_of_lt (Nat.log2_le_self _) (by omega)) ⟨le_of_lt (aG (by omega)),?_⟩;exact h _ pins _ σ H1 Q (I1.tok _) (by omega) q
theorem eL{e:Expr}{te:TE}{b:Nat}{p:Pos}{ps:List Expr}{t:TJ}(he:PE X e te)(h:PJ X ps b t):PJ X (.FormattedValue e (-1) none p::ps) (100+b) (λσ H k=>te σ H λv H1=>∃i:Int,v=.int i∧0≤i∧i≤99∧t σ H1 k):=by
 intro out pins s σ H Q I hb hq;refine joinParts_cons (FormattedValue_plain (thn (he pins _ σ H _ I hq) λv s1 hpt=>?_));obtain⟨y,H1,I1,r1,q1⟩:=hpt;obtain⟨i,rfl,h0,h1,q⟩:=q1;obtain⟨tk,rfl⟩:=r1;have h2:=iw i (by omega) h1;have hl:(out++ofString (toString i)).length=out.length+(ofString (toString i)).length:=strLen_append ..;refine formatField_int_small (lt_of_le_of_lt (Nat.log2_le_self _) (by omega)) ⟨le_of_lt (aG (by omega)),?_⟩;exact h _ pins _ σ H1 Q (I1.tok _) (by omega) q
end
end L2
namespace TK
open PySem L2
def cB:TW.Deed Str→Prop
 |.make n p nm _=>1≤n∧n≤99∧0≤p∧p≤99∧nm.length≤100
 |.write n _=>1≤n∧n≤99
 |.move n p nm=>1≤n∧n≤99∧0≤p∧p≤99∧nm.length≤100
 |.drop n=>1≤n∧n≤99
theorem cB.pos{d:TW.Deed Str}(h:cB d):d.pos:=by
 cases d<;>first|exact h.1|trivial
section
variable{P:Program}{w:World}{K:PySem.W.Frag}{mg:Str→Option Value}{base:Heap}
def eQ:Sp:=λvs H Q _=>∃t zs,vs=[.ref t]∧H t=some (.tup (aY zs))∧At H zs∧zs.length≤100∧((nds zs).map (·.num)).Nodup∧∀d H',Same H H'→gg H' d zs→Q (.ref d) H'
theorem wO:FnScope ["tree"] ["tree"] (ah vz):=fsc
theorem vG{f:Addr}{fd:FuncData}(F:Fun K "by_number" "by_number" vz f fd)(T:Txt mg):FnOk P w K mg base CX0 1 f fd ["tree"] eQ:=by
 refine F.ok wO (λvs H Q E h=>?_) (λcdv A outer s H vs Q E hr h=>?_)
 ·obtain⟨t,zs,rfl,_⟩:=h;rfl
 ·obtain⟨t,zs,rfl,ht,hA,hl,hnd,k⟩:=h;refine⟨_,aj (aD (bg (mS rfl) rfl T.dict boot_dict (aa (gL (N:=["node"]) (k:=1) (js:=[]) (g:=aZ 0) rfl (eF rfl (by decide +kernel) (by decide +kernel) (by decide +kernel)) rfl (λi j x h=>by simp at h)
   (cC (pv 0)) (λs H fp=>aE (i:=0) (show(["node"]:List Str).Nodup by decide +kernel) rfl (Or.inl rfl) (Or.inr rfl))
   (λs H fp=>bq (aa (av (r:=cG K) ao (pv 0) ag (λ_ _=>rfl)) (aa (pv 0) ai)))) ai))),?_⟩
  refine⟨_,rfl,t,rfl,⟨_,SqT.of ht⟩,λp hp=>?_⟩;refine qr (fr:=[]) zs.length (by omega) hp rfl (λi y H'=>∃q z,zs[i]?=some z∧y=.ref q∧q≠p∧H' q=some (.tup [.int z.2.num,.ref z.1])) (λi y H1 H2 h ex=>?_) (λi H' hi s1=>?_) (λH' s1=>?_) ?_ (λi H' x H2 hi s1 hpl hy=>?_) (λys H' s1 hp' hlen hys=>?_)
  ·obtain⟨q,z,e1,e2,e3,e4⟩:=h;exact⟨q,z,e1,e2,e3,ex q _ e3 e4⟩
  ·exact⟨_,_,SqT.of (s1 _ _ ht),iX (getElem?_eq_getElem hi)⟩
  ·exact⟨_,SqT.of (s1 _ _ ht),by rw[bQ];exact le_refl _⟩
  ·rintro _ _ _ _ m ⟨v1,b1,p1,xs,i1,v2,c1,c2,c3,c4,v3,b3,hz,q⟩;exact⟨v1,b1,p1,xs,i1,v2,c1,c2,c3,c4,v3,b3,hz,λl hl=>m _ _ (q l hl)⟩
  ·obtain⟨rfl,hx⟩:=hy;obtain⟨z,gz,rfl⟩:=cK (hx _ (SqT.of (s1 _ _ ht)));have mz:=mem_of_getElem? gz;refine⟨rfl,_,rfl,z.1,_,_,_,rfl,rfl,SqT.of (s1 _ _ (hA z mz)),at0 z.2,_,rfl,le2,λq hq=>⟨af hq,q,z,gz,rfl,dC hpl hq,ac⟩⟩
  ·obtain⟨as,e1,e2,e3⟩:=sP (g:=λz=>[.int z.2.num,.ref z.1]) hlen hys;have e4:as.length=zs.length:=by rw[←e1,length_map]
   have e5:(as.map λa=>((Sum.inl a.2.2.num:Key),V.ref a.2.1))=dc zs:=by rw[←e1];unfold dc;rw[map_map];rfl
   refine⟨p,as.map λa=>(a.1,(Sum.inl a.2.2.num:Key),V.ref a.2.1),rfl,?_,?_,?_,?_,λd o hd=>?_⟩
   ·rw[hp',e2,map_map,map_map,map_map];rfl
   ·intro z hz;obtain⟨a,ha,rfl⟩:=mem_map.mp hz;exact(e3 a ha).2
   ·rw[length_map];omega
   ·rw[map_map];have:(as.map ((λx:Addr×Key×V=>x.2.1)∘λa=>(a.1,(Sum.inl a.2.2.num:Key),V.ref a.2.1)))=((nds zs).map (·.num)).map (Sum.inl:Int→Key):=by
     rw[←e1];unfold nds;simp only[map_map];rfl
    rw[this];unfold Nodup at hnd⊢;rw[pairwise_map];exact hnd.imp λh e=>h (by injection e)
   ·refine k d _ (s1.trans (af hd)) ⟨o,?_⟩;rw[ac,map_map];exact congrArg (λx=>some (HO.frz o (.dK x))) e5
abbrev qK(mg:Str→Option Value)(base:Heap)(C:Addr):Prop:=PyProof.Rows.OwnCls "NoNode" C bmV "ValueError.__new__" mg base
def jd(C:Addr):Sp:=λvs H Q E=>∃d k zs,vs=[.ref d,.int k]∧gg H d zs∧((nds zs).map (·.num)).Nodup∧0≤k∧k≤99∧(∀z∈zs,z.2.num=k→Q (.ref z.1) H)∧((∀z∈zs,z.2.num≠k)→E (.ref C) none H)
theorem wP:FnScope ["nodes","number"] ["nodes","number"] (ah vA):=fsc
theorem vH{f C:Addr}{fd:FuncData}(F:Fun K "node_of" "node_of" vA f fd)(O:qK mg base C):FnOk P w K mg base (CX1 P w) 1 f fd ["nodes","number"] (jd C):=by
 refine F.okX wP (λvs H Q E h=>?_) (λcdv A outer s H vs Q E hr h=>?_)
 ·obtain⟨d,k,zs,rfl,_⟩:=h;rfl
 ·obtain⟨d,k,zs,rfl,hd,hnd,h0,h1,q1,q2⟩:=h;refine⟨_,ae (be (bT (cn (aK hr) (pv 1) (pv 0))) (aj (dA ca O hr.hd rfl (eI (cR (c:=100) (by decide +kernel) (eL (pv 1) gb)) (by decide)))) aH) (aj (aD (aU (aK hr) (pv 0) (pv 1) (λ_ _=>rfl)))),?_⟩
  by_cases hk:∀z∈zs,z.2.num≠k
  ·refine⟨_,rfl,_,rfl,d,_,rfl,hd.not hk,_,rfl,?_⟩;exact aT ⟨_,rfl,k,rfl,h0,h1,λy=>⟨aq (show 1≤1000 by decide),q2 hk⟩⟩
  ·obtain⟨z,hz,e⟩:∃z∈zs,z.2.num=k:=by
    by_cases h:∃z∈zs,z.2.num=k
    ·exact h
    ·exact absurd (λz hz e=>h ⟨z,hz,e⟩) hk
   subst e;refine⟨_,rfl,_,rfl,d,_,rfl,hd.get hnd hz,_,rfl,?_⟩;exact aJ ⟨_,rfl,_,rfl,d,_,rfl,hd.get hnd hz,q1 z hz rfl⟩
def oq(C:Addr):Sp:=λvs H Q E=>∃t k zs,vs=[.ref t,.int k]∧Tre H t zs∧0≤k∧k≤99 ∧
 ((k=0∨∃z∈zs,z.2.num=k)→∀(ms:List Int)(l:Addr)(H':Hp),Same H H'→ms.Pairwise (λa b:Int=>a<b)→ms.length≤zs.length→(∀x,x∈ms↔∃n∈nds zs,n.num=x∧TW.Reach (nds zs) k n)→H' l=some (.lst (ms.map V.int))→Q (.ref l) H') ∧
 (k≠0→(∀z∈zs,z.2.num≠k)→∀H',Same H H'→E (.ref C) none H')
theorem wQ:FnScope ["tree","number"] ["tree","number"] (ah vC):=fsc
theorem vI{f C:Addr}{fd:FuncData}(F:Fun K "below" "below" vC f fd)(T:Txt mg)(CB:Has P w K mg base 1 "by_number" ["tree"] eQ)(CN:dG P w K mg base 1 "node_of" ["nodes","number"] (jd C))(CI:Has P w K mg base 1 "numbers_inside" ["nodes","folder"] oo):
  FnOk P w K mg base (CX1 P w) 2 f fd ["tree","number"] (oq C):=by
 obtain⟨fB,fdB,GB,mB,kB,bB⟩:=CB;obtain⟨fN,fdN,GN,mN,kN,bN⟩:=CN;obtain⟨fI,fdI,GI,mI,kI,bI⟩:=CI;obtain⟨tt,hT⟩:=T.top;refine F.okX wQ (λvs H Q E h=>?_) (λcdv A outer s H vs Q E hr h=>?_)
 ·obtain⟨t,k,zs,rfl,_⟩:=h;rfl
 ·obtain⟨t,k,zs,rfl,tr,h0,h1,q1,q2⟩:=h;have hnd:=aI tr.tr;have hl:=tr.len;refine⟨_,ae (be (am dy (pv 1) (dg (v:=.int 0) rfl hT ⟨_,rfl⟩) (aw _))
    (aj (bY (ak (E:=E) GN hr rfl mN kN bN .nil (cX ca) (aa (ak GB hr rfl mB kB bB .nil aL (aa (pv 0) ai)) (aa (pv 1) ai))))) aH)
   (aj (aD (aW ib rfl T.sorted boot_sorted (aa (ak GI hr rfl mI kI bI .nil aL (aa (pv 0) (aa (pv 1) ai))) ai)))),?_⟩
  have main:∀H1,Same H H1→(k=0∨∃z∈zs,z.2.num=k)→uG (tCB (λxs H Q=>∃l,∃ns:List Int,xs=[.ref l]∧H l=some (.lst (ns.map V.int))∧ns.Nodup∧ns.length<64∧∀ms:List Int,ms.Perm ns→ms.Pairwise (λa b=>a<b)→∀p,H p=none→Q (.ref p) (upd H p (.lst (ms.map V.int))))
    (cV (nL oo [] E0 (cV (gv 0) (cV (gv 1) kc))) kc)) {nx:=λ_ H'=>Q .non H',rt:=Q} [some (.ref t),some (.int k)] H1:=by
   intro H1 s1 hk;refine⟨_,rfl,_,rfl,t,k,zs,rfl,s1 _ _ tr.tup,tr.nod.same s1,by omega,λfd dn l H2 wk el s2=>?_⟩;have hfl:=wk.len;rw[cu]at hfl;refine⟨l,fd.map (λn:Nd=>n.num),rfl,(show H2 l=some (.lst ((fd.map λn:Nd=>n.num).map V.int))from el),pE tr.tr wk,by rw[length_map];omega,λms hp hs p hpn=>?_⟩;refine q1 hk ms p _ ((s1.trans s2).trans (af hpn)) hs (by rw[hp.length_eq,length_map];exact hfl) (λx=>?_) ac;rw[hp.mem_iff,mem_map];constructor
   ·rintro⟨n,hn,e⟩;have:=(wk.mem n).mp hn;exact⟨n,this.mem,e,this⟩
   ·rintro⟨n,_,e,hr⟩;exact⟨n,(wk.mem n).mpr hr,e⟩
  refine⟨_,rfl,rfl,_,rfl,?_⟩
  by_cases hk0:k=0
  ·have:decide (V.int k=V.int 0)=true:=by simp[hk0]
   rw[this];exact aJ (main H (Same.refl _) (.inl hk0))
  ·have:decide (V.int k=V.int 0)=false:=by simp[hk0]
   rw[this];refine aT ?_;refine⟨_,rfl,t,zs,rfl,tr.tup,tr.nod,by omega,hnd,λd H1 s1 nd1=>?_⟩;refine⟨_,rfl,d,k,zs,rfl,nd1,hnd,h0,h1,λz hz e=>main H1 s1 (.inr ⟨z,hz,e⟩),λhk=>q2 hk0 hk H1 s1⟩
def ou(CN CF:Addr):Sp:=λvs H Q E=>∃d p zs,vs=[.ref d,.int p]∧gg H d zs∧At H zs∧((nds zs).map (·.num)).Nodup∧0≤p∧p≤99 ∧
 (TW.gf (nds zs) p→Q .non H)∧(p≠0→(∀z∈zs,z.2.num≠p)→E (.ref CN) none H)∧(∀z∈zs,z.2.num=p→p≠0→z.2.st≠none→E (.ref CF) none H)
theorem wR:FnScope ["nodes","number"] ["nodes","number"] (ah vB):=fsc
theorem vJ{f CN CF:Addr}{fd:FuncData}(F:Fun K "check_folder" "check_folder" vB f fd)(T:Txt mg)(O:lE "NotFolder" mg base CF)(CNo:dG P w K mg base 1 "node_of" ["nodes","number"] (jd CN)):
  FnOk P w K mg base (CX1 P w) 2 f fd ["nodes","number"] (ou CN CF):=by
 obtain⟨fN,fdN,GN,mN,kN,bN⟩:=CNo;obtain⟨tt,hT⟩:=T.top;refine F.okX wR (λvs H Q E h=>?_) (λcdv A outer s H vs Q E hr h=>?_)
 ·obtain⟨d,p,zs,rfl,_⟩:=h;rfl
 ·obtain⟨d,p,zs,rfl,hd,hA,hnd,h0,h1,q1,q2,q3⟩:=h;refine⟨_,aj (be (PW.pt (pw_and (am dy (pv 1) (dg (v:=.int 0) rfl hT ⟨_,rfl⟩) (aw _)) (pw_and1 (am iB (av ao (ak (E:=E) GN hr rfl mN kN bN .nil (cX ca) (aa (pv 0) (aa (pv 1) ai))) ag (λ_ _=>rfl)) cq (aw _)))))
   (aj (dA ca O hr.hd rfl (eI (cR (c:=100) (by decide +kernel) (eL (pv 1) (cR (c:=100) (by decide +kernel) gb))) (by decide)))) aH),?_⟩
  refine⟨_,rfl,rfl,_,rfl,?_⟩
  by_cases hp0:p=0
  ·have:decide (V.int p=V.int 0)=true:=by simp[hp0]
   rw[this];exact aJ (aJ (q1 (.inl hp0)))
  ·have:decide (V.int p=V.int 0)=false:=by simp[hp0]
   rw[this];refine aT ⟨_,rfl,_,rfl,d,p,zs,rfl,hd,hnd,h0,h1,λz hz e=>?_,λhk=>q2 hp0 hk⟩;refine⟨z.1,_,_,_,rfl,rfl,SqT.of (hA z hz),at3 z.2,rfl,_,rfl,?_⟩;rw[oa];cases hs:z.2.st with
   |none=>exact aJ (q1 (.inr ⟨z.2,aA hz,hs,e⟩))
   |some i=>exact aT ⟨_,rfl,p,rfl,h0,h1,λy=>⟨aq (show 1≤1000 by decide),q3 z hz e hp0 (by rw[hs];simp)⟩⟩
def lH(CT:Addr):Sp:=λvs H Q E=>∃t k p nm zs,vs=[.ref t,.int k,.int p,.str nm]∧H t=some (.tup (aY zs))∧At H zs∧0≤p∧p≤99∧nm.length≤100 ∧
 ((∀z∈zs,z.2.num≠k→¬(z.2.par=p∧z.2.nm=nm))→Q .non H)∧(∀z∈zs,z.2.num≠k→z.2.par=p→z.2.nm=nm→E (.ref CT) none H)
theorem ui:FnScope ["tree","number","parent","name","node"] ["tree","number","parent","name"] (ah vD):=fsc
theorem vK{f CT:Addr}{fd:FuncData}(F:Fun K "check_place" "check_place" vD f fd)(O:lE "Taken" mg base CT):FnOk P w K mg base (CX1 P w) 1 f fd ["tree","number","parent","name"] (lH CT):=by
 refine F.okX ui (λvs H Q E h=>?_) (λcdv A outer s H vs Q E hr h=>?_)
 ·obtain⟨t,k,p,nm,zs,rfl,_⟩:=h;rfl
 ·obtain⟨t,k,p,nm,zs,rfl,ht,hA,h0,h1,hn,q1,q2⟩:=h;refine⟨_,aj (dt (vp ca) rfl (cC (pv 0)) (aE (i:=4) ui.nd rfl (Or.inl rfl))
   (aj (be (PW.pt (pw_and (am dy (av ao (pv 4) ag (λ_ _=>rfl)) (pv 1) (aw _)) (pw_and (am cx (av ao (pv 4) ag (λ_ _=>rfl)) (pv 2) (aw _)) (pw_and1 (am cx (av ao (pv 4) ag (λ_ _=>rfl)) (pv 3) (aw _))))))
    (aj (dA ca O hr.hd rfl (eI (cR (c:=100) (by decide +kernel) (eL (pv 2) (cR (c:=100) (by decide +kernel) (vo (pv 3) gb)))) (by decide)))) aH))),?_⟩
  refine⟨_,rfl,t,rfl,⟨_,SqT.of ht⟩,gB (xs:=aY zs) (λi σ H'=>(∃on,σ=[some (.ref t),some (.int k),some (.int p),some (.str nm),on])∧H'=H∧∀z∈zs.take i,z.2.num≠k→¬(z.2.par=p∧z.2.nm=nm)) ⟨⟨none,rfl⟩,rfl,by simp⟩ (λi σ H' _ h=>by rw[h.2.1];exact SqT.of ht) (λi x σ H' hx h=>?_) (λσ H' h=>?_)⟩
  ·obtain⟨⟨on,rfl⟩,rfl,hi⟩:=h;obtain⟨z,gz,rfl⟩:=cK hx;have mz:=mem_of_getElem? gz;have az:SqT K H' z.1 (vals z.2):=SqT.of (hA z mz);have et:zs.take (i+1)=zs.take i++[z]:=bH gz;have nxt:(z.2.num≠k→¬(z.2.par=p∧z.2.nm=nm))→∀y∈zs.take (i+1),y.2.num≠k→¬(y.2.par=p∧y.2.nm=nm):=λhz y hy=>by
    rw[et]at hy;rcases mem_append.mp hy with hy|hy
    ·exact hi y hy
    ·have e:y=z:=by simpa using hy
     subst e;exact hz
   refine⟨_,rfl,z.1,_,_,_,rfl,rfl,az,at0 z.2,_,rfl,rfl,_,rfl,?_⟩
   by_cases hk:z.2.num=k
   ·have e1:(!decide (V.int z.2.num=V.int k))=false:=by simp[hk]
    rw[e1];exact aJ (aJ ⟨⟨_,rfl⟩,rfl,nxt λh=>absurd hk h⟩)
   ·have e1:(!decide (V.int z.2.num=V.int k))=true:=by simp[hk]
    rw[e1];refine aT ⟨_,rfl,z.1,_,_,_,rfl,rfl,az,at1 z.2,_,rfl,rfl,_,rfl,?_⟩
    by_cases hp:z.2.par=p
    ·have e2:decide (V.int z.2.par=V.int p)=true:=by simp[hp]
     rw[e2];refine aT ⟨_,rfl,z.1,_,_,_,rfl,rfl,az,at2 z.2,_,rfl,rfl,_,rfl,?_⟩
     by_cases hm:z.2.nm=nm
     ·have e3:decide (V.str z.2.nm=V.str nm)=true:=by simp[hm]
      rw[e3];exact aT ⟨_,rfl,p,rfl,h0,h1,_,rfl,nm,rfl,hn,λy=>⟨aq (show 1≤1000 by decide),q2 z mz hk hp hm⟩⟩
     ·have e3:decide (V.str z.2.nm=V.str nm)=false:=by simp[hm]
      rw[e3];exact aJ ⟨⟨_,rfl⟩,rfl,nxt λ_ h=>hm h.2⟩
    ·have e2:decide (V.int z.2.par=V.int p)=false:=by simp[hp]
     rw[e2];exact aJ (aJ ⟨⟨_,rfl⟩,rfl,nxt λ_ h=>hp h.1⟩)
  ·obtain⟨_,rfl,hi⟩:=h;rw[bQ,take_length]at hi;exact q1 hi
def je:Sp:=λvs H Q _=>∃t c n zs,vs=[.ref t,.ref c]∧H t=some (.tup (aY zs))∧At H zs∧H c=some (.tup (vals n))∧zs.length≤100∧∀us t' H',Same H H'→H' t'=some (.tup (aY us))→At H' us→nds us=(nds zs).map (TW.put n)→Q (.ref t') H'
theorem vL:FnScope ["tree","changed"] ["tree","changed"] (ah ol):=fsc
theorem sS{f:Addr}{fd:FuncData}(F:Fun K "with_node" "with_node" ol f fd)(T:Txt mg):FnOk P w K mg base CX0 1 f fd ["tree","changed"] je:=by
 refine F.ok vL (λvs H Q E h=>?_) (λcdv A outer s H vs Q E hr h=>?_)
 ·obtain⟨t,c,n,zs,rfl,_⟩:=h;rfl
 ·obtain⟨t,c,n,zs,rfl,ht,hA,hc,hl,q⟩:=h;refine⟨_,aj (aD (bg bu rfl T.tuple rfl (aa (gL (N:=["node","changed"]) (cl:=[("changed",s.heap.objs.size+1)]) (k:=1) (js:=[1]) (g:=aZ 0) rfl
    (LcOk.mk' ["changed"] rfl rfl (by decide +kernel) (by decide +kernel) ?hcl rfl (by decide +kernel)) rfl ?hj (cC (pv 0)) (λs H fp=>aE (i:=0) (show(["node","changed"]:List Str).Nodup by decide +kernel) rfl (Or.inl rfl) (Or.inr rfl))
    (λs H fp=>iL (am cx (av (r:=cG K) ao (pv 0) ag (λ_ _=>rfl)) (av (r:=cG K) ao (pv 1) ag (λ_ _=>rfl)) (aw _)) (pv 1) (pv 0))) ai))),?_⟩
  case hcl =>
   intro y hy;rcases mem_cons.mp hy with e|hy
   ·rw[e];rfl
   ·cases hy
  case hj =>
   intro i j x h1 h2
   match i,h1,h2 with
   |0,h1,h2 =>
    cases h1;cases h2;exact⟨rfl,Or.inr (Or.inl rfl),(show((ah ol).names.lookup ("changed":Str)≠some NameKind.local)by decide +kernel),by first|exact Or.inl rfl|exact Or.inr rfl⟩
   |i+1,h1,h2=>simp at h1
  refine⟨_,rfl,t,rfl,⟨_,SqT.of ht⟩,λp hp=>?_⟩;refine eJ (fr:=[some (.ref c)]) zs (λz=>V.ref z.1) (by omega) hp (dQ (by rw[bS];exact SqT.of ht)) rfl (λz y H'=>y=.ref (if z.2.num=n.num then c else z.1)) (λz y H H' h _=>h) (λz H' k mz s1 _ hk=>?_) (λys H' s1 hp' hys=>?_)
  ·refine⟨_,rfl,z.1,_,_,_,rfl,rfl,SqT.of (s1 _ _ (hA z mz)),at0 z.2,_,rfl,c,_,_,_,rfl,rfl,SqT.of (s1 _ _ hc),at0 n,rfl,_,rfl,?_⟩
   by_cases e:z.2.num=n.num
   ·have e1:decide (V.int z.2.num=V.int n.num)=true:=by simp[e]
    rw[e1];exact aT ⟨_,rfl,hk _ H' (Same.refl _) (by rw[if_pos e])⟩
   ·have e1:decide (V.int z.2.num=V.int n.num)=false:=by simp[e]
    rw[e1];exact aJ ⟨_,rfl,hk _ H' (Same.refl _) (by rw[if_neg e])⟩
  ·have ey:=aQ (f:=λz:Addr×Nd=>V.ref (if z.2.num=n.num then c else z.1)) hys (λz y _ h=>h);refine⟨p,_,rfl,.inl ⟨SqL.of hp',λl hl'=>?_⟩⟩;have er:aY (zs.map λz=>if z.2.num=n.num then (c,n)else z)=ys:=by
    rw[ey,←bS,map_map];apply map_congr_left;intro z _;show V.ref (if z.2.num=n.num then (c,n)else z).1=_
    by_cases e:z.2.num=n.num
    ·rw[if_pos e,if_pos e]
    ·rw[if_neg e,if_neg e]
   refine q (zs.map λz=>if z.2.num=n.num then (c,n)else z) l _ (s1.trans (af hl')) (by rw[er];exact ac) (λy hy=>?_) ?_
   ·obtain⟨z,mz,rfl⟩:=mem_map.mp hy
    by_cases e:z.2.num=n.num
    ·rw[if_pos e];exact(s1.trans (af hl')) _ _ hc
    ·rw[if_neg e];exact(s1.trans (af hl')) _ _ (hA z mz)
   ·unfold nds;rw[map_map,map_map];apply map_congr_left;intro z _;show(if z.2.num=n.num then (c,n)else z).2=TW.put n z.2
    unfold TW.put
    by_cases e:z.2.num=n.num
    ·rw[if_pos e,if_pos e]
    ·rw[if_neg e,if_neg e]
def nb(cls:TW.Wd→Addr):Sp:=λvs H Q E=>∃t n p nm st zs,vs=[.ref t,.int n,.int p,.str nm,stV st]∧Tre H t zs∧zs.length≤29∧cB (.make n p nm st)∧Outs H (nds zs) (.make n p nm st) cls Q E
theorem qL:FnScope ["tree","number","parent","name","stamp","nodes"] ["tree","number","parent","name","stamp"] (ah qD):=fsc
theorem sT{f:Addr}{fd:FuncData}{cls:TW.Wd→Addr}(F:Fun K "make" "make" qD f fd)(T:Txt mg)(O:sQ mg base cls)(CB:Has P w K mg base 1 "by_number" ["tree"] eQ)(CF:dG P w K mg base 2 "check_folder" ["nodes","number"] (ou (cls .noNode) (cls .notFolder)))(CL:dG P w K mg base 1 "check_place" ["tree","number","parent","name"] (lH (cls .taken))):FnOk P w K mg base (CX1 P w) 3 f fd ["tree","number","parent","name","stamp"] (nb cls):=by
 obtain⟨fB,fdB,GB,mB,kB,bB⟩:=CB;obtain⟨fF,fdF,GF,mF,kF,bF⟩:=CF;obtain⟨fL,fdL,GL,mL,kL,bL⟩:=CL;refine F.okX qL (λvs H Q E h=>?_) (λcdv A outer s H vs Q E hr h=>?_)
 ·obtain⟨t,n,p,nm,st,zs,rfl,_⟩:=h;rfl
 ·obtain⟨t,n,p,nm,st,zs,rfl,tr,hl,⟨hn1,hn2,hp1,hp2,hnm⟩,o⟩:=h;have hr1:Room 1 _:=hr.mono (by decide);have hnd:=aI tr.tr;refine⟨_,ae (ap (i:=5) qL.nd rfl (Or.inl rfl) (ak GB hr1 rfl mB kB bB .nil aL (aa (pv 0) ai)))
   (ae (be (bT (dz (aK hr) (pv 1) (pv 5))) (aj (dA ca (O .known) hr.hd rfl (eI (cR (c:=100) (by decide +kernel) (eL (pv 1) gb)) (by decide)))) aH)
   (ae (bY (ak (E:=E) GF hr rfl mF kF bF .nil (cX ca) (aa (pv 5) (aa (pv 2) ai))))
   (ae (bY (ak (E:=E) GL hr1 rfl mL kL bL .nil (cX ca) (aa (pv 0) (aa (pv 1) (aa (pv 2) (aa (pv 3) ai))))))
   (aj (aD (bg bu rfl T.tuple rfl (aa (aW cr rfl T.sorted boot_sorted (aa (aF (lw.or dN) (pv 0) (bq (aa (bq (aa (pv 1) (aa (pv 2) (aa (pv 3) (aa (pv 4) ai))))) ai))) ai)) ai))))))),?_⟩
  refine⟨_,rfl,t,zs,rfl,tr.tup,tr.nod,by omega,hnd,λd H1 s1 nd1=>?_⟩
  by_cases hk:∃z∈zs,z.2.num=n
  ·obtain⟨z,hz,e⟩:=hk;subst e;exact⟨_,rfl,_,rfl,d,_,rfl,nd1.get hnd hz,_,rfl,aT ⟨_,rfl,_,rfl,by omega,hn2,λy=>⟨aq (show 1≤1000 by decide),o.no .known H1 s1 (.mKnown (eB hz rfl))⟩⟩⟩
  ·have hno:=cL hk;refine⟨_,rfl,_,rfl,d,_,rfl,nd1.not (λz hz e=>hk ⟨z,hz,e⟩),_,rfl,aJ ?_⟩;refine⟨_,rfl,_,rfl,d,p,zs,rfl,nd1,tr.nod.same s1,hnd,hp1,hp2,λhF=>?_,λh0 hz=>o.no .noNode H1 s1 (.mNo hno h0 (cL λ⟨z,hz',e⟩=>hz z hz' e)),λz hz e h0 hs=>o.no .notFolder H1 s1 (.mFile hno h0 (aA hz) e hs)⟩;refine⟨_,rfl,_,rfl,_,rfl,_,rfl,t,n,p,nm,zs,rfl,s1 _ _ tr.tup,tr.nod.same s1,hp1,hp2,hnm,λhfree=>?_,λz hz _ e1 e2=>o.no .taken H1 s1 (.mTaken hno hF (aA hz) e1 e2)⟩;refine⟨_,rfl,_,rfl,_,rfl,_,rfl,_,rfl,(show 4≤sizeLine from aq (by decide)),λq hq=>⟨(show 1≤sizeLine from aq (by decide)),λc hc=>?_⟩⟩;have s2:Same H1 (upd (upd H1 q (.tup [.int n,.int p,.str nm,stV st])) c (.tup [.ref q])):=(af hq).trans (af hc);have gq:upd (upd H1 q (.tup [.int n,.int p,.str nm,stV st])) c (.tup [.ref q]) q=some (.tup (vals ⟨n,p,nm,st⟩)):=br hc ac;have gc:upd (upd H1 q (.tup [.int n,.int p,.str nm,stV st])) c (.tup [.ref q]) c=some (.tup [.ref q]):=ac;generalize upd (upd H1 q (.tup [.int n,.int p,.str nm,stV st])) c (.tup [.ref q])=H2 at s2 gq gc⊢;have fin:∀(l:Addr)(H3:Hp),Same H2 H3→SqT K H3 l (aY (zs++[(q,⟨n,p,nm,st⟩)]))→tCB (λxs H Q=>∃l,∃zs:List gP,xs=[.ref l]∧(SqL K H l ((zs.map (·.1)).map V.ref)∨SqT K H l ((zs.map (·.1)).map V.ref))∧(∀z∈zs,H z.1=some (.tup (.int z.2.1::z.2.2)))∧(zs.map (·.2.1)).Nodup∧zs.length<64 ∧
     ∀zs':List gP,zs'.Perm zs→zs'.Pairwise (λa b=>a.2.1<b.2.1)→∀p,H p=none→Q (.ref p) (upd H p (.lst ((zs'.map (·.1)).map V.ref)))) (cV (tC (.ref l)) kc) [] H3 (λx H1=>(λxs H Q=>∃p ys,xs=[V.ref p]∧((SqL K H p ys∧∀l,H l=none→Q (V.ref l) (upd H l (.tup ys)))∨(SqT K H p ys∧Q (.ref p) H))) [x] H1 Q):=by
    intro l H3 s3 hl3;have s123:=(s1.trans s2).trans s3;refine fc (.inr hl3) (λz hz=>?_) ?_ (by rw[length_append];simp;omega) (λus t' H' s' ht' hA' hp hrise=>?_)
    ·rcases mem_append.mp hz with h|h
     ·exact s123 _ _ (tr.nod z h)
     ·have e:z=(q,⟨n,p,nm,st⟩):=by simpa using h
      subst e;exact s3 _ _ gq
    ·have e:(nds (zs++[(q,(⟨n,p,nm,st⟩:Nd))])).map (·.num)=(nds zs).map (·.num)++[n]:=by simp[nds]
     rw[e,nodup_append];refine⟨hnd,by simp,λa ha b hb e=>?_⟩;have eb:b=n:=by simpa using hb
     obtain⟨m,hm,em⟩:=mem_map.mp ha;exact hno ⟨m,hm,by rw[em,e,eb]⟩
    ·refine o.ok us t' H' (s123.trans s') ht' hA' (.made hno hF (λm hm=>?_) ?_ hrise)
     ·obtain⟨z,hz,rfl⟩:=bj hm;exact hfree z hz λe=>hno ⟨z.2,hm,e⟩
     ·have:(nds us).Perm (nds (zs++[(q,⟨n,p,nm,st⟩)])):=hp.map _;refine this.trans ?_;unfold nds;rw[map_append];exact List.perm_append_comm
   by_cases hz:zs=[]
   ·subst hz;exact .inl ⟨t,c,_,rfl,rfl,SqT.of ((s1.trans s2) _ _ tr.tup),SqT.of gc,fin c H2 (Same.refl _) (SqT.of gc)⟩
   ·refine .inr ⟨t,c,_,_,rfl,rfl,SqT.of ((s1.trans s2) _ _ tr.tup),SqT.of gc,?_,?_,λh=>absurd h (cons_ne_nil _ _),λ_ l hl3=>fin l _ (af hl3) (by rw[ie];exact SqT.of ac)⟩
    ·intro e;exact hz (qy e)
    ·rw[bQ];exact aq (by show zs.length+1≤1000;omega)
def kw(cls:TW.Wd→Addr):Sp:=λvs H Q E=>∃t n st zs,vs=[.ref t,.int n,.int st]∧Tre H t zs∧cB (.write n st)∧Outs H (nds zs) (.write n st) cls Q E
theorem ow:FnScope ["tree","number","stamp","node"] ["tree","number","stamp"] (ah mZ):=fsc
theorem qM{f:Addr}{fd:FuncData}{cls:TW.Wd→Addr}(F:Fun K "write" "write" mZ f fd)(O:sQ mg base cls)(CB:Has P w K mg base 1 "by_number" ["tree"] eQ)(CN:dG P w K mg base 1 "node_of" ["nodes","number"] (jd (cls .noNode)))(CW:Has P w K mg base 1 "with_node" ["tree","changed"] je):FnOk P w K mg base (CX1 P w) 2 f fd ["tree","number","stamp"] (kw cls):=by
 obtain⟨fB,fdB,GB,mB,kB,bB⟩:=CB;obtain⟨fN,fdN,GN,mN,kN,bN⟩:=CN;obtain⟨fW,fdW,GW,mW,kW,bW⟩:=CW;refine F.okX ow (λvs H Q E h=>?_) (λcdv A outer s H vs Q E hr h=>?_)
 ·obtain⟨t,n,st,zs,rfl,_⟩:=h;rfl
 ·obtain⟨t,n,st,zs,rfl,tr,⟨hn1,hn2⟩,o⟩:=h;have hnd:=aI tr.tr;have hl:=tr.len;refine⟨_,ae (ap (i:=3) ow.nd rfl (Or.inl rfl) (ak (E:=E) GN hr rfl mN kN bN .nil (cX ca) (aa (ak GB hr rfl mB kB bB .nil aL (aa (pv 0) ai)) (aa (pv 1) ai))))
   (ae (be (am eE (av ao (pv 3) ag (λ_ _=>rfl)) cq (aw _)) (aj (dA ca (O .notFile) hr.hd rfl (eI (cR (c:=100) (by decide +kernel) (eL (pv 1) (cR (c:=100) (by decide +kernel) gb))) (by decide)))) aH)
   (aj (aD (ak GW hr rfl mW kW bW .nil aL (aa (pv 0) (aa (bq (aa (pv 1) (aa (av ao (pv 3) ag (λ_ _=>rfl)) (aa (av ao (pv 3) ag (λ_ _=>rfl)) (aa (pv 2) ai))))) ai)))))),?_⟩
  refine⟨_,rfl,t,zs,rfl,tr.tup,tr.nod,by omega,hnd,λd H1 s1 nd1=>?_⟩;refine⟨_,rfl,d,n,zs,rfl,nd1,hnd,by omega,hn2,λz hz e=>?_,λhk=>o.no .noNode H1 s1 (.wNo (cL λ⟨z,hz,e⟩=>hk z hz e))⟩;subst e;have az:SqT K H1 z.1 (vals z.2):=SqT.of (s1 _ _ (tr.nod z hz));refine⟨_,rfl,z.1,_,_,_,rfl,rfl,az,at3 z.2,rfl,_,rfl,?_⟩;cases hs:z.2.st with
  |none=>exact aT ⟨_,rfl,_,rfl,by omega,hn2,λy=>⟨aq (show 1≤1000 by decide),o.no .notFile H1 s1 (.wFold (aA hz) rfl hs)⟩⟩
  |some i =>
   refine aJ ⟨_,rfl,_,rfl,_,rfl,z.1,_,_,_,rfl,rfl,az,at1 z.2,_,rfl,z.1,_,_,_,rfl,rfl,az,at2 z.2,_,rfl,(show 4≤sizeLine from aq (by decide)),λc hc=>?_⟩;have s2:=s1.trans (af (o:=.tup [.int z.2.num,.int z.2.par,.str z.2.nm,.int st]) hc);refine⟨t,c,⟨z.2.num,z.2.par,z.2.nm,some st⟩,zs,rfl,s2 _ _ tr.tup,tr.nod.same s2,ac,by omega,λus t' H' s' ht' hA' e=>o.ok us t' H' (s2.trans s') ht' hA' ?_⟩;rw[e];exact .wrote (aA hz) rfl (by rw[hs];simp)
def nc(cls:TW.Wd→Addr):Sp:=λvs H Q E=>∃t n p nm zs,vs=[.ref t,.int n,.int p,.str nm]∧Tre H t zs∧cB (.move n p nm)∧Outs H (nds zs) (.move n p nm) cls Q E
theorem ng:FnScope ["tree","number","parent","name","nodes","node"] ["tree","number","parent","name"] (ah qF):=fsc
theorem sU{f:Addr}{fd:FuncData}{cls:TW.Wd→Addr}(F:Fun K "move" "move" qF f fd)(O:sQ mg base cls)(CB:Has P w K mg base 1 "by_number" ["tree"] eQ)(CN:dG P w K mg base 1 "node_of" ["nodes","number"] (jd (cls .noNode)))(CF:dG P w K mg base 2 "check_folder" ["nodes","number"] (ou (cls .noNode) (cls .notFolder)))(CE:dG P w K mg base 2 "below" ["tree","number"] (oq (cls .noNode)))(CL:dG P w K mg base 1 "check_place" ["tree","number","parent","name"] (lH (cls .taken)))(CW:Has P w K mg base 1 "with_node" ["tree","changed"] je):FnOk P w K mg base (CX1 P w) 3 f fd ["tree","number","parent","name"] (nc cls):=by
 obtain⟨fB,fdB,GB,mB,kB,bB⟩:=CB;obtain⟨fN,fdN,GN,mN,kN,bN⟩:=CN;obtain⟨fF,fdF,GF,mF,kF,bF⟩:=CF;obtain⟨fE,fdE,GE,mE,kE,bE⟩:=CE;obtain⟨fL,fdL,GL,mL,kL,bL⟩:=CL;obtain⟨fW,fdW,GW,mW,kW,bW⟩:=CW;refine F.okX ng (λvs H Q E h=>?_) (λcdv A outer s H vs Q E hr h=>?_)
 ·obtain⟨t,n,p,nm,zs,rfl,_⟩:=h;rfl
 ·obtain⟨t,n,p,nm,zs,rfl,tr,⟨hn1,hn2,hp1,hp2,hnm⟩,o⟩:=h;have hnd:=aI tr.tr;have hl:=tr.len;have hT:=tr.tr;have hr1:Room 1 _:=hr.mono (by decide);refine⟨_,ae (ap (i:=4) ng.nd rfl (Or.inl rfl) (ak GB hr1 rfl mB kB bB .nil aL (aa (pv 0) ai)))
   (ae (ap (i:=5) ng.nd rfl (Or.inl rfl) (ak (E:=E) GN hr1 rfl mN kN bN .nil (cX ca) (aa (pv 4) (aa (pv 1) ai))))
   (ae (bY (ak (E:=E) GF hr rfl mF kF bF .nil (cX ca) (aa (pv 4) (aa (pv 2) ai))))
   (ae (be (PW.pt (pw_or (am cx (pv 2) (pv 1) (aw _)) (pw_or1 (am jz (pv 2) (ak (E:=E) GE hr rfl mE kE bE .nil (cX ca) (aa (pv 0) (aa (pv 1) ai))) rfl))))
    (aj (dA ca (O .inside) hr.hd rfl (eI (cR (c:=100) (by decide +kernel) (eL (pv 2) (cR (c:=100) (by decide +kernel) (eL (pv 1) (cR (c:=100) (by decide +kernel) gb))))) (by decide)))) aH)
   (ae (bY (ak (E:=E) GL hr1 rfl mL kL bL .nil (cX ca) (aa (pv 0) (aa (pv 1) (aa (pv 2) (aa (pv 3) ai))))))
   (aj (aD (ak GW hr1 rfl mW kW bW .nil aL (aa (pv 0) (aa (bq (aa (pv 1) (aa (pv 2) (aa (pv 3) (aa (av ao (pv 5) ag (λ_ _=>rfl)) ai))))) ai))))))))),?_⟩
  refine⟨_,rfl,t,zs,rfl,tr.tup,tr.nod,by omega,hnd,λd H1 s1 nd1=>?_⟩;refine⟨_,rfl,_,rfl,d,n,zs,rfl,nd1,hnd,by omega,hn2,λz hz e=>?_,λhk=>o.no .noNode H1 s1 (.vNo (cL λ⟨z,hz,e⟩=>hk z hz e))⟩;subst e;have hh:TW.ax (nds zs) z.2.num:=eB hz rfl;refine⟨_,rfl,_,rfl,d,p,zs,rfl,nd1,tr.nod.same s1,hnd,hp1,hp2,λhF=>?_,λh0 hk=>o.no .noNode H1 s1 (.vNoP hh h0 (cL λ⟨y,hy,e⟩=>hk y hy e)),λy hy e h0 hs=>o.no .notFolder H1 s1 (.vFile hh h0 (aA hy) e hs)⟩;have insd:∀H2,Same H1 H2→p≠0→TW.Und (nds zs) z.2.num p→∀y:Str,E (.ref (cls .inside)) none H2:=λH2 s2 h0 hu _=>o.no .inside H2 (s1.trans s2) (.vIn hh hF h0 hu);have rest:∀H2,Same H1 H2→(p≠0→¬TW.Und (nds zs) z.2.num p)→jm (tW (nL (lH (cls .taken)) [] E (cV (gv 0) (cV (gv 1) (cV (gv 2) (cV (gv 3) kc)))))) (uG (nL je [] E0 (cV (gv 0) (cV (wB (cV (gv 1) (cV (gv 2) (cV (gv 3) (cV (tOp (cG K) (gv 5) (tC (.int 3))) kc))))) kc))))
    {nx:=λ_ H'=>Q .non H',rt:=Q} [some (.ref t),some (.int z.2.num),some (.int p),some (.str nm),some (.ref d),some (.ref z.1)] H2:=by
   intro H2 s2 hu;have s12:=s1.trans s2;refine⟨_,rfl,_,rfl,_,rfl,_,rfl,t,z.2.num,p,nm,zs,rfl,s12 _ _ tr.tup,tr.nod.same s12,hp1,hp2,hnm,λhfree=>?_,λy hy hne e1 e2=>o.no .taken H2 s12 (.vTaken hh hF hu (aA hy) hne e1 e2)⟩;refine⟨_,rfl,_,rfl,_,rfl,_,rfl,_,rfl,z.1,_,_,_,rfl,rfl,SqT.of (s12 _ _ (tr.nod z hz)),at3 z.2,(show 4≤sizeLine from aq (by decide)),λc hc=>?_⟩;have s3:=s12.trans (af (o:=.tup [.int z.2.num,.int p,.str nm,stV z.2.st]) hc);refine⟨t,c,⟨z.2.num,p,nm,z.2.st⟩,zs,rfl,s3 _ _ tr.tup,tr.nod.same s3,ac,by omega,λus t' H' s' ht' hA' e=>o.ok us t' H' (s3.trans s') ht' hA' ?_⟩;rw[e];refine .moved (aA hz) rfl hF hu λm hm hne h=>?_;obtain⟨y,hy,rfl⟩:=bj hm;exact hfree y hy hne h
  refine⟨_,rfl,_,rfl,rfl,_,rfl,?_⟩
  by_cases hpn:p=z.2.num
  ·have e1:decide (V.int p=V.int z.2.num)=true:=by simp[hpn]
   rw[e1];exact aT (aT ⟨_,rfl,p,rfl,hp1,hp2,_,rfl,_,rfl,by omega,hn2,λy=>⟨aq (show 1≤1000 by decide),insd H1 (Same.refl _) (by omega) (by rw[hpn];exact .here) y⟩⟩)
  ·have e1:decide (V.int p=V.int z.2.num)=false:=by simp[hpn]
   rw[e1];refine aJ ⟨_,rfl,_,rfl,_,rfl,t,z.2.num,zs,rfl,tr.same s1,by omega,hn2,λ_ ms l H2 s2 hms _ hm hl2=>?_,λh0 hk=>absurd rfl (hk z hz)⟩;refine⟨l,_,rfl,.inl (SqL.of hl2),rfl,ic ms,_,rfl,?_⟩;show if (inV (.int p) (ms.map V.int))=true then _ else _
   rw[ko]
   by_cases hin:p∈ms
   ·rw[decide_eq_true hin];obtain⟨m,hm1,hm2,hm3⟩:=(hm p).mp hin;have hu:TW.Und (nds zs) z.2.num p:=by rw[←hm2];exact((TW.dq hT hn1 hm1).mp hm3).2
    have h0:p≠0:=by have:=hT.pos m hm1;omega
    exact aT ⟨_,rfl,p,rfl,hp1,hp2,_,rfl,_,rfl,by omega,hn2,λy=>⟨aq (show 1≤1000 by decide),insd H2 s2 h0 hu y⟩⟩
   ·rw[decide_eq_false hin];refine aJ (rest H2 s2 λh0 hu=>?_);rcases hF with e|⟨m,hm1,hm2,hm3⟩
    ·exact h0 e
    ·refine hin ((hm p).mpr ⟨m,hm1,hm3,(TW.dq hT hn1 hm1).mpr ⟨by rw[hm3];exact hpn,by rw[hm3];exact hu⟩⟩)
def nh(cls:TW.Wd→Addr):Sp:=λvs H Q E=>∃t n zs,vs=[.ref t,.int n]∧Tre H t zs∧cB (.drop n)∧Outs H (nds zs) (.drop n) cls Q E
theorem qO:FnScope ["tree","number","gone"] ["tree","number"] (ah om):=fsc
def lI(n:Int)(ms:List Int)(m:Nd):Bool:=!decide (m.num=n∨m.num∈ms)
theorem sV{f:Addr}{fd:FuncData}{cls:TW.Wd→Addr}(F:Fun K "drop" "drop" om f fd)(T:Txt mg)(CB:Has P w K mg base 1 "by_number" ["tree"] eQ)(CN:dG P w K mg base 1 "node_of" ["nodes","number"] (jd (cls .noNode)))(CE:dG P w K mg base 2 "below" ["tree","number"] (oq (cls .noNode))):FnOk P w K mg base (CX1 P w) 3 f fd ["tree","number"] (nh cls):=by
 obtain⟨fB,fdB,GB,mB,kB,bB⟩:=CB;obtain⟨fN,fdN,GN,mN,kN,bN⟩:=CN;obtain⟨fE,fdE,GE,mE,kE,bE⟩:=CE;refine F.okX qO (λvs H Q E h=>?_) (λcdv A outer s H vs Q E hr h=>?_)
 ·obtain⟨t,n,zs,rfl,_⟩:=h;rfl
 ·obtain⟨t,n,zs,rfl,tr,⟨hn1,hn2⟩,o⟩:=h;have hnd:=aI tr.tr;have hl:=tr.len;have hT:=tr.tr;have hr1:Room 1 _:=hr.mono (by decide);refine⟨_,ae (bY (ak (E:=E) GN hr1 rfl mN kN bN .nil (cX ca) (aa (ak GB hr1 rfl mB kB bB .nil aL (aa (pv 0) ai)) (aa (pv 1) ai))))
   (ae (ap (i:=2) qO.nd rfl (Or.inr rfl) (bg (eX rfl) rfl T.dict boot_dict (aa (gL (N:=["inner"]) (k:=1) (js:=[]) (g:=aZ 0) rfl (eF rfl (by decide +kernel) (by decide +kernel) (by decide +kernel)) rfl (λi j x h=>by simp at h)
    (cH (ak (E:=E) GE hr rfl mE kE bE .nil (cX ca) (aa (pv 0) (aa (pv 1) ai)))) (λs H fp=>aE (i:=0) (show(["inner"]:List Str).Nodup by decide +kernel) rfl (Or.inl rfl) (Or.inr rfl))
    (λs H fp=>bq (aa (pv 0) (aa io ai)))) ai)))
   (ae (gI (aK hr) (pv 2) (pv 1) io rfl)
   (aj (aD (bg bu rfl T.tuple rfl (aa (db (N:=["node","gone"]) (cl:=[("gone",s.heap.objs.size+1)]) (k:=1) (js:=[2]) (g:=aZ 0) rfl
    (LcOk.mk' ["gone"] rfl rfl (by decide +kernel) (by decide +kernel) ?hcl rfl (by decide +kernel)) rfl ?hj (cC (pv 0)) (λs H fp=>aE (i:=0) (show(["node","gone"]:List Str).Nodup by decide +kernel) rfl (Or.inl rfl) (Or.inr rfl))
    (λs H fp=>bT (cn (aK hr) (av (r:=cG K) ao (pv 0) ag (λ_ _=>rfl)) (pv 1))) (λs H fp=>pv 0)) ai)))))),?_⟩
  case hcl =>
   intro y hy;rcases mem_cons.mp hy with e|hy
   ·rw[e];rfl
   ·cases hy
  case hj =>
   intro i j x h1 h2
   match i,h1,h2 with
   |0,h1,h2 =>
    cases h1;cases h2;exact⟨rfl,Or.inr (Or.inl rfl),(show((ah om).names.lookup ("gone":Str)≠some NameKind.local)by decide +kernel),by first|exact Or.inl rfl|exact Or.inr rfl⟩
   |i+1,h1,h2=>simp at h1
  refine⟨_,rfl,t,zs,rfl,tr.tup,tr.nod,by omega,hnd,λd H1 s1 nd1=>?_⟩;refine⟨_,rfl,d,n,zs,rfl,nd1,hnd,by omega,hn2,λz hz e=>?_,λhk=>o.no .noNode H1 s1 (.dNo (cL λ⟨z,hz,e⟩=>hk z hz e))⟩;refine⟨_,rfl,_,rfl,t,n,zs,rfl,tr.same s1,by omega,hn2,λ_ ms l H2 s2 hms hml0 hm hl2=>?_,λh0 hk=>absurd e (hk z hz)⟩;have hml:ms.length≤1000:=by omega
  refine⟨l,rfl,⟨_,SqL.of hl2⟩,λp hp=>?_⟩;refine eJ (fr:=[]) ms V.int hml hp (fo (SqL.of hl2)) rfl (λm y H'=>∃q,y=.ref q∧q≠p∧H' q=some (.tup [.int m,.bl true])) (λm y H H' ⟨q,e,ne,h⟩ ex=>⟨q,e,ne,ex q _ ne h⟩) (λm H' k _ s3 hpl hk=>?_) (λys H3 s3 hp3 hys=>?_)
  ·exact⟨_,rfl,le2,λq hq=>hk _ _ (af hq) ⟨q,rfl,dC hpl hq,ac⟩⟩
  ·obtain⟨bs,e1,e2,e3⟩:=cE (val:=V.ref) (S:=λ(m:Int) (q:Addr)=>H3 q=some (.tup [.int m,.bl true])) hys (λm y _ ⟨q,e,_,h⟩=>⟨q,e,h⟩);have s123:=(s1.trans s2).trans s3;have hbl:bs.length=ms.length:=by rw[←e1,length_map]
   refine⟨p,bs.map λx=>(x.2,(Sum.inl x.1:Key),V.bl true),rfl,by rw[hp3,e2,map_map,map_map];rfl,λy hy=>?_,by rw[length_map];omega,?_,λg hg=>?_⟩
   ·obtain⟨x,hx,rfl⟩:=mem_map.mp hy;exact e3 x hx
   ·rw[map_map];have:(bs.map ((λx:Addr×Key×V=>x.2.1)∘λx=>(x.2,(Sum.inl x.1:Key),V.bl true)))=ms.map (Sum.inl:Int→Key):=by rw[←e1,map_map];rfl
    rw[this];unfold Nodup;rw[pairwise_map];exact hms.imp λh e=>by injection e with e;omega
   ·have ekv:(bs.map λx=>(x.2,(Sum.inl x.1:Key),V.bl true)).map (·.2)=ms.map λm=>((Sum.inl m:Key),V.bl true):=by rw[←e1,map_map,map_map];rfl
    rw[ekv];have s4:=s123.trans (af (o:=.dK (ms.map λm=>((Sum.inl m:Key),V.bl true))) hg);have s5:Same H (upd (upd H3 g (.dK (ms.map λm=>((Sum.inl m:Key),V.bl true)))) g (.dK (cg (ms.map λm=>((Sum.inl m:Key),V.bl true)) (Sum.inl n:Key) (.bl true)))):=aO (s123.free hg) s4;refine⟨_,rfl,_,rfl,g,_,rfl,jn.k (k:=Sum.inl n) ac (aG (by rw[length_map];exact hml)),?_⟩;have hgo:(upd (upd H3 g (.dK (ms.map λm=>((Sum.inl m:Key),V.bl true)))) g (.dK (cg (ms.map λm=>((Sum.inl m:Key),V.bl true)) (Sum.inl n:Key) (.bl true)))) g=some (.dK (cg (ms.map λm=>((Sum.inl m:Key),V.bl true)) (Sum.inl n:Key) (.bl true))):=ac;generalize upd (upd H3 g (.dK (ms.map λm=>((Sum.inl m:Key),V.bl true)))) g (.dK (cg (ms.map λm=>((Sum.inl m:Key),V.bl true)) (Sum.inl n:Key) (.bl true)))=H5 at s5 hgo⊢;have hval:∀k:Int,(!(bi (cg (ms.map λm=>((Sum.inl m:Key),V.bl true)) (Sum.inl n:Key) (.bl true)) (Sum.inl k:Key)).isSome) = !decide (k=n∨k∈ms):=λk=>by
     rw[eV]
     by_cases e:k=n
     ·subst e;simp
     ·have e':¬(Sum.inl k:Key)=Sum.inl n:=λh=>e (by injection h);rw[if_neg e']
      by_cases hk:k∈ms
      ·have:bi (ms.map λm=>((Sum.inl m:Key),V.bl true)) (Sum.inl k:Key)=some (.bl true):=by
        refine gS ?_ (mem_map.mpr ⟨k,hk,rfl⟩);rw[map_map];unfold Nodup;rw[pairwise_map];exact hms.imp λh e=>by injection e with e;omega
       rw[this];simp[hk]
      ·have:bi (ms.map λm=>((Sum.inl m:Key),V.bl true)) (Sum.inl k:Key)=none:=by
        refine kr λhx=>hk ?_;rw[map_map]at hx;obtain⟨m,hm',e⟩:=mem_map.mp hx;injection e with e
        rw[←e];exact hm'
       rw[this];simp[e,hk]
    refine⟨_,rfl,t,rfl,⟨_,SqT.of (s5 _ _ tr.tup)⟩,λp2 hp2=>?_⟩;refine ci (fr:=[some (.ref g)]) zs (λz=>V.ref z.1) (by omega) hp2 (dQ (by rw[bS];exact SqT.of (s5 _ _ tr.tup))) rfl (λz=>lI n ms z.2) (λz y _=>y=.ref z.1) (λz y H H' h _=>h) (λz H' k mz s6 _ hk=>?_) (λz H' k mz _ s6 _ hk=>?_) (λys H6 s6 hp6 hys=>?_)
    ·refine⟨_,rfl,z.1,_,_,_,rfl,rfl,SqT.of (s6 _ _ (s5 _ _ (tr.nod z mz))),at0 z.2,_,rfl,g,_,rfl,cW.k (k:=Sum.inl z.2.num) (s6 _ _ hgo),_,rfl,?_⟩;rw[hval];exact hk H' (Same.refl _)
    ·exact⟨_,rfl,hk _ H' (Same.refl _) rfl⟩
    ·have ey:=aQ (f:=λz:Addr×Nd=>V.ref z.1) hys (λz y _ h=>h);refine⟨p2,_,rfl,.inl ⟨SqL.of hp6,λl6 hl6=>?_⟩⟩;have s56:=(s5.trans s6).trans (af (o:=.tup ys) hl6);refine o.ok (zs.filter λz=>lI n ms z.2) l6 _ s56 (by rw[ac,ey,bS]) (λy hy=>s56 _ _ (tr.nod y (mem_filter.mp hy).1)) ?_;have en:nds (zs.filter λz=>lI n ms z.2)=(nds zs).filter (lI n ms):=by
      unfold nds;rw[filter_map];rfl
     rw[en];refine .dropped ⟨z.2,aA hz,e⟩ λm hm'=>?_;unfold lI;rw[not_eq_true',decide_eq_false_iff_not];constructor
     ·intro h hu
      by_cases em:m.num=n
      ·exact h (.inl em)
      ·exact h (.inr ((hm m.num).mpr ⟨m,hm',rfl,(TW.dq hT hn1 hm').mpr ⟨em,hu⟩⟩))
     ·intro h hx;rcases hx with em|hx
      ·exact h (by rw[em];exact .here)
      ·obtain⟨m',h1,h2,h3⟩:=(hm m.num).mp hx;have:m'=m:=hT.inj h1 hm' h2;subst this;exact h ((TW.dq hT hn1 h1).mp h3).2
def kx(cls:TW.Wd→Addr):Sp:=λvs H Q E=>∃t d dd zs,vs=[.ref t,.ref d]∧Tre H t zs∧zs.length≤29∧H d=some (.tup (bf dd))∧cB dd∧Outs H (nds zs) dd cls Q E
theorem qP:FnScope ["tree","deed","word"] ["tree","deed"] (ah qG):=fsc
theorem sW{f:Addr}{fd:FuncData}{cls:TW.Wd→Addr}(F:Fun K "done" "done" qG f fd)(CM:dG P w K mg base 3 "make" ["tree","number","parent","name","stamp"] (nb cls))(CW:dG P w K mg base 2 "write" ["tree","number","stamp"] (kw cls))(CV:dG P w K mg base 3 "move" ["tree","number","parent","name"] (nc cls))(CD:dG P w K mg base 3 "drop" ["tree","number"] (nh cls)):FnOk P w K mg base (CX1 P w) 4 f fd ["tree","deed"] (kx cls):=by
 obtain⟨fM,fdM,GM,mM,kM,bM⟩:=CM;obtain⟨fW,fdW,GW,mW,kW,bW⟩:=CW;obtain⟨fV,fdV,GV,mV,kV',bV⟩:=CV;obtain⟨fD,fdD,GD,mD,kD,bD⟩:=CD;refine F.okX qP (λvs H Q E h=>?_) (λcdv A outer s H vs Q E hr h=>?_)
 ·obtain⟨t,d,dd,zs,rfl,_⟩:=h;rfl
 ·obtain⟨t,d,dd,zs,rfl,tr,hl,hd,hok,o⟩:=h;have hr2:Room 2 _:=hr.mono (by decide);refine⟨_,ae (ap (i:=2) qP.nd rfl (Or.inl rfl) (av ao (pv 1) ag (λ_ _=>rfl)))
   (ae (be (am cx (pv 2) aM (aw _)) (aj (aD (ak (E:=E) GM hr rfl mM kM bM .nil (cX ca) (aa (pv 0) (aa (av ao (pv 1) ag (λ_ _=>rfl)) (aa (av ao (pv 1) ag (λ_ _=>rfl)) (aa (av ao (pv 1) ag (λ_ _=>rfl)) (aa (av ao (pv 1) ag (λ_ _=>rfl)) ai)))))))) aH)
   (ae (be (am cx (pv 2) aM (aw _)) (aj (aD (ak (E:=E) GW hr2 rfl mW kW bW .nil (cX ca) (aa (pv 0) (aa (av ao (pv 1) ag (λ_ _=>rfl)) (aa (av ao (pv 1) ag (λ_ _=>rfl)) ai)))))) aH)
   (ae (be (am cx (pv 2) aM (aw _)) (aj (aD (ak (E:=E) GV hr rfl mV kV' bV .nil (cX ca) (aa (pv 0) (aa (av ao (pv 1) ag (λ_ _=>rfl)) (aa (av ao (pv 1) ag (λ_ _=>rfl)) (aa (av ao (pv 1) ag (λ_ _=>rfl)) ai))))))) aH)
   (ae (be (am cx (pv 2) aM (aw _)) (aj (aD (ak (E:=E) GD hr rfl mD kD bD .nil (cX ca) (aa (pv 0) (aa (av ao (pv 1) ag (λ_ _=>rfl)) ai))))) aH)
   (aj pU))))),?_⟩
  have sd:SqT K H d (bf dd):=SqT.of hd;cases dd with
  |make n p nm st =>
   refine⟨_,rfl,d,_,_,_,rfl,rfl,sd,rfl,?_⟩;refine⟨_,rfl,rfl,_,rfl,aT ⟨_,rfl,_,rfl,d,_,_,_,rfl,rfl,sd,rfl,_,rfl,d,_,_,_,rfl,rfl,sd,rfl,_,rfl,d,_,_,_,rfl,rfl,sd,rfl,_,rfl,d,_,_,_,rfl,rfl,sd,rfl,t,n,p,nm,st,zs,rfl,tr,hl,hok,o⟩⟩
  |write n st =>
   refine⟨_,rfl,d,_,_,_,rfl,rfl,sd,rfl,?_⟩;refine⟨_,rfl,rfl,_,rfl,aJ ⟨_,rfl,rfl,_,rfl,aT ⟨_,rfl,_,rfl,d,_,_,_,rfl,rfl,sd,rfl,_,rfl,d,_,_,_,rfl,rfl,sd,rfl,t,n,st,zs,rfl,tr,hok,o⟩⟩⟩
  |move n p nm =>
   refine⟨_,rfl,d,_,_,_,rfl,rfl,sd,rfl,?_⟩;refine⟨_,rfl,rfl,_,rfl,aJ ⟨_,rfl,rfl,_,rfl,aJ ⟨_,rfl,rfl,_,rfl,aT ⟨_,rfl,_,rfl,d,_,_,_,rfl,rfl,sd,rfl,_,rfl,d,_,_,_,rfl,rfl,sd,rfl,_,rfl,d,_,_,_,rfl,rfl,sd,rfl,t,n,p,nm,zs,rfl,tr,hok,o⟩⟩⟩⟩
  |drop n =>
   refine⟨_,rfl,d,_,_,_,rfl,rfl,sd,rfl,?_⟩;refine⟨_,rfl,rfl,_,rfl,aJ ⟨_,rfl,rfl,_,rfl,aJ ⟨_,rfl,rfl,_,rfl,aJ ⟨_,rfl,rfl,_,rfl,aT ⟨_,rfl,_,rfl,d,_,_,_,rfl,rfl,sd,rfl,t,n,zs,rfl,tr,hok,o⟩⟩⟩⟩⟩
end
end TK
namespace TB
open PySem SetTable
section
variable{prog:Program}{w:World}{A:Around}{E:Value→Shared→Prop}{s:Shared}
end
section
variable{prog:Program}{w:World}{A:Around}{R:Result→Shared→Prop}{I:Addr}{fp wr:List Addr}{G:Array GenState→Array GenState→Prop}{n:Nat}{P:Nat→Value→Prop}{St:Nat→Shared→Prop}
end
section
variable{prog:Program}{w:World}{A:Around}{E:Value→Shared→Prop}{s:Shared}
end
end TB
namespace SRT
open PySem PySem.W PyProof.Rows
section
variable{prog:Program}{w:World}{A:Around}{E:Value→Shared→Prop}{s:Shared}
end
end SRT
namespace L2
open PySem PySem.Spec PyProof.Rows
section
variable{X:Cx}
end
end L2
namespace TB
open PySem SetTable
section
variable{prog:Program}{w:World}{A:Around}{E:Value→Shared→Prop}{s:Shared}
end
end TB
namespace L2
open PySem PySem.Spec PyProof.Rows
section
variable{X:Cx}
def jf:V→Bool
 |.non=>true
 |.int _=>true
 |.str _=>true
 |_=>false
theorem jg{x:V}(h:jf x=true):eT x=true:=by cases x<;>first|rfl|cases h
theorem qQ{x y:V}(hx:jf x=true)(hy:jf y=true):eqV x y=decide (x=y):=by
 cases x<;>cases y<;>simp_all [eqV,jf]<;>rw[Bool.eq_iff_iff]<;>simp
def OT(H:Hp)(x:V)(o:Option (List V)):Prop:=(x=.non∧o=none)∨∃a xs,x=.ref a∧H a=some (.tup xs)∧o=some xs∧∀v∈xs,jf v=true
theorem vM{xs ys:List V}(hl:xs.length=ys.length):((List.range xs.length).all λi=>decide (xs.getD i .non=ys.getD i .non))=decide (xs=ys):=by
 rw[Bool.eq_iff_iff,all_eq_true,decide_eq_true_eq];constructor
 ·intro h;apply ext_getElem?;intro i
  by_cases hi:i<xs.length
  ·have:=h i (mem_range.mpr hi);rw[decide_eq_true_eq,getD_eq_getElem?_getD,getD_eq_getElem?_getD,getElem?_eq_getElem hi,getElem?_eq_getElem (by omega)]at this;rw[getElem?_eq_getElem hi,getElem?_eq_getElem (by omega)];exact congrArg some this
  ·rw[getElem?_eq_none (by omega),getElem?_eq_none (by omega)]
 ·intro h i hi;rw[h];simp
theorem nk(hu:X.A.units+1<cLine):OpR X (compareOp .NotEq) (λx y H Q=>∃ox oy,OT H x ox∧OT H y oy∧Q (.bl (!decide (ox=oy))) H):=by
 intro pins s σ H x y v u Q I rx ry h;obtain⟨ox,oy,hx,hy,q⟩:=h;have hu0:X.A.units<cLine:=by omega
 rcases hx with⟨rfl,rfl⟩|⟨a,xs,rfl,ha,rfl,fx⟩<;>rcases hy with⟨rfl,rfl⟩|⟨b,ys,rfl,hb,rfl,fy⟩<;>cases rx<;>cases ry
 ·exact RcNeAt.none_none _ _ _ _ ⟨.bl false,H,I,rfl,q⟩
 ·obtain⟨_,ws,r2,t2⟩:=I.hok b _ hb;exact RcNeAt.none_tuple t2 hu0 _ _ _ _ ⟨.bl true,H,I,rfl,q⟩
 ·obtain⟨_,us,r1,t1⟩:=I.hok a _ ha;exact RcNeAt.tuple_none t1 hu0 _ _ _ _ ⟨.bl true,H,I,rfl,q⟩
 ·obtain⟨_,us,r1,t1⟩:=I.hok a _ ha;obtain⟨_,ws,r2,t2⟩:=I.hok b _ hb;have l1:=r1.length;have l2:=r2.length;refine RcNeAt.tuples (e:=λi=>decide (xs.getD i .non=ys.getD i .non)) t1 t2 hu0 (λj h1 h2=>?_) _ _ _ _ ⟨.bl _,H,I,rfl,?_⟩
  ·have h1':j<xs.length:=by rw[l1];simpa using h1
   have h2':j<ys.length:=by rw[l2];simpa using h2
   obtain⟨u',hu1,hu2⟩:=r1.get (getElem?_eq_getElem h1');obtain⟨v',hv1,hv2⟩:=r2.get (getElem?_eq_getElem h2');have e1:us.toArray[j]=u':=by
    have:us[j]?=some us.toArray[j]:=by rw[getElem?_eq_getElem (by simpa using h1)];simp
    rw[hu1]at this;exact(Option.some.inj this).symm
   have e2:ws.toArray[j]=v':=by
    have:ws[j]?=some ws.toArray[j]:=by rw[getElem?_eq_getElem (by simpa using h2)];simp
    rw[hv1]at this;exact(Option.some.inj this).symm
   rw[e1,e2,getD_eq_getElem?_getD,getD_eq_getElem?_getD,getElem?_eq_getElem h1',getElem?_eq_getElem h2'];have f1:=fx _ (getElem_mem h1');have f2:=fy _ (getElem_mem h2');show EqAt _ _ _ _ (decide (xs[j]=ys[j]));rw[←qQ f1 f2];exact qd hu2 hv2 (jg f1) (jg f2)
  ·have e:((List.range (min us.toArray.size ws.toArray.size)).all (λi=>decide (xs.getD i .non=ys.getD i .non))&&us.toArray.size==ws.toArray.size)=decide (some xs=some ys):=by
    simp only[size_toArray,←l1,←l2]
    by_cases hl:xs.length=ys.length
    ·rw[←hl,Nat.min_self,vM hl];simp
    ·have:(xs.length==ys.length)=false:=by simpa using hl
     rw[this,Bool.and_false];refine(decide_eq_false ?_).symm;intro e;injection e with e
     exact hl (by rw[e])
   rw[e];exact q
end
end L2
namespace TW
section
variable{S:Type}
def fS(t:List (Nd S))(k:Int):Option (Nd S):=t.find? λn=>n.num==k
theorem gm{t:List (Nd S)}(T:Tree1 t){m:Nd S}(hm:m∈t){k:Int}(e:m.num=k):fS t k=some m:=by
 subst e;unfold fS;cases h:t.find? λn=>n.num==m.num with
 |none=>have:=find?_eq_none.mp h m hm;simp at this
 |some y =>
  have h1:=find?_some h;have h2:=List.mem_of_find?_eq_some h;have h3:y.num=m.num:=by simpa using h1
  rw[T.inj h2 hm h3]
theorem jh{t:List (Nd S)}{k:Int}(h:∀m∈t,m.num≠k):fS t k=none:=by
 unfold fS;rw[find?_eq_none];intro m hm;simpa using h m hm
theorem fq{t u:List (Nd S)}(T:Tree1 t)(U:Tree1 u){k:Int}(h:∀m,m.num=k→(m∈u↔m∈t)):fS u k=fS t k:=by
 by_cases hk:∃m∈t,m.num=k
 ·obtain⟨m,hm,e⟩:=hk;rw[gm T hm e,gm U ((h m e).mpr hm) e]
 ·rw[jh λm hm e=>hk ⟨m,hm,e⟩,jh λm hm e=>hk ⟨m,(h m e).mp hm,e⟩]
def Deed.key:Deed S→Int
 |.make n _ _ _=>n
 |.write n _=>n
 |.move n _ _=>n
 |.drop n=>n
theorem put_mem{t:List (Nd S)}{z:Nd S}{m:Nd S}(h:m.num≠z.num):m∈t.map (put z)↔m∈t:=by
 rw[mem_map];constructor
 ·rintro⟨y,hy,e⟩
  by_cases e2:y.num=z.num
  ·rw[dE e2]at e;exact absurd (by rw[←e]) h
  ·rw[cb e2]at e;rw[←e];exact hy
 ·intro hm;exact⟨m,hm,cb h⟩
theorem Told.others{t u:List (Nd S)}(T:Tree1 t)(U:Tree1 u){d:Deed S}(h:Told t d (.inr u)){k:Int}(hk:k≠d.key):
  fS u k=fS t k∨((∃n,d=.drop n)∧Und t d.key k∧(∃m∈t,m.num=k)∧∀m∈u,m.num≠k):=by
 generalize er:(Sum.inr u:Sum Wd (List (Nd S)))=r at h;cases h with
 |@made n p nm st _ a1 a2 a3 a4 a5 =>
  injection er with er
  subst er;refine .inl (fq T U λm e=>?_);rw[a4.mem_iff,mem_cons];constructor
  ·rintro(e2|hm)
   ·rw[e2]at e;exact absurd e.symm hk
   ·exact hm
  ·exact .inr
 |@wrote n st y a1 a2 a3 =>
  injection er with er
  subst er;exact .inl (fq T U λm e=>put_mem (by rw[e];exact hk))
 |@moved n p nm y a1 a2 a3 a4 a5 =>
  injection er with er
  subst er;exact .inl (fq T U λm e=>put_mem (by rw[e];exact hk))
 |@dropped n f a1 a2 =>
  injection er with er
  subst er
  by_cases hu:(∃m∈t,m.num=k)∧Und t n k
  ·obtain⟨⟨m,hm,e⟩,hu⟩:=hu;refine .inr ⟨⟨n,rfl⟩,hu,⟨m,hm,e⟩,λy hy e2=>?_⟩;obtain⟨hy1,hy2⟩:=mem_filter.mp hy;exact(a2 y hy1).mp hy2 (by rw[e2];exact hu)
  ·refine .inl (fq T U λm e=>?_);rw[mem_filter];constructor
   ·exact λh=>h.1
   ·intro hm;refine⟨hm,(a2 m hm).mpr λz=>hu ⟨⟨m,hm,e⟩,by rw[e]at z;exact z⟩⟩
 |_=>cases er
end
end TW
namespace TW
section
variable{S:Type}
theorem pG{t:List (Nd S)}{k:Int}{m:Nd S}(h:fS t k=some m):m∈t∧m.num=k:=by
 unfold fS at h;have h1:=find?_some h;have h2:=List.mem_of_find?_eq_some h;exact⟨h2,by simpa using h1⟩
end
end TW
namespace L2
open PySem PySem.Spec PyProof.Rows
end L2
namespace TK
open PySem L2
instance decNd:DecidableEq (TW.Nd Str):=λa b=>Classical.propDecidable _
end TK
namespace L2
open PySem PySem.Spec PyProof.Rows
section
variable{X:Cx}
theorem ji(hu:X.A.units<cLine):OpR X (compareOp .NotEq) (λx y H Q=>∃a b xs,x=.ref a∧y=.ref b∧SqL X.K H a xs∧SqL X.K H b []∧Q (.bl (!decide (xs=[]))) H):=by
 intro pins s σ H x y v u Q I rx ry h;obtain⟨a,b,xs,rfl,rfl,ha,hb,q⟩:=h;cases rx;cases ry;obtain⟨its,r1,ht,_⟩:=I.list ha;obtain⟨its2,r2,hb',_⟩:=I.list hb;cases r2
 by_cases e:xs=[]
 ·subst e;cases r1;refine RcNeAt.lists (e:=λ_=>true) ht.isList hb'.isList rfl hu (λj h1 h2=>absurd h2 (by simp)) _ _ _ _ ⟨.bl _,H,I,?_,q⟩;rfl
 ·have e2:its≠[]:=λz=>e (r1.nil_iff.mp z);have e3:its.length≠0:=λz=>e2 (length_eq_zero_iff.mp z);refine RcNeAt.lists_lengths ht.isList hb'.isList (by simp[e3]) hu _ _ _ _ ⟨.bl _,H,I,?_,q⟩;show _=Value.bool _;simp[e]
end
end L2
namespace TW
section
variable{S:Type}
end
end TW
namespace L2
open PySem PySem.Spec PyProof.Rows
end L2
namespace TK
open PySem L2
end TK
namespace L2
open PySem PySem.Spec PyProof.Rows
section
variable{X:Cx}
abbrev Cx.within(X:Cx)(pl:List (Addr×Obj))(xe:Value→Shared→Prop):Cx:={X with pn:=pl,xe:=xe}
theorem Cx.Ok.within(ok:X.Ok)(pl:List (Addr×Obj))(xe:Value→Shared→Prop):(X.within pl xe).Ok:=⟨ok.mod,ok.kind,ok.glob,ok.blt,ok.above,ok.inj,ok.has,ok.cab,ok.hd,ok.frames,ok.stk,ok.exf,ok.bs,ok.bsz,ok.noex,ok.exfs,ok.funs,ok.frf⟩
theorem Cx.Ok.without{pl:List (Addr×Obj)}{xe:Value→Shared→Prop}(ok:(X.within pl xe).Ok):X.Ok:=⟨ok.mod,ok.kind,ok.glob,ok.blt,ok.above,ok.inj,ok.has,ok.cab,ok.hd,ok.frames,ok.stk,ok.exf,ok.bs,ok.bsz,ok.noex,ok.exfs,ok.funs,ok.frf⟩
theorem Inv.within{pins:List (Addr×Obj)}{σ:St}{H:Hp}{s:Shared}(I:Inv X pins σ H s)(xe:Value→Shared→Prop):Inv (X.within (X.pn++pins) xe) [] σ H s :=
 ⟨I.ok.within _ _,I.os,I.bare,I.base,I.loc,I.cell,I.free,I.freeC,λp hp=>I.pin p (by simpa using hp),I.hok,I.len⟩
theorem Inv.without{pins pins':List (Addr×Obj)}{σ:St}{H:Hp}{s:Shared}{xe:Value→Shared→Prop}(I:Inv (X.within (X.pn++pins) xe) pins' σ H s):Inv X pins σ H s :=
 ⟨I.ok.without,I.os,I.bare,I.base,I.loc,I.cell,I.free,I.freeC,λp hp=>I.pin p (mem_append_left _ hp),I.hok,I.len⟩
end
end L2
namespace TW
section
variable{S:Type}
theorem Und.trans{t:List (Nd S)}{a b c:Int}(h1:Und t a b)(h2:Und t b c):Und t a c:=by
 induction h2 with
 |here=>exact h1
 |up hm _ ih=>exact .up hm ih
theorem gU{t:List (Nd S)}(T:Tree1 t){z:Nd S}(hz:z∈t){k:Int}:Und t k z.num↔k=z.num∨Und t k z.par:=by
 constructor
 ·intro h
  by_cases e:z.num=k
  ·exact .inl e.symm
  ·exact .inr (h.inv T hz rfl e)
 ·rintro(rfl|h)
  ·exact .here
  ·exact .up hz h
theorem qR{t:List (Nd S)}(T:Tree1 t){z:Nd S}(hz:z∈t):¬Und t z.num z.par:=λh=>by
 rcases cF T hz with h0|⟨m,hm,hs,e⟩
 ·have:=h.zero T h0;have:=T.pos z hz;omega
 ·rw[←e]at h
  by_cases en:m.num=z.num
  ·have:m=z:=T.inj hm hz en;subst this;exact eZ T (.base hm e.symm) rfl
  ·have r:=(dq T (T.pos z hz) hm).mpr ⟨en,h⟩;have:Reach t z.num z:=.step r hs hz e.symm;exact eZ T this rfl
def sX(t u:List (Nd S))(k:Int):Prop:=k≠0∧∃m∈t,ax u m.num∧Und t k m.num
def dS(t u:List (Nd S))(x:Nd S):Prop:=¬sX t u x.num∧(x.par=0∨ax u x.par)
inductive Plc(t:List (Nd S))(n:Nd S):Option (Deed S)→Prop where
 |new:¬ax t n.num→Plc t n (some (.make n.num n.par n.nm n.st))
 |mv {m:Nd S}:m∈t→m.num=n.num→¬(m.par=n.par∧m.nm=n.nm)→Plc t n (some (.move n.num n.par n.nm))
 |no {m:Nd S}:m∈t→m.num=n.num→m.par=n.par→m.nm=n.nm→Plc t n none
inductive Plcs(t:List (Nd S)):List (Nd S)→List (Deed S)→Prop where
 |nil:Plcs t [] []
 |skip {n:Nd S} {u:List (Nd S)} {ds:List (Deed S)}:Plcs t u ds→Plc t n none→Plcs t (u++[n]) ds
 |take {n:Nd S} {u:List (Nd S)} {ds:List (Deed S)} {d:Deed S}:Plcs t u ds→Plc t n (some d)→Plcs t (u++[n]) (ds++[d])
end
end TW
namespace TK
open PySem L2
def fi(ms:List Int):List (Key×V):=ms.map λm=>((Sum.inl m:Key),V.bl true)
theorem jj{ms:List Int}{k:Int}:(bi (fi ms) (Sum.inl k:Key)).isSome=decide (k∈ms):=by
 by_cases h:k∈ms
 ·rw[decide_eq_true h,←cz];rw[any_eq_true];exact⟨_,mem_map.mpr ⟨k,h,rfl⟩,by simp⟩
 ·rw[decide_eq_false h,kr (by
   unfold fi;rw[map_map];intro hm;obtain⟨x,hx,e⟩:=mem_map.mp hm;have:x=k:=by injection e
   exact h (this ▸ hx))]
  rfl
theorem qS{ms:List Int}{k:Int}(h:k∉ms):cg (fi ms) (Sum.inl k:Key) (V.bl true)=fi (ms++[k]):=by
 have hn:bi (fi ms) (Sum.inl k:Key)=none:=by
  have:=jj (ms:=ms) (k:=k);rw[decide_eq_false h]at this;cases hv:bi (fi ms) (Sum.inl k:Key)with
  |none=>rfl
  |some x=>rw[hv]at this;cases this
 rw[qh _ hn];unfold fi;rw[map_append];rfl
def inU(us:ZN)(k:Int):Bool:=us.any λy=>decide (y.2.num=k)
theorem cU{us:ZN}{k:Int}:inU us k=true↔TW.ax (nds us) k:=by
 unfold inU;rw[any_eq_true];constructor
 ·rintro⟨y,hy,e⟩;exact⟨y.2,aA hy,of_decide_eq_true e⟩
 ·rintro⟨m,hm,e⟩;obtain⟨y,hy,rfl⟩:=bj hm;exact⟨y,hy,decide_eq_true e⟩
theorem gg.is{H:Hp}{d:Addr}{us:ZN}(h:gg H d us)(hn:((nds us).map (·.num)).Nodup)(k:Int):∃o,cW H d (.int k) o∧o.isSome=inU us k:=by
 cases hb:inU us k with
 |true =>
  obtain⟨m,hm,e⟩:=cU.mp hb;obtain⟨y,hy,rfl⟩:=bj hm;subst e;exact⟨_,h.get hn hy,rfl⟩
 |false =>
  refine⟨none,h.not λy hy e=>?_,rfl⟩;have:inU us k=true:=cU.mpr ⟨y.2,aA hy,e⟩;rw[hb]at this;cases this
section
variable{P:Program}{w:World}{K:PySem.W.Frag}{mg:Str→Option Value}{base:Heap}
def qT:Sp:=λvs H Q _=>∃t d zs us,vs=[.ref t,.ref d]∧Tre H t zs∧gg H d us∧((nds us).map (·.num)).Nodup∧∀e ks H',Same H H'→H' e=some (.dK (fi ks))→(∀k,k∈ks↔TW.sX (nds zs) (nds us) k)→Q (.ref e) H'
theorem jO:FnScope ["now","goal","nodes","needed","staying","at"] ["now","goal"] (ah cM):=fsc
def eD(zs us:ZN):List Int:=(zs.filter λz=>inU us z.2.num).map (·.2.num)
theorem vN{f:Addr}{fd:FuncData}(F:Fun K "nodes_needed" "nodes_needed" cM f fd)(T:Txt mg)(CB:Has P w K mg base 1 "by_number" ["tree"] eQ):FnOk P w K mg base CX0 2 f fd ["now","goal"] qT:=by
 obtain⟨fB,fdB,GB,mB,kB,bB⟩:=CB;obtain⟨tt,hT⟩:=T.top;refine F.ok jO (λvs H Q E h=>?_) (λcdv A outer s H vs Q E hr h=>?_)
 ·obtain⟨t,d,zs,us,rfl,_⟩:=h;rfl
 ·obtain⟨t,d,zs,us,rfl,tr,hd,hun,q⟩:=h;have hl:=tr.len;have hnd:=aI tr.tr;refine⟨_,ae (ap (i:=2) jO.nd rfl (Or.inl rfl) (ak GB hr rfl mB kB bB .nil aL (aa (pv 0) ai)))
   (ae (ap (i:=3) jO.nd rfl (Or.inl rfl) li)
   (ae (dt PassesOwn.never rfl (cH (db (N:=["number","goal"]) (cl:=[("goal",s.heap.objs.size+1)]) (k:=1) (js:=[1]) (g:=aZ 0) rfl
     (LcOk.mk' ["goal"] rfl rfl (by decide +kernel) (by decide +kernel) ?hcl rfl (by decide +kernel)) rfl ?hj (fQ (pv 2)) (λs H fp=>aE (i:=0) (show(["number","goal"]:List Str).Nodup by decide +kernel) rfl (Or.inl rfl) (Or.inr rfl))
     (λs H fp=>bT (dz (aK hr) (pv 0) (pv 1))) (λs H fp=>pv 0))) (aE (i:=4) jO.nd rfl (Or.inl rfl))
    (ae (ap (i:=5) jO.nd rfl (Or.inl rfl) (pv 4))
    (aj (ee PassesOwn.never (PW.pt (pw_and (am dy (pv 5) (dg (v:=.int 0) rfl hT ⟨_,rfl⟩) (aw _)) (pw_and1 (bT (cn (aK hr) (pv 5) (pv 3))))))
     (ae (gI (aK hr) (pv 3) (pv 5) io rfl)
     (aj (ap (i:=5) jO.nd rfl (Or.inl rfl) (av ao (aU (aK hr) (pv 2) (pv 5) (λ_ _=>rfl)) ag (λ_ _=>rfl)))))))))
   (aj (aD (pv 3))))),?_⟩
  case hcl =>
   intro y hy;rcases mem_cons.mp hy with e|hy
   ·rw[e];rfl
   ·cases hy
  case hj =>
   intro i j x h1 h2
   match i,h1,h2 with
   |0,h1,h2 =>
    cases h1;cases h2;exact⟨rfl,Or.inr (Or.inl rfl),(show((ah cM).names.lookup ("goal":Str)≠some NameKind.local)by decide +kernel),by first|exact Or.inl rfl|exact Or.inr rfl⟩
   |i+1,h1,h2=>simp at h1
  refine⟨_,rfl,t,zs,rfl,tr.tup,tr.nod,by omega,hnd,λn H1 s1 nd1=>?_⟩;refine λe he=>?_;have s2:=af (o:=.dK []) he;have ge:upd H1 e (.dK []) e=some (.dK (fi [])):=ac;have nd2:=nd1.same s2;generalize upd H1 e (.dK [])=H2 at s2 ge nd2⊢;obtain⟨o,ho⟩:=nd2;have hd2:=(hd.same s1).same s2;have tr2:=(tr.same s1).same s2;refine⟨_,rfl,n,o,dc zs,rfl,ho,λp hp=>?_⟩;refine ci (fr:=[some (.ref d)]) zs (λz=>V.int z.2.num) (by omega) hp (Eq.mp (congrArg (Src _ H2) (show(dc zs).map (λx=>kV x.1)=zs.map (λz=>V.int z.2.num)by unfold dc;rw[map_map];rfl)) (ck ho)) rfl (λz=>inU us z.2.num) (λz y _=>y=.int z.2.num) (λ_ _ _ _ h _=>h) (λz H' k mz s3 _ hk=>?_) (λz H' k mz _ s3 _ hk=>?_) (λys H3 s3 hp3 hys=>?_)
  ·obtain⟨ov,g,e1⟩:=(hd2.same s3).is hun z.2.num;refine⟨_,rfl,_,rfl,d,_,rfl,g,_,rfl,?_⟩;rw[e1];exact hk H' (Same.refl _)
  ·exact⟨_,rfl,hk _ H' (Same.refl _) rfl⟩
  ·have ey:ys=(eD zs us).map V.int:=by
    rw[aQ (f:=λz:Addr×Nd=>V.int z.2.num) hys (λz y _ h=>h)];unfold eD;rw[map_map];rfl
   subst ey;have keep0:∀b u,b≠e→H2 b=some u→H3 b=some u:=λb u _ h=>s3 _ _ h;have nen:n≠e:=λz=>by rw[z,ge]at ho;cases ho
   have sin:∀m,m∈eD zs us→∃z∈zs,z.2.num=m∧TW.ax (nds us) m:=λm hm=>by
    unfold eD at hm;obtain⟨z,hz,e1⟩:=mem_map.mp hm;obtain⟨h1,h2⟩:=mem_filter.mp hz;exact⟨z,h1,e1,e1 ▸ cU.mp h2⟩
   refine⟨p,rfl,⟨_,SqL.of hp3⟩,gw (xs:=(eD zs us).map V.int) (λi σ H'=>∃x4 x5,∃ks:List Int,σ=[some (.ref t),some (.ref d),some (.ref n),some (.ref e),x4,x5]∧H' e=some (.dK (fi ks))∧ks.Nodup∧(∀k∈ks,k∈zs.map (·.2.num))∧(∀k,k∈ks↔k≠0∧∃x∈(eD zs us).take i,TW.Und (nds zs) k x)∧∀b u,b≠e→H3 b=some u→H' b=some u)
    ⟨_,_,[],rfl,s3 _ _ ge,nodup_nil,(λk h=>nomatch h),λk=>by simp,λ_ _ _ h=>h⟩ (λi σ H' _ h=>?_) (λi x σ H' hx h=>?_) (λσ H' h=>?_)⟩
   ·obtain⟨x4,x5,ks,rfl,_,_,_,_,kp⟩:=h;exact SqL.of (kp _ _ (λz=>by rw[z]at hp;rw[ge]at hp;cases hp) hp3)
   ·obtain⟨x4,x5,ks,rfl,hks,knd,ksub,kiff,kp⟩:=h;rw[getElem?_map]at hx;obtain⟨m,hm,rfl⟩:∃m,(eD zs us)[i]?=some m∧x=V.int m:=by
     cases hg:(eD zs us)[i]? with
     |none=>rw[hg]at hx;cases hx
     |some m=>rw[hg]at hx;exact⟨m,rfl,(Option.some.inj hx).symm⟩
    obtain⟨z0,mz0,ez0,_⟩:=sin m (mem_of_getElem? hm);have et:(eD zs us).take (i+1)=(eD zs us).take i++[m]:=bH hm;have Tz:=tr.tr;obtain⟨q0,hq0⟩:=TW.PathTo.ex Tz (aA mz0);rw[ez0]at hq0;refine⟨_,rfl,?_⟩;dsimp only[aZ,jm];refine eS (λσ H'=>∃at' q',∃ks:List Int,σ=[some (.ref t),some (.ref d),some (.ref n),some (.ref e),some (.int m),some (.int at')]∧TW.PathTo (nds zs) at' q'∧TW.Und (nds zs) at' m∧H' e=some (.dK (fi ks))∧ks.Nodup∧(∀k∈ks,k∈zs.map (·.2.num))∧(∀k,k∈ks↔k≠0∧((∃x∈(eD zs us).take i,TW.Und (nds zs) k x)∨(TW.Und (nds zs) k m∧¬TW.Und (nds zs) k at')))∧∀b u,b≠e→H3 b=some u→H' b=some u)
     (λσ H'=>match σ with | [_,_,_,_,_,some (.int k)]=>lD (nds zs) k | _=>0) ⟨m,q0,ks,rfl,hq0,.here,hks,knd,ksub,λk=>?_,kp⟩ (λσ H' h=>?_) ?_
    ·rw[kiff];constructor
     ·rintro⟨h1,h2⟩;exact⟨h1,.inl h2⟩
     ·rintro⟨h1,h2|⟨h2,h3⟩⟩
      ·exact⟨h1,h2⟩
      ·exact absurd h2 h3
    ·obtain⟨at',q',ks,rfl,hq',hu,hks,knd,ksub,kiff,kp⟩:=h;have fin:(∀k,k≠0→TW.Und (nds zs) k at'→k∈ks)→∃x4 x5,∃ks':List Int,[some (V.ref t),some (.ref d),some (.ref n),some (.ref e),some (.int m),some (.int at')]=[some (.ref t),some (.ref d),some (.ref n),some (.ref e),x4,x5]∧H' e=some (.dK (fi ks'))∧ks'.Nodup∧(∀k∈ks',k∈zs.map (·.2.num))∧(∀k,k∈ks'↔k≠0∧∃x∈(eD zs us).take (i+1),TW.Und (nds zs) k x)∧∀b u,b≠e→H3 b=some u→H' b=some u:=λhall=>by
      refine⟨_,_,ks,rfl,hks,knd,ksub,λk=>?_,kp⟩;rw[kiff,et];constructor
      ·rintro⟨h1,⟨x,hx,hxu⟩|⟨h2,_⟩⟩
       ·exact⟨h1,x,mem_append_left _ hx,hxu⟩
       ·exact⟨h1,m,mem_append_right _ (mem_singleton.mpr rfl),h2⟩
      ·rintro⟨h1,x,hx,hxu⟩;rcases mem_append.mp hx with hx|hx
       ·exact⟨h1,.inl ⟨x,hx,hxu⟩⟩
       ·have ex:x=m:=mem_singleton.mp hx;subst ex
        by_cases hk:TW.Und (nds zs) k at'
        ·exact(kiff k).mp (hall k h1 hk)
        ·exact⟨h1,.inr ⟨hxu,hk⟩⟩
     refine⟨_,rfl,rfl,_,rfl,?_⟩
     by_cases h0:at'=0
     ·have hne:decide (V.int at'=V.int 0)=true:=by simp[h0]
      rw[hne];exact aJ (aJ (fin λk hk h=>absurd (h.zero Tz h0) hk))
     ·have hne:decide (V.int at'=V.int 0)=false:=by simp[h0]
      rw[hne];refine aT ⟨_,rfl,_,rfl,e,_,rfl,cW.k (k:=Sum.inl at') hks,_,rfl,?_⟩;rw[jj]
      by_cases hin:at'∈ks
      ·rw[decide_eq_true hin];refine aJ (fin λk hk h=>(kiff k).mpr ⟨hk,?_⟩);rcases ((kiff at').mp hin).2 with⟨x,hx,hxu⟩|⟨_,h2⟩
       ·exact .inl ⟨x,hx,h.trans hxu⟩
       ·exact absurd TW.Und.here h2
      ·rw[decide_eq_false hin];refine aT ?_;obtain⟨z,hz,e1,q'',e2,hq''⟩:=nZ Tz hq' h0;subst e1;have klen:ks.length≤30:=by
        have h1:=Nodup.length_le_of_subset knd (l₂:=zs.map (·.2.num)) (λx hx=>ksub x hx);rw[length_map]at h1;omega
       refine⟨_,rfl,_,rfl,e,_,rfl,jn.k (k:=Sum.inl z.2.num) hks (aG (by unfold fi;rw[length_map];omega)),?_⟩;rw[qS hin];have kp':∀b u,b≠e→H3 b=some u→upd H' e (.dK (fi (ks++[z.2.num]))) b=some u:=λb u hb h=>by rw[al hb];exact kp b u hb h
       have ho':=kp' _ _ nen (s3 _ _ ho);have hz3:=kp' _ _ (λz'=>by have:=tr2.nod z hz;rw[z',ge]at this;cases this) (s3 _ _ (tr2.nod z hz));have ge':upd H' e (.dK (fi (ks++[z.2.num]))) e=some (.dK (fi (ks++[z.2.num]))):=ac;generalize upd H' e (.dK (fi (ks++[z.2.num])))=H4 at kp' ho' hz3 ge'⊢;refine⟨_,rfl,_,rfl,n,_,rfl,gg.get ⟨o,ho'⟩ hnd hz,z.1,_,_,_,rfl,rfl,SqT.of hz3,at1 z.2,?_⟩;have mz:=aA hz;refine⟨⟨z.2.par,q'',ks++[z.2.num],rfl,hq'',(TW.Und.up mz .here).trans hu,ge',?_,λk hk=>?_,λk=>?_,kp'⟩,?_⟩
       ·rw[nodup_append];exact⟨knd,by simp,λa ha b hb e'=>hin (by rw[←show b=z.2.num by simpa using hb,←e'];exact ha)⟩
       ·rcases mem_append.mp hk with hk|hk
        ·exact ksub k hk
        ·have:k=z.2.num:=mem_singleton.mp hk;rw[this];exact mem_map.mpr ⟨z,hz,rfl⟩
       ·rw[mem_append,kiff,mem_singleton];constructor
        ·rintro(⟨h1,h2|⟨h2,h3⟩⟩|rfl)
         ·exact⟨h1,.inl h2⟩
         ·exact⟨h1,.inr ⟨h2,λh=>h3 (.up mz h)⟩⟩
         ·exact⟨h0,.inr ⟨hu,TW.qR Tz mz⟩⟩
        ·rintro⟨h1,h2|⟨h2,h3⟩⟩
         ·exact .inl ⟨h1,.inl h2⟩
         ·by_cases hk:k=z.2.num
          ·exact .inr hk
          ·refine .inl ⟨h1,.inr ⟨h2,λh=>?_⟩⟩;rcases (TW.gU Tz mz).mp h with h|h
           ·exact hk h
           ·exact h3 h
       ·show lD (nds zs) z.2.par<lD (nds zs) z.2.num;rw[iF Tz hq'',iF Tz hq',e2];simp
    ·rintro σ H1 Q1 Q2 mm ⟨v,e,h2,b,e3,q⟩;refine⟨v,e,h2,b,e3,?_⟩;cases b with
     |false=>exact mm _ _ q
     |true =>
      obtain⟨v1,f1,v2,f2,a',o',e4,g',b',e5,q'⟩:=q;exact⟨v1,f1,v2,f2,a',o',e4,g',b',e5,mm _ _ q'⟩
   ·obtain⟨x4,x5,ks,rfl,hks,_,_,kiff,kp⟩:=h;refine⟨_,rfl,q e ks _ (λb u h=>?_) hks λk=>?_⟩
    ·have h2:=s2 _ _ (s1 _ _ h)
     by_cases hb:b=e
     ·have hn:=s1 _ _ h;rw[hb,he]at hn;cases hn
     ·exact kp _ _ hb (s3 _ _ h2)
    ·rw[kiff,length_map,take_length];constructor
     ·rintro⟨h1,x,hx,hxu⟩;obtain⟨z,hz,e1,hun'⟩:=sin x hx;exact⟨h1,z.2,aA hz,by rw[e1];exact hun',by rw[e1];exact hxu⟩
     ·rintro⟨h1,m,hm,hmu,hu⟩;obtain⟨z,hz,rfl⟩:=bj hm;refine⟨h1,z.2.num,?_,hu⟩;unfold eD;exact mem_map.mpr ⟨z,mem_filter.mpr ⟨hz,cU.mpr hmu⟩,rfl⟩
end
end TK
namespace L2
open PySem PySem.Spec PyProof.Rows
section
variable{X:Cx}{CX:CXT}{k:Nat}{f C:Addr}{fd:FuncData}{ps:List Str}{sp:Sp}{dvs:List V}{ds:List Value}{E:XK}{x m:Str}{p pos apos:Pos}{e o:Expr}{es:List Expr}{ta:TE}{t:TA}
abbrev Cx.hnd(X:Cx)(pl:List (Addr×Obj))(v:Option Value):Cx:={X with pn:=pl,xe:=λ_ _=>False,A:=X.A.mark v,calm:=false}
theorem Inv.hnd{pins:List (Addr×Obj)}{σ:St}{H:Hp}{s:Shared}{v:Option Value}(I:Inv X pins σ H s):Inv (X.hnd (X.pn++pins) v) [] σ H s :=
 ⟨⟨I.ok.mod,I.ok.kind,I.ok.glob,I.ok.blt,I.ok.above,I.ok.inj,I.ok.has,I.ok.cab,λh=>absurd (show false=true from h) (by decide),I.ok.frames,I.ok.stk,I.ok.exf,I.ok.bs,I.ok.bsz,I.ok.noex,I.ok.exfs,I.ok.funs,I.ok.frf⟩,I.os,I.bare,I.base,I.loc,I.cell,I.free,I.freeC,λp hp=>I.pin p (by simpa using hp),I.hok,I.len⟩
theorem Inv.unhnd{pins pins':List (Addr×Obj)}{σ σ0:St}{H H0:Hp}{s s0:Shared}{v:Option Value}(I:Inv (X.hnd (X.pn++pins) v) pins' σ H s)(I0:Inv X pins σ0 H0 s0):Inv X pins σ H s :=
 ⟨I0.ok,I.os,I.bare,I.base,I.loc,I.cell,I.free,I.freeC,λp hp=>I.pin p (mem_append_left _ hp),I.hok,I.len⟩
def uk(D:Ends)(n:Nat)(T:Addr)(K:PySem.W.Frag)(th:TS):XK:=λcl _ H'=>∃C,cl=.ref C∧subIn K (.ref C) (.ref T)=some true∧∀ea (σ':St),σ'.length=n→H' ea=none→th D σ' (upd H' ea (.ext (XI.ue ea C)))
def wS(n:Nat)(T:Addr)(K:PySem.W.Frag)(tb:XK→TS)(th:TS):TS:=λD σ H=>tb (uk D n T K th) D σ H
theorem sY(Y:TryOk X){x:Str}{T:Addr}{body:List Stmt}{b0:Stmt}{body2:List Stmt}{tb:XK→TS}{th:TS}{px p3 p4:Pos}(he:∀pl xe E,hV (CX1 X.prog X.w) (X.within pl xe) E→PassesOwn (model X.prog X.w) X.A X.env xe→PSs (X.within pl xe) body (tb E))(hb:∀pl v,PSs (X.hnd pl v) (b0::body2) th)(hg:Gl X x)(hm:X.mg x=some (.ref T))(hT:ktsIn X.K T "BaseException"=true)(hdx:(x==("__debug__":Str))=false:=by decide):
  PS X (.Try body [.ExceptHandler (some (.Name x px)) none (b0::body2) p3] [] [] p4) (wS X.N.length T X.K tb th):=by
 intro pins s σ H D I h;refine wpAny_Try_except ?_;refine wpAny_mono (he (X.pn++pins) _ (uk D X.N.length T X.K th) ?hp PassesOwn.looking [] s σ H D (I.within _) h) (λf s1 q=>?_) (λev s1 hx=>hx)
 ·intro pins' σ H1 s0 ev s1 I0 hx;obtain⟨ea,C,H',rfl,F,⟨C',eC,hsub,hk⟩⟩:=hx;cases eC;have I1:Inv X pins σ H1 s0:=I0.without;have hk:=hk ea σ I1.len F.new;obtain⟨B,a0,fl,hB,kp,th⟩:=id F.fly;have frm:X.A.frames=some (X.env::X.outer):=by rw[I1.ok.frames,Y.stk]
  have fl':=fl;rw[show(X.within _ _).stack=X.stack from rfl,Y.stk]at fl';refine wpAny_looks_onW frm Y.fr fl' λh4 held4 hs4=>?_;refine wpAny_landsW held4 λh5 fl5 hs5=>?_;have sm5:s1.heap.UpToSlots h5:=hs4.trans hs5;have fl5':FlyingW B X.stack ea (.ref C) a0 h5:=by rw[Y.stk];exact fl5
  have J5:=I1.caught F fl hB kp th fl5' sm5;obtain⟨ob,hob,hobc⟩:=fl5.there;obtain⟨nm,q',N,bs,bm,hdct,sn,sub,ab,col,dd,k0,k1,k2,k3,k5,newId,hTo,hbase,_⟩:=PySem.W.kts_cls J5.kIn hT;obtain⟨hp1,g1,d1,t1,os1⟩:=s1;refine wpAny_handleBy_cons (codeAny_handlers_test ?_) (by intro q;cases q);refine Calls.Name_function_global J5.ok.kind hg (Calls.loadGlobal_global (by rw[J5.ok.glob];exact J5.mod.glob.keeps J5.bk) hm ?_) hdx;refine sC hTo hbase (PySem.W.looks_subIn J5.kIn hsub) hob hobc ?_;refine codeAny_handlers_suite ?_;refine lands_againW (s:=⟨h5,g1,d1,t1,os1⟩) fl5 λh6 fl6 hs6=>?_;have fl6':FlyingW B X.stack ea (.ref C) a0 h6:=by rw[Y.stk];exact fl6
  have J6:=I1.caught F fl hB kp th fl6' (sm5.trans hs6);refine wpAny_mono (hb (X.pn++pins) _ [] _ _ _ _ J6.hnd hk) (λf s3 q=>?_) (λ_ _ z=>z.elim);cases f with
  |next=>obtain⟨σ',H8,I8,q'⟩:=q;exact⟨_,_,I8.unhnd J6,q'⟩
  |brk=>obtain⟨σ',H8,I8,q'⟩:=q;exact⟨_,_,I8.unhnd J6,q'⟩
  |cont=>obtain⟨σ',H8,I8,q'⟩:=q;exact⟨_,_,I8.unhnd J6,q'⟩
  |ret v=>obtain⟨x',σ',H8,I8,r',q'⟩:=q;exact⟨x',_,_,I8.unhnd J6,r',q'⟩
 ·cases f with
  |next=>obtain⟨σ',H',I',q'⟩:=q;exact wpAny_execs_nil ⟨σ',H',I'.without,q'⟩
  |brk=>obtain⟨σ',H',I',q'⟩:=q;exact⟨σ',H',I'.without,q'⟩
  |cont=>obtain⟨σ',H',I',q'⟩:=q;exact⟨σ',H',I'.without,q'⟩
  |ret v=>obtain⟨x',σ',H',I',r',q'⟩:=q;exact⟨x',σ',H',I'.without,r',q'⟩
end
end L2
namespace TK
open PySem L2
def cY(t u:List Nd):Prop:=∀m∈t,∀n∈u,m.num=n.num→(m.st=none↔n.st=none)
def ky{α:Type}(l:List α)(p:α→Prop)(x:α):Prop:=∃a b,l=a++x::b∧(∀y∈a,¬p y)∧p x
theorem kA(o:Option Int):decide (stV o=V.non)=decide (o=none):=by cases o<;>simp[stV]
section
variable{P:Program}{w:World}{K:PySem.W.Frag}{mg:Str→Option Value}{base:Heap}
def qU(CN:Addr):Sp:=λvs H Q E=>∃t u zs us,vs=[.ref t,.ref u]∧Tre H t zs∧Tre H u us∧(∀z∈zs,-1≤z.2.num∧z.2.num≤99)∧(cY (nds zs) (nds us)→∀H',Same H H'→Q .non H')∧(¬cY (nds zs) (nds us)→∀H',Same H H'→E (.ref CN) none H')
theorem oz:FnScope ["old","new","goal","node","number"] ["old","new"] (ah dW):=fsc
theorem vO{f CN:Addr}{fd:FuncData}(F:Fun K "check_kinds" "check_kinds" dW f fd)(O:lE "NoMatch" mg base CN)(CB:Has P w K mg base 1 "by_number" ["tree"] eQ):FnOk P w K mg base (CX1 P w) 2 f fd ["old","new"] (qU CN):=by
 obtain⟨fB,fdB,GB,mB,kB,bB⟩:=CB;refine F.okX oz (λvs H Q E h=>?_) (λcdv A outer s H vs Q E hr h=>?_)
 ·obtain⟨t,u,zs,us,rfl,_⟩:=h;rfl
 ·obtain⟨t,u,zs,us,rfl,tr,ur,hb,qo,qE⟩:=h;have ul:=ur.len;have und:=aI ur.tr;refine⟨_,ae (ap (i:=2) oz.nd rfl (Or.inl rfl) (ak GB hr rfl mB kB bB .nil aL (aa (pv 1) ai)))
   (aj (dt (vp ca) rfl (cC (pv 0)) (aE (i:=3) oz.nd rfl (Or.inl rfl))
    (ae (ap (i:=4) oz.nd rfl (Or.inl rfl) (av ao (pv 3) ag (λ_ _=>rfl)))
    (aj (be (PW.pt (pw_and (bT (dz (aK hr) (pv 4) (pv 2))) (pw_and1 (am dy (dL eE (av ao (pv 3) ag (λ_ _=>rfl)) cq (aw _)) (dL eE (av ao (aU (aK hr) (pv 2) (pv 4) (λ_ _=>rfl)) ag (λ_ _=>rfl)) cq (aw _)) (aw _)))))
     (aj (dA ca O hr.hd rfl (eI (cR (c:=100) (by decide +kernel) (sR (pv 4) (cR (c:=100) (by decide +kernel) gb))) (by decide)))) aH))))),?_⟩
  refine⟨_,rfl,u,us,rfl,ur.tup,ur.nod,by omega,und,λd H1 s1 nd1=>?_⟩;have tr1:=tr.same s1;have ur1:=ur.same s1;refine⟨_,rfl,t,rfl,⟨_,SqT.of tr1.tup⟩,gB (xs:=aY zs) (λi σ H'=>(∃x3 x4,σ=[some (.ref t),some (.ref u),some (.ref d),x3,x4])∧H'=H1∧∀z∈zs.take i,∀n∈nds us,z.2.num=n.num→(z.2.st=none↔n.st=none)) ⟨⟨_,_,rfl⟩,rfl,by simp⟩ (λi σ H' _ h=>by rw[h.2.1];exact SqT.of tr1.tup) (λi x σ H' hx h=>?_) (λσ H' h=>?_)⟩
  ·obtain⟨⟨x3,x4,rfl⟩,rfl,hi⟩:=h;obtain⟨z,gz,rfl⟩:=cK hx;have mz:=mem_of_getElem? gz;have az:SqT K H' z.1 (vals z.2):=SqT.of (tr1.nod z mz);have et:zs.take (i+1)=zs.take i++[z]:=bH gz;have step:(∀n∈nds us,z.2.num=n.num→(z.2.st=none↔n.st=none))→∀y∈zs.take (i+1),∀n∈nds us,y.2.num=n.num→(y.2.st=none↔n.st=none):=λh y hy=>by
    rw[et]at hy;rcases mem_append.mp hy with hy|hy
    ·exact hi y hy
    ·have e:y=z:=mem_singleton.mp hy;subst e;exact h
   refine⟨_,rfl,z.1,_,_,_,rfl,rfl,az,at0 z.2,?_⟩;obtain⟨ov,g,e1⟩:=nd1.is und z.2.num;refine⟨_,rfl,_,rfl,d,_,rfl,g,_,rfl,?_⟩;rw[e1];cases hb':inU us z.2.num with
   |false =>
    refine aJ (aJ ⟨⟨_,_,rfl⟩,rfl,step λn hn e=>?_⟩);have:inU us z.2.num=true:=cU.mpr ⟨n,hn,e.symm⟩;rw[hb']at this;cases this
   |true =>
    obtain⟨n,hn,en⟩:=cU.mp hb';obtain⟨y,hy,rfl⟩:=bj hn;have gy:=nd1.get und hy;rw[en]at gy;refine aT ⟨_,rfl,z.1,_,_,_,rfl,rfl,az,at3 z.2,rfl,_,rfl,_,rfl,d,_,rfl,gy,y.1,_,_,_,rfl,rfl,SqT.of (ur1.nod y hy),at3 y.2,rfl,rfl,_,rfl,?_⟩;rw[kA,kA]
    by_cases hk:(z.2.st=none↔y.2.st=none)
    ·have:decide (V.bl (decide (z.2.st=none))=V.bl (decide (y.2.st=none)))=true:=by
      rw[decide_eq_true_iff]
      congr 1
      exact decide_eq_decide.mpr hk
     rw[this];refine aJ ⟨⟨_,_,rfl⟩,rfl,step λn hn e=>?_⟩;have:n=y.2:=ur.tr.inj hn (aA hy) (e.symm.trans en.symm);subst this;exact hk
    ·have:decide (V.bl (decide (z.2.st=none))=V.bl (decide (y.2.st=none)))=false:=by
      rw[decide_eq_false_iff_not];intro h;injection h with h
      exact hk (decide_eq_decide.mp h)
     rw[this];refine aT ⟨_,rfl,_,rfl,(hb z mz).1,(hb z mz).2,λy'=>⟨aq (show 1≤1000 by decide),qE (λh=>hk (h _ (aA mz) _ (aA hy) en.symm)) H' s1⟩⟩
  ·obtain⟨⟨x3,x4,rfl⟩,rfl,hi⟩:=h;refine qo (λm hm n hn e=>?_) _ s1;obtain⟨z,hz,rfl⟩:=bj hm;exact hi z (by rw[bQ,take_length];exact hz) n hn e
def qV:Sp:=λvs H Q _=>∃t d zs us,vs=[.ref t,.ref d]∧Tre H t zs∧gg H d us∧((nds us).map (·.num)).Nodup ∧
 (∀x,ky (nds zs) (TW.dS (nds zs) (nds us)) x→∀r H',Same H H'→H' r=some (.tup (bf (.drop x.num)))→Q (.ref r) H')∧((∀x∈nds zs,¬TW.dS (nds zs) (nds us) x)→∀H',Same H H'→Q .non H')
theorem qW:FnScope ["now","goal","needed","node"] ["now","goal"] (ah fe):=fsc
theorem vP{f:Addr}{fd:FuncData}(F:Fun K "next_drop" "next_drop" fe f fd)(T:Txt mg)(CN:Has P w K mg base 2 "nodes_needed" ["now","goal"] qT):FnOk P w K mg base CX0 3 f fd ["now","goal"] qV:=by
 obtain⟨fN,fdN,GN,mN,kN,bN⟩:=CN;obtain⟨tt,hT⟩:=T.top;refine F.ok qW (λvs H Q E h=>?_) (λcdv A outer s H vs Q E hr h=>?_)
 ·obtain⟨t,d,zs,us,rfl,_⟩:=h;rfl
 ·obtain⟨t,d,zs,us,rfl,tr,hd,hun,q1,q2⟩:=h;refine⟨_,ae (ap (i:=2) qW.nd rfl (Or.inl rfl) (ak GN hr rfl mN kN bN .nil aL (aa (pv 0) (aa (pv 1) ai))))
   (ae (dt PassesOwn.never rfl (cC (pv 0)) (aE (i:=3) qW.nd rfl (Or.inl rfl))
    (aj (be (PW.pt (pw_and (bT (cn (aK hr) (av ao (pv 3) ag (λ_ _=>rfl)) (pv 2))) (pw_and1 (PW.pt (pw_or (am cx (av ao (pv 3) ag (λ_ _=>rfl)) (dg (v:=.int 0) rfl hT ⟨_,rfl⟩) (aw _)) (pw_or1 (bT (dz (aK hr) (av ao (pv 3) ag (λ_ _=>rfl)) (pv 1)))))))))
     (aj (aD (bq (aa aM (aa (av ao (pv 3) ag (λ_ _=>rfl)) ai))))) aH)))
   (aj (aD cq))),?_⟩
  refine⟨_,rfl,_,rfl,t,d,zs,us,rfl,tr,hd,hun,λe ks H1 s1 he hk=>?_⟩;have tr1:=tr.same s1;have hd1:=hd.same s1;refine⟨_,rfl,t,rfl,⟨_,SqT.of tr1.tup⟩,gB (xs:=aY zs) (λi σ H'=>(∃x3,σ=[some (.ref t),some (.ref d),some (.ref e),x3])∧H'=H1∧∀x∈(nds zs).take i,¬TW.dS (nds zs) (nds us) x) ⟨⟨_,rfl⟩,rfl,by simp⟩ (λi σ H' _ h=>by rw[h.2.1];exact SqT.of tr1.tup) (λi x σ H' hx h=>?_) (λσ H' h=>?_)⟩
  ·obtain⟨⟨x3,rfl⟩,rfl,hi⟩:=h;obtain⟨z,gz,rfl⟩:=cK hx;have mz:=mem_of_getElem? gz;have az:SqT K H' z.1 (vals z.2):=SqT.of (tr1.nod z mz);have gz':(nds zs)[i]?=some z.2:=by unfold nds;rw[getElem?_map,gz];rfl
   have et:(nds zs).take (i+1)=(nds zs).take i++[z.2]:=bH gz';have step:¬TW.dS (nds zs) (nds us) z.2→∀y∈(nds zs).take (i+1),¬TW.dS (nds zs) (nds us) y:=λh y hy=>by
    rw[et]at hy;rcases mem_append.mp hy with hy|hy
    ·exact hi y hy
    ·have e':y=z.2:=mem_singleton.mp hy;rw[e'];exact h
   have won:TW.dS (nds zs) (nds us) z.2→ky (nds zs) (TW.dS (nds zs) (nds us)) z.2:=λh=>by
    refine⟨(nds zs).take i,(nds zs).drop (i+1),?_,hi,h⟩;have:=List.take_append_drop (i+1) (nds zs);rw[et,append_assoc]at this;exact this.symm
   refine⟨_,rfl,z.1,_,_,_,rfl,rfl,az,at0 z.2,_,rfl,e,_,rfl,cW.k (k:=Sum.inl z.2.num) he,_,rfl,?_⟩;rw[jj]
   by_cases hin:z.2.num∈ks
   ·rw[decide_eq_true hin];exact aJ (aJ ⟨⟨_,rfl⟩,rfl,step λh=>h.1 ((hk _).mp hin)⟩)
   ·rw[decide_eq_false hin];have hnn:¬TW.sX (nds zs) (nds us) z.2.num:=λh=>hin ((hk _).mpr h);refine aT ⟨_,rfl,z.1,_,_,_,rfl,rfl,az,at1 z.2,rfl,_,rfl,?_⟩
    by_cases hp:z.2.par=0
    ·rw[show decide (V.int z.2.par=V.int 0)=true by simp[hp]];refine aT (aT ⟨_,rfl,z.1,_,_,_,rfl,rfl,az,at0 z.2,le2,λr hr'=>?_⟩);exact q1 z.2 (won ⟨hnn,.inl hp⟩) r _ (s1.trans (af hr')) ac
    ·rw[show decide (V.int z.2.par=V.int 0)=false by simp[hp]];obtain⟨ov,g,e1⟩:=hd1.is hun z.2.par;refine aJ ⟨_,rfl,z.1,_,_,_,rfl,rfl,az,at1 z.2,_,rfl,d,_,rfl,g,_,rfl,?_⟩;rw[e1];cases hb':inU us z.2.par with
     |true =>
      refine aT ⟨_,rfl,z.1,_,_,_,rfl,rfl,az,at0 z.2,le2,λr hr'=>?_⟩;exact q1 z.2 (won ⟨hnn,.inr (cU.mp hb')⟩) r _ (s1.trans (af hr')) ac
     |false =>
      refine aJ ⟨⟨_,rfl⟩,rfl,step λh=>?_⟩;rcases h.2 with h|h
      ·exact hp h
      ·rw[cU.mpr h]at hb';cases hb'
  ·obtain⟨⟨x3,rfl⟩,rfl,hi⟩:=h;refine q2 (λx hx=>hi x ?_) _ s1;rw[bQ,show zs.length=(nds zs).length by unfold nds;rw[length_map],take_length];exact hx
structure TreR(mg:Str→Option Value)(K:PySem.W.Frag)(cls:TW.Wd→Addr)(D:Addr):Prop where
 tre:mg "TreeError"=some (.ref D)
 base:ktsIn K D "BaseException"=true
 sub:∀wd,subIn K (.ref (cls wd)) (.ref D)=some true
def qX:Sp:=λvs H Q _=>∃t d zs dd,vs=[.ref t,.ref d]∧Tre H t zs∧zs.length≤29∧H d=some (.tup (bf dd))∧cB dd∧(∀us,TW.Told (nds zs) dd (.inr us)→∀H',Same H H'→Q (.bl false) H')∧∀wd,TW.Told (nds zs) dd (.inl wd)→∀H',Same H H'→Q (.bl true) H'
theorem wT:FnScope ["tree","deed"] ["tree","deed"] (ah eK):=fsc
theorem vQ{f D:Addr}{fd:FuncData}{cls:TW.Wd→Addr}(F:Fun K "is_refused" "is_refused" eK f fd)(L:TreR mg K cls D)(CD:dG P w K mg base 4 "done" ["tree","deed"] (kx cls)):FnOk P w K mg base CX0 5 f fd ["tree","deed"] qX:=by
 obtain⟨fD,fdD,GD,mD,kD,bD⟩:=CD;refine F.ok wT (λvs H Q E h=>?_) (λcdv A outer s H vs Q E hr h=>?_)
 ·obtain⟨t,d,zs,dd,rfl,_⟩:=h;rfl
 ·obtain⟨t,d,zs,dd,rfl,tr,hz,hd,hok,q1,q2⟩:=h;refine⟨_,ae (sY (T:=D) ⟨λ_ _ h=>h,rfl,rfl⟩ (λpl xe E hx _=>aj (bY (ak GD hr rfl mD kD bD .nil hx (aa (pv 0) (aa (pv 1) ai))))) (λpl v=>aj (aD io)) rfl L.tre L.base) (aj (aD io)),?_⟩;refine⟨_,rfl,_,rfl,t,d,dd,zs,rfl,tr,hz,hd,hok,⟨λus t' H1 s1 ht' hA told=>?_,λwd H1 s1 told=>⟨_,rfl,L.sub wd,λea σ' hσ hea=>?_⟩⟩⟩
  ·exact q1 _ told H1 s1
  ·exact q2 wd told _ (s1.trans (af hea))
end
abbrev ZD:=List (Addr×TW.Deed Str)
abbrev ba(ds:ZD):List V:=ds.map λx=>V.ref x.1
def gp(H:Hp)(ds:ZD):Prop:=∀x∈ds,H x.1=some (.tup (bf x.2))
theorem gp.same{H H':Hp}{ds:ZD}(h:gp H ds)(s:Same H H'):gp H' ds:=λx hx=>s _ _ (h x hx)
theorem lJ{t:List Nd}:∀{u:List Nd}{ds:List (TW.Deed Str)},TW.Plcs t u ds→ds.length≤u.length:=λh=>by
 induction h with
 |nil=>exact le_refl _
 |skip _ _ ih=>rw[length_append];omega
 |take _ _ ih=>rw[length_append,length_append];simp;omega
section
variable{P:Program}{w:World}{K:PySem.W.Frag}{mg:Str→Option Value}{base:Heap}
def qY:Sp:=λvs H Q _=>∃t u zs us,vs=[.ref t,.ref u]∧Tre H t zs∧Tre H u us∧∀l ds H',Same H H'→H' l=some (.lst (ba ds))→gp H' ds→TW.Plcs (nds zs) (nds us) (ds.map (·.2))→Q (.ref l) H'
theorem lK:FnScope ["now","new","nodes","deeds","node","number"] ["now","new"] (ah gh):=fsc
theorem vR{f:Addr}{fd:FuncData}(F:Fun K "placings" "placings" gh f fd)(CB:Has P w K mg base 1 "by_number" ["tree"] eQ):FnOk P w K mg base CX0 2 f fd ["now","new"] qY:=by
 obtain⟨fB,fdB,GB,mB,kB,bB⟩:=CB;refine F.ok lK (λvs H Q E h=>?_) (λcdv A outer s H vs Q E hr h=>?_)
 ·obtain⟨t,u,zs,us,rfl,_⟩:=h;rfl
 ·obtain⟨t,u,zs,us,rfl,tr,ur,q⟩:=h;have hl:=tr.len;have ul:=ur.len;have hnd:=aI tr.tr;refine⟨_,ae (ap (i:=2) lK.nd rfl (Or.inl rfl) (ak GB hr rfl mB kB bB .nil aL (aa (pv 0) ai)))
   (ae (ap (i:=3) lK.nd rfl (Or.inl rfl) (bX ai))
   (ae (dt PassesOwn.never rfl (cC (pv 1)) (aE (i:=4) lK.nd rfl (Or.inl rfl))
    (ae (ap (i:=5) lK.nd rfl (Or.inl rfl) (av ao (pv 4) ag (λ_ _=>rfl)))
    (aj (be (bT (cn (aK hr) (pv 5) (pv 2)))
     (aj (bY (fH plainAttrs_list PySem.F.slot_list_append PySem.F.type_list_append bv (pv 3) (aa (aF dN (bq (aa aM ai)) (pv 4)) ai))))
     (aj (be (am (nk (aK hr)) (bJ cI (aU (aK hr) (pv 2) (pv 5) (λ_ _=>rfl)) (bt ag) (bt ag)) (bJ cI (pv 4) (bt ag) (bt ag)) (aw _))
      (aj (bY (fH plainAttrs_list PySem.F.slot_list_append PySem.F.type_list_append bv (pv 3) (aa (aF dN (bq (aa aM ai)) (bJ cI (pv 4) dh (bt ag))) ai)))) aH))))))
   (aj (aD (pv 3))))),?_⟩
  refine⟨_,rfl,t,zs,rfl,tr.tup,tr.nod,by omega,hnd,λn H1 s1 nd1=>⟨zero_le _,λl hl0=>?_⟩⟩;have s2:=af (o:=.lst []) hl0;have gl:upd H1 l (.lst []) l=some (.lst (ba [])):=ac;have tr1:=tr.same s1;have ur1:=ur.same s1;refine⟨_,rfl,u,rfl,⟨_,SqT.of (s2 _ _ ur1.tup)⟩,gB (xs:=aY us) (λi σ H'=>∃x4 x5,∃ds:ZD,σ=[some (.ref t),some (.ref u),some (.ref n),some (.ref l),x4,x5]∧Same H1 H'∧H' l=some (.lst (ba ds))∧gp H' ds∧(∀x∈ds,x.1≠l)∧TW.Plcs (nds zs) ((nds us).take i) (ds.map (·.2)))
   ⟨_,_,[],rfl,s2,gl,(λx h=>nomatch h),(λx h=>nomatch h),by rw[List.take_zero];exact .nil⟩ (λi σ H' _ h=>?_) (λi x σ H' hx h=>?_) (λσ H' h=>?_)⟩
  ·obtain⟨x4,x5,ds,rfl,s3,_⟩:=h;exact SqT.of (s3 _ _ ur1.tup)
  ·obtain⟨x4,x5,ds,rfl,s3,hL,hD,hne,hP⟩:=h;obtain⟨y,gy,rfl⟩:=cK hx;have my:=mem_of_getElem? gy;have gy':(nds us)[i]?=some y.2:=by unfold nds;rw[getElem?_map,gy];rfl
   have et:(nds us).take (i+1)=(nds us).take i++[y.2]:=bH gy';have ay:=s3 _ _ (ur1.nod y my);have hdl:ds.length≤30:=by
    have h1:=lJ hP;rw[length_map,length_take]at h1;have h2:(nds us).length=us.length:=by unfold nds;rw[length_map]
    omega
   have put:∀(H3:Hp)(d:TW.Deed Str)(c:Addr),Same H' H3→H3 c=some (.tup (bf d))→TW.Plc (nds zs) y.2 (some d)→∃x4 x5,∃ds':ZD,[some (V.ref t),some (.ref u),some (.ref n),some (.ref l),some (.ref y.1),some (.int y.2.num)]=[some (.ref t),some (.ref u),some (.ref n),some (.ref l),x4,x5]∧Same H1 (upd H3 l (.lst (ba ds++[.ref c])))∧(upd H3 l (.lst (ba ds++[.ref c]))) l=some (.lst (ba ds'))∧gp (upd H3 l (.lst (ba ds++[.ref c]))) ds'∧(∀x∈ds',x.1≠l)∧TW.Plcs (nds zs) ((nds us).take (i+1)) (ds'.map (·.2)):=λH3 d c s4 hc hp=>by
    have hcl:c≠l:=λz=>by rw[z,s4 _ _ hL]at hc;cases hc
    refine⟨_,_,ds++[(c,d)],rfl,λb o e=>?_,by rw[ac];unfold ba;rw[map_append];rfl,λx hx=>?_,λx hx=>?_,by rw[et,map_append];exact .take hP hp⟩
    ·rw[al (λz=>by rw[z,hl0]at e;cases e)];exact s4 _ _ (s3 _ _ e)
    ·rcases mem_append.mp hx with hx|hx
     ·rw[al (hne x hx)];exact s4 _ _ (hD x hx)
     ·have:x=(c,d):=mem_singleton.mp hx;rw[this,al hcl];exact hc
    ·rcases mem_append.mp hx with hx|hx
     ·exact hne x hx
     ·have:x=(c,d):=mem_singleton.mp hx;rw[this];exact hcl
   refine⟨_,rfl,y.1,_,_,_,rfl,rfl,SqT.of ay,at0 y.2,?_⟩;obtain⟨ov,g,e1⟩:=(nd1.same s3).is hnd y.2.num;refine⟨_,rfl,_,rfl,n,_,rfl,g,_,rfl,?_⟩;rw[e1];cases hb':inU zs y.2.num with
   |false =>
    have hnew:¬TW.ax (nds zs) y.2.num:=λh=>by rw[cU.mpr h]at hb';cases hb'
    refine aT ⟨_,rfl,.inl ⟨rfl,_,SqL.of hL⟩,(show 1≤sizeLine from aq (by decide)),λc1 h1=>?_⟩;have s4:=af (o:=.tup [.str "make"]) h1;refine⟨_,rfl,c1,y.1,_,_,rfl,rfl,SqT.of ac,SqT.of (s4 _ _ ay),by simp,(show 5≤sizeLine from aq (by decide)),λh=>absurd h (by unfold vals;simp),λ_ c hc=>?_⟩;have s5:=s4.trans (af (o:=.tup (bf (.make y.2.num y.2.par y.2.nm y.2.st))) hc);refine⟨l,_,_,rfl,rfl,s5 _ _ hL,aG (by unfold ba;rw[length_map];omega),?_⟩;exact put _ (.make y.2.num y.2.par y.2.nm y.2.st) c s5 ac (.new hnew)
   |true =>
    obtain⟨m,hm,em⟩:=cU.mp hb';obtain⟨z,hz,rfl⟩:=bj hm;have gz:=(nd1.same s3).get hnd hz;rw[em]at gz;have az:=s3 _ _ (tr1.nod z hz);have ecut:∀n:Nd,dU (vals n) (some 1) (some 3)=[.int n.par,.str n.nm]:=λn=>rfl;have e3:∀n:Nd,dU (vals n) none (some 3)=[.int n.num,.int n.par,.str n.nm]:=λn=>rfl;refine aJ ⟨_,rfl,_,rfl,n,_,rfl,gz,_,rfl,_,rfl,z.1,_,rfl,SqT.of az,(by intro h;exact absurd h.1 (show ¬HT.sIx 4 0 (some 1)=0 by decide)),λc1 h1=>?_⟩;rw[ecut];have s4:=af (o:=.tup [.int z.2.par,.str z.2.nm]) h1;have k1:upd H' c1 (.tup [.int z.2.par,.str z.2.nm]) c1=some (.tup [.int z.2.par,.str z.2.nm]):=ac;generalize upd H' c1 (.tup [.int z.2.par,.str z.2.nm])=H4 at s4 k1⊢;refine⟨_,rfl,_,rfl,_,rfl,y.1,_,rfl,SqT.of (s4 _ _ ay),(by intro h;exact absurd h.1 (show ¬HT.sIx 4 0 (some 1)=0 by decide)),λc2 h2=>?_⟩;rw[ecut];have s5:=s4.trans (af (o:=.tup [.int y.2.par,.str y.2.nm]) h2);have k2:upd H4 c2 (.tup [.int y.2.par,.str y.2.nm]) c2=some (.tup [.int y.2.par,.str y.2.nm]):=ac;have k1':=br (o:=.tup [.int y.2.par,.str y.2.nm]) h2 k1;generalize upd H4 c2 (.tup [.int y.2.par,.str y.2.nm])=H5 at s5 k1' k2⊢;have f2:∀(a:Int)(b:Str),∀v∈[V.int a,.str b],jf v=true:=λa b v hv=>by
     rcases mem_cons.mp hv with e|hv
     ·rw[e];rfl
     ·rw[mem_singleton.mp hv];rfl
    refine⟨some [.int z.2.par,.str z.2.nm],some [.int y.2.par,.str y.2.nm],.inr ⟨c1,_,rfl,k1',rfl,f2 _ _⟩,.inr ⟨c2,_,rfl,k2,rfl,f2 _ _⟩,_,rfl,?_⟩
    by_cases hsame:z.2.par=y.2.par∧z.2.nm=y.2.nm
    ·rw[show decide ((some [V.int z.2.par,.str z.2.nm]:Option (List V))=some [.int y.2.par,.str y.2.nm])=true by rw[decide_eq_true_iff,hsame.1,hsame.2]];refine aJ ⟨_,_,ds,rfl,s3.trans s5,s5 _ _ hL,hD.same s5,hne,?_⟩;rw[et];exact .skip hP (.no (aA hz) em hsame.1 hsame.2)
    ·rw[show decide ((some [V.int z.2.par,.str z.2.nm]:Option (List V))=some [.int y.2.par,.str y.2.nm])=false by
      rw[decide_eq_false_iff_not];intro h;injection h with h
      injection h with h1 h2
      injection h1 with h1
      injection h2 with h2
      injection h2 with h2
      exact hsame ⟨h1,h2⟩]
     refine aT ⟨_,rfl,.inl ⟨rfl,_,SqL.of (s5 _ _ hL)⟩,(show 1≤sizeLine from aq (by decide)),λc3 h3=>?_⟩;have s6:=s5.trans (af (o:=.tup [.str "move"]) h3);have k3:upd H5 c3 (.tup [.str "move"]) c3=some (.tup [.str "move"]):=ac;generalize upd H5 c3 (.tup [.str "move"])=H6 at s6 k3⊢;refine⟨_,rfl,_,rfl,y.1,_,rfl,SqT.of (s6 _ _ ay),(by intro h;exact absurd h.2 (show ¬HT.sIx 4 4 (some 3)=4 by decide)),λc4 h4=>?_⟩;rw[e3];have s7:=s6.trans (af (o:=.tup [.int y.2.num,.int y.2.par,.str y.2.nm]) h4);refine⟨c3,c4,_,_,rfl,rfl,SqT.of (br h4 k3),SqT.of ac,by simp,(show 4≤sizeLine from aq (by decide)),λh=>absurd h (by simp),λ_ c hc=>?_⟩;have s8:=s7.trans (af (o:=.tup (bf (.move y.2.num y.2.par y.2.nm))) hc);refine⟨l,_,_,rfl,rfl,s8 _ _ hL,aG (by unfold ba;rw[length_map];omega),?_⟩;exact put _ (.move y.2.num y.2.par y.2.nm) c s8 ac (.mv (aA hz) em hsame)
  ·obtain⟨x4,x5,ds,rfl,s3,hL,hD,_,hP⟩:=h;refine⟨_,rfl,q l ds _ (s1.trans s3) hL hD ?_⟩
   rwa [bQ,show us.length=(nds us).length by unfold nds;rw[length_map],take_length]at hP
end
end TK
namespace TK
open PySem
def A26:Str:="abcdefghijklmnopqrstuvwxyz"
def ltr(i:Nat):Str:=⟨#[A26.cps.toList.getD i 0]⟩
def gW:Nat→Nat→Str
 |0,_=>""
 |_+1,0=>""
 |f+1,n+1=>gW f (n / 26)++ltr (n % 26)
def bG(n:Nat):Str:=gW 3 n
theorem nq(f:Nat):gW f 0="":=by cases f<;>rfl
theorem gX:A26.length=26:=by decide +kernel
theorem sZ{i:Nat}(h:i<26):A26.cps.toList[i]?=some (A26.cps.toList.getD i 0):=by
 have:i<A26.cps.toList.length:=by
  have e:A26.cps.toList.length=26:=by decide +kernel
  rw[e];exact h
 rw[getD_eq_getElem?_getD,getElem?_eq_getElem this];rfl
theorem jP:∀(f n:Nat),(gW f n).length≤f
 |0,_=>by show("":Str).length≤0;decide +kernel
 |f+1,0=>by
  show("":Str).length≤f+1;have:("":Str).length=0:=by decide +kernel
  omega
 |f+1,n+1=>by
  have h1:=jP f (n / 26);have h2:(gW f (n / 26)++ltr (n % 26)).length=(gW f (n / 26)).length+(ltr (n % 26)).length:=strLen_append ..;have h3:(ltr (n % 26)).length=1:=rfl;show(gW f (n / 26)++ltr (n % 26)).length≤f+1;omega
theorem pH:∀j,j<70→(bG j).length≤3:=λj _=>jP 3 j
end TK
namespace L2
open PySem PySem.Spec PyProof.Rows
section
variable{X:Cx}
def bo(zs:List (Addr×Key×V)):List (Key×V):=zs.foldl (λm z=>cg m z.2.1 z.2.2) []
theorem nr{α:Type}[DecidableEq α](m:List (α×Value))(k:α)(v:Value):(stored m k v).length≤m.length+1:=by
 unfold stored
 split
 ·rw[length_map];omega
 ·rw[length_append];exact le_refl _
theorem dX{β:Type}(k:β→Key)(v:β→Value):∀(l:List β)(m:List (Key×Value)),(l.foldl (λm z=>stored m (k z) (v z)) m).length≤m.length+l.length
 |[],m=>le_refl _
 |a::l,m=>by
  rw[foldl_cons];have h1:=dX k v l (stored m (k a) (v a));have h2:=nr m (k a) (v a);rw[length_cons];omega
theorem jQ{f:Addr×Key×V→Value×Value}:∀{ys:List (Addr×Key×V)}{m:List (Key×V)}{n:List (Key×Value)},KV m n→(∀z∈ys,aS z.2.2 (f z).2)→KV (ys.foldl (λm z=>cg m z.2.1 z.2.2) m) (ys.foldl (λm z=>stored m z.2.1 (f z).2) n)
 |[],m,n,r,_=>r
 |z::ys,m,n,r,h=>by
  rw[foldl_cons,foldl_cons];exact jQ (r.put z.2.1 (h z mem_cons_self)) λy hy=>h y (mem_cons_of_mem _ hy)
theorem jk(hc:X.calm=true):du X (.type "dict") (λxs H Q=>∃l,∃zs:List (Addr×Key×V),xs=[.ref l]∧H l=some (.lst ((zs.map (·.1)).map V.ref))∧(∀z∈zs,H z.1=some (.tup [kV z.2.1,z.2.2]))∧zs.length≤900∧∀d,H d=none→Q (.ref d) (upd H d (.dK (bo zs)))):=by
 intro pins s σ H xs us Q I r h;obtain⟨l,zs,rfl,hl,hk,hz,q⟩:=h;obtain⟨u,rfl,ru⟩:=ip r;cases ru;obtain⟨_,its,nl,rv,ho⟩:=I.hok l _ hl;have e:=dk rv;subst e;obtain⟨f,hf⟩:=lz I (λz=>kV z.2.1) hk;have hsz:(((zs.map (·.1)).map Value.ref).toArray).size=zs.length:=by simp
 refine DL.eW (s:=s) (I.ok.hd hc) ho (λi=>(zs.getD i (0,.inl 0,.non)).1) (λi=>(f (zs.getD i (0,.inl 0,.non))).1) (λi=>(f (zs.getD i (0,.inl 0,.non))).2) (λi v hv=>jG hv) (λi hi=>?_)
  (λi h'=>h'.DictOf (bb X.prog X.w) s.heap.objs.size ((zs.take i).foldl (λm z=>stored m z.2.1 (f z).2) [])) (λh' hg _=>?_) (λi g g' hd hk=>?_) (λi s' E Q hi hd hq=>?_) λh' tk hd hkeep=>?_
 ·rw[hsz]at hi;exact(hf _ (dB hi).1).2.2
 ·exact⟨_,#[],0,hg,⟨rfl,rfl,rfl⟩,rfl,λ_ he=>by simp at he,Pairs.nil,nodup_nil⟩
 ·obtain⟨o,es,ep,ho,r⟩:=hd;exact⟨o,es,ep,hk _ o (le_refl _) ho,r⟩
 ·rw[hsz]at hi;obtain⟨hm,hg⟩:=dB (d:=((0,.inl 0,.non):Addr×Key×V)) hi;have hb:=dX (λz:Addr×Key×V=>z.2.1) (λz=>(f z).2) (zs.take i) [];rw[length_take,length_nil]at hb;have hle:((zs.take i).foldl (λm z=>stored m z.2.1 (f z).2) ([]:List (Key×Value))).length≤900:=by omega
  refine wpAny_dictSet_pairs (hsz:=by have:=aG (n:=901) (by decide);omega) (k:=(zs.getD i (0,.inl 0,.non)).2.1) (fJ (hf _ hm).1) hd λh' hd' hs=>hq h' _ (le_succ _) hs ?_;rw[bH hg,List.foldl_append];exact hd'
 ·rw[hsz,take_length]at hd;have hrel:KV (bo zs) (zs.foldl (λm z=>stored m z.2.1 (f z).2) []):=jQ .nil λz hz=>(hf z hz).2.1;have hb:=dX (λz:Addr×Key×V=>z.2.1) (λz=>(f z).2) zs [];rw[length_nil]at hb;have hlen:(bo zs).length≤900:=le_trans (le_of_eq (Paired.length hrel)) (le_trans hb (by omega));exact⟨.ref s.heap.objs.size,_,I.laid (t':=tk) (o:=.dK (bo zs)) hkeep (le_refl _) (iQ (le_of_lt (aG (by omega))) (beq_eq_false_iff_ne.mpr (symm (ne_of_lt I.big))) hrel hd),rfl,q _ (I.hok.fresh (le_refl _))⟩
end
end L2
namespace TK
open PySem L2
theorem tf(x:Str):x++("":Str)=x:=by
 apply ext';show x.cps ++ #[]=x.cps;simp
theorem tm(x:Str):("":Str)++x=x:=by
 apply ext';show #[]++x.cps=x.cps;simp
section
variable{P:Program}{w:World}{K:PySem.W.Frag}{mg:Str→Option Value}{base:Heap}
def qZ:Sp:=λvs H Q _=>∃n:Nat,vs=[.int n]∧n<70∧Q (.str (bG n)) H
theorem lL:FnScope ["count","name","rest"] ["count"] (ah ig):=fsc
theorem vS{f:Addr}{fd:FuncData}(F:Fun K "name_at" "name_at" ig f fd)(T:Txt mg):FnOk P w K mg base CX0 1 f fd ["count"] qZ:=by
 obtain⟨tl,hL⟩:=T.letters;refine F.ok lL (λvs H Q E h=>?_) (λcdv A outer s H vs Q E hr h=>?_)
 ·obtain⟨n,rfl,_⟩:=h;rfl
 ·obtain⟨n,rfl,hn,q⟩:=h;refine⟨_,ae (ap (i:=1) lL.nd rfl (Or.inl rfl) aM) (ae (ap (i:=2) lL.nd rfl (Or.inl rfl) (pv 0))
   (ae (ee PassesOwn.never (am tY (pv 2) ag (aw _))
    (ae (ap (i:=1) lL.nd rfl (Or.inl rfl) (aF mq (av uS (dg (v:=.str A26) rfl hL ⟨_,rfl⟩) (aF iM (aF pX (pv 2) ag) (aW gH rfl T.len boot_len (aa (dg (v:=.str A26) rfl hL ⟨_,rfl⟩) ai))) (λ_ _=>rfl)) (pv 1)))
    (aj (ap (i:=2) lL.nd rfl (Or.inl rfl) (aF ka (aF pX (pv 2) ag) (aW gH rfl T.len boot_len (aa (dg (v:=.str A26) rfl hL ⟨_,rfl⟩) ai)))))))
   (aj (aD (pv 1))))),?_⟩
  refine⟨_,rfl,?_⟩;dsimp only[aZ,jm];refine eS (λσ H'=>∃(f r:Nat) (x:Str),σ=[some (.int n),some (.str x),some (.int r)]∧bG n=gW f r++x∧r<26 ^ f∧f≤3∧x.length≤3-f∧H'=H)
   (λσ H'=>match σ with | [_,_,some (.int k)]=>k.toNat | _=>0) ⟨3,n,"",rfl,?_,by show n<17576;omega,le_refl _,by decide +kernel,rfl⟩ (λσ H' h=>?_) ?_
  ·exact(tf _).symm
  ·obtain⟨f,r,x,rfl,e,hr',hf,hx,rfl⟩:=h;refine⟨_,rfl,_,_,rfl,rfl,_,rfl,?_⟩;cases r with
   |zero =>
    rw[show decide ((0:Int)<((0:Nat):Int))=false by decide];refine aJ ⟨_,rfl,?_⟩;rw[nq]at e;have:bG n=x:=by rw[e];exact tm _
    rw[←this];exact q
   |succ m =>
    rw[show decide ((0:Int)<((m+1:Nat):Int))=true by rw[decide_eq_true_iff];omega];obtain⟨f',rfl⟩:∃f',f=f'+1:=by
     cases f with
     |zero=>rw[Nat.pow_zero]at hr';omega
     |succ f'=>exact⟨f',rfl⟩
    have ls:A26.length≤sizeLine:=by rw[gX];exact aq (by decide)
    have e1:(((m+1:Nat):Int)-1) % (A26.length:Int)=((m % 26:Nat):Int):=by rw[gX];omega
    have e2:(((m+1:Nat):Int)-1) / (A26.length:Int)=((m / 26:Nat):Int):=by rw[gX];omega
    have p0:(0:Int)<(A26.length:Int):=by rw[gX];decide
    refine aT ⟨_,rfl,_,_,rfl,rfl,_,rfl,ls,_,_,rfl,rfl,p0,A26,((m % 26:Nat):Int),_,rfl,congrArg V.int e1,ls,dO (sZ (Nat.mod_lt _ (by decide))),_,rfl,_,_,rfl,rfl,?_,?_⟩
    ·have h1:(⟨#[A26.cps.toList.getD (m % 26) 0]⟩:Str).length=1:=rfl;rw[h1];exact aq (by omega)
    refine⟨_,rfl,_,_,rfl,rfl,_,rfl,ls,_,_,rfl,rfl,⟨p0,by rw[gX];decide⟩,?_⟩;show aZ 2 (V.int ((((m+1:Nat):Int)-1) / (A26.length:Int))) _ _ _;rw[e2];refine⟨⟨f',m / 26,_,rfl,?_,?_,by omega,?_,rfl⟩,?_⟩
    ·rw[e];show gW f' (m / 26)++ltr (m % 26)++x=_;rw[Str.append_assoc];rfl
    ·rw[Nat.pow_succ]at hr';omega
    ·have h1:((⟨#[A26.cps.toList.getD (m % 26) 0]⟩:Str)++x).length=(⟨#[A26.cps.toList.getD (m % 26) 0]⟩:Str).length+x.length:=strLen_append ..;have h2:(⟨#[A26.cps.toList.getD (m % 26) 0]⟩:Str).length=1:=rfl;omega
    ·show(((m / 26:Nat):Int)).toNat<(((m+1:Nat):Int)).toNat;omega
  ·rintro σ H1 Q1 Q2 m ⟨v,e,i,j,e1,e2,b,e3,q⟩;exact⟨v,e,i,j,e1,e2,b,e3,m _ _ q⟩
end
def cZ(u:List Nd)(k:Int):Option Int:=((u.find? λy=>decide (y.num=k)).map λy=>y.st).getD none
theorem kG{u:List Nd}(hn:(u.map (·.num)).Nodup){y:Nd}(hy:y∈u):cZ u y.num=y.st:=by
 unfold cZ
 induction u with
 |nil=>cases hy
 |cons x r ih =>
  rw[map_cons,nodup_cons]at hn;rw[find?_cons]
  by_cases e:x.num=y.num
  ·rw[decide_eq_true e];rcases mem_cons.mp hy with h|h
   ·rw[h];rfl
   ·exact absurd (mem_map.mpr ⟨y,h,e.symm⟩) hn.1
  ·rw[decide_eq_false e];rcases mem_cons.mp hy with h|h
   ·rw[h]at e;exact absurd rfl e
   ·exact ih hn.2 h
def cj(t u:List Nd):List (TW.Deed Str):=(t.filter λn=>!decide (n.st=cZ u n.num)).map λn=>.write n.num ((cZ u n.num).getD 0)
theorem rb{a b:Option Int}:decide (stV a=stV b)=decide (a=b):=by
 cases a<;>cases b<;>simp[stV]
theorem tq(a b:Option Int):uO (stV a) (stV b)=true:=by cases a<;>cases b<;>rfl
section
variable{P:Program}{w:World}{K:PySem.W.Frag}{mg:Str→Option Value}{base:Heap}
def rc:Sp:=λvs H Q _=>∃t u zs us,vs=[.ref t,.ref u]∧Tre H t zs∧Tre H u us∧(∀n∈nds zs,TW.ax (nds us) n.num)∧cY (nds zs) (nds us)∧∀l ds H',Same H H'→H' l=some (.lst (ba ds))→gp H' ds→ds.map (·.2)=cj (nds zs) (nds us)→Q (.ref l) H'
theorem um:FnScope ["now","new","goal"] ["now","new"] (ah gT):=fsc
theorem vT{f:Addr}{fd:FuncData}(F:Fun K "writes" "writes" gT f fd)(CB:Has P w K mg base 1 "by_number" ["tree"] eQ):FnOk P w K mg base CX0 2 f fd ["now","new"] rc:=by
 obtain⟨fB,fdB,GB,mB,kB,bB⟩:=CB;refine F.ok um (λvs H Q E h=>?_) (λcdv A outer s H vs Q E hr h=>?_)
 ·obtain⟨t,u,zs,us,rfl,_⟩:=h;rfl
 ·obtain⟨t,u,zs,us,rfl,tr,ur,hin,sk,q⟩:=h;have hl:=tr.len;have ul:=ur.len;have und:=aI ur.tr;refine⟨_,ae (ap (i:=2) um.nd rfl (Or.inr rfl) (ak GB hr rfl mB kB bB .nil aL (aa (pv 1) ai)))
   (aj (aD (db (N:=["node","goal"]) (cl:=[("goal",s.heap.objs.size+1)]) (k:=1) (js:=[2]) (g:=aZ 0) rfl
     (LcOk.mk' ["goal"] rfl rfl (by decide +kernel) (by decide +kernel) ?hcl rfl (by decide +kernel)) rfl ?hj (cC (pv 0)) (λs H fp=>aE (i:=0) (show(["node","goal"]:List Str).Nodup by decide +kernel) rfl (Or.inl rfl) (Or.inr rfl))
     (λs H fp=>am dy (av (r:=cG K) ao (pv 0) ag (λ_ _=>rfl)) (av (r:=cG K) ao (aU (aK hr) (pv 1) (av (r:=cG K) ao (pv 0) ag (λ_ _=>rfl)) (λ_ _=>rfl)) ag (λ_ _=>rfl)) (aw _))
     (λs H fp=>bq (aa aM (aa (av (r:=cG K) ao (pv 0) ag (λ_ _=>rfl)) (aa (av (r:=cG K) ao (aU (aK hr) (pv 1) (av (r:=cG K) ao (pv 0) ag (λ_ _=>rfl)) (λ_ _=>rfl)) ag (λ_ _=>rfl)) ai))))))),?_⟩
  case hcl =>
   intro y hy;rcases mem_cons.mp hy with e|hy
   ·rw[e];rfl
   ·cases hy
  case hj =>
   intro i j x h1 h2
   match i,h1,h2 with
   |0,h1,h2 =>
    cases h1;cases h2;exact⟨rfl,Or.inr (Or.inl rfl),(show((ah gT).names.lookup ("goal":Str)≠some NameKind.local)by decide +kernel),by first|exact Or.inl rfl|exact Or.inr rfl⟩
   |i+1,h1,h2=>simp at h1
  refine⟨_,rfl,u,us,rfl,ur.tup,ur.nod,by omega,und,λd H1 s1 nd1=>?_⟩;have tr1:=tr.same s1;have ur1:=ur.same s1;have goal:∀z∈zs,∃y∈us,y.2.num=z.2.num∧cZ (nds us) z.2.num=y.2.st:=λz hz=>by
   obtain⟨m,hm,e⟩:=hin z.2 (aA hz);obtain⟨y,hy,rfl⟩:=bj hm;exact⟨y,hy,e,by rw[←e];exact kG und hm⟩
  refine⟨_,rfl,t,rfl,⟨_,SqT.of tr1.tup⟩,λp hp=>?_⟩;refine ci (fr:=[some (.ref d)]) zs (λz=>V.ref z.1) (by omega) hp (dQ (by rw[bS];exact SqT.of tr1.tup)) rfl (λz=>!decide (z.2.st=cZ (nds us) z.2.num)) (λz y H'=>∃q,y=.ref q∧q≠p∧H' q=some (.tup (bf (.write z.2.num ((cZ (nds us) z.2.num).getD 0))))) (λz y H H' ⟨q,e,ne,h⟩ ex=>⟨q,e,ne,ex q _ ne h⟩) (λz H' k mz s2 _ hk=>?_) (λz H' k mz hg s2 hpl hk=>?_) (λys H2 s2 hp2 hys=>?_)
  ·obtain⟨y,hy,ey,es⟩:=goal z mz;have az:SqT K H' z.1 (vals z.2):=SqT.of (s2 _ _ (tr1.nod z mz));have gy:=(nd1.same s2).get und hy;rw[ey]at gy;refine⟨_,rfl,z.1,_,_,_,rfl,rfl,az,at3 z.2,_,rfl,_,rfl,z.1,_,_,_,rfl,rfl,az,at0 z.2,d,_,rfl,gy,y.1,_,_,_,rfl,rfl,SqT.of (s2 _ _ (ur1.nod y hy)),at3 y.2,tq _ _,_,rfl,?_⟩;rw[rb,←es];exact hk H' (Same.refl _)
  ·obtain⟨y,hy,ey,es⟩:=goal z mz;have az:SqT K H' z.1 (vals z.2):=SqT.of (s2 _ _ (tr1.nod z mz));have gy:=(nd1.same s2).get und hy;rw[ey]at gy;refine⟨_,rfl,z.1,_,_,_,rfl,rfl,az,at0 z.2,_,rfl,_,rfl,z.1,_,_,_,rfl,rfl,az,at0 z.2,d,_,rfl,gy,y.1,_,_,_,rfl,rfl,SqT.of (s2 _ _ (ur1.nod y hy)),at3 y.2,(show 3≤sizeLine from aq (by decide)),λq hq=>?_⟩;refine hk _ _ (af hq) ⟨q,rfl,dC hpl hq,?_⟩;rw[ac];have:stV y.2.st=.int ((cZ (nds us) z.2.num).getD 0):=by
    rw[es];cases hs:y.2.st with
    |some i=>rfl
    |none =>
     exfalso
     have h1:=(sk _ (aA mz) _ (aA hy) ey.symm).mpr hs;rw[es,hs,h1]at hg;cases hg
   rw[this];rfl
  ·obtain⟨bs,e1,e2,e3⟩:=cE (val:=V.ref) (S:=λ(z:Addr×Nd) (q:Addr)=>H2 q=some (.tup (bf (.write z.2.num ((cZ (nds us) z.2.num).getD 0))))) hys (λz y _ ⟨q,e,_,h⟩=>⟨q,e,h⟩);refine q p (bs.map λx=>(x.2,.write x.1.2.num ((cZ (nds us) x.1.2.num).getD 0))) H2 (s1.trans s2) ?_ (λx hx=>?_) ?_
   ·rw[hp2,e2];unfold ba;rw[map_map];rfl
   ·obtain⟨y,hy,rfl⟩:=mem_map.mp hx;exact e3 y hy
   ·unfold cj nds;rw[map_map,filter_map,map_map];have:zs.filter ((λn:Nd=>!decide (n.st=cZ (us.map (·.2)) n.num))∘λx:Addr×Nd=>x.2)=bs.map (·.1):=e1.symm;rw[this,map_map];rfl
end
theorem jR(ws:List (Addr×Key×V))(k:Key):∀m:List (Key×V),((ws.foldl (λm z=>cg m z.2.1 z.2.2) m).any λkv=>decide (kv.1=k))=((m.any λkv=>decide (kv.1=k))||ws.any λz=>decide (z.2.1=k)):=by
 induction ws with
 |nil=>intro m;simp
 |cons z r ih =>
  intro m;rw[foldl_cons,ih,any_cons];have:((cg m z.2.1 z.2.2).any λkv=>decide (kv.1=k))=((m.any λkv=>decide (kv.1=k))||decide (z.2.1=k)):=by
   rw[cz,eV,cz]
   by_cases e:k=z.2.1
   ·rw[if_pos e,decide_eq_true e.symm];simp
   ·rw[if_neg e,decide_eq_false (λh=>e h.symm)];simp
  rw[this,Bool.or_assoc]
def nv(t u:List Nd)(x:Str):Prop:=∃n,(n∈t∨n∈u)∧n.par=0∧n.nm=x
structure FreeN(t u:List Nd)(c:Nat):Prop where
 one:1≤c
 lt:c<70
 no:¬nv t u (bG c)
 all:∀j,1≤j→j<c→nv t u (bG j)
theorem oA{t u:List Nd}(hl:t.length+u.length≤60){c:Nat}(h:∀j,1≤j→j<c→nv t u (bG j)):c≤62:=by
 refine Classical.byContradiction λhc=>?_;have sub:∀x∈(List.range 61).map (λj=>bG (j+1)),x∈(t++u).map (·.nm):=λx hx=>by
  obtain⟨j,hj,rfl⟩:=mem_map.mp hx;rw[mem_range]at hj;obtain⟨n,hn,_,e⟩:=h (j+1) (by omega) (by omega);exact mem_map.mpr ⟨n,mem_append.mpr hn,e⟩
 have nd:((List.range 61).map (λj=>bG (j+1))).Nodup:=by decide +kernel
 have:=Nodup.length_le_of_subset nd sub;rw[length_map,length_range,length_map,length_append]at this;omega
def uo(K:PySem.W.Frag):R2:=λx y H Q=>(∃a b ys,x=.ref a∧y=.ref b∧SqT K H a []∧SqT K H b ys∧Q (.ref b) H)∨nN K x y H Q
theorem tu{X:Cx}:OpR X (binaryOp .Add) (uo X.K):=lw.or dN
theorem pI{K:PySem.W.Frag}{H:Hp}{t u:Addr}{zs us:ZN}(ht:H t=some (.tup (aY zs)))(hu:H u=some (.tup (aY us)))(hl:zs.length+us.length≤1000){G:VK}(h:∀c H1,Same H H1→H1 c=some (.tup (aY (zs++us)))→G (.ref c) H1):uo K (.ref t) (.ref u) H G:=by
 have er:aY (zs++us)=aY zs++aY us:=by unfold aY;rw[map_append,map_append]
 cases zs with
 |nil=>exact .inl ⟨t,u,_,rfl,rfl,SqT.of ht,SqT.of hu,h u H (Same.refl _) hu⟩
 |cons z r =>
  refine .inr ⟨t,u,_,_,rfl,rfl,SqT.of ht,SqT.of hu,by unfold aY;simp,by rw[bQ,bQ];exact aq hl,λe=>h t H (Same.refl _) ?_,λ_ p hp=>h p _ (af hp) ?_⟩
  ·rw[er,e,append_nil];exact ht
  ·rw[er];exact ac
section
variable{P:Program}{w:World}{K:PySem.W.Frag}{mg:Str→Option Value}{base:Heap}
def re:Sp:=λvs H Q _=>∃t u zs us,vs=[.ref t,.ref u]∧Tre H t zs∧Tre H u us∧∀c H',Same H H'→FreeN (nds zs) (nds us) c→Q (.str (bG c)) H'
theorem oB:FnScope ["now","new","taken","count"] ["now","new"] (ah ff):=fsc
theorem vU{f:Addr}{fd:FuncData}(F:Fun K "free_name" "free_name" ff f fd)(T:Txt mg)(CN:Has P w K mg base 1 "name_at" ["count"] qZ):FnOk P w K mg base CX0 2 f fd ["now","new"] re:=by
 obtain⟨fN,fdN,GN,mN,kN,bN⟩:=CN;obtain⟨tt,hT⟩:=T.top;refine F.ok oB (λvs H Q E h=>?_) (λcdv A outer s H vs Q E hr h=>?_)
 ·obtain⟨t,u,zs,us,rfl,_⟩:=h;rfl
 ·obtain⟨t,u,zs,us,rfl,tr,ur,q⟩:=h;have hl:=tr.len;have ul:=ur.len;refine⟨_,ae (ap (i:=2) oB.nd rfl (Or.inl rfl) (bg (jk rfl) rfl T.dict boot_dict (aa (db (N:=["node"]) (cl:=[]) (k:=1) (js:=[]) (g:=aZ 0) rfl (eF rfl (by decide +kernel) (by decide +kernel) (by decide +kernel)) rfl (λi j x h=>by simp at h)
    (cC (aF tu (pv 0) (pv 1))) (λs H fp=>aE (i:=0) (show(["node"]:List Str).Nodup by decide +kernel) rfl (Or.inl rfl) (Or.inr rfl))
    (λs H fp=>am cx (av (r:=cG K) ao (pv 0) ag (λ_ _=>rfl)) (dg (v:=.int 0) rfl hT ⟨_,rfl⟩) (aw _)) (λs H fp=>bq (aa (av (r:=cG K) ao (pv 0) ag (λ_ _=>rfl)) (aa io ai)))) ai)))
   (ae (ap (i:=3) oB.nd rfl (Or.inl rfl) ag)
   (ae (ee PassesOwn.never (bT (dz (aK hr) (ak GN hr rfl mN kN bN .nil aL (aa (pv 3) ai)) (pv 2))) (aj (uJ (i:=3) oB.nd rfl (Or.inl rfl) ag rX)))
   (aj (aD (ak GN hr rfl mN kN bN .nil aL (aa (pv 3) ai)))))),?_⟩
  have hA:At H (zs++us):=λz hz=>by
   rcases mem_append.mp hz with h|h
   ·exact tr.nod z h
   ·exact ur.nod z h
  have hlen:(zs++us).length≤60:=by rw[length_append];omega
  refine⟨_,rfl,_,rfl,pI (K:=K) tr.tup ur.tup (by rw[length_append]at hlen;omega) λc H1 s1 hc=>?_⟩;refine⟨c,rfl,⟨_,SqT.of hc⟩,λp hp=>?_⟩;refine ci (fr:=[]) (zs++us) (λz=>V.ref z.1) (by omega) hp (dQ (by rw[bS];exact SqT.of hc)) rfl (λz=>decide (z.2.par=0)) (λz y H'=>∃q,y=.ref q∧q≠p∧H' q=some (.tup [.str z.2.nm,.bl true])) (λz y H H' ⟨q,e,ne,h⟩ ex=>⟨q,e,ne,ex q _ ne h⟩) (λz H' k mz s2 _ hk=>?_) (λz H' k mz hg s2 hpl hk=>?_) (λys H2 s2 hp2 hys=>?_)
  ·have az:SqT K H' z.1 (vals z.2):=SqT.of (s2 _ _ (s1 _ _ (hA z mz)));refine⟨_,rfl,z.1,_,_,_,rfl,rfl,az,at1 z.2,rfl,_,rfl,?_⟩;rw[show decide (V.int z.2.par=V.int 0)=decide (z.2.par=0)by rw[kb];rfl];exact hk H' (Same.refl _)
  ·have az:SqT K H' z.1 (vals z.2):=SqT.of (s2 _ _ (s1 _ _ (hA z mz)));exact⟨_,rfl,z.1,_,_,_,rfl,rfl,az,at2 z.2,le2,λq hq=>hk _ _ (af hq) ⟨q,rfl,dC hpl hq,ac⟩⟩
  ·obtain⟨bs,e1,e2,e3⟩:=cE (val:=V.ref) (S:=λ(z:Addr×Nd) (q:Addr)=>H2 q=some (.tup [.str z.2.nm,.bl true])) hys (λz y _ ⟨q,e,_,h⟩=>⟨q,e,h⟩);have hbl:bs.length≤60:=by
    have h1:=congrArg length e1;rw[length_map]at h1;have h2:=length_filter_le (λz:Addr×Nd=>decide (z.2.par=0)) (zs++us);omega
   let ws:List (Addr×Key×V):=bs.map λx=>(x.2,(Sum.inr x.1.2.nm:Key),V.bl true)
   refine⟨p,ws,rfl,by rw[hp2,e2];show _=some (HO.lst (((bs.map λx=>(x.2,(Sum.inr x.1.2.nm:Key),V.bl true)).map (·.1)).map V.ref));rw[map_map,map_map];rfl,λz hz=>?_,by show(bs.map _).length≤900;rw[length_map];omega,λd hd=>?_⟩
   ·obtain⟨x,hx,rfl⟩:=mem_map.mp hz;exact e3 x hx
   have s3:=(s1.trans s2).trans (af (o:=.dK (bo ws)) hd);have gd:upd H2 d (.dK (bo ws)) d=some (.dK (bo ws)):=ac;generalize upd H2 d (.dK (bo ws))=H3 at s3 gd⊢;have isT:∀x:Str,(bi (bo ws) (Sum.inr x:Key)).isSome=true↔nv (nds zs) (nds us) x:=λx=>by
    rw[←cz];unfold bo;rw[jR,any_nil,Bool.false_or,any_eq_true];constructor
    ·rintro⟨z,hz,e⟩;obtain⟨y,hy,rfl⟩:=mem_map.mp hz;have hm:y.1∈(zs++us).filter (λz=>decide (z.2.par=0)):=by rw[←e1];exact mem_map.mpr ⟨y,hy,rfl⟩
     obtain⟨h1,h2⟩:=mem_filter.mp hm;have ex:y.1.2.nm=x:=by have:=of_decide_eq_true e;injection this
     refine⟨y.1.2,?_,of_decide_eq_true h2,ex⟩;rcases mem_append.mp h1 with h|h
     ·exact .inl (aA h)
     ·exact .inr (aA h)
    ·rintro⟨n,hn,h0,e⟩;obtain⟨z,hz,rfl⟩:∃z∈zs++us,z.2=n:=by
      rcases hn with hn|hn
      ·obtain⟨z,hz,e⟩:=bj hn;exact⟨z,mem_append_left _ hz,e⟩
      ·obtain⟨z,hz,e⟩:=bj hn;exact⟨z,mem_append_right _ hz,e⟩
     have hm:z∈bs.map (·.1):=by rw[e1];exact mem_filter.mpr ⟨hz,decide_eq_true h0⟩
     obtain⟨y,hy,rfl⟩:=mem_map.mp hm;exact⟨_,mem_map.mpr ⟨y,hy,rfl⟩,decide_eq_true (by rw[e])⟩
   have hll:(nds zs).length+(nds us).length≤60:=by unfold nds;rw[length_map,length_map];omega
   dsimp only[aZ,jm];refine eS (λσ H'=>∃c:Nat,σ=[some (.ref t),some (.ref u),some (.ref d),some (.int c)]∧1≤c∧(∀j,1≤j→j<c→nv (nds zs) (nds us) (bG j))∧H'=H3)
    (λσ H'=>match σ with | [_,_,_,some (.int k)]=>70-k.toNat | _=>0) ⟨1,rfl,le_refl _,(λj h1 h2=>absurd h2 (by omega)),rfl⟩ (λσ H' h=>?_) ?_
   ·obtain⟨c,rfl,hc1,hall,rfl⟩:=h;have hc:=oA hll hall;refine⟨_,rfl,c,rfl,by omega,_,rfl,d,_,rfl,cW.k (k:=Sum.inr (bG c)) gd,_,rfl,?_⟩
    by_cases ht:nv (nds zs) (nds us) (bG c)
    ·rw[(isT _).mpr ht];refine aT ⟨_,rfl,_,_,rfl,rfl,?_⟩;have hall':∀j,1≤j→j<c+1→nv (nds zs) (nds us) (bG j):=λj h1 h2=>by
      by_cases e:j=c
      ·rw[e];exact ht
      ·exact hall j h1 (by omega)
     refine⟨⟨c+1,by show[_,_,_,some (V.int ((c:Int)+1))]=_;rfl,by omega,hall',rfl⟩,?_⟩;have:=oA hll hall';show 70-((c:Int)+1).toNat<70-((c:Int)).toNat;omega
    ·have:(bi (bo ws) (Sum.inr (bG c):Key)).isSome=false:=by
      cases h:(bi (bo ws) (Sum.inr (bG c):Key)).isSome with
      |false=>rfl
      |true=>exact absurd ((isT _).mp h) ht
     rw[this];exact aJ ⟨_,rfl,c,rfl,by omega,q c _ s3 ⟨hc1,by omega,ht,hall⟩⟩
   ·rintro σ H1 Q1 Q2 m ⟨v,e,n,e1,e2,v2,e3,a,o,e4,g,b,e5,q⟩;exact⟨v,e,n,e1,e2,v2,e3,a,o,e4,g,b,e5,m _ _ q⟩
end
def fG:TW.Deed Str→Bool
 |.move _ _ _=>true
 |_=>false
def bh:TW.Deed Str→Int
 |.make n _ _ _=>n
 |.write n _=>n
 |.move n _ _=>n
 |.drop n=>n
theorem rf(d:TW.Deed Str):∃x:Str,(bf d)[0]?=some (.str x)∧decide (x="move")=fG d:=by
 cases d
 ·exact⟨_,rfl,(show decide (("make":Str)="move")=false by decide +kernel)⟩
 ·exact⟨_,rfl,(show decide (("write":Str)="move")=false by decide +kernel)⟩
 ·exact⟨_,rfl,(show decide (("move":Str)="move")=true by decide +kernel)⟩
 ·exact⟨_,rfl,(show decide (("drop":Str)="move")=false by decide +kernel)⟩
theorem ny(d:TW.Deed Str):(bf d)[1]?=some (.int (bh d)):=by cases d<;>rfl
def da(ds:List (TW.Deed Str))(k:Int):Prop:=∃d∈ds,fG d=true∧bh d=k
def Okd(t:List Nd)(d:TW.Deed Str):Prop:=∃v,TW.Told t d (.inr v)
inductive Nxt(t u:List Nd)(ds:List (TW.Deed Str)):Option (TW.Deed Str)→Prop where
 |drop {x:Nd}:ky t (TW.dS t u) x→Nxt t u ds (some (.drop x.num))
 |place {ps:List (TW.Deed Str)} {d:TW.Deed Str}:(∀x∈t,¬TW.dS t u x)→TW.Plcs t u ps→ky ps (Okd t) d→Nxt t u ds (some d)
 |aside {ps:List (TW.Deed Str)} {d:TW.Deed Str} {c:Nat}:(∀x∈t,¬TW.dS t u x)→TW.Plcs t u ps→(∀d∈ps,¬Okd t d)→ky ps (λd=>fG d=true∧¬da ds (bh d)) d→FreeN t u c→Nxt t u ds (some (.move (bh d) 0 (bG c)))
 |no {ps:List (TW.Deed Str)}:(∀x∈t,¬TW.dS t u x)→TW.Plcs t u ps→(∀d∈ps,¬Okd t d)→(∀d∈ps,¬(fG d=true∧¬da ds (bh d)))→Nxt t u ds none
def cO(n:Nd):Prop:=1≤n.num∧n.num≤99∧0≤n.par∧n.par≤99∧n.nm.length≤100
theorem tw{t:List Nd}{u:List Nd}{ps:List (TW.Deed Str)}(h:TW.Plcs t u ps)(hu:∀n∈u,cO n):∀d∈ps,cB d:=by
 induction h with
 |nil=>intro d hd;cases hd
 |skip _ _ ih=>exact ih λn hn=>hu n (mem_append_left _ hn)
 |@take n u ds d _ hp ih =>
  intro e he;rcases mem_append.mp he with he|he
  ·exact ih (λn hn=>hu n (mem_append_left _ hn)) e he
  ·have:e=d:=mem_singleton.mp he;subst this;obtain⟨h1,h2,h3,h4,h5⟩:=hu n (mem_append_right _ (mem_singleton.mpr rfl));cases hp with
   |new _=>exact⟨h1,h2,h3,h4,h5⟩
   |mv _ _ _=>exact⟨h1,h2,h3,h4,h5⟩
theorem lM{α β:Type}{ds:List (α×β)}{i:Nat}{x:α×β}{p:β→Prop}(hx:ds[i]?=some x)(hi:∀y∈ds.take i,¬p y.2)(h:p x.2):ky (ds.map (·.2)) p x.2:=by
 have et:ds.take (i+1)=ds.take i++[x]:=bH hx;refine⟨(ds.take i).map (·.2),(ds.drop (i+1)).map (·.2),?_,λy hy=>?_,h⟩
 ·have:=List.take_append_drop (i+1) ds;rw[et,append_assoc]at this
  conv=>lhs;rw[←this]
  rw[map_append];rfl
 ·obtain⟨z,hz,rfl⟩:=mem_map.mp hy;exact hi z hz
section
variable{P:Program}{w:World}{K:PySem.W.Frag}{mg:Str→Option Value}{base:Heap}
def uq:Sp:=λvs H Q _=>∃t u l zs us ds,vs=[.ref t,.ref u,.ref l]∧Tre H t zs∧zs.length≤29∧Tre H u us∧(∀n∈nds us,cO n)∧H l=some (.lst (ba ds))∧gp H ds∧ds.length≤300 ∧
 (∀d r H',Nxt (nds zs) (nds us) (ds.map (·.2)) (some d)→Same H H'→H' r=some (.tup (bf d))→Q (.ref r) H')∧(Nxt (nds zs) (nds us) (ds.map (·.2)) none→∀H',Same H H'→Q .non H')
theorem jS:FnScope ["now","new","deeds","drop","left","deed","moved"] ["now","new","deeds"] (ah fg):=fsc
theorem vV{f:Addr}{fd:FuncData}(F:Fun K "next_deed" "next_deed" fg f fd)(T:Txt mg)(CB:Has P w K mg base 1 "by_number" ["tree"] eQ)(CD:Has P w K mg base 3 "next_drop" ["now","goal"] qV)(CP:Has P w K mg base 2 "placings" ["now","new"] qY)(CR:Has P w K mg base 5 "is_refused" ["tree","deed"] qX)(CF:Has P w K mg base 2 "free_name" ["now","new"] re):FnOk P w K mg base CX0 6 f fd ["now","new","deeds"] uq:=by
 obtain⟨fB,fdB,GB,mB,kB,bB⟩:=CB;obtain⟨fD,fdD,GD,mD,kD,bD⟩:=CD;obtain⟨fP,fdP,GP,mP,kP,bP⟩:=CP;obtain⟨fR,fdR,GR,mR,kR,bR⟩:=CR;obtain⟨fF,fdF,GF,mF,kF,bF⟩:=CF;obtain⟨tt,hT⟩:=T.top;refine F.ok jS (λvs H Q E h=>?_) (λcdv A outer s H vs Q E hr h=>?_)
 ·obtain⟨t,u,l,zs,us,ds,rfl,_⟩:=h;rfl
 ·obtain⟨t,u,l,zs,us,ds,rfl,tr,hz,ur,uok,hL,hD,hdl,q1,q2⟩:=h;have hr1:Room 1 _:=hr.mono (by decide);have hr2:Room 2 _:=hr.mono (by decide);have hr3:Room 3 _:=hr.mono (by decide);have ul:=ur.len;have und:=aI ur.tr;refine⟨_,ae (ap (i:=3) jS.nd rfl (Or.inl rfl) (ak GD hr3 rfl mD kD bD .nil aL (aa (pv 0) (aa (ak GB hr1 rfl mB kB bB .nil aL (aa (pv 1) ai)) ai))))
   (ae (be (am iB (pv 3) cq (aw _)) (aj (aD (pv 3))) aH)
   (ae (ap (i:=4) jS.nd rfl (Or.inl rfl) (ak GP hr2 rfl mP kP bP .nil aL (aa (pv 0) (aa (pv 1) ai))))
   (ae (dt PassesOwn.never rfl (cH (pv 4)) (aE (i:=5) jS.nd rfl (Or.inl rfl)) (aj (be (md (iK (ak GR hr rfl mR kR bR .nil aL (aa (pv 0) (aa (pv 5) ai))) (λ_=>rfl))) (aj (aD (pv 5))) aH)))
   (ae (ap (i:=6) jS.nd rfl (Or.inl rfl) (bg (jk rfl) rfl T.dict boot_dict (aa (db (N:=["deed"]) (cl:=[]) (k:=1) (js:=[]) (g:=aZ 0) rfl (eF rfl (by decide +kernel) (by decide +kernel) (by decide +kernel)) rfl (λi j x h=>by simp at h)
    (cH (pv 2)) (λs H fp=>aE (i:=0) (show(["deed"]:List Str).Nodup by decide +kernel) rfl (Or.inl rfl) (Or.inr rfl))
    (λs H fp=>am cx (av (r:=cG K) ao (pv 0) ag (λ_ _=>rfl)) aM (aw _)) (λs H fp=>bq (aa (av (r:=cG K) ao (pv 0) ag (λ_ _=>rfl)) (aa io ai)))) ai)))
   (ae (dt PassesOwn.never rfl (cH (pv 4)) (aE (i:=5) jS.nd rfl (Or.inl rfl)) (aj (be (PW.pt (pw_and (am cx (av ao (pv 5) ag (λ_ _=>rfl)) aM (aw _)) (pw_and1 (bT (cn (aK hr) (av ao (pv 5) ag (λ_ _=>rfl)) (pv 6))))))
     (aj (aD (bq (aa aM (aa (av ao (pv 5) ag (λ_ _=>rfl)) (aa (dg (v:=.int 0) rfl hT ⟨_,rfl⟩) (aa (ak GF hr2 rfl mF kF bF .nil aL (aa (pv 0) (aa (pv 1) ai))) ai))))))) aH)))
   (aj (aD cq))))))),?_⟩
  refine⟨_,rfl,_,rfl,u,us,rfl,ur.tup,ur.nod,by omega,und,λd H1 s1 nd1=>?_⟩;refine⟨t,d,zs,us,rfl,tr.same s1,nd1,und,λx hx r H2 s2 hr2'=>?_,λhno H2 s2=>?_⟩
  ·exact⟨_,rfl,rfl,_,rfl,aT ⟨_,rfl,q1 _ r H2 (.drop hx) (s1.trans s2) hr2'⟩⟩
  ·have s12:=s1.trans s2;refine⟨_,rfl,rfl,_,rfl,aJ ⟨_,rfl,_,rfl,t,u,zs,us,rfl,tr.same s12,ur.same s12,λk ps H3 s3 hk hA hP=>?_⟩⟩;have s13:=s12.trans s3;have pok:=tw hP uok;have pl:=lJ hP;have pl2:ps.length≤30:=by
    rw[length_map]at pl;have h2:(nds us).length=us.length:=by unfold nds;rw[length_map]
    omega
   refine⟨_,rfl,k,rfl,⟨_,SqL.of hk⟩,gw (xs:=ba ps) (λi σ H'=>(∃x5,σ=[some (.ref t),some (.ref u),some (.ref l),some .non,some (.ref k),x5,none])∧Same H3 H'∧∀y∈ps.take i,¬Okd (nds zs) y.2) ⟨⟨_,rfl⟩,Same.refl _,by simp⟩ (λi σ H' _ h=>SqL.of (h.2.1 _ _ hk)) (λi x σ H' hx h=>?_) (λσ H4 h=>?_)⟩
   ·obtain⟨⟨x5,rfl⟩,s4,hi⟩:=h;obtain⟨y,gy,rfl⟩:∃y,ps[i]?=some y∧x=V.ref y.1:=by
     unfold ba at hx;rw[getElem?_map]at hx;cases hg:ps[i]? with
     |none=>rw[hg]at hx;cases hx
     |some y=>rw[hg]at hx;exact⟨y,rfl,(Option.some.inj hx).symm⟩
    have my:=mem_of_getElem? gy;have et:ps.take (i+1)=ps.take i++[y]:=bH gy;have ay:=s4 _ _ (hA y my);refine⟨_,rfl,_,rfl,t,y.1,zs,y.2,rfl,tr.same (s13.trans s4),hz,ay,pok _ (mem_map.mpr ⟨y,my,rfl⟩),λv told H5 s5=>?_,λwd told H5 s5=>?_⟩
    ·refine⟨_,rfl,aT ⟨_,rfl,q1 y.2 y.1 H5 (.place hno hP (lM gy hi ⟨v,told⟩)) (s13.trans (s4.trans s5)) (s5 _ _ ay)⟩⟩
    ·refine⟨_,rfl,aJ ⟨⟨_,rfl⟩,s4.trans s5,λy' hy'=>?_⟩⟩;rw[et]at hy';rcases mem_append.mp hy' with h|h
     ·exact hi y' h
     ·have e:y'=y:=mem_singleton.mp h;subst e;rintro⟨v,tv⟩;have:=tv.one tr.tr told;cases this
   ·obtain⟨⟨x5,rfl⟩,s4,hi⟩:=h;have href:∀d∈ps.map (·.2),¬Okd (nds zs) d:=λd hd=>by
     obtain⟨y,hy,rfl⟩:=mem_map.mp hd;refine hi y ?_;unfold ba;rw[length_map,take_length];exact hy
    have s14:=s13.trans s4;have hL4:=s14 _ _ hL;refine⟨_,rfl,l,rfl,⟨_,SqL.of hL4⟩,λp hp=>?_⟩;refine ci (fr:=[]) ds (λx=>V.ref x.1) (by omega) hp (fo (SqL.of hL4)) rfl (λx=>fG x.2) (λx y H'=>∃q,y=.ref q∧q≠p∧H' q=some (.tup [.int (bh x.2),.bl true])) (λz y H H' ⟨q,e,ne,h⟩ ex=>⟨q,e,ne,ex q _ ne h⟩) (λx H' kk mx s5 _ hk'=>?_) (λx H' kk mx hg s5 hpl hk'=>?_) (λys H5 s5 hp5 hys=>?_)
    ·obtain⟨wd,hw,ew⟩:=rf x.2;refine⟨_,rfl,x.1,_,0,_,rfl,rfl,SqT.of (s5 _ _ (s14 _ _ (hD x mx))),dO (j:=0) hw,rfl,_,rfl,?_⟩;rw[show decide (V.str wd=V.str ("move":Str))=fG x.2 by rw[←ew,decide_eq_decide];exact⟨λh=>by injection h,λh=>by rw[h]⟩];exact hk' H' (Same.refl _)
    ·exact⟨_,rfl,x.1,_,1,_,rfl,rfl,SqT.of (s5 _ _ (s14 _ _ (hD x mx))),dO (j:=1) (ny x.2),le2,λq hq=>hk' _ _ (af hq) ⟨q,rfl,dC hpl hq,ac⟩⟩
    ·obtain⟨bs,e1,e2,e3⟩:=cE (val:=V.ref) (S:=λ(x:Addr×TW.Deed Str) (q:Addr)=>H5 q=some (.tup [.int (bh x.2),.bl true])) hys (λz y _ ⟨q,e,_,h⟩=>⟨q,e,h⟩);have hbl:bs.length≤300:=by
      have h1:=congrArg length e1;rw[length_map]at h1;have h2:=length_filter_le (λx:Addr×TW.Deed Str=>fG x.2) ds;omega
     let ws:List (Addr×Key×V):=bs.map λx=>(x.2,(Sum.inl (bh x.1.2):Key),V.bl true)
     refine⟨p,ws,rfl,by rw[hp5,e2];show _=some (HO.lst (((bs.map λx=>(x.2,(Sum.inl (bh x.1.2):Key),V.bl true)).map (·.1)).map V.ref));rw[map_map,map_map];rfl,λz hz=>?_,by show(bs.map _).length≤900;rw[length_map];omega,λg hg=>?_⟩
     ·obtain⟨x,hx,rfl⟩:=mem_map.mp hz;exact e3 x hx
     have s6:=s5.trans (af (o:=.dK (bo ws)) hg);have gd:upd H5 g (.dK (bo ws)) g=some (.dK (bo ws)):=ac;show jm _ _ _ _ (upd H5 g (.dK (bo ws)));generalize upd H5 g (.dK (bo ws))=H6 at s6 gd⊢;have s16:=s14.trans s6;have isM:∀n:Int,(bi (bo ws) (Sum.inl n:Key)).isSome=true↔da (ds.map (·.2)) n:=λn=>by
      rw[←cz];unfold bo;rw[jR,any_nil,Bool.false_or,any_eq_true];constructor
      ·rintro⟨z,hz,e⟩;obtain⟨y,hy,rfl⟩:=mem_map.mp hz;have hm:y.1∈ds.filter (λx=>fG x.2):=by rw[←e1];exact mem_map.mpr ⟨y,hy,rfl⟩
       obtain⟨h1,h2⟩:=mem_filter.mp hm;have ex:bh y.1.2=n:=by have:=of_decide_eq_true e;injection this
       exact⟨y.1.2,mem_map.mpr ⟨_,h1,rfl⟩,h2,ex⟩
      ·rintro⟨d,hd,h0,e⟩;obtain⟨z,hz,rfl⟩:=mem_map.mp hd;have hm:z∈bs.map (·.1):=by rw[e1];exact mem_filter.mpr ⟨hz,h0⟩
       obtain⟨y,hy,rfl⟩:=mem_map.mp hm;exact⟨_,mem_map.mpr ⟨y,hy,rfl⟩,decide_eq_true (by rw[e])⟩
     have hk6:=s6 _ _ (s4 _ _ hk);refine⟨_,rfl,k,rfl,⟨_,SqL.of hk6⟩,gw (xs:=ba ps) (λi σ H'=>(∃x5,σ=[some (.ref t),some (.ref u),some (.ref l),some .non,some (.ref k),x5,some (.ref g)])∧H'=H6∧∀y∈ps.take i,¬(fG y.2=true∧¬da (ds.map (·.2)) (bh y.2))) ⟨⟨_,rfl⟩,rfl,by simp⟩ (λi σ H' _ h=>by rw[h.2.1];exact SqL.of hk6) (λi x σ H' hx h=>?_) (λσ H' h=>?_)⟩
     ·obtain⟨⟨x5,rfl⟩,rfl,hi⟩:=h;obtain⟨y,gy,rfl⟩:∃y,ps[i]?=some y∧x=V.ref y.1:=by
       unfold ba at hx;rw[getElem?_map]at hx;cases hg':ps[i]? with
       |none=>rw[hg']at hx;cases hx
       |some y=>rw[hg']at hx;exact⟨y,rfl,(Option.some.inj hx).symm⟩
      have my:=mem_of_getElem? gy;have et:ps.take (i+1)=ps.take i++[y]:=bH gy;have ay:SqT K H' y.1 (bf y.2):=SqT.of (s6 _ _ (s4 _ _ (hA y my)));have step:¬(fG y.2=true∧¬da (ds.map (·.2)) (bh y.2))→∀y'∈ps.take (i+1),¬(fG y'.2=true∧¬da (ds.map (·.2)) (bh y'.2)):=λh y' hy'=>by
       rw[et]at hy';rcases mem_append.mp hy' with h'|h'
       ·exact hi y' h'
       ·have e:y'=y:=mem_singleton.mp h';rw[e];exact h
      obtain⟨wd,hw,ew⟩:=rf y.2;refine⟨_,rfl,y.1,_,0,_,rfl,rfl,ay,dO (j:=0) hw,rfl,_,rfl,?_⟩;rw[show decide (V.str wd=V.str ("move":Str))=fG y.2 by rw[←ew,decide_eq_decide];exact⟨λh=>by injection h,λh=>by rw[h]⟩];cases hmv:fG y.2 with
      |false=>exact aJ (aJ ⟨⟨_,rfl⟩,rfl,step λh=>by rw[hmv]at h;cases h.1⟩)
      |true =>
       refine aT ⟨_,rfl,y.1,_,1,_,rfl,rfl,ay,dO (j:=1) (ny y.2),_,rfl,g,_,rfl,cW.k (k:=Sum.inl (bh y.2)) gd,_,rfl,?_⟩
       by_cases hM:da (ds.map (·.2)) (bh y.2)
       ·rw[(isM _).mpr hM];exact aJ ⟨⟨_,rfl⟩,rfl,step λh=>h.2 hM⟩
       ·have:(bi (bo ws) (Sum.inl (bh y.2):Key)).isSome=false:=by
         cases h:(bi (bo ws) (Sum.inl (bh y.2):Key)).isSome with
         |false=>rfl
         |true=>exact absurd ((isM _).mp h) hM
        rw[this];refine aT ⟨_,rfl,y.1,_,1,_,rfl,rfl,ay,dO (j:=1) (ny y.2),_,rfl,_,rfl,t,u,zs,us,rfl,tr.same s16,ur.same s16,λc H7 s7 hc=>⟨(show 4≤sizeLine from aq (by decide)),λr hr'=>?_⟩⟩;exact q1 (.move (bh y.2) 0 (bG c)) r _ (.aside hno hP href (lM gy hi ⟨hmv,hM⟩) hc) (s16.trans (s7.trans (af hr'))) ac
     ·obtain⟨⟨x5,rfl⟩,rfl,hi⟩:=h;refine q2 (.no hno hP href λd hd=>?_) _ s16;obtain⟨y,hy,rfl⟩:=mem_map.mp hd;refine hi y ?_;unfold ba;rw[length_map,take_length];exact hy
end
structure Sound(u:List Nd)(I:List Nd→List (TW.Deed Str)→Prop)(μ:List Nd→List (TW.Deed Str)→Nat):Prop where
 bd:∀t ds,I t ds→t.length≤29∧ds.length≤200∧cY t u
 nx:∀t ds d,I t ds→Nxt t u ds (some d)→cB d∧∃t1,TW.Told t d (.inr t1)∧I t1 (ds++[d])∧μ t1 (ds++[d])<μ t ds
 fin:∀t ds,I t ds→Nxt t u ds none→∀n∈t,TW.ax u n.num
def vW(t u:List Nd)(ds:List (TW.Deed Str))(dv:V)(H:Hp):Prop:=(dv=.non∧Nxt t u ds none)∨∃r d,dv=.ref r∧H r=some (.tup (bf d))∧Nxt t u ds (some d)
def rg:Sp:=λvs H Q _=>∃t u l zs us ds,vs=[.ref t,.ref u,.ref l]∧Tre H t zs∧zs.length≤29∧Tre H u us∧(∀n∈nds us,cO n)∧H l=some (.lst (ba ds))∧gp H ds∧ds.length≤300∧∀dv H',Same H H'→vW (nds zs) (nds us) (ds.map (·.2)) dv H'→Q dv H'
theorem tz(vs:List V)(H:Hp)(Q:VK)(E:XK)(h:rg vs H Q E):uq vs H Q E:=by
 obtain⟨t,u,l,zs,us,ds,e,a1,a2,a3,a4,a5,a6,a7,q⟩:=h;exact⟨t,u,l,zs,us,ds,e,a1,a2,a3,a4,a5,a6,a7,λd r H' n s hr=>q _ H' s (.inr ⟨r,d,rfl,hr,n⟩),λn H' s=>q _ H' s (.inl ⟨rfl,n⟩)⟩
section
variable{P:Program}{w:World}{K:PySem.W.Frag}{mg:Str→Option Value}{base:Heap}
def lN(CN:Addr):Sp:=λvs H Q E=>∃t u zs us,vs=[.ref t,.ref u]∧Tre H t zs∧Tre H u us∧(∀z∈zs,-1≤z.2.num∧z.2.num≤99)∧(∀n∈nds us,cO n)∧(¬cY (nds zs) (nds us)→∀H',Same H H'→E (.ref CN) none H') ∧
 (cY (nds zs) (nds us)→∃I μ,Sound (nds us) I μ∧I (nds zs) []∧∀l ds t2 dd H',Same H H'→I t2 dd→Nxt t2 (nds us) dd none→H' l=some (.lst (ba ds))→gp H' ds→ds.map (·.2)=dd++cj t2 (nds us)→TW.Chain (nds zs) dd t2→Q (.ref l) H')
theorem jT:FnScope ["old","new","deeds","now","deed"] ["old","new"] (ah gk):=fsc
theorem tD{f CN:Addr}{fd:FuncData}{cls:TW.Wd→Addr}(F:Fun K "in_steps" "in_steps" gk f fd)(CK:dG P w K mg base 2 "check_kinds" ["old","new"] (qU CN))(CX:Has P w K mg base 6 "next_deed" ["now","new","deeds"] rg)(CD:dG P w K mg base 4 "done" ["tree","deed"] (kx cls))(CW:Has P w K mg base 2 "writes" ["now","new"] rc):FnOk P w K mg base (CX1 P w) 7 f fd ["old","new"] (lN CN):=by
 obtain⟨fK,fdK,GK,mK,kK,bK⟩:=CK;obtain⟨fN,fdN,GN,mN,kN,bN⟩:=CX;obtain⟨fD,fdD,GD,mD,kD,bD⟩:=CD;obtain⟨fW,fdW,GW,mW,kW,bW⟩:=CW;refine F.okX jT (λvs H Q E h=>?_) (λcdv A outer s H vs Q E hr h=>?_)
 ·obtain⟨t,u,zs,us,rfl,_⟩:=h;rfl
 ·obtain⟨t,u,zs,us,rfl,tr,ur,hb,uok,qE,qo⟩:=h;have hr2:Room 2 _:=hr.mono (by decide);have hr4:Room 4 _:=hr.mono (by decide);refine⟨_,ae (bY (ak (E:=E) GK hr2 rfl mK kK bK .nil (cX ca) (aa (pv 0) (aa (pv 1) ai))))
   (ae (ap (i:=2) jT.nd rfl (Or.inl rfl) (bX ai)) (ae (ap (i:=3) jT.nd rfl (Or.inl rfl) (pv 0))
   (ae (ap (i:=4) jT.nd rfl (Or.inl rfl) (ak GN hr rfl mN kN bN .nil aL (aa (pv 3) (aa (pv 1) (aa (pv 2) ai)))))
   (ae (ee (vp ca) (am iB (pv 4) cq (aw _))
    (ae (bY (fH plainAttrs_list PySem.F.slot_list_append PySem.F.type_list_append bv (pv 2) (aa (pv 4) ai)))
    (ae (ap (i:=3) jT.nd rfl (Or.inl rfl) (ak (E:=E) GD hr4 rfl mD kD bD .nil (cX ca) (aa (pv 3) (aa (pv 4) ai))))
    (aj (ap (i:=4) jT.nd rfl (Or.inl rfl) (ak GN hr rfl mN kN bN .nil aL (aa (pv 3) (aa (pv 1) (aa (pv 2) ai)))))))))
   (aj (aD (aF fY (pv 2) (ak GW hr2 rfl mW kW bW .nil aL (aa (pv 3) (aa (pv 1) ai)))))))))),?_⟩
  refine⟨_,rfl,_,rfl,t,u,zs,us,rfl,tr,ur,hb,λsk H1 s1=>?_,λnsk H1 s1=>qE nsk H1 s1⟩;obtain⟨I,μ,So,i0,q⟩:=qo sk;refine⟨zero_le _,λl hl=>?_⟩;have s2:=s1.trans (af (o:=.lst []) hl);have fl:H l=none:=s1.free hl;have gl:upd H1 l (.lst []) l=some (.lst (ba [])):=ac;generalize upd H1 l (.lst [])=H2 at s2 gl⊢;have b0:=So.bd _ _ i0;have zl:∀z:ZN,(nds z).length=z.length:=λz=>by unfold nds;rw[length_map]
  refine⟨_,rfl,?_⟩;refine⟨_,rfl,_,rfl,_,rfl,t,u,l,zs,us,[],rfl,tr.same s2,by have:=b0.1;rw[zl]at this;exact this,ur.same s2,uok,gl,(λx h=>nomatch h),by decide,?_⟩;intro dv H3 s3 hres;dsimp only[aZ,jm];have s23:=s2.trans s3;refine⟨λm σ H'=>∃now zn ds dv,m=μ (nds zn) (ds.map (·.2))∧σ=[some (.ref t),some (.ref u),some (.ref l),some (.ref now),some dv]∧Tre H' now zn∧I (nds zn) (ds.map (·.2))∧H' l=some (.lst (ba ds))∧gp H' ds∧(∀x∈ds,x.1≠l)∧TW.Chain (nds zs) (ds.map (·.2)) (nds zn)∧vW (nds zn) (nds us) (ds.map (·.2)) dv H'∧Same H H',
   ⟨_,t,zs,[],dv,rfl,rfl,tr.same s23,i0,s3 _ _ gl,(λx h=>nomatch h),(λx h=>nomatch h),.nil,hres,s23⟩,λm σ H' h=>?_⟩
  obtain⟨now,zn,ds,dv,rfl,rfl,trn,hI,hL,hD,hne,hC,hR,sH⟩:=h;have bd:=So.bd _ _ hI;have zn29:zn.length≤29:=by have:=bd.1;rw[zl]at this;exact this
  have dl:ds.length≤200:=by have:=bd.2.1;rw[length_map]at this;exact this
  refine⟨_,rfl,rfl,_,rfl,?_⟩;rcases hR with⟨rfl,hn⟩|⟨r,d,rfl,hr',hn⟩
  ·refine aJ ⟨_,rfl,_,rfl,_,rfl,now,u,zn,us,rfl,trn,ur.same sH,So.fin _ _ hI hn,bd.2.2,λl2 es H4 s4 hl2 hE e4=>?_⟩;have hlen:es.length≤30:=by
    have h1:=congrArg length e4;unfold cj at h1;rw[length_map,length_map]at h1;have h2:=length_filter_le (λn:Nd=>!decide (n.st=cZ (nds us) n.num)) (nds zn);rw[zl]at h2;omega
   refine⟨l,l2,_,_,rfl,rfl,s4 _ _ hL,hl2,by unfold ba;rw[length_map,length_map];exact aq (by omega),λl3 hl3=>?_⟩;have s5:=s4.trans (af (o:=.lst (ba ds++ba es)) hl3);refine q l3 (ds++es) (nds zn) (ds.map (·.2)) _ (sH.trans s5) hI hn ?_ (λx hx=>?_) (by rw[map_append,e4]) hC
   ·rw[ac];unfold ba;rw[map_append]
   ·rcases mem_append.mp hx with hx|hx
    ·exact s5 _ _ (hD x hx)
    ·exact(af hl3) _ _ (hE x hx)
  ·obtain⟨dok,t1,told,hI1,hμ⟩:=So.nx _ _ _ hI hn;refine aT ⟨λσ' H''=>∃m',m'<μ (nds zn) (ds.map (·.2))∧∃now zn ds dv,m'=μ (nds zn) (ds.map (·.2))∧σ'=[some (.ref t),some (.ref u),some (.ref l),some (.ref now),some dv]∧Tre H'' now zn∧I (nds zn) (ds.map (·.2))∧H'' l=some (.lst (ba ds))∧gp H'' ds∧(∀x∈ds,x.1≠l)∧TW.Chain (nds zs) (ds.map (·.2)) (nds zn)∧vW (nds zn) (nds us) (ds.map (·.2)) dv H''∧Same H H'',λ_ _ h=>h,?_⟩;have hrl:r≠l:=λz=>by rw[z,hL]at hr';cases hr'
   refine⟨_,rfl,.inl ⟨rfl,_,SqL.of hL⟩,_,rfl,l,_,_,rfl,rfl,hL,aG (by unfold ba;rw[length_map];omega),?_⟩;have keep:∀b o,b≠l→H' b=some o→upd H' l (.lst (ba ds++[.ref r])) b=some o:=λb o hb h=>by rw[al hb];exact h
   have notl:∀{b:Addr}{xs:List V},H' b=some (.tup xs)→b≠l:=λh z=>by rw[z,hL]at h;cases h
   have gl4:upd H' l (.lst (ba ds++[.ref r])) l=some (.lst (ba (ds++[(r,d)]))):=by rw[ac];unfold ba;rw[map_append];rfl
   have sH4:Same H (upd H' l (.lst (ba ds++[.ref r]))):=λb o h=>keep _ _ (λz=>by rw[z,fl]at h;cases h) (sH _ _ h);generalize upd H' l (.lst (ba ds++[.ref r]))=H4 at keep gl4 sH4⊢;have trn4:Tre H4 now zn:=⟨keep _ _ (notl trn.tup) trn.tup,λz hz=>keep _ _ (notl (trn.nod z hz)) (trn.nod z hz),trn.tr,trn.len⟩;have hD4:gp H4 (ds++[(r,d)]):=λx hx=>by
    rcases mem_append.mp hx with hx|hx
    ·exact keep _ _ (hne x hx) (hD x hx)
    ·rw[mem_singleton.mp hx];exact keep _ _ hrl hr'
   have ed:(ds++[(r,d)]).map (·.2)=ds.map (·.2)++[d]:=by rw[map_append];rfl
   refine⟨_,rfl,_,rfl,now,r,d,zn,rfl,trn4,zn29,keep _ _ hrl hr',dok,⟨λws t' H5 s5 ht' hA tl=>?_,λwd H5 s5 tl=>?_⟩⟩
   ·have e5:nds ws=t1:=Sum.inr.inj (tl.one trn.tr told);have sH5:=sH4.trans s5;have bd1:=So.bd _ _ hI1;have wl:ws.length≤29:=by have:=bd1.1;rw[←e5,zl]at this;exact this
    have trw:Tre H5 t' ws:=⟨ht',hA,by rw[e5];exact told.tree trn.tr dok.pos,by omega⟩;refine⟨_,rfl,_,rfl,_,rfl,t',u,l,ws,us,ds++[(r,d)],rfl,trw,wl,ur.same sH5,uok,s5 _ _ gl4,hD4.same s5,by rw[length_append];simp;omega,λdv2 H6 s6 hres2=>?_⟩;refine⟨_,?_,t',ws,ds++[(r,d)],dv2,rfl,rfl,trw.same s6,by rw[ed,e5];exact hI1,s6 _ _ (s5 _ _ gl4),(hD4.same s5).same s6,λx hx=>?_,by rw[ed];exact hC.snoc (by rw[e5];exact told),hres2,sH5.trans s6⟩
    ·rw[ed,e5];exact hμ
    ·rcases mem_append.mp hx with hx|hx
     ·exact hne x hx
     ·rw[mem_singleton.mp hx];exact hrl
   ·have:=tl.one trn.tr told;cases this
end
def cm(t:List Nd)(n:Nd):Prop:=∃m∈t,m.num=n.num∧m.par=n.par∧m.nm=n.nm
def rh(t u:List Nd)(ds:List (TW.Deed Str)):Prop:=∀m∈t,∀n∈u,m.num=n.num→da ds m.num→¬cm t n→m.par=0∧∀x∈u,x.par=0→x.nm≠m.nm
theorem ri{t u:List Nd}{ps:List (TW.Deed Str)}(h:TW.Plcs t u ps):∀n∈u,(∃d∈ps,TW.Plc t n (some d))∨TW.Plc t n none:=by
 induction h with
 |nil=>intro n hn;cases hn
 |@skip x u ds _ hp ih =>
  intro n hn;rcases mem_append.mp hn with hn|hn
  ·exact ih n hn
  ·rw[mem_singleton.mp hn];exact .inr hp
 |@take x u ds d _ hp ih =>
  intro n hn;rcases mem_append.mp hn with hn|hn
  ·rcases ih n hn with⟨e,he,h⟩|h
   ·exact .inl ⟨e,mem_append_left _ he,h⟩
   ·exact .inr h
  ·rw[mem_singleton.mp hn];exact .inl ⟨d,mem_append_right _ (mem_singleton.mpr rfl),hp⟩
theorem eM{t u:List Nd}{ps:List (TW.Deed Str)}(h:TW.Plcs t u ps):∀d∈ps,∃n∈u,TW.Plc t n (some d):=by
 induction h with
 |nil=>intro n hn;cases hn
 |skip _ _ ih=>intro d hd;obtain⟨n,hn,h⟩:=ih d hd;exact⟨n,mem_append_left _ hn,h⟩
 |@take x u ds d _ hp ih =>
  intro e he;rcases mem_append.mp he with he|he
  ·obtain⟨n,hn,h⟩:=ih e he;exact⟨n,mem_append_left _ hn,h⟩
  ·rw[mem_singleton.mp he];exact⟨x,mem_append_right _ (mem_singleton.mpr rfl),hp⟩
theorem rj{t:List Nd}{n:Nd}(h:TW.Plc t n none):cm t n:=by
 cases h with
 |no hm e h1 h2=>exact⟨_,hm,e,h1,h2⟩
theorem rk{t u:List Nd}{ps:List (TW.Deed Str)}(h:TW.Plcs t u ps){n:Nd}(hn:n∈u)(hp:¬cm t n):∃d∈ps,TW.Plc t n (some d):=by
 rcases ri h n hn with h|h
 ·exact h
 ·exact absurd (rj h) hp
theorem vX{t u:List Nd}{ps:List (TW.Deed Str)}(h:TW.Plcs t u ps){n m:Nd}(hn:n∈u)(hp:¬cm t n)(hm:m∈t)(e:m.num=n.num):∃d∈ps,fG d=true∧bh d=n.num:=by
 obtain⟨d,hd,hpl⟩:=rk h hn hp;cases hpl with
 |new h1=>exact absurd ⟨m,hm,e⟩ h1
 |mv _ _ _=>exact⟨_,hd,rfl,rfl⟩
theorem lO{t:List Nd}(T:TW.cD t)(n:Nd)(hn:¬TW.ax t n.num):∃v:List Nd,v.Perm (n::t)∧TW.cD v:=by
 induction t with
 |nil=>exact⟨[n],List.Perm.refl _,List.pairwise_singleton _ _⟩
 |cons x r ih =>
  have T':=pairwise_cons.mp T
  by_cases h:n.num<x.num
  ·refine⟨n::x::r,List.Perm.refl _,pairwise_cons.mpr ⟨λy hy=>?_,T⟩⟩;rcases mem_cons.mp hy with e|hy
   ·rw[e];exact h
   ·exact Int.lt_trans h (T'.1 y hy)
  ·obtain⟨v,hv,hr⟩:=ih T'.2 λ⟨m,hm,e⟩=>hn ⟨m,mem_cons_of_mem _ hm,e⟩;have hx:x.num<n.num:=by
    have:x.num≠n.num:=λe=>hn ⟨x,mem_cons_self,e⟩;omega
   refine⟨x::v,(List.Perm.cons x hv).trans (List.Perm.swap _ _ _),pairwise_cons.mpr ⟨λy hy=>?_,hr⟩⟩;have:y∈n::r:=hv.mem_iff.mp hy;rcases mem_cons.mp this with e|h'
   ·rw[e];exact hx
   ·exact T'.1 y h'
theorem nA{u:List Nd}(U:TW.Tree1 u){a b:Nd}(ha:a∈u)(hb:b∈u)(e1:a.par=b.par)(e2:a.nm=b.nm):a=b:=by
 have h:(u.map λn=>(n.par,n.nm)).Nodup:=U.own;clear U
 induction u with
 |nil=>cases ha
 |cons x r ih =>
  rw[map_cons,nodup_cons]at h;have e:(a.par,a.nm)=(b.par,b.nm):=by rw[e1,e2]
  rcases mem_cons.mp ha with ea|ha'<;>rcases mem_cons.mp hb with eb|hb'
  ·rw[ea,eb]
  ·exact absurd (mem_map.mpr ⟨b,hb',by rw[←e,ea]⟩) h.1
  ·exact absurd (mem_map.mpr ⟨a,ha',by rw[e,eb]⟩) h.1
  ·exact ih ha' hb' h.2
section
variable{t u:List Nd}{ds ps:List (TW.Deed Str)}
theorem oC(T:TW.Tree1 t)(U:TW.Tree1 u){k:Int}(hk:¬TW.ax u k)(hk0:k≠0):∀{j:Int},TW.Und t k j→TW.ax u j→∃y∈t,∃n∈u,y.num=n.num∧y.par≠0∧¬cm t n:=by
 intro j h
 induction h with
 |here=>intro hj;exact absurd hj hk
 |@up y hy hu ih =>
  intro hj
  by_cases hp:TW.ax u y.par
  ·exact ih hp
  ·obtain⟨n,hn,e⟩:=hj;have hp0:y.par≠0:=λz=>hk0 (hu.zero T z);refine⟨y,hy,n,hn,e.symm,hp0,λ⟨m,hm,e1,e2,_⟩=>?_⟩;have:m=y:=T.inj hm hy (e1.trans e);subst this;rcases TW.cF U hn with h0|⟨r,hr,_,er⟩
   ·exact hp0 (e2.trans h0)
   ·exact hp ⟨r,hr,er.trans e2.symm⟩
theorem nB(T:TW.Tree1 t)(U:TW.Tree1 u)(sk:cY t u)(as:rh t u ds)(hno:∀x∈t,¬TW.dS t u x)(hP:TW.Plcs t u ps)(href:∀d∈ps,¬Okd t d)(hmv:∀d∈ps,¬(fG d=true∧¬da ds (bh d))):
  ∀{k:Int}{p:List Str},TW.PathTo u k p→(∀x∈u,TW.Und u x.num k→cm t x)∧∀a,TW.Und t a k→a=0∨TW.Und u a k:=by
 have moved:∀{m n:Nd},m∈t→n∈u→m.num=n.num→¬cm t n→da ds n.num:=λ{m n} hm hn e hp=>by
  obtain⟨d,hd,h1,h2⟩:=vX hP hn hp hm e;refine Classical.byContradiction λh=>hmv d hd ⟨h1,?_⟩;rw[h2];exact h
 have noNeed:∀{m:Nd},m∈t→¬TW.ax u m.num→¬TW.sX t u m.num:=λ{m} hm hmu ⟨h0,y,hy,hyu,hu⟩=>by
  obtain⟨y1,hy1,n1,hn1,e1,hp0,hpl⟩:=oC T U hmu h0 hu hyu;have hM:=moved hy1 hn1 e1 hpl;rw[←e1]at hM;exact hp0 (as y1 hy1 n1 hn1 e1 hM hpl).1
 intro k p h
 induction h with
 |top =>
  refine⟨λx hx hu=>?_,λa ha=>.inl (ha.zero T rfl)⟩;have:=hu.zero U rfl;have:=U.pos x hx;omega
 |@node n p hn hp ih =>
  obtain⟨ih1,ih2⟩:=ih;have hfold:TW.gf t n.par:=by
   rcases TW.cF U hn with h0|⟨r,hr,hs,er⟩
   ·exact .inl h0
   ·obtain⟨r',hr',e1,_,_⟩:=ih1 r hr (by rw[er];exact .here);exact .inr ⟨r',hr',(sk r' hr' r hr e1).mpr hs,e1.trans er⟩
  have hpl:cm t n:=Classical.byContradiction λhpl=>by
   obtain⟨d,hd,hpc⟩:=rk hP hn hpl;have free:∀m∈t,m.num≠n.num→¬(m.par=n.par∧m.nm=n.nm):=λm hm hne ⟨e1,e2⟩=>by
    by_cases hmu:TW.ax u m.num
    ·obtain⟨n',hn',en⟩:=hmu
     by_cases hp':cm t n'
     ·obtain⟨m',hm',f1,f2,f3⟩:=hp';have:m'=m:=T.inj hm' hm (f1.trans en);subst this;have:n'=n:=nA U hn' hn (f2.symm.trans e1) (f3.symm.trans e2);subst this;exact hne en.symm
     ·have hM:=moved hm hn' en.symm hp';rw[en]at hM;obtain⟨a1,a2⟩:=as m hm n' hn' en.symm hM hp';exact a2 n hn (e1.symm.trans a1) e2.symm
    ·refine hno m hm ⟨noNeed hm hmu,?_⟩;rcases TW.cF U hn with h0|⟨r,hr,_,er⟩
     ·exact .inl (e1.trans h0)
     ·exact .inr ⟨r,hr,er.trans e1.symm⟩
   refine href d hd ?_;cases hpc with
   |new h1 =>
    obtain⟨v,hv,hr⟩:=lO T.rise n h1;exact⟨v,.made h1 hfold (λm hm=>free m hm λe=>h1 ⟨m,hm,e⟩) hv hr⟩
   |@mv m hm e _ =>
    refine⟨_,.moved hm e hfold (λh0 hu=>?_) free⟩;rcases ih2 _ hu with h|h
    ·have:=U.pos n hn;omega
    ·exact TW.qR U hn h
  refine⟨λx hx hu=>?_,λa ha=>?_⟩
  ·rcases (TW.gU U hn).mp hu with e|hu
   ·rw[U.inj hx hn e];exact hpl
   ·exact ih1 x hx hu
  ·obtain⟨m,hm,e1,e2,_⟩:=hpl;rw[←e1]at ha;rcases (TW.gU T hm).mp ha with e|ha
   ·right;rw[e,e1];exact .here
   ·rw[e2]at ha;rcases ih2 a ha with h|h
    ·exact .inl h
    ·exact .inr (.up hn h)
theorem fj(T:TW.Tree1 t)(U:TW.Tree1 u)(sk:cY t u)(as:rh t u ds)(h:Nxt t u ds none):(∀n∈u,cm t n)∧∀n∈t,TW.ax u n.num:=by
 cases h with
 |@no ps hno hP href hmv =>
  have hpl:∀n∈u,cm t n:=λn hn=>by
   obtain⟨p,hp⟩:=TW.PathTo.ex U hn;exact(nB T U sk as hno hP href hmv hp).1 n hn .here
  refine⟨hpl,?_⟩;have key:∀{k:Int}{p:List Str},TW.PathTo t k p→k=0∨TW.ax u k:=by
   intro k p h
   induction h with
   |top=>exact .inl rfl
   |@node n p hn _ ih =>
    right
    refine Classical.byContradiction λhx=>hno n hn ⟨λ⟨h0,y,hy,hyu,hu⟩=>?_,ih⟩;obtain⟨y1,_,n1,hn1,_,_,hq⟩:=oC T U hx h0 hu hyu;exact hq (hpl n1 hn1)
  intro n hn;obtain⟨p,hp⟩:=TW.PathTo.ex T hn;rcases key hp with h|h
  ·have:=T.pos n hn;omega
  ·exact h
end
section
variable{α:Type}
theorem ft{p q:α→Bool}:∀{l:List α},(∀x∈l,p x=true→q x=true)→(l.filter p).length≤(l.filter q).length
 |[],_=>le_refl _
 |a::r,h=>by
  have ih:=ft (p:=p) (q:=q) (l:=r) λx hx=>h x (mem_cons_of_mem _ hx);rw[filter_cons,filter_cons];cases hp:p a with
  |false =>
   cases hq:q a with
   |false=>simpa using ih
   |true=>simp;omega
  |true =>
   rw[h a mem_cons_self hp];simpa using ih
theorem fu{p q:α→Bool}:∀{l:List α},(∀x∈l,p x=true→q x=true)→(∃x∈l,q x=true∧p x=false)→(l.filter p).length<(l.filter q).length
 |[],_,h=>by obtain⟨x,hx,_⟩:=h;cases hx
 |a::r,h,⟨x,hx,h1,h2⟩=>by
  have hr:∀y∈r,p y=true→q y=true:=λy hy=>h y (mem_cons_of_mem _ hy);rw[filter_cons,filter_cons];rcases mem_cons.mp hx with e|hx
  ·subst e;rw[h1,h2];have:=ft (p:=p) (q:=q) hr;simp;omega
  ·have ih:=fu (p:=p) (q:=q) hr ⟨x,hx,h1,h2⟩;cases hp:p a with
   |false =>
    cases hq:q a with
    |false=>simpa using ih
    |true=>simp;omega
   |true =>
    rw[h a mem_cons_self hp];simpa using ih
end
open Classical in
def mu(u:List Nd)(t:List Nd)(ds:List (TW.Deed Str)):Nat:=(t.filter λm=>decide (¬TW.ax u m.num)).length+(u.filter λn=>decide (¬cm t n)).length+(u.filter λn=>decide (¬cm t n∧¬da ds n.num)).length
structure Iv(t0 u t:List Nd)(ds:List (TW.Deed Str)):Prop where
 tr:TW.Tree1 t
 sk:cY t u
 as:rh t u ds
 ok:∀m∈t,cO m
 sub:∀m∈t,TW.ax t0 m.num∨TW.ax u m.num
 cnt:ds.length+mu u t ds≤200
theorem cS{ds:List (TW.Deed Str)}{d:TW.Deed Str}{k:Int}:da (ds++[d]) k↔da ds k∨(fG d=true∧bh d=k):=by
 constructor
 ·rintro⟨e,he,h1,h2⟩;rcases mem_append.mp he with he|he
  ·exact .inl ⟨e,he,h1,h2⟩
  ·rw[mem_singleton.mp he]at h1 h2;exact .inr ⟨h1,h2⟩
 ·rintro(⟨e,he,h1,h2⟩|⟨h1,h2⟩)
  ·exact⟨e,mem_append_left _ he,h1,h2⟩
  ·exact⟨d,mem_append_right _ (mem_singleton.mpr rfl),h1,h2⟩
theorem nC{ds:List (TW.Deed Str)}{d:TW.Deed Str}{a b:Nat}(h:ds.length+b≤200)(l:a<b):(ds++[d]).length+a≤200:=by
 rw[length_append];show ds.length+1+a≤200;omega
open Classical in
theorem rl{u t t1:List Nd}{ds ds1:List (TW.Deed Str)}(a:(t1.filter λm=>decide (¬TW.ax u m.num)).length≤(t.filter λm=>decide (¬TW.ax u m.num)).length)(b:∀n∈u,cm t n→cm t1 n)(c:∀k,da ds k→da ds1 k)(s:(t1.filter λm=>decide (¬TW.ax u m.num)).length<(t.filter λm=>decide (¬TW.ax u m.num)).length∨(∃n∈u,cm t1 n∧¬cm t n)∨∃n∈u,¬cm t n∧¬da ds n.num∧da ds1 n.num):mu u t1 ds1<mu u t ds:=by
 have hb:∀n∈u,decide (¬cm t1 n)=true→decide (¬cm t n)=true:=λn hn h=>decide_eq_true λh'=>of_decide_eq_true h (b n hn h');have hc:∀n∈u,decide (¬cm t1 n∧¬da ds1 n.num)=true→decide (¬cm t n∧¬da ds n.num)=true:=λn hn h=>by
  have:=of_decide_eq_true h;exact decide_eq_true ⟨λh'=>this.1 (b n hn h'),λh'=>this.2 (c _ h')⟩
 have lb:=ft hb;have lc:=ft hc;unfold mu;rcases s with s|⟨n,hn,h1,h2⟩|⟨n,hn,h1,h2,h3⟩
 ·omega
 ·have:=fu hb ⟨n,hn,decide_eq_true h2,decide_eq_false λh=>h h1⟩;omega
 ·have:=fu hc ⟨n,hn,decide_eq_true ⟨h1,h2⟩,decide_eq_false λh=>h.2 h3⟩;omega
section
variable{t0 u t:List Nd}{ds:List (TW.Deed Str)}
open Classical in
theorem rn{x:Nd}(hx:∃m∈t,m.num=x.num):((t.map (TW.put x)).filter λm=>decide (¬TW.ax u m.num)).length=(t.filter λm=>decide (¬TW.ax u m.num)).length:=by
 rw[filter_map,length_map]
 congr 1
 apply filter_congr;intro m _;show decide (¬TW.ax u (TW.put x m).num)=_;unfold TW.put
 by_cases h:m.num=x.num
 ·rw[if_pos h,h]
 ·rw[if_neg h]
theorem put_mem{x m:Nd}(h:m∈t.map (TW.put x)):(m=x∧∃y∈t,y.num=x.num)∨(m∈t∧m.num≠x.num):=by
 obtain⟨y,hy,rfl⟩:=mem_map.mp h;unfold TW.put
 by_cases e:y.num=x.num
 ·rw[if_pos e];exact .inl ⟨rfl,y,hy,e⟩
 ·rw[if_neg e];exact .inr ⟨hy,e⟩
theorem iG{x m:Nd}(h:m∈t)(e:m.num≠x.num):m∈t.map (TW.put x):=mem_map.mpr ⟨m,h,by unfold TW.put;rw[if_neg e]⟩
theorem gY{x m:Nd}(h:m∈t)(e:m.num=x.num):x∈t.map (TW.put x):=mem_map.mpr ⟨m,h,by unfold TW.put;rw[if_pos e]⟩
open Classical in
theorem tE(U:TW.Tree1 u)(I:Iv t0 u t ds){x:Nd}(hx:ky t (TW.dS t u) x):cB (.drop x.num)∧∃t1,TW.Told t (.drop x.num) (.inr t1)∧Iv t0 u t1 (ds++[.drop x.num])∧mu u t1 (ds++[.drop x.num])<mu u t ds:=by
 obtain⟨a,b,e,_,hd⟩:=hx;have mx:x∈t:=by rw[e];simp
 have ok:=I.ok x mx;have x0:x.num≠0:=by have:=ok.1;omega
 have told:TW.Told t (.drop x.num) (.inr (t.filter λm=>decide (¬TW.Und t x.num m.num))):=.dropped ⟨x,mx,rfl⟩ λm _=>by rw[decide_eq_true_iff]
 have stay:∀m∈t,TW.ax u m.num→m∈t.filter λm=>decide (¬TW.Und t x.num m.num):=λm hm hu=>mem_filter.mpr ⟨hm,decide_eq_true λh=>hd.1 ⟨x0,m,hm,hu,h⟩⟩;have sub:∀m,m∈(t.filter λm=>decide (¬TW.Und t x.num m.num))→m∈t:=λm hm=>(mem_filter.mp hm).1;have pl:∀n∈u,cm t n→cm (t.filter λm=>decide (¬TW.Und t x.num m.num)) n:=λn hn ⟨m,hm,e1,e2,e3⟩=>⟨m,stay m hm ⟨n,hn,e1.symm⟩,e1,e2,e3⟩;have mv:∀k,da ds k→da (ds++[.drop x.num]) k:=λk h=>cS.mpr (.inl h);have lt:mu u (t.filter λm=>decide (¬TW.Und t x.num m.num)) (ds++[.drop x.num])<mu u t ds:=by
  have hl:((t.filter λm=>decide (¬TW.Und t x.num m.num)).filter λm=>decide (¬TW.ax u m.num)).length<(t.filter λm=>decide (¬TW.ax u m.num)).length:=by
   rw[List.filter_filter];refine fu (λy _ h=>(and_eq_true _ _ ▸ h).1) ⟨x,mx,decide_eq_true λh=>hd.1 ⟨x0,x,mx,h,.here⟩,?_⟩;rw[show decide (¬TW.Und t x.num x.num)=false from decide_eq_false λh=>h .here,Bool.and_false]
  exact rl (le_of_lt hl) pl mv (.inl hl)
 refine⟨⟨ok.1,ok.2.1⟩,_,told,⟨told.tree I.tr trivial,λm hm=>I.sk m (sub m hm),λm hm n hn e' hM hp=>?_,λm hm=>I.ok m (sub m hm),λm hm=>I.sub m (sub m hm),?_⟩,lt⟩
 ·rcases cS.mp hM with h|⟨h,_⟩
  ·exact I.as m (sub m hm) n hn e' h λh'=>hp (pl n hn h')
  ·cases h
 ·exact nC I.cnt lt
open Classical in
theorem tF(U:TW.Tree1 u)(I:Iv t0 u t ds)(uok:∀n∈u,cO n){n:Nd}(hn:n∈u){v:List Nd}(hv:TW.Told t (.make n.num n.par n.nm n.st) (.inr v)):Iv t0 u v (ds++[.make n.num n.par n.nm n.st])∧mu u v (ds++[.make n.num n.par n.nm n.st])<mu u t ds:=by
 have ok:=uok n hn;have T1:=hv.tree I.tr ok.1;cases hv with
 |made h1 hf hfree hp hr =>
  have hp':v.Perm (n::t):=hp;have mem:∀m,m∈v↔m=n∨m∈t:=λm=>by rw[hp'.mem_iff,mem_cons]
  have pl:∀x∈u,cm t x→cm v x:=λx _ ⟨m,hm,e⟩=>⟨m,(mem m).mpr (.inr hm),e⟩;have pn:cm v n:=⟨n,(mem n).mpr (.inl rfl),rfl,rfl,rfl⟩;have np:¬cm t n:=λ⟨m,hm,e,_⟩=>h1 ⟨m,hm,e⟩;have lt:mu u v (ds++[.make n.num n.par n.nm n.st])<mu u t ds:=by
   refine rl (le_of_eq ?_) pl (λk h=>cS.mpr (.inl h)) (.inr (.inl ⟨n,hn,pn,np⟩));rw[(hp'.filter _).length_eq,filter_cons];rw[show decide (¬TW.ax u n.num)=false from decide_eq_false λh=>h ⟨n,hn,rfl⟩];rfl
  refine⟨⟨T1,λm hm x hx e=>?_,λm hm x hx e hM hq=>?_,λm hm=>?_,λm hm=>?_,nC I.cnt lt⟩,lt⟩
  ·rcases (mem m).mp hm with rfl|hm
   ·rw[U.inj hn hx e]
   ·exact I.sk m hm x hx e
  ·rcases cS.mp hM with h|⟨h,_⟩
   ·rcases (mem m).mp hm with rfl|hm
    ·rw[U.inj hn hx e]at pn;exact absurd pn hq
    ·exact I.as m hm x hx e h λh'=>hq (pl x hx h')
   ·cases h
  ·rcases (mem m).mp hm with rfl|hm
   ·exact ok
   ·exact I.ok m hm
  ·rcases (mem m).mp hm with rfl|hm
   ·exact .inr ⟨_,hn,rfl⟩
   ·exact I.sub m hm
theorem oD(U:TW.Tree1 u)(I:Iv t0 u t ds){n y:Nd}(hn:n∈u)(hy:y∈t)(ey:y.num=n.num)(np:¬cm t n){p:Int}{nm:Str}(h0:0≤p)(h1:p≤99)(hl:nm.length≤100)(told:TW.Told t (.move n.num p nm) (.inr (t.map (TW.put ⟨n.num,p,nm,y.st⟩))))(hw:(p=n.par∧nm=n.nm)∨(¬da ds n.num∧p=0∧∀x∈u,x.par=0→x.nm≠nm)):Iv t0 u (t.map (TW.put ⟨n.num,p,nm,y.st⟩)) (ds++[.move n.num p nm])∧mu u (t.map (TW.put ⟨n.num,p,nm,y.st⟩)) (ds++[.move n.num p nm])<mu u t ds:=by
 have T1:=told.tree I.tr trivial;have oky:=I.ok y hy;have ex:∃m∈t,m.num=(⟨n.num,p,nm,y.st⟩:Nd).num:=⟨y,hy,ey⟩;have pl:∀x∈u,cm t x→cm (t.map (TW.put ⟨n.num,p,nm,y.st⟩)) x:=λx hx ⟨m,hm,e1,e2,e3⟩=>by
  by_cases e:m.num=n.num
  ·have:x=n:=U.inj hx hn (e1.symm.trans e);subst this;exact absurd ⟨m,hm,e1,e2,e3⟩ np
  ·exact⟨m,iG hm e,e1,e2,e3⟩
 have mv:da (ds++[.move n.num p nm]) n.num:=cS.mpr (.inr ⟨rfl,rfl⟩);have lt:mu u (t.map (TW.put ⟨n.num,p,nm,y.st⟩)) (ds++[.move n.num p nm])<mu u t ds:=by
  refine rl (le_of_eq (rn ex)) pl (λk h=>cS.mpr (.inl h)) (.inr ?_);rcases hw with⟨e1,e2⟩|⟨h2,_⟩
  ·exact .inl ⟨n,hn,⟨_,gY hy ey,rfl,e1,e2⟩,np⟩
  ·exact .inr ⟨n,hn,np,h2,mv⟩
 refine⟨⟨T1,λm hm x hx e=>?_,λm hm x hx e hM hq=>?_,λm hm=>?_,λm hm=>?_,nC I.cnt lt⟩,lt⟩
 ·rcases put_mem hm with⟨rfl,_⟩|⟨hm,_⟩
  ·exact I.sk y hy x hx (ey.trans e)
  ·exact I.sk m hm x hx e
 ·rcases put_mem hm with⟨rfl,_⟩|⟨hm,hne⟩
  ·have:n=x:=U.inj hn hx e;subst this;rcases hw with⟨e1,e2⟩|⟨_,e1,e2⟩
   ·exact absurd ⟨_,gY hy ey,rfl,e1,e2⟩ hq
   ·exact⟨e1,e2⟩
  ·rcases cS.mp hM with h|⟨_,h⟩
   ·exact I.as m hm x hx e h λh'=>hq (pl x hx h')
   ·exact absurd h.symm hne
 ·rcases put_mem hm with⟨rfl,_⟩|⟨hm,_⟩
  ·exact⟨by have:=oky.1;rw[ey]at this;exact this,by have:=oky.2.1;rw[ey]at this;exact this,h0,h1,hl⟩
  ·exact I.ok m hm
 ·rcases put_mem hm with⟨rfl,_⟩|⟨hm,_⟩
  ·exact .inr ⟨_,hn,rfl⟩
  ·exact I.sub m hm
theorem ut(U:TW.Tree1 u)(uok:∀n∈u,cO n)(hl:t0.length+u.length≤29):Sound u (Iv t0 u) (mu u):=by
 refine⟨λt ds I=>⟨?_,by have:=I.cnt;omega,I.sk⟩,λt ds d I h=>?_,λt ds I h=>(fj I.tr U I.sk I.as h).2⟩
 ·have nd:(t.map (·.num)).Nodup:=by
   have:=I.tr.rise;unfold Nodup;rw[pairwise_map];exact this.imp λh e=>by omega
  have:=Nodup.length_le_of_subset nd (l₂:=t0.map (·.num)++u.map (·.num)) λk hk=>by
   obtain⟨m,hm,rfl⟩:=mem_map.mp hk;rcases I.sub m hm with⟨x,hx,e⟩|⟨x,hx,e⟩
   ·exact mem_append_left _ (mem_map.mpr ⟨x,hx,e⟩)
   ·exact mem_append_right _ (mem_map.mpr ⟨x,hx,e⟩)
  rw[length_map,length_append,length_map,length_map]at this;omega
 ·have place:∀{n:Nd}{e:TW.Deed Str},n∈u→TW.Plc t n (some e)→Okd t e→cB e∧∃t1,TW.Told t e (.inr t1)∧Iv t0 u t1 (ds++[e])∧mu u t1 (ds++[e])<mu u t ds:=λ{n e} hn hp hok=>by
   obtain⟨v,hv⟩:=hok;obtain⟨k1,k2,k3,k4,k5⟩:=uok n hn;cases hp with
   |new h1 =>
    exact⟨⟨k1,k2,k3,k4,k5⟩,v,hv,tF U I uok hn hv⟩
   |@mv m hm em hne =>
    have np:¬cm t n:=λ⟨m',hm',e1,e2,e3⟩=>hne (by
     have:m'=m:=I.tr.inj hm' hm (e1.trans em.symm);subst this;exact⟨e2,e3⟩)
    have hv':=hv;cases hv with
    |@moved _ _ _ y hy ey hf hi ht =>
     exact⟨⟨k1,k2,k3,k4,k5⟩,_,hv',oD U I hn hy ey np k3 k4 k5 hv' (.inl ⟨rfl,rfl⟩)⟩
  cases h with
  |drop hx=>exact tE U I hx
  |place hno hP hf =>
   obtain⟨a,b,e,_,hok⟩:=hf;obtain⟨n,hn,hpc⟩:=eM hP d (by rw[e];simp);exact place hn hpc hok
  |@aside ps d0 c hno hP href hf hc =>
   obtain⟨a,b,e,_,hm1,hm2⟩:=hf;obtain⟨n,hn,hpc⟩:=eM hP d0 (by rw[e];simp);obtain⟨k1,k2,k3,k4,k5⟩:=uok n hn;cases hpc with
   |new _=>cases hm1
   |@mv m hm em hne =>
    have np:¬cm t n:=λ⟨m',hm',e1,e2,e3⟩=>hne (by
     have:m'=m:=I.tr.inj hm' hm (e1.trans em.symm);subst this;exact⟨e2,e3⟩)
    have cl:(bG c).length≤100:=by have:=pH c hc.lt;omega
    have told:TW.Told t (.move n.num 0 (bG c)) (.inr (t.map (TW.put ⟨n.num,0,bG c,m.st⟩))):=.moved hm em (.inl rfl) (λh=>absurd rfl h) λx hx _ ⟨e1,e2⟩=>hc.no ⟨x,.inl hx,e1,e2⟩;exact⟨⟨k1,k2,by decide,by decide,cl⟩,_,told,oD U I hn hm em np (by decide) (by decide) cl told (.inr ⟨hm2,rfl,λx hx h0 he=>hc.no ⟨x,.inr hx,h0,he⟩⟩)⟩
end
open Classical in
theorem lP{t0 u:List Nd}(T:TW.Tree1 t0)(sk:cY t0 u)(ok:∀n∈t0,cO n)(hl:t0.length+u.length≤29):Iv t0 u t0 []:=by
 refine⟨T,sk,λm _ n _ _ ⟨d,hd,_⟩=>(by cases hd),ok,λm hm=>.inl ⟨m,hm,rfl⟩,?_⟩;unfold mu;have h1:=length_filter_le (λm:Nd=>decide (¬TW.ax u m.num)) t0;have h2:=length_filter_le (λn:Nd=>decide (¬cm t0 n)) u;have h3:=length_filter_le (λn:Nd=>decide (¬cm t0 n∧¬da [] n.num)) u;show 0+_≤200;omega
inductive Trace(u t0:List Nd):List (TW.Deed Str)→List Nd→Prop where
 |nil:Trace u t0 [] t0
 |snoc {ds:List (TW.Deed Str)} {t t1:List Nd} {d:TW.Deed Str}:Trace u t0 ds t→Nxt t u ds (some d)→TW.Told t d (.inr t1)→Trace u t0 (ds++[d]) t1
theorem lQ{t0 u:List Nd}(U:TW.Tree1 u)(uok:∀n∈u,cO n)(hl:t0.length+u.length≤29):Sound u (λt ds=>Iv t0 u t ds∧Trace u t0 ds t) (mu u):=by
 have S:=ut (t0:=t0) U uok hl;refine⟨λt ds h=>S.bd t ds h.1,λt ds d h hn=>?_,λt ds h hn=>S.fin t ds h.1 hn⟩;obtain⟨ok,t1,told,i1,lt⟩:=S.nx t ds d h.1 hn;exact⟨ok,t1,told,⟨i1,.snoc h.2 hn told⟩,lt⟩
theorem eN{α:Type}{p:α→Prop}{l:List α}{x:α}(h:ky l p x):x∈l∧p x:=by
 obtain⟨a,b,e,_,h2⟩:=h;exact⟨by rw[e];simp,h2⟩
def eR:TW.Deed Str→Str
 |.make _ _ _ _=>"make"
 |.write _ _=>"write"
 |.move _ _ _=>"move"
 |.drop _=>"drop"
def wds(k:Int)(ds:List (TW.Deed Str)):List Str:=(ds.filter λd=>decide (bh d=k)).map eR
theorem bZ(k:Int)(ds es:List (TW.Deed Str)):wds k (ds++es)=wds k ds++wds k es:=by unfold wds;rw[filter_append,map_append]
theorem fw{k:Int}{d:TW.Deed Str}(h:bh d=k):wds k [d]=[eR d]:=by unfold wds;rw[filter_cons,decide_eq_true h];rfl
theorem fk{k:Int}{d:TW.Deed Str}(h:bh d≠k):wds k [d]=[]:=by unfold wds;rw[filter_cons,decide_eq_false h];rfl
theorem ro{k:Int}{ds:List (TW.Deed Str)}(h:("move":Str)∈wds k ds):da ds k:=by
 unfold wds at h;obtain⟨d,hd,e⟩:=mem_map.mp h;obtain⟨h1,h2⟩:=mem_filter.mp hd;refine⟨d,h1,?_,of_decide_eq_true h2⟩;cases d with
 |make _ _ _ _=>exact absurd e (show ¬(("make":Str)="move")by decide +kernel)
 |write _ _=>exact absurd e (show ¬(("write":Str)="move")by decide +kernel)
 |move _ _ _=>rfl
 |drop _=>exact absurd e (show ¬(("drop":Str)="move")by decide +kernel)
structure Cnt(t0 u:List Nd)(ds:List (TW.Deed Str))(t:List Nd):Prop where
 out:∀k,¬TW.ax u k→wds k ds=[]∨(wds k ds=[("drop":Str)]∧¬TW.ax t k)
 new:∀n∈u,¬TW.ax t0 n.num→(wds n.num ds=[]∧¬TW.ax t n.num)∨(wds n.num ds=[("make":Str)]∧n∈t)
 old:∀n∈u,∀o∈t0,o.num=n.num→∃m∈t,m.num=n.num∧m.st=o.st∧((wds n.num ds=[]∧m.par=o.par∧m.nm=o.nm)∨(wds n.num ds=[("move":Str)]∧¬(o.par=n.par∧o.nm=n.nm))∨(wds n.num ds=[("move":Str),("move":Str)]∧¬(o.par=n.par∧o.nm=n.nm)∧cm t n))
section
variable{t0 u t:List Nd}{ds:List (TW.Deed Str)}
theorem pJ:Cnt t0 u [] t0:=⟨λk _=>.inl rfl,λn hn h=>.inl ⟨rfl,h⟩,λn hn o ho e=>⟨o,ho,e,rfl,.inl ⟨rfl,rfl,rfl⟩⟩⟩
theorem rp(T:TW.Tree1 t)(C:Cnt t0 u ds t){x:Nd}(hx:ky t (TW.dS t u) x){t1:List Nd}(told:TW.Told t (.drop x.num) (.inr t1)):Cnt t0 u (ds++[.drop x.num]) t1:=by
 obtain⟨mx,hd⟩:=eN hx;have x0:x.num≠0:=by have:=T.pos x mx;omega
 have xu:¬TW.ax u x.num:=λh=>hd.1 ⟨x0,x,mx,h,.here⟩;cases told with
 |@dropped _ f _ hf =>
  have stay:∀m∈t,TW.ax u m.num→m∈t.filter f:=λm hm hu=>mem_filter.mpr ⟨hm,(hf m hm).mpr λh=>hd.1 ⟨x0,m,hm,hu,h⟩⟩;have sub:∀m,m∈t.filter f→m∈t:=λm hm=>(mem_filter.mp hm).1;have subN:∀k,TW.ax (t.filter f) k→TW.ax t k:=λk ⟨m,hm,e⟩=>⟨m,sub m hm,e⟩;have nu:∀n∈u,wds n.num (ds++[.drop x.num])=wds n.num ds:=λn hn=>by
   rw[bZ,fk (show bh (TW.Deed.drop x.num:TW.Deed Str)≠n.num from λe=>xu ⟨n,hn,e.symm⟩),append_nil]
  refine⟨λk hk=>?_,λn hn h=>?_,λn hn o ho e=>?_⟩
  ·by_cases e:x.num=k
   ·right
    subst e;have h0:wds x.num ds=[]:=by
     rcases C.out x.num hk with h|⟨_,h⟩
     ·exact h
     ·exact absurd ⟨x,mx,rfl⟩ h
    refine⟨by rw[bZ,h0,fw (show bh (TW.Deed.drop x.num:TW.Deed Str)=x.num from rfl)];rfl,λ⟨m,hm,em⟩=>?_⟩;obtain⟨h1,h2⟩:=mem_filter.mp hm;exact(hf m h1).mp h2 (by rw[em];exact .here)
   ·rw[bZ,fk (show bh (TW.Deed.drop x.num:TW.Deed Str)≠k from e),append_nil];rcases C.out k hk with h|⟨h,h'⟩
    ·exact .inl h
    ·exact .inr ⟨h,λh2=>h' (subN k h2)⟩
  ·rw[nu n hn];rcases C.new n hn h with⟨a,b⟩|⟨a,b⟩
   ·exact .inl ⟨a,λh2=>b (subN _ h2)⟩
   ·exact .inr ⟨a,stay n b ⟨n,hn,rfl⟩⟩
  ·rw[nu n hn];obtain⟨m,hm,e1,e2,h⟩:=C.old n hn o ho e;refine⟨m,stay m hm ⟨n,hn,e1.symm⟩,e1,e2,?_⟩;rcases h with h|h|⟨a,b,m',hm',f1,f2⟩
   ·exact .inl h
   ·exact .inr (.inl h)
   ·exact .inr (.inr ⟨a,b,m',stay m' hm' ⟨n,hn,f1.symm⟩,f1,f2⟩)
theorem rq(U:TW.Tree1 u)(C:Cnt t0 u ds t){n:Nd}(hn:n∈u)(h1:¬TW.ax t n.num){v:List Nd}(told:TW.Told t (.make n.num n.par n.nm n.st) (.inr v)):Cnt t0 u (ds++[.make n.num n.par n.nm n.st]) v:=by
 cases told with
 |made _ _ _ hp _ =>
  have hp':v.Perm (n::t):=hp;have mem:∀m,m∈v↔m=n∨m∈t:=λm=>by rw[hp'.mem_iff,mem_cons]
  have hasV:∀k,k≠n.num→TW.ax v k→TW.ax t k:=λk hk ⟨m,hm,e⟩=>by
   rcases (mem m).mp hm with rfl|hm
   ·exact absurd e.symm hk
   ·exact⟨m,hm,e⟩
  have other:∀k,k≠n.num→wds k (ds++[.make n.num n.par n.nm n.st])=wds k ds:=λk hk=>by
   rw[bZ,fk (show bh (TW.Deed.make n.num n.par n.nm n.st:TW.Deed Str)≠k from symm hk),append_nil]
  refine⟨λk hk=>?_,λx hx h=>?_,λx hx o ho e=>?_⟩
  ·have ne:k≠n.num:=λe=>hk ⟨n,hn,e.symm⟩;rw[other k ne];rcases C.out k hk with h|⟨h,h'⟩
   ·exact .inl h
   ·exact .inr ⟨h,λh2=>h' (hasV k ne h2)⟩
  ·by_cases e:x.num=n.num
   ·have:x=n:=U.inj hx hn e;subst this
    right
    have h0:wds x.num ds=[]:=by
     rcases C.new x hx h with⟨a,_⟩|⟨_,b⟩
     ·exact a
     ·exact absurd ⟨x,b,rfl⟩ h1
    exact⟨by rw[bZ,h0,fw (show bh (TW.Deed.make x.num x.par x.nm x.st:TW.Deed Str)=x.num from rfl)];rfl,(mem x).mpr (.inl rfl)⟩
   ·rw[other _ e];rcases C.new x hx h with⟨a,b⟩|⟨a,b⟩
    ·exact .inl ⟨a,λh2=>b (hasV _ e h2)⟩
    ·exact .inr ⟨a,(mem x).mpr (.inr b)⟩
  ·obtain⟨m,hm,e1,e2,h⟩:=C.old x hx o ho e;have ne:x.num≠n.num:=λe'=>h1 ⟨m,hm,e1.trans e'⟩;rw[other _ ne];refine⟨m,(mem m).mpr (.inr hm),e1,e2,?_⟩;rcases h with h|h|⟨a,b,m',hm',f1⟩
   ·exact .inl h
   ·exact .inr (.inl h)
   ·exact .inr (.inr ⟨a,b,m',(mem m').mpr (.inr hm'),f1⟩)
theorem lR(T:TW.Tree1 t)(U:TW.Tree1 u)(C:Cnt t0 u ds t){n y:Nd}(hn:n∈u)(hy:y∈t)(ey:y.num=n.num)(np:¬cm t n){p:Int}{nm:Str}(hw:(p=n.par∧nm=n.nm)∨¬da ds n.num):Cnt t0 u (ds++[.move n.num p nm]) (t.map (TW.put ⟨n.num,p,nm,y.st⟩)):=by
 have other:∀k,k≠n.num→wds k (ds++[.move n.num p nm])=wds k ds:=λk hk=>by
  rw[bZ,fk (show bh (TW.Deed.move n.num p nm:TW.Deed Str)≠k from symm hk),append_nil]
 have hasV:∀k,TW.ax (t.map (TW.put ⟨n.num,p,nm,y.st⟩)) k→TW.ax t k:=λk ⟨m,hm,e⟩=>by
  rcases put_mem hm with⟨rfl,_⟩|⟨hm,_⟩
  ·exact⟨y,hy,ey.trans e⟩
  ·exact⟨m,hm,e⟩
 refine⟨λk hk=>?_,λx hx h=>?_,λx hx o ho e=>?_⟩
 ·have ne:k≠n.num:=λe=>hk ⟨n,hn,e.symm⟩;rw[other k ne];rcases C.out k hk with h|⟨h,h'⟩
  ·exact .inl h
  ·exact .inr ⟨h,λh2=>h' (hasV k h2)⟩
 ·by_cases e:x.num=n.num
  ·have:x=n:=U.inj hx hn e;subst this;rcases C.new x hx h with⟨_,b⟩|⟨_,b⟩
   ·exact absurd ⟨y,hy,ey⟩ b
   ·exact absurd ⟨x,b,rfl,rfl,rfl⟩ np
  ·rw[other _ e];rcases C.new x hx h with⟨a,b⟩|⟨a,b⟩
   ·exact .inl ⟨a,λh2=>b (hasV _ h2)⟩
   ·exact .inr ⟨a,iG b e⟩
 ·obtain⟨m,hm,e1,e2,h⟩:=C.old x hx o ho e
  by_cases en:x.num=n.num
  ·have:x=n:=U.inj hx hn en;subst this;have my:m=y:=T.inj hm hy (e1.trans ey.symm);subst my;refine⟨_,gY hy ey,rfl,e2,?_⟩;have hwd:wds x.num (ds++[.move x.num p nm])=wds x.num ds++[("move":Str)]:=by rw[bZ,fw (show bh (TW.Deed.move x.num p nm:TW.Deed Str)=x.num from rfl)];rfl
   rw[hwd];rcases h with⟨a,b,c⟩|⟨a,b⟩|⟨_,_,b⟩
   ·exact .inr (.inl ⟨by rw[a];rfl,λ⟨f1,f2⟩=>np ⟨m,hm,e1,b.trans f1,c.trans f2⟩⟩)
   ·rcases hw with⟨g1,g2⟩|g
    ·exact .inr (.inr ⟨by rw[a];rfl,b,_,gY hy ey,rfl,g1,g2⟩)
    ·exact absurd (ro (by rw[a];exact mem_cons_self)) g
   ·exact absurd b np
  ·rw[other _ en];have mne:m.num≠n.num:=λe'=>en (e1.symm.trans e');refine⟨m,iG hm mne,e1,e2,?_⟩;rcases h with h|h|⟨a,b,m',hm',f1,f2⟩
   ·exact .inl h
   ·exact .inr (.inl h)
   ·exact .inr (.inr ⟨a,b,m',iG hm' (λe'=>en (f1.symm.trans e')),f1,f2⟩)
theorem rs(T:TW.Tree1 t)(U:TW.Tree1 u)(C:Cnt t0 u ds t){d:TW.Deed Str}(hn:Nxt t u ds (some d)){t1:List Nd}(told:TW.Told t d (.inr t1)):Cnt t0 u (ds++[d]) t1:=by
 have notp:∀{n m:Nd},m∈t→m.num=n.num→¬(m.par=n.par∧m.nm=n.nm)→¬cm t n:=λ{n m} hm em hne ⟨m',hm',e1,e2,e3⟩=>hne (by
  have:m'=m:=T.inj hm' hm (e1.trans em.symm);subst this;exact⟨e2,e3⟩)
 cases hn with
 |drop hx=>exact rp T C hx told
 |place hno hP hf =>
  obtain⟨n,hn,hpc⟩:=eM hP d (eN hf).1;cases hpc with
  |new h1=>exact rq U C hn h1 told
  |mv hm em hne =>
   have np:=notp hm em hne;cases told with
   |moved hy ey _ _ _=>exact lR T U C hn hy ey np (.inl ⟨rfl,rfl⟩)
 |@aside ps d0 c hno hP href hf hc =>
  obtain⟨h0,hm1,hm2⟩:=eN hf;obtain⟨n,hn,hpc⟩:=eM hP d0 h0;cases hpc with
  |new _=>cases hm1
  |mv hm em hne =>
   have np:=notp hm em hne;cases told with
   |moved hy ey _ _ _=>exact lR T U C hn hy ey np (.inr hm2)
theorem oE(U:TW.Tree1 u){d:TW.Deed Str}(h:Nxt t u ds (some d)):d.pos:=by
 cases h with
 |drop _=>trivial
 |place _ hP hf =>
  obtain⟨n,hn,hpc⟩:=eM hP d (eN hf).1;cases hpc with
  |new _=>exact U.pos n hn
  |mv _ _ _=>trivial
 |aside _ _ _ _ _=>trivial
theorem jU(U:TW.Tree1 u)(T0:TW.Tree1 t0)(h:Trace u t0 ds t):TW.Tree1 t∧Cnt t0 u ds t:=by
 induction h with
 |nil=>exact⟨T0,pJ⟩
 |snoc _ hn told ih=>exact⟨told.tree ih.1 (oE U hn),rs ih.1 U ih.2 hn told⟩
theorem lS(nd:(t.map (·.num)).Nodup){m:Nd}(hm:m∈t):wds m.num (cj t u)=if m.st=cZ u m.num then []else [("write":Str)]:=by
 unfold cj
 induction t with
 |nil=>cases hm
 |cons x r ih =>
  rw[map_cons,nodup_cons]at nd;have hno:∀k,(∀y∈r,y.num≠k)→wds k ((r.filter λn=>!decide (n.st=cZ u n.num)).map λn=>(.write n.num ((cZ u n.num).getD 0):TW.Deed Str))=[]:=λk hk=>by
   unfold wds;rw[map_eq_nil_iff,filter_eq_nil_iff];intro d hd h;obtain⟨y,hy,rfl⟩:=mem_map.mp hd;exact hk y (mem_filter.mp hy).1 (of_decide_eq_true h)
  have split:(((x::r).filter λn=>!decide (n.st=cZ u n.num)).map λn=>(.write n.num ((cZ u n.num).getD 0):TW.Deed Str))=(if x.st=cZ u x.num then []else [(.write x.num ((cZ u x.num).getD 0):TW.Deed Str)])++((r.filter λn=>!decide (n.st=cZ u n.num)).map λn=>(.write n.num ((cZ u n.num).getD 0):TW.Deed Str)):=by
   rw[filter_cons]
   by_cases e:x.st=cZ u x.num
   ·rw[if_pos e,decide_eq_true e];rfl
   ·rw[if_neg e,decide_eq_false e];rfl
  rw[split,bZ];rcases mem_cons.mp hm with e|hm
  ·subst e;rw[hno m.num λy hy e=>nd.1 (mem_map.mpr ⟨y,hy,e⟩),append_nil]
   by_cases e:m.st=cZ u m.num
   ·rw[if_pos e,if_pos e];rfl
   ·rw[if_neg e,if_neg e,fw (show bh (TW.Deed.write m.num ((cZ u m.num).getD 0):TW.Deed Str)=m.num from rfl)];rfl
  ·have ne:x.num≠m.num:=λe=>nd.1 (mem_map.mpr ⟨m,hm,e.symm⟩);rw[ih nd.2 hm]
   by_cases e:x.st=cZ u x.num
   ·rw[if_pos e];rfl
   ·rw[if_neg e,fk (show bh (TW.Deed.write x.num ((cZ u x.num).getD 0):TW.Deed Str)≠m.num from ne)];rfl
theorem ix{k:Int}(h:¬TW.ax t k):wds k (cj t u)=[]:=by
 unfold wds cj;rw[map_eq_nil_iff,filter_eq_nil_iff];intro d hd h';obtain⟨y,hy,rfl⟩:=mem_map.mp hd;exact h ⟨y,(mem_filter.mp hy).1,of_decide_eq_true h'⟩
end
section
variable{t0 u tt:List Nd}{dd:List (TW.Deed Str)}
theorem fz{t:List Nd}(T:TW.Tree1 t):(t.map (·.num)).Nodup:=by
 have:=T.rise;unfold Nodup;rw[pairwise_map];exact this.imp λh e=>by omega
theorem tG(T0:TW.Tree1 t0)(U:TW.Tree1 u)(I:Iv t0 u tt dd)(h:Trace u t0 dd tt)(hn:Nxt tt u dd none){n:Nd}(hu:n∈u)(h0:¬TW.ax t0 n.num):wds n.num (dd++cj tt u)=[("make":Str)]:=by
 obtain⟨h1,h2⟩:=fj I.tr U I.sk I.as hn;obtain⟨T,C⟩:=jU U T0 h;rcases C.new n hu h0 with⟨_,no⟩|⟨e,hm⟩
 ·obtain⟨m,hm,em,_⟩:=h1 n hu;exact absurd ⟨m,hm,em⟩ no
 ·rw[bZ,e,lS (fz T) hm,kG (fz U) hu,if_pos rfl];rfl
theorem tH(T0:TW.Tree1 t0)(U:TW.Tree1 u)(I:Iv t0 u tt dd)(h:Trace u t0 dd tt)(hn:Nxt tt u dd none){n o:Nd}(hu:n∈u)(ho:o∈t0)(eo:o.num=n.num):
  ∃ms:List Str,wds n.num (dd++cj tt u)=ms++(if o.st=n.st then []else [("write":Str)])∧((ms=[]∧o.par=n.par∧o.nm=n.nm)∨((ms=[("move":Str)]∨ms=[("move":Str),("move":Str)])∧¬(o.par=n.par∧o.nm=n.nm))):=by
 obtain⟨h1,h2⟩:=fj I.tr U I.sk I.as hn;obtain⟨T,C⟩:=jU U T0 h;obtain⟨m,hm,em,es,hc⟩:=C.old n hu o ho eo;have ew:wds n.num (cj tt u)=if o.st=n.st then []else [("write":Str)]:=by
  rw[←em,lS (fz T) hm,em,kG (fz U) hu,es]
 refine⟨wds n.num dd,by rw[bZ,ew],?_⟩;rcases hc with⟨e,e1,e2⟩|⟨e,ne⟩|⟨e,ne,_⟩
 ·obtain⟨m',hm',em',ep,en⟩:=h1 n hu;have:=T.inj hm hm' (em.trans em'.symm);subst this;exact .inl ⟨e,e1.symm.trans ep,e2.symm.trans en⟩
 ·exact .inr ⟨.inl e,ne⟩
 ·exact .inr ⟨.inr e,ne⟩
end
section
variable{t0 u t:List Nd}{ds:List (TW.Deed Str)}
end
def rA(u:List Nd)(o:Nd):Prop:=o.par=0∨TW.ax u o.par
structure Tps(t0 u:List Nd)(ds:List (TW.Deed Str))(t:List Nd):Prop where
 old:∀o∈t0,¬TW.ax u o.num→(o∈t∧wds o.num ds=[])∨(¬TW.ax t o.num∧((rA u o∧wds o.num ds=[("drop":Str)])∨(¬rA u o∧wds o.num ds=[])))
 no:∀k,¬TW.ax u k→¬TW.ax t0 k→¬TW.ax t k∧wds k ds=[]
section
variable{t0 u t:List Nd}{ds:List (TW.Deed Str)}
theorem pK(T0:TW.Tree1 t0):Tps t0 u [] t0:=⟨λo ho _=>.inl ⟨ho,rfl⟩,λk _ h=>⟨h,rfl⟩⟩
theorem il(C:Tps t0 u ds t){d:TW.Deed Str}(hd:TW.ax u (bh d)){v:List Nd}(hv:∀m:Nd,m.num≠bh d→(m∈v↔m∈t)):Tps t0 u (ds++[d]) v:=by
 have ne:∀k,¬TW.ax u k→k≠bh d:=λk hk e=>hk (e ▸ hd);have ew:∀k,¬TW.ax u k→wds k (ds++[d])=wds k ds:=λk hk=>by rw[bZ,fk (ne k hk).symm,append_nil]
 have hh:∀k,¬TW.ax u k→(TW.ax v k↔TW.ax t k):=λk hk=>⟨λ⟨m,hm,e⟩=>⟨m,(hv m (by rw[e];exact ne k hk)).mp hm,e⟩,λ⟨m,hm,e⟩=>⟨m,(hv m (by rw[e];exact ne k hk)).mpr hm,e⟩⟩;refine⟨λo ho hk=>?_,λk hk h0=>?_⟩
 ·rw[ew _ hk,hh _ hk,hv o (ne _ hk)];exact C.old o ho hk
 ·rw[ew _ hk,hh _ hk];exact C.no k hk h0
theorem rB(T:TW.Tree1 t)(U:TW.Tree1 u)(C:Tps t0 u ds t){d:TW.Deed Str}(hn:Nxt t u ds (some d)){t1:List Nd}(told:TW.Told t d (.inr t1)):Tps t0 u (ds++[d]) t1:=by
 have mvd:∀{n y:Nd}{p:Int}{nm:Str},∀m:Nd,m.num≠n.num→(m∈t.map (TW.put ⟨n.num,p,nm,y.st⟩)↔m∈t):=λ{n y p nm} m hm=>TW.put_mem (z:=⟨n.num,p,nm,y.st⟩) hm;cases hn with
 |drop hx =>
  rename_i x
  obtain⟨mx,hd⟩:=eN hx;have x0:x.num≠0:=by have:=T.pos x mx;omega
  have xu:¬TW.ax u x.num:=λh=>hd.1 ⟨x0,x,mx,h,.here⟩;cases told with
  |@dropped _ f _ hf =>
   have ew:∀k,k≠x.num→wds k (ds++[.drop x.num])=wds k ds:=λk hk=>by rw[bZ,fk (show bh (TW.Deed.drop x.num:TW.Deed Str)≠k from hk.symm),append_nil]
   have sub:∀k,TW.ax (t.filter f) k→TW.ax t k:=λk ⟨m,hm,e⟩=>⟨m,(mem_filter.mp hm).1,e⟩;have mine:x∈t0∧wds x.num ds=[]:=by
    by_cases h0:TW.ax t0 x.num
    ·obtain⟨o,mo,eo⟩:=h0;rcases C.old o mo (by rw[eo];exact xu)with⟨h1,h2⟩|⟨h1,_⟩
     ·have:=T.inj h1 mx eo;subst this;exact⟨mo,h2⟩
     ·exact absurd ⟨x,mx,eo.symm⟩ h1
    ·exact absurd ⟨x,mx,rfl⟩ (C.no _ xu h0).1
   refine⟨λo ho hk=>?_,λk hk h0=>?_⟩
   ·by_cases e:o.num=x.num
    ·right
     have gone:¬TW.ax (t.filter f) o.num:=λ⟨m,hm,em⟩=>by
      obtain⟨h1,h2⟩:=mem_filter.mp hm;exact(hf m h1).mp h2 (by rw[em,e];exact .here)
     have ox:o=x:=by
      rcases C.old o ho hk with⟨h1,_⟩|⟨h1,_⟩
      ·exact T.inj h1 mx e
      ·exact absurd ⟨x,mx,e.symm⟩ h1
     subst ox;refine⟨gone,.inl ⟨hd.2,?_⟩⟩;rw[bZ,mine.2,fw (show bh (TW.Deed.drop o.num:TW.Deed Str)=o.num from rfl)];rfl
    ·rw[ew _ e];rcases C.old o ho hk with⟨h1,h2⟩|⟨h1,h2⟩
     ·by_cases hu:TW.Und t x.num o.num
      ·right
       refine⟨λ⟨m,hm,em⟩=>?_,.inr ⟨λtp=>?_,h2⟩⟩
       ·obtain⟨h3,h4⟩:=mem_filter.mp hm;exact(hf m h3).mp h4 (by rw[em];exact hu)
       ·have hup:=((TW.gU T h1).mp hu).resolve_left λz=>e z.symm;rcases tp with h0|h0
        ·exact x0 (hup.zero T h0)
        ·rcases TW.cF T h1 with z|⟨m,hm,_,em⟩
         ·exact x0 (hup.zero T z)
         ·exact hd.1 ⟨x0,m,hm,by rw[em];exact h0,by rw[em];exact hup⟩
      ·exact .inl ⟨mem_filter.mpr ⟨h1,(hf o h1).mpr hu⟩,h2⟩
     ·exact .inr ⟨λz=>h1 (sub _ z),h2⟩
   ·have hx0:k≠x.num:=λz=>h0 ⟨x,mine.1,z.symm⟩;obtain⟨h1,h2⟩:=C.no k hk h0;exact⟨λz=>h1 (sub _ z),by rw[ew k hx0];exact h2⟩
 |place hno hP hf =>
  obtain⟨n,hn,hpc⟩:=eM hP d (eN hf).1;cases hpc with
  |new h1 =>
   cases told with
   |made _ _ _ hp _ =>
    refine il C (show TW.ax u (bh (TW.Deed.make n.num n.par n.nm n.st))from⟨n,hn,rfl⟩) λm hm=>?_;rw[hp.mem_iff,mem_cons];exact⟨λz=>z.resolve_left λz=>hm (by rw[z];rfl),.inr⟩
  |mv hm em hne =>
   cases told with
   |moved hy ey _ _ _=>exact il C (show TW.ax u (bh (TW.Deed.move n.num n.par n.nm))from⟨n,hn,rfl⟩) λm hm=>mvd m hm
 |@aside ps d0 c hno hP href hf hc =>
  obtain⟨h0,hm1,hm2⟩:=eN hf;obtain⟨n,hn,hpc⟩:=eM hP d0 h0;cases hpc with
  |new _=>cases hm1
  |mv hm em hne =>
   cases told with
   |moved hy ey _ _ _=>exact il C (show TW.ax u (bh (TW.Deed.move n.num 0 (bG c)))from⟨n,hn,rfl⟩) λm hm=>mvd m hm
theorem jV(U:TW.Tree1 u)(T0:TW.Tree1 t0)(h:Trace u t0 ds t):TW.Tree1 t∧Tps t0 u ds t:=by
 induction h with
 |nil=>exact⟨T0,pK T0⟩
 |@snoc ds t t1 d _ hn told ih =>
  obtain⟨T,C⟩:=ih;exact⟨told.tree T (oE U hn),rB T U C hn told⟩
variable{tt:List Nd}{dd:List (TW.Deed Str)}
theorem tI(T0:TW.Tree1 t0)(U:TW.Tree1 u)(I:Iv t0 u tt dd)(h:Trace u t0 dd tt)(hn:Nxt tt u dd none){o:Nd}(ho:o∈t0)(hk:¬TW.ax u o.num):(rA u o∧wds o.num (dd++cj tt u)=[("drop":Str)])∨(¬rA u o∧wds o.num (dd++cj tt u)=[]):=by
 obtain⟨h1,h2⟩:=fj I.tr U I.sk I.as hn;obtain⟨T,C⟩:=jV U T0 h;have no:¬TW.ax tt o.num:=λ⟨m,hm,em⟩=>hk (em ▸ h2 m hm);rw[bZ,ix no,append_nil];rcases C.old o ho hk with⟨h3,_⟩|⟨_,h3⟩
 ·exact absurd ⟨o,h3,rfl⟩ no
 ·exact h3
theorem rC(T0:TW.Tree1 t0)(U:TW.Tree1 u)(I:Iv t0 u tt dd)(h:Trace u t0 dd tt)(hn:Nxt tt u dd none){k:Int}(h0:¬TW.ax t0 k)(hk:¬TW.ax u k):wds k (dd++cj tt u)=[]:=by
 obtain⟨h1,h2⟩:=fj I.tr U I.sk I.as hn;obtain⟨T,C⟩:=jV U T0 h;have no:¬TW.ax tt k:=λ⟨m,hm,em⟩=>hk (em ▸ h2 m hm);rw[bZ,ix no,append_nil];exact(C.no k hk h0).2
end
theorem oF:∀(ds:List (TW.Deed Str))(ks:List Int),ks.Nodup→(∀d∈ds,bh d∈ks)→ds.length=(ks.map λk=>(wds k ds).length).sum
 |[],ks,_,_=>by
  have:∀l:List Int,(l.map λk=>(wds k []).length).sum=0:=λl=>by
   induction l with
   |nil=>rfl
   |cons a r ih=>rw[map_cons,sum_cons,ih];rfl
  rw[this];rfl
 |d::ds,ks,nd,h=>by
  have ih:=oF ds ks nd λd hd=>h d (mem_cons_of_mem _ hd);have e:∀k,(wds k (d::ds)).length=(if bh d=k then 1 else 0)+(wds k ds).length:=λk=>by
   rw[show d::ds=[d]++ds from rfl,bZ,length_append]
   by_cases z:bh d=k
   ·rw[fw z,if_pos z];rfl
   ·rw[fk z,if_neg z];rfl
  have s1:∀l:List Int,(l.map λk=>(wds k (d::ds)).length).sum=(l.map λk=>if bh d=k then 1 else 0).sum+(l.map λk=>(wds k ds).length).sum:=λl=>by
   induction l with
   |nil=>rfl
   |cons a r ih=>rw[map_cons,sum_cons,ih,map_cons,sum_cons,map_cons,sum_cons,e a];omega
  have s0:∀l:List Int,bh d∉l→(l.map λk=>if bh d=k then 1 else 0).sum=0:=λl=>by
   induction l with
   |nil=>intro _;rfl
   |cons a r ih =>
    intro hm;rw[map_cons,sum_cons,ih λz=>hm (mem_cons_of_mem _ z),if_neg (λz:bh d=a=>hm (by rw[z];exact mem_cons_self))]
  have s2:∀l:List Int,l.Nodup→bh d∈l→(l.map λk=>if bh d=k then 1 else 0).sum=1:=λl=>by
   induction l with
   |nil=>intro _ hm;exact(not_mem_nil hm).elim
   |cons a r ih =>
    intro nd hm;obtain⟨n1,n2⟩:=nodup_cons.mp nd;rw[map_cons,sum_cons]
    by_cases z:bh d=a
    ·rw[if_pos z,s0 r (z ▸ n1)]
    ·rw[if_neg z,ih n2 ((mem_cons.mp hm).resolve_left z)]
  rw[s1,s2 ks nd (h d mem_cons_self),←ih,length_cons];omega
def b2n(b:Bool):Nat:=if b then 1 else 0
theorem rD{α:Type}(f:α→Nat)(p q r:α→Bool):∀l:List α,(∀x∈l,f x≤b2n (p x)+b2n (q x)+2*b2n (r x))→(l.map f).sum≤(l.filter p).length+(l.filter q).length+2*(l.filter r).length
 |[],_=>le_refl _
 |a::l,h=>by
  have ih:=rD f p q r l λx hx=>h x (mem_cons_of_mem _ hx);have ha:=h a mem_cons_self;have e:∀g:α→Bool,((a::l).filter g).length=b2n (g a)+(l.filter g).length:=λg=>by
   rw[filter_cons];cases g a<;>simp[b2n];omega
  rw[map_cons,sum_cons,e,e,e];omega
theorem nD{α:Type}(f:α→Nat)(p q:α→Bool):∀l:List α,(∀x∈l,f x=b2n (p x)+b2n (q x))→(l.map f).sum=(l.filter p).length+(l.filter q).length
 |[],_=>rfl
 |a::l,h=>by
  have ih:=nD f p q l λx hx=>h x (mem_cons_of_mem _ hx);have ha:=h a mem_cons_self;have e:∀g:α→Bool,((a::l).filter g).length=b2n (g a)+(l.filter g).length:=λg=>by
   rw[filter_cons];cases g a<;>simp[b2n];omega
  rw[map_cons,sum_cons,e,e];omega
open Classical in
def ce(t0:List Nd)(n:Nd):Bool:=decide (¬TW.ax t0 n.num)
open Classical in
def cQ(t0:List Nd)(n:Nd):Bool:=decide (∃o∈t0,o.num=n.num∧o.st≠n.st)
open Classical in
def cP(t0:List Nd)(n:Nd):Bool:=decide (∃o∈t0,o.num=n.num∧¬(o.par=n.par∧o.nm=n.nm))
open Classical in
def eO(u:List Nd)(o:Nd):Bool:=decide (¬TW.ax u o.num∧rA u o)
section
variable{t0 u tt:List Nd}{dd:List (TW.Deed Str)}
theorem oG{b:Bool}(h:b=true):b2n b=1:=by rw[h];rfl
theorem lT{b:Bool}(h:b=false):b2n b=0:=by rw[h];rfl
open Classical in
theorem rE(T0:TW.Tree1 t0)(U:TW.Tree1 u)(I:Iv t0 u tt dd)(h:Trace u t0 dd tt)(hn:Nxt tt u dd none){n:Nd}(hu:n∈u):
  (wds n.num (dd++cj tt u)).length≤b2n (ce t0 n)+b2n (cQ t0 n)+2*b2n (cP t0 n)∧(cP t0 n=false→(wds n.num (dd++cj tt u)).length=b2n (ce t0 n)+b2n (cQ t0 n)∧("move":Str)∉wds n.num (dd++cj tt u)):=by
 by_cases h0:TW.ax t0 n.num
 ·obtain⟨o,mo,eo⟩:=h0;obtain⟨ms,ew,hm⟩:=tH T0 U I h hn hu mo eo;have one:∀o'∈t0,o'.num=n.num→o'=o:=λo' ho' e=>T0.inj ho' mo (e.trans eo.symm);rw[lT (show ce t0 n=false from decide_eq_false λz=>z ⟨o,mo,eo⟩),ew,length_append];have l1:(if o.st=n.st then []else [("write":Str)]).length=b2n (cQ t0 n):=by
   by_cases es:o.st=n.st
   ·rw[if_pos es,lT (show cQ t0 n=false from decide_eq_false λ⟨o',ho',e1,e2⟩=>e2 (by rw[one o' ho' e1];exact es))];rfl
   ·rw[if_neg es,oG (show cQ t0 n=true from decide_eq_true ⟨o,mo,eo,es⟩)];rfl
  have nw:("move":Str)∉(if o.st=n.st then []else [("write":Str)]):=by
   split
   ·exact not_mem_nil
   ·decide +kernel
  rw[l1];rcases hm with⟨e,hp⟩|⟨e,hp⟩
  ·have mf:cP t0 n=false:=decide_eq_false λ⟨o',ho',e1,e2⟩=>e2 (by rw[one o' ho' e1];exact hp);rw[e,lT mf];refine⟨by simp,λ_=>⟨by simp,nw⟩⟩
  ·have mt:cP t0 n=true:=decide_eq_true ⟨o,mo,eo,hp⟩;rw[oG mt];refine⟨?_,λz=>by rw[mt]at z;cases z⟩;rcases e with e|e<;>rw[e]<;>simp<;>omega
 ·have mt:ce t0 n=true:=decide_eq_true h0;have lf:cQ t0 n=false:=decide_eq_false λ⟨o,ho,e,_⟩=>h0 ⟨o,ho,e⟩;rw[tG T0 U I h hn hu h0,oG mt,lT lf];exact⟨by simp,λ_=>⟨rfl,by decide +kernel⟩⟩
open Classical in
theorem uu(T0:TW.Tree1 t0)(U:TW.Tree1 u)(I:Iv t0 u tt dd)(h:Trace u t0 dd tt)(hn:Nxt tt u dd none){o:Nd}(ho:o∈t0)(hk:¬TW.ax u o.num):(wds o.num (dd++cj tt u)).length=b2n (eO u o)+b2n ((λ_=>false) o)∧("move":Str)∉wds o.num (dd++cj tt u):=by
 rcases tI T0 U I h hn ho hk with⟨h1,h2⟩|⟨h1,h2⟩
 ·rw[h2,oG (show eO u o=true from decide_eq_true ⟨hk,h1⟩)];exact⟨rfl,by decide +kernel⟩
 ·rw[h2,lT (show eO u o=false from decide_eq_false λz=>h1 z.2)];exact⟨rfl,not_mem_nil⟩
open Classical in
theorem oH(T0:TW.Tree1 t0)(U:TW.Tree1 u)(I:Iv t0 u tt dd)(h:Trace u t0 dd tt)(hn:Nxt tt u dd none):(dd++cj tt u).length=(u.map λn=>(wds n.num (dd++cj tt u)).length).sum+(t0.filter (eO u)).length:=by
 have g0:(t0.filter λo=>decide (¬TW.ax u o.num)).filter (eO u)=t0.filter (eO u):=by
  rw[List.filter_filter];refine filter_congr λo _=>?_;unfold eO
  by_cases z:¬TW.ax u o.num
  ·rw[decide_eq_true z,Bool.and_true]
  ·rw[decide_eq_false z,Bool.and_false];exact(decide_eq_false λy=>z y.1).symm
 have s2:=nD (λo:Nd=>(wds o.num (dd++cj tt u)).length) (eO u) (λ_=>false) (t0.filter λo=>decide (¬TW.ax u o.num)) λo ho=>by
  obtain⟨h1,h2⟩:=mem_filter.mp ho;exact(uu T0 U I h hn h1 (of_decide_eq_true h2)).1
 rw[g0]at s2;have nu:=fz U;have n0:((t0.filter λo=>decide (¬TW.ax u o.num)).map (·.num)).Nodup:=(fz T0).sublist (filter_sublist.map _);have key:=oF (dd++cj tt u) (u.map (·.num)++(t0.filter λo=>decide (¬TW.ax u o.num)).map (·.num)) (nodup_append.mpr ⟨nu,n0,λa ha b hb e=>by
   obtain⟨n,hn,rfl⟩:=mem_map.mp ha;obtain⟨o,ho,rfl⟩:=mem_map.mp hb;exact of_decide_eq_true (mem_filter.mp ho).2 ⟨n,hn,e⟩⟩) λd hd=>by
  refine Classical.byContradiction λz=>?_;have hu:¬TW.ax u (bh d):=λ⟨n,hn,e⟩=>z (mem_append_left _ (mem_map.mpr ⟨n,hn,e⟩));have ht:¬TW.ax t0 (bh d):=λ⟨n,hn,e⟩=>z (mem_append_right _ (mem_map.mpr ⟨n,mem_filter.mpr ⟨hn,decide_eq_true (by rw[e];exact hu)⟩,e⟩));have e0:=rC T0 U I h hn ht hu;have:eR d∈wds (bh d) (dd++cj tt u):=mem_map.mpr ⟨d,mem_filter.mpr ⟨hd,decide_eq_true rfl⟩,rfl⟩;rw[e0]at this;exact(not_mem_nil this).elim
 rw[key,map_append,List.sum_append,map_map,map_map];have e2:((t0.filter λo=>decide (¬TW.ax u o.num)).map ((λk=>(wds k (dd++cj tt u)).length)∘λx=>x.num)).sum=(t0.filter (eO u)).length:=by
  have:(λk=>(wds k (dd++cj tt u)).length)∘(λx:Nd=>x.num)=λo:Nd=>(wds o.num (dd++cj tt u)).length:=rfl;rw[this,s2];simp
 rw[e2];rfl
theorem rF(T0:TW.Tree1 t0)(U:TW.Tree1 u)(I:Iv t0 u tt dd)(h:Trace u t0 dd tt)(hn:Nxt tt u dd none):(dd++cj tt u).length≤(u.filter (ce t0)).length+(u.filter (cQ t0)).length+(t0.filter (eO u)).length+(u.filter (cP t0)).length+(u.filter (cP t0)).length:=by
 have:=rD (λn:Nd=>(wds n.num (dd++cj tt u)).length) (ce t0) (cQ t0) (cP t0) u λn hn'=>(rE T0 U I h hn hn').1;rw[oH T0 U I h hn];omega
open Classical in
theorem vY(T0:TW.Tree1 t0)(U:TW.Tree1 u)(I:Iv t0 u tt dd)(h:Trace u t0 dd tt)(hn:Nxt tt u dd none)(hm:u.filter (cP t0)=[]):(dd++cj tt u).length=(u.filter (ce t0)).length+(u.filter (cQ t0)).length+(t0.filter (eO u)).length∧∀d∈dd++cj tt u,eR d≠("move":Str):=by
 have nm:∀n∈u,cP t0 n=false:=λn hn'=>by
  cases e:cP t0 n with
  |false=>rfl
  |true=>exact absurd (mem_filter.mpr ⟨hn',e⟩) (by rw[hm];exact not_mem_nil)
 have:=nD (λn:Nd=>(wds n.num (dd++cj tt u)).length) (ce t0) (cQ t0) u λn hn'=>((rE T0 U I h hn hn').2 (nm n hn')).1;refine⟨by rw[oH T0 U I h hn];omega,λd hd e=>?_⟩;have hw:("move":Str)∈wds (bh d) (dd++cj tt u):=by
  have:eR d∈wds (bh d) (dd++cj tt u):=mem_map.mpr ⟨d,mem_filter.mpr ⟨hd,decide_eq_true rfl⟩,rfl⟩
  rwa [e]at this
 by_cases hu:TW.ax u (bh d)
 ·obtain⟨n,hn',e'⟩:=hu;exact((rE T0 U I h hn hn').2 (nm n hn')).2 (by rw[e'];exact hw)
 ·by_cases ht:TW.ax t0 (bh d)
  ·obtain⟨o,ho,e'⟩:=ht;exact(uu T0 U I h hn ho (by rw[e'];exact hu)).2 (by rw[e'];exact hw)
  ·rw[rC T0 U I h hn ht hu]at hw;exact(not_mem_nil hw).elim
open Classical in
theorem rG(T0:TW.Tree1 t0)(I:Iv t0 t0 tt dd)(h:Trace t0 t0 dd tt)(hn:Nxt tt t0 dd none):dd++cj tt t0=[]:=by
 have m0:t0.filter (cP t0)=[]:=filter_eq_nil_iff.mpr λn hn' z=>by
  obtain⟨o,ho,e,h2⟩:=of_decide_eq_true z;have:=T0.inj ho hn' e;subst this;exact h2 ⟨rfl,rfl⟩
 have m1:t0.filter (ce t0)=[]:=filter_eq_nil_iff.mpr λn hn' z=>of_decide_eq_true z ⟨n,hn',rfl⟩;have m2:t0.filter (cQ t0)=[]:=filter_eq_nil_iff.mpr λn hn' z=>by
  obtain⟨o,ho,e,h2⟩:=of_decide_eq_true z;have:=T0.inj ho hn' e;subst this;exact h2 rfl
 have m3:t0.filter (eO t0)=[]:=filter_eq_nil_iff.mpr λn hn' z=>(of_decide_eq_true z).1 ⟨n,hn',rfl⟩;have:=rF T0 T0 I h hn;rw[m0,m1,m2,m3]at this;exact List.eq_nil_of_length_eq_zero (Nat.le_zero.mp this)
end
theorem pL{t:List Nd}(T:TW.Tree1 t){p:Nd→Bool}(hp:∀n∈t,p n=true→∀m∈t,m.num=n.par→p m=true):TW.Tree1 (t.filter p):=by
 refine⟨⟨T.rise.sublist filter_sublist,T.own.sublist (filter_sublist.map _),λn hn=>?_⟩,λn hn=>T.pos n (mem_filter.mp hn).1⟩;obtain⟨h1,h2⟩:=mem_filter.mp hn;have key:∀{n:Nd},TW.Reach t 0 n→p n=true→TW.Reach (t.filter p) 0 n:=by
  intro n r
  induction r with
  |@base n hm hq=>intro h;exact .base (mem_filter.mpr ⟨hm,h⟩) hq
  |@step m n rm hf hn hq ih=>intro h;exact .step (ih (hp n hn h m rm.mem hq.symm)) hf (mem_filter.mpr ⟨hn,h⟩) hq
 exact key (T.down n h1) h2
end TK
namespace TW
section
variable{S:Type}
end
end TW
namespace TW
section
variable{S:Type}
section
variable{q:S→Bool}{t:List (Nd S)}
end
end
end TW
namespace TW
section
variable{S:Type}
section
variable{t u:List (Nd S)}{k g:Int}
theorem nE{t:List (Nd S)}(T:Tree1 t){n:Nd S}(hn:n∈t):n.par=0∨∃m∈t,m.num=n.par:=by
 have:=T.down n hn;cases this with
 |base _ e=>exact .inl e
 |@step m _ hr _ _ e=>exact .inr ⟨m,hr.mem,e.symm⟩
end
def reG(g:Int→Int)(n:Nd S):Nd S:=⟨g n.num,g n.par,n.nm,n.st⟩
section
variable{t u:List (Nd S)}{g:Int→Int}
theorem tJ(T:Tree1 t)(h0:g 0=0)(h1:∀n∈t,1≤g n.num)(inj:∀a∈t,∀b∈t,g a.num=g b.num→a.num=b.num)(hu:∀n,n∈u↔∃m∈t,n=reG g m)(hl:u.Perm (t.map (reG g)))(hr:cD u):Tree1 u:=by
 refine⟨⟨hr,?_,λn hn=>?_⟩,λn hn=>?_⟩
 ·unfold dD;rw[(hl.map _).nodup_iff,map_map];have own:=T.own;unfold dD Nodup at own;unfold Nodup;rw[pairwise_map]at own⊢;refine own.imp_of_mem λ{a b} ha hb hab e=>hab ?_;have e1:g a.par=g b.par:=congrArg Prod.fst e;have e2:a.nm=b.nm:=congrArg Prod.snd e;have ep:a.par=b.par:=by
   rcases nE T ha with za|⟨x,hx,ex⟩<;>rcases nE T hb with zb|⟨y,hy,ey⟩
   ·rw[za,zb]
   ·rw[za,h0,←ey]at e1;have:=h1 y hy;omega
   ·rw[zb,h0,←ex]at e1;have:=h1 x hx;omega
   ·rw[←ex,←ey]at e1⊢;exact inj x hx y hy e1
  show(a.par,a.nm)=(b.par,b.nm);rw[ep,e2]
 ·obtain⟨m,hm,rfl⟩:=(hu n).mp hn;have h:=T.down m hm;clear hn hm
  induction h with
  |@base n hm hp=>exact .base ((hu _).mpr ⟨n,hm,rfl⟩) (by show g n.par=0;rw[hp,h0])
  |@step m n hr hf hm hp ih=>exact .step ih hf ((hu _).mpr ⟨n,hm,rfl⟩) (by show g n.par=g m.num;rw[hp])
 ·obtain⟨m,hm,rfl⟩:=(hu n).mp hn;exact h1 m hm
end
end
end TW
namespace TK
open PySem L2
section
variable{t u v:List Nd}
def Unl(t u:List Nd)(k:Int):Prop:=∃m∈t,∃n∈u,m.num=k∧n.num=k∧¬(m.st=none↔n.st=none)
open Classical in
def g60(t u:List Nd)(k:Int):Int:=if Unl t u k then k+60 else k
theorem jl{k:Int}(h:Unl t u k):g60 t u k=k+60:=by unfold g60;rw[if_pos h]
theorem iy{k:Int}(h:¬Unl t u k):g60 t u k=k:=by unfold g60;rw[if_neg h]
theorem kH(ht:∀m∈t,1≤m.num∧m.num≤30){k:Int}(h:Unl t u k):1≤k∧k≤30:=by
 obtain⟨m,hm,n,hn,e1,_,_⟩:=h;have:=ht m hm;omega
theorem uv(ht:∀m∈t,1≤m.num∧m.num≤30):g60 t u 0=0:=iy λh=>by have:=kH ht h;omega
theorem oI(ht:∀m∈t,1≤m.num∧m.num≤30){a b:Int}(ha:a≤60)(hb:b≤60)(e:g60 t u a=g60 t u b):a=b:=by
 by_cases h1:Unl t u a<;>by_cases h2:Unl t u b
 ·rw[jl h1,jl h2]at e;omega
 ·rw[jl h1,iy h2]at e;have:=kH ht h1;omega
 ·rw[iy h1,jl h2]at e;have:=kH ht h2;omega
 ·rw[iy h1,iy h2]at e;exact e
theorem nF(ht:∀m∈t,1≤m.num∧m.num≤30){a:Int}(h1:0≤a)(h2:a≤60):a≤g60 t u a∧g60 t u a≤99:=by
 by_cases h:Unl t u a
 ·rw[jl h];have:=kH ht h;omega
 ·rw[iy h];omega
theorem tK(ht:∀m∈t,1≤m.num∧m.num≤30)(U:TW.Tree1 u)(hu:∀n∈u,n.num≤60∧0≤n.par∧n.par≤60∧n.nm.length≤100)(hp:v.Perm (u.map (TW.reG (g60 t u))))(hr:TW.cD v):TW.Tree1 v∧cY t v∧(∀n∈v,cO n)∧v.length=u.length:=by
 have mem:∀n,n∈v↔∃m∈u,n=TW.reG (g60 t u) m:=λn=>by
  rw[hp.mem_iff,mem_map];exact⟨λ⟨m,h,e⟩=>⟨m,h,e.symm⟩,λ⟨m,h,e⟩=>⟨m,h,e.symm⟩⟩
 refine⟨TW.tJ U (uv ht) (λn hn=>?_) (λa ha b hb e=>oI ht (hu a ha).1 (hu b hb).1 e) mem hp hr,λm hm n hn e=>?_,λn hn=>?_,by rw[hp.length_eq,length_map]⟩
 ·have h1:=U.pos n hn;have:=nF (u:=u) ht (a:=n.num) (by omega) (hu n hn).1;omega
 ·obtain⟨x,hx,rfl⟩:=(mem n).mp hn;have e':m.num=g60 t u x.num:=e;show m.st=none↔x.st=none
  by_cases h:Unl t u x.num
  ·rw[jl h]at e';have h1:=U.pos x hx;have:=ht m hm;omega
  ·rw[iy h]at e';exact Classical.byContradiction λhc=>h ⟨m,hm,x,hx,e',rfl,hc⟩
 ·obtain⟨x,hx,rfl⟩:=(mem n).mp hn;have h1:=U.pos x hx;obtain⟨a1,a2,a3,a4⟩:=hu x hx;have b1:=nF (u:=u) ht (a:=x.num) (by omega) a1;have b2:=nF (u:=u) ht (a:=x.par) a2 a3;exact⟨(show 1≤g60 t u x.num by omega),b1.2,(show 0≤g60 t u x.par by omega),b2.2,a4⟩
end
section
variable{P:Program}{w:World}{K:PySem.W.Frag}{mg:Str→Option Value}{base:Heap}
def fm:Sp:=λvs H Q _=>∃t zs,vs=[.ref t]∧Tre H t zs∧∀d as H',Same H H'→H d=none→Book H' d as zs→H' d=some (.dK (aC as))→Q (.ref d) H'
theorem vZ:FnScope ["_law_tree_here"] ["_law_tree_here"] (ah qJ):=fsc
theorem tL{f:Addr}{fd:FuncData}(F:Fun K "_law_book" "_law_book" qJ f fd)(T:Txt mg):FnOk P w K mg base CX0 1 f fd ["_law_tree_here"] fm:=by
 refine F.ok vZ (λvs H Q E h=>?_) (λcdv A outer s H vs Q E hr h=>?_)
 ·obtain⟨t,zs,rfl,_⟩:=h;rfl
 ·obtain⟨t,zs,rfl,tr,k⟩:=h;have hnd:=aI tr.tr;have hl:=tr.len;have ht:=tr.tup;have hA:=tr.nod;refine⟨_,aj (aD (bg (eX rfl) rfl T.dict boot_dict (aa (gL (N:=["_law_node"]) (k:=1) (js:=[]) (g:=aZ 0) rfl (eF rfl (by decide +kernel) (by decide +kernel) (by decide +kernel)) rfl (λi j x h=>by simp at h)
   (cC (pv 0)) (λs H fp=>aE (i:=0) (show(["_law_node"]:List Str).Nodup by decide +kernel) rfl (Or.inl rfl) (Or.inr rfl))
   (λs H fp=>bq (aa (av (r:=cG K) ao (pv 0) ag (λ_ _=>rfl)) (aa (bJ (r:=kd K) cI (pv 0) (bt ag) dh) ai)))) ai))),?_⟩
  refine⟨_,rfl,t,rfl,⟨_,SqT.of ht⟩,λp hp=>?_⟩;refine qr (fr:=[]) zs.length (by omega) hp rfl (λi y H'=>∃q t' z,zs[i]?=some z∧y=.ref q∧q≠p∧t'≠p∧H' q=some (.tup [.int z.2.num,.ref t'])∧H' t'=some (.tup (bz z.2))) (λi y H1 H2 h ex=>?_) (λi H' hi s1=>?_) (λH' s1=>?_) ?_ (λi H' x H2 hi s1 hpl hy=>?_) (λys H' s1 hp' hlen hys=>?_)
  ·obtain⟨q,t',z,e1,e2,e3,e4,e5,e6⟩:=h;exact⟨q,t',z,e1,e2,e3,e4,ex q _ e3 e5,ex t' _ e4 e6⟩
  ·exact⟨_,_,SqT.of (s1 _ _ ht),iX (getElem?_eq_getElem hi)⟩
  ·exact⟨_,SqT.of (s1 _ _ ht),by rw[bQ];exact le_refl _⟩
  ·rintro _ _ _ _ m ⟨v1,b1,p1,xs,i1,v2,c1,c2,c3,c4,v3,b3,i3,d0,a3,xs3,d1,d2,d3,q⟩;refine⟨v1,b1,p1,xs,i1,v2,c1,c2,c3,c4,v3,b3,i3,d0,a3,xs3,d1,d2,d3,λl hl=>?_⟩;obtain⟨hz',q'⟩:=q l hl;exact⟨hz',λl' hl'=>m _ _ (q' l' hl')⟩
  ·obtain⟨rfl,hx⟩:=hy;obtain⟨z,gz,rfl⟩:=cK (hx _ (SqT.of (s1 _ _ ht)));have mz:=mem_of_getElem? gz;have hz1:=s1 _ _ (hA z mz);have ecut:dU (vals z.2) (some 1) none=bz z.2:=rfl;refine⟨rfl,_,rfl,z.1,_,_,_,rfl,rfl,SqT.of hz1,at0 z.2,_,rfl,_,rfl,z.1,_,rfl,SqT.of hz1,(by intro h;exact absurd h.1 (show ¬HT.sIx 4 0 (some 1)=0 by decide)),λt' ht'=>?_⟩;rw[ecut];have s2:=af (o:=.tup (bz z.2)) ht';have hpl2:∃ys,upd H2 t' (.tup (bz z.2)) p=some (.lst ys):=let⟨ys,e⟩:=hpl;⟨ys,s2 _ _ e⟩;refine⟨le2,λq hq=>⟨s2.trans (af hq),q,t',z,gz,rfl,dC hpl2 hq,dC hpl ht',ac,br hq ac⟩⟩
  ·obtain⟨as,e1,e2,e3⟩:∃as:List ((Addr×Addr)×(Addr×Nd)),as.map (·.2)=zs∧ys=(as.map (·.1.1)).map V.ref∧∀a∈as,H' a.1.1=some (.tup [.int a.2.2.num,.ref a.1.2])∧H' a.1.2=some (.tup (bz a.2.2)):=by
    clear hp';have main:∀(ys:List V)(xs:ZN),ys.length=xs.length→(∀(i:Nat) y,ys[i]?=some y→∃q t' z,xs[i]?=some z∧y=.ref q∧q≠p∧t'≠p∧H' q=some (.tup [.int z.2.num,.ref t'])∧H' t'=some (.tup (bz z.2))) →
      ∃as:List ((Addr×Addr)×(Addr×Nd)),as.map (·.2)=xs∧ys=(as.map (·.1.1)).map V.ref∧∀a∈as,H' a.1.1=some (.tup [.int a.2.2.num,.ref a.1.2])∧H' a.1.2=some (.tup (bz a.2.2)):=by
     intro ys
     induction ys with
     |nil =>
      intro xs hl _;have:xs=[]:=length_eq_zero_iff.mp hl.symm;subst this;exact⟨[],rfl,rfl,by simp⟩
     |cons y ys ih =>
      intro xs hl h;cases xs with
      |nil=>simp at hl
      |cons x xs =>
       obtain⟨as,e1,e2,e3⟩:=ih xs (by simpa using hl) λi y hy=>by simpa using h (i+1) y (by simpa using hy)
       obtain⟨q,t',z,f1,f2,f3,f4,f5,f6⟩:=h 0 y rfl;have:x=z:=by simpa using f1
       subst this;refine⟨((q,t'),x)::as,by simp[e1],by simp[e2,f2],λa ha=>?_⟩;rcases mem_cons.mp ha with rfl|ha
       ·exact⟨f5,f6⟩
       ·exact e3 a ha
    exact main ys zs hlen hys
   have hal:as.length=zs.length:=by rw[←e1,length_map]
   refine⟨p,as.map λa=>(a.1.1,(Sum.inl a.2.2.num:Key),V.ref a.1.2),rfl,?_,?_,?_,?_,λd hd=>?_⟩
   ·rw[hp',e2,map_map,map_map,map_map];rfl
   ·intro z hz;obtain⟨a,ha,rfl⟩:=mem_map.mp hz;exact(e3 a ha).1
   ·rw[length_map];omega
   ·rw[map_map];have:(as.map ((λx:Addr×Key×V=>x.2.1)∘λa=>(a.1.1,(Sum.inl a.2.2.num:Key),V.ref a.1.2)))=((nds zs).map (·.num)).map (Sum.inl:Int→Key):=by
     rw[←e1];unfold nds;simp only[map_map];rfl
    rw[this];unfold Nodup at hnd⊢;rw[pairwise_map];exact hnd.imp λh e=>h (by injection e)
   ·have sd:=af (o:=.dK ((as.map λa=>(a.1.1,(Sum.inl a.2.2.num:Key),V.ref a.1.2)).map (·.2))) hd;have ed:upd H' d (.dK ((as.map λa=>(a.1.1,(Sum.inl a.2.2.num:Key),V.ref a.1.2)).map (·.2))) d=some (.dK (aC (as.map λa=>(a.1.2,a.2)))):=by
     rw[ac];refine congrArg (λx=>some (HO.dK x)) ?_;unfold aC;simp only[map_map];rfl
    refine k d (as.map λa=>(a.1.2,a.2)) _ (s1.trans sd) (s1.free hd) ⟨.inl ed,by rw[map_map];exact e1,λa ha=>?_⟩ ed;obtain⟨b,hb,rfl⟩:=mem_map.mp ha;exact sd _ _ (e3 b hb).2
def fT:Sp:=λvs H Q _=>∃d k g as zs p,vs=[.ref d,.int k,.int g]∧Book H d as zs∧TW.Tree1 (nds zs)∧TW.PathTo (nds zs) k p∧1≤g∧∀b,(b=true↔TW.Und (nds zs) g k)→Q (.bl b) H
theorem uw:FnScope ["_law_book_here","_law_number","_law_goal"] ["_law_book_here","_law_number","_law_goal"] (ah na):=fsc
theorem wa{f:Addr}{fd:FuncData}(F:Fun K "_law_under" "_law_under" na f fd):FnOk P w K mg base CX0 1 f fd ["_law_book_here","_law_number","_law_goal"] fT:=by
 refine F.ok uw (λvs H Q E h=>?_) (λcdv A outer s H vs Q E hr h=>?_)
 ·obtain⟨d,k,g,as,zs,p,rfl,_⟩:=h;rfl
 ·obtain⟨d,k,g,as,zs,p,rfl,bk,hTr,hp,hg,q⟩:=h;have hnd:=aI hTr;refine⟨_,ae (ee PassesOwn.never (PW.pt (pw_and (am dy (pv 1) ag (aw _)) (pw_and1 (am dy (pv 1) (pv 2) (aw _)))))
    (aj (ap (i:=1) uw.nd rfl (Or.inl rfl) (av ao (aU (aK hr) (pv 0) (pv 1) (λ_ _=>rfl)) ag (λ_ _=>rfl)))))
   (aj (aD (dL cx (pv 1) (pv 2) (aw _)))),?_⟩
  refine eS (λσ H'=>∃at' q',σ=[some (.ref d),some (.int at'),some (.int g)]∧TW.PathTo (nds zs) at' q'∧(TW.Und (nds zs) g k↔TW.Und (nds zs) g at')∧H'=H)
   (λσ H'=>match σ with | [_,some (.int k),_]=>lD (nds zs) k | _=>0) ⟨k,p,rfl,hp,Iff.rfl,rfl⟩ (λσ H' h=>?_) ?_
  ·obtain⟨at',q',rfl,hq',hu,rfl⟩:=h;have last:∀b:Bool,(b=true↔TW.Und (nds zs) g at')→Q (.bl b) H':=λb hb=>q b (hb.trans hu.symm);refine⟨_,rfl,rfl,_,rfl,?_⟩
   by_cases h0:at'=0
   ·have hne:decide (V.int at'=V.int 0)=true:=by simp[h0]
    rw[hne];refine aJ (aJ ⟨_,rfl,_,rfl,rfl,last _ ?_⟩);rw[decide_eq_true_eq];constructor
    ·intro e;injection e with e;omega
    ·intro hx;have:=hx.zero hTr h0;omega
   ·have hne:decide (V.int at'=V.int 0)=false:=by simp[h0]
    rw[hne];refine aT ⟨_,rfl,_,rfl,rfl,_,rfl,?_⟩
    by_cases hg':at'=g
    ·have hne:decide (V.int at'=V.int g)=true:=by simp[hg']
     rw[hne];refine aJ ⟨_,rfl,_,rfl,rfl,last _ ?_⟩;rw[hne];constructor
     ·intro _;rw[hg'];exact .here
     ·intro _;rfl
    ·have hne:decide (V.int at'=V.int g)=false:=by simp[hg']
     rw[hne];refine aT ?_;obtain⟨z,hz,e1,q'',e2,hq''⟩:=nZ hTr hq' h0;subst e1;obtain⟨b,hb1,hb2⟩:=bk.get hnd hz;refine⟨_,rfl,_,rfl,d,_,rfl,hb1,b,_,_,_,rfl,rfl,SqT.of hb2,qB z.2,?_⟩;have mz:z.2∈nds zs:=mem_map.mpr ⟨z,hz,rfl⟩;refine⟨⟨z.2.par,q'',rfl,hq'',hu.trans ⟨λh=>h.inv hTr mz rfl hg',λh=>.up mz h⟩,rfl⟩,?_⟩;show lD (nds zs) z.2.par<lD (nds zs) z.2.num;rw[iF hTr hq'',iF hTr hq',e2];simp
  ·rintro σ H1 Q1 Q2 m ⟨v,e,h2,b,e3,q⟩;refine⟨v,e,h2,b,e3,?_⟩;cases b with
   |false=>exact m _ _ q
   |true =>
    obtain⟨v1,f1,v2,f2,h3,b',e4,q'⟩:=q;exact⟨v1,f1,v2,f2,h3,b',e4,m _ _ q'⟩
end
def SKN:List Str:=["_law_one","_law_other","_law_first","_law_second","_law_both","_law_unlike","_law_names"]
theorem pN:FnScope SKN ["_law_one","_law_other"] (ah aB):=fsc
abbrev SKX(P:Program)(w:World)(K:PySem.W.Frag)(mg:Str→Option Value)(base:Heap)(f:Addr)(cdv:Value)(A:Around)(outer:List Env)(s:Shared)(H:Hp)(E:XK):Cx:=(gC CX0 P w K mg base SKN "_law_same_kinds" (ah aB) f cdv A outer s H E).nox
def skS(i:Nat):Stmt:=(bA aB).getD i (.Pass ⟨0,0,0,0⟩)
structure SKF(H:Hp)(d e:Addr)(as bs:List (Addr×(Addr×Nd)))(zs us:ZN):Prop where
 b1:Book H d as zs
 b2:Book H e bs us
 fr:∃o,H e=some (.frz o (.dK (aC bs)))
 t1:TW.Tree1 (nds zs)
 t2:TW.Tree1 (nds us)
 l1:zs.length≤29
 l2:us.length≤29
theorem SKF.same{H H':Hp}{d e:Addr}{as bs:List (Addr×(Addr×Nd))}{zs us:ZN}(L:SKF H d e as bs zs us)(s:Same H H'):SKF H' d e as bs zs us:=⟨L.b1.same s,L.b2.same s,(let⟨o,h⟩:=L.fr;⟨o,s _ _ h⟩),L.t1,L.t2,L.l1,L.l2⟩
theorem SKF.keys{H:Hp}{d e:Addr}{as bs:List (Addr×(Addr×Nd))}{zs us:ZN}(L:SKF H d e as bs zs us):((aC bs).map λp=>kV p.1)=us.map λz=>V.int z.2.num:=by
 rw[←L.b2.of];unfold aC;simp only[map_map];rfl
open Classical in
def inN(zs:ZN)(z:Addr×Nd):Bool:=decide (∃x∈zs,x.2.num=z.2.num)
section
variable{P:Program}{w:World}{K:PySem.W.Frag}{mg:Str→Option Value}{base:Heap}{f:Addr}{cdv:Value}{A:Around}{outer:List Env}{s:Shared}{H0:Hp}{E:XK}
theorem sk2(hr:Room 1 (A.deeper (PyProof.Rows.envOfC "_law_same_kinds" (ah aB) s.heap.objs.size f cdv))):
  ∃rd,PS (SKX P w K mg base f cdv A outer s H0 E) (skS 2) rd∧∀(D:Ends)(H:Hp)(t u d e:Addr)(as bs:List (Addr×(Addr×Nd)))(zs us:ZN),SKF H d e as bs zs us →
   (∀l H',Same H H'→H' l=some (.lst ((us.filter (inN zs)).map λz=>V.int z.2.num))→D.nx [some (.ref t),some (.ref u),some (.ref d),some (.ref e),some (.ref l),none,none] H')→rd D [some (.ref t),some (.ref u),some (.ref d),some (.ref e),none,none,none] H:=by
 refine⟨_,dm (ii:=4) (N:=["_law_number","_law_first"]) (cl:=[("_law_first",s.heap.objs.size+1)]) (k:=1) (js:=[2]) (g:=aZ 0) pN.nd rfl (Or.inl rfl) rfl
   (LcOk.mk' ["_law_first"] rfl rfl (by decide +kernel) (by decide +kernel) ?hcl rfl (by decide +kernel)) rfl ?hj (fQ (pv 3)) (λs H fp=>aE (i:=0) (show(["_law_number","_law_first"]:List Str).Nodup by decide +kernel) rfl (Or.inl rfl) (Or.inr rfl))
   (λs H fp=>bT (dz (aK hr) (pv 0) (pv 1))) (λs H fp=>pv 0),?_⟩
 case hcl =>
  intro y hy;rcases mem_cons.mp hy with e|hy
  ·rw[e];rfl
  ·cases hy
 case hj =>
  intro i j x h1 h2
  match i,h1,h2 with
  |0,h1,h2 =>
   cases h1;cases h2;exact⟨rfl,Or.inr (Or.inl rfl),(show((ah aB).names.lookup ("_law_first":Str)≠some NameKind.local)by decide +kernel),by first|exact Or.inl rfl|exact Or.inr rfl⟩
  |i+1,h1,h2=>simp at h1
 intro D H t u d e as bs zs us L q;obtain⟨o,ho⟩:=L.fr;have l2:=L.l2;refine⟨_,rfl,e,o,aC bs,rfl,ho,λp hp=>?_⟩;rw[L.keys];refine ci (fr:=[some (.ref d)]) us (λz=>V.int z.2.num) (by omega) hp (ck ho) rfl (inN zs) (λz y _=>y=.int z.2.num) (λz y H H' h _=>h) (λz H' k mz s1 _ hk=>?_) (λz H' k mz _ s1 _ hk=>⟨_,rfl,hk _ H' (Same.refl _) rfl⟩) (λys H' s1 hp' hys=>?_)
 ·have L1:=L.same s1
  by_cases hin:∃x∈zs,x.2.num=z.2.num
  ·obtain⟨x,hx,ex⟩:=hin;obtain⟨r,hg,_⟩:=L1.b1.get (aI L.t1) hx;rw[ex]at hg;refine⟨_,rfl,_,rfl,d,_,rfl,hg,?_⟩;have hk':=hk H' (Same.refl _);rw[show inN zs z=true from decide_eq_true ⟨x,hx,ex⟩]at hk';exact⟨_,rfl,hk'⟩
  ·refine⟨_,rfl,_,rfl,d,_,rfl,L1.b1.not λx hx ex=>hin ⟨x,hx,ex⟩,?_⟩;have hk':=hk H' (Same.refl _);rw[show inN zs z=false from decide_eq_false hin]at hk';exact⟨_,rfl,hk'⟩
 ·rw[aQ hys (f:=λz=>V.int z.2.num) λz y _ h=>h]at hp';exact q p H' s1 hp'
open Classical in
def lU(zs us:ZN)(z:Addr×Nd):Bool:=decide (Unl (nds zs) (nds us) z.2.num)
theorem oJ{zs:ZN}{z:Addr×Nd}:inN zs z=true↔∃x∈zs,x.2.num=z.2.num:=by unfold inN;exact decide_eq_true_iff
open Classical in
theorem wb{zs us:ZN}{x z:Addr×Nd}(T1:TW.Tree1 (nds zs))(T2:TW.Tree1 (nds us))(hx:x∈zs)(hz:z∈us)(e:x.2.num=z.2.num):(!decide (V.bl (decide (stV x.2.st=V.non))=V.bl (decide (stV z.2.st=V.non))))=lU zs us z:=by
 rw[kA,kA];have key:V.bl (decide (x.2.st=none))=V.bl (decide (z.2.st=none))↔(x.2.st=none↔z.2.st=none):=by
  constructor
  ·intro h;injection h with h
   exact decide_eq_decide.mp h
  ·intro h
   congr 1
   exact decide_eq_decide.mpr h
 unfold lU
 by_cases hk:(x.2.st=none↔z.2.st=none)
 ·rw[decide_eq_true (key.mpr hk),decide_eq_false]
  ·rfl
  ·rintro⟨m,hm,n,hn,e1,e2,h3⟩;have em:m=x.2:=T1.inj hm (aA hx) (by omega);have en:n=z.2:=T2.inj hn (aA hz) e2;subst em;subst en;exact h3 hk
 ·rw[decide_eq_false λh=>hk (key.mp h),decide_eq_true]
  ·rfl
  ·exact⟨x.2,aA hx,z.2,aA hz,e,rfl,hk⟩
theorem sk3(hr:Room 1 (A.deeper (PyProof.Rows.envOfC "_law_same_kinds" (ah aB) s.heap.objs.size f cdv))):
  ∃rd,PS (SKX P w K mg base f cdv A outer s H0 E) (skS 3) rd∧∀(D:Ends)(H:Hp)(t u d e l:Addr)(as bs:List (Addr×(Addr×Nd)))(zs us:ZN),SKF H d e as bs zs us→H l=some (.lst ((us.filter (inN zs)).map λz=>V.int z.2.num)) →
   (∀l' H',Same H H'→H' l'=some (.lst (((us.filter (inN zs)).filter (lU zs us)).map λz=>V.int z.2.num))→D.nx [some (.ref t),some (.ref u),some (.ref d),some (.ref e),some (.ref l),some (.ref l'),none] H')→rd D [some (.ref t),some (.ref u),some (.ref d),some (.ref e),some (.ref l),none,none] H:=by
 refine⟨_,ap (i:=5) pN.nd rfl (Or.inr rfl) (db (N:=["_law_number","_law_first","_law_second"]) (cl:=[("_law_second",s.heap.objs.size+2),("_law_first",s.heap.objs.size+1)]) (k:=1) (js:=[2,3]) (g:=aZ 0) rfl
   (LcOk.mk' ["_law_second","_law_first"] rfl rfl (by decide +kernel) (by decide +kernel) ?hcl rfl (by decide +kernel)) rfl ?hj (cH (pv 4)) (λs H fp=>aE (i:=0) (show(["_law_number","_law_first","_law_second"]:List Str).Nodup by decide +kernel) rfl (Or.inl rfl) (Or.inr rfl))
   (λs H fp=>am dy (dL eE (av (r:=cG K) ao (aU (aK hr) (pv 1) (pv 0) (λ_ _=>rfl)) ag (λ_ _=>rfl)) cq (aw _)) (dL eE (av (r:=cG K) ao (aU (aK hr) (pv 2) (pv 0) (λ_ _=>rfl)) ag (λ_ _=>rfl)) cq (aw _)) (aw _)) (λs H fp=>pv 0)),?_⟩
 case hcl =>
  intro y hy;rcases mem_cons.mp hy with e|hy
  ·rw[e];rfl
  rcases mem_cons.mp hy with e|hy
  ·rw[e];rfl
  ·cases hy
 case hj =>
  intro i j x h1 h2
  match i,h1,h2 with
  |0,h1,h2 =>
   cases h1;cases h2;exact⟨rfl,Or.inr (Or.inl rfl),(show((ah aB).names.lookup ("_law_first":Str)≠some NameKind.local)by decide +kernel),by first|exact Or.inl rfl|exact Or.inr rfl⟩
  |1,h1,h2 =>
   cases h1;cases h2;exact⟨rfl,Or.inr (Or.inl rfl),(show((ah aB).names.lookup ("_law_second":Str)≠some NameKind.local)by decide +kernel),by first|exact Or.inl rfl|exact Or.inr rfl⟩
  |i+2,h1,h2=>simp at h1
 intro D H t u d e l as bs zs us L hl q;have l2:=L.l2;have lf:=length_filter_le (inN zs) us;refine⟨_,rfl,l,rfl,⟨_,SqL.of hl⟩,λp hp=>?_⟩;refine ci (fr:=[some (.ref d),some (.ref e)]) (us.filter (inN zs)) (λz=>V.int z.2.num) (by omega) hp (fo (SqL.of hl)) rfl (lU zs us) (λz y _=>y=.int z.2.num) (λz y H H' h _=>h) (λz H' k mz s1 _ hk=>?_) (λz H' k mz _ s1 _ hk=>⟨_,rfl,hk _ H' (Same.refl _) rfl⟩) (λys H' s1 hp' hys=>?_)
 ·have L1:=L.same s1;obtain⟨hz,hin⟩:=mem_filter.mp mz;obtain⟨x,hx,ex⟩:=oJ.mp hin;obtain⟨r1,g1,a1⟩:=L1.b1.get (aI L.t1) hx;rw[ex]at g1;obtain⟨r2,g2,a2⟩:=L1.b2.get (aI L.t2) hz;have hk':=hk H' (Same.refl _);rw[←wb L.t1 L.t2 hx hz ex]at hk';exact⟨_,rfl,_,rfl,d,_,rfl,g1,r1,_,_,_,rfl,rfl,SqT.of a1,mY x.2,rfl,_,rfl,_,rfl,e,_,rfl,g2,r2,_,_,_,rfl,rfl,SqT.of a2,mY z.2,rfl,rfl,_,rfl,hk'⟩
 ·rw[aQ hys (f:=λz=>V.int z.2.num) λz y _ h=>h]at hp';exact q p H' s1 hp'
end
def kJ(zs us:ZN):List Int:=((us.filter (inN zs)).filter (lU zs us)).map λz=>z.2.num
theorem pO(zs us:ZN):(((us.filter (inN zs)).filter (lU zs us)).map λz=>V.int z.2.num)=(kJ zs us).map V.int:=by
 unfold kJ;rw[map_map];rfl
open Classical in
theorem lV{zs us:ZN}{z:Addr×Nd}:lU zs us z=true↔Unl (nds zs) (nds us) z.2.num:=by unfold lU;exact decide_eq_true_iff
theorem lW{zs us:ZN}{k:Int}:k∈kJ zs us↔Unl (nds zs) (nds us) k:=by
 unfold kJ;rw[mem_map];constructor
 ·rintro⟨z,hz,rfl⟩;exact lV.mp (mem_filter.mp hz).2
 ·intro h;obtain⟨m,hm,n,hn,e1,e2,h3⟩:=id h;obtain⟨x,hx,rfl⟩:=bj hm;obtain⟨z,hz,rfl⟩:=bj hn;refine⟨z,mem_filter.mpr ⟨mem_filter.mpr ⟨hz,oJ.mpr ⟨x,hx,by omega⟩⟩,lV.mpr ?_⟩,e2⟩;rw[e2];exact h
def gK(zs us:ZN):List (Key×V):=us.map λz=>((Sum.inl z.2.num:Key),V.int (g60 (nds zs) (nds us) z.2.num))
theorem lX{us:ZN}(h:((nds us).map (·.num)).Nodup):(us.map λz=>(Sum.inl z.2.num:Key)).Nodup:=by
 unfold nds at h;rw[map_map]at h;unfold Nodup at h⊢;rw[pairwise_map]at h⊢;exact h.imp λh e=>h (by injection e)
section
variable{P:Program}{w:World}{K:PySem.W.Frag}{mg:Str→Option Value}{base:Heap}{f:Addr}{cdv:Value}{A:Around}{outer:List Env}{s:Shared}{H0:Hp}{E:XK}
theorem sk4(T:Txt mg)(hr:Room 1 (A.deeper (PyProof.Rows.envOfC "_law_same_kinds" (ah aB) s.heap.objs.size f cdv))):
  ∃rd,PS (SKX P w K mg base f cdv A outer s H0 E) (skS 4) rd∧∀(D:Ends)(H:Hp)(t u d e l l':Addr)(as bs:List (Addr×(Addr×Nd)))(zs us:ZN),SKF H d e as bs zs us→H l'=some (.lst ((kJ zs us).map V.int)) →
   (∀g H' H'',Same H H'→H' g=none→H''=upd H' g (.dK (gK zs us))→D.nx [some (.ref t),some (.ref u),some (.ref d),some (.ref e),some (.ref l),some (.ref l'),some (.ref g)] H'')→rd D [some (.ref t),some (.ref u),some (.ref d),some (.ref e),some (.ref l),some (.ref l'),none] H:=by
 refine⟨_,ap (i:=6) pN.nd rfl (Or.inr rfl) (bg (eX rfl) rfl T.dict boot_dict (aa (gL (N:=["_law_number","_law_unlike"]) (cl:=[("_law_unlike",s.heap.objs.size+3)]) (k:=1) (js:=[5]) (g:=aZ 0) rfl
   (LcOk.mk' ["_law_unlike"] rfl rfl (by decide +kernel) (by decide +kernel) ?hcl rfl (by decide +kernel)) rfl ?hj (fQ (pv 3)) (λs H fp=>aE (i:=0) (show(["_law_number","_law_unlike"]:List Str).Nodup by decide +kernel) rfl (Or.inl rfl) (Or.inr rfl))
   (λs H fp=>bq (aa (pv 0) (aa (iL (am (r:=rIn K false) jz (pv 0) (pv 1) rfl) (uD (pv 0) ag) (pv 0)) ai)))) ai)),?_⟩
 case hcl =>
  intro y hy;rcases mem_cons.mp hy with e|hy
  ·rw[e];rfl
  ·cases hy
 case hj =>
  intro i j x h1 h2
  match i,h1,h2 with
  |0,h1,h2 =>
   cases h1;cases h2;exact⟨rfl,Or.inr (Or.inl rfl),(show((ah aB).names.lookup ("_law_unlike":Str)≠some NameKind.local)by decide +kernel),by first|exact Or.inl rfl|exact Or.inr rfl⟩
  |i+1,h1,h2=>simp at h1
 intro D H t u d e l l' as bs zs us L hl q;obtain⟨o,ho⟩:=L.fr;have l2:=L.l2;refine⟨_,rfl,e,o,aC bs,rfl,ho,λp hp=>?_⟩;rw[L.keys];refine eJ (fr:=[some (.ref l')]) us (λz=>V.int z.2.num) (by omega) hp (ck ho) rfl (λz y H'=>∃q,y=.ref q∧q≠p∧H' q=some (.tup [.int z.2.num,.int (g60 (nds zs) (nds us) z.2.num)])) (λz y H H' ⟨q,e,ne,h⟩ ex=>⟨q,e,ne,ex q _ ne h⟩) (λz H' k mz s1 hpl hk=>?_) (λys H' s1 hp' hys=>?_)
 ·refine⟨_,rfl,_,rfl,_,rfl,l',_,rfl,.inl (SqL.of (s1 _ _ hl)),rfl,ic _,_,rfl,?_⟩;have fin:∀v,v=V.int (g60 (nds zs) (nds us) z.2.num)→2≤sizeLine∧∀c,H' c=none→k (.ref c) (upd H' c (.tup [.int z.2.num,v])):=λv ev=>by
   subst ev;exact⟨le2,λq hq=>hk _ _ (af hq) ⟨q,rfl,dC hpl hq,ac⟩⟩
  rw[show(if false=true then !inV (.int z.2.num) ((kJ zs us).map V.int)else inV (.int z.2.num) ((kJ zs us).map V.int))=decide (z.2.num∈kJ zs us)from ko _ _]
  by_cases hu:z.2.num∈kJ zs us
  ·rw[decide_eq_true hu];have eg:=jl (lW.mp hu);exact aT ⟨_,rfl,_,_,rfl,rfl,fin _ (by rw[eg])⟩
  ·rw[decide_eq_false hu];have eg:=iy λh=>hu (lW.mpr h);exact aJ ⟨_,rfl,fin _ (by rw[eg])⟩
 ·obtain⟨cs,e1,e2,e3⟩:=cE (val:=V.ref) (S:=λ(z:Addr×Nd) (q:Addr)=>H' q=some (.tup [.int z.2.num,.int (g60 (nds zs) (nds us) z.2.num)])) hys (λz y _ ⟨q,e,_,h⟩=>⟨q,e,h⟩);have hcl:cs.length=us.length:=by rw[←e1,length_map]
  refine⟨p,cs.map λx=>(x.2,(Sum.inl x.1.2.num:Key),V.int (g60 (nds zs) (nds us) x.1.2.num)),rfl,by rw[hp',e2,map_map,map_map];rfl,λy hy=>?_,by rw[length_map];omega,?_,λg hg=>?_⟩
  ·obtain⟨x,hx,rfl⟩:=mem_map.mp hy;exact e3 x hx
  ·rw[map_map];have e4:cs.map ((λx:Addr×Key×V=>x.2.1)∘λx=>(x.2,(Sum.inl x.1.2.num:Key),V.int (g60 (nds zs) (nds us) x.1.2.num)))=us.map λz=>(Sum.inl z.2.num:Key):=by
    conv=>rhs;rw[←e1]
    rw[map_map];rfl
   rw[e4];exact lX (aI L.t2)
  ·have ekv:(cs.map λx=>(x.2,(Sum.inl x.1.2.num:Key),V.int (g60 (nds zs) (nds us) x.1.2.num))).map (·.2)=gK zs us:=by
    have:gK zs us=(cs.map (·.1)).map λz=>((Sum.inl z.2.num:Key),V.int (g60 (nds zs) (nds us) z.2.num)):=by rw[e1];rfl
    rw[this,map_map,map_map];rfl
   rw[ekv];exact q g H' _ s1 hg rfl
end
def gK0(zs us:ZN):List (Key×V):=cg (gK zs us) (Sum.inl 0:Key) (.int 0)
theorem gv0{zs us:ZN}(h:∀m∈nds zs,1≤m.num∧m.num≤30):bi (gK0 zs us) (Sum.inl 0:Key)=some (.int (g60 (nds zs) (nds us) 0)):=by
 unfold gK0;rw[eV,if_pos rfl,uv h]
theorem gv1{zs us:ZN}(T:TW.Tree1 (nds us)){z:Addr×Nd}(hz:z∈us):bi (gK0 zs us) (Sum.inl z.2.num:Key)=some (.int (g60 (nds zs) (nds us) z.2.num)):=by
 have hp:=T.pos z.2 (aA hz);unfold gK0;rw[eV,if_neg λh=>by injection h with h;omega]
 refine gS ?_ ?_
 ·have:(gK zs us).map (·.1)=us.map λz=>(Sum.inl z.2.num:Key):=by unfold gK;rw[map_map];rfl
  rw[this];exact lX (aI T)
 ·unfold gK;exact mem_map.mpr ⟨z,hz,rfl⟩
section
variable{P:Program}{w:World}{K:PySem.W.Frag}{mg:Str→Option Value}{base:Heap}{f:Addr}{cdv:Value}{A:Around}{outer:List Env}{s:Shared}{H0:Hp}{E:XK}
theorem sk6(T:Txt mg)(hr:Room 1 (A.deeper (PyProof.Rows.envOfC "_law_same_kinds" (ah aB) s.heap.objs.size f cdv))):
  ∃rd,PS (SKX P w K mg base f cdv A outer s H0 E) (skS 6) rd∧∀(D:Ends)(H:Hp)(t u d e l l' g:Addr)(as bs:List (Addr×(Addr×Nd)))(zs us:ZN),SKF H d e as bs zs us→(∀m∈nds zs,1≤m.num∧m.num≤30)→(∀n∈nds us,n.num≤60)→H g=some (.dK (gK0 zs us)) →
   (∀vs t' H',Same H H'→H' t'=some (.tup (aY vs))→At H' vs→(nds vs).Perm ((nds us).map (TW.reG (g60 (nds zs) (nds us))))→TW.cD (nds vs)→D.rt (.ref t') H')→rd D [some (.ref t),some (.ref u),some (.ref d),some (.ref e),some (.ref l),some (.ref l'),some (.ref g)] H:=by
 refine⟨_,aD (bg bu rfl T.tuple rfl (aa (aW cr rfl T.sorted boot_sorted (aa (gL (N:=["_law_number","_law_names","_law_second"]) (cl:=[("_law_second",s.heap.objs.size+2),("_law_names",s.heap.objs.size+4)]) (k:=1) (js:=[6,3]) (g:=aZ 0) rfl
   (LcOk.mk' ["_law_second","_law_names"] rfl rfl (by decide +kernel) (by decide +kernel) ?hcl rfl (by decide +kernel)) rfl ?hj (fQ (pv 3)) (λs H fp=>aE (i:=0) (show(["_law_number","_law_names","_law_second"]:List Str).Nodup by decide +kernel) rfl (Or.inl rfl) (Or.inr rfl))
   (λs H fp=>aF (r:=nN K) dN (bq (aa (aU (aK hr) (pv 1) (pv 0) (λ_ _=>rfl)) (aa (aU (aK hr) (pv 1) (av (r:=cG K) ao (aU (aK hr) (pv 2) (pv 0) (λ_ _=>rfl)) ag (λ_ _=>rfl)) (λ_ _=>rfl)) ai))) (bJ (r:=kd K) cI (aU (aK hr) (pv 2) (pv 0) (λ_ _=>rfl)) (bt ag) dh))) ai)) ai)),?_⟩
 case hcl =>
  intro y hy;rcases mem_cons.mp hy with e|hy
  ·rw[e];rfl
  rcases mem_cons.mp hy with e|hy
  ·rw[e];rfl
  ·cases hy
 case hj =>
  intro i j x h1 h2
  match i,h1,h2 with
  |0,h1,h2 =>
   cases h1;cases h2;exact⟨rfl,Or.inr (Or.inl rfl),(show((ah aB).names.lookup ("_law_names":Str)≠some NameKind.local)by decide +kernel),by first|exact Or.inl rfl|exact Or.inr rfl⟩
  |1,h1,h2 =>
   cases h1;cases h2;exact⟨rfl,Or.inr (Or.inl rfl),(show((ah aB).names.lookup ("_law_second":Str)≠some NameKind.local)by decide +kernel),by first|exact Or.inl rfl|exact Or.inr rfl⟩
  |i+2,h1,h2=>simp at h1
 intro D H t u d e l l' g as bs zs us L hz30 hu60 hg q;obtain⟨o,ho⟩:=L.fr;have l2:=L.l2;refine⟨_,rfl,e,o,aC bs,rfl,ho,λp hp=>?_⟩;rw[L.keys];refine eJ (fr:=[some (.ref g),some (.ref e)]) us (λz=>V.int z.2.num) (by omega) hp (ck ho) rfl (λz y H'=>∃q,y=.ref q∧q≠p∧H' q=some (.tup (vals (TW.reG (g60 (nds zs) (nds us)) z.2)))) (λz y H H' ⟨q,e,ne,h⟩ ex=>⟨q,e,ne,ex q _ ne h⟩) (λz H' k mz s1 hpl hk=>?_) (λys H' s1 hp' hys=>?_)
 ·have L1:=L.same s1;have hg1:=s1 _ _ hg;obtain⟨r,gr,ar⟩:=L1.b2.get (aI L.t2) mz;have d1:cW H' g (.int z.2.num) (some (.int (g60 (nds zs) (nds us) z.2.num))):=by rw[←gv1 L.t2 mz];exact cW.k (k:=Sum.inl z.2.num) hg1
  have d2:cW H' g (.int z.2.par) (some (.int (g60 (nds zs) (nds us) z.2.par))):=by
   rcases TW.nE L.t2 (aA mz)with h0|⟨x,hx,ex⟩
   ·rw[h0,←gv0 hz30];exact cW.k (k:=Sum.inl 0) hg1
   ·obtain⟨y,hy,rfl⟩:=bj hx;have ex':y.2.num=z.2.par:=by first|exact ex|exact ex.symm|exact ex.1|exact ex.1.symm
    rw[←ex',←gv1 L.t2 hy];exact cW.k (k:=Sum.inl y.2.num) hg1
  refine⟨_,rfl,_,rfl,g,_,rfl,d1,?_⟩;refine⟨_,rfl,_,rfl,_,rfl,e,_,rfl,gr,r,_,_,_,rfl,rfl,SqT.of ar,qB z.2,g,_,rfl,d2,le2,λc hc=>?_⟩;have s2:=af (o:=.tup [.int (g60 (nds zs) (nds us) z.2.num),.int (g60 (nds zs) (nds us) z.2.par)]) hc;have ecut:dU (bz z.2) (some 1) none=[.str z.2.nm,stV z.2.st]:=rfl;obtain⟨r',gr',ar'⟩:=(L1.same s2).b2.get (aI L.t2) mz;refine⟨_,rfl,_,rfl,e,_,rfl,gr',_,rfl,r',_,rfl,SqT.of ar',(by intro h;exact absurd h.1 (show ¬HT.sIx 3 0 (some 1)=0 by decide)),λt' ht'=>?_⟩;rw[ecut];have s3:=s2.trans (af (o:=.tup [.str z.2.nm,stV z.2.st]) ht');refine⟨c,t',_,_,rfl,rfl,SqT.of (br ht' ac),SqT.of ac,by simp,(show 4≤sizeLine from aq (by decide)),λh=>absurd h (cons_ne_nil _ _),λ_ q hq=>?_⟩;have hpl3:∃ys,upd (upd H' c (.tup [.int (g60 (nds zs) (nds us) z.2.num),.int (g60 (nds zs) (nds us) z.2.par)])) t' (.tup [.str z.2.nm,stV z.2.st]) p=some (.lst ys):=let⟨ys,e⟩:=hpl;⟨ys,s3 _ _ e⟩;exact hk _ _ (s3.trans (af hq)) ⟨q,rfl,dC hpl3 hq,ac⟩
 ·obtain⟨cs,e1,e2,e3⟩:=cE (val:=V.ref) (S:=λ(z:Addr×Nd) (q:Addr)=>H' q=some (.tup (vals (TW.reG (g60 (nds zs) (nds us)) z.2)))) hys (λz y _ ⟨q,e,_,h⟩=>⟨q,e,h⟩);have er:ys=aY (cs.map λx=>(x.2,TW.reG (g60 (nds zs) (nds us)) x.1.2)):=by rw[e2,←bS,map_map];rfl
  have en:nds (cs.map λx=>(x.2,TW.reG (g60 (nds zs) (nds us)) x.1.2))=(nds us).map (TW.reG (g60 (nds zs) (nds us))):=by
   have:(nds us).map (TW.reG (g60 (nds zs) (nds us)))=(nds (cs.map (·.1))).map (TW.reG (g60 (nds zs) (nds us))):=by rw[e1]
   rw[this];unfold nds;rw[map_map,map_map,map_map];rfl
  have hcl:cs.length=us.length:=by rw[←e1,length_map]
  have hsq:SqL K H' p (aY (cs.map λx=>(x.2,TW.reG (g60 (nds zs) (nds us)) x.1.2))):=SqL.of (by rw[hp',er]);refine fc (K:=K) (H:=H') (l:=p) (zs:=cs.map λx=>(x.2,TW.reG (g60 (nds zs) (nds us)) x.1.2)) (Q:=D.rt) (.inl hsq) (λz hz=>?_) ?_ (by rw[length_map];omega) (λvs t' H2 s2 ht' hA' hpm hrise=>?_)
  ·obtain⟨x,hx,rfl⟩:=mem_map.mp hz;exact e3 x hx
  ·rw[en,map_map];have hnd:=aI L.t2;unfold Nodup at hnd⊢;rw[pairwise_map]at hnd⊢;exact hnd.imp_of_mem λ{a b} ha hb h e=>h (oI hz30 (hu60 a ha) (hu60 b hb) e)
  ·refine q vs t' H2 (s1.trans s2) ht' hA' ?_ hrise;have:(nds vs).Perm (nds (cs.map λx=>(x.2,TW.reG (g60 (nds zs) (nds us)) x.1.2))):=hpm.map _;rw[en]at this;exact this
end
end TK
namespace L2
open PySem PySem.Spec PyProof.Rows
theorem Inv.freeze{X:Cx}{pins:List (Addr×Obj)}{σ:St}{H:Hp}{s:Shared}{d:Addr}{kvs:List (Key×V)}(I:Inv X pins σ H s)(hH:H d=some (.dK kvs)):∃o,Inv X pins σ (upd H d (.frz o (.dK kvs))) s:=by
 obtain⟨hz,hsm,vs,rel,o,es,ep,ho,hx,hd,hk,hp,hn⟩:=I.hok d _ hH;exact⟨o,I.write (t':=s.toks) (x:=d) (e:=d) (by rw[hH];trivial) (.inl rfl) (λ_ _ _ q=>q) ⟨o,ho⟩ ⟨ho,hz,hsm,vs,rel,o,es,ep,ho,hx,hd,hk,hp,hn⟩⟩
def xA(t:TS):TS:=λD σ H=>∃d kvs,H d=some (.dK kvs)∧∀o,t D σ (upd H d (.frz o (.dK kvs)))
theorem fA{X:Cx}{st:Stmt}{t:TS}(hs:PS X st t):PS X st (xA t):=λpins s σ H D I ⟨d,kvs,h,ht⟩=>by
 obtain⟨o,I2⟩:=I.freeze h;exact hs pins s σ _ D I2 (ht o)
end L2
namespace TK
open PySem L2
section
variable{P:Program}{w:World}{K:PySem.W.Frag}{mg:Str→Option Value}{base:Heap}
def oK:Sp:=λvs H Q _=>∃t u zs us,vs=[.ref t,.ref u]∧Tre H t zs∧Tre H u us∧zs.length≤29∧us.length≤29∧(∀m∈nds zs,1≤m.num∧m.num≤30)∧(∀n∈nds us,n.num≤60∧0≤n.par∧n.par≤60∧n.nm.length≤100) ∧
 ∀v ws H',Same H H'→Tre H' v ws→cY (nds zs) (nds ws)→(∀n∈nds ws,cO n)→ws.length=us.length→Q (.ref v) H'
theorem wc{f:Addr}{fd:FuncData}(F:Fun K "_law_same_kinds" "_law_same_kinds" aB f fd)(T:Txt mg)(CB:Has P w K mg base 1 "_law_book" ["_law_tree_here"] fm):FnOk P w K mg base CX0 2 f fd ["_law_one","_law_other"] oK:=by
 obtain⟨fK,fdK,GK,mK,kK,bK⟩:=CB;refine F.ok pN (λvs H Q E h=>?_) (λcdv A outer s H vs Q E hr h=>?_)
 ·obtain⟨t,u,zs,us,rfl,_⟩:=h;rfl
 ·obtain⟨t,u,zs,us,rfl,tr,ur,l1,l2,hz,hu,q⟩:=h;obtain⟨r2,p2,h2⟩:=sk2 (P:=P) (w:=w) (K:=K) (mg:=mg) (base:=base) (outer:=outer) (H0:=H) (E:=E) hr;obtain⟨r3,p3,h3⟩:=sk3 (P:=P) (w:=w) (K:=K) (mg:=mg) (base:=base) (outer:=outer) (H0:=H) (E:=E) hr;obtain⟨r4,p4,h4⟩:=sk4 (P:=P) (w:=w) (K:=K) (base:=base) (outer:=outer) (H0:=H) (E:=E) T hr;obtain⟨r6,p6,h6⟩:=sk6 (P:=P) (w:=w) (K:=K) (base:=base) (outer:=outer) (H0:=H) (E:=E) T hr;refine⟨_,ae (ap (i:=2) pN.nd rfl (Or.inr rfl) (ak GK hr rfl mK kK bK .nil aL (aa (pv 0) ai)))
   (ae (ap (i:=3) pN.nd rfl (Or.inr rfl) (ak GK hr rfl mK kK bK .nil aL (aa (pv 1) ai)))
   (ae (fA p2) (ae p3 (ae p4 (ae (gI (aK hr) (pv 6) ag ag rfl) (aj p6)))))),?_⟩
  refine⟨_,rfl,t,zs,rfl,tr,λd as H1 s1 hd0 b1 hd=>?_⟩;refine⟨_,rfl,u,us,rfl,ur.same s1,λe bs H2 s2 he0 b2 he=>?_⟩;refine⟨e,_,he,λo=>?_⟩;have s12:Same H1 (upd H2 e (.frz o (.dK (aC bs)))):=aO he0 s2;have s02:Same H (upd H2 e (.frz o (.dK (aC bs)))):=s1.trans s12;have b2':Book (upd H2 e (.frz o (.dK (aC bs)))) e bs us:=⟨.inr ⟨o,ac⟩,b2.of,λx hx=>by
   have:=b2.at' x hx;rw[al λz=>by rw[z,he]at this;cases this];exact this⟩
  have L:SKF (upd H2 e (.frz o (.dK (aC bs)))) d e as bs zs us:=⟨b1.same s12,b2',⟨o,ac⟩,tr.tr,ur.tr,l1,l2⟩;generalize upd H2 e (.frz o (.dK (aC bs)))=H3 at L s02⊢;refine h2 _ H3 t u d e as bs zs us L λl H4 s4 hl=>?_;have L4:=L.same s4;refine h3 _ H4 t u d e l as bs zs us L4 hl λl' H5 s5 hl'=>?_;have L5:=L4.same s5;rw[pO]at hl';refine h4 _ H5 t u d e l l' as bs zs us L5 hl' λg H6 H7 s6 hg e7=>?_;subst e7;have hn:(gK zs us).length=us.length:=by unfold gK;rw[length_map]
  refine⟨_,rfl,g,_,rfl,jn.k (k:=Sum.inl 0) (kvs:=gK zs us) ac (aG (by omega)),?_⟩;have s67:Same H6 (upd (upd H6 g (.dK (gK zs us))) g (.dK (cg (gK zs us) (Sum.inl 0:Key) (.int 0)))):=aO hg (af hg);have hg7:(upd (upd H6 g (.dK (gK zs us))) g (.dK (cg (gK zs us) (Sum.inl 0:Key) (.int 0)))) g=some (.dK (gK0 zs us)):=ac;generalize upd (upd H6 g (.dK (gK zs us))) g (.dK (cg (gK zs us) (Sum.inl 0:Key) (.int 0)))=H7 at s67 hg7⊢;have L7:=(L5.same s6).same s67;refine h6 _ H7 t u d e l l' g as bs zs us L7 hz (λn hn=>(hu n hn).1) hg7 λvs t' H8 s8 ht' hA' hpm hrise=>?_;obtain⟨T8,sk,nok,hlen⟩:=tK hz ur.tr hu hpm hrise;have hlen':vs.length=us.length:=by
   have:=hlen;unfold nds at this
   rwa [length_map,length_map]at this
  exact q t' vs H8 (s02.trans (s4.trans (s5.trans (s6.trans (s67.trans s8))))) ⟨ht',hA',T8,by omega⟩ sk nok hlen'
end
def ldS(i:Nat):Stmt:=(bA cw).getD i (.Pass ⟨0,0,0,0⟩)
def DN:List Str:=["_law_tree_here","_law_deed_here","_law_book_here","_law_number","_law_parent"]
theorem iH:FnScope DN ["_law_tree_here","_law_deed_here"] (ah cw):=fsc
abbrev DX(P:Program)(w:World)(K:PySem.W.Frag)(mg:Str→Option Value)(base:Heap)(f:Addr)(cdv:Value)(A:Around)(outer:List Env)(s:Shared)(H:Hp)(E:XK):Cx:=(gC CX0 P w K mg base DN "_law_done" (ah cw) f cdv A outer s H E).nox
section
variable{P:Program}{w:World}{K:PySem.W.Frag}{mg:Str→Option Value}{base:Heap}{f:Addr}{cdv:Value}{A:Around}{outer:List Env}{s:Shared}{H0:Hp}{E:XK}
theorem we(T:Txt mg)(hr:Room 1 (A.deeper (PyProof.Rows.envOfC "_law_done" (ah cw) s.heap.objs.size f cdv))):
  ∃t,PS (DX P w K mg base f cdv A outer s H0 E) (ldS 6) t∧∀(D:Ends)(H:Hp)(σ:St)(x0 x1 x3 x4:Option V)(d:Addr)(bs:List (Addr×Nd)),σ=[x0,x1,some (.ref d),x3,x4]→H d=some (.dK (cc bs))→(∀b∈bs,H b.1=some (.tup (bz b.2)))→(bs.map (·.2.num)).Nodup→bs.length≤60 →
   (∀o us t' H',Same (upd H d (.frz o (.dK (cc bs)))) H'→H' t'=some (.tup (aY us))→At H' us→(nds us).Perm (bs.map (·.2))→TW.cD (nds us)→D.rt (.ref t') H')→t D σ H:=by
 refine⟨_,aD (bg bu rfl T.tuple rfl (aa (aW cr rfl T.sorted boot_sorted (aa (gL (N:=["_law_one","_law_book_here"]) (cl:=[("_law_book_here",s.heap.objs.size+1)]) (k:=1) (js:=[2]) (g:=aZ 0) rfl
    (LcOk.mk' ["_law_book_here"] rfl rfl (by decide +kernel) (by decide +kernel) ?hcl rfl (by decide +kernel)) rfl ?hj (uf (pv 2)) (λs H fp=>aE (i:=0) (show(["_law_one","_law_book_here"]:List Str).Nodup by decide +kernel) rfl (Or.inl rfl) (Or.inr rfl))
    (λs H fp=>aF (r:=nN K) dN (bq (aa (pv 0) ai)) (aU (aK hr) (pv 1) (pv 0) (λ_ _=>rfl)))) ai)) ai)),?_⟩
 case hcl =>
  intro y hy;rcases mem_cons.mp hy with e|hy
  ·rw[e];rfl
  ·cases hy
 case hj =>
  intro i j x h1 h2
  match i,h1,h2 with
  |0,h1,h2 =>
   cases h1;cases h2;exact⟨rfl,Or.inr (Or.inl rfl),(show((ah cw).names.lookup ("_law_book_here":Str)≠some NameKind.local)by decide +kernel),by first|exact Or.inl rfl|exact Or.inr rfl⟩
  |i+1,h1,h2=>simp at h1
 rintro D H _ x0 x1 x3 x4 d bs rfl hd hb hnd hl q;refine⟨_,rfl,d,_,rfl,hd,λo p hp=>?_⟩;have hb1:∀b∈bs,upd H d (.frz o (.dK (cc bs))) b.1=some (.tup (bz b.2)):=λb mb=>by
  rw[al]
  ·exact hb b mb
  ·intro e;have:=hb b mb;rw[e,hd]at this;cases this
 have hd1:upd H d (.frz o (.dK (cc bs))) d=some (.frz o (.dK (cc bs))):=ac;have sq:∀us t' H',Same (upd H d (.frz o (.dK (cc bs)))) H'→H' t'=some (.tup (aY us))→At H' us→(nds us).Perm (bs.map (·.2))→TW.cD (nds us)→D.rt (.ref t') H':=q o;generalize upd H d (.frz o (.dK (cc bs)))=H1 at hb1 hd1 sq hp⊢;rw[ja];refine eJ (fr:=[some (.ref d)]) bs (λb=>V.int b.2.num) (by omega) hp (ck hd1) rfl (λb y H'=>∃q,y=.ref q∧q≠p∧H' q=some (.tup (vals b.2))) (λb y H H' ⟨q,e,ne,h⟩ ex=>⟨q,e,ne,ex q _ ne h⟩) (λb H' k mb s1 hpl hk=>?_) (λys H' s1 hp' hys=>?_)
 ·refine⟨_,rfl,(show 1≤sizeLine from aq (by decide)),λc hc=>?_⟩;have s2:=af (o:=.tup [.int b.2.num]) hc;refine⟨_,rfl,_,rfl,d,_,rfl,.inl ⟨cc bs,Sum.inl b.2.num,.inr ⟨o,s2 _ _ (s1 _ _ hd1)⟩,rfl,(jN hnd mb).symm⟩,c,b.1,_,_,rfl,rfl,SqT.of ac,SqT.of (s2 _ _ (s1 _ _ (hb1 b mb))),by simp,(show 4≤sizeLine from aq (by decide)),λh=>absurd h (cons_ne_nil _ _),λ_ q hq=>?_⟩;have hpl2:∃ys,upd H' c (.tup [.int b.2.num]) p=some (.lst ys):=let⟨ys,e⟩:=hpl;⟨ys,s2 _ _ e⟩;exact hk _ _ (s2.trans (af hq)) ⟨q,rfl,dC hpl2 hq,ac⟩
 ·obtain⟨cs,e1,e2,e3⟩:=cE (val:=V.ref) (S:=λ(b:Addr×Nd) (q:Addr)=>H' q=some (.tup (vals b.2))) hys (λb y _ ⟨q,e,_,h⟩=>⟨q,e,h⟩);have er:ys=aY (cs.map λx=>(x.2,x.1.2)):=by rw[e2,←bS,map_map];rfl
  have en:nds (cs.map λx=>(x.2,x.1.2))=bs.map (·.2):=by rw[←e1];unfold nds;rw[map_map,map_map];rfl
  have hcl:cs.length=bs.length:=by rw[←e1,length_map]
  refine fc (zs:=cs.map λx=>(x.2,x.1.2)) (.inl (SqL.of (by rw[hp',er]))) (λz hz=>?_) ?_ (by rw[length_map];omega) (λus t' H2 s2 ht' hA' hpm hrise=>?_)
  ·obtain⟨x,hx,rfl⟩:=mem_map.mp hz;exact e3 x hx
  ·rw[en,map_map];exact hnd
  ·refine sq us t' H2 (s1.trans s2) ht' hA' ?_ hrise;have:(nds us).Perm (nds (cs.map λx=>(x.2,x.1.2))):=hpm.map _;rw[en]at this;exact this
theorem tN(T:Txt mg)(hr:Room 1 (A.deeper (PyProof.Rows.envOfC "_law_done" (ah cw) s.heap.objs.size f cdv)))(CU:Has P w K mg base 1 "_law_under" ["_law_book_here","_law_number","_law_goal"] fT):
  ∃t,PS (DX P w K mg base f cdv A outer s H0 E) (ldS 4) t∧∀(D:Ends)(H:Hp)(σ:St)(a c d:Addr)(dd:TW.Deed Str)(n:Int)(as:List (Addr×(Addr×Nd)))(zs:ZN),σ=[some (.ref a),some (.ref c),some (.ref d),some (.int n),none]→Tre H a zs→H c=some (.tup (bf dd))→Book H d as zs→1≤n →
   ((∃k,dd=.drop k)→∀us t' H' (g:Nd→Bool),Same H H'→H' t'=some (.tup (aY us))→At H' us→nds us=(nds zs).filter g→(∀m∈nds zs,g m=true↔¬TW.Und (nds zs) n m.num)→D.rt (.ref t') H')→((¬∃k,dd=.drop k)→D.nx σ H)→t D σ H:=by
 obtain⟨fU,fdU,GU,mU,kU,bU⟩:=CU;refine⟨_,be (am cx (av ao (pv 1) ag (λ_ _=>rfl)) aM (aw _)) (aj (aD (bg bu rfl T.tuple rfl (aa (db (N:=["_law_node","_law_book_here","_law_number"]) (cl:=[("_law_number",s.heap.objs.size+2),("_law_book_here",s.heap.objs.size+1)]) (k:=1) (js:=[2,3]) (g:=aZ 0) rfl
    (LcOk.mk' ["_law_number","_law_book_here"] rfl rfl (by decide +kernel) (by decide +kernel) ?hcl rfl (by decide +kernel)) rfl ?hj (cC (pv 0)) (λs H fp=>aE (i:=0) (show(["_law_node","_law_book_here","_law_number"]:List Str).Nodup by decide +kernel) rfl (Or.inl rfl) (Or.inr rfl))
    (λs H fp=>md (iK (ak (X:=cy _ _ _ _ _ _ _) GU hr rfl mU kU bU .nil aL (aa (pv 1) (aa (av (r:=cG K) ao (pv 0) ag (λ_ _=>rfl)) (aa (pv 2) ai)))) (λ_=>rfl))) (λs H fp=>pv 0)) ai)))) aH,?_⟩
 case hcl =>
  intro y hy;rcases mem_cons.mp hy with e|hy
  ·rw[e];rfl
  ·rcases mem_cons.mp hy with e|hy
   ·rw[e];rfl
   ·cases hy
 case hj =>
  intro i j x h1 h2
  match i,h1,h2 with
  |0,h1,h2 =>
   cases h1;cases h2;exact⟨rfl,Or.inr (Or.inl rfl),(show((ah cw).names.lookup ("_law_book_here":Str)≠some NameKind.local)by decide +kernel),by first|exact Or.inl rfl|exact Or.inr rfl⟩
  |1,h1,h2 =>
   cases h1;cases h2;exact⟨rfl,Or.inr (Or.inl rfl),(show((ah cw).names.lookup ("_law_number":Str)≠some NameKind.local)by decide +kernel),by first|exact Or.inl rfl|exact Or.inr rfl⟩
  |i+2,h1,h2=>simp at h1
 rintro D H _ a c d dd n as zs rfl tr hc bk hn q1 q2;have hT:=tr.tr;have hl:=tr.len;have sd:SqT K H c (bf dd):=SqT.of hc;cases dd with
 |make n' p nm st=>exact⟨_,rfl,c,_,_,_,rfl,rfl,sd,rfl,rfl,_,rfl,aJ (q2 λ⟨k,e⟩=>by cases e)⟩
 |write n' st=>exact⟨_,rfl,c,_,_,_,rfl,rfl,sd,rfl,rfl,_,rfl,aJ (q2 λ⟨k,e⟩=>by cases e)⟩
 |move n' p nm=>exact⟨_,rfl,c,_,_,_,rfl,rfl,sd,rfl,rfl,_,rfl,aJ (q2 λ⟨k,e⟩=>by cases e)⟩
 |drop n' =>
  refine⟨_,rfl,c,_,_,_,rfl,rfl,sd,rfl,rfl,_,rfl,aT ?_⟩;refine⟨_,rfl,a,rfl,⟨_,SqT.of tr.tup⟩,λp hp=>?_⟩
  classical
  refine ci (fr:=[some (.ref d),some (.int n)]) zs (λz=>V.ref z.1) (by omega) hp (dQ (by rw[bS];exact SqT.of tr.tup)) rfl (λz=>!decide (TW.Und (nds zs) n z.2.num)) (λz y _=>y=.ref z.1) (λz y H H' h _=>h) (λz H' k mz s1 _ hk=>?_) (λz H' k mz _ s1 _ hk=>⟨_,rfl,hk _ H' (Same.refl _) rfl⟩) (λys H' s1 hp' hys=>?_)
  ·obtain⟨pa,hpa⟩:=TW.PathTo.ex hT (aA mz);refine⟨_,rfl,_,rfl,z.1,_,_,_,rfl,rfl,SqT.of (s1 _ _ (tr.nod z mz)),at0 z.2,_,rfl,d,z.2.num,n,as,zs,pa,rfl,bk.same s1,hT,hpa,hn,λb hb=>⟨b,rfl,?_⟩⟩;have:b=decide (TW.Und (nds zs) n z.2.num):=by rw[Bool.eq_iff_iff,hb,decide_eq_true_eq]
   rw[this];exact hk H' (Same.refl _)
  ·have ey:=aQ (f:=λz:Addr×Nd=>V.ref z.1) hys (λz y _ h=>h);refine⟨p,_,rfl,.inl ⟨SqL.of hp',λl hl'=>?_⟩⟩;have s2:=s1.trans (af (o:=.tup ys) hl');refine q1 ⟨n',rfl⟩ (zs.filter λz=>!decide (TW.Und (nds zs) n z.2.num)) l _ (λm=>!decide (TW.Und (nds zs) n m.num)) s2 (by rw[ac,ey,bS]) (λy hy=>s2 _ _ (tr.nod y (mem_filter.mp hy).1)) ?_ λm _=>?_
   ·have hfm:∀g:Nd→Bool,nds (zs.filter λz=>g z.2)=(nds zs).filter g:=λg=>by
     unfold nds;rw[filter_map];rfl
    exact hfm λm=>!decide (TW.Und (nds zs) n m.num)
   ·rw[not_eq_true',decide_eq_false_iff_not]
end
def ux:List Stmt:=match ldS 5 with
 |.If _ _ b _=>b
 |_=>[]
def elS(i:Nat):Stmt:=ux.getD i (.Pass ⟨0,0,0,0⟩)
structure LD(H0 H:Hp)(a c d:Addr)(dd:TW.Deed Str)(as:List (Addr×(Addr×Nd)))(zs:ZN):Prop where
 s0:Same H0 H
 d0:H0 d=none
 tre:Tre H a zs
 deed:H c=some (.tup (bf dd))
 book:Book H d as zs
theorem LD.same{H0 H H':Hp}{a c d:Addr}{dd:TW.Deed Str}{as:List (Addr×(Addr×Nd))}{zs:ZN}(h:LD H0 H a c d dd as zs)(s:Same H H'):LD H0 H' a c d dd as zs :=
 ⟨h.s0.trans s,h.d0,h.tre.same s,s _ _ h.deed,h.book.same s⟩
theorem rH{H:Hp}{a d:Addr}{xs:List V}{kvs:List (Key×V)}(h:H a=some (.tup xs))(hd:Rd H d (.dK kvs)):a≠d:=λe=>by
 rcases hd with hd|⟨o,hd⟩<;>rw[e,hd]at h<;>cases h
theorem LD.turn{H0 H:Hp}{a c d:Addr}{dd:TW.Deed Str}{as:List (Addr×(Addr×Nd))}{zs:ZN}(h:LD H0 H a c d dd as zs){u:HO}(hu:Rd (upd H d u) d (.dK (aC as))):LD H0 (upd H d u) a c d dd as zs:=by
 have keep:∀{b:Addr}{xs:List V},H b=some (.tup xs)→upd H d u b=some (.tup xs):=λhb=>by rw[al (rH hb h.book.dict)];exact hb
 exact⟨aO h.d0 h.s0,h.d0,⟨keep h.tre.tup,λz hz=>keep (h.tre.nod z hz),h.tre.tr,h.tre.len⟩,keep h.deed,⟨hu,h.book.of,λa ha=>keep (h.book.at' a ha)⟩⟩
section
variable{P:Program}{w:World}{K:PySem.W.Frag}{mg:Str→Option Value}{base:Heap}{f:Addr}{cdv:Value}{A:Around}{outer:List Env}{s:Shared}{H0:Hp}{E:XK}
theorem wf(hr:Room 1 (A.deeper (PyProof.Rows.envOfC "_law_done" (ah cw) s.heap.objs.size f cdv))):
  ∃t,PS (DX P w K mg base f cdv A outer s H0 E) (elS 5) t∧∀(D:Ends)(H:Hp)(a c d:Addr)(dd:TW.Deed Str)(n p:Int)(nm:Str)(as:List (Addr×(Addr×Nd)))(zs:ZN)(x4:Option V)(o:Obj),LD H0 H a c d dd as zs→H d=some (.frz o (.dK (aC as)))→jb (nds zs) dd n p nm→TW.gf (nds zs) p→NotIn (nds zs) dd n p→(∀m∈nds zs,m.num≠n→¬(m.par=p∧m.nm=nm)) →
   (∀bs H',Same H0 H'→H' d=some (.dK (cc bs))→(∀b∈bs,H' b.1=some (.tup (bz b.2)))→(bs.map (·.2.num)).Nodup→bs.length≤zs.length+1→(∀us,us.Perm (bs.map (·.2))→TW.cD us→TW.Told (nds zs) dd (.inr us))→D.nx [some (.ref a),some (.ref c),some (.ref d),some (.int n),x4] H') →
   t D [some (.ref a),some (.ref c),some (.ref d),some (.int n),x4] H:=by
 refine⟨_,sI (gI (aK hr) (pv 2) (pv 3) (aF dN (bJ cI (pv 1) (bt ag) (bt ag)) (bq (aa (iL (am cx (av ao (pv 1) ag (λ_ _=>rfl)) aM (aw _)) (av ao (pv 1) ag (λ_ _=>rfl)) (av ao (aU (aK hr) (pv 2) (pv 3) (λ_ _=>rfl)) ag (λ_ _=>rfl))) ai))) rfl),?_⟩;intro D H a c d dd n p nm as zs x4 o L0 hd mm hF hi hfree qn;refine⟨d,o,aC as,L0.d0,hd,?_⟩;have L:=L0.turn (u:=.dK (aC as)) (.inl ac);have hd1:upd H d (.dK (aC as)) d=some (.dK (aC as)):=ac;generalize upd H d (.dK (aC as))=H1 at L hd1⊢;have hT:=L.tre.tr;have hnd:=aI hT;have hlen:=L.tre.len;have fin:∀(st:Option Int)(q:Addr)(H2:Hp),Same H1 H2→H2 q=some (.tup (bz ⟨n,p,nm,st⟩))→(∀us,(TW.ax (nds zs) n→us=(nds zs).map (TW.put ⟨n,p,nm,st⟩)→TW.Told (nds zs) dd (.inr us))∧(¬TW.ax (nds zs) n→us.Perm (⟨n,p,nm,st⟩::nds zs)→TW.cD us→TW.Told (nds zs) dd (.inr us))) →
   D.nx [some (.ref a),some (.ref c),some (.ref d),some (.int n),x4] (upd H2 d (.dK (cg (aC as) (Sum.inl n:Key) (.ref q)))):=by
  intro st q H2 s2 hq ht;have L2':=L.same s2;obtain⟨bs,e1,e2,e3,e4,e5⟩:=lF (new:=⟨n,p,nm,st⟩) (s2 _ _ hd1) L2'.book.of L2'.book.at' hq hnd;refine qn bs _ (aO L.d0 L2'.s0) e1 e2 e3 e4 λus hp hrise=>?_;rcases e5 with⟨h1,h2⟩|⟨h1,h2⟩
  ·rw[h2]at hp;exact(ht us).1 h1 (TW.iW hrise (TW.gQ hT.rise) hp)
  ·rw[h2]at hp;exact(ht us).2 h1 (hp.trans List.perm_append_comm) hrise
 have sd:∀{H2:Hp},Same H1 H2→SqT K H2 c (bf dd):=λs2=>SqT.of (s2 _ _ L.deed);rcases mm with⟨st,rfl,hno⟩|⟨rfl,hh⟩
 ·refine⟨_,rfl,_,rfl,_,rfl,c,_,rfl,sd (Same.refl _),(λh=>absurd h.1 (show ¬HT.sIx 5 0 (some 2)=0 by decide)),λt1 ht1=>?_⟩;have s2:=af (o:=.tup (dU (bf (.make n p nm st)) (some 2) (some 4))) ht1;refine⟨_,rfl,c,_,_,_,rfl,rfl,sd s2,rfl,rfl,_,rfl,aT ⟨_,rfl,c,_,_,_,rfl,rfl,sd s2,rfl,(show 1≤sizeLine from aq (by decide)),λt2 ht2=>?_⟩⟩;have s3:=s2.trans (af (o:=.tup [stV st]) ht2);refine⟨t1,t2,[.int p,.str nm],[stV st],rfl,rfl,SqT.of (br ht2 ac),SqT.of ac,by simp,(show 3≤sizeLine from aq (by decide)),λh=>absurd h (cons_ne_nil _ _),λ_ q hq=>?_⟩;have s4:=s3.trans (af (o:=.tup ([.int p,.str nm]++[stV st])) hq);refine⟨_,rfl,_,rfl,d,_,rfl,jn.k (k:=Sum.inl n) (s4 _ _ hd1) (aG ?_),fin st q _ s4 ac λus=>⟨λh _=>absurd h hno,λ_ hp hrise=>.made hno hF (λm hm h=>hfree m hm (λe=>hno ⟨m,hm,e⟩) h) hp hrise⟩⟩;have:=congrArg length L.book.of;unfold aC;rw[length_map]at this⊢;omega
 ·refine⟨_,rfl,_,rfl,_,rfl,c,_,rfl,sd (Same.refl _),(λh=>absurd h.1 (show ¬HT.sIx 4 0 (some 2)=0 by decide)),λt1 ht1=>?_⟩;have s2:=af (o:=.tup (dU (bf (.move n p nm)) (some 2) (some 4))) ht1;obtain⟨m,hm,em⟩:=id hh;obtain⟨z,hz,rfl⟩:=bj hm;obtain⟨b,hb1,hb2⟩:=(L.same s2).book.get hnd hz;rw[em]at hb1;refine⟨_,rfl,c,_,_,_,rfl,rfl,sd s2,rfl,rfl,_,rfl,aJ ⟨_,rfl,_,rfl,d,_,rfl,hb1,b,_,_,_,rfl,rfl,SqT.of hb2,mY z.2,(show 1≤sizeLine from aq (by decide)),λt2 ht2=>?_⟩⟩;have s3:=s2.trans (af (o:=.tup [stV z.2.st]) ht2);refine⟨t1,t2,[.int p,.str nm],[stV z.2.st],rfl,rfl,SqT.of (br ht2 ac),SqT.of ac,by simp,(show 3≤sizeLine from aq (by decide)),λh=>absurd h (cons_ne_nil _ _),λ_ q hq=>?_⟩;have s4:=s3.trans (af (o:=.tup ([.int p,.str nm]++[stV z.2.st])) hq);refine⟨_,rfl,_,rfl,d,_,rfl,jn.k (k:=Sum.inl n) (s4 _ _ hd1) (aG ?_),fin z.2.st q _ s4 ac λus=>⟨λ_ e=>by rw[e];exact .moved hm em hF (hi ⟨_,rfl⟩) hfree,λh=>absurd hh h⟩⟩;have:=congrArg length L.book.of;unfold aC;rw[length_map]at this⊢;omega
theorem rJ(hr:Room 1 (A.deeper (PyProof.Rows.envOfC "_law_done" (ah cw) s.heap.objs.size f cdv))):
  ∃t,PS (DX P w K mg base f cdv A outer s H0 E) (elS 4) t∧∀(D:Ends)(H:Hp)(a c d:Addr)(dd:TW.Deed Str)(n p:Int)(nm:Str)(as:List (Addr×(Addr×Nd)))(zs:ZN)(x4:Option V),LD H0 H a c d dd as zs→H d=some (.dK (aC as))→jb (nds zs) dd n p nm →
   (∀H',Same H0 H'→(∃m∈nds zs,m.num≠n∧m.par=p∧m.nm=nm)→D.rt (.str "taken") H') →
   (∀o H',LD H0 H' a c d dd as zs→H' d=some (.frz o (.dK (aC as)))→(∀m∈nds zs,m.num≠n→¬(m.par=p∧m.nm=nm))→D.nx [some (.ref a),some (.ref c),some (.ref d),some (.int n),x4] H') →
   t D [some (.ref a),some (.ref c),some (.ref d),some (.int n),x4] H:=by
 refine⟨_,be (am (mT (aK hr)) (bJ cI (pv 1) (bt ag) (bt ag)) (db (N:=["_law_one","_law_book_here","_law_number"]) (cl:=[("_law_number",s.heap.objs.size+2),("_law_book_here",s.heap.objs.size+1)]) (k:=1) (js:=[2,3]) (g:=aZ 0) rfl
    (LcOk.mk' ["_law_number","_law_book_here"] rfl rfl (by decide +kernel) (by decide +kernel) ?hcl rfl (by decide +kernel)) rfl ?hj (uf (pv 2)) (λs H fp=>aE (i:=0) (show(["_law_one","_law_book_here","_law_number"]:List Str).Nodup by decide +kernel) rfl (Or.inl rfl) (Or.inr rfl))
    (λs H fp=>am dy (pv 0) (pv 2) (aw _)) (λs H fp=>bJ (r:=kd K) cI (aU (aK hr) (pv 1) (pv 0) (λ_ _=>rfl)) dh (bt ag))) rfl) (aj (aD aM)) aH,?_⟩
 case hcl =>
  intro y hy;rcases mem_cons.mp hy with e|hy
  ·rw[e];rfl
  ·rcases mem_cons.mp hy with e|hy
   ·rw[e];rfl
   ·cases hy
 case hj =>
  intro i j x h1 h2
  match i,h1,h2 with
  |0,h1,h2 =>
   cases h1;cases h2;exact⟨rfl,Or.inr (Or.inl rfl),(show((ah cw).names.lookup ("_law_book_here":Str)≠some NameKind.local)by decide +kernel),by first|exact Or.inl rfl|exact Or.inr rfl⟩
  |1,h1,h2 =>
   cases h1;cases h2;exact⟨rfl,Or.inr (Or.inl rfl),(show((ah cw).names.lookup ("_law_number":Str)≠some NameKind.local)by decide +kernel),by first|exact Or.inl rfl|exact Or.inr rfl⟩
  |i+2,h1,h2=>simp at h1
 intro D H a c d dd n p nm as zs x4 L hd mm qt qn;have hT:=L.tre.tr;have hnd:=aI hT;have hlen:=L.tre.len;have ecut:dU (bf dd) (some 2) (some 4)=[Sum.inl p,Sum.inr nm].map kV:=by rcases mm with⟨st,rfl,_⟩|⟨rfl,_⟩<;>rfl
 have nw:¬(HT.sIx (bf dd).length 0 (some 2)=0∧HT.sIx (bf dd).length (bf dd).length (some 4)=(bf dd).length):=by
  rcases mm with⟨st,rfl,_⟩|⟨rfl,_⟩
  ·exact λh=>absurd h.1 (show ¬HT.sIx 5 0 (some 2)=0 by decide)
  ·exact λh=>absurd h.1 (show ¬HT.sIx 4 0 (some 2)=0 by decide)
 refine⟨_,rfl,_,rfl,_,rfl,c,_,rfl,SqT.of L.deed,nw,λt1 ht1=>?_⟩;have s1:=af (o:=.tup (dU (bf dd) (some 2) (some 4))) ht1;have g1:upd H t1 (.tup (dU (bf dd) (some 2) (some 4))) t1=some (.tup ([Sum.inl p,Sum.inr nm].map kV)):=by rw[ac,ecut]
 have L1:=L.same s1;have hd1:=s1 _ _ hd;generalize upd H t1 (.tup (dU (bf dd) (some 2) (some 4)))=H1 at L1 g1 hd1⊢;refine⟨_,rfl,d,_,rfl,hd1,λo p1 hp1=>?_⟩;have L2:=L1.turn (u:=.frz o (.dK (aC as))) (.inr ⟨o,ac⟩);have g2:upd H1 d (.frz o (.dK (aC as))) t1=some (.tup ([Sum.inl p,Sum.inr nm].map kV)):=by rw[al (rH g1 L1.book.dict)];exact g1
 have hd2:upd H1 d (.frz o (.dK (aC as))) d=some (.frz o (.dK (aC as))):=ac;generalize upd H1 d (.frz o (.dK (aC as)))=H2 at L2 g2 hd2 hp1⊢;have eb:(as.map λa=>(a.1,a.2.2)).map (·.2)=nds zs:=by rw[←L.book.of];unfold nds;rw[map_map,map_map];rfl
 have hbl:(as.map λa=>(a.1,a.2.2)).length=zs.length:=by rw[←L.book.of,length_map,length_map]
 have hbn:((as.map λa=>(a.1,a.2.2)).map (·.2.num)).Nodup:=by
  have:(as.map λa=>(a.1,a.2.2)).map (·.2.num)=(nds zs).map (·.num):=by rw[←eb];simp only[map_map];rfl
  rw[this];exact hnd
 have hba:∀b∈as.map (λa=>(a.1,a.2.2)),H2 b.1=some (.tup (bz b.2)):=λb hb=>by
  obtain⟨x,hx,rfl⟩:=mem_map.mp hb;exact L2.book.at' x hx
 rw[ku]at hd2⊢;rw[ja];have hkeep:aC as=cc (as.map λa=>(a.1,a.2.2)):=ku as;generalize as.map (λa=>(a.1,a.2.2))=bs at eb hbl hbn hba hd2 hkeep⊢;refine ci (fr:=[some (.ref d),some (.int n)]) bs (λb=>V.int b.2.num) (by omega) hp1 (ck hd2) rfl (λb=>!decide (V.int b.2.num=V.int n)) (λb y H'=>∃q,y=.ref q∧q≠p1∧H' q=some (.tup ((plK b.2).map kV))) (λb y H H' ⟨q,e,ne,h⟩ ex=>⟨q,e,ne,ex q _ ne h⟩) (λb H' k mb s3 _ hk=>?_) (λb H' k mb _ s3 hpl hk=>?_) (λys H3 s3 hp3 hys=>?_)
 ·exact⟨_,rfl,_,rfl,rfl,_,rfl,hk H' (Same.refl _)⟩
 ·refine⟨_,rfl,_,rfl,d,_,rfl,.inl ⟨cc bs,Sum.inl b.2.num,.inr ⟨o,s3 _ _ hd2⟩,rfl,(jN hbn mb).symm⟩,_,rfl,b.1,_,rfl,SqT.of (s3 _ _ (hba b mb)),(λh=>absurd h.2 (show ¬HT.sIx 3 3 (some 2)=3 by decide)),λq hq=>?_⟩;exact hk _ _ (af hq) ⟨q,rfl,dC hpl hq,ac⟩
 ·obtain⟨cs,e1,e2,e3⟩:=cE (val:=V.ref) (S:=λ(b:Addr×Nd) (q:Addr)=>H3 q=some (.tup ((plK b.2).map kV))) hys (λb y _ ⟨q,e,_,h⟩=>⟨q,e,h⟩);refine⟨t1,p1,_,cs.map λx=>(x.2,plK x.1.2),rfl,s3 _ _ g2,rfl,SqL.of (by rw[hp3,e2,map_map,map_map];rfl),λy hy=>?_,_,rfl,?_⟩
  ·obtain⟨x,hx,rfl⟩:=mem_map.mp hy;exact e3 x hx
  ·have L3:=L2.same s3;cases ha:((cs.map λx=>(x.2,plK x.1.2)).any λz=>decide (z.2=[Sum.inl p,Sum.inr nm]))with
   |true =>
    refine aT (qt H3 L3.s0 ?_);obtain⟨y,hy,e⟩:=any_eq_true.mp ha;obtain⟨x,hx,rfl⟩:=mem_map.mp hy;have mx:x.1∈bs.filter λb=>!decide (V.int b.2.num=V.int n):=by rw[←e1];exact mem_map.mpr ⟨x,hx,rfl⟩
    obtain⟨mx1,mx2⟩:=mem_filter.mp mx;have e':plK x.1.2=[Sum.inl p,Sum.inr nm]:=by simpa using e
    have hp:x.1.2.par=p∧x.1.2.nm=nm:=by
     unfold plK at e';injection e' with q1 q2
     injection q2 with q2 _
     injection q1 with q1
     injection q2 with q2
     exact⟨q1,q2⟩
    refine⟨x.1.2,by rw[←eb];exact mem_map.mpr ⟨x.1,mx1,rfl⟩,λe=>?_,hp⟩;simp[e]at mx2
   |false =>
    refine aJ (qn o H3 L3 (by rw[hkeep];exact s3 _ _ hd2) λm hm hne h=>?_);rw[←eb]at hm;obtain⟨b,hb,rfl⟩:=mem_map.mp hm;have mb:b∈bs.filter λb=>!decide (V.int b.2.num=V.int n):=mem_filter.mpr ⟨hb,by simp[hne]⟩;rw[←e1]at mb;obtain⟨x,hx,ex⟩:=mem_map.mp mb;have:((cs.map λx=>(x.2,plK x.1.2)).any λz=>decide (z.2=[Sum.inl p,Sum.inr nm]))=true:=any_eq_true.mpr ⟨_,mem_map.mpr ⟨x,hx,rfl⟩,by
     rw[decide_eq_true_eq];show plK x.1.2=_;rw[ex];unfold plK;rw[h.1,h.2]⟩
    rw[ha]at this;cases this
theorem pP(hr:Room 1 (A.deeper (PyProof.Rows.envOfC "_law_done" (ah cw) s.heap.objs.size f cdv)))(CU:Has P w K mg base 1 "_law_under" ["_law_book_here","_law_number","_law_goal"] fT):
  ∃t,PS (DX P w K mg base f cdv A outer s H0 E) (elS 3) t∧∀(D:Ends)(H:Hp)(a c d:Addr)(dd:TW.Deed Str)(n p:Int)(nm:Str)(as:List (Addr×(Addr×Nd)))(zs:ZN),LD H0 H a c d dd as zs→jb (nds zs) dd n p nm→TW.gf (nds zs) p→1≤n →
   (dd=.move n p nm→p≠0→TW.Und (nds zs) n p→D.rt (.str "inside") H)→(NotIn (nds zs) dd n p→D.nx [some (.ref a),some (.ref c),some (.ref d),some (.int n),some (.int p)] H) →
   t D [some (.ref a),some (.ref c),some (.ref d),some (.int n),some (.int p)] H:=by
 obtain⟨fU,fdU,GU,mU,kU,bU⟩:=CU;refine⟨_,be (PW.pt (pw_and (am cx (av ao (pv 1) ag (λ_ _=>rfl)) aM (aw _)) (pw_and (am dy (pv 4) ag (aw _)) (pw_and1 (iK (ak GU hr rfl mU kU bU .nil aL (aa (pv 2) (aa (pv 4) (aa (pv 3) ai)))) (λ_=>rfl)))))) (aj (aD aM)) aH,?_⟩;intro D H a c d dd n p nm as zs L mm hF hn1 q1 q2;have sd:SqT K H c (bf dd):=SqT.of L.deed;rcases mm with⟨st,rfl,hno⟩|⟨rfl,hh⟩
 ·exact⟨_,rfl,c,_,_,_,rfl,rfl,sd,rfl,rfl,_,rfl,aJ (aJ (q2 λ⟨_,e⟩=>by cases e))⟩
 ·refine⟨_,rfl,c,_,_,_,rfl,rfl,sd,rfl,rfl,_,rfl,aT ⟨_,rfl,rfl,_,rfl,?_⟩⟩
  by_cases hp0:p=0
  ·have e1:(!decide (V.int p=V.int 0))=false:=by simp[hp0]
   rw[e1];exact aJ (aJ (q2 λ_ h=>absurd hp0 h))
  ·have e1:(!decide (V.int p=V.int 0))=true:=by simp[hp0]
   rw[e1];rcases hF with e|⟨m,hm,_,em⟩
   ·exact absurd e hp0
   ·obtain⟨pa,hpa⟩:=TW.PathTo.ex L.tre.tr hm;rw[em]at hpa;refine aT ⟨_,rfl,_,rfl,_,rfl,d,p,n,as,zs,pa,rfl,L.book,L.tre.tr,hpa,hn1,λb hb=>⟨b,rfl,?_⟩⟩;cases b with
    |true=>exact aT (q1 rfl hp0 (hb.mp rfl))
    |false=>exact aJ (q2 λ_ _ hu=>by have:=hb.mpr hu;cases this)
theorem tO(hr:Room 1 (A.deeper (PyProof.Rows.envOfC "_law_done" (ah cw) s.heap.objs.size f cdv)))(CU:Has P w K mg base 1 "_law_under" ["_law_book_here","_law_number","_law_goal"] fT):
  ∃t,PSs (DX P w K mg base f cdv A outer s H0 E) ux t∧∀(D:Ends)(H:Hp)(a c d:Addr)(dd:TW.Deed Str)(n p:Int)(nm:Str)(as:List (Addr×(Addr×Nd)))(zs:ZN),LD H0 H a c d dd as zs→H d=some (.dK (aC as))→jb (nds zs) dd n p nm→1≤n →
   (∀wd H',Same H0 H'→TW.Told (nds zs) dd (.inl wd)→D.rt (.str (qC wd)) H') →
   (∀x4 bs H',Same H0 H'→H' d=some (.dK (cc bs))→(∀b∈bs,H' b.1=some (.tup (bz b.2)))→(bs.map (·.2.num)).Nodup→bs.length≤zs.length+1→(∀us,us.Perm (bs.map (·.2))→TW.cD us→TW.Told (nds zs) dd (.inr us))→D.nx [some (.ref a),some (.ref c),some (.ref d),some (.int n),x4] H') →
   t D [some (.ref a),some (.ref c),some (.ref d),some (.int n),none] H:=by
 obtain⟨t3,p3,h3⟩:=pP (f:=f) (cdv:=cdv) (outer:=outer) (H0:=H0) (E:=E) hr CU;obtain⟨t4,p4,h4⟩:=rJ (P:=P) (w:=w) (mg:=mg) (base:=base) (K:=K) (f:=f) (cdv:=cdv) (outer:=outer) (H0:=H0) (E:=E) hr;obtain⟨t5,p5,h5⟩:=wf (P:=P) (w:=w) (mg:=mg) (base:=base) (K:=K) (f:=f) (cdv:=cdv) (outer:=outer) (H0:=H0) (E:=E) hr;refine⟨_,ae (ap (i:=4) iH.nd rfl (Or.inl rfl) (av ao (pv 1) ag (λ_ _=>rfl)))
  (ae (be (PW.pt (pw_and (am dy (pv 4) ag (aw _)) (pw_and1 (bT (cn (aK hr) (pv 4) (pv 2)))))) (aj (aD aM)) aH)
  (ae (be (PW.pt (pw_and (am dy (pv 4) ag (aw _)) (pw_and1 (am iB (av ao (aU (aK hr) (pv 2) (pv 4) (λ_ _=>rfl)) ag (λ_ _=>rfl)) cq (aw _))))) (aj (aD aM)) aH)
  (ae p3 (ae p4 (aj p5))))),?_⟩
 intro D H a c d dd n p nm as zs L hd mm hn1 qw qn;have hT:=L.tre.tr;have hnd:=aI hT;have a2:atI (bf dd) 2=some (.int p):=by rcases mm with⟨st,rfl,_⟩|⟨rfl,_⟩<;>rfl
 have rest:TW.gf (nds zs) p→jm t3 (jm t4 t5) D [some (.ref a),some (.ref c),some (.ref d),some (.int n),some (.int p)] H:=λhF=>by
  refine h3 _ H a c d dd n p nm as zs L mm hF hn1 (λe h0 hu=>?_) λhi=>?_
  ·subst e;rcases mm with⟨st,e,_⟩|⟨_,hh⟩
   ·cases e
   ·exact qw .inside H L.s0 (.vIn hh hF h0 hu)
  ·refine h4 _ H a c d dd n p nm as zs _ L hd mm (λH' s' ⟨m,hm,h1,h2,h3⟩=>qw .taken H' s' (mm.taken hF hi hm h1 h2 h3)) λo H' L' hd' hfree=>?_;exact h5 _ H' a c d dd n p nm as zs _ o L' hd' mm hF hi hfree λbs H2 e1 e2 e3 e4 e5 e6=>qn _ bs H2 e1 e2 e3 e4 e5 e6
 refine⟨_,rfl,c,_,_,_,rfl,rfl,SqT.of L.deed,a2,?_⟩;refine⟨_,rfl,rfl,_,rfl,?_⟩
 by_cases hp0:p=0
 ·have e1:(!decide (V.int p=V.int 0))=false:=by simp[hp0]
  rw[e1];refine aJ (aJ ⟨_,rfl,rfl,_,rfl,?_⟩);rw[e1];exact aJ (aJ (rest (.inl hp0)))
 ·have e1:(!decide (V.int p=V.int 0))=true:=by simp[hp0]
  rw[e1]
  by_cases hh:∃z∈zs,z.2.num=p
  ·obtain⟨z,hz,ez⟩:=hh;obtain⟨b,hb1,hb2⟩:=L.book.get hnd hz;rw[ez]at hb1;refine aT ⟨_,rfl,_,rfl,d,_,rfl,hb1,_,rfl,aJ ⟨_,rfl,rfl,_,rfl,?_⟩⟩;rw[e1];refine aT ⟨_,rfl,_,rfl,d,_,rfl,hb1,b,_,_,_,rfl,rfl,SqT.of hb2,mY z.2,rfl,_,rfl,?_⟩;rw[oa];cases hs:z.2.st with
   |none=>exact aJ (rest (.inr ⟨z.2,aA hz,hs,ez⟩))
   |some i=>exact aT (qw .notFolder H L.s0 (mm.file hp0 (aA hz) ez (by rw[hs];simp)))
  ·exact aT ⟨_,rfl,_,rfl,d,_,rfl,L.book.not (λz hz e=>hh ⟨z,hz,e⟩),_,rfl,aT (qw .noNode H L.s0 (mm.no hp0 (cL hh)))⟩
theorem rK(hr:Room 1 (A.deeper (PyProof.Rows.envOfC "_law_done" (ah cw) s.heap.objs.size f cdv)))(CU:Has P w K mg base 1 "_law_under" ["_law_book_here","_law_number","_law_goal"] fT):
  ∃t,PS (DX P w K mg base f cdv A outer s H0 E) (ldS 5) t∧∀(D:Ends)(H:Hp)(a c d:Addr)(dd:TW.Deed Str)(n:Int)(as:List (Addr×(Addr×Nd)))(zs:ZN),LD H0 H a c d dd as zs→H d=some (.dK (aC as))→((∃st,dd=.write n st∧TW.ax (nds zs) n)∨∃p nm,jb (nds zs) dd n p nm)→1≤n →
   (∀wd H',Same H0 H'→TW.Told (nds zs) dd (.inl wd)→D.rt (.str (qC wd)) H') →
   (∀x4 bs H',Same H0 H'→H' d=some (.dK (cc bs))→(∀b∈bs,H' b.1=some (.tup (bz b.2)))→(bs.map (·.2.num)).Nodup→bs.length≤zs.length+1→(∀us,us.Perm (bs.map (·.2))→TW.cD us→TW.Told (nds zs) dd (.inr us))→D.nx [some (.ref a),some (.ref c),some (.ref d),some (.int n),x4] H') →
   t D [some (.ref a),some (.ref c),some (.ref d),some (.int n),none] H:=by
 obtain⟨te,pe,he⟩:=tO (f:=f) (cdv:=cdv) (outer:=outer) (H0:=H0) (E:=E) hr CU;refine⟨_,be (am cx (av ao (pv 1) ag (λ_ _=>rfl)) aM (aw _))
  (ae (be (am eE (av ao (aU (aK hr) (pv 2) (pv 3) (λ_ _=>rfl)) ag (λ_ _=>rfl)) cq (aw _)) (aj (aD aM)) aH)
  (aj (gI (aK hr) (pv 2) (pv 3) (aF dN (bJ cI (aU (aK hr) (pv 2) (pv 3) (λ_ _=>rfl)) dh (bt ag)) (bq (aa (av ao (pv 1) ag (λ_ _=>rfl)) ai))) rfl))) pe,?_⟩
 intro D H a c d dd n as zs L hd hdd hn1 qw qn;have hT:=L.tre.tr;have hnd:=aI hT;have hlen:=L.tre.len;have sd:SqT K H c (bf dd):=SqT.of L.deed;rcases hdd with⟨st,rfl,m,hm,em⟩|⟨p,nm,mm⟩
 ·obtain⟨z,hz,rfl⟩:=bj hm;obtain⟨b,hb1,hb2⟩:=L.book.get hnd hz;rw[em]at hb1;refine⟨_,rfl,c,_,_,_,rfl,rfl,sd,rfl,rfl,_,rfl,aT ⟨_,rfl,_,rfl,d,_,rfl,hb1,b,_,_,_,rfl,rfl,SqT.of hb2,mY z.2,rfl,_,rfl,?_⟩⟩;cases hs:z.2.st with
  |none=>exact aT (qw .notFile H L.s0 (.wFold hm em hs))
  |some i =>
   refine aJ ⟨_,rfl,_,rfl,d,_,rfl,hb1,_,rfl,b,_,rfl,SqT.of hb2,(λh=>absurd h.2 (show ¬HT.sIx 3 3 (some 2)=3 by decide)),λt1 ht1=>?_⟩;have s2:=af (o:=.tup (dU (bz z.2) none (some 2))) ht1;refine⟨_,rfl,c,_,_,_,rfl,rfl,SqT.of (s2 _ _ L.deed),rfl,(show 1≤sizeLine from aq (by decide)),λt2 ht2=>?_⟩;have s3:=s2.trans (af (o:=.tup [.int st]) ht2);refine⟨t1,t2,[.int z.2.par,.str z.2.nm],[.int st],rfl,rfl,SqT.of (br ht2 ac),SqT.of ac,by simp,(show 3≤sizeLine from aq (by decide)),λh=>absurd h (cons_ne_nil _ _),λ_ q hq=>?_⟩;have s4:=s3.trans (af (o:=.tup ([.int z.2.par,.str z.2.nm]++[.int st])) hq);have hq4:upd (upd (upd H t1 (.tup (dU (bz z.2) none (some 2)))) t2 (.tup [.int st])) q (.tup ([.int z.2.par,.str z.2.nm]++[.int st])) q=some (.tup (bz ⟨n,z.2.par,z.2.nm,some st⟩)):=ac;have hbl:(aC as).length≤1000:=by
    have:=congrArg length L.book.of;unfold aC;rw[length_map]at this⊢;omega
   refine⟨_,rfl,_,rfl,d,_,rfl,jn.k (k:=Sum.inl n) (s4 _ _ hd) (aG hbl),?_⟩;have L4:=L.same s4;obtain⟨bs,e1,e2,e3,e4,e5⟩:=lF (new:=⟨n,z.2.par,z.2.nm,some st⟩) (s4 _ _ hd) L4.book.of L4.book.at' hq4 hnd;refine qn _ bs _ (aO L.d0 L4.s0) e1 e2 e3 e4 λus hp hrise=>?_;rcases e5 with⟨h1,h2⟩|⟨h1,h2⟩
   ·rw[h2]at hp;rw[TW.iW hrise (TW.gQ hT.rise) hp];exact .wrote hm em (by rw[hs];simp)
   ·exact absurd ⟨z.2,hm,em⟩ h1
 ·rcases id mm with⟨st,rfl,_⟩|⟨rfl,_⟩
  ·exact⟨_,rfl,c,_,_,_,rfl,rfl,sd,rfl,rfl,_,rfl,aJ (he D H a c d _ n p nm as zs L hd mm hn1 qw qn)⟩
  ·exact⟨_,rfl,c,_,_,_,rfl,rfl,sd,rfl,rfl,_,rfl,aJ (he D H a c d _ n p nm as zs L hd mm hn1 qw qn)⟩
def kQ:Sp:=λvs H Q _=>∃a c dd zs,vs=[.ref a,.ref c]∧Tre H a zs∧zs.length≤29∧H c=some (.tup (bf dd))∧kt dd∧(∀us t' H',Same H H'→H' t'=some (.tup (aY us))→At H' us→TW.Told (nds zs) dd (.inr (nds us))→Q (.ref t') H')∧∀wd H',Same H H'→TW.Told (nds zs) dd (.inl wd)→Q (.str (qC wd)) H'
theorem rL{f:Addr}{fd:FuncData}(F:Fun K "_law_done" "_law_done" cw f fd)(T:Txt mg)(CK:Has P w K mg base 1 "_law_book" ["_law_tree_here"] fm)(CU:Has P w K mg base 1 "_law_under" ["_law_book_here","_law_number","_law_goal"] fT):
  FnOk P w K mg base CX0 2 f fd ["_law_tree_here","_law_deed_here"] kQ:=by
 obtain⟨fK,fdK,GK,mK,kK,bK⟩:=CK;refine F.ok iH (λvs H Q E h=>?_) (λcdv A outer s H vs Q E hr h=>?_)
 ·obtain⟨a,c,dd,zs,rfl,_⟩:=h;rfl
 ·obtain⟨a,c,dd,zs,rfl,tr,hl,hc,hok,qo,qw⟩:=h;obtain⟨t4,p4,h4⟩:=tN (f:=f) (cdv:=cdv) (outer:=outer) (H0:=H) (E:=E) T hr CU;obtain⟨t5,p5,h5⟩:=rK (f:=f) (cdv:=cdv) (outer:=outer) (H0:=H) (E:=E) hr CU;obtain⟨t6,p6,h6⟩:=we (P:=P) (w:=w) (K:=K) (mg:=mg) (base:=base) (f:=f) (cdv:=cdv) (outer:=outer) (H0:=H) (E:=E) T hr;refine⟨_,ae (ap (i:=2) iH.nd rfl (Or.inr rfl) (ak GK hr rfl mK kK bK .nil aL (aa (pv 0) ai)))
   (ae (ap (i:=3) iH.nd rfl (Or.inr rfl) (av ao (pv 1) ag (λ_ _=>rfl)))
   (ae (be (PW.pt (pw_and (am cx (av ao (pv 1) ag (λ_ _=>rfl)) aM (aw _)) (pw_and1 (bT (dz (aK hr) (pv 3) (pv 2)))))) (aj (aD aM)) aH)
   (ae (be (PW.pt (pw_and (am dy (av ao (pv 1) ag (λ_ _=>rfl)) aM (aw _)) (pw_and1 (bT (cn (aK hr) (pv 3) (pv 2)))))) (aj (aD aM)) aH)
   (ae p4 (ae p5 (aj p6)))))),?_⟩
  refine⟨_,rfl,a,zs,rfl,tr,λd as H1 s1 d0 bk hd=>?_⟩;have L:LD H H1 a c d dd as zs:=⟨s1,d0,tr.same s1,s1 _ _ hc,bk⟩;have hnd:=aI tr.tr;have sd:SqT K H1 c (bf dd):=SqT.of L.deed;have last:∀x4 n bs H',Same H H'→H' d=some (.dK (cc bs))→(∀b∈bs,H' b.1=some (.tup (bz b.2)))→(bs.map (·.2.num)).Nodup→bs.length≤zs.length+1→(∀us,us.Perm (bs.map (·.2))→TW.cD us→TW.Told (nds zs) dd (.inr us)) →
    t6 {nx:=λ_ H'=>Q .non H',rt:=Q} [some (.ref a),some (.ref c),some (.ref d),some (.int n),x4] H':=λx4 n bs H' s' e1 e2 e3 e4 e5 =>
   h6 _ H' _ _ _ _ _ d bs rfl e1 e2 e3 (by omega) λo us t' H2 s2 ht' hA' hp hrise=>qo us t' H2 ((aO d0 s').trans s2) ht' hA' (e5 _ hp hrise)
  cases dd with
  |make n p nm st =>
   refine⟨_,rfl,c,_,_,_,rfl,rfl,sd,rfl,_,rfl,c,_,_,_,rfl,rfl,sd,rfl,rfl,_,rfl,aT ?_⟩
   by_cases hh:∃z∈zs,z.2.num=n
   ·obtain⟨z,hz,ez⟩:=hh;obtain⟨b,hb1,_⟩:=L.book.get hnd hz;rw[ez]at hb1;exact⟨_,rfl,_,rfl,d,_,rfl,hb1,_,rfl,aT (qw .known H1 s1 (.mKnown (eB hz ez)))⟩
   ·refine⟨_,rfl,_,rfl,d,_,rfl,L.book.not (λz hz e=>hh ⟨z,hz,e⟩),_,rfl,aJ ?_⟩;refine⟨_,rfl,c,_,_,_,rfl,rfl,sd,rfl,rfl,_,rfl,aJ (aJ ?_)⟩;refine h4 _ H1 _ a c d _ n as zs rfl L.tre L.deed bk hok.1 (λ⟨k,e⟩=>by cases e) λ_=>?_;exact h5 _ H1 a c d _ n as zs L hd (.inr ⟨p,nm,.inl ⟨st,rfl,cL hh⟩⟩) hok.1 qw λx4 bs H'=>last x4 n bs H'
  |write n st =>
   refine⟨_,rfl,c,_,_,_,rfl,rfl,sd,rfl,_,rfl,c,_,_,_,rfl,rfl,sd,rfl,rfl,_,rfl,aJ (aJ ?_)⟩;refine⟨_,rfl,c,_,_,_,rfl,rfl,sd,rfl,rfl,_,rfl,aT ?_⟩
   by_cases hh:∃z∈zs,z.2.num=n
   ·obtain⟨z,hz,ez⟩:=hh;obtain⟨b,hb1,_⟩:=L.book.get hnd hz;rw[ez]at hb1;refine⟨_,rfl,_,rfl,d,_,rfl,hb1,_,rfl,aJ ?_⟩;refine h4 _ H1 _ a c d _ n as zs rfl L.tre L.deed bk hok.1 (λ⟨k,e⟩=>by cases e) λ_=>?_;exact h5 _ H1 a c d _ n as zs L hd (.inl ⟨st,rfl,eB hz ez⟩) hok.1 qw λx4 bs H'=>last x4 n bs H'
   ·exact⟨_,rfl,_,rfl,d,_,rfl,L.book.not (λz hz e=>hh ⟨z,hz,e⟩),_,rfl,aT (qw .noNode H1 s1 (.wNo (cL hh)))⟩
  |move n p nm =>
   refine⟨_,rfl,c,_,_,_,rfl,rfl,sd,rfl,_,rfl,c,_,_,_,rfl,rfl,sd,rfl,rfl,_,rfl,aJ (aJ ?_)⟩;refine⟨_,rfl,c,_,_,_,rfl,rfl,sd,rfl,rfl,_,rfl,aT ?_⟩
   by_cases hh:∃z∈zs,z.2.num=n
   ·obtain⟨z,hz,ez⟩:=hh;obtain⟨b,hb1,_⟩:=L.book.get hnd hz;rw[ez]at hb1;refine⟨_,rfl,_,rfl,d,_,rfl,hb1,_,rfl,aJ ?_⟩;refine h4 _ H1 _ a c d _ n as zs rfl L.tre L.deed bk hok.1 (λ⟨k,e⟩=>by cases e) λ_=>?_;exact h5 _ H1 a c d _ n as zs L hd (.inr ⟨p,nm,.inr ⟨rfl,eB hz ez⟩⟩) hok.1 qw λx4 bs H'=>last x4 n bs H'
   ·exact⟨_,rfl,_,rfl,d,_,rfl,L.book.not (λz hz e=>hh ⟨z,hz,e⟩),_,rfl,aT (qw .noNode H1 s1 (.vNo (cL hh)))⟩
  |drop n =>
   refine⟨_,rfl,c,_,_,_,rfl,rfl,sd,rfl,_,rfl,c,_,_,_,rfl,rfl,sd,rfl,rfl,_,rfl,aJ (aJ ?_)⟩;refine⟨_,rfl,c,_,_,_,rfl,rfl,sd,rfl,rfl,_,rfl,aT ?_⟩
   by_cases hh:∃z∈zs,z.2.num=n
   ·obtain⟨z,hz,ez⟩:=hh;obtain⟨b,hb1,_⟩:=L.book.get hnd hz;rw[ez]at hb1;refine⟨_,rfl,_,rfl,d,_,rfl,hb1,_,rfl,aJ ?_⟩;refine h4 _ H1 _ a c d _ n as zs rfl L.tre L.deed bk hok.1 (λ_ us t' H' g s2 ht' hA' e hg=>qo us t' H' (s1.trans s2) ht' hA' ?_) λh=>absurd ⟨n,rfl⟩ h;rw[e];exact .dropped (eB hz ez) hg
   ·exact⟨_,rfl,_,rfl,d,_,rfl,L.book.not (λz hz e=>hh ⟨z,hz,e⟩),_,rfl,aT (qw .noNode H1 s1 (.dNo (cL hh)))⟩
def nG(K:PySem.W.Frag):Sp:=λvs H Q _=>∃a k,vs=[.ref a,.int k]∧0≤k∧dF K H a∧∀r H',Same H H'→Q (.int r) H'
theorem wg:FnScope ["_law_script","_law_k"] ["_law_script","_law_k"] (ah qH):=fsc
theorem tP{f:Addr}{fd:FuncData}(F:Fun K "_law_cell" "_law_cell" qH f fd)(T:Txt mg):FnOk P w K mg base CX0 1 f fd ["_law_script","_law_k"] (nG K):=by
 refine F.ok wg (λvs H Q E h=>?_) (λcdv A outer s H vs Q E hr h=>?_)
 ·obtain⟨a,k,rfl,_⟩:=h;rfl
 ·obtain⟨a,k,rfl,hk,⟨ns,ea⟩,q⟩:=h;refine⟨_,ae (be (am pZ (pv 1) (aW aR rfl T.len boot_len (aa (pv 0) ai)) (aw _)) (aj (aD (av cJ (pv 0) (pv 1) (λ_ _=>rfl)))) aH)
   (ae (be (am (ga hr.units0) (pv 0) (bX ai) (aw _)) (aj (aD ag)) aH)
   (aj (aD (aF bc (aF dw (av cJ (pv 0) (aF iM (pv 1) (aW aR rfl T.len boot_len (aa (pv 0) ai))) (λ_ _=>rfl)) ag) (pv 1))))),?_⟩
  refine⟨_,rfl,_,rfl,a,_,rfl,.inl (ea),_,_,rfl,rfl,_,rfl,?_⟩;rw[length_map]
  by_cases h:k<(ns.length:Int)
  ·rw[decide_eq_true h];obtain⟨j,ej⟩:=lC hk h;exact aT ⟨_,rfl,_,rfl,a,_,_,_,rfl,rfl,ea,ej,q _ _ (Same.refl _)⟩
  ·rw[decide_eq_false h];refine aJ ⟨_,rfl,zero_le _,λp hp=>⟨a,p,_,rfl,rfl,((af hp).seq ea),SqL.of ac,_,rfl,?_⟩⟩
   by_cases h0:ns=[]
   ·subst h0;exact aT (q _ _ (af hp))
   ·have hne:¬ns.map V.int=[]:=by simpa using h0
    rw[decide_eq_false hne];have hpos:0<ns.length:=List.length_pos_iff.mpr h0;have hm1:0≤k % (ns.length:Int):=Int.emod_nonneg _ (by omega);have hm2:k % (ns.length:Int)<ns.length:=Int.emod_lt_of_pos _ (by omega);obtain⟨j,ej⟩:=lC hm1 hm2;have ej':atI (ns.map V.int) (k % ((ns.map V.int).length:Int))=some (.int j):=by rw[length_map];exact ej
    exact aJ ⟨_,rfl,_,rfl,_,rfl,a,_,rfl,.inl (((af hp).seq ea)),_,_,rfl,rfl,by rw[length_map];omega,a,_,_,_,rfl,rfl,((af hp).seq ea),ej',_,_,rfl,rfl,.inr ⟨by decide,by decide⟩,_,rfl,_,_,rfl,rfl,q _ _ (af hp)⟩
def dY(K:PySem.W.Frag):Sp:=λvs H Q _=>∃a k m,vs=[.ref a,.int k,.int m]∧0≤k∧0<m∧dF K H a∧∀r H',0≤r→r<m→Same H H'→Q (.int r) H'
theorem rM:FnScope ["_law_script","_law_k","_law_many","_law_drawn"] ["_law_script","_law_k","_law_many"] (ah qI):=fsc
theorem tQ{f:Addr}{fd:FuncData}(F:Fun K "_law_pick" "_law_pick" qI f fd)(T:Txt mg)(C:Has P w K mg base 1 "_law_cell" ["_law_script","_law_k"] (nG K)):FnOk P w K mg base CX0 2 f fd ["_law_script","_law_k","_law_many"] (dY K):=by
 obtain⟨fC,fdC,GC,mC,kC,bC⟩:=C;refine F.ok rM (λvs H Q E h=>?_) (λcdv A outer s H vs Q E hr h=>?_)
 ·obtain⟨a,k,m,rfl,_⟩:=h;rfl
 ·obtain⟨a,k,m,rfl,hk,hm,hS,q⟩:=h;refine⟨_,(ae (ap (i:=3) rM.nd rfl (Or.inl rfl) (aF iM (aF dw (aF bc (ak GC hr rfl mC kC bC .nil aL (aa (pv 0) (aa (pv 1) ai))) (aF dw ag (aF bc (pv 1) ag))) ag) ag))
   (aj (aD (aF iM (aF iM (aF bc (aF dw (pv 3) (pv 3)) (aF ka (pv 3) ag)) ag) (pv 2))))),?_⟩
  refine⟨_,rfl,_,rfl,a,k,rfl,hk,hS,λr H1 s1=>?_⟩;refine⟨_,rfl,_,_,rfl,rfl,_,_,rfl,rfl,.inl ⟨by decide,by decide⟩,_,_,rfl,rfl,_,_,rfl,rfl,.inr ⟨by decide,by decide⟩,_,_,rfl,rfl,(by decide:(0:Int)<2147483399),?_⟩;generalize hd:(r+6151*(k+1))*40692 % 2147483399=dr;have d0:0≤dr:=by rw[←hd];exact Int.emod_nonneg _ (by decide)
  have d1:dr<2147483399:=by rw[←hd];exact Int.emod_lt_of_pos _ (by decide)
  refine⟨_,rfl,_,rfl,_,_,rfl,rfl,.inl ⟨by omega,by omega⟩,_,rfl,_,_,rfl,rfl,⟨by decide,by decide⟩,_,_,rfl,rfl,_,_,rfl,rfl,(by decide:(0:Int)<2147483629),_,rfl,_,_,rfl,rfl,hm,?_⟩;exact q _ _ (Int.emod_nonneg _ (by omega)) (Int.emod_lt_of_pos _ hm) s1
def iI(K:PySem.W.Frag):Sp:=λvs H Q _=>∃a at' m,vs=[.ref a,.int at',.int m]∧0≤at'∧0≤m∧m≤9∧dF K H a∧∀t zs H',H' t=some (.tup (aY zs))→At H' zs→(zs.length:Int)≤m→TW.Tree (nds zs)→(∀z∈zs,sL z.2)→Same H H'→Q (.ref t) H'
theorem scB:FnScope ["_law_script","_law_at","_law_most","_law_left","_law_folders","_law_nodes","_law_k","_law_number","_law_parent","_law_name","_law_stamp"] ["_law_script","_law_at","_law_most"] (ah ik):=fsc
def buS(i:Nat):Stmt:=match (bA ik).getD 3 (.Pass ⟨0,0,0,0⟩)with
 |.For _ _ b _ _=>b.getD i (.Pass ⟨0,0,0,0⟩)
 |x=>x
abbrev BX(P:Program)(w:World)(K:PySem.W.Frag)(mg:Str→Option Value)(base:Heap)(f:Addr)(cdv:Value)(A:Around)(outer:List Env)(s:Shared)(H:Hp)(E:XK):Cx:=(gC CX0 P w K mg base ["_law_script","_law_at","_law_most","_law_left","_law_folders","_law_nodes","_law_k","_law_number","_law_parent","_law_name","_law_stamp"] "_law_tree" (ah ik) f cdv A outer s H E).nox
theorem wU{f:Addr}{cdv:Value}{A:Around}{outer:List Env}{s:Shared}{H0:Hp}{E:XK}(hr:Room 2 (A.deeper (PyProof.Rows.envOfC "_law_tree" (ah ik) s.heap.objs.size f cdv))):
  ∃t,PS (BX P w K mg base f cdv A outer s H0 E) (buS 5) t∧∀(D:Ends)(H H6:Hp)(pl pf pn:Addr)(x0 x1 x2 x6:Option V)(lf:List Int)(zs:ZN)(num par:Int)(nm:Str)(st:Option Int),Sta H pl pf pn H6 lf (0::TW.aV (nds zs)) zs→zs.length≤20 →
   (∀H',Sta H pl pf pn H' lf (0::TW.aV (nds zs)) zs→D.nx [x0,x1,x2,some (.ref pl),some (.ref pf),some (.ref pn),x6,some (.int num),some (.int par),some (.str nm),some (stV st)] H') →
   (∀q H',(∀z∈zs,¬(z.2.par=par∧z.2.nm=nm))→Sta H pl pf pn H' lf (0::TW.aV (nds (zs++[(q,⟨num,par,nm,st⟩)]))) (zs++[(q,⟨num,par,nm,st⟩)])→D.nx [x0,x1,x2,some (.ref pl),some (.ref pf),some (.ref pn),x6,some (.int num),some (.int par),some (.str nm),some (stV st)] H') →
   t D [x0,x1,x2,some (.ref pl),some (.ref pf),some (.ref pn),x6,some (.int num),some (.int par),some (.str nm),some (stV st)] H6:=by
 refine⟨_,be (am (jo (aK hr)) (bq (aa (pv 8) (aa (pv 9) ai))) (gL (N:=["_law_node"]) (k:=1) (js:=[]) (g:=aZ 0) rfl (eF rfl (by decide +kernel) (by decide +kernel) (by decide +kernel)) rfl (λi j x h=>by simp at h)
     (cH (pv 5)) (λs H fp=>aE (i:=0) (show(["_law_node"]:List Str).Nodup by decide +kernel) rfl (Or.inl rfl) (Or.inr rfl))
     (λs H fp=>bJ (r:=kd K) cI (pv 0) (bt ag) (bt ag))) rfl) (ae (bY (fH plainAttrs_list PySem.F.slot_list_append PySem.F.type_list_append bv (pv 5) (aa (bq (aa (pv 7) (aa (pv 8) (aa (pv 9) (aa (pv 10) ai))))) ai))) (aj (be (am eE (pv 10) cq (aw _)) (aj (bY (fH plainAttrs_list PySem.F.slot_list_append PySem.F.type_list_append bv (pv 4) (aa (pv 7) ai)))) aH))) aH,?_⟩
 intro D H H6 pl pf pn x0 x1 x2 x6 lf zs num par nm st A6 hzl qs qa;refine⟨_,rfl,_,rfl,le2,λq0 hq0=>?_⟩;have A7:=A6.grow (af (o:=.tup [.int par,.str nm]) hq0);have eq0:(upd H6 q0 (.tup [.int par,.str nm])) q0=some (.tup ([Sum.inl par,Sum.inr nm].map kV)):=ac;refine⟨_,rfl,pn,rfl,⟨_,SqL.of A7.n⟩,λp hp=>?_⟩;generalize upd H6 q0 (.tup [.int par,.str nm])=H7 at A7 eq0 hp⊢;refine ud (k:=1) (js:=[]) (J:=Itl K pn) (p:=p) zs.length (by omega) (λi ys σ' H'=>∃kss:List (Addr×List Key),ys=(kss.map (·.1)).map V.ref∧kss.map (·.2)=((nds zs).take i).map plK∧kss.length=i∧(∀z∈kss,H' z.1=some (.tup (z.2.map kV)))∧σ'.length=1∧Same H7 H'∧H' p=some (.lst ys))
  ⟨[],rfl,rfl,rfl,by simp,rfl,af hp,ac⟩ (λi ys σ' H' h=>?_) (λi ys σ' H' hi h=>?_) (λys σ' H' h=>?_) (λi ys σ' H' hi h v H2 hy=>?_) ?_ ?_
 ·obtain⟨kss,rfl,_,e,_⟩:=h;rw[length_map,length_map];omega
 ·obtain⟨_,_,_,_,_,_,s2,_⟩:=h;exact⟨_,_,SqL.of (s2 _ _ A7.n),iX (getElem?_eq_getElem hi)⟩
 ·obtain⟨kss,e1,e2,e3,e4,_,s2,e5⟩:=h;refine⟨⟨_,SqL.of (s2 _ _ A7.n),by rw[bQ];exact le_refl _⟩,?_⟩;subst e1;refine⟨q0,p,_,kss,rfl,s2 _ _ eq0,rfl,SqL.of e5,e4,_,rfl,?_⟩;rw[List.take_of_length_le (by rw[cu];exact le_refl _)]at e2;have A8:=A7.grow s2;cases ea:(kss.any λz=>decide (z.2=[Sum.inl par,Sum.inr nm]))with
  |true=>exact aJ (qs _ A8)
  |false =>
   have ho:∀z∈zs,¬(z.2.par=par∧z.2.nm=nm):=λz hz ⟨h1,h2⟩=>by
    have m1:plK z.2∈kss.map (·.2):=by rw[e2];exact mem_map.mpr ⟨z.2,mem_map.mpr ⟨z,hz,rfl⟩,rfl⟩
    obtain⟨y,hy,ey⟩:=mem_map.mp m1;have:(kss.any λz=>decide (z.2=[Sum.inl par,Sum.inr nm]))=true:=any_eq_true.mpr ⟨y,hy,by rw[decide_eq_true_eq,ey];unfold plK;rw[h1,h2]⟩;rw[ea]at this;cases this
   refine aT ⟨_,rfl,.inl ⟨rfl,_,SqL.of A8.n⟩,_,rfl,_,rfl,_,rfl,_,rfl,(show 4≤sizeLine from aq (by decide)),λq hq=>⟨pn,_,_,rfl,rfl,br hq A8.n,aG (by rw[bQ];omega),?_⟩⟩;have A9:=(A8.grow (af (o:=.tup (vals ⟨num,par,nm,st⟩)) hq)).node (n:=⟨num,par,nm,st⟩) ac;refine⟨_,rfl,rfl,_,rfl,?_⟩;cases st with
   |some i5 =>
    have ef:(0::TW.aV (nds zs))=(0:Int)::TW.aV (nds (zs++[(q,⟨num,par,nm,some i5⟩)])):=by simp[TW.aV,nds]
    rw[ef]at A9;exact aJ (qa q _ ho A9)
   |none =>
    refine aT ⟨_,rfl,.inl ⟨rfl,_,SqL.of A9.f⟩,_,rfl,pf,_,_,rfl,rfl,A9.f,aG ?_,?_⟩
    ·have:=TW.dR (nds zs);rw[cu]at this;rw[length_map,length_cons];omega
    ·have A10:=A9.fold num;have ef:(0::TW.aV (nds zs))++[num]=(0:Int)::TW.aV (nds (zs++[(q,⟨num,par,nm,none⟩)])):=by simp[TW.aV,nds]
     rw[ef]at A10;exact qa q _ ho A10
 ·obtain⟨kss,e1,e2,e3,e4,e0,s2,e5⟩:=h;obtain⟨o1,rfl⟩:=vq e0;obtain⟨rfl,hx⟩:=hy;have gx:=hx _ (SqL.of (s2 _ _ A7.n));obtain⟨z1,g1,rfl⟩:=cK gx;have m1:=mem_of_getElem? g1;have ecut:dU (vals z1.2) (some 1) (some 3)=[.int z1.2.par,.str z1.2.nm]:=rfl;refine⟨_,rfl,_,rfl,_,rfl,z1.1,_,rfl,SqT.of (s2 _ _ (A7.nd z1 m1)),(λh=>by have h1:(1:Nat)=0:=h.1;cases h1),λq hq=>?_⟩;rw[ecut];refine⟨br hq e5,kss++[(q,plK z1.2)],by rw[e1];simp,?_,by simp[e3],?_,rfl,aO hp (s2.trans (af hq)),ac⟩
  ·rw[map_append,e2,take_succ,show(nds zs)[i]?=some z1.2 by unfold nds;rw[getElem?_map,g1];rfl,map_append];rfl
  ·intro z hz;have hqp:q≠p:=λz=>by rw[z,e5]at hq;cases hq
   rcases mem_append.mp hz with hz|hz
   ·have:=br (o:=.tup [.int z1.2.par,.str z1.2.nm]) hq (e4 z hz);rw[al]
    ·exact this
    ·intro e;rw[e,al (symm hqp),e5]at this;cases this
   ·have e:z=(q,plK z1.2):=by simpa using hz
    subst e;rw[al hqp];exact ac
 ·rintro _ _ _ _ _ m h;exact m _ _ h
 ·rintro _ _ _ _ m ⟨v1,b0,i1,b1,i2,b2,a2,x2,c1,c2,c3,q⟩;exact⟨v1,b0,i1,b1,i2,b2,a2,x2,c1,c2,c3,λp hp=>m _ _ (q p hp)⟩
theorem rN{f:Addr}{fd:FuncData}(F:Fun K "_law_tree" "_law_tree" ik f fd)(T:Txt mg)(C:Has P w K mg base 2 "_law_pick" ["_law_script","_law_k","_law_many"] (dY K)):FnOk P w K mg base CX0 3 f fd ["_law_script","_law_at","_law_most"] (iI K):=by
 obtain⟨fP,fdP,GP,mP,kP,bP⟩:=C;refine F.ok scB (λvs H Q E h=>?_) (λcdv A outer s H vs Q E hr h=>?_)
 ·obtain⟨a,at',m,rfl,_⟩:=h;rfl
 ·obtain⟨a,at',m,rfl,ha0,hm0,hm9,hS,k⟩:=h;obtain⟨t5,p5,h5⟩:=wU (P:=P) (w:=w) (mg:=mg) (base:=base) (f:=f) (cdv:=cdv) (A:=A) (outer:=outer) (s:=s) (H0:=H) (E:=E) hr;refine⟨_,(ae (ap (i:=3) scB.nd rfl (Or.inl rfl) (bg (jq rfl) rfl T.list rfl (aa (bg pw rfl T.range rfl (aa ag (aa (aF bc (pv 2) ag) ai))) ai)))
    (ae (ap (i:=4) scB.nd rfl (Or.inl rfl) (bX (aa ag ai)))
    (ae (ap (i:=5) scB.nd rfl (Or.inl rfl) (bX ai))
    (ae (dt PassesOwn.never rfl (jt rfl T.range (aa (ak GP hr rfl mP kP bP .nil aL (aa (pv 0) (aa (pv 1) (aa (aF bc (pv 2) ag) ai)))) ai)) (aE (i:=6) scB.nd rfl (Or.inl rfl))
    (ae (ap (i:=7) scB.nd rfl (Or.inl rfl) (fH plainAttrs_list slot_list_pop type_list_pop qg (pv 3) (aa (ak GP hr rfl mP kP bP .nil aL (aa (pv 0) (aa (aF bc (aF bc (pv 1) ag) (aF dw ag (pv 6))) (aa (aW aR rfl T.len boot_len (aa (pv 3) ai)) ai)))) ai)))
    (ae (ap (i:=8) scB.nd rfl (Or.inl rfl) (av cJ (pv 4) (ak GP hr rfl mP kP bP .nil aL (aa (pv 0) (aa (aF bc (aF bc (pv 1) ag) (aF dw ag (pv 6))) (aa (aW aR rfl T.len boot_len (aa (pv 4) ai)) ai)))) (λ_ _=>rfl)))
    (ae (ap (i:=9) scB.nd rfl (Or.inl rfl) (av cJ (bX (aa aM (aa aM (aa aM (aa aM ai))))) (ak GP hr rfl mP kP bP .nil aL (aa (pv 0) (aa (aF bc (aF bc (pv 1) ag) (aF dw ag (pv 6))) (aa ag ai)))) (λ_ _=>rfl)))
    (ae (ap (i:=10) scB.nd rfl (Or.inl rfl) cq)
    (ae (be (am tY (ak GP hr rfl mP kP bP .nil aL (aa (pv 0) (aa (aF bc (aF bc (pv 1) ag) (aF dw ag (pv 6))) (aa ag ai)))) ag (aw _)) (aj (ap (i:=10) scB.nd rfl (Or.inl rfl) (av cJ (bX (aa ag (aa ag (aa ag (aa ag ai))))) (ak GP hr rfl mP kP bP .nil aL (aa (pv 0) (aa (aF bc (aF bc (pv 1) ag) (aF dw ag (pv 6))) (aa ag ai)))) (λ_ _=>rfl)))) aH)
    (aj p5)))))))
    (aj (aD (bg bu rfl T.tuple rfl (aa (aW ia rfl T.sorted boot_sorted (aa (pv 5) ai)) ai)))))))),?_⟩
  refine⟨_,rfl,_,_,rfl,rfl,_,_,rfl,λp1 hp1=>⟨p1,_,_,rfl,ac,⟨by decide,by decide,by omega,by omega⟩,by omega,λpl hpl=>?_⟩⟩;refine⟨aq (by decide),λpf hpf=>⟨zero_le _,λpn hpn=>?_⟩⟩;have s0:Same H (upd (upd (upd (upd H p1 (.rng 1 (m+4))) pl (.lst ((List.range (m+4-1:Int).toNat).map λk=>V.int (1+(k:Nat))))) pf (.lst [.int 0])) pn (.lst [])):=(((af hp1).trans (af hpl)).trans (af hpf)).trans (af hpn);have hfl:pl≠pf:=λe=>by rw[←e,ac]at hpf;cases hpf
  have hln:pl≠pn:=λe=>by rw[←e,al hfl,ac]at hpn;cases hpn
  have hfn:pf≠pn:=λe=>by rw[←e,ac]at hpn;cases hpn
  have A0:Sta H pl pf pn (upd (upd (upd (upd H p1 (.rng 1 (m+4))) pl (.lst ((List.range (m+4-1:Int).toNat).map λk=>V.int (1+(k:Nat))))) pf (.lst [.int 0])) pn (.lst [])) (lf0 m) [0] [] :=
   ⟨s0,by rw[al hln,al hfl,ac,lf0,map_map];rfl,by rw[al hfn,ac];rfl,ac,λz hz=>by simp at hz,(af hp1).free hpl,((af hp1).trans (af hpl)).free hpf,(((af hp1).trans (af hpl)).trans (af hpf)).free hpn,hfl,hln,hfn⟩
  have B0:Bd [] (lf0 m):=Bd.zero hm9;refine⟨_,rfl,_,rfl,_,rfl,_,_,rfl,rfl,a,_,_,rfl,ha0,by omega,hS.same s0,λr H1 r0 r1 s1=>⟨r,rfl,by omega,by omega,?_⟩⟩;refine ju (n:=r.toNat) (λi σ H'=>∃lf zs o6 o7 o8 o9 o10,σ=[some (.ref a),some (.int at'),some (.int m),some (.ref pl),some (.ref pf),some (.ref pn),o6,o7,o8,o9,o10]∧Sta H pl pf pn H' lf (0::TW.aV (nds zs)) zs∧Bd zs lf∧(lf.length:Int)+i=m+3∧zs.length≤i)
   ⟨_,[],_,_,_,_,_,rfl,A0.grow s1,B0,by rw[sN hm0];omega,le_refl _⟩ (λi σ H' hi h=>?_) (λσ H' h=>?_)
  ·obtain⟨lf,zs,o6,o7,o8,o9,o10,rfl,A1,B,hlf,hzl⟩:=h;have hi8:i<10:=by omega
   have z0:(0:Int)≤at'+1+6*(0+(i:Int)):=by omega
   refine⟨_,rfl,.inl ⟨rfl,_,SqL.of A1.l⟩,_,rfl,_,rfl,_,_,rfl,rfl,_,rfl,_,_,rfl,rfl,.inl ⟨by decide,by decide⟩,_,_,rfl,rfl,_,rfl,pl,_,rfl,.inl (SqL.of A1.l),a,_,_,rfl,by omega,by rw[length_map];omega,hS.same A1.same,λj H2 j0 j1 s2=>?_⟩;rw[length_map]at j1;have A2:=A1.grow s2;obtain⟨num,gnum⟩:∃num,lf[j.toNat]?=some num:=⟨_,getElem?_eq_getElem (by omega)⟩;refine⟨pl,_,j,j.toNat,.int num,rfl,rfl,A2.l,by omega,by omega,by rw[length_map];exact vr j0 j1,by rw[getElem?_map,gnum];rfl,?_⟩;rw[jM];have A3:=A2.pop (lf.eraseIdx j.toNat);have elen:(lf.eraseIdx j.toNat).length=lf.length-1:=List.length_eraseIdx_of_lt (by omega);generalize upd H2 pl (.lst ((lf.eraseIdx j.toNat).map V.int))=H3 at A3⊢;refine⟨_,rfl,_,rfl,_,rfl,_,_,rfl,rfl,_,rfl,_,_,rfl,rfl,.inl ⟨by decide,by decide⟩,_,_,rfl,rfl,_,rfl,pf,_,rfl,.inl (SqL.of A3.f),a,_,_,rfl,by omega,by rw[length_map,length_cons];omega,hS.same A3.same,λj2 H4 j20 j21 s4=>?_⟩;rw[length_map]at j21;obtain⟨par,mpar,gpar⟩:=nX j20 j21;have A4:=A3.grow s4;refine⟨pf,_,_,_,rfl,rfl,SqL.of A4.f,gpar,?_⟩;refine⟨aq (by decide),λp3 hp3=>?_⟩;have A5:=A4.grow (af (o:=.lst [.str "a",.str "b",.str "c",.str "abcde"]) hp3);refine⟨_,rfl,_,rfl,_,_,rfl,rfl,_,rfl,_,_,rfl,rfl,.inl ⟨by decide,by decide⟩,_,_,rfl,rfl,a,_,_,rfl,by omega,by decide,hS.same A5.same,λj3 H5 j30 j31 s5=>?_⟩;obtain⟨nm,hnm,gnm⟩:=nY j30 j31;refine⟨p3,_,_,_,rfl,rfl,SqL.of (s5 _ _ ac),gnm,?_⟩;have A6:=A5.grow s5;refine⟨_,rfl,_,rfl,_,_,rfl,rfl,_,rfl,_,_,rfl,rfl,.inl ⟨by decide,by decide⟩,_,_,rfl,rfl,a,_,_,rfl,by omega,by decide,hS.same A6.same,λj4 H6 j40 j41 s6=>⟨_,_,rfl,rfl,_,rfl,?_⟩⟩;have A6':=A6.grow s6;refine pi (λhgt=>?_) (λhgt=>?_)
   ·refine⟨aq (by decide),λp5 hp5=>?_⟩;have A65:=A6'.grow (af (o:=.lst [.int 0,.int 1,.int 2,.int 999]) hp5);refine⟨_,rfl,_,rfl,_,_,rfl,rfl,_,rfl,_,_,rfl,rfl,.inl ⟨by decide,by decide⟩,_,_,rfl,rfl,a,_,_,rfl,by omega,by decide,hS.same A65.same,λj5 H65 j50 j51 s65=>?_⟩;obtain⟨i5,hst5,gst⟩:=sM j50 j51;refine⟨p5,_,_,_,rfl,rfl,SqL.of (s65 _ _ ac),gst,?_⟩;have A66:=A65.grow s65;exact h5 _ H H65 pl pf pn _ _ _ _ (lf.eraseIdx j.toNat) zs num par nm (some i5) A66 (by omega) (λH' A8=>⟨_,zs,_,_,_,_,_,rfl,A8,B.skip _,by rw[elen];omega,by omega⟩)
     (λq H' ho A9=>⟨_,_,_,_,_,_,_,rfl,A9,B.add (q:=q) (n:=⟨num,par,nm,(some i5)⟩) gnum mpar ho hnm hst5,by rw[elen];omega,by rw[length_append,length_singleton];omega⟩)
   ·exact h5 _ H H6 pl pf pn _ _ _ _ (lf.eraseIdx j.toNat) zs num par nm none A6' (by omega) (λH' A8=>⟨_,zs,_,_,_,_,_,rfl,A8,B.skip _,by rw[elen];omega,by omega⟩)
     (λq H' ho A9=>⟨_,_,_,_,_,_,_,rfl,A9,B.add (q:=q) (n:=⟨num,par,nm,none⟩) gnum mpar ho hnm (.inl rfl),by rw[elen];omega,by rw[length_append,length_singleton];omega⟩)
  ·obtain⟨lf,zs,o6,o7,o8,o9,o10,rfl,A1,B,hlf,hzl⟩:=h;have hzl8:(zs.length:Int)≤m:=by omega
   have hnum:(zs.map tp).map (·.2.1)=(nds zs).map (·.num):=by
    unfold nds;simp only[map_map];rfl
   have hnd:((nds zs).map (·.num)).Nodup:=(nodup_append.mp B.nd).1;refine⟨_,rfl,pn,zs.map tp,rfl,SqL.of (by rw[A1.n,iE]),λz hz=>?_,by rw[hnum];exact hnd,by rw[length_map];omega,λts pm up p hp=>?_⟩
   ·obtain⟨y,hy,rfl⟩:=mem_map.mp hz;exact A1.nd y hy
   ·obtain⟨pm2,eb⟩:=back pm;have er:(ts.map (·.1)).map V.ref=aY (ts.map un):=by rw[←iE,eb]
    rw[er];refine⟨p,_,rfl,.inl ⟨SqL.of ac,λl hl=>?_⟩⟩;have mem:∀z,z∈ts.map un→z∈zs:=λz hz=>pm2.mem_iff.mp hz;refine k l (ts.map un) _ ac ?_ (by rw[pm2.length_eq];exact hzl8) ?_ (λz hz=>B.ok z (mem z hz)) ((A1.same.trans (af hp)).trans (af hl))
    ·intro z hz;exact((af hp).trans (af hl)) _ _ (A1.nd z (mem z hz))
    ·refine TW.sJ B.built (pm2.map _) ?_ hnd B.own;unfold nds;rw[pairwise_map];have up2:((ts.map un).map tp).Pairwise (λa b=>a.2.1<b.2.1):=by rw[eb];exact up
     rw[pairwise_map]at up2;exact up2.imp λh=>Int.le_of_lt h
end
def edS(i:Nat):Stmt:=(bA iu).getD i (.Pass ⟨0,0,0,0⟩)
def EN:List Str:=["_law_script","_law_at","_law_tree_here","_law_numbers","_law_some","_law_number","_law_folders","_law_parent","_law_name","_law_way","_law_stamp","_law_new"]
theorem dZ:FnScope EN ["_law_script","_law_at","_law_tree_here"] (ah iu):=fsc
abbrev EX(P:Program)(w:World)(K:PySem.W.Frag)(mg:Str→Option Value)(base:Heap)(f:Addr)(cdv:Value)(A:Around)(outer:List Env)(s:Shared)(H:Hp)(E:XK):Cx:=(gC CX0 P w K mg base EN "_law_deed" (ah iu) f cdv A outer s H E).nox
def edσ(a t:Addr)(at':Int)(x3 x4 x5 x6 x7 x8 x9 x10 x11:Option V):St:=[some (.ref a),some (.int at'),some (.ref t),x3,x4,x5,x6,x7,x8,x9,x10,x11]
section
variable{P:Program}{w:World}{K:PySem.W.Frag}{mg:Str→Option Value}{base:Heap}{f:Addr}{cdv:Value}{A:Around}{outer:List Env}{s:Shared}{H0:Hp}{E:XK}
theorem ed0:∃t,PS (EX P w K mg base f cdv A outer s H0 E) (edS 0) t∧∀(D:Ends)(H:Hp)(a t':Addr)(at':Int)(zs:ZN),Tre H t' zs →
   (∀p H',Same H H'→H' p=some (.lst (((nds zs).map (·.num)).map V.int))→D.nx (edσ a t' at' (some (.ref p)) none none none none none none none none) H')→t D (edσ a t' at' none none none none none none none none none) H:=by
 refine⟨_,qu (ii:=3) (N:=["_law_node"]) (cl:=[]) (k:=1) (js:=[]) (g:=aZ 0) dZ.nd rfl (Or.inl rfl) rfl (eF rfl (by decide +kernel) (by decide +kernel) (by decide +kernel)) rfl (λi j x h=>by simp at h)
  (cC (pv 2)) (λs H fp=>aE (i:=0) (show(["_law_node"]:List Str).Nodup by decide +kernel) rfl (Or.inl rfl) (Or.inr rfl)) (λs H fp=>av (r:=cG K) ao (pv 0) ag (λ_ _=>rfl)),?_⟩
 intro D H a t' at' zs tr q;have hl:=tr.len;refine⟨_,rfl,t',rfl,⟨_,SqT.of tr.tup⟩,λp hp=>?_⟩;refine eJ (fr:=[]) zs (λz=>V.ref z.1) (by omega) hp (dQ (by rw[bS];exact SqT.of tr.tup)) rfl (λz y _=>y=.int z.2.num) (λz y H H' h _=>h) (λz H' k mz s1 _ hk=>⟨_,rfl,z.1,_,_,_,rfl,rfl,SqT.of (s1 _ _ (tr.nod z mz)),at0 z.2,hk _ H' (Same.refl _) rfl⟩) (λys H' s1 hp' hys=>?_);have ey:=aQ (f:=λz:Addr×Nd=>V.int z.2.num) hys (λz y _ h=>h);refine q p H' s1 ?_;rw[hp',ey];unfold nds;rw[map_map,map_map];rfl
theorem ed1:∃t,PS (EX P w K mg base f cdv A outer s H0 E) (edS 1) t∧∀(D:Ends)(H:Hp)(a t' p:Addr)(at':Int)(ns:List Int),H p=some (.lst (ns.map V.int))→ns.length≤60 →
   (∀q H',Same H H'→H' q=some (.lst ((ns++ns++ns++[55]).map V.int))→D.nx (edσ a t' at' (some (.ref p)) (some (.ref q)) none none none none none none none) H')→t D (edσ a t' at' (some (.ref p)) none none none none none none none none) H:=by
 refine⟨_,ap (i:=4) dZ.nd rfl (Or.inl rfl) (aF fY (aF fY (aF fY (pv 3) (pv 3)) (pv 3)) (bX (aa ag ai))),?_⟩;intro D H a t' p at' ns hp hl q;refine⟨_,rfl,_,rfl,p,p,_,_,rfl,rfl,hp,hp,aq (by rw[length_map];omega),λp1 h1=>?_⟩;have s1:=af (o:=.lst (ns.map V.int++ns.map V.int)) h1;refine⟨_,rfl,p1,p,_,_,rfl,rfl,ac,s1 _ _ hp,aq (by rw[length_append,length_map];omega),λp2 h2=>?_⟩;have s2:=s1.trans (af (o:=.lst (ns.map V.int++ns.map V.int++ns.map V.int)) h2);refine⟨aq (show 1≤1000 by decide),λp3 h3=>?_⟩;have s3:=s2.trans (af (o:=.lst [.int 55]) h3);refine⟨p2,p3,_,_,rfl,rfl,br h3 ac,ac,aq (by rw[length_append,length_append,length_map];show _+1≤1000;omega),λp4 h4=>?_⟩;refine q p4 _ (s3.trans (af h4)) ?_;rw[ac];simp only[map_append,map_cons,map_nil]
theorem ed3:∃t,PS (EX P w K mg base f cdv A outer s H0 E) (edS 3) t∧∀(D:Ends)(H:Hp)(a t':Addr)(at':Int)(zs:ZN)(x3 x4 x5:Option V),Tre H t' zs →
   (∀p H' (fs:List Int),Same H H'→H' p=some (.lst (fs.map V.int))→(∀x∈fs,x=0∨∃m∈nds zs,m.num=x)→1≤fs.length→fs.length≤31→D.nx (edσ a t' at' x3 x4 x5 (some (.ref p)) none none none none none) H')→t D (edσ a t' at' x3 x4 x5 none none none none none none) H:=by
 refine⟨_,ap (i:=6) dZ.nd rfl (Or.inl rfl) (aF fY (db (N:=["_law_node"]) (cl:=[]) (k:=1) (js:=[]) (g:=aZ 0) rfl (eF rfl (by decide +kernel) (by decide +kernel) (by decide +kernel)) rfl (λi j x h=>by simp at h)
  (cC (pv 2)) (λs H fp=>aE (i:=0) (show(["_law_node"]:List Str).Nodup by decide +kernel) rfl (Or.inl rfl) (Or.inr rfl)) (λs H fp=>am eE (av (r:=cG K) ao (pv 0) ag (λ_ _=>rfl)) cq (aw _)) (λs H fp=>av (r:=cG K) ao (pv 0) ag (λ_ _=>rfl))) (bX (aa ag ai))),?_⟩
 intro D H a t' at' zs x3 x4 x5 tr q;have hl:=tr.len;refine⟨_,rfl,t',rfl,⟨_,SqT.of tr.tup⟩,λp hp=>?_⟩;refine ci (fr:=[]) zs (λz=>V.ref z.1) (by omega) hp (dQ (by rw[bS];exact SqT.of tr.tup)) rfl (λz=>decide (stV z.2.st=V.non)) (λz y _=>y=.int z.2.num) (λz y H H' h _=>h) (λz H' k mz s1 _ hk=>⟨_,rfl,z.1,_,_,_,rfl,rfl,SqT.of (s1 _ _ (tr.nod z mz)),at3 z.2,rfl,_,rfl,hk H' (Same.refl _)⟩)
  (λz H' k mz _ s1 _ hk=>⟨_,rfl,z.1,_,_,_,rfl,rfl,SqT.of (s1 _ _ (tr.nod z mz)),at0 z.2,hk _ H' (Same.refl _) rfl⟩) (λys H' s1 hp' hys=>?_)
 have ey:=aQ (f:=λz:Addr×Nd=>V.int z.2.num) hys (λz y _ h=>h);have hfl:=length_filter_le (λz:Addr×Nd=>decide (stV z.2.st=V.non)) zs;have ey2:ys=((zs.filter λz:Addr×Nd=>decide (stV z.2.st=V.non)).map λz=>z.2.num).map V.int:=by rw[ey,map_map];rfl
 refine⟨aq (show 1≤1000 by decide),λp2 h2=>?_⟩;refine⟨p,p2,_,_,rfl,rfl,br h2 hp',ac,aq (by rw[ey,length_map];show _+1≤1000;omega),λp3 h3=>?_⟩;refine q p3 _ (((zs.filter λz:Addr×Nd=>decide (stV z.2.st=V.non)).map λz=>z.2.num)++[0]) ((s1.trans (af h2)).trans (af h3)) ?_ (λx hx=>?_) (by simp) (by rw[length_append,length_map];simp;omega)
 ·rw[ac,ey2,map_append];rfl
 ·rcases mem_append.mp hx with h|h
  ·obtain⟨z,hz,rfl⟩:=mem_map.mp h;exact .inr ⟨z.2,aA (mem_filter.mp hz).1,rfl⟩
  ·exact .inl (by simpa using h)
end
def wj:List Stmt:=match edS 7 with
 |.If _ a _ _=>a
 |_=>[]
theorem rO{j:Int}(h0:0≤j)(h1:j<6):∃st,atI [V.non,.non,.int 0,.int 1,.int 2,.int 3] j=some (stV st)∧vw st:=by
 have hj:j=0∨j=1∨j=2∨j=3∨j=4∨j=5:=by omega
 rcases hj with rfl|rfl|rfl|rfl|rfl|rfl
 ·exact⟨none,rfl,λi e=>by cases e⟩
 ·exact⟨none,rfl,λi e=>by cases e⟩
 ·exact⟨some 0,rfl,λi e=>by cases e;decide⟩
 ·exact⟨some 1,rfl,λi e=>by cases e;decide⟩
 ·exact⟨some 2,rfl,λi e=>by cases e;decide⟩
 ·exact⟨some 3,rfl,λi e=>by cases e;decide⟩
theorem rP{j:Int}(h0:0≤j)(h1:j<4):∃i,atI [V.int 0,.int 1,.int 2,.int 998] j=some (.int i)∧0≤i∧i≤999:=by
 have hj:j=0∨j=1∨j=2∨j=3:=by omega
 rcases hj with rfl|rfl|rfl|rfl
 ·exact⟨0,rfl,by decide,by decide⟩
 ·exact⟨1,rfl,by decide,by decide⟩
 ·exact⟨2,rfl,by decide,by decide⟩
 ·exact⟨998,rfl,by decide,by decide⟩
theorem rQ{j x y:Int}(h0:0≤j)(h1:j<5):∃z,atI [V.int x,.int y] (j / 4)=some (.int z)∧(z=x∨z=y):=by
 have hj:j / 4=0∨j / 4=1:=by omega
 rcases hj with e|e
 ·rw[e];exact⟨x,rfl,.inl rfl⟩
 ·rw[e];exact⟨y,rfl,.inr rfl⟩
section
variable{P:Program}{w:World}{K:PySem.W.Frag}{mg:Str→Option Value}{base:Heap}{f:Addr}{cdv:Value}{A:Around}{outer:List Env}{s:Shared}{H0:Hp}{E:XK}
theorem edM(hr:Room 2 (A.deeper (PyProof.Rows.envOfC "_law_deed" (ah iu) s.heap.objs.size f cdv)))(CP:Has P w K mg base 2 "_law_pick" ["_law_script","_law_k","_law_many"] (dY K)):
  ∃t,PSs (EX P w K mg base f cdv A outer s H0 E) wj t∧∀(D:Ends)(H:Hp)(a t':Addr)(at' n p:Int)(nm:Str)(x3 x4 x6 x9:Option V),dF K H a→0≤at'→1≤n→n≤60→0≤p→p≤60→lG nm →
   (∀c dd H',Same H H'→H' c=some (.tup (bf dd))→dH dd→D.rt (.ref c) H')→t D (edσ a t' at' x3 x4 (some (.int n)) x6 (some (.int p)) (some (.str nm)) x9 none none) H:=by
 obtain⟨fP,fdP,GP,mP,kP,bP⟩:=CP;refine⟨_,ae (ap (i:=10) dZ.nd rfl (Or.inl rfl) (av cJ (bX (aa cq (aa cq (aa ag (aa ag (aa ag (aa ag ai))))))) (ak GP hr rfl mP kP bP .nil aL (aa (pv 0) (aa (aF bc (pv 1) ag) (aa ag ai)))) (λ_ _=>rfl)))
  (ae (ap (i:=11) dZ.nd rfl (Or.inl rfl) (av cJ (bX (aa (aF bc ag (ak GP hr rfl mP kP bP .nil aL (aa (pv 0) (aa (aF bc (pv 1) ag) (aa ag ai))))) (aa (pv 5) ai))) (aF ka (ak GP hr rfl mP kP bP .nil aL (aa (pv 0) (aa (aF bc (pv 1) ag) (aa ag ai)))) ag) (λ_ _=>rfl)))
  (aj (aD (bq (aa aM (aa (pv 11) (aa (pv 7) (aa (pv 8) (aa (pv 10) ai))))))))),?_⟩
 intro D H a t' at' n p nm x3 x4 x6 x9 hS hat hn1 hn2 hp1 hp2 hnm q;refine⟨aq (show 6≤1000 by decide),λl1 hl1=>?_⟩;have s1:=af (o:=.lst [.non,.non,.int 0,.int 1,.int 2,.int 3]) hl1;refine⟨_,rfl,_,rfl,_,_,rfl,rfl,a,_,_,rfl,by omega,by decide,hS.same s1,λj1 H1 j10 j11 s2=>?_⟩;obtain⟨st,est,hst⟩:=rO j10 j11;refine⟨l1,_,_,_,rfl,rfl,SqL.of (s2 _ _ ac),est,?_⟩;have s12:=s1.trans s2;refine⟨_,rfl,_,rfl,_,_,rfl,rfl,a,_,_,rfl,by omega,by decide,hS.same s12,λj2 H2 j20 j21 s3=>?_⟩;refine⟨_,_,rfl,rfl,_,rfl,le2,λl2 hl2=>?_⟩;have s13:=s12.trans s3;have s4:=s13.trans (af (o:=.lst [.int (1+j2),.int n]) hl2);refine⟨_,rfl,_,rfl,_,_,rfl,rfl,a,_,_,rfl,by omega,by decide,hS.same s4,λj3 H3 j30 j31 s5=>?_⟩;obtain⟨nw,enw,hnw⟩:=rQ (x:=1+j2) (y:=n) j30 j31;refine⟨_,_,rfl,rfl,⟨by decide,by decide⟩,l2,_,_,_,rfl,rfl,SqL.of (s5 _ _ ac),enw,?_⟩;refine⟨_,rfl,_,rfl,_,rfl,_,rfl,(show 5≤sizeLine from aq (by decide)),λc hc=>?_⟩;refine q c (.make nw p nm st) _ ((s4.trans s5).trans (af hc)) ac ⟨?_,?_,hp1,hp2,hnm,hst⟩
 ·rcases hnw with e|e<;>omega
 ·rcases hnw with e|e<;>omega
theorem ed7(hr:Room 2 (A.deeper (PyProof.Rows.envOfC "_law_deed" (ah iu) s.heap.objs.size f cdv)))(CP:Has P w K mg base 2 "_law_pick" ["_law_script","_law_k","_law_many"] (dY K)):
  ∃t,PS (EX P w K mg base f cdv A outer s H0 E) (edS 7) t∧∀(D:Ends)(H:Hp)(a t' pn:Addr)(at' n p wy:Int)(nm:Str)(ns:List Int)(x4 x6:Option V),dF K H a→0≤at'→1≤n→n≤60→0≤p→p≤60→lG nm→H pn=some (.lst (ns.map V.int)) →
   (∀c dd H',Same H H'→H' c=some (.tup (bf dd))→dH dd→D.rt (.ref c) H')→(∀H',Same H H'→D.nx (edσ a t' at' (some (.ref pn)) x4 (some (.int n)) x6 (some (.int p)) (some (.str nm)) (some (.int wy)) none none) H') →
   t D (edσ a t' at' (some (.ref pn)) x4 (some (.int n)) x6 (some (.int p)) (some (.str nm)) (some (.int wy)) none none) H:=by
 obtain⟨tM,pM,hM⟩:=edM (f:=f) (cdv:=cdv) (outer:=outer) (H0:=H0) (E:=E) hr CP;refine⟨_,be (PW.pt (pw_or (am pZ (pv 9) ag (aw _)) (pw_or1 (am (ga hr.units0) (pv 3) (bX ai) (aw _))))) pM aH,?_⟩;intro D H a t' pn at' n p wy nm ns x4 x6 hS hat hn1 hn2 hp1 hp2 hnm hpn q qn;refine⟨_,rfl,_,_,rfl,rfl,_,rfl,?_⟩;refine pi (λhlt=>?_) (λhlt=>?_)
 ·exact aT (hM D H a t' at' n p nm _ _ _ _ hS hat hn1 hn2 hp1 hp2 hnm q)
 ·refine⟨_,rfl,zero_le _,λl hl=>?_⟩;have s1:=af (o:=.lst []) hl;refine⟨pn,l,_,rfl,rfl,SqL.of (s1 _ _ hpn),SqL.of ac,_,rfl,?_⟩;refine pi (λ_=>?_) (λ_=>?_)
  ·exact hM D _ a t' at' n p nm _ _ _ _ (hS.same s1) hat hn1 hn2 hp1 hp2 hnm λc dd H' s'=>q c dd H' (s1.trans s')
  ·exact qn _ s1
theorem ed8(hr:Room 2 (A.deeper (PyProof.Rows.envOfC "_law_deed" (ah iu) s.heap.objs.size f cdv)))(CP:Has P w K mg base 2 "_law_pick" ["_law_script","_law_k","_law_many"] (dY K)):
  ∃t,PSs (EX P w K mg base f cdv A outer s H0 E) [edS 8,edS 9,edS 10] t∧∀(D:Ends)(H:Hp)(a t':Addr)(at' n p wy:Int)(nm:Str)(x3 x4 x6:Option V),dF K H a→0≤at'→1≤n→n≤60→0≤p→p≤60→lG nm →
   (∀c dd H',Same H H'→H' c=some (.tup (bf dd))→dH dd→D.rt (.ref c) H') →
   t D (edσ a t' at' x3 x4 (some (.int n)) x6 (some (.int p)) (some (.str nm)) (some (.int wy)) none none) H:=by
 obtain⟨fP,fdP,GP,mP,kP,bP⟩:=CP;refine⟨_,ae (be (am cx (pv 9) ag (aw _)) (aj (aD (bq (aa aM (aa (pv 5) (aa (av cJ (bX (aa ag (aa ag (aa ag (aa ag ai))))) (ak GP hr rfl mP kP bP .nil aL (aa (pv 0) (aa (aF bc (pv 1) ag) (aa ag ai)))) (λ_ _=>rfl)) ai)))))) aH)
  (ae (be (am pZ (pv 9) ag (aw _)) (aj (aD (bq (aa aM (aa (pv 5) (aa (pv 7) (aa (pv 8) ai))))))) aH)
  (aj (aD (bq (aa aM (aa (pv 5) ai)))))),?_⟩
 intro D H a t' at' n p wy nm x3 x4 x6 hS hat hn1 hn2 hp1 hp2 hnm q;refine⟨_,rfl,rfl,_,rfl,?_⟩;refine pi (λ_=>?_) (λ_=>?_)
 ·refine⟨_,rfl,aq (show 4≤1000 by decide),λl1 hl1=>?_⟩;have s1:=af (o:=.lst [.int 0,.int 1,.int 2,.int 998]) hl1;refine⟨_,rfl,_,rfl,_,_,rfl,rfl,a,_,_,rfl,by omega,by decide,hS.same s1,λj1 H1 j10 j11 s2=>?_⟩;obtain⟨i,ei,hi1,hi2⟩:=rP j10 j11;refine⟨l1,_,_,_,rfl,rfl,SqL.of (s2 _ _ ac),ei,(show 3≤sizeLine from aq (by decide)),λc hc=>?_⟩;exact q c (.write n i) _ ((s1.trans s2).trans (af hc)) ac ⟨hn1,hn2,hi1,hi2⟩
 ·refine⟨_,rfl,_,_,rfl,rfl,_,rfl,?_⟩;refine pi (λ_=>?_) (λ_=>?_)
  ·exact⟨_,rfl,_,rfl,_,rfl,(show 4≤sizeLine from aq (by decide)),λc hc=>q c (.move n p nm) _ (af hc) ac ⟨hn1,hn2,hp1,hp2,hnm⟩⟩
  ·exact⟨_,rfl,(show 2≤sizeLine from le2),λc hc=>q c (.drop n) _ (af hc) ac ⟨hn1,hn2⟩⟩
def nH(K:PySem.W.Frag):Sp:=λvs H Q _=>∃a at' t zs,vs=[.ref a,.int at',.ref t]∧0≤at'∧dF K H a∧Tre H t zs∧(∀n∈nds zs,iA n)∧∀c dd H',Same H H'→H' c=some (.tup (bf dd))→dH dd→Q (.ref c) H'
theorem tR{f:Addr}{fd:FuncData}(F:Fun K "_law_deed" "_law_deed" iu f fd)(T:Txt mg)(CP:Has P w K mg base 2 "_law_pick" ["_law_script","_law_k","_law_many"] (dY K)):FnOk P w K mg base CX0 3 f fd ["_law_script","_law_at","_law_tree_here"] (nH K):=by
 obtain⟨fP,fdP,GP,mP,kP,bP⟩:=id CP;refine F.ok dZ (λvs H Q E h=>?_) (λcdv A outer s H vs Q E hr h=>?_)
 ·obtain⟨a,at',t,zs,rfl,_⟩:=h;rfl
 ·obtain⟨a,at',t,zs,rfl,hat,hS,tr,hok,q⟩:=h;obtain⟨t0,p0,h0⟩:=ed0 (P:=P) (w:=w) (K:=K) (mg:=mg) (base:=base) (f:=f) (cdv:=cdv) (A:=A) (outer:=outer) (s:=s) (H0:=H) (E:=E);obtain⟨t1,p1,h1⟩:=ed1 (P:=P) (w:=w) (K:=K) (mg:=mg) (base:=base) (f:=f) (cdv:=cdv) (A:=A) (outer:=outer) (s:=s) (H0:=H) (E:=E);obtain⟨t3,p3,h3⟩:=ed3 (P:=P) (w:=w) (K:=K) (mg:=mg) (base:=base) (f:=f) (cdv:=cdv) (A:=A) (outer:=outer) (s:=s) (H0:=H) (E:=E);obtain⟨t7,p7,h7⟩:=ed7 (f:=f) (cdv:=cdv) (outer:=outer) (H0:=H) (E:=E) hr CP;obtain⟨t8,p8,h8⟩:=ed8 (f:=f) (cdv:=cdv) (outer:=outer) (H0:=H) (E:=E) hr CP;refine⟨_,ae p0 (ae p1
   (ae (ap (i:=5) dZ.nd rfl (Or.inl rfl) (av cJ (pv 4) (ak GP hr rfl mP kP bP .nil aL (aa (pv 0) (aa (pv 1) (aa (aW aR rfl T.len boot_len (aa (pv 4) ai)) ai)))) (λ_ _=>rfl)))
   (ae p3
   (ae (ap (i:=7) dZ.nd rfl (Or.inl rfl) (av cJ (aF fY (aF fY (pv 6) (pv 6)) (pv 4)) (ak GP hr rfl mP kP bP .nil aL (aa (pv 0) (aa (aF bc (pv 1) ag) (aa (aF bc (aF dw ag (aW aR rfl T.len boot_len (aa (pv 6) ai))) (aW aR rfl T.len boot_len (aa (pv 4) ai))) ai)))) (λ_ _=>rfl)))
   (ae (ap (i:=8) dZ.nd rfl (Or.inl rfl) (av cJ (bX (aa aM (aa aM (aa aM (aa aM ai))))) (ak GP hr rfl mP kP bP .nil aL (aa (pv 0) (aa (aF bc (pv 1) ag) (aa ag ai)))) (λ_ _=>rfl)))
   (ae (ap (i:=9) dZ.nd rfl (Or.inl rfl) (ak GP hr rfl mP kP bP .nil aL (aa (pv 0) (aa (aF bc (pv 1) ag) (aa ag ai)))))
   (ae p7 p8))))))),?_⟩
  have hl:=tr.len;have hnr:∀x∈(nds zs).map (·.num),1≤x∧x≤60:=λx hx=>by
   obtain⟨n,hn,rfl⟩:=mem_map.mp hx;exact⟨(hok n hn).1,(hok n hn).2.1⟩
  refine h0 _ H a t at' zs tr λpn H1 s1 hpn=>?_;generalize hns:(nds zs).map (·.num)=ns at hpn hnr;have hnl:ns.length=zs.length:=by rw[←hns,length_map,cu]
  refine h1 _ H1 a t pn at' ns hpn (by omega) λps H2 s2 hps=>?_;have hsr:∀x∈ns++ns++ns++[55],1≤x∧x≤60:=λx hx=>by
   rcases mem_append.mp hx with h|h
   ·rcases mem_append.mp h with h|h
    ·rcases mem_append.mp h with h|h<;>exact hnr x h
    ·exact hnr x h
   ·have:x=55:=by simpa using h
    omega
  have hsl:(ns++ns++ns++[55]).length≤100∧1≤(ns++ns++ns++[55]).length:=by simp;omega
  generalize ns++ns++ns++[55]=ss at hps hsr hsl⊢;have s12:=s1.trans s2;refine⟨_,rfl,_,rfl,_,rfl,_,rfl,ps,_,rfl,.inl (SqL.of hps),a,at',_,rfl,hat,by rw[length_map];omega,hS.same s12,λj H3 j0 j1 s3=>?_⟩;rw[length_map]at j1;obtain⟨n,en,hn1,hn2⟩:=og j0 j1 hsr;refine⟨ps,_,_,_,rfl,rfl,SqL.of (s3 _ _ hps),en,?_⟩;have s13:=s12.trans s3;refine h3 _ H3 a t at' zs _ _ _ (tr.same s13) λpf H4 fs s4 hpf hfs hf1 hf2=>?_;have s14:=s13.trans s4;have hps4:=s4 _ _ (s3 _ _ hps);refine⟨_,rfl,_,rfl,pf,pf,_,_,rfl,rfl,hpf,hpf,aq (by rw[length_map];omega),λl1 hl1=>?_⟩;have u1:=af (o:=.lst (fs.map V.int++fs.map V.int)) hl1;refine⟨_,rfl,l1,ps,_,_,rfl,rfl,ac,u1 _ _ hps4,aq (by rw[length_append,length_map,length_map];omega),λl2 hl2=>?_⟩;have u2:=u1.trans (af (o:=.lst (fs.map V.int++fs.map V.int++ss.map V.int)) hl2);have hl2':upd (upd H4 l1 (.lst (fs.map V.int++fs.map V.int))) l2 (.lst (fs.map V.int++fs.map V.int++ss.map V.int)) l2=some (.lst ((fs++fs++ss).map V.int)):=by rw[ac];simp only[map_append]
  generalize upd (upd H4 l1 (.lst (fs.map V.int++fs.map V.int))) l2 (.lst (fs.map V.int++fs.map V.int++ss.map V.int))=H5 at u2 hl2'⊢;have s15:=s14.trans u2;refine⟨_,rfl,_,rfl,_,_,rfl,rfl,_,rfl,pf,_,rfl,.inl (SqL.of (u2 _ _ hpf)),_,_,rfl,rfl,.inl ⟨by decide,by decide⟩,_,rfl,ps,_,rfl,.inl (SqL.of (u2 _ _ hps4)),_,_,rfl,rfl,a,_,_,rfl,by omega,by rw[length_map,length_map];omega,hS.same s15,λj2 H6 j20 j21 s6=>?_⟩;rw[length_map,length_map]at j21;obtain⟨p,ep,hp1,hp2⟩:=og (ns:=fs++fs++ss) (P:=λx=>0≤x∧x≤60) j20 (by rw[length_append,length_append];omega) (λx hx=>by
   have hf:∀x∈fs,0≤x∧x≤60:=λx hx=>by
    rcases hfs x hx with e|⟨m,hm,e⟩
    ·omega
    ·have:=hok m hm;have h1:=this.1;have h2:=this.2.1;omega
   rcases mem_append.mp hx with h|h
   ·rcases mem_append.mp h with h|h<;>exact hf x h
   ·have:=hsr x h;omega)
  refine⟨l2,_,_,_,rfl,rfl,SqL.of (s6 _ _ hl2'),ep,?_⟩;have s16:=s15.trans s6;refine⟨aq (show 4≤1000 by decide),λl3 hl3=>?_⟩;have s17:=s16.trans (af (o:=.lst [.str "a",.str "b",.str "c",.str "abcde"]) hl3);refine⟨_,rfl,_,rfl,_,_,rfl,rfl,a,_,_,rfl,by omega,by decide,hS.same s17,λj3 H7 j30 j31 s7=>?_⟩;obtain⟨nm,hnm,gnm⟩:=nY j30 j31;refine⟨l3,_,_,_,rfl,rfl,SqL.of (s7 _ _ ac),gnm,?_⟩;have s18:=s17.trans s7;refine⟨_,rfl,_,rfl,_,_,rfl,rfl,a,_,_,rfl,by omega,by decide,hS.same s18,λwy H8 _ _ s8=>?_⟩;have s19:=s18.trans s8;have s29:Same H1 H8:=((((s2.trans s3).trans s4).trans u2).trans s6).trans ((af hl3).trans (s7.trans s8));refine h7 _ H8 a t pn at' n p wy nm ns _ _ (hS.same s19) hat hn1 hn2 hp1 hp2 hnm (s29 _ _ hpn) (λc dd H' s'=>q c dd H' (s19.trans s')) λH9 s9=>?_;exact h8 _ H9 a t at' n p wy nm _ _ _ (hS.same (s19.trans s9)) hat hn1 hn2 hp1 hp2 hnm λc dd H' s'=>q c dd H' ((s19.trans s9).trans s')
def oM(K:PySem.W.Frag):Sp:=λvs H Q _=>∃a at' t m zs,vs=[.ref a,.int at',.ref t,.int m]∧0≤at'∧0≤m∧m≤12∧dF K H a∧Tre H t zs∧(∀n∈nds zs,iA n)∧(zs.length:Int)+m≤29∧∀t' us H',Same H H'→Tre H' t' us→(∀n∈nds us,iA n)→(us.length:Int)≤zs.length+m→(∃ms:List Int,(ms.length:Int)≤m∧∀n∈nds us,n.num∈(nds zs).map (·.num)∨n.num∈ms)→Q (.ref t') H'
theorem oN:FnScope ["_law_script","_law_at","_law_tree_here","_law_many","_law_j","_law_behind"] ["_law_script","_law_at","_law_tree_here","_law_many"] (ah vE):=fsc
theorem wm{f:Addr}{fd:FuncData}(F:Fun K "_law_further" "_law_further" vE f fd)(T:Txt mg)(CE:Has P w K mg base 3 "_law_deed" ["_law_script","_law_at","_law_tree_here"] (nH K))(CL:Has P w K mg base 2 "_law_done" ["_law_tree_here","_law_deed_here"] kQ):FnOk P w K mg base CX0 4 f fd ["_law_script","_law_at","_law_tree_here","_law_many"] (oM K):=by
 obtain⟨fE,fdE,GE,mE,kE,bE⟩:=CE;obtain⟨fL,fdL,GL,mL,kL,bL⟩:=CL;refine F.ok oN (λvs H Q E h=>?_) (λcdv A outer s H vs Q E hr h=>?_)
 ·obtain⟨a,at',t,m,zs,rfl,_⟩:=h;rfl
 ·obtain⟨a,at',t,m,zs,rfl,ha0,hm0,hm1,hS,tr,hok,hl,q⟩:=h;have hr2:Room 2 _:=hr.mono (by decide);refine⟨_,ae (dt PassesOwn.never rfl (jt rfl T.range (aa (pv 3) ai)) (aE (i:=4) oN.nd rfl (Or.inl rfl))
    (ae (ap (i:=5) oN.nd rfl (Or.inl rfl) (ak GL hr2 rfl mL kL bL .nil aL (aa (pv 2) (aa (ak GE hr rfl mE kE bE .nil aL (aa (pv 0) (aa (aF bc (pv 1) (aF dw ag (pv 4))) (aa (pv 2) ai)))) ai))))
    (aj (be (md (iK (aW lv rfl T.isin PyProof.Rows.boot_isinstance (aa (pv 5) (aa (rW (v:=.ty "str") rfl T.str boot_str rfl) ai))) (λ_=>rfl))) (aj (ap (i:=2) oN.nd rfl (Or.inl rfl) (pv 5))) aH))))
   (aj (aD (pv 2))),?_⟩
  refine⟨_,rfl,m,rfl,by omega,by omega,?_⟩;refine ju (n:=m.toNat) (λi σ H'=>∃t' us x4 x5,σ=[some (.ref a),some (.int at'),some (.ref t'),some (.int m),x4,x5]∧Same H H'∧H' t'=some (.tup (aY us))∧At H' us∧TW.Tree1 (nds us)∧(∀n∈nds us,iA n)∧us.length≤zs.length+i∧∃ms:List Int,ms.length≤i∧∀n∈nds us,n.num∈(nds zs).map (·.num)∨n.num∈ms) ⟨t,zs,none,none,rfl,Same.refl _,tr.tup,tr.nod,tr.tr,hok,le_refl _,[],le_refl _,λn hn=>.inl (mem_map.mpr ⟨n,hn,rfl⟩)⟩ (λi σ H' hi h=>?_) (λσ H' h=>?_)
  ·obtain⟨t',us,x4,x5,rfl,s1,ht',hA',hT',hok',hl',ms,hms,hmem⟩:=h;have hi':(i:Int)<m:=by omega
   have tr':Tre H' t' us:=⟨ht',hA',hT',by omega⟩;refine⟨_,rfl,_,rfl,_,rfl,_,rfl,_,_,rfl,rfl,.inl ⟨by decide,by decide⟩,_,_,rfl,rfl,_,rfl,a,_,t',us,rfl,by omega,hS.same s1,tr',hok',λc dd H3 s3 hc hf=>?_⟩;refine⟨t',c,dd,us,rfl,tr'.same s3,by omega,hc,hf.ok,λws t2 H4 s4 ht2 hA2 told=>?_,λwd H4 s4 told=>?_⟩
   ·refine⟨_,rfl,_,_,_,_,rfl,.tup ht2,(by kernel_rfl:_=some false),_,rfl,aT ⟨_,rfl,t2,ws,_,_,rfl,(s1.trans s3).trans s4,ht2,hA2,told.tree hT' hf.ok.pos,iA.told hok' hf told,?_,dd.key::ms,by rw[length_cons];omega,λn hn=>?_⟩⟩
    ·have:=told.len;rw[cu,cu]at this;omega
    ·by_cases hk:n.num=dd.key
     ·exact .inr (by rw[hk];exact mem_cons_self)
     ·have T2:=told.tree hT' hf.ok.pos;rcases told.others hT' T2 hk with e|⟨_,_,_,hno⟩
      ·rw[TW.gm T2 hn rfl]at e;obtain⟨h1,h2⟩:=TW.pG e.symm;rcases hmem n h1 with q|q
       ·exact .inl q
       ·exact .inr (mem_cons_of_mem _ q)
      ·exact absurd rfl (hno n hn)
   ·exact⟨_,rfl,_,_,_,_,rfl,.str _,(by kernel_rfl:_=some true),_,rfl,aJ ⟨t',us,_,_,rfl,(s1.trans s3).trans s4,s4 _ _ (s3 _ _ ht'),(hA'.same s3).same s4,hT',hok',by omega,ms,by omega,hmem⟩⟩
  ·obtain⟨t',us,x4,x5,rfl,s1,ht',hA',hT',hok',hl',ms,hms,hmem⟩:=h;exact⟨_,rfl,q t' us H' s1 ⟨ht',hA',hT',by omega⟩ hok' (by omega) ⟨ms,by omega,hmem⟩⟩
end
end TK
namespace L2
open PySem PySem.Spec PyProof.Rows
structure LcOkO(X:Cx)(scope:Scope)(cl:List (Str×Addr))(y:Str):Prop where
 kind:scope.kind=.function
 clos:closureFor scope X.env=pure cl
 names:∀x∈scope.names,x.2=.local→scope.names.lookup x.1=some .local
 cf:∀n,cellsFrom n scope.names cl=(y,n)::cl
 cf0:∀n,cellsFrom n scope.names []=[(y,n)]
 cells:∀x c,cl.lookup x=some c→X.env.cells.lookup x=some c
 has:∀x,((relabel scope X.env).names.lookup x=some .cell∨(relabel scope X.env).names.lookup x=some .free)→x=y∨∃c,cl.lookup x=some c
abbrev dI(X:Cx)(N:List Str)(scope:Scope)(cl:List (Str×Addr))(y:Str)(s:Shared)(H:Hp)(ex:List Addr):Cx:={cy X N scope ((y,s.heap.objs.size+1)::cl) s H ex with fn:=λx=>x==y}
theorem lkO{cl:List (Str×Addr)}{y x:Str}{a c:Addr}(h:((y,a)::cl).lookup x=some c):(x=y∧c=a)∨cl.lookup x=some c:=by
 rw[lookup_cons]at h;cases hb:x==y with
 |true=>rw[hb]at h;cases h;exact .inl ⟨beq_iff_eq.mp hb,rfl⟩
 |false=>rw[hb]at h;exact .inr h
theorem rR{M:Model}{A:Around}{E:Value→Shared→Prop}{s:Shared}{scope:Scope}{globals:Addr}{cl:List (Str×Addr)}{qual:Str}{around:Env}{Q:Env→Shared→Prop}(h:Q {scope:=scope,locals:=s.heap.objs.size,globals:=globals,cells:=cellsFrom (s.heap.objs.size+1) scope.names cl,qual:=qual,func:=none,code:=around.code,frame:=around.frame,builtins:=around.builtins} {s with heap:=pushCells (s.heap.push {cls:=.type "dict",data:=.dict #[]}) scope.names}):
  wpAny M A (newFunctionEnv scope globals cl [] qual none .none (some around)) Q E s:=by
 simp only[newFunctionEnv,isSome_some,if_true];refine wpAny_bind (wpAny_alloc ?_);refine wpAny_bind (wpAny_layCells _ (λname kind cells=>by cases hkc:kind==NameKind.cell<;>simp[hkc]) _ _ _ _ ?_);rw[show({s with heap:=s.heap.push {cls:=.type "dict",data:=.dict #[]}}:Shared).heap.objs.size=s.heap.objs.size+1 from size_push ..];simp only[List.forIn_nil];exact wpAny_bind (wpAny_pure (wpAny_pure h))
section
variable{X:Cx}{pins:List (Addr×Obj)}{σ:St}{H:Hp}{s:Shared}{N:List Str}{scope:Scope}{cl:List (Str×Addr)}{fp:List Addr}
theorem rS{y:Str}(I:Inv X pins σ H s)(L:LcOkO X scope cl y)(hf:∀b∈fp,dJ X pins H b)(ho:∀b∈fp,b<s.heap.objs.size):(dI X N scope cl y s H fp).Ok where
 mod:=I.ok.mod
 kind:=L.kind
 glob:=I.ok.glob
 blt:=I.ok.blt
 above:=le_refl _
 inj:=λx z c h1 h2=>by
  have old:∀x c,cl.lookup x=some c→c<s.heap.objs.size:=λx c h=>by
   obtain⟨v,q⟩:=I.cell x c (L.cells x c h);exact q.lt
  rcases lkO h1 with⟨e1,e2⟩|h1<;>rcases lkO h2 with⟨e3,e4⟩|h2
  ·rw[e1,e3]
  ·have:=old z c h2;rw[e2]at this;exact absurd this (Nat.not_lt.mpr (le_succ _))
  ·have:=old x c h1;rw[e4]at this;exact absurd this (Nat.not_lt.mpr (le_succ _))
  ·exact I.ok.inj x z c (L.cells x c h1) (L.cells z c h2)
 has:=λx hx=>by
  rcases L.has x hx with e|⟨c,e⟩
  ·exact⟨_,by subst e;exact List.lookup_cons_self⟩
  ·by_cases h:x=y
   ·exact⟨_,by subst h;exact List.lookup_cons_self⟩
   ·exact⟨c,by show((y,s.heap.objs.size+1)::cl).lookup x=some c;rw[lookup_cons,beq_eq_false_iff_ne.mpr h];exact e⟩
 cab:=λx c h e=>by
  have hx:x=y:=beq_iff_eq.mp h;subst hx;rcases lkO e with⟨_,e⟩|e
  ·rw[e];exact le_succ _
  ·have e':((x,s.heap.objs.size+1)::cl).lookup x=some c:=by assumption
   rw[List.lookup_cons_self]at e';cases e';exact le_succ _
 hd:=I.ok.hd
 frames:=I.ok.frames
 stk:=.inl rfl
 exf:=λb hb=>⟨ne_of_lt (ho b hb),λx c h=>by
  rcases lkO h with⟨_,e⟩|h
  ·rw[e];exact ne_of_gt (lt_succ_of_lt (ho b hb))
  ·exact(hf b hb).2.2.2.2.1 x c (L.cells x c h)⟩
 bs:=I.bs
 bsz:=le_trans I.ok.bsz I.sz
 noex:=λb o e hb=>by
  rcases (hf b hb).2.2.2.1 with z|z
  ·exact I.ok.noex b o e z
  ·exact absurd (lt_of_lt_of_le (lt_size e) (le_trans I.ok.bsz z)) (lt_irrefl _)
 exfs:=λb hb hs=>by
  rcases mem_cons.mp (I.stkSub b hs)with z|z
  ·exact(hf b hb).2.1 z
  ·exact(hf b hb).2.2.1 z
 funs:=I.stack
 frf:=I.stkFree
theorem pQ{y:Str}{h₁:Heap}{tk:Nat}{k:Nat}{js:List Nat}(I:Inv X pins σ H s)(L:LcOkO X scope cl y)(hf:∀b∈fp,dJ X pins H b)(ho:∀b∈fp,b<s.heap.objs.size)(hns:∃m,h₁.Ns s.heap.objs.size m)(hk:∀b o,s.heap.get? b=some o→h₁.get? b=some o)(hoc:h₁.IsCell (s.heap.objs.size+1) none)(hN:N.length=k+js.length)(hy:∀i x,N[k+i]?=some x→x≠y)(hj:∀(i j:Nat) x,js[i]?=some j→N[k+i]?=some x→X.N[j]?=some x∧Vis X.env.scope x∧X.env.scope.names.lookup x≠some .local∧((relabel scope X.env).names.lookup x=some .cell∨(relabel scope X.env).names.lookup x=some .free)):
  Inv (dI X N scope cl y s H fp) [] (cA k js σ) H {s with heap:=h₁,toks:=tk}:=by
 obtain⟨m,hm⟩:=hns;have cellK:∀c v,s.heap.IsCell c v→h₁.IsCell c v:=λc v ⟨o,e,d⟩=>⟨o,hk c o e,d⟩;refine⟨rS I L hf ho,rfl,I.bare,Un.kept hk,⟨m,hm,λi x v e1 e2 e3=>?_⟩,λx c e=>?_,I.hok.fresh (le_refl _),λx c e=>?_,λp hp=>absurd (show p∈([]:List (Addr×Obj))from hp) (by simp),I.hok.kept hk,?_⟩
 ·unfold cA at e2
  by_cases hi:i<k
  ·rw[List.getElem?_append_left (by simpa using hi),List.getElem?_replicate]at e2
   split at e2<;>cases e2
  ·obtain⟨i',rfl⟩:∃i',i=k+i':=⟨i-k,by omega⟩;rw[List.getElem?_append_right (by simp),length_replicate,Nat.add_sub_cancel_left,getElem?_map]at e2;cases ej:js[i']? with
   |none=>rw[ej]at e2;cases e2
   |some j =>
    rw[ej]at e2;have e2':(σ[j]?).getD none=some v:=Option.some.inj e2;obtain⟨h1,h2,h3,h4⟩:=hj i' j x ej e1;have e4:σ[j]?=some (some v):=by
     cases q:σ[j]? with
     |none=>rw[q]at e2';cases e2'
     |some y=>rw[q]at e2';exact congrArg some e2'
    obtain⟨m0,_,hl⟩:=I.loc;obtain⟨u,r,lk⟩:=hl j x v h1 e4 h2;refine⟨u,r,.inr ⟨h4,?_⟩⟩;rcases lk with⟨q,_⟩|⟨_,c,e5,e6⟩
    ·exact absurd q h3
    ·obtain⟨c',e7⟩:=(L.has x h4).resolve_left (hy i' x e1);have:c'=c:=Option.some.inj ((L.cells x c' e7).symm.trans e5);subst this;exact⟨c',by show((y,s.heap.objs.size+1)::cl).lookup x=some c';rw[lookup_cons,beq_eq_false_iff_ne.mpr (hy i' x e1)];exact e7,cellK c' _ e6⟩
 ·rcases lkO e with⟨_,e⟩|e
  ·rw[e];exact⟨_,hoc⟩
  ·obtain⟨v,e1⟩:=I.cell x c (L.cells x c e);exact⟨v,cellK c v e1⟩
 ·rcases lkO e with⟨_,e⟩|e
  ·rw[e];exact I.hok.fresh (le_succ _)
  ·exact I.freeC x c (L.cells x c e)
 ·unfold cA;rw[length_append,length_replicate,length_map];exact hN.symm
theorem tS{y:Str}{H':Hp}{σ':St}{s':Shared}{h':Heap}(I:Inv X pins σ H s)(hf:∀b∈fp,dJ X pins H b)(J:Inv (dI X N scope cl y s H fp) [] σ' H' s')(hs:SameBut s.heap.objs.size s'.heap h'):Inv X pins σ H' {s' with heap:=h'}:=by
 have ne:∀b o,s.heap.get? b=some o→b≠s.heap.objs.size:=λb o e=>ne_of_lt (lt_size e);have u:=J.base;have u':Un (frs X.stack) fp H H' s.heap h' :=
  ⟨λb o e n hb hx=>(hs.2 b (ne b o e)).trans (u.keep b o e n hb hx),λb o e n hb hx=>by
   obtain⟨sl,q⟩:=u.slot b o e n hb hx;exact⟨sl,(hs.2 b (ne b o e)).trans q⟩,u.free,λb o e hx=>by
   obtain⟨o',q⟩:=u.there b o e hx;exact⟨o',(hs.2 b (ne b o e)).trans q⟩,u.tups,u.frzs,u.tbls⟩
 have nt:∀b o,H' b=some o→b≠s.heap.objs.size:=λb o e z=>by
  have:=J.free;rw[show(dI X N scope cl y s H fp).env.locals=s.heap.objs.size from rfl,←z,e]at this;cases this
 refine I.call' (s':={s' with heap:=h'}) J.os u' (λb o e=>?_) J.bare λb hb=>?_
 ·refine(J.hok b o e).stay (λc v hc q=>(hs.2 c ?_).trans q) (λ_ q=>q) λ_ _ q=>q;rcases hc with z|z
  ·rw[z];exact nt b o e
  ·exact nt c _ z
 ·obtain⟨f0,f1,f2,f3,f4,f5⟩:=hf b hb;exact⟨f3,f1,f4,f5⟩
end
section
variable{X:Cx}{N:List Str}{scope:Scope}{cl:List (Str×Addr)}{k:Nat}{js:List Nat}
end
end L2
namespace TK
open PySem L2
theorem mkO{y0:Str}{X:Cx}{scope:Scope}{cl:List (Str×Addr)}(fs:List Str)(hk:scope.kind=.function)(hc:closureFor scope X.env=pure cl)(hn:∀x∈scope.names,x.2=.local→scope.names.lookup x.1=some .local)(hnc:∀x∈scope.names,x.2=.cell→x.1=y0)(hcf:∀n,cellsFrom n scope.names cl=(y0,n)::cl)(hcf0:∀n,cellsFrom n scope.names []=[(y0,n)])(hcl:∀y∈cl,X.env.cells.lookup y.1=some y.2)(hfs:cl.map (·.1)=fs)(hall:scope.names.all (λy=>!(y.2==.free)||fs.contains y.1)=true):LcOkO X scope cl y0:=by
 refine⟨hk,hc,hn,hcf,hcf0,λx c h=>hcl (x,c) (PySem.mem_of_lookup h),λx h=>?_⟩;have hm:∃k,(x,k)∈(relabel scope X.env).names∧(k=.cell∨k=.free):=by
  rcases h with h|h
  ·exact⟨_,PySem.mem_of_lookup h,.inl rfl⟩
  ·exact⟨_,PySem.mem_of_lookup h,.inr rfl⟩
 obtain⟨k,hm,hk'⟩:=hm;unfold relabel at hm;obtain⟨⟨y,k0⟩,hy,e⟩:=mem_map.mp hm
 by_cases hxy:x=y0
 ·exact .inl hxy
 refine .inr ?_;have hfree:x=y∧k0=.free:=by
  cases k0 with
  |free =>
   simp only at e
   split at e
   ·injection e with e1 e2;exact⟨e1.symm,rfl⟩
   ·injection e with e1 e2;exact⟨e1.symm,rfl⟩
  |cell =>
   exfalso
   have h1:=hnc _ hy rfl;simp only at e
   split at e
   ·injection e with e1 e2;exact hxy (e1.symm.trans h1)
   ·injection e with e1 e2;exact hxy (e1.symm.trans h1)
  |_ =>
   exfalso
   have e2:k=_:=(congrArg Prod.snd e).symm;simp at e2;rcases hk' with z|z<;>rw[z]at e2<;>cases e2
 obtain⟨rfl,rfl⟩:=hfree;have:=all_eq_true.mp hall _ hy;have hin:fs.contains x=true:=by simpa using this
 rw[←hfs]at hin;have hmem:x∈cl.map (·.1):=List.contains_iff_mem.mp hin;cases e:cl.lookup x with
 |some c=>exact⟨c,rfl⟩
 |none =>
  exfalso
  obtain⟨y,hy,ey⟩:=mem_map.mp hmem;have:=List.lookup_eq_none_iff.mp e y hy;rw[ey]at this;simp at this
end TK
namespace L2
open PySem PySem.Spec PyProof.Rows
section
variable{X:Cx}{N:List Str}{scope:Scope}{cl:List (Str×Addr)}{k:Nat}{js:List Nat}
theorem tT{y:Str}{elt tg iter c:Expr}{pos:Pos}{wi:TI}{g:TG}{tc:TT}{te:TE}(hc:X.calm=true)(L:LcOkO X scope cl y)(hN:N.length=k+js.length)(hy:∀i x,N[k+i]?=some x→x≠y)(hj:∀(i j:Nat) x,js[i]?=some j→N[k+i]?=some x→X.N[j]?=some x∧Vis X.env.scope x∧X.env.scope.names.lookup x≠some .local∧((relabel scope X.env).names.lookup x=some .cell∨(relabel scope X.env).names.lookup x=some .free))(hi:PI X tg iter wi)(hg:∀s H fp,PG (dI X N scope cl y s H fp) tg g)(ht:∀s H fp,PT (dI X N scope cl y s H fp) c tc)(he:∀s H fp,PE (dI X N scope cl y s H fp) elt te)(hs:∀x,foldedSetIterable iter X.env x=pure x:=by intro _;rfl):PE X (.ListComp elt [⟨tg,iter,[c],0⟩] scope pos) (vh k js wi g tc te):=by
 intro pins s σ H Q I h;rw[eval_ListComp];refine wpAny_comprehension_free (use:=none) rfl hs L.clos L.kind L.names ?_;refine thn (hi pins s σ H _ I h) λv s1 h1=>thn h1 λitv s2 h2=>?_;obtain⟨it,fp,tn,J,H2,e,I2,T,st2,f2,hW⟩:=h2;subst e;have hfp:∀b∈fp,b<s2.heap.objs.size:=λb hb=>by
  obtain⟨o,e,_⟩:=T.obj _ _ st2 b hb;exact lt_size e
 refine wpAny_newObj_type (rR ?_);rw[L.cf];dsimp only;obtain⟨W,⟨m0,w0⟩,turn⟩:=hW s2.heap.objs.size (I2.hok.fresh (le_refl _));have I3:Inv X pins σ (upd H2 s2.heap.objs.size (.lst [])) {s2 with heap:=s2.heap.push {cls:=.type "list",dict:=none,data:=.seq ([]:List Value).toArray}}:=I2.lnew (t':=s2.toks) .nil (zero_le _)
 generalize hA:s2.heap.push {cls:=.type "list",dict:=none,data:=.seq ([]:List Value).toArray}=hpA at I3⊢;have hszA:hpA.objs.size=s2.heap.objs.size+1:=by rw[←hA,size_push]
 have keepA:∀b o,s2.heap.get? b=some o→hpA.get? b=some o:=λb o e=>by rw[←hA];exact get?_push_of_some _ e
 have f3:∀b∈fp,dJ X pins (upd H2 s2.heap.objs.size (.lst [])) b:=λb hb=>⟨by rw[al (ne_of_lt (hfp b hb))];exact(f2 b hb).1,(f2 b hb).2⟩;have hfp3:∀b∈fp,b<hpA.objs.size:=λb hb=>by rw[hszA];exact lt_succ_of_lt (hfp b hb)
 obtain⟨h₁,eh⟩:∃h₁,h₁=pushCells (hpA.push {cls:=.type "dict",data:=.dict #[]}) scope.names:=⟨_,rfl⟩;have hns:h₁.Ns hpA.objs.size (λ_=>none):=by rw[eh];exact(Heap.Ns.new hpA (.type "dict")).keeps (pushCells_keeps _ _)
 have hoc:h₁.IsCell (hpA.objs.size+1) none:=by
  have ok:=cellsFrom_ok scope.names (hpA.push {cls:=.type "dict",data:=.dict #[]}) 0 [] ⟨λ_ _ hm=>(nomatch hm),List.Pairwise.nil⟩ (zero_le _);rw[size_push,L.cf0]at ok;rw[eh];exact(ok.empty y _ mem_cons_self).1
 rw[←eh];have keep1:∀b o,hpA.get? b=some o→h₁.get? b=some o:=λb o e=>by rw[eh];exact pushCells_keeps _ _ _ _ (get?_push_of_some _ e)
 have J0:=pQ (N:=N) (k:=k) (js:=js) (tk:=s2.toks) I3 L f3 hfp3 ⟨_,hns⟩ keep1 hoc hN hy hj;have st1:tn 0 h₁:=T.keep _ _ _ st2 λb hb o e=>keep1 b o (keepA b o e);have stat:∀{H':Hp},(∀b∈fp,H' b=none)→∀b∈fp,dJ (dI X N scope cl y {s2 with heap:=hpA} (upd H2 s2.heap.objs.size (.lst [])) fp) [] H' b:=λhn b hb =>
  ⟨hn b hb,ne_of_lt (hfp3 b hb),(rS (N:=N) I3 L f3 hfp3).exfs b hb,.inl hb,λx c h=>by
   rcases lkO h with⟨_,e⟩|h
   ·rw[e];exact ne_of_gt (lt_succ_of_lt (hfp3 b hb))
   ·exact(f3 b hb).2.2.2.2.1 x c (L.cells x c h),λp hp=>absurd (show p∈([]:List (Addr×Obj))from hp) (by simp)⟩
 have loop:codeAny (model X.prog X.w) X.A (.compLoop (.ListComp elt [⟨tg,iter,[c],0⟩] scope pos) 0 (.ref it) (.ref s2.heap.objs.size) (compEnvC scope ((y,hpA.objs.size+1)::cl) hpA.objs.size X.env))
   (compPost (model X.prog X.w) X.A X.xe none (EP X pins σ Q) (.ref s2.heap.objs.size) hpA.objs.size) {s2 with heap:=h₁,toks:=s2.toks}:=by
  refine iS (λn s'=>∃i ys σ' H',Inv (dI X N scope cl y {s2 with heap:=hpA} (upd H2 s2.heap.objs.size (.lst [])) fp) [] σ' H' s'∧tn i s'.heap∧(∀b∈fp,H' b=none)∧W i n ys σ' H') ?_ m0 ⟨0,[],_,_,J0,st1,λb hb=>(f3 b hb).1,w0⟩
  rintro n s3 ⟨i,ys,σ3,H3,J3,st3,fr3,w3⟩;rcases turn i n ys σ3 H3 w3 with⟨stop,qn⟩|⟨go,hlen,step⟩
  ·refine thn (T.done (dI X N scope cl y {s2 with heap:=hpA} (upd H2 s2.heap.objs.size (.lst [])) fp) rfl rfl rfl hc i [] s3 σ3 H3 (λ_ _=>False) J3 (stat fr3) st3 stop) λr s4 hpt=>?_
   obtain⟨hr,J4⟩:=hpt;subst hr;obtain⟨m,hm,_⟩:=J4.loc;exact⟨m,hm,λh' hs'=>⟨.ref s2.heap.objs.size,H3,tS I3 f3 J4 hs',rfl,qn⟩⟩
  ·refine thn (T.item (dI X N scope cl y {s2 with heap:=hpA} (upd H2 s2.heap.objs.size (.lst [])) fp) rfl rfl rfl hc i [] s3 σ3 H3 (λ_ _=>False) J3 (stat fr3) st3 go) λr s4 hpt=>?_
   obtain⟨u,hr,h4⟩:=hpt;subst hr;refine thn h4 λ_ s5 hpt=>?_;obtain⟨x,H5,J5,r5,y5,st5,fr5⟩:=hpt;have J5':=J5.pinned (stat fr5) (T.obj _ _ st5);refine thn (hg _ _ _ _ s5 σ3 H5 x u _ J5' r5 (step x H5 y5)) λ_ s6 hpt=>?_;obtain⟨σ6,H6,J6,q6⟩:=hpt;refine thn (ht _ _ _ _ s6 σ6 H6 _ J6 q6) λb s6 hpt=>?_;obtain⟨H6,J6,q6⟩:=hpt;cases b with
   |true =>
    rw[if_pos rfl]at q6⊢;refine thn (he _ _ _ _ s6 σ6 H6 _ J6 q6) λy s7 hpt=>?_;obtain⟨vy,H7,J7,r7,q7,m',hm',w7⟩:=hpt;refine thn (bv _ s7 σ6 H7 (.ref s2.heap.objs.size) [vy] _ _ (λ_ H8=>H8=upd H7 s2.heap.objs.size (.lst (ys++[vy]))) J7 rfl (.cons r7 .nil) ⟨_,ys,vy,rfl,rfl,q7,hlen,rfl⟩) λ_ s8 hpt=>?_;obtain⟨_,H8,J8,_,e8⟩:=hpt;subst e8;refine⟨m',hm',i+1,ys++[vy],σ6,_,J8.unpinned,T.keep _ _ _ st5 λb hb o e=>(J8.pin (b,o) (mem_append_right _ (mem_append_right _ (aP hb e)))).1,λb hb=>?_,w7⟩;obtain⟨o,e,d⟩:=T.obj _ _ st5 b hb;exact(J8.pin (b,o) (mem_append_right _ (mem_append_right _ (aP hb e)))).2.1
   |false =>
    rw[if_neg (by simp)]at q6⊢;obtain⟨m',hm',w7⟩:=q6;refine⟨m',hm',i+1,ys,σ6,_,J6.unpinned,T.keep _ _ _ st5 λb hb o e=>(J6.pin (b,o) (mem_append_right _ (mem_append_right _ (aP hb e)))).1,λb hb=>?_,w7⟩;obtain⟨o,e,d⟩:=T.obj _ _ st5 b hb;exact(J6.pin (b,o) (mem_append_right _ (mem_append_right _ (aP hb e)))).2.1
 exact codeAny_compStart_list loop (T.self _ 0 _ _ _ st1 loop)
end
end L2
namespace TK
open PySem L2
def kpN:List Str:=["_law_one","_law_other","_law_old","_law_new","_law_moved","_law_gone"]
theorem rT:FnScope kpN ["_law_one","_law_other"] (ah au):=fsc
abbrev KpX(P:Program)(w:World)(K:PySem.W.Frag)(mg:Str→Option Value)(base:Heap)(f:Addr)(cdv:Value)(A:Around)(outer:List Env)(s:Shared)(H:Hp)(E:XK):Cx:=(gC CX0 P w K mg base kpN "_law_kept_in_place" (ah au) f cdv A outer s H E).nox
def kpS(i:Nat):Stmt:=(bA au).getD i (.Pass ⟨0,0,0,0⟩)
theorem fl2(n:Nd):∀v∈[V.int n.par,.str n.nm],jf v=true:=λv hv=>by
 simp only[mem_cons,not_mem_nil,or_false]at hv;rcases hv with rfl|rfl<;>rfl
open Classical in
theorem rU{t0:List Nd}(T:TW.Tree1 t0){y z:Nd}(hy:y∈t0)(e:y.num=z.num):(!decide (some [V.int y.par,V.str y.nm]=some [V.int z.par,V.str z.nm]))=cP t0 z:=by
 by_cases h:y.par=z.par∧y.nm=z.nm
 ·rw[h.1,h.2,decide_eq_true rfl];refine(decide_eq_false ?_).symm;rintro⟨o,ho,e1,e2⟩;have:=T.inj ho hy (e1.trans e.symm);subst this;exact e2 h
 ·rw[decide_eq_false (λz=>h ?_)]
  ·exact(decide_eq_true ⟨y,hy,e,h⟩).symm
  ·injection z with z
   injection z with z1 z2
   injection z1 with z1
   injection z2 with z2
   injection z2 with z2
   exact⟨z1,z2⟩
section
variable{P:Program}{w:World}{K:PySem.W.Frag}{mg:Str→Option Value}{base:Heap}{f:Addr}{cdv:Value}{A:Around}{outer:List Env}{s:Shared}{H0:Hp}{E:XK}
open Classical in
theorem kp2(hr:Room 1 (A.deeper (PyProof.Rows.envOfC "_law_kept_in_place" (ah au) s.heap.objs.size f cdv))):
  ∃rd,PS (KpX P w K mg base f cdv A outer s H0 E) (kpS 2) rd∧∀(D:Ends)(H:Hp)(t u d e:Addr)(as bs:List (Addr×(Addr×Nd)))(zs us:ZN),SKF H d e as bs zs us →
   (∀l H',Same H H'→H' l=some (.lst ((us.filter λz=>cP (nds zs) z.2).map λz=>V.int z.2.num))→D.nx [some (.ref t),some (.ref u),some (.ref d),some (.ref e),some (.ref l),none] H')→rd D [some (.ref t),some (.ref u),some (.ref d),some (.ref e),none,none] H:=by
 refine⟨_,ap (i:=4) rT.nd rfl (Or.inr rfl) (db (N:=["_law_number","_law_old","_law_new"]) (cl:=[("_law_old",s.heap.objs.size+1),("_law_new",s.heap.objs.size+2)]) (k:=1) (js:=[2,3]) (g:=aZ 0) rfl (LcOk.mk' ["_law_old","_law_new"] rfl rfl (by decide +kernel) (by decide +kernel) ?hcl rfl (by decide +kernel)) rfl ?hj (fQ (pv 3)) (λs H fp=>aE (i:=0) (show(["_law_number","_law_old","_law_new"]:List Str).Nodup by decide +kernel) rfl (Or.inl rfl) (Or.inr rfl))
   (λs H fp=>PW.pt (pw_and (bT (dz (aK hr) (pv 0) (pv 1))) (pw_and1 (am (nk (aK hr)) (bJ (r:=kd K) cI (aU (aK hr) (pv 1) (pv 0) (λ_ _=>rfl)) dh (bt ag)) (bJ (r:=kd K) cI (aU (aK hr) (pv 2) (pv 0) (λ_ _=>rfl)) dh (bt ag)) (aw _))))) (λs H fp=>pv 0)),?_⟩
 case hcl =>
  intro y hy;rcases mem_cons.mp hy with e|hy
  ·rw[e];rfl
  rcases mem_cons.mp hy with e|hy
  ·rw[e];rfl
  ·cases hy
 case hj =>
  intro i j x h1 h2
  match i,h1,h2 with
  |0,h1,h2 =>
   cases h1;cases h2;exact⟨rfl,Or.inr (Or.inl rfl),(show((ah au).names.lookup ("_law_old":Str)≠some NameKind.local)by decide +kernel),by first|exact Or.inl rfl|exact Or.inr rfl⟩
  |1,h1,h2 =>
   cases h1;cases h2;exact⟨rfl,Or.inr (Or.inl rfl),(show((ah au).names.lookup ("_law_new":Str)≠some NameKind.local)by decide +kernel),by first|exact Or.inl rfl|exact Or.inr rfl⟩
  |i+2,h1,h2=>simp at h1
 intro D H t u d e as bs zs us L q;obtain⟨o,ho⟩:=L.fr;have l2:=L.l2;refine⟨_,rfl,e,o,aC bs,rfl,ho,λp hp=>?_⟩;rw[L.keys];refine ci (fr:=[some (.ref d),some (.ref e)]) us (λz=>V.int z.2.num) (by omega) hp (ck ho) rfl (λz=>cP (nds zs) z.2) (λz y _=>y=V.int z.2.num) (λz y H H' h _=>h) (λz H' k mz s1 hpl hk=>?_) (λz H' k mz _ s1 _ hk=>⟨_,rfl,hk _ H' (Same.refl _) rfl⟩) (λys H' s1 hp' hys=>?_)
 ·have L1:=L.same s1
  by_cases ho:TW.ax (nds zs) z.2.num
  ·obtain⟨o1,mo,eo⟩:=ho;obtain⟨y,hy,rfl⟩:=bj mo;obtain⟨r,g1,r1⟩:=L1.b1.get (aI L.t1) hy;rw[eo]at g1;have ea:dU (bz y.2) none (some 2)=[.int y.2.par,.str y.2.nm]:=rfl;have eb:dU (bz z.2) none (some 2)=[.int z.2.par,.str z.2.nm]:=rfl;refine⟨_,rfl,_,rfl,d,_,rfl,g1,_,rfl,aT ?_⟩;refine⟨_,rfl,_,rfl,d,_,rfl,g1,_,rfl,r,_,rfl,SqT.of r1,(λh=>absurd h.2 (show ¬HT.sIx 3 3 (some 2)=3 by decide)),λc1 hc1=>?_⟩;rw[ea];have s2:=af (o:=.tup [.int y.2.par,.str y.2.nm]) hc1;have k1:upd H' c1 (.tup [.int y.2.par,.str y.2.nm]) c1=some (.tup [.int y.2.par,.str y.2.nm]):=ac;generalize upd H' c1 (.tup [.int y.2.par,.str y.2.nm])=H1 at s2 k1⊢;obtain⟨r',g2,r2⟩:=(L1.b2.same s2).get (aI L.t2) mz;refine⟨_,rfl,_,rfl,e,_,rfl,g2,_,rfl,r',_,rfl,SqT.of r2,(λh=>absurd h.2 (show ¬HT.sIx 3 3 (some 2)=3 by decide)),λc2 hc2=>?_⟩;rw[eb];have s3:=s2.trans (af (o:=.tup [.int z.2.par,.str z.2.nm]) hc2);have k2:upd H1 c2 (.tup [.int z.2.par,.str z.2.nm]) c2=some (.tup [.int z.2.par,.str z.2.nm]):=ac;have k1':upd H1 c2 (.tup [.int z.2.par,.str z.2.nm]) c1=some (.tup [.int y.2.par,.str y.2.nm]):=br hc2 k1;generalize upd H1 c2 (.tup [.int z.2.par,.str z.2.nm])=H2 at s3 k2 k1'⊢;refine⟨_,_,.inr ⟨c1,_,rfl,k1',rfl,fl2 y.2⟩,.inr ⟨c2,_,rfl,k2,rfl,fl2 z.2⟩,_,rfl,?_⟩;rw[show(!decide (some [V.int y.2.par,V.str y.2.nm]=some [V.int z.2.par,V.str z.2.nm]))=cP (nds zs) z.2 from rU L.t1 mo eo];exact hk H2 s3
  ·refine⟨_,rfl,_,rfl,d,_,rfl,L1.b1.not λx hx ex=>ho ⟨x.2,aA hx,ex⟩,_,rfl,aJ ?_⟩;rw[show cP (nds zs) z.2=false from decide_eq_false λ⟨x,hx,ex,_⟩=>ho ⟨x,hx,ex⟩]at hk;exact hk H' (Same.refl _)
 ·rw[aQ hys (f:=λz=>V.int z.2.num) λz y _ h=>h]at hp';exact q p H' s1 hp'
end
def kpE:Expr:=match kpS 3 with
 |.Assign _ e _=>e
 |_=>.Constant .none 0 ⟨0,0,0,0⟩
def tU:Scope:=match kpE with
 |.ListComp _ _ sc _=>sc
 |_=>ah au
def wn:Expr:=match kpE with
 |.ListComp _ [⟨_,_,[c],_⟩] _ _=>c
 |_=>.Constant .none 0 ⟨0,0,0,0⟩
def kpO:List Str:=["_law_number","_law_moved","_law_new"]
def xB(K:PySem.W.Frag):V→V→Hp→VK→Prop:=λx y H Q=>∃a b xs,x=.ref a∧y=.ref b∧SqL K H a xs∧SqL K H b []∧Q (.bl (!decide (xs=[]))) H
open Classical in
def gs(zs us:ZN)(n:Nd):Bool:=decide (∃g∈nds us,cP (nds zs) g=true∧TW.Und (nds us) g.num n.num)
section
variable{P:Program}{w:World}{K:PySem.W.Frag}{mg:Str→Option Value}{base:Heap}{f:Addr}{cdv:Value}{A:Around}{outer:List Env}{s:Shared}{H0:Hp}{E:XK}
open Classical in
theorem kpc(hr:Room 1 (A.deeper (PyProof.Rows.envOfC "_law_kept_in_place" (ah au) s.heap.objs.size f cdv)))(CU:Has P w K mg base 1 "_law_under" ["_law_book_here","_law_number","_law_goal"] fT):
  ∃tc:TT,(∀s1 H fp,PT (dI (KpX P w K mg base f cdv A outer s H0 E) kpO tU [("_law_new",s.heap.objs.size+2),("_law_moved",s.heap.objs.size+3)] "_law_number" s1 H fp) wn tc) ∧
   ∀(H:Hp)(e l:Addr)(bs:List (Addr×(Addr×Nd)))(zs us:ZN)(z:Addr×Nd)(kk:Bool→Hp→Prop),Book H e bs us→TW.Tree1 (nds us)→us.length≤60→z∈us→H l=some (.lst ((us.filter λz=>cP (nds zs) z.2).map λz=>V.int z.2.num))→(∀H4,Same H H4→kk (gs zs us z.2) H4)→tc [some (.int z.2.num),some (.ref l),some (.ref e)] H kk:=by
 obtain⟨fU,fdU,GU,mU,kU,bU⟩:=CU;refine⟨_,λs1 H fp=>am (X:=dI (KpX P w K mg base f cdv A outer s H0 E) kpO tU [("_law_new",s.heap.objs.size+2),("_law_moved",s.heap.objs.size+3)] "_law_number" s1 H fp) (r:=xB K) (ji hr.units0) (db (X:=dI (KpX P w K mg base f cdv A outer s H0 E) kpO tU [("_law_new",s.heap.objs.size+2),("_law_moved",s.heap.objs.size+3)] "_law_number" s1 H fp) (wi:=tX K (gv 1)) (N:=["_law_goal","_law_new","_law_number"]) (cl:=[("_law_number",s1.heap.objs.size+1),("_law_new",s.heap.objs.size+2)]) (k:=1) (js:=[2,0]) (g:=aZ 0) rfl
   (LcOk.mk' ["_law_number","_law_new"] rfl rfl (by decide +kernel) (by decide +kernel) ?hcl rfl (by decide +kernel)) rfl ?hj (cH (X:=dI (KpX P w K mg base f cdv A outer s H0 E) kpO tU [("_law_new",s.heap.objs.size+2),("_law_moved",s.heap.objs.size+3)] "_law_number" s1 H fp) (pv 1)) (λs H fp=>aE (i:=0) (show(["_law_goal","_law_new","_law_number"]:List Str).Nodup by decide +kernel) rfl (Or.inl rfl) (Or.inr rfl))
   (λs H fp=>iK (ak (X:=cy _ _ _ _ _ _ _) GU hr rfl mU kU bU .nil aL (aa (pv 1) (aa (pv 2) (aa (pv 0) ai)))) (λ_=>rfl)) (λs H fp=>pv 0)) (bX ai) (aw _),?_⟩
 case hcl =>
  intro y hy;rcases mem_cons.mp hy with e|hy
  ·rw[e];rfl
  rcases mem_cons.mp hy with e|hy
  ·rw[e];rfl
  ·cases hy
 case hj =>
  intro i j x h1 h2
  match i,h1,h2 with
  |0,h1,h2 =>
   cases h1;cases h2;exact⟨rfl,by first|exact Or.inr (Or.inl rfl)|exact Or.inr (Or.inr rfl),(by intro h;cases h),by first|exact Or.inl rfl|exact Or.inr rfl⟩
  |1,h1,h2 =>
   cases h1;cases h2;exact⟨rfl,by first|exact Or.inr (Or.inl rfl)|exact Or.inr (Or.inr rfl),(by intro h;cases h),by first|exact Or.inl rfl|exact Or.inr rfl⟩
  |i+2,h1,h2=>simp at h1
 intro H e l bs zs us z kk B U hl hz hm hk;have hlf:=length_filter_le (λz:Addr×Nd=>cP (nds zs) z.2) us;refine⟨_,rfl,l,rfl,⟨_,SqL.of hm⟩,λp hp=>?_⟩;refine ci (fr:=[some (.ref e),some (.int z.2.num)]) (us.filter λz=>cP (nds zs) z.2) (λz=>V.int z.2.num) (by omega) hp (fo (SqL.of hm)) rfl (λg=>decide (TW.Und (nds us) g.2.num z.2.num)) (λz y _=>y=V.int z.2.num) (λz y H H' h _=>h) (λg H' k mg s1 hpl hk1=>?_) (λg H' k mz _ s1 _ hk1=>⟨_,rfl,hk1 _ H' (Same.refl _) rfl⟩) (λys H' s1 hp' hys=>?_)
 ·obtain⟨pa,hpa⟩:=TW.PathTo.ex U (aA hz);refine⟨_,rfl,_,rfl,_,rfl,e,z.2.num,g.2.num,bs,us,pa,rfl,B.same s1,U,hpa,U.pos g.2 (aA (mem_filter.mp mg).1),λb hb=>?_⟩;have:b=decide (TW.Und (nds us) g.2.num z.2.num):=by
   rw[Bool.eq_iff_iff,hb,decide_eq_true_eq]
  subst this;exact⟨_,rfl,hk1 H' (Same.refl _)⟩
 ·rw[aQ hys (f:=λz=>V.int z.2.num) λz y _ h=>h]at hp';refine⟨aq (by decide),λc hc=>?_⟩;have s2:=af (o:=.lst []) hc;refine⟨p,c,_,rfl,rfl,SqL.of (s2 _ _ hp'),SqL.of ac,_,rfl,?_⟩;have:(!decide ((List.map (λz:Addr×Nd=>V.int z.2.num) (filter (λg=>decide (TW.Und (nds us) g.2.num z.2.num)) (filter (λz=>cP (nds zs) z.2) us)))=[]))=gs zs us z.2:=by
   rw[Bool.eq_iff_iff];simp only[not_eq_true',decide_eq_false_iff_not,map_eq_nil_iff];unfold gs;rw[decide_eq_true_eq];constructor
   ·intro h;obtain⟨g,hg⟩:=List.exists_mem_of_ne_nil _ h;obtain⟨h1,h2⟩:=mem_filter.mp hg;obtain⟨h3,h4⟩:=mem_filter.mp h1;exact⟨g.2,aA h3,h4,of_decide_eq_true h2⟩
   ·rintro⟨g,hg,h1,h2⟩ h;obtain⟨y,hy,rfl⟩:=bj hg;have:y∈filter (λg:Addr×Nd=>decide (TW.Und (nds us) g.2.num z.2.num)) (filter (λz=>cP (nds zs) z.2) us):=mem_filter.mpr ⟨mem_filter.mpr ⟨hy,h1⟩,decide_eq_true h2⟩;rw[h]at this;exact(not_mem_nil this).elim
  rw[this];exact hk _ (s1.trans s2)
theorem lY(g:Nd→Bool)(zs:ZN):nds (zs.filter λz=>g z.2)=(nds zs).filter g:=by
 unfold nds;rw[filter_map];rfl
theorem kp3(hr:Room 1 (A.deeper (PyProof.Rows.envOfC "_law_kept_in_place" (ah au) s.heap.objs.size f cdv)))(CU:Has P w K mg base 1 "_law_under" ["_law_book_here","_law_number","_law_goal"] fT):
  ∃rd,PS (KpX P w K mg base f cdv A outer s H0 E) (kpS 3) rd∧∀(D:Ends)(H:Hp)(t u d e l:Addr)(as bs:List (Addr×(Addr×Nd)))(zs us:ZN),SKF H d e as bs zs us→H l=some (.lst ((us.filter λz=>cP (nds zs) z.2).map λz=>V.int z.2.num)) →
   (∀l' H',Same H H'→H' l'=some (.lst ((us.filter λz=>gs zs us z.2).map λz=>V.int z.2.num))→D.nx [some (.ref t),some (.ref u),some (.ref d),some (.ref e),some (.ref l),some (.ref l')] H')→rd D [some (.ref t),some (.ref u),some (.ref d),some (.ref e),some (.ref l),none] H:=by
 obtain⟨tc,pc,hc⟩:=kpc (outer:=outer) (H0:=H0) (E:=E) hr CU;refine⟨_,ap (i:=5) rT.nd rfl (Or.inr rfl) (tT (y:="_law_number") (N:=kpO) (cl:=[("_law_new",s.heap.objs.size+2),("_law_moved",s.heap.objs.size+3)]) (k:=1) (js:=[4,3]) (g:=aZ 0) (tc:=tc) rfl
   (mkO ["_law_new","_law_moved"] rfl rfl (by decide +kernel) (by decide +kernel) (λ_=>rfl) (λ_=>rfl) ?hcl rfl (by decide +kernel)) rfl ?hy ?hj (fQ (pv 3)) (λs H fp=>aE (i:=0) (show kpO.Nodup by decide +kernel) rfl (Or.inr rfl) (Or.inl rfl)) pc (λs H fp=>pv 0)),?_⟩
 case hcl =>
  intro y hy;rcases mem_cons.mp hy with e|hy
  ·rw[e];rfl
  rcases mem_cons.mp hy with e|hy
  ·rw[e];rfl
  ·cases hy
 case hy =>
  intro i x h
  match i,h with
  |0,h=>cases h;decide
  |1,h=>cases h;decide
  |i+2,h=>exact absurd h (by unfold kpO;rw[show 1+(i+2)=i+3 by omega];simp)
 case hj =>
  intro i j x h1 h2
  match i,h1,h2 with
  |0,h1,h2 =>
   cases h1;cases h2;exact⟨rfl,Or.inr (Or.inl rfl),(show((ah au).names.lookup ("_law_moved":Str)≠some NameKind.local)by decide +kernel),by first|exact Or.inl rfl|exact Or.inr rfl⟩
  |1,h1,h2 =>
   cases h1;cases h2;exact⟨rfl,Or.inr (Or.inl rfl),(show((ah au).names.lookup ("_law_new":Str)≠some NameKind.local)by decide +kernel),by first|exact Or.inl rfl|exact Or.inr rfl⟩
  |i+2,h1,h2=>simp at h1
 intro D H t u d e l as bs zs us L hm q;obtain⟨o,ho⟩:=L.fr;have l2:=L.l2;refine⟨_,rfl,e,o,aC bs,rfl,ho,λp hp=>?_⟩;rw[L.keys];refine ci (fr:=[some (.ref l),some (.ref e)]) us (λz=>V.int z.2.num) (by omega) hp (ck ho) rfl (λz=>gs zs us z.2) (λz y _=>y=V.int z.2.num) (λz y H H' h _=>h) (λz H' k mz s1 hpl hk=>?_) (λz H' k mz _ s1 _ hk=>⟨_,rfl,hk _ H' (Same.refl _) rfl⟩) (λys H' s1 hp' hys=>?_)
 ·exact hc H' e l bs zs us z k (L.same s1).b2 L.t2 (by omega) mz (s1 _ _ hm) hk
 ·rw[aQ hys (f:=λz=>V.int z.2.num) λz y _ h=>h]at hp';exact q p H' s1 hp'
theorem kp4(T:Txt mg)(hr:Room 1 (A.deeper (PyProof.Rows.envOfC "_law_kept_in_place" (ah au) s.heap.objs.size f cdv))):
  ∃rd,PS (KpX P w K mg base f cdv A outer s H0 E) (kpS 4) rd∧∀(D:Ends)(H:Hp)(t u d e l l':Addr)(zs us:ZN),Tre H u us→us.length≤29→H l'=some (.lst ((us.filter λz=>gs zs us z.2).map λz=>V.int z.2.num)) →
   (∀v H',Same H H'→Tre H' v (us.filter λz=>!gs zs us z.2)→D.rt (.ref v) H')→rd D [some (.ref t),some (.ref u),some (.ref d),some (.ref e),some (.ref l),some (.ref l')] H:=by
 refine⟨_,aD (bg bu rfl T.tuple rfl (aa (db (N:=["_law_node","_law_gone"]) (cl:=[("_law_gone",s.heap.objs.size+4)]) (k:=1) (js:=[5]) (g:=aZ 0) rfl
   (LcOk.mk' ["_law_gone"] rfl rfl (by decide +kernel) (by decide +kernel) ?hcl rfl (by decide +kernel)) rfl ?hj (cC (pv 1)) (λs H fp=>aE (i:=0) (show(["_law_node","_law_gone"]:List Str).Nodup by decide +kernel) rfl (Or.inl rfl) (Or.inr rfl))
   (λs H fp=>am (r:=rIn K true) gG (av (r:=cG K) ao (pv 0) ag (λ_ _=>rfl)) (pv 1) rfl) (λs H fp=>pv 0)) ai)),?_⟩
 case hcl =>
  intro y hy;rcases mem_cons.mp hy with e|hy
  ·rw[e];rfl
  ·cases hy
 case hj =>
  intro i j x h1 h2
  match i,h1,h2 with
  |0,h1,h2 =>
   cases h1;cases h2;exact⟨rfl,Or.inr (Or.inl rfl),(show((ah au).names.lookup ("_law_gone":Str)≠some NameKind.local)by decide +kernel),by first|exact Or.inl rfl|exact Or.inr rfl⟩
  |i+1,h1,h2=>simp at h1
 intro D H t u d e l l' zs us U hl hg q;have hg':H l'=some (.lst (((us.filter λz=>gs zs us z.2).map λz=>z.2.num).map V.int)):=by rw[hg,map_map];rfl
 refine⟨_,rfl,u,rfl,⟨_,SqT.of U.tup⟩,λp hp=>?_⟩;refine ci (fr:=[some (.ref l')]) us (λz=>V.ref z.1) (by omega) hp (dQ (by rw[bS];exact SqT.of U.tup)) rfl (λz=>!gs zs us z.2) (λz y _=>y=.ref z.1) (λz y H H' h _=>h) (λz H' k mz s1 _ hk=>?_) (λz H' k mz _ s1 _ hk=>⟨_,rfl,hk _ H' (Same.refl _) rfl⟩) (λys H' s1 hp' hys=>?_)
 ·refine⟨_,rfl,z.1,_,_,_,rfl,rfl,SqT.of (s1 _ _ (U.nod z mz)),at0 z.2,_,rfl,l',_,rfl,.inl (SqL.of (s1 _ _ hg')),rfl,ic _,_,rfl,?_⟩;rw[show(if true=true then !inV (.int z.2.num) (((us.filter λz=>gs zs us z.2).map λz=>z.2.num).map V.int)else inV (.int z.2.num) (((us.filter λz=>gs zs us z.2).map λz=>z.2.num).map V.int)) = !gs zs us z.2 by
   rw[if_pos rfl,ko]
   congr 1
   rw[Bool.eq_iff_iff,decide_eq_true_eq];constructor
   ·intro h;obtain⟨y,hy,e⟩:=mem_map.mp h;obtain⟨h1,h2⟩:=mem_filter.mp hy;have:y.2=z.2:=U.tr.inj (aA h1) (aA mz) e;rw[←this];exact h2
   ·intro h;exact mem_map.mpr ⟨z,mem_filter.mpr ⟨mz,h⟩,rfl⟩]
  exact hk H' (Same.refl _)
 ·have ey:=aQ (f:=λz:Addr×Nd=>V.ref z.1) hys (λz y _ h=>h);refine⟨p,_,rfl,.inl ⟨SqL.of hp',λv hv=>?_⟩⟩;have s2:=s1.trans (af (o:=.tup ys) hv);have hle:=length_filter_le (λz:Addr×Nd=>!gs zs us z.2) us;refine q v _ s2 ⟨by rw[ac,ey,bS],λy hy=>s2 _ _ (U.nod y (mem_filter.mp hy).1),?_,by omega⟩;rw[lY (λm=>!gs zs us m)];refine pL U.tr λn hn h m hm e=>?_;rw[not_eq_true']at h⊢;unfold gs at h⊢;rw[decide_eq_false_iff_not]at h⊢;rintro⟨g,hg,h1,h2⟩;exact h ⟨g,hg,h1,.up hn (by rw[←e];exact h2)⟩
end
section
variable{P:Program}{w:World}{K:PySem.W.Frag}{mg:Str→Option Value}{base:Heap}
def oO:Sp:=λvs H Q _=>∃t u zs us,vs=[.ref t,.ref u]∧Tre H t zs∧Tre H u us∧zs.length≤29∧us.length≤29 ∧
 ∀v ws H',Same H H'→Tre H' v ws→(∀n∈nds ws,n∈nds us)→ws.length≤us.length→Q (.ref v) H'
theorem wo{f:Addr}{fd:FuncData}(F:Fun K "_law_kept_in_place" "_law_kept_in_place" au f fd)(T:Txt mg)(CB:Has P w K mg base 1 "_law_book" ["_law_tree_here"] fm)(CU:Has P w K mg base 1 "_law_under" ["_law_book_here","_law_number","_law_goal"] fT):FnOk P w K mg base CX0 2 f fd ["_law_one","_law_other"] oO:=by
 obtain⟨fK,fdK,GK,mK,kK,bK⟩:=CB;refine F.ok rT (λvs H Q E h=>?_) (λcdv A outer s H vs Q E hr h=>?_)
 ·obtain⟨t,u,zs,us,rfl,_⟩:=h;rfl
 ·obtain⟨t,u,zs,us,rfl,tr,ur,l1,l2,q⟩:=h;obtain⟨r2,p2,h2⟩:=kp2 (P:=P) (w:=w) (K:=K) (mg:=mg) (base:=base) (outer:=outer) (H0:=H) (E:=E) hr;obtain⟨r3,p3,h3⟩:=kp3 (outer:=outer) (H0:=H) (E:=E) hr CU;obtain⟨r4,p4,h4⟩:=kp4 (P:=P) (w:=w) (K:=K) (base:=base) (outer:=outer) (H0:=H) (E:=E) T hr;refine⟨_,ae (ap (i:=2) rT.nd rfl (Or.inr rfl) (ak GK hr rfl mK kK bK .nil aL (aa (pv 0) ai)))
   (ae (ap (i:=3) rT.nd rfl (Or.inr rfl) (ak GK hr rfl mK kK bK .nil aL (aa (pv 1) ai)))
   (ae (fA p2) (ae p3 (aj p4)))),?_⟩
  refine⟨_,rfl,t,zs,rfl,tr,λd as H1 s1 hd0 b1 hd=>?_⟩;refine⟨_,rfl,u,us,rfl,ur.same s1,λe bs H2 s2 he0 b2 he=>?_⟩;refine⟨e,_,he,λo=>?_⟩;have s12:Same H1 (upd H2 e (.frz o (.dK (aC bs)))):=aO he0 s2;have s02:Same H (upd H2 e (.frz o (.dK (aC bs)))):=s1.trans s12;have b2':Book (upd H2 e (.frz o (.dK (aC bs)))) e bs us:=⟨.inr ⟨o,ac⟩,b2.of,λx hx=>by
   have:=b2.at' x hx;rw[al λz=>by rw[z,he]at this;cases this];exact this⟩
  have L:SKF (upd H2 e (.frz o (.dK (aC bs)))) d e as bs zs us:=⟨b1.same s12,b2',⟨o,ac⟩,tr.tr,ur.tr,l1,l2⟩;generalize upd H2 e (.frz o (.dK (aC bs)))=H3 at L s02⊢;refine h2 _ H3 t u d e as bs zs us L λl H4 s4 hl=>?_;refine h3 _ H4 t u d e l as bs zs us (L.same s4) hl λl' H5 s5 hl'=>?_;refine h4 _ H5 t u d e l l' zs us (((ur.same s02).same s4).same s5) l2 hl' λv H6 s6 V6=>?_;refine q v _ H6 (((s02.trans s4).trans s5).trans s6) V6 (λn hn=>?_) (length_filter_le _ _);obtain⟨y,hy,rfl⟩:=bj hn;exact aA (mem_filter.mp hy).1
end
def laN:List Str:=["_law_script","_law_one","_law_other","_law_old","_law_new","_law_moved","_law_deeds","_law_made","_law_both","_law_late","_law_tops","_law_many"]
theorem im:FnScope laN ["_law_script"] (ah cN):=fsc
abbrev LaX(P:Program)(w:World)(K:PySem.W.Frag)(mg:Str→Option Value)(base:Heap)(f:Addr)(cdv:Value)(A:Around)(outer:List Env)(s:Shared)(H:Hp)(E:XK):Cx:=(gC CX0 P w K mg base laN "law" (ah cN) f cdv A outer s H E).nox
def laS(i:Nat):Stmt:=(bA cN).getD i (.Pass ⟨0,0,0,0⟩)
theorem wV{H:Hp}{d:Addr}{as:List (Addr×(Addr×Nd))}{zs:ZN}(b:Book H d as zs):((aC as).map λp=>kV p.1)=zs.map λz=>V.int z.2.num:=by
 rw[←b.of];unfold aC;simp only[map_map];rfl
section
variable{P:Program}{w:World}{K:PySem.W.Frag}{mg:Str→Option Value}{base:Heap}{f:Addr}{cdv:Value}{A:Around}{outer:List Env}{s:Shared}{H0:Hp}{E:XK}
open Classical in
theorem la5(hr:Room 7 (A.deeper (PyProof.Rows.envOfC "law" (ah cN) s.heap.objs.size f cdv))):
  ∃rd,PS (LaX P w K mg base f cdv A outer s H0 E) (laS 5) rd∧∀(D:Ends)(H:Hp)(x0 x1 x2 x5 x6 x7 x8 x9 x10 x11:Option V)(d e:Addr)(as bs:List (Addr×(Addr×Nd)))(zs us:ZN),SKF H d e as bs zs us →
   (∀l H',Same H H'→H' l=some (.lst ((us.filter λz=>cP (nds zs) z.2).map λz=>V.int z.2.num))→D.nx [x0,x1,x2,some (.ref d),some (.ref e),some (.ref l),x6,x7,x8,x9,x10,x11] H')→rd D [x0,x1,x2,some (.ref d),some (.ref e),x5,x6,x7,x8,x9,x10,x11] H:=by
 refine⟨_,dm (ii:=5) (N:=["_law_number","_law_old","_law_new"]) (cl:=[("_law_old",s.heap.objs.size+1),("_law_new",s.heap.objs.size+2)]) (k:=1) (js:=[3,4]) (g:=aZ 0) im.nd rfl (Or.inl rfl) rfl (LcOk.mk' ["_law_old","_law_new"] rfl rfl (by decide +kernel) (by decide +kernel) ?hcl rfl (by decide +kernel)) rfl ?hj (fQ (pv 4)) (λs H fp=>aE (i:=0) (show(["_law_number","_law_old","_law_new"]:List Str).Nodup by decide +kernel) rfl (Or.inl rfl) (Or.inr rfl))
   (λs H fp=>PW.pt (pw_and (bT (dz (aK hr) (pv 0) (pv 1))) (pw_and1 (am (nk (aK hr)) (bJ (r:=kd K) cI (aU (aK hr) (pv 1) (pv 0) (λ_ _=>rfl)) dh (bt ag)) (bJ (r:=kd K) cI (aU (aK hr) (pv 2) (pv 0) (λ_ _=>rfl)) dh (bt ag)) (aw _))))) (λs H fp=>pv 0),?_⟩
 case hcl =>
  intro y hy;rcases mem_cons.mp hy with e|hy
  ·rw[e];rfl
  rcases mem_cons.mp hy with e|hy
  ·rw[e];rfl
  ·cases hy
 case hj =>
  intro i j x h1 h2
  match i,h1,h2 with
  |0,h1,h2 =>
   cases h1;cases h2;exact⟨rfl,Or.inr (Or.inl rfl),(show((ah cN).names.lookup ("_law_old":Str)≠some NameKind.local)by decide +kernel),by first|exact Or.inl rfl|exact Or.inr rfl⟩
  |1,h1,h2 =>
   cases h1;cases h2;exact⟨rfl,Or.inr (Or.inl rfl),(show((ah cN).names.lookup ("_law_new":Str)≠some NameKind.local)by decide +kernel),by first|exact Or.inl rfl|exact Or.inr rfl⟩
  |i+2,h1,h2=>simp at h1
 intro D H x0 x1 x2 x5 x6 x7 x8 x9 x10 x11 d e as bs zs us L q;obtain⟨o,ho⟩:=L.fr;have l2:=L.l2;refine⟨_,rfl,e,o,aC bs,rfl,ho,λp hp=>?_⟩;rw[L.keys];refine ci (fr:=[some (.ref d),some (.ref e)]) us (λz=>V.int z.2.num) (by omega) hp (ck ho) rfl (λz=>cP (nds zs) z.2) (λz y _=>y=V.int z.2.num) (λz y H H' h _=>h) (λz H' k mz s1 hpl hk=>?_) (λz H' k mz _ s1 _ hk=>⟨_,rfl,hk _ H' (Same.refl _) rfl⟩) (λys H' s1 hp' hys=>?_)
 ·have L1:=L.same s1
  by_cases ho:TW.ax (nds zs) z.2.num
  ·obtain⟨o1,mo,eo⟩:=ho;obtain⟨y,hy,rfl⟩:=bj mo;obtain⟨r,g1,r1⟩:=L1.b1.get (aI L.t1) hy;rw[eo]at g1;have ea:dU (bz y.2) none (some 2)=[.int y.2.par,.str y.2.nm]:=rfl;have eb:dU (bz z.2) none (some 2)=[.int z.2.par,.str z.2.nm]:=rfl;refine⟨_,rfl,_,rfl,d,_,rfl,g1,_,rfl,aT ?_⟩;refine⟨_,rfl,_,rfl,d,_,rfl,g1,_,rfl,r,_,rfl,SqT.of r1,(λh=>absurd h.2 (show ¬HT.sIx 3 3 (some 2)=3 by decide)),λc1 hc1=>?_⟩;rw[ea];have s2:=af (o:=.tup [.int y.2.par,.str y.2.nm]) hc1;have k1:upd H' c1 (.tup [.int y.2.par,.str y.2.nm]) c1=some (.tup [.int y.2.par,.str y.2.nm]):=ac;generalize upd H' c1 (.tup [.int y.2.par,.str y.2.nm])=H1 at s2 k1⊢;obtain⟨r',g2,r2⟩:=(L1.b2.same s2).get (aI L.t2) mz;refine⟨_,rfl,_,rfl,e,_,rfl,g2,_,rfl,r',_,rfl,SqT.of r2,(λh=>absurd h.2 (show ¬HT.sIx 3 3 (some 2)=3 by decide)),λc2 hc2=>?_⟩;rw[eb];have s3:=s2.trans (af (o:=.tup [.int z.2.par,.str z.2.nm]) hc2);have k2:upd H1 c2 (.tup [.int z.2.par,.str z.2.nm]) c2=some (.tup [.int z.2.par,.str z.2.nm]):=ac;have k1':upd H1 c2 (.tup [.int z.2.par,.str z.2.nm]) c1=some (.tup [.int y.2.par,.str y.2.nm]):=br hc2 k1;generalize upd H1 c2 (.tup [.int z.2.par,.str z.2.nm])=H2 at s3 k2 k1'⊢;refine⟨_,_,.inr ⟨c1,_,rfl,k1',rfl,fl2 y.2⟩,.inr ⟨c2,_,rfl,k2,rfl,fl2 z.2⟩,_,rfl,?_⟩;rw[show(!decide (some [V.int y.2.par,V.str y.2.nm]=some [V.int z.2.par,V.str z.2.nm]))=cP (nds zs) z.2 from rU L.t1 mo eo];exact hk H2 s3
  ·refine⟨_,rfl,_,rfl,d,_,rfl,L1.b1.not λx hx ex=>ho ⟨x.2,aA hx,ex⟩,_,rfl,aJ ?_⟩;rw[show cP (nds zs) z.2=false from decide_eq_false λ⟨x,hx,ex,_⟩=>ho ⟨x,hx,ex⟩]at hk;exact hk H' (Same.refl _)
 ·rw[aQ hys (f:=λz=>V.int z.2.num) λz y _ h=>h]at hp';exact q p H' s1 hp'
open Classical in
theorem la8(hr:Room 7 (A.deeper (PyProof.Rows.envOfC "law" (ah cN) s.heap.objs.size f cdv))):
  ∃rd,PS (LaX P w K mg base f cdv A outer s H0 E) (laS 8) rd∧∀(D:Ends)(H:Hp)(x0 x1 x2 x5 x6 x7 x8 x9 x10 x11:Option V)(d e:Addr)(as bs:List (Addr×(Addr×Nd)))(zs us:ZN),SKF H d e as bs zs us →
   (∀l H',Same H H'→H' l=some (.lst ((us.filter λz=>ce (nds zs) z.2).map λz=>V.int z.2.num))→D.nx [x0,x1,x2,some (.ref d),some (.ref e),x5,x6,some (.ref l),x8,x9,x10,x11] H')→rd D [x0,x1,x2,some (.ref d),some (.ref e),x5,x6,x7,x8,x9,x10,x11] H:=by
 refine⟨_,dm (ii:=7) (N:=["_law_number","_law_old"]) (cl:=[("_law_old",s.heap.objs.size+1)]) (k:=1) (js:=[3]) (g:=aZ 0) im.nd rfl (Or.inl rfl) rfl (LcOk.mk' ["_law_old"] rfl rfl (by decide +kernel) (by decide +kernel) ?hcl rfl (by decide +kernel)) rfl ?hj (fQ (pv 4)) (λs H fp=>aE (i:=0) (show(["_law_number","_law_old"]:List Str).Nodup by decide +kernel) rfl (Or.inl rfl) (Or.inr rfl))
   (λs H fp=>bT (cn (aK hr) (pv 0) (pv 1))) (λs H fp=>pv 0),?_⟩
 case hcl =>
  intro y hy;rcases mem_cons.mp hy with e|hy
  ·rw[e];rfl
  ·cases hy
 case hj =>
  intro i j x h1 h2
  match i,h1,h2 with
  |0,h1,h2 =>
   cases h1;cases h2;exact⟨rfl,Or.inr (Or.inl rfl),(show((ah cN).names.lookup ("_law_old":Str)≠some NameKind.local)by decide +kernel),by first|exact Or.inl rfl|exact Or.inr rfl⟩
  |i+1,h1,h2=>simp at h1
 intro D H x0 x1 x2 x5 x6 x7 x8 x9 x10 x11 d e as bs zs us L q;obtain⟨o,ho⟩:=L.fr;have l2:=L.l2;refine⟨_,rfl,e,o,aC bs,rfl,ho,λp hp=>?_⟩;rw[L.keys];refine ci (fr:=[some (.ref d)]) us (λz=>V.int z.2.num) (by omega) hp (ck ho) rfl (λz=>ce (nds zs) z.2) (λz y _=>y=V.int z.2.num) (λz y H H' h _=>h) (λz H' k mz s1 hpl hk=>?_) (λz H' k mz _ s1 _ hk=>⟨_,rfl,hk _ H' (Same.refl _) rfl⟩) (λys H' s1 hp' hys=>?_)
 ·have L1:=L.same s1
  by_cases ho:TW.ax (nds zs) z.2.num
  ·obtain⟨o1,mo,eo⟩:=ho;obtain⟨y,hy,rfl⟩:=bj mo;obtain⟨r,g1,r1⟩:=L1.b1.get (aI L.t1) hy;rw[eo]at g1;have e0:ce (nds zs) z.2=false:=decide_eq_false λh=>h ⟨y.2,mo,eo⟩;rw[e0]at hk;exact⟨_,rfl,_,rfl,d,_,rfl,g1,_,rfl,hk H' (Same.refl _)⟩
  ·have e0:ce (nds zs) z.2=true:=decide_eq_true ho;rw[e0]at hk;exact⟨_,rfl,_,rfl,d,_,rfl,L1.b1.not λx hx ex=>ho ⟨x.2,aA hx,ex⟩,_,rfl,hk H' (Same.refl _)⟩
 ·rw[aQ hys (f:=λz=>V.int z.2.num) λz y _ h=>h]at hp';exact q p H' s1 hp'
open Classical in
theorem la9(hr:Room 7 (A.deeper (PyProof.Rows.envOfC "law" (ah cN) s.heap.objs.size f cdv))):
  ∃rd,PS (LaX P w K mg base f cdv A outer s H0 E) (laS 9) rd∧∀(D:Ends)(H:Hp)(x0 x1 x2 x5 x6 x7 x8 x9 x10 x11:Option V)(d e:Addr)(as bs:List (Addr×(Addr×Nd)))(zs us:ZN),SKF H d e as bs zs us →
   (∀l H',Same H H'→H' l=some (.lst ((us.filter λz=>!ce (nds zs) z.2).map λz=>V.int z.2.num))→D.nx [x0,x1,x2,some (.ref d),some (.ref e),x5,x6,x7,some (.ref l),x9,x10,x11] H')→rd D [x0,x1,x2,some (.ref d),some (.ref e),x5,x6,x7,x8,x9,x10,x11] H:=by
 refine⟨_,dm (ii:=8) (N:=["_law_number","_law_old"]) (cl:=[("_law_old",s.heap.objs.size+1)]) (k:=1) (js:=[3]) (g:=aZ 0) im.nd rfl (Or.inl rfl) rfl (LcOk.mk' ["_law_old"] rfl rfl (by decide +kernel) (by decide +kernel) ?hcl rfl (by decide +kernel)) rfl ?hj (fQ (pv 4)) (λs H fp=>aE (i:=0) (show(["_law_number","_law_old"]:List Str).Nodup by decide +kernel) rfl (Or.inl rfl) (Or.inr rfl))
   (λs H fp=>bT (dz (aK hr) (pv 0) (pv 1))) (λs H fp=>pv 0),?_⟩
 case hcl =>
  intro y hy;rcases mem_cons.mp hy with e|hy
  ·rw[e];rfl
  ·cases hy
 case hj =>
  intro i j x h1 h2
  match i,h1,h2 with
  |0,h1,h2 =>
   cases h1;cases h2;exact⟨rfl,Or.inr (Or.inl rfl),(show((ah cN).names.lookup ("_law_old":Str)≠some NameKind.local)by decide +kernel),by first|exact Or.inl rfl|exact Or.inr rfl⟩
  |i+1,h1,h2=>simp at h1
 intro D H x0 x1 x2 x5 x6 x7 x8 x9 x10 x11 d e as bs zs us L q;obtain⟨o,ho⟩:=L.fr;have l2:=L.l2;refine⟨_,rfl,e,o,aC bs,rfl,ho,λp hp=>?_⟩;rw[L.keys];refine ci (fr:=[some (.ref d)]) us (λz=>V.int z.2.num) (by omega) hp (ck ho) rfl (λz=>!ce (nds zs) z.2) (λz y _=>y=V.int z.2.num) (λz y H H' h _=>h) (λz H' k mz s1 hpl hk=>?_) (λz H' k mz _ s1 _ hk=>⟨_,rfl,hk _ H' (Same.refl _) rfl⟩) (λys H' s1 hp' hys=>?_)
 ·have L1:=L.same s1
  by_cases ho:TW.ax (nds zs) z.2.num
  ·obtain⟨o1,mo,eo⟩:=ho;obtain⟨y,hy,rfl⟩:=bj mo;obtain⟨r,g1,r1⟩:=L1.b1.get (aI L.t1) hy;rw[eo]at g1;have e0:ce (nds zs) z.2=false:=decide_eq_false λh=>h ⟨y.2,mo,eo⟩;rw[e0]at hk;exact⟨_,rfl,_,rfl,d,_,rfl,g1,_,rfl,hk H' (Same.refl _)⟩
  ·have e0:ce (nds zs) z.2=true:=decide_eq_true ho;rw[e0]at hk;exact⟨_,rfl,_,rfl,d,_,rfl,L1.b1.not λx hx ex=>ho ⟨x.2,aA hx,ex⟩,_,rfl,hk H' (Same.refl _)⟩
 ·rw[aQ hys (f:=λz=>V.int z.2.num) λz y _ h=>h]at hp';exact q p H' s1 hp'
open Classical in
theorem xC(hr:Room 7 (A.deeper (PyProof.Rows.envOfC "law" (ah cN) s.heap.objs.size f cdv))):
  ∃rd,PS (LaX P w K mg base f cdv A outer s H0 E) (laS 10) rd∧∀(D:Ends)(H:Hp)(x0 x1 x2 x5 x6 x7 x9 x10 x11:Option V)(d e:Addr)(as bs:List (Addr×(Addr×Nd)))(zs us:ZN)(b:Addr),SKF H d e as bs zs us→H b=some (.lst ((us.filter λz=>!ce (nds zs) z.2).map λz=>V.int z.2.num)) →
   (∀l H',Same H H'→H' l=some (.lst (((us.filter λz=>!ce (nds zs) z.2).filter λz=>cQ (nds zs) z.2).map λz=>V.int z.2.num))→D.nx [x0,x1,x2,some (.ref d),some (.ref e),x5,x6,x7,some (.ref b),some (.ref l),x10,x11] H')→rd D [x0,x1,x2,some (.ref d),some (.ref e),x5,x6,x7,some (.ref b),x9,x10,x11] H:=by
 refine⟨_,dm (ii:=9) (N:=["_law_number","_law_old","_law_new"]) (cl:=[("_law_old",s.heap.objs.size+1),("_law_new",s.heap.objs.size+2)]) (k:=1) (js:=[3,4]) (g:=aZ 0) im.nd rfl (Or.inl rfl) rfl (LcOk.mk' ["_law_old","_law_new"] rfl rfl (by decide +kernel) (by decide +kernel) ?hcl rfl (by decide +kernel)) rfl ?hj (cH (pv 8)) (λs H fp=>aE (i:=0) (show(["_law_number","_law_old","_law_new"]:List Str).Nodup by decide +kernel) rfl (Or.inl rfl) (Or.inr rfl))
   (λs H fp=>am dy (av (r:=cG K) ao (aU (aK hr) (pv 1) (pv 0) (λ_ _=>rfl)) ag (λ_ _=>rfl)) (av (r:=cG K) ao (aU (aK hr) (pv 2) (pv 0) (λ_ _=>rfl)) ag (λ_ _=>rfl)) (aw _)) (λs H fp=>pv 0),?_⟩
 case hcl =>
  intro y hy;rcases mem_cons.mp hy with e|hy
  ·rw[e];rfl
  rcases mem_cons.mp hy with e|hy
  ·rw[e];rfl
  ·cases hy
 case hj =>
  intro i j x h1 h2
  match i,h1,h2 with
  |0,h1,h2 =>
   cases h1;cases h2;exact⟨rfl,Or.inr (Or.inl rfl),(show((ah cN).names.lookup ("_law_old":Str)≠some NameKind.local)by decide +kernel),by first|exact Or.inl rfl|exact Or.inr rfl⟩
  |1,h1,h2 =>
   cases h1;cases h2;exact⟨rfl,Or.inr (Or.inl rfl),(show((ah cN).names.lookup ("_law_new":Str)≠some NameKind.local)by decide +kernel),by first|exact Or.inl rfl|exact Or.inr rfl⟩
  |i+2,h1,h2=>simp at h1
 intro D H x0 x1 x2 x5 x6 x7 x9 x10 x11 d e as bs zs us b L hb q;have l2:=L.l2;have hle:=length_filter_le (λz:Addr×Nd=>!ce (nds zs) z.2) us;refine⟨_,rfl,b,rfl,⟨_,SqL.of hb⟩,λp hp=>?_⟩;refine ci (fr:=[some (.ref d),some (.ref e)]) (us.filter λz=>!ce (nds zs) z.2) (λz=>V.int z.2.num) (by omega) hp (fo (SqL.of hb)) rfl (λz=>cQ (nds zs) z.2) (λz y _=>y=V.int z.2.num) (λz y H H' h _=>h) (λz H' k mz s1 hpl hk=>?_) (λz H' k mz _ s1 _ hk=>⟨_,rfl,hk _ H' (Same.refl _) rfl⟩) (λys H' s1 hp' hys=>?_)
 ·have L1:=L.same s1;obtain⟨mu,nm⟩:=mem_filter.mp mz;obtain⟨o1,mo,eo⟩:TW.ax (nds zs) z.2.num:=Classical.byContradiction λh=>by
   rw[show ce (nds zs) z.2=true from decide_eq_true h]at nm;cases nm
  obtain⟨y,hy,rfl⟩:=bj mo;obtain⟨r,g1,r1⟩:=L1.b1.get (aI L.t1) hy;obtain⟨r',g2,r2⟩:=L1.b2.get (aI L.t2) mu;rw[eo]at g1;refine⟨_,rfl,_,rfl,d,_,rfl,g1,r,_,_,_,rfl,rfl,SqT.of r1,mY _,_,rfl,_,rfl,e,_,rfl,g2,r',_,_,_,rfl,rfl,SqT.of r2,mY _,?_,_,rfl,?_⟩
  ·cases y.2.st<;>cases z.2.st<;>rfl
  ·rw[rb];have e0:(!decide (y.2.st=z.2.st))=cQ (nds zs) z.2:=by
    by_cases es:y.2.st=z.2.st
    ·rw[decide_eq_true es];refine(decide_eq_false ?_).symm;rintro⟨x,hx,e1,e2⟩;have:=L.t1.inj hx mo (e1.trans eo.symm);subst this;exact e2 es
    ·rw[decide_eq_false es];exact(decide_eq_true ⟨y.2,mo,eo,es⟩).symm
   rw[e0];exact hk H' (Same.refl _)
 ·rw[aQ hys (f:=λz=>V.int z.2.num) λz y _ h=>h]at hp';exact q p H' s1 hp'
open Classical in
theorem xE(hr:Room 7 (A.deeper (PyProof.Rows.envOfC "law" (ah cN) s.heap.objs.size f cdv))):
  ∃rd,PS (LaX P w K mg base f cdv A outer s H0 E) (laS 11) rd∧∀(D:Ends)(H:Hp)(x0 x1 x2 x5 x6 x7 x8 x9 x10 x11:Option V)(d e:Addr)(as bs:List (Addr×(Addr×Nd)))(zs us:ZN),SKF H d e as bs zs us→(∃o,H d=some (.frz o (.dK (aC as)))) →
   (∀l H',Same H H'→H' l=some (.lst ((zs.filter λz=>eO (nds us) z.2).map λz=>V.int z.2.num))→D.nx [x0,x1,x2,some (.ref d),some (.ref e),x5,x6,x7,x8,x9,some (.ref l),x11] H')→rd D [x0,x1,x2,some (.ref d),some (.ref e),x5,x6,x7,x8,x9,x10,x11] H:=by
 refine⟨_,dm (ii:=10) (N:=["_law_number","_law_old","_law_new"]) (cl:=[("_law_old",s.heap.objs.size+1),("_law_new",s.heap.objs.size+2)]) (k:=1) (js:=[3,4]) (g:=aZ 0) im.nd rfl (Or.inl rfl) rfl (LcOk.mk' ["_law_old","_law_new"] rfl rfl (by decide +kernel) (by decide +kernel) ?hcl rfl (by decide +kernel)) rfl ?hj (fQ (pv 3)) (λs H fp=>aE (i:=0) (show(["_law_number","_law_old","_law_new"]:List Str).Nodup by decide +kernel) rfl (Or.inl rfl) (Or.inr rfl))
   (λs H fp=>PW.pt (pw_and (bT (cn (aK hr) (pv 0) (pv 2))) (pw_and1 (PW.pt (pw_or (am cx (av (r:=cG K) ao (aU (aK hr) (pv 1) (pv 0) (λ_ _=>rfl)) ag (λ_ _=>rfl)) ag (aw _)) (pw_or1 (bT (dz (aK hr) (av (r:=cG K) ao (aU (aK hr) (pv 1) (pv 0) (λ_ _=>rfl)) ag (λ_ _=>rfl)) (pv 2))))))))) (λs H fp=>pv 0),?_⟩
 case hcl =>
  intro y hy;rcases mem_cons.mp hy with e|hy
  ·rw[e];rfl
  rcases mem_cons.mp hy with e|hy
  ·rw[e];rfl
  ·cases hy
 case hj =>
  intro i j x h1 h2
  match i,h1,h2 with
  |0,h1,h2 =>
   cases h1;cases h2;exact⟨rfl,Or.inr (Or.inl rfl),(show((ah cN).names.lookup ("_law_old":Str)≠some NameKind.local)by decide +kernel),by first|exact Or.inl rfl|exact Or.inr rfl⟩
  |1,h1,h2 =>
   cases h1;cases h2;exact⟨rfl,Or.inr (Or.inl rfl),(show((ah cN).names.lookup ("_law_new":Str)≠some NameKind.local)by decide +kernel),by first|exact Or.inl rfl|exact Or.inr rfl⟩
  |i+2,h1,h2=>simp at h1
 intro D H x0 x1 x2 x5 x6 x7 x8 x9 x10 x11 d e as bs zs us L hfd q;obtain⟨o,ho⟩:=hfd;have l1:=L.l1;refine⟨_,rfl,d,o,aC as,rfl,ho,λp hp=>?_⟩;rw[wV L.b1];refine ci (fr:=[some (.ref d),some (.ref e)]) zs (λz=>V.int z.2.num) (by omega) hp (ck ho) rfl (λz=>eO (nds us) z.2) (λz y _=>y=V.int z.2.num) (λz y H H' h _=>h) (λz H' k mz s1 hpl hk=>?_) (λz H' k mz _ s1 _ hk=>⟨_,rfl,hk _ H' (Same.refl _) rfl⟩) (λys H' s1 hp' hys=>?_)
 ·have L1:=L.same s1;obtain⟨r,g1,r1⟩:=L1.b1.get (aI L.t1) mz;have gn:∀k:Int,(TW.ax (nds us) k∧∃v,cW H' e (.int k) (some v))∨(¬TW.ax (nds us) k∧cW H' e (.int k) none):=λk=>by
   by_cases h:TW.ax (nds us) k
   ·obtain⟨m,hm,em⟩:=h;obtain⟨y,hy,rfl⟩:=bj hm;obtain⟨r',g2,_⟩:=L1.b2.get (aI L.t2) hy;rw[em]at g2;exact .inl ⟨⟨y.2,hm,em⟩,_,g2⟩
   ·exact .inr ⟨h,L1.b2.not λx hx ex=>h ⟨x.2,aA hx,ex⟩⟩
  rcases gn z.2.num with⟨h,v,g2⟩|⟨h,g2⟩
  ·refine⟨_,rfl,_,rfl,e,_,rfl,g2,_,rfl,aJ ?_⟩;rw[show eO (nds us) z.2=false from decide_eq_false λt=>t.1 h]at hk;exact hk H' (Same.refl _)
  ·refine⟨_,rfl,_,rfl,e,_,rfl,g2,_,rfl,aT ?_⟩;refine⟨_,rfl,_,rfl,d,_,rfl,g1,r,_,_,_,rfl,rfl,SqT.of r1,qB _,rfl,_,rfl,?_⟩
   by_cases h0:z.2.par=0
   ·rw[show eO (nds us) z.2=true from decide_eq_true ⟨h,.inl h0⟩]at hk;rw[h0];exact aT (hk H' (Same.refl _))
   ·rw[decide_eq_false (show ¬(V.int z.2.par=V.int 0)from λt=>h0 (by injection t))];refine aJ ?_;rcases gn z.2.par with⟨h2,v2,g3⟩|⟨h2,g3⟩
    ·rw[show eO (nds us) z.2=true from decide_eq_true ⟨h,.inr h2⟩]at hk;exact⟨_,rfl,_,rfl,d,_,rfl,g1,r,_,_,_,rfl,rfl,SqT.of r1,qB _,_,rfl,e,_,rfl,g3,_,rfl,hk H' (Same.refl _)⟩
    ·rw[show eO (nds us) z.2=false from decide_eq_false λt=>t.2.elim h0 h2]at hk;exact⟨_,rfl,_,rfl,d,_,rfl,g1,r,_,_,_,rfl,rfl,SqT.of r1,qB _,_,rfl,e,_,rfl,g3,_,rfl,hk H' (Same.refl _)⟩
 ·rw[aQ hys (f:=λz=>V.int z.2.num) λz y _ h=>h]at hp';exact q p H' s1 hp'
end
theorem lZ{t:List Nd}(T:TW.Tree1 t)(h:∀n∈t,iA n):∀n∈t,cO n∧n.num≤60∧0≤n.par∧n.par≤60∧n.nm.length≤100:=λn hn=>by
 have h1:=h n hn;have hp:0≤n.par∧n.par≤60:=by
  rcases TW.cF T hn with e|⟨m,hm,_,e⟩
  ·omega
  ·have:=h m hm;have a:=this.1;have b:=this.2.1;omega
 have hl:=h1.2.2.1.len;have a:=h1.1;have b:=h1.2.1;exact⟨⟨a,by omega,hp.1,by omega,hl⟩,b,hp.1,hp.2,hl⟩
theorem dv0(d:TW.Deed Str):atI (bf d) 0=some (.str (eR d)):=by cases d<;>rfl
theorem ma{H1 H:Hp}{d:Addr}{as:List (Addr×(Addr×Nd))}{zs:ZN}(s:Same H1 H)(h0:H1 d=none)(b:Book H d as zs)(hd:H d=some (.dK (aC as)))(o:Obj):Same H1 (upd H d (.frz o (.dK (aC as))))∧Book (upd H d (.frz o (.dK (aC as)))) d as zs :=
 ⟨aO h0 s,⟨.inr ⟨o,ac⟩,b.of,λx hx=>by
   have:=b.at' x hx;rw[al λz=>by rw[z,hd]at this;cases this];exact this⟩⟩
theorem tV(p:Str)(ms:List Str):inV (.str p) (ms.map V.str)=decide (p∈ms):=by
 unfold inV;rw[any_map,Bool.eq_iff_iff,any_eq_true,decide_eq_true_eq];constructor
 ·rintro⟨x,hx,e⟩;have:x=p:=by simpa [eqV]using e
  rw[←this];exact hx
 ·intro h;exact⟨p,h,by simp[eqV]⟩
theorem pR(ms:List Str):(ms.map V.str).all eT=true:=by
 rw[all_eq_true];intro v hv;obtain⟨x,_,rfl⟩:=mem_map.mp hv;rfl
section
variable{P:Program}{w:World}{K:PySem.W.Frag}{mg:Str→Option Value}{base:Heap}{f:Addr}{cdv:Value}{A:Around}{outer:List Env}{s:Shared}{H0:Hp}{E:XK}
theorem la0(hr:Room 7 (A.deeper (PyProof.Rows.envOfC "law" (ah cN) s.heap.objs.size f cdv)))(CB:Has P w K mg base 3 "_law_tree" ["_law_script","_law_at","_law_most"] (iI K)):
  ∃rd,PS (LaX P w K mg base f cdv A outer s H0 E) (laS 0) rd∧∀(D:Ends)(H:Hp)(a:Addr)(x1 x2 x3 x4 x5 x6 x7 x8 x9 x10 x11:Option V),dF K H a→(∀t zs H',Same H H'→Tre H' t zs→zs.length≤6→(∀n∈nds zs,iA n)→(∀n∈nds zs,1≤n.num∧n.num≤30)→D.nx [some (.ref a),some (.ref t),x2,x3,x4,x5,x6,x7,x8,x9,x10,x11] H')→rd D [some (.ref a),x1,x2,x3,x4,x5,x6,x7,x8,x9,x10,x11] H:=by
 obtain⟨fB,fdB,GB,mB,kB,bB⟩:=CB;have hr3:Room 3 _:=hr.mono (by decide);refine⟨_,ap (i:=1) im.nd rfl (Or.inl rfl) (ak GB hr3 rfl mB kB bB .nil aL (aa (pv 0) (aa ag (aa ag ai)))),?_⟩;intro D H a x1 x2 x3 x4 x5 x6 x7 x8 x9 x10 x11 hS q;refine⟨_,rfl,a,0,6,rfl,by decide,by decide,by decide,hS,λt z H1 ht hA hl hT hG s1=>?_⟩;have tr1:TW.Tree1 (nds z):=⟨hT,λn hn=>by obtain⟨z,hz,rfl⟩:=bj hn;exact(hG z hz).1⟩;exact q t z H1 s1 ⟨ht,hA,tr1,by omega⟩ (by omega) (λn hn=>by obtain⟨z,hz,rfl⟩:=bj hn;exact(hG z hz).ok) (λn hn=>by obtain⟨z,hz,rfl⟩:=bj hn;have:=hG z hz;exact⟨this.1,by have:=this.2.1;omega⟩)
theorem la1(hr:Room 7 (A.deeper (PyProof.Rows.envOfC "law" (ah cN) s.heap.objs.size f cdv)))(CP:Has P w K mg base 2 "_law_pick" ["_law_script","_law_k","_law_many"] (dY K))(CF:Has P w K mg base 4 "_law_further" ["_law_script","_law_at","_law_tree_here","_law_many"] (oM K))(CK:Has P w K mg base 2 "_law_same_kinds" ["_law_one","_law_other"] oK):
  ∃rd,PS (LaX P w K mg base f cdv A outer s H0 E) (laS 1) rd∧∀(D:Ends)(H:Hp)(a t:Addr)(zs:ZN)(x2 x3 x4 x5 x6 x7 x8 x9 x10 x11:Option V),dF K H a→Tre H t zs→zs.length≤6→(∀n∈nds zs,iA n)→(∀n∈nds zs,1≤n.num∧n.num≤30)→(∀u us H',Same H H'→Tre H' u us→us.length≤13→cY (nds zs) (nds us)→(∀n∈nds us,cO n)→D.nx [some (.ref a),some (.ref t),some (.ref u),x3,x4,x5,x6,x7,x8,x9,x10,x11] H')→rd D [some (.ref a),some (.ref t),x2,x3,x4,x5,x6,x7,x8,x9,x10,x11] H:=by
 obtain⟨fP,fdP,GP,mP,kP,bP⟩:=CP;obtain⟨fF,fdF,GF,mF,kF,bF⟩:=CF;obtain⟨fK,fdK,GK,mK,kK,bK⟩:=CK;have hr2:Room 2 _:=hr.mono (by decide);have hr4:Room 4 _:=hr.mono (by decide);refine⟨_,ap (i:=2) im.nd rfl (Or.inl rfl) (ak GK hr2 rfl mK kK bK .nil aL (aa (pv 1) (aa (ak GF hr4 rfl mF kF bF .nil aL (aa (pv 0) (aa ag (aa (pv 1) (aa (ak GP hr2 rfl mP kP bP .nil aL (aa (pv 0) (aa ag (aa ag ai)))) ai))))) ai))),?_⟩;intro D H a t zs x2 x3 x4 x5 x6 x7 x8 x9 x10 x11 hS T hl ok nz q;refine⟨_,rfl,_,rfl,_,rfl,_,rfl,a,_,_,rfl,by decide,by decide,hS,λr H2 r0 r1 s2=>?_⟩;refine⟨a,110,t,r,zs,rfl,by decide,r0,by omega,hS.same s2,T.same s2,ok,by omega,λt2 z2 H3 s3 T2 ok2 hl2 _=>?_⟩;exact⟨t,t2,zs,z2,rfl,(T.same s2).same s3,T2,by omega,by omega,nz,λn hn=>(lZ T2.tr ok2 n hn).2,λv ws H' s' V' sk nok hle=>q v ws H' ((s2.trans s3).trans s') V' (by omega) sk nok⟩
theorem la2(hr:Room 7 (A.deeper (PyProof.Rows.envOfC "law" (ah cN) s.heap.objs.size f cdv)))(CP:Has P w K mg base 2 "_law_pick" ["_law_script","_law_k","_law_many"] (dY K))(CI:Has P w K mg base 2 "_law_kept_in_place" ["_law_one","_law_other"] oO):
  ∃rd,PS (LaX P w K mg base f cdv A outer s H0 E) (laS 2) rd∧∀(D:Ends)(H:Hp)(a t u:Addr)(zs us:ZN)(x3 x4 x5 x6 x7 x8 x9 x10 x11:Option V),dF K H a→Tre H t zs→zs.length≤6→Tre H u us→us.length≤13→cY (nds zs) (nds us)→(∀n∈nds us,cO n)→(∀u us H',Same H H'→Tre H' u us→us.length≤13→cY (nds zs) (nds us)→(∀n∈nds us,cO n)→D.nx [some (.ref a),some (.ref t),some (.ref u),x3,x4,x5,x6,x7,x8,x9,x10,x11] H')→rd D [some (.ref a),some (.ref t),some (.ref u),x3,x4,x5,x6,x7,x8,x9,x10,x11] H:=by
 obtain⟨fP,fdP,GP,mP,kP,bP⟩:=CP;obtain⟨fK,fdK,GK,mK,kK,bK⟩:=CI;have hr2:Room 2 _:=hr.mono (by decide);refine⟨_,be (am cx (ak GP hr2 rfl mP kP bP .nil aL (aa (pv 0) (aa ag (aa ag ai)))) ag (aw _)) (aj (ap (i:=2) im.nd rfl (Or.inl rfl) (ak GK hr2 rfl mK kK bK .nil aL (aa (pv 1) (aa (pv 2) ai))))) aH,?_⟩;intro D H a t u zs us x3 x4 x5 x6 x7 x8 x9 x10 x11 hS T hl U hlu sk nok q;refine⟨_,rfl,a,_,_,rfl,by decide,by decide,hS,λr H2 r0 r1 s2=>⟨rfl,_,rfl,pi (λ_=>?_) (λ_=>q u us H2 s2 (U.same s2) hlu sk nok)⟩⟩;exact⟨_,rfl,_,rfl,t,u,zs,us,rfl,T.same s2,U.same s2,by omega,by omega,λv ws H' s' V' sub hle=>q v ws H' (s2.trans s') V' (by omega) (λm hm n hn e=>sk m hm n (sub n hn) e) (λn hn=>nok n (sub n hn))⟩
theorem la3(hr:Room 7 (A.deeper (PyProof.Rows.envOfC "law" (ah cN) s.heap.objs.size f cdv)))(CO:Has P w K mg base 1 "_law_book" ["_law_tree_here"] fm):
  ∃rd,PS (LaX P w K mg base f cdv A outer s H0 E) (laS 3) rd∧∀(D:Ends)(H:Hp)(t:Addr)(zs:ZN)(x0 x2 x3 x4 x5 x6 x7 x8 x9 x10 x11:Option V),Tre H t zs→(∀d as H',Same H H'→H d=none→Book H' d as zs→H' d=some (.dK (aC as))→D.nx [x0,some (.ref t),x2,some (.ref d),x4,x5,x6,x7,x8,x9,x10,x11] H')→rd D [x0,some (.ref t),x2,x3,x4,x5,x6,x7,x8,x9,x10,x11] H:=by
 obtain⟨fO,fdO,GO,mO,kO,bO⟩:=CO;have hr1:Room 1 _:=hr.mono (by decide);refine⟨_,ap (i:=3) im.nd rfl (Or.inr rfl) (ak GO hr1 rfl mO kO bO .nil aL (aa (pv 1) ai)),?_⟩;intro D H t zs x0 x2 x3 x4 x5 x6 x7 x8 x9 x10 x11 T q;exact⟨_,rfl,t,zs,rfl,T,λd as H' s' n b e=>q d as H' s' n b e⟩
theorem la4(hr:Room 7 (A.deeper (PyProof.Rows.envOfC "law" (ah cN) s.heap.objs.size f cdv)))(CO:Has P w K mg base 1 "_law_book" ["_law_tree_here"] fm):
  ∃rd,PS (LaX P w K mg base f cdv A outer s H0 E) (laS 4) rd∧∀(D:Ends)(H:Hp)(t:Addr)(zs:ZN)(x0 x1 x3 x4 x5 x6 x7 x8 x9 x10 x11:Option V),Tre H t zs→(∀d as H',Same H H'→H d=none→Book H' d as zs→H' d=some (.dK (aC as))→D.nx [x0,x1,some (.ref t),x3,some (.ref d),x5,x6,x7,x8,x9,x10,x11] H')→rd D [x0,x1,some (.ref t),x3,x4,x5,x6,x7,x8,x9,x10,x11] H:=by
 obtain⟨fO,fdO,GO,mO,kO,bO⟩:=CO;have hr1:Room 1 _:=hr.mono (by decide);refine⟨_,ap (i:=4) im.nd rfl (Or.inr rfl) (ak GO hr1 rfl mO kO bO .nil aL (aa (pv 2) ai)),?_⟩;intro D H t zs x0 x1 x3 x4 x5 x6 x7 x8 x9 x10 x11 T q;exact⟨_,rfl,t,zs,rfl,T,λd as H' s' n b e=>q d as H' s' n b e⟩
theorem la6{CN:Addr}(hr:Room 7 (A.deeper (PyProof.Rows.envOfC "law" (ah cN) s.heap.objs.size f cdv)))(CI:dG P w K mg base 7 "in_steps" ["old","new"] (lN CN)):
  ∃rd,PS (LaX P w K mg base f cdv A outer s H0 E) (laS 6) rd∧∀(D:Ends)(H:Hp)(t u:Addr)(zs us:ZN)(x0 x3 x4 x5 x6 x7 x8 x9 x10 x11:Option V),Tre H t zs→Tre H u us→cY (nds zs) (nds us)→(∀n∈nds zs,cO n)→(∀n∈nds us,cO n)→zs.length+us.length≤29 →
   (∀l ds dd tt H',Same H H'→H' l=some (.lst (ba ds))→gp H' ds→ds.map (·.2)=dd++cj tt (nds us)→Iv (nds zs) (nds us) tt dd→Trace (nds us) (nds zs) dd tt→Nxt tt (nds us) dd none→D.nx [x0,some (.ref t),some (.ref u),x3,x4,x5,some (.ref l),x7,x8,x9,x10,x11] H')→rd D [x0,some (.ref t),some (.ref u),x3,x4,x5,x6,x7,x8,x9,x10,x11] H:=by
 obtain⟨fI,fdI,GI,mI,kI,bI⟩:=CI;refine⟨_,ap (i:=6) im.nd rfl (Or.inl rfl) (ak (E:=E0) GI hr rfl mI kI bI .nil ug (aa (pv 1) (aa (pv 2) ai))),?_⟩;intro D H t u zs us x0 x3 x4 x5 x6 x7 x8 x9 x10 x11 T1 T2 sk zok uok hl q;have hln:(nds zs).length+(nds us).length≤29:=by unfold nds;rw[length_map,length_map];exact hl
 have I0:=lP T1.tr sk zok hln;refine⟨_,rfl,_,rfl,t,u,zs,us,rfl,T1,T2,λz hz=>?_,uok,λh=>absurd sk h,λ_=>⟨_,_,lQ T2.tr uok hln,⟨I0,.nil⟩,λl ds tt dd H1 s1 hI hn hlst hds eds hch=>?_⟩⟩
 ·have:=zok z.2 (aA hz);exact⟨by have:=this.1;omega,this.2.1⟩
 ·exact q l ds dd tt H1 s1 hlst hds eds hI.1 hI.2 hn
theorem la7{CN:Addr}(hr:Room 7 (A.deeper (PyProof.Rows.envOfC "law" (ah cN) s.heap.objs.size f cdv)))(CI:dG P w K mg base 7 "in_steps" ["old","new"] (lN CN)):
  ∃rd,PS (LaX P w K mg base f cdv A outer s H0 E) (laS 7) rd∧∀(D:Ends)(H:Hp)(t:Addr)(zs:ZN)(x0 x2 x3 x4 x5 x6 x7 x8 x9 x10 x11:Option V),Tre H t zs→(∀n∈nds zs,cO n)→zs.length≤14 →
   (∀H',Same H H'→D.nx [x0,some (.ref t),x2,x3,x4,x5,x6,x7,x8,x9,x10,x11] H')→rd D [x0,some (.ref t),x2,x3,x4,x5,x6,x7,x8,x9,x10,x11] H:=by
 obtain⟨fI,fdI,GI,mI,kI,bI⟩:=CI;refine⟨_,be (am (ji hr.units0) (ak (E:=E0) GI hr rfl mI kI bI .nil ug (aa (pv 1) (aa (pv 1) ai))) (bX ai) (aw _)) (aj (aD io)) aH,?_⟩;intro D H t zs x0 x2 x3 x4 x5 x6 x7 x8 x9 x10 x11 T1 zok hl q;have hln:(nds zs).length+(nds zs).length≤29:=by unfold nds;rw[length_map];omega
 have sk:cY (nds zs) (nds zs):=λm hm n hn e=>by rw[T1.tr.inj hm hn e]
 have I0:=lP T1.tr sk zok hln;refine⟨_,rfl,_,rfl,t,t,zs,zs,rfl,T1,T1,λz hz=>?_,zok,λh=>absurd sk h,λ_=>⟨_,_,lQ T1.tr zok hln,⟨I0,.nil⟩,λl ds tt dd H1 s1 hI hn hlst hds eds hch=>?_⟩⟩
 ·have:=zok z.2 (aA hz);exact⟨by have:=this.1;omega,this.2.1⟩
 ·rw[rG T1.tr hI.1 hI.2 hn]at eds;have e0:ds=[]:=map_eq_nil_iff.mp eds;subst e0;refine⟨aq (by decide),λc hc=>?_⟩;have s2:=af (o:=.lst []) hc;exact⟨l,c,_,rfl,rfl,SqL.of (s2 _ _ hlst),SqL.of ac,_,rfl,aJ (q _ (s1.trans s2))⟩
theorem xF(T:Txt mg)(hr:Room 7 (A.deeper (PyProof.Rows.envOfC "law" (ah cN) s.heap.objs.size f cdv))):
  ∃rd,PS (LaX P w K mg base f cdv A outer s H0 E) (laS 12) rd∧∀(D:Ends)(H:Hp)(a b c d:Addr)(va vb vc vd:List V)(x0 x1 x2 x3 x4 x6 x8 x11:Option V),H a=some (.lst va)→H b=some (.lst vb)→H c=some (.lst vc)→H d=some (.lst vd) →
   (D.nx [x0,x1,x2,x3,x4,some (.ref d),x6,some (.ref a),x8,some (.ref b),some (.ref c),some (.int ((((va.length+vb.length:Nat)+vc.length:Nat)+vd.length:Nat):Int))] H)→rd D [x0,x1,x2,x3,x4,some (.ref d),x6,some (.ref a),x8,some (.ref b),some (.ref c),x11] H:=by
 refine⟨_,ap (i:=11) im.nd rfl (Or.inl rfl) (aF bc (aF bc (aF bc (aW aR rfl T.len boot_len (aa (pv 7) ai)) (aW aR rfl T.len boot_len (aa (pv 9) ai))) (aW aR rfl T.len boot_len (aa (pv 10) ai))) (aW aR rfl T.len boot_len (aa (pv 5) ai))),?_⟩;intro D H a b c d va vb vc vd x0 x1 x2 x3 x4 x6 x8 x11 ha hb hc hd q;refine⟨_,rfl,a,_,rfl,.inl (SqL.of ha),_,rfl,b,_,rfl,.inl (SqL.of hb),_,_,rfl,rfl,_,rfl,c,_,rfl,.inl (SqL.of hc),_,_,rfl,rfl,_,rfl,d,_,rfl,.inl (SqL.of hd),_,_,rfl,rfl,?_⟩;exact q
theorem xG(T:Txt mg)(hr:Room 7 (A.deeper (PyProof.Rows.envOfC "law" (ah cN) s.heap.objs.size f cdv))):
  ∃rd,PS (LaX P w K mg base f cdv A outer s H0 E) (laS 13) rd∧∀(D:Ends)(H:Hp)(l d:Addr)(ds:ZD)(vd:List V)(m:Nat)(x0 x1 x2 x3 x4 x7 x8 x9 x10:Option V),H d=some (.lst vd)→H l=some (.lst (ba ds))→gp H ds→ds.length≤900→(vd=[]→ds.length=m∧∀y∈ds,eR y.2≠("move":Str)) →
   (vd=[]→∀H',D.rt (.bl true) H')→(vd≠[]→∀H',Same H H'→D.nx [x0,x1,x2,x3,x4,some (.ref d),some (.ref l),x7,x8,x9,x10,some (.int m)] H')→rd D [x0,x1,x2,x3,x4,some (.ref d),some (.ref l),x7,x8,x9,x10,some (.int m)] H:=by
 refine⟨_,be (am (ga hr.units0) (pv 5) (bX ai) (aw _)) (aj (aD (uF (dL cx (aW aR rfl T.len boot_len (aa (pv 6) ai)) (pv 11) (aw _)) (uE (dL gG aM (gL (N:=["_law_deed_here"]) (cl:=[]) (k:=1) (js:=[]) (g:=aZ 0) rfl (eF rfl (by decide +kernel) (by decide +kernel) (by decide +kernel)) rfl (λi j x h=>by simp at h) (cH (pv 6)) (λs H fp=>aE (i:=0) (show(["_law_deed_here"]:List Str).Nodup by decide +kernel) rfl (Or.inl rfl) (Or.inr rfl)) (λs H fp=>av (r:=cG K) ao (pv 0) ag (λ_ _=>rfl))) rfl))))) aH,?_⟩;intro D H l d ds vd m x0 x1 x2 x3 x4 x7 x8 x9 x10 hd hl hA hle h0 q1 q2;refine⟨_,rfl,aq (by decide),λc hc=>?_⟩;have s2:=af (o:=.lst []) hc;have c2:upd H c (.lst []) c=some (.lst []):=ac;generalize upd H c (.lst [])=H1 at s2 c2⊢;refine⟨d,c,_,rfl,rfl,SqL.of (s2 _ _ hd),SqL.of c2,_,rfl,?_⟩
 by_cases hv:vd=[]
 ·rw[decide_eq_true hv];obtain⟨e1,e2⟩:=h0 hv;refine aT ⟨_,rfl,l,_,rfl,.inl (SqL.of (s2 _ _ hl)),_,rfl,rfl,_,rfl,?_⟩;have e3:(ba ds).length=m:=by unfold ba;rw[length_map];exact e1
  rw[e3];rw[decide_eq_true rfl];refine aT ?_;refine⟨_,rfl,l,rfl,⟨_,SqL.of (s2 _ _ hl)⟩,λp hp=>?_⟩;refine eJ (fr:=[]) ds (λy=>V.ref y.1) (by omega) hp (fo (by exact SqL.of (s2 _ _ hl))) rfl (λy v _=>v=.str (eR y.2)) (λz y H H' h _=>h) (λy H2 k2 my s3 _ hk2=>?_) (λys H2 s3 hp2 hys=>?_)
  ·exact⟨_,rfl,y.1,_,_,_,rfl,rfl,SqT.of (s3 _ _ (s2 _ _ (hA y my))),dv0 y.2,hk2 _ H2 (Same.refl _) rfl⟩
  ·have ey:=aQ hys (f:=λy:Addr×TW.Deed Str=>V.str (eR y.2)) λz y _ h=>h;have ey':ys=(ds.map λy=>eR y.2).map V.str:=by rw[ey,map_map];rfl
   rw[ey']at hp2;refine⟨p,_,rfl,.inl (SqL.of hp2),rfl,pR _,?_⟩;rw[show(if true=true then !inV (.str "move") ((ds.map λy=>eR y.2).map V.str)else inV (.str "move") ((ds.map λy=>eR y.2).map V.str))=true by
    rw[if_pos rfl,tV,decide_eq_false (λh=>by obtain⟨y,hy,e⟩:=mem_map.mp h;exact e2 y hy e)];rfl]
   exact q1 hv H2
 ·rw[decide_eq_false hv];exact aJ (q2 hv H1 s2)
theorem xH(T:Txt mg)(hr:Room 7 (A.deeper (PyProof.Rows.envOfC "law" (ah cN) s.heap.objs.size f cdv))):
  ∃rd,PS (LaX P w K mg base f cdv A outer s H0 E) (laS 14) rd∧∀(D:Ends)(H:Hp)(l d:Addr)(ds:ZD)(vd:List V)(m:Nat)(x0 x1 x2 x3 x4 x7 x8 x9 x10:Option V),H d=some (.lst vd)→H l=some (.lst (ba ds))→ds.length≤m+vd.length →
   (∀H',D.rt (.bl true) H')→rd D [x0,x1,x2,x3,x4,some (.ref d),some (.ref l),x7,x8,x9,x10,some (.int m)] H:=by
 refine⟨_,aD (dL wx (aW aR rfl T.len boot_len (aa (pv 6) ai)) (aF bc (pv 11) (aW aR rfl T.len boot_len (aa (pv 5) ai))) (aw _)),?_⟩;intro D H l d ds vd m x0 x1 x2 x3 x4 x7 x8 x9 x10 hd hl hle q;refine⟨_,rfl,l,_,rfl,.inl (SqL.of hl),_,rfl,_,rfl,d,_,rfl,.inl (SqL.of hd),_,_,rfl,rfl,_,_,rfl,rfl,?_⟩;have e3:(ba ds).length=ds.length:=by unfold ba;rw[length_map]
 rw[e3];have e4:decide (((ds.length:Nat):Int)≤(m:Int)+(vd.length:Int))=true:=decide_eq_true (by omega);show D.rt (V.bl (decide (((ds.length:Nat):Int)≤(m:Int)+(vd.length:Int)))) H;rw[e4];exact q H
end
theorem gZ(g:Nd→Bool)(zs:ZN):((zs.filter λz=>g z.2).map λz=>V.int z.2.num).length=((nds zs).filter g).length:=by
 rw[length_map,←lY g zs];unfold nds;rw[length_map]
open Classical in
theorem pS{t0:List Nd}(us:ZN):((us.filter λz=>!ce t0 z.2).filter λz=>cQ t0 z.2)=us.filter λz=>cQ t0 z.2:=by
 rw[List.filter_filter];refine filter_congr λz _=>?_;cases e:cQ t0 z.2 with
 |false=>rfl
 |true =>
  obtain⟨o,ho,eo,_⟩:=(decide_eq_true_eq ..).mp e;have:ce t0 z.2=false:=by
   cases e1:ce t0 z.2 with
   |false=>rfl
   |true=>exact absurd ⟨o,ho,eo⟩ ((decide_eq_true_eq ..).mp e1)
  rw[this];rfl
section
variable{P:Program}{w:World}{K:PySem.W.Frag}{mg:Str→Option Value}{base:Heap}
def oP(K:PySem.W.Frag):Sp:=λvs H Q _=>∃(a:Addr) (ns:List Int),vs=[.ref a]∧SqL K H a (ns.map V.int)∧ns.length≤63∧∀H',Q (.bl true) H'
theorem wW:bA cN=[laS 0,laS 1,laS 2,laS 3,laS 4,laS 5,laS 6,laS 7,laS 8,laS 9,laS 10,laS 11,laS 12,laS 13,laS 14]:=rfl
theorem wp{f CN:Addr}{fd:FuncData}(F:Fun K "law" "law" cN f fd)(T:Txt mg)(CB:Has P w K mg base 3 "_law_tree" ["_law_script","_law_at","_law_most"] (iI K))(CP:Has P w K mg base 2 "_law_pick" ["_law_script","_law_k","_law_many"] (dY K))(CF:Has P w K mg base 4 "_law_further" ["_law_script","_law_at","_law_tree_here","_law_many"] (oM K))(CK:Has P w K mg base 2 "_law_same_kinds" ["_law_one","_law_other"] oK)(CQ:Has P w K mg base 2 "_law_kept_in_place" ["_law_one","_law_other"] oO)(CO:Has P w K mg base 1 "_law_book" ["_law_tree_here"] fm)(CI:dG P w K mg base 7 "in_steps" ["old","new"] (lN CN)):FnOk P w K mg base CX0 8 f fd ["_law_script"] (oP K):=by
 refine F.ok im (λvs H Q E h=>?_) (λcdv A outer s H vs Q E hr h=>?_)
 ·obtain⟨a,ns,rfl,_⟩:=h;rfl
 ·obtain⟨a,ns,rfl,hS0,_,q⟩:=h;have hS:dF K H a:=⟨ns,hS0⟩;obtain⟨t0,p0,h0⟩:=la0 (outer:=outer) (H0:=H) (E:=E) hr CB;obtain⟨t1,p1,h1⟩:=la1 (outer:=outer) (H0:=H) (E:=E) hr CP CF CK;obtain⟨t2,p2,h2⟩:=la2 (outer:=outer) (H0:=H) (E:=E) hr CP CQ;obtain⟨t3,p3,h3⟩:=la3 (outer:=outer) (H0:=H) (E:=E) hr CO;obtain⟨t4,p4,h4⟩:=la4 (outer:=outer) (H0:=H) (E:=E) hr CO;obtain⟨t5,p5,h5⟩:=la5 (P:=P) (w:=w) (K:=K) (mg:=mg) (base:=base) (outer:=outer) (H0:=H) (E:=E) hr;obtain⟨t6,p6,h6⟩:=la6 (outer:=outer) (H0:=H) (E:=E) hr CI;obtain⟨t7,p7,h7⟩:=la7 (outer:=outer) (H0:=H) (E:=E) hr CI;obtain⟨t8,p8,h8⟩:=la8 (P:=P) (w:=w) (K:=K) (mg:=mg) (base:=base) (outer:=outer) (H0:=H) (E:=E) hr;obtain⟨t9,p9,h9⟩:=la9 (P:=P) (w:=w) (K:=K) (mg:=mg) (base:=base) (outer:=outer) (H0:=H) (E:=E) hr;obtain⟨t10,p10,h10⟩:=xC (P:=P) (w:=w) (K:=K) (mg:=mg) (base:=base) (outer:=outer) (H0:=H) (E:=E) hr;obtain⟨t11,p11,h11⟩:=xE (P:=P) (w:=w) (K:=K) (mg:=mg) (base:=base) (outer:=outer) (H0:=H) (E:=E) hr;obtain⟨t12,p12,h12⟩:=xF (P:=P) (w:=w) (K:=K) (base:=base) (outer:=outer) (H0:=H) (E:=E) T hr;obtain⟨t13,p13,h13⟩:=xG (P:=P) (w:=w) (K:=K) (base:=base) (outer:=outer) (H0:=H) (E:=E) T hr;obtain⟨t14,p14,h14⟩:=xH (P:=P) (w:=w) (K:=K) (base:=base) (outer:=outer) (H0:=H) (E:=E) T hr;rw[wW];generalize laS=st at p0 p1 p2 p3 p4 p5 p6 p7 p8 p9 p10 p11 p12 p13 p14⊢;refine⟨_,ae p0 (ae p1 (ae p2 (ae p3 (ae (fA p4) (ae (fA p5) (ae p6 (ae p7 (ae p8 (ae p9 (ae p10 (ae p11 (ae p12 (ae p13 (aj p14)))))))))))))),?_⟩;refine h0 _ H a _ _ _ _ _ _ _ _ _ _ _ hS λt zs H1 s1 T1 l1 ok1 nz=>?_;have S1:=hS.same s1;refine h1 _ H1 a t zs _ _ _ _ _ _ _ _ _ _ S1 T1 l1 ok1 nz λu us H2 s2 U2 l2 sk2 nok2=>?_;refine h2 _ H2 a t u zs us _ _ _ _ _ _ _ _ _ (S1.same s2) (T1.same s2) l1 U2 l2 sk2 nok2 λu us H3 s3 U3 l3 sk nok=>?_;have T3:=(T1.same s2).same s3;refine h3 _ H3 t zs _ _ _ _ _ _ _ _ _ _ _ T3 λd as H4 s4 hd0 b1 hd=>?_;refine⟨d,_,hd,λo=>?_⟩;obtain⟨s5,b1'⟩:=ma s4 hd0 b1 hd o;have hd5:upd H4 d (.frz o (.dK (aC as))) d=some (.frz o (.dK (aC as))):=ac;generalize upd H4 d (.frz o (.dK (aC as)))=H5 at s5 b1' hd5⊢;have T5:=T3.same s5;have U5:=U3.same s5;refine h4 _ H5 u us _ _ _ _ _ _ _ _ _ _ _ U5 λe bs H6 s6 he0 b2 he=>?_;refine⟨e,_,he,λo2=>?_⟩;obtain⟨s7,b2'⟩:=ma s6 he0 b2 he o2;have he7:upd H6 e (.frz o2 (.dK (aC bs))) e=some (.frz o2 (.dK (aC bs))):=ac;generalize upd H6 e (.frz o2 (.dK (aC bs)))=H7 at s7 b2' he7⊢;have L:SKF H7 d e as bs zs us:=⟨b1'.same s7,b2',⟨o2,he7⟩,T3.tr,U3.tr,by omega,by omega⟩;have T7:=T5.same s7;have U7:=U5.same s7;have nz':∀n∈nds zs,cO n:=λn hn=>(lZ T3.tr ok1 n hn).1;refine h5 _ H7 _ _ _ _ _ _ _ _ _ _ d e as bs zs us L λlm Ha sa ha=>?_;refine h6 _ Ha t u zs us _ _ _ _ _ _ _ _ _ _ (T7.same sa) (U7.same sa) sk nz' nok (by omega) λl ds dd tt Hb sb hb hds eds I TR hn=>?_;have T8:=(T7.same sa).same sb;refine h7 _ Hb t zs _ _ _ _ _ _ _ _ _ _ _ T8 nz' (by omega) λHc sc=>?_;have sac:=(sa.trans sb).trans sc;refine h8 _ Hc _ _ _ _ _ _ _ _ _ _ d e as bs zs us (L.same sac) λl8 Hd sd hl8=>?_;have sad:=sac.trans sd;refine h9 _ Hd _ _ _ _ _ _ _ _ _ _ d e as bs zs us (L.same sad) λl9 He se hl9=>?_;have sae:=sad.trans se;refine h10 _ He _ _ _ _ _ _ _ _ _ d e as bs zs us l9 (L.same sae) hl9 λl10 Hf sf hl10=>?_;have saf:=sae.trans sf;refine h11 _ Hf _ _ _ _ _ _ _ _ _ _ d e as bs zs us (L.same saf) ⟨o,saf _ _ (s7 _ _ hd5)⟩ λl11 Hg sg hl11=>?_;have sbg:=(((sc.trans sd).trans se).trans sf).trans sg;have sag:Same Ha Hg:=sb.trans sbg;rw[pS]at hl10;refine h12 _ Hg l8 l10 l11 lm _ _ _ _ _ _ _ _ _ _ _ _ ((se.trans sf).trans sg |> λs=>s _ _ hl8) (sg _ _ hl10) hl11 (sag _ _ ha) ?_;have hbg:=sbg _ _ hb;have hdg:=hds.same sbg;have e1:=gZ (ce (nds zs)) us;have e2:=gZ (cQ (nds zs)) us;have e3:=gZ (eO (nds us)) zs;have e4:=gZ (cP (nds zs)) us;have edl:ds.length=(dd++cj tt (nds us)).length:=by rw[←eds,length_map]
  have hlen:ds.length≤900:=by
   have hln:(nds zs).length+(nds us).length≤29:=by unfold nds;rw[length_map,length_map];omega
   have b1:=(ut (t0:=nds zs) U3.tr nok hln).bd tt dd I;have b2:(cj tt (nds us)).length≤tt.length:=by unfold cj;rw[length_map];exact length_filter_le _ _
   have:=b1.1;have:=b1.2.1;rw[edl,length_append];omega
  refine h13 _ Hg l lm ds _ _ _ _ _ _ _ _ _ _ _ (sag _ _ ha) hbg hdg hlen (λhv=>?_) (λ_ Hh=>q Hh) λhv Hh sh=>?_
  ·have m0:(nds us).filter (cP (nds zs))=[]:=by
    have:=congrArg length hv;rw[e4]at this;exact List.eq_nil_of_length_eq_zero this
   obtain⟨f1,f2⟩:=vY T3.tr U3.tr I TR hn m0;refine⟨?_,λy hy=>f2 y.2 ?_⟩
   ·rw[e1,e2,e3,e4,m0,edl,f1];simp
   ·rw[←eds];exact mem_map.mpr ⟨y,hy,rfl⟩
  ·have:=rF T3.tr U3.tr I TR hn;refine h14 _ Hh l lm ds _ _ _ _ _ _ _ _ _ _ _ (sh _ _ (sag _ _ ha)) (sh _ _ hbg) ?_ λHi=>q Hi;rw[e1,e2,e3,e4,edl];exact this
end
end TK
namespace TK
open PySem PySem.W PyProof.Rows L2
theorem gu{K:PySem.W.Frag}{h:Heap}{mg:Str→Option Value}{x:Str}{C:Addr}{bB:List Value}{nid:String}(X:K.In h)(hb:mg x=some (.ref C))(q:excIn K C bB nid=true):OwnCls x C bB nid mg h:=by
 have hobj:∃bm N nm q' bs hdct sn sub ab col dd k0 k1 k2 k3 k5 mN,h.get? C=some (excClassObj nm q' C N bs bm hdct sn sub ab col dd k0 k1 k2 k3 k5 nid)∧h.Ns N mN∧mN "__init__"=none∧OwnTail h bB bm:=by
  unfold excIn at q
  split at q
  case h_2=>exact absurd q (by simp)
  case h_1 d0 c0 s0 hK =>
   split at q
   case h_2=>exact absurd q (by simp)
   case h_1 C1 b1 u0 u1 u2 u3 u4 u5 e1 e2 =>
    rw[and_eq_true,and_eq_true,and_eq_true,and_eq_true,and_eq_true]at q;obtain⟨⟨⟨⟨⟨y1,y2⟩,y3⟩,g4⟩,g5⟩,y6⟩:=q;have g1:C1=C:=beq_iff_eq.mp y1;have g2:u4=nid:=beq_iff_eq.mp y2;have g3:c0.hasDel=false:=by simpa using y3
    have g6:nsIn K c0.ns "__init__"=some none:=beq_iff_eq.mp y6;clear y1 y2 y3 y6;cases c0;cases s0;dsimp only at e1 e2 g3 g5 g6;subst g1 g2 g3 e1 e2;exact⟨_,_,_,_,_,_,_,_,_,_,_,_,_,_,_,_,_,X _ _ hK,Heap.Ns.of_isNs (PySem.W.isNs_of_in X g5),PySem.W.nsMap_none_of_in X g5 g6,PySem.W.tail_of_in X g4⟩
 exact⟨hb,hobj⟩
theorem xI{α:Type}{P:List α→Prop}{us:List α}(hl:us.length=0)(h:P []):P us:=by cases us with|nil=>exact h|cons a r=>cases hl
theorem wX{α:Type}{P:List α→Prop}{us:List α}(hl:us.length=1)(h:∀a0,P [a0]):P us:=by cases us with|nil=>cases hl|cons a r=>exact xI (P:=λr=>P (a::r)) (Nat.succ.inj hl) (h a)
theorem wY{α:Type}{P:List α→Prop}{us:List α}(hl:us.length=2)(h:∀a0 a1,P [a0,a1]):P us:=by cases us with|nil=>cases hl|cons a r=>exact wX (P:=λr=>P (a::r)) (Nat.succ.inj hl) (h a)
theorem wZ{α:Type}{P:List α→Prop}{us:List α}(hl:us.length=3)(h:∀a0 a1 a2,P [a0,a1,a2]):P us:=by cases us with|nil=>cases hl|cons a r=>exact wY (P:=λr=>P (a::r)) (Nat.succ.inj hl) (h a)
theorem xa{α:Type}{P:List α→Prop}{us:List α}(hl:us.length=4)(h:∀a0 a1 a2 a3,P [a0,a1,a2,a3]):P us:=by cases us with|nil=>cases hl|cons a r=>exact wZ (P:=λr=>P (a::r)) (Nat.succ.inj hl) (h a)
theorem xJ{α:Type}{P:List α→Prop}{us:List α}(hl:us.length=5)(h:∀a0 a1 a2 a3 a4,P [a0,a1,a2,a3,a4]):P us:=by cases us with|nil=>cases hl|cons a r=>exact xa (P:=λr=>P (a::r)) (Nat.succ.inj hl) (h a)
abbrev gA(K:PySem.W.Frag)(x:Str)(f:Addr):Prop:=nsIn K mainGlobals x=some (some (.ref f))
abbrev gN(K:PySem.W.Frag)(x:Str):Prop:=nsIn K mainGlobals x=some none
theorem fh{P:Program}{w:World}{K:PySem.W.Frag}{mg:Str→Option Value}{base h:Heap}{k:Nat}{x q:Str}{st:Stmt}{f:Addr}{fd:FuncData}{ps:List Str}{sp:Sp}(X:K.In h)(G:h.Ns mainGlobals mg)(F:Fun K x q st f fd)(a:gA K x f)(b:dM K fd ps [])(O:FnOk P w K mg base CX0 k f fd ps sp):Has P w K mg base k x ps sp:=⟨f,fd,O,mg_of X G a,F.kp,b⟩
theorem fhX{P:Program}{w:World}{K:PySem.W.Frag}{mg:Str→Option Value}{base h:Heap}{k:Nat}{x q:Str}{st:Stmt}{f:Addr}{fd:FuncData}{ps:List Str}{sp:Sp}(X:K.In h)(G:h.Ns mainGlobals mg)(F:Fun K x q st f fd)(a:gA K x f)(b:dM K fd ps [])(O:FnOk P w K mg base (CX1 P w) k f fd ps sp):dG P w K mg base k x ps sp:=⟨f,fd,O,mg_of X G a,F.kp,b⟩
theorem fb1{K:PySem.W.Frag}{x q a0:Str}{st:Stmt}{f:Addr}{fd:FuncData}(F:Fun K x q st f fd)(h:∀(kV doc pm:Value) (an:Option Addr) (cdv ct v0:Value),bindArgs (fnOf x q (di st) (bA st) (ah st) .none kV doc pm an cdv ct) ⟨[v0],[]⟩=pure (List.zip [a0] [v0]):=by intros;rfl):dM K fd [a0] []:=F.binds λkV doc pm an cdv ct us hl=>wX (P:=λus=>bindArgs _ ⟨us,[]⟩=pure (List.zip _ us)) hl (h kV doc pm an cdv ct)
theorem fb2{K:PySem.W.Frag}{x q a0 a1:Str}{st:Stmt}{f:Addr}{fd:FuncData}(F:Fun K x q st f fd)(h:∀(kV doc pm:Value) (an:Option Addr) (cdv ct v0 v1:Value),bindArgs (fnOf x q (di st) (bA st) (ah st) .none kV doc pm an cdv ct) ⟨[v0,v1],[]⟩=pure (List.zip [a0,a1] [v0,v1]):=by intros;rfl):dM K fd [a0,a1] []:=F.binds λkV doc pm an cdv ct us hl=>wY (P:=λus=>bindArgs _ ⟨us,[]⟩=pure (List.zip _ us)) hl (h kV doc pm an cdv ct)
theorem fb3{K:PySem.W.Frag}{x q a0 a1 a2:Str}{st:Stmt}{f:Addr}{fd:FuncData}(F:Fun K x q st f fd)(h:∀(kV doc pm:Value) (an:Option Addr) (cdv ct v0 v1 v2:Value),bindArgs (fnOf x q (di st) (bA st) (ah st) .none kV doc pm an cdv ct) ⟨[v0,v1,v2],[]⟩=pure (List.zip [a0,a1,a2] [v0,v1,v2]):=by intros;rfl):dM K fd [a0,a1,a2] []:=F.binds λkV doc pm an cdv ct us hl=>wZ (P:=λus=>bindArgs _ ⟨us,[]⟩=pure (List.zip _ us)) hl (h kV doc pm an cdv ct)
theorem fb4{K:PySem.W.Frag}{x q a0 a1 a2 a3:Str}{st:Stmt}{f:Addr}{fd:FuncData}(F:Fun K x q st f fd)(h:∀(kV doc pm:Value) (an:Option Addr) (cdv ct v0 v1 v2 v3:Value),bindArgs (fnOf x q (di st) (bA st) (ah st) .none kV doc pm an cdv ct) ⟨[v0,v1,v2,v3],[]⟩=pure (List.zip [a0,a1,a2,a3] [v0,v1,v2,v3]):=by intros;rfl):dM K fd [a0,a1,a2,a3] []:=F.binds λkV doc pm an cdv ct us hl=>xa (P:=λus=>bindArgs _ ⟨us,[]⟩=pure (List.zip _ us)) hl (h kV doc pm an cdv ct)
theorem fb5{K:PySem.W.Frag}{x q a0 a1 a2 a3 a4:Str}{st:Stmt}{f:Addr}{fd:FuncData}(F:Fun K x q st f fd)(h:∀(kV doc pm:Value) (an:Option Addr) (cdv ct v0 v1 v2 v3 v4:Value),bindArgs (fnOf x q (di st) (bA st) (ah st) .none kV doc pm an cdv ct) ⟨[v0,v1,v2,v3,v4],[]⟩=pure (List.zip [a0,a1,a2,a3,a4] [v0,v1,v2,v3,v4]):=by intros;rfl):dM K fd [a0,a1,a2,a3,a4] []:=F.binds λkV doc pm an cdv ct us hl=>xJ (P:=λus=>bindArgs _ ⟨us,[]⟩=pure (List.zip _ us)) hl (h kV doc pm an cdv ct)
theorem wq{l:PySem.W.OpenLaw}{w:World}{K:PySem.W.Frag}{h:Heap}{mg:Str→Option Value}{fa f1 f2 f3 f4 f5 f6 f7 f8 f9 f10 f11 f12 f13 f14 f15 f16 f17 f18 f19 f20 f21 f22 f23 f24 f25 f26 f27 f28 f29 f30 f31 f32 f33:Addr}(X:K.In h)(G:h.Ns mainGlobals mg)(hfa:mg "law"=some (.ref fa)){d1 d2 d3 d4 d5 d6 d7 d8 d9 d10 d11 d12 d13 d14 d15 d16 d17 d18 d19 d20 d21 d22 d23 d24 d25 d26 d27 d28 d29 d30 d31 d32 d33:FuncData}{t1:Tok}(a1:gA K "numbers_inside" f1)(F1:Fun K "numbers_inside" "numbers_inside" vx f1 d1)(a2:gA K "by_number" f2)(F2:Fun K "by_number" "by_number" vz f2 d2)(a3:gA K "node_of" f3)(F3:Fun K "node_of" "node_of" vA f3 d3)(a4:gA K "check_folder" f4)(F4:Fun K "check_folder" "check_folder" vB f4 d4)(a5:gA K "below" f5)(F5:Fun K "below" "below" vC f5 d5)(a6:gA K "check_place" f6)(F6:Fun K "check_place" "check_place" vD f6 d6)(a7:gA K "with_node" f7)(F7:Fun K "with_node" "with_node" ol f7 d7)(a8:gA K "make" f8)(F8:Fun K "make" "make" qD f8 d8)(a9:gA K "write" f9)(F9:Fun K "write" "write" mZ f9 d9)(a10:gA K "move" f10)(F10:Fun K "move" "move" qF f10 d10)(a11:gA K "drop" f11)(F11:Fun K "drop" "drop" om f11 d11)(a12:gA K "done" f12)(F12:Fun K "done" "done" qG f12 d12)(a13:gA K "nodes_needed" f13)(F13:Fun K "nodes_needed" "nodes_needed" cM f13 d13)(a14:gA K "check_kinds" f14)(F14:Fun K "check_kinds" "check_kinds" dW f14 d14)(a15:gA K "next_drop" f15)(F15:Fun K "next_drop" "next_drop" fe f15 d15)(a16:gA K "is_refused" f16)(F16:Fun K "is_refused" "is_refused" eK f16 d16)(a17:gA K "placings" f17)(F17:Fun K "placings" "placings" gh f17 d17)(a18:gA K "name_at" f18)(F18:Fun K "name_at" "name_at" ig f18 d18)(a19:gA K "writes" f19)(F19:Fun K "writes" "writes" gT f19 d19)(a20:gA K "free_name" f20)(F20:Fun K "free_name" "free_name" ff f20 d20)(a21:gA K "next_deed" f21)(F21:Fun K "next_deed" "next_deed" fg f21 d21)(a22:gA K "in_steps" f22)(F22:Fun K "in_steps" "in_steps" gk f22 d22)(a23:gA K "_law_cell" f23)(F23:Fun K "_law_cell" "_law_cell" qH f23 d23)(a24:gA K "_law_pick" f24)(F24:Fun K "_law_pick" "_law_pick" qI f24 d24)(a25:gA K "_law_tree" f25)(F25:Fun K "_law_tree" "_law_tree" ik f25 d25)(a26:gA K "_law_book" f26)(F26:Fun K "_law_book" "_law_book" qJ f26 d26)(a27:gA K "_law_under" f27)(F27:Fun K "_law_under" "_law_under" na f27 d27)(a28:gA K "_law_done" f28)(F28:Fun K "_law_done" "_law_done" cw f28 d28)(a29:gA K "_law_deed" f29)(F29:Fun K "_law_deed" "_law_deed" iu f29 d29)(a30:gA K "_law_further" f30)(F30:Fun K "_law_further" "_law_further" vE f30 d30)(a31:gA K "_law_same_kinds" f31)(F31:Fun K "_law_same_kinds" "_law_same_kinds" aB f31 d31)(a32:gA K "_law_kept_in_place" f32)(F32:Fun K "_law_kept_in_place" "_law_kept_in_place" au f32 d32)(a33:gA K "law" f33)(F33:Fun K "law" "law" cN f33 d33)(z1:gN K "isinstance")(z2:gN K "dict")(z3:gN K "len")(z4:gN K "tuple")(z5:gN K "list")(z6:gN K "range")(z7:gN K "sorted")(z8:gN K "reversed")(z9:gN K "ValueError")(z10:gN K "str")(z11:gN K "set")(z12:gN K "max")(z13:gN K "min")(z14:gN K "sum")(z15:gN K "zip")(z16:gN K "enumerate")(z17:gN K "all")(z18:gN K "int")(z19:gN K "bool")(v1t:nsIn K mainGlobals "TOP"=some (some (.int 0 t1))){t2:Tok}(v2t:nsIn K mainGlobals "LETTERS"=some (some (.str "abcdefghijklmnopqrstuvwxyz" t2))){DT CN B0 B1 B2 B3 B4 B5:Addr}(xD:nsIn K mainGlobals "TreeError"=some (some (.ref DT)))(gD:ktsIn K DT "BaseException"=true)(x0:nsIn K mainGlobals "Inside"=some (some (.ref B0)))(q0:excIn K B0 bmV "ValueError.__new__"=true)(s0:subIn K (.ref B0) (.ref DT)=some true)(x1:nsIn K mainGlobals "Known"=some (some (.ref B1)))(q1:excIn K B1 bmV "ValueError.__new__"=true)(s1:subIn K (.ref B1) (.ref DT)=some true)(x2:nsIn K mainGlobals "NoNode"=some (some (.ref B2)))(q2:excIn K B2 bmV "ValueError.__new__"=true)(s2:subIn K (.ref B2) (.ref DT)=some true)(x3:nsIn K mainGlobals "NotFile"=some (some (.ref B3)))(q3:excIn K B3 bmV "ValueError.__new__"=true)(s3:subIn K (.ref B3) (.ref DT)=some true)(x4:nsIn K mainGlobals "NotFolder"=some (some (.ref B4)))(q4:excIn K B4 bmV "ValueError.__new__"=true)(s4:subIn K (.ref B4) (.ref DT)=some true)(x5:nsIn K mainGlobals "Taken"=some (some (.ref B5)))(q5:excIn K B5 bmV "ValueError.__new__"=true)(s5:subIn K (.ref B5) (.ref DT)=some true)(xN:nsIn K mainGlobals "NoMatch"=some (some (.ref CN)))(qN:excIn K CN bmV "ValueError.__new__"=true):
  ∃fd:FuncData,(∀(s:Shared)(v:Value),BindsTo s fd ⟨[v],[]⟩ [("_law_script",v)])∧∀base:Heap,K.In base→base.Ns mainGlobals mg→FnOk l.prog w K mg base CX0 8 fa fd ["_law_script"] (oP K):=by
 have e:=hfa.symm.trans (mg_of X G a33);cases e;have T:Txt mg:=⟨mg_none_of X G z1,mg_none_of X G z2,mg_none_of X G z3,mg_none_of X G z4,mg_none_of X G z5,mg_none_of X G z6,mg_none_of X G z7,mg_none_of X G z8,mg_none_of X G z9,mg_none_of X G z10,mg_none_of X G z11,mg_none_of X G z12,mg_none_of X G z13,mg_none_of X G z14,mg_none_of X G z15,mg_none_of X G z16,mg_none_of X G z17,mg_none_of X G z18,mg_none_of X G z19,⟨_,mg_of X G v1t⟩,⟨_,mg_of X G v2t⟩⟩
 let cls:TW.Wd→Addr:=λwd=>match wd with | .inside=>B0 | .known=>B1 | .noNode=>B2 | .notFile=>B3 | .notFolder=>B4 | .taken=>B5
 have LT:TreR mg K cls DT:=⟨mg_of X G xD,gD,λwd=>match wd with | .inside=>s0 | .known=>s1 | .noNode=>s2 | .notFile=>s3 | .notFolder=>s4 | .taken=>s5⟩
 have hb:∀(s:Shared)(v:Value),BindsTo s d33 ⟨[v],[]⟩ [("_law_script",v)]:=by
  obtain⟨_,_,_,_,_,_,_,_,_,e,_,_⟩:=F33.ex;subst e;exact λs v=>.of_eq rfl
 refine⟨d33,hb,λbase KB _=>?_⟩
 let H:=Has l.prog w K mg base
 let HX:=dG l.prog w K mg base
 have W6:sQ mg base cls:=λwd=>match wd with | .inside=>gu KB (mg_of X G x0) q0 | .known=>gu KB (mg_of X G x1) q1 | .noNode=>gu KB (mg_of X G x2) q2 | .notFile=>gu KB (mg_of X G x3) q3 | .notFolder=>gu KB (mg_of X G x4) q4 | .taken=>gu KB (mg_of X G x5) q5
 have OW:lE "NoMatch" mg base CN:=gu KB (mg_of X G xN) qN;have C_numbers_inside:H 1 "numbers_inside" ["nodes","folder"] oo:=fh X G F1 a1 (fb2 F1) (vF F1 T);have C_by_number:H 1 "by_number" ["tree"] eQ:=fh X G F2 a2 (fb1 F2) (vG F2 T);have C_node_of:HX 1 "node_of" ["nodes","number"] (jd (cls .noNode)):=fhX X G F3 a3 (fb2 F3) (vH F3 (W6 .noNode));have C_check_folder:HX 2 "check_folder" ["nodes","number"] (ou (cls .noNode) (cls .notFolder)):=fhX X G F4 a4 (fb2 F4) (vJ F4 T (W6 .notFolder) C_node_of);have C_below:HX 2 "below" ["tree","number"] (oq (cls .noNode)):=fhX X G F5 a5 (fb2 F5) (vI F5 T C_by_number C_node_of C_numbers_inside);have C_check_place:HX 1 "check_place" ["tree","number","parent","name"] (lH (cls .taken)):=fhX X G F6 a6 (fb4 F6) (vK F6 (W6 .taken));have C_with_node:H 1 "with_node" ["tree","changed"] je:=fh X G F7 a7 (fb2 F7) (sS F7 T);have C_make:HX 3 "make" ["tree","number","parent","name","stamp"] (nb cls):=fhX X G F8 a8 (fb5 F8) (sT F8 T W6 C_by_number C_check_folder C_check_place);have C_write:HX 2 "write" ["tree","number","stamp"] (kw cls):=fhX X G F9 a9 (fb3 F9) (qM F9 W6 C_by_number C_node_of C_with_node);have C_move:HX 3 "move" ["tree","number","parent","name"] (nc cls):=fhX X G F10 a10 (fb4 F10) (sU F10 W6 C_by_number C_node_of C_check_folder C_below C_check_place C_with_node);have C_drop:HX 3 "drop" ["tree","number"] (nh cls):=fhX X G F11 a11 (fb2 F11) (sV F11 T C_by_number C_node_of C_below);have C_done:HX 4 "done" ["tree","deed"] (kx cls):=fhX X G F12 a12 (fb2 F12) (sW F12 C_make C_write C_move C_drop);have C_nodes_needed:H 2 "nodes_needed" ["now","goal"] qT:=fh X G F13 a13 (fb2 F13) (vN F13 T C_by_number);have C_check_kinds:HX 2 "check_kinds" ["old","new"] (qU CN):=fhX X G F14 a14 (fb2 F14) (vO F14 OW C_by_number);have C_next_drop:H 3 "next_drop" ["now","goal"] qV:=fh X G F15 a15 (fb2 F15) (vP F15 T C_nodes_needed);have C_is_refused:H 5 "is_refused" ["tree","deed"] qX:=fh X G F16 a16 (fb2 F16) (vQ F16 LT C_done);have C_placings:H 2 "placings" ["now","new"] qY:=fh X G F17 a17 (fb2 F17) (vR F17 C_by_number);have C_name_at:H 1 "name_at" ["count"] qZ:=fh X G F18 a18 (fb1 F18) (vS F18 T);have C_writes:H 2 "writes" ["now","new"] rc:=fh X G F19 a19 (fb2 F19) (vT F19 C_by_number);have C_free_name:H 2 "free_name" ["now","new"] re:=fh X G F20 a20 (fb2 F20) (vU F20 T C_name_at);have C_next_deed:H 6 "next_deed" ["now","new","deeds"] rg:=fh X G F21 a21 (fb3 F21) ((vV F21 T C_by_number C_next_drop C_placings C_is_refused C_free_name).imp tz);have C_in_steps:HX 7 "in_steps" ["old","new"] (lN CN):=fhX X G F22 a22 (fb2 F22) (tD F22 C_check_kinds C_next_deed C_done C_writes);have C__law_cell:H 1 "_law_cell" ["_law_script","_law_k"] (nG K):=fh X G F23 a23 (fb2 F23) (tP F23 T);have C__law_pick:H 2 "_law_pick" ["_law_script","_law_k","_law_many"] (dY K):=fh X G F24 a24 (fb3 F24) (tQ F24 T C__law_cell);have C__law_tree:H 3 "_law_tree" ["_law_script","_law_at","_law_most"] (iI K):=fh X G F25 a25 (fb3 F25) (rN F25 T C__law_pick);have C__law_book:H 1 "_law_book" ["_law_tree_here"] fm:=fh X G F26 a26 (fb1 F26) (tL F26 T);have C__law_under:H 1 "_law_under" ["_law_book_here","_law_number","_law_goal"] fT:=fh X G F27 a27 (fb3 F27) (wa F27);have C__law_done:H 2 "_law_done" ["_law_tree_here","_law_deed_here"] kQ:=fh X G F28 a28 (fb2 F28) (rL F28 T C__law_book C__law_under);have C__law_deed:H 3 "_law_deed" ["_law_script","_law_at","_law_tree_here"] (nH K):=fh X G F29 a29 (fb3 F29) (tR F29 T C__law_pick);have C__law_further:H 4 "_law_further" ["_law_script","_law_at","_law_tree_here","_law_many"] (oM K):=fh X G F30 a30 (fb4 F30) (wm F30 T C__law_deed C__law_done);have C__law_same_kinds:H 2 "_law_same_kinds" ["_law_one","_law_other"] oK:=fh X G F31 a31 (fb2 F31) (wc F31 T C__law_book);have C__law_kept_in_place:H 2 "_law_kept_in_place" ["_law_one","_law_other"] oO:=fh X G F32 a32 (fb2 F32) (wo F32 T C__law_book C__law_under);exact wp F33 T C__law_tree C__law_pick C__law_further C__law_same_kinds C__law_kept_in_place C__law_book C_in_steps
theorem walk{l:PySem.W.OpenLaw}{q:Program}{loose:List Str}{XP:(Str→Option Value)→Heap→Prop}{YP:World→Heap→Prop}{d:DefRec}{K:Params→PySem.W.Frag}(hn:l.most=some 63)(hdf:d.params.defaults=[])(hY:∀(w:World) (h:Heap),YP w h→(K w.params).In h)(F:∀(w:World) (mg:Str→Option Value) (fa:Addr) (h:Heap),(K w.params).In h→h.Ns mainGlobals mg→mg d.name=some (.ref fa) →
   ∃fd:FuncData,(∀(s:Shared) (u:Value),BindsTo s fd ⟨[u],[]⟩ [("_law_script",u)])∧∀base:Heap,(K w.params).In base→base.Ns mainGlobals mg→FnOk l.prog w (K w.params) mg base CX0 8 fa fd ["_law_script"] (oP (K w.params))):
  PySem.W.WalkO q loose XP YP l.row.toRowW d [] (λf vs=>PySem.call f vs) :=
 L2.sv (n:=63) (k:=8) (x:="_law_script") (CX:=λ_=>CX0) (sp:=λw=>oP (K w.params)) hn (by decide) hdf ⟨rfl,by decide,by decide,rfl⟩ hY F (λ_ _ a ns hl _ hS=>⟨a,ns,rfl,hS,hl,λ_=>rfl⟩) λ_ _ _ _ _ z=>z
end TK
end
open PySem PySem.W PyProof.Rows
def PySem.W.Fast.tw3604501717443142573:Unit:=()
def PySem.W.Fast.tw15223517607162103334:Unit:=()
def PySem.W.Fast.tw3961845252353299019:Unit:=()
def PySem.W.Fast.tw9496230686145354073:Unit:=()
def PySem.W.Fast.tw11913840626859561004:Unit:=()
def PySem.W.Fast.tw17976987815619510599:Unit:=()
def PySem.W.Fast.tw12849346552488347561:Unit:=()
def PySem.W.Fast.tw11051709149127190713:Unit:=()
def PySem.W.Fast.tw8891014191491638882:Unit:=()
def PySem.W.Fast.tw1940509462034363741:Unit:=()
def PySem.W.Fast.tw1355665348741355218:Unit:=()
def PySem.W.Fast.tw15180069145386647939:Unit:=()
def PySem.W.Fast.tw6582921178206860240:Unit:=()
def PySem.W.Fast.tw17658289322338687917:Unit:=()
def PySem.W.Fast.tw13144298517761429879:Unit:=()
def PySem.W.Fast.tw15974996391237970258:Unit:=()
def PySem.W.Fast.tw6248270424440772664:Unit:=()
def PySem.W.Fast.tw9842499568719866430:Unit:=()
def PySem.W.Fast.tw8739393332871557126:Unit:=()
def PySem.W.Fast.tw18431226204046567717:Unit:=()
def PySem.W.Fast.tw5598084350859350060:Unit:=()
def PySem.W.Fast.tw7336777302410250479:Unit:=()
def PySem.W.Fast.tw11271145421337975922:Unit:=()
def PySem.W.Fast.tw13926543893777452711:Unit:=()
def PySem.W.Fast.tw7891632294065425793:Unit:=()
def PySem.W.Fast.tw15188114457111846819:Unit:=()
def PySem.W.Fast.tw4737638326568768751:Unit:=()
def PySem.W.Fast.tw4638197841239283985:Unit:=()
def PySem.W.Fast.tw2002875214390015311:Unit:=()
def PySem.W.Fast.tw10996351620640963581:Unit:=()
def PySem.W.Fast.tw9198985528302060356:Unit:=()
def PySem.W.Fast.tw17300343794274096565:Unit:=()
def PySem.W.Fast.tw13612458790717012329:Unit:=()
def PySem.W.Fast.tw1926653013045104414:Unit:=()
def PySem.W.Fast.tw11365432061347901220:Unit:=()
def PySem.W.Fast.tw15479447525053715928:Unit:=()
def PySem.W.Fast.tw1332947234847822566:Unit:=()
def PySem.W.Fast.tw3243852701344078319:Unit:=()
def PySem.W.Fast.tw5868582427263786685:Unit:=()
def PySem.W.Fast.tw3722052212572712046:Unit:=()
def PySem.W.Fast.tw15010580636315567000:Unit:=()
def PySem.W.Fast.tw11477347674285501535:Unit:=()
def PySem.W.Fast.tw3035281429972836166:Unit:=()
def PySem.W.Fast.tw10806017504566232740:Unit:=()
def PySem.W.Fast.tw11600835887611191760:Unit:=()
def PySem.W.Fast.tw16919111713074146278:Unit:=()
def PySem.W.Fast.tw5907021368425808144:Unit:=()
def PySem.W.Fast.tw13179569031912136054:Unit:=()
def PySem.W.Fast.tw100119413539722635:Unit:=()
def PySem.W.Fast.tw14279239277925783174:Unit:=()
def PySem.W.Fast.tw4593835506276403516:Unit:=()
def PySem.W.Fast.tw5687462379978201105:Unit:=()
def PySem.W.Fast.tw12300678439948351462:Unit:=()
def PySem.W.Fast.tw3678910937856796492:Unit:=()
def PySem.W.Fast.tw2719764378667598715:Unit:=()
def PySem.W.Fast.tw11988235640991953110:Unit:=()
def PySem.W.Fast.tw17941501977460246792:Unit:=()
set_option maxRecDepth 100000 in
set_option maxHeartbeats 0 in
theorem PySem.Challenge.cw_treewatch_k32_whole_few_holds : PySem.Challenge.rw_treewatch_k32_whole_few.Holds := by
 w_on; o_law; k_head; (case hw=>w_witness2)
 k_fill
 refine TK.walk (l:=PySem.Challenge.rw_treewatch_k32_whole_few) rfl rfl (λw h Y=>PySem.W.kIn_of Y) ?F
 case F =>
  intro w mg fa h KX G hmg
  refine' TK.wq KX G hmg ?a1 ?F1 ?a2 ?F2 ?a3 ?F3 ?a4 ?F4 ?a5 ?F5 ?a6 ?F6 ?a7 ?F7 ?a8 ?F8 ?a9 ?F9 ?a10 ?F10 ?a11 ?F11 ?a12 ?F12 ?a13 ?F13 ?a14 ?F14 ?a15 ?F15 ?a16 ?F16 ?a17 ?F17 ?a18 ?F18 ?a19 ?F19 ?a20 ?F20 ?a21 ?F21 ?a22 ?F22 ?a23 ?F23 ?a24 ?F24 ?a25 ?F25 ?a26 ?F26 ?a27 ?F27 ?a28 ?F28 ?a29 ?F29 ?a30 ?F30 ?a31 ?F31 ?a32 ?F32 ?a33 ?F33 ?z1 ?z2 ?z3 ?z4 ?z5 ?z6 ?z7 ?z8 ?z9 ?z10 ?z11 ?z12 ?z13 ?z14 ?z15 ?z16 ?z17 ?z18 ?z19 ?v1t ?v2t ?xD ?gD ?x0 ?q0 ?s0 ?x1 ?q1 ?s1 ?x2 ?q2 ?s2 ?x3 ?q3 ?s3 ?x4 ?q4 ?s4 ?x5 ?q5 ?s5 ?xN ?qN
  (case a1|a2|a3|a4|a5|a6|a7|a8|a9|a10|a11|a12|a13|a14|a15|a16|a17|a18|a19|a20|a21|a22|a23|a24|a25|a26|a27|a28|a29|a30|a31|a32|a33=>unfold TK.gA; k_is)
  (case F1|F2|F3|F4|F5|F6|F7|F8|F9|F10|F11|F12|F13|F14|F15|F16|F17|F18|F19|F20|F21|F22|F23|F24|F25|F26|F27|F28|F29|F30|F31|F32|F33=>apply L2.vg <;> k_is)
  (case z1|z2|z3|z4|z5|z6|z7|z8|z9|z10|z11|z12|z13|z14|z15|z16|z17|z18|z19=>unfold TK.gN; k_is)
  (case v1t|v2t|xD=>k_is)
  (case gD=>kts_isx)
  (case x0=>k_is)
  (case q0=>k_exc)
  (case s0|x1=>k_is)
  (case q1=>k_exc)
  (case s1|x2=>k_is)
  (case q2=>k_exc)
  (case s2|x3=>k_is)
  (case q3=>k_exc)
  (case s3|x4=>k_is)
  (case q4=>k_exc)
  (case s4|x5=>k_is)
  (case q5=>k_exc)
  (case s5|xN=>k_is)
  (case qN=>k_exc)
