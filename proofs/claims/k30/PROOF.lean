import PyProof.Rows.All
import Wide.All
import OpenK.AllK
import Wide.FinOn
import Lean
import PyProof.EqAt
import PyProof.EqKinds
import PyProof.TupleCall
import PyProof.CompFree
import PySem.SetTable
import PyProof.SetScanFacts
import PyProof.TupleKey
import PyProof.SetKind
import PyProof.IsRules
import PyProof.SetRoads
import PyProof.InstSpecial
import PyProof.Rows.SetFrom
import KE.KSortTup
import PyProof.StrWalks
import PyProof.EnumMake
import PyProof.ConsumeWalk
import PyProof.ListRange
import PyProof.NeKinds
import PyProof.ZipIter
import KE.KTryDeep
import OpenK.KOwn
import PyProof.RulesAs
import PyProof.NsDelKeeps
import PyProof.ExcArgsOwn
import PyProof.ExcAttrAll.ValueError
import KE.KIsAll
import OpenK.KNot
import PyProof.IsiH_list
import PyProof.Rows.FStr
import KE.KDictOf
import PyProof.AttrMissHeap
import PyProof.DictIter
import PyProof.DictWalks
import PyProof.Rows.DictUnroll
import KE.KRevIter
import KE.KDictList
import PyProof.CollectIter
import PyProof.TupleOfGen
import KE.KSortKey
import PyProof.FactsAll.NoneType_1
import PyProof.CompUse
import PyProof.Rows.FStrParts
import PyProof.StrLaws
import PySem.Challenge.RW_treewatch_k30_in_steps
set_option Elab.async false
set_option linter.all false
set_option maxRecDepth 100000
set_option maxHeartbeats 8000000
open PySem.W (instObj methodObj hideAll hideAll_get of_hideAll lookIn plainGet mroIn kitOne kia_one kitx_list kitx_dict keepIn callWith_K fnOf codeIn kat_cons KatTups kat_lt_int subIn looks_subIn excIn nsIn mg_of mg_none_of)
open PyProof.Rows (boot_dict boot_sorted boot_isinstance boot_str)
open PySem.F (slot_tuple_add entry_tuple_add args_tuple_add_2 slot_dict_pop slot_dict_keyiterator_next plainAttrs_list slot_list_pop type_list_pop)
open List (mem_filter mem_range mem_cons_self mem_cons_of_mem mem_cons mem_append mem_append_left getElem_inj getElem?_set_self mem_append_right size_toArray append_nil nodup_cons of_mem_zip length length_take getElem?_map mem_of_getElem? length_append length_map map_nil map_cons any_cons length_singleton find?_cons cons_append length_cons length_nil filter_cons length_filter_le toArray find?_eq_none find?_some mem_map any_map any_eq_true length_range getD_eq_getElem?_getD getElem?_eq_getElem getElem_mem ext_getElem? getElem?_eq_none map_map map_congr_left not_mem_nil take_succ nodup_nil map_append take_length filter_append filter_cons_of_pos filter_cons_of_neg all_eq_true filter_eq_nil_iff filter_congr Nodup pairwise_map pairwise_cons append_assoc filter_sublist filter_map Sublist nodup_append nil_append cons_ne_nil mem_singleton take_append_drop foldl_cons any_nil)
open Nat (lt_of_lt_of_le lt_irrefl ne_of_lt le_trans le_of_lt le_refl zero_le le_succ lt_trans le_of_eq lt_of_le_of_lt lt_succ_of_lt min_self)
open Array (length_toList toList getElem?_toList getD_eq_getD_getElem?)
open Option (getD_none map_some isSome_map)
open Bool (and_eq_true false_eq_true)
open PySem.Heap (lt_size SameBut get?_push_of_some get?_push_size size_push FlyingW)
open PySem.Calls (Name_function_global spliced_cons evalArgs_plain)
open PySem.SeqAt (EqAt in_listAt eq_listAt RcAt RcNeAt)
open PySem.Value (float type builtin)
open PySem (SetTable boot_len)
open PySem.Str (empty ofString ext')
open Ne (symm)
noncomputable section
namespace L2
open PySem PySem.Spec PyProof.Rows
abbrev Key:=Sum Int Str
def jZ:Key→Value→Bool
 |.inl k,v=>Value.isInt k v
 |.inr x,v=>Value.isStrOf x v
def yZ(w:World):Key→Int
 |.inl k=>hashInt k
 |.inr x=>hashStr w x
theorem bq:∀{k:Key}{v:Value},jZ k v=true→(∃i t,k=Sum.inl i∧v=Value.int i t)∨(∃x t,k=Sum.inr x∧v=Value.str x t)
 |.inl i,v,h=>by
  obtain⟨t,e⟩:=Value.isInt_shape (k:=i) (v:=v) h;exact .inl ⟨i,t,rfl,e⟩
 |.inr x,v,h=>by
  obtain⟨t,e⟩:=Value.isStrOf_shape (x:=x) (v:=v) h;exact .inr ⟨x,t,rfl,e⟩
theorem qD(i:Int)(t:Tok):jZ (.inl i) (.int i t)=true:=by simp[jZ,Value.isInt]
theorem qF(x:Str)(t:Tok):jZ (.inr x) (.str x t)=true:=by simp[jZ,Value.isStrOf]
theorem wn(a b:Int):decide ((Sum.inl a:Key)=Sum.inl b)=(a==b):=by
 by_cases e:a=b
 ·subst e;simp
 ·have h:¬(Sum.inl a:Key)=Sum.inl b:=λq=>e (Sum.inl.inj q);rw[decide_eq_false h];exact(beq_eq_false_iff_ne.mpr e).symm
theorem wo(a b:Str):decide ((Sum.inr a:Key)=Sum.inr b)=decide (a=b):=by
 by_cases e:a=b
 ·subst e;simp
 ·have h:¬(Sum.inr a:Key)=Sum.inr b:=λq=>e (Sum.inr.inj q);rw[decide_eq_false h,decide_eq_false e]
theorem wp(a:Int)(b:Str):decide ((Sum.inl a:Key)=Sum.inr b)=false:=decide_eq_false (λq=>nomatch q)
theorem wq(a:Str)(b:Int):decide ((Sum.inr a:Key)=Sum.inl b)=false:=decide_eq_false (λq=>nomatch q)
def bb(prog:Program)(w:World):PySem.KeyKind prog w Key where
 is:=jZ
 hash:=yZ w
 inj:=λv a b ha hb=>by
  rcases bq ha with⟨i,t,rfl,rfl⟩|⟨x,t,rfl,rfl⟩
  ·rcases bq hb with⟨j,u,rfl,e⟩|⟨y,u,rfl,e⟩
   ·injection e with e1 _;rw[e1]
   ·exact nomatch e
  ·rcases bq hb with⟨j,u,rfl,e⟩|⟨y,u,rfl,e⟩
   ·exact nomatch e
   ·injection e with e1 _;rw[e1]
 byValue:=λk v h=>by
  rcases bq h with⟨i,t,rfl,rfl⟩|⟨x,t,rfl,rfl⟩<;>rfl
 pyHash:=λhv h=>by
  rcases bq hv with⟨i,t,rfl,rfl⟩|⟨x,t,rfl,rfl⟩
  ·exact wpAny_pyHash_int h
  ·exact wpAny_pyHash_str h
 eqBool:=λhu hv h=>by
  rcases bq hu with⟨i,t,rfl,rfl⟩|⟨x,t,rfl,rfl⟩
  ·rcases bq hv with⟨j,u,rfl,rfl⟩|⟨y,u,rfl,rfl⟩
   ·rw[wn]at h;exact wpAny_eqBool_int h
   ·rw[wp]at h;exact EqAt.int_str i t y u _ _ _ _ h
  ·rcases bq hv with⟨j,u,rfl,rfl⟩|⟨y,u,rfl,rfl⟩
   ·rw[wq]at h;exact EqAt.str_int x t j u _ _ _ _ h
   ·rw[wo]at h;exact wpAny_eqBool_str h
 «strs»:=λk x t v h=>by
  rcases bq h with⟨i,u,rfl,e⟩|⟨y,u,rfl,e⟩
  ·exact nomatch e
  ·injection e with e1 _
   subst e1;cases v<;>rfl
theorem md(prog:Program)(w:World)(i:Int)(t:Tok):(bb prog w).is (.inl i) (.int i t)=true:=qD i t
theorem mf(prog:Program)(w:World)(x:Str)(t:Tok):(bb prog w).is (.inr x) (.str x t)=true:=qF x t
inductive V where
 |non|bl (b:Bool)|int (i:Int)|str (x:Str)|byt (b:Array UInt8)|flt (b:UInt64)|ref (a:Addr)|ty (n:String)
 deriving DecidableEq
def aX:V→Value→Prop
 |.non,u=>u=Value.none
 |.bl b,u=>u=Value.bool b
 |.int i,u=>∃t,u=Value.int i t
 |.str x,u=>∃t,u=Value.str x t
 |.byt b,u=>∃t,u=Value.bytes b t
 |.flt b,u=>∃t,u=float b t
 |.ref a,u=>u=Value.ref a
 |.ty n,u=>u=type n
abbrev aT:List V→List Value→Prop:=Paired aX
theorem aT.length{xs:List V}{us:List Value}(r:aT xs us):xs.length=us.length:=Paired.length r
theorem aT.get:∀{xs:List V}{us:List Value}{i:Nat}{x:V},aT xs us→xs[i]?=some x→∃u,us[i]?=some u∧aX x u
 |_,_,_,_,.nil,e=>by simp at e
 |_,_,0,_,.cons r _,e=>by simp at e;subst e;exact⟨_,rfl,r⟩
 |_,_,i+1,x,.cons _ t,e=>by
  obtain⟨u,h1,h2⟩:=aT.get (i:=i) (x:=x) t (by simpa using e);exact⟨u,by simpa using h1,h2⟩
theorem aT.append:∀{xs ys:List V}{us ws:List Value},aT xs us→aT ys ws→aT (xs++ys) (us++ws)
 |_,_,_,_,.nil,s=>s
 |_,_,_,_,.cons r t,s=>.cons r (aT.append t s)
theorem aT.take:∀{xs:List V}{us:List Value}(n:Nat),aT xs us→aT (xs.take n) (us.take n)
 |_,_,0,_=>.nil
 |_,_,_+1,.nil=>.nil
 |_,_,n+1,.cons r t=>.cons r (aT.take n t)
theorem aT.drop:∀{xs:List V}{us:List Value}(n:Nat),aT xs us→aT (xs.drop n) (us.drop n)
 |_,_,0,r=>r
 |_,_,_+1,.nil=>.nil
 |_,_,n+1,.cons _ t=>aT.drop n t
def gP:Option V→Option Value→Prop
 |some v,some u=>aX v u
 |none,none=>True
 |_,_=>False
def KV{κ:Type}:List (κ×V)→List (κ×Value)→Prop:=Paired λ(p:κ×V) (q:κ×Value)=>p.1=q.1∧aX p.2 q.2
def kV:Key→V
 |.inl i=>.int i
 |.inr x=>.str x
inductive HO where
 |lst (xs:List V)
 |tup (xs:List V)
 |dK (kvs:List (Key×V))|dT (kvs:List (List Key×V))
 |set (S:Int→Bool) (n:Nat)
 |ins (C dx:Addr) (fs:List (Str×V))
 |own (x:Addr)
 |xd (fs:List (Str×V))
 |met (f x:Addr)
 |rng (lo hi:Int)
 |frz (o:Obj) (u:HO)
 |tbl (ps:Array Value)
 |ext (φ:Heap→Prop)
abbrev Hp:=Addr→Option HO
def upd(H:Hp)(a:Addr)(o:HO):Hp:=λb=>if b=a then some o else H b
theorem ac{H:Hp}{a:Addr}{o:HO}:upd H a o a=some o:=by unfold upd;rw[if_pos rfl]
theorem ao{H:Hp}{a b:Addr}{o:HO}(h:b≠a):upd H a o b=H b:=by unfold upd;rw[if_neg h]
theorem yn{H:Hp}{a b:Addr}{o u:HO}(h:H a=some o)(h':H b=some u)(d:o≠u):a≠b:=by
 intro e;subst e;rw[h]at h';exact d (Option.some.inj h')
theorem cK{H:Hp}{a b:Addr}{o:HO}(h:H a=some o)(h':H b=none):a≠b:=by
 intro e;subst e;rw[h]at h';cases h'
section
variable(P:Program)(w:World)
def bQ(H:Hp)(h:Heap)(a:Addr):HO→Prop
 |.lst xs=>xs.length≤sizeLine∧∃(its:List Value) (n:Nat),aT xs its∧h.get? a=some {cls:=.type "list",data:=.seq its.toArray n}
 |.tup xs=>xs.length≤sizeLine∧∃its:List Value,aT xs its∧IsTup h a its.toArray
 |.dK kvs=>kvs.length≤sizeLine∧(a==sysModules)=false∧∃vs,KV kvs vs∧h.DictOf (bb P w) a vs
 |.dT kvs=>kvs.length≤sizeLine∧(a==sysModules)=false∧∃xs:List (List Key×Addr×Value),
   Paired (λ(p:List Key×V) (q:List Key×Addr×Value)=>p.1=q.1∧H q.2.1=some (.tup (p.1.map kV))∧aX p.2 q.2.2) kvs xs ∧
   ∃o es ep,h.get? a=some o∧o.ExactDict∧o.data=.dict es ep∧es.toList=xs.map (entryOfKey (tupleKind (bb P w)))∧(xs.map (·.1)).Nodup
 |.set S n=>h.SetOf (intKind P w) a S n
 |.ins C dx fs=>H dx=some (.own a)∧fs.length≤1000∧dx≠a∧h.get? a=some (instObj C dx) ∧
   ∃mA,h.Ns1 dx mA∧(∀f,gP (fs.lookup f) (mA f))∧PySem.Within mA (fs.map (·.1))
 |.own _=>∃o,h.get? a=some o
 |.xd fs=>∃mA,h.Ns1 a mA∧∀f,gP (fs.lookup f) (mA f)
 |.rng lo hi=>∃t u v,h.get? a=some {cls:=.type "range",data:=.fields #[.int lo t,.int hi u,.int 1 v]}
 |.frz o u=>h.get? a=some o∧bQ H h a u
 |.tbl ps=>h.get? a=some {cls:=.none,data:=.fields ps}
 |.met f x=>h.get? a=some (methodObj (.ref f) (.ref x))
 |.ext φ=>φ h∧(∃o,h.get? a=some o)∧∀h1 h2:Heap,φ h1→(∀o,h1.get? a=some o→h2.get? a=some o)→φ h2
def HOk(H:Hp)(h:Heap):Prop:=∀a o,H a=some o→bQ P w H h a o
end
section
variable{P:Program}{w:World}{H H':Hp}{h h':Heap}{a:Addr}{o:HO}
theorem bQ.lt(x:bQ P w H h a o):a<h.objs.size:=by
 cases o with
 |lst xs=>obtain⟨_,_,_,_,e⟩:=x;exact lt_size e
 |tup xs=>obtain⟨_,_,_,p⟩:=x;exact p.lt
 |dK kvs=>obtain⟨_,_,_,_,o,_,_,e,_⟩:=x;exact lt_size e
 |dT kvs=>obtain⟨_,_,_,_,o,_,_,e,_⟩:=x;exact lt_size e
 |set S n=>obtain⟨o,_,_,_,e,_⟩:=x;exact lt_size e
 |ins C dx fs=>obtain⟨_,_,_,e,_⟩:=x;exact lt_size e
 |own y=>obtain⟨_,e⟩:=x;exact lt_size e
 |xd fs=>obtain⟨_,⟨_,_,_,e,_⟩,_⟩:=x;exact lt_size e
 |rng lo hi=>obtain⟨_,_,_,e⟩:=x;exact lt_size e
 |frz ob u=>obtain⟨e,_⟩:=x;exact lt_size e
 |tbl ps=>exact lt_size (show h.get? a=some _ from x)
 |met f y=>exact lt_size (show h.get? a=some _ from x)
 |ext φ=>obtain⟨_,⟨_,e⟩,_⟩:=x;exact lt_size e
theorem Paired.mapP{α β:Type}{F G:α→β→Prop}:∀{l₁:List α}{l₂:List β},Paired F l₁ l₂→(∀a b,F a b→G a b)→Paired G l₁ l₂
 |_,_,.nil,_=>.nil
 |_,_,.cons r t,f=>.cons (f _ _ r) (Paired.mapP t f)
theorem bQ.stay(x:bQ P w H h a o)(k:∀b u,(b=a∨H b=some (.own a))→h.get? b=some u→h'.get? b=some u)(ho:∀b,H b=some (.own a)→H' b=some (.own a))(ht:∀b xs,H b=some (.tup xs)→H' b=some (.tup xs)):bQ P w H' h' a o:=by
 induction o with
 |lst xs=>obtain⟨z,its,n,r,e⟩:=x;exact⟨z,its,n,r,k _ _ (.inl rfl) e⟩
 |tup xs=>obtain⟨z,its,r,ob,e,c⟩:=x;exact⟨z,its,r,ob,k _ _ (.inl rfl) e,c⟩
 |dK kvs=>obtain⟨z,y,vs,r,ob,es,ep,e,c⟩:=x;exact⟨z,y,vs,r,ob,es,ep,k _ _ (.inl rfl) e,c⟩
 |dT kvs =>
  obtain⟨z,y,xs,r,ob,es,ep,e,c⟩:=x;exact⟨z,y,xs,Paired.mapP r λp q z=>⟨z.1,ht _ _ z.2.1,z.2.2⟩,ob,es,ep,k _ _ (.inl rfl) e,c⟩
 |set S n=>obtain⟨ob,es,ep,t,e,c⟩:=x;exact⟨ob,es,ep,t,k _ _ (.inl rfl) e,c⟩
 |ins C dx fs =>
  obtain⟨d,z,ne,e,mA,⟨od,es,ep,e2,c⟩,r⟩:=x;exact⟨ho _ d,z,ne,k _ _ (.inl rfl) e,mA,⟨od,es,ep,k _ _ (.inr d) e2,c⟩,r⟩
 |own y=>obtain⟨ob,e⟩:=x;exact⟨ob,k _ _ (.inl rfl) e⟩
 |xd fs=>obtain⟨mA,⟨od,es,ep,e,c⟩,r⟩:=x;exact⟨mA,⟨od,es,ep,k _ _ (.inl rfl) e,c⟩,r⟩
 |rng lo hi=>obtain⟨t,u,v,e⟩:=x;exact⟨t,u,v,k _ _ (.inl rfl) e⟩
 |frz ob u ih=>obtain⟨e,q⟩:=x;exact⟨k _ _ (.inl rfl) e,ih q⟩
 |tbl ps =>
  have e:h.get? a=some {cls:=.none,data:=.fields ps}:=x;show h'.get? a=some {cls:=.none,data:=.fields ps};exact k a _ (.inl rfl) e
 |met f y =>
  have e:h.get? a=some (methodObj (.ref f) (.ref y)):=x;show h'.get? a=some (methodObj (.ref f) (.ref y));exact k a _ (.inl rfl) e
 |ext φ=>obtain⟨p,⟨o,e⟩,st⟩:=x;exact⟨st _ _ p λo q=>k _ _ (.inl rfl) q,⟨o,k _ _ (.inl rfl) e⟩,st⟩
theorem HOk.lt(x:HOk P w H h)(e:H a=some o):a<h.objs.size:=(x a o e).lt
theorem HOk.fresh(x:HOk P w H h)(e:h.objs.size≤a):H a=none:=by
 cases q:H a with
 |none=>rfl
 |some u=>exact absurd (lt_of_lt_of_le (x.lt q) e) (lt_irrefl _)
theorem HOk.kept(x:HOk P w H h)(k:∀b u,h.get? b=some u→h'.get? b=some u):HOk P w H h':=λa o e =>
 (x a o e).stay (λb u _ q=>k b u q) (λ_ q=>q) λ_ _ q=>q
theorem HOk.laid(x:HOk P w H h)(k:∀b u,h.get? b=some u→h'.get? b=some u)(hp:h.objs.size≤a)(new:bQ P w (upd H a o) h' a o):HOk P w (upd H a o) h':=λb u e=>by
 have hn:=x.fresh hp
 by_cases hb:b=a
 ·subst hb;rw[ac]at e;cases e;exact new
 ·rw[ao hb]at e;exact(x b u e).stay (λc v _ q=>k c v q) (λc q=>by rw[ao (cK q hn)];exact q) λc xs q=>by rw[ao (cK q hn)];exact q
end
def Rd(H:Hp)(a:Addr)(u:HO):Prop:=H a=some u∨∃o,H a=some (.frz o u)
theorem Rd.of{H:Hp}{a:Addr}{u:HO}(h:H a=some u):Rd H a u:=.inl h
theorem Rd.ok{P:Program}{w:World}{H:Hp}{h:Heap}{a:Addr}{u:HO}(r:Rd H a u)(x:HOk P w H h):bQ P w H h a u:=by
 rcases r with r|⟨o,r⟩
 ·exact x a u r
 ·obtain⟨_,q⟩:=x a _ r;exact q
def Mut:Option HO→Prop
 |some (.lst _)=>True
 |some (.dK _)=>True
 |some (.dT _)=>True
 |some (.set _ _)=>True
 |some (.ins _ _ _)=>True
 |some (.ext _)=>True
 |_=>False
section
variable{P:Program}{w:World}{H:Hp}{h h':Heap}{x e:Addr}{o':HO}
theorem HOk.write(ok:HOk P w H h)(mu:Mut (H x))(he:e=x∨H e=some (.own x))(k:∀b u,b≠e→h.get? b=some u→h'.get? b=some u)(heo:∃u,h'.get? e=some u)(new:bQ P w (upd H x o') h' x o'):HOk P w (upd H x o') h':=λb u q=>by
 have nown:∀c y,H c=some (.own y)→c≠x:=λc y r z=>by subst z;rw[r]at mu;exact mu
 have ntup:∀c xs,H c=some (.tup xs)→c≠x:=λc xs r z=>by subst z;rw[r]at mu;exact mu
 by_cases hb:b=x
 ·subst hb;rw[ac]at q;cases q;exact new
 ·rw[ao hb]at q
  by_cases hbe:b=e
  ·have q':H b=some (.own x):=by
    rcases he with z|z
    ·exact absurd (hbe.trans z) hb
    ·rw[hbe];exact z
   rw[q]at q';cases q';obtain⟨v,hv⟩:=heo;exact⟨v,by rw[hbe];exact hv⟩
  ·refine(ok b u q).stay (λc v hc r=>k c v ?_ r) (λc r=>by rw[ao (nown c b r)];exact r) λc xs r=>by rw[ao (ntup c xs r)];exact r
   rcases hc with rfl|hc
   ·exact hbe
   ·rintro rfl;rcases he with z|z
    ·exact nown c b hc z
    ·rw[hc]at z;cases z;exact hb rfl
end
structure Un(fs ex:List Addr)(H H':Hp)(h h':Heap):Prop where
 keep:∀b o,h.get? b=some o→H b=none→b∉fs→b∉ex→h'.get? b=some o
 slot:∀b o,h.get? b=some o→H b=none→b∈fs→b∉ex→∃sl,h'.get? b=some {o with slots:=sl}
 free:∀b o,h.get? b=some o→H b=none→b∉ex→H' b=none
 there:∀b o,h.get? b=some o→b∉ex→∃o',h'.get? b=some o'
 tups:∀b xs,H b=some (.tup xs)→H' b=some (.tup xs)
 frzs:∀b o u,H b=some (.frz o u)→H' b=some (.frz o u)
 tbls:∀b ps,H b=some (.tbl ps)→∃more,H' b=some (.tbl (ps++more))
section
variable{fs fs' ex ex':List Addr}{H H1 H2:Hp}{h h1 h2 h':Heap}{a x e:Addr}{o:HO}
theorem Un.any(u:Un fs ex H H1 h h1){b:Addr}{ob:Obj}(q:h.get? b=some ob)(n:H b=none)(hx:b∉ex):∃sl,h1.get? b=some {ob with slots:=sl}:=by
 by_cases hb:b∈fs
 ·exact u.slot b ob q n hb hx
 ·exact⟨ob.slots,u.keep b ob q n hb hx⟩
theorem Un.kept(k:∀b u,h.get? b=some u→h'.get? b=some u):Un fs ex H H h h' :=
 ⟨λb ob q _ _ _=>k b ob q,λb ob q _ _ _=>⟨ob.slots,k b ob q⟩,λ_ _ _ n _=>n,λb ob q _=>⟨ob,k b ob q⟩,λ_ _ q=>q,λ_ _ _ q=>q,λ_ ps q=>⟨#[],by rw[q];simp⟩⟩
theorem Un.refl:Un fs ex H H h h:=Un.kept λ_ _ q=>q
theorem Un.laid(k:∀b u,h.get? b=some u→h'.get? b=some u)(hp:h.objs.size≤a)(hn:H a=none):Un fs ex H (upd H a o) h h' where
 keep:=λb u q _ _ _=>k b u q
 slot:=λb u q _ _ _=>⟨u.slots,k b u q⟩
 free:=λb u q n _=>by rw[ao (ne_of_lt (lt_of_lt_of_le (lt_size q) hp))];exact n
 there:=λb u q _=>⟨u,k b u q⟩
 tups:=λb xs q=>by rw[ao (cK q hn)];exact q
 frzs:=λb u xs q=>by rw[ao (cK q hn)];exact q
 tbls:=λb ps q=>⟨#[],by rw[ao (cK q hn),q];simp⟩
theorem Un.write(mu:Mut (H x))(he:e=x∨H e=some (.own x))(k:∀b u,b≠e→h.get? b=some u→h'.get? b=some u)(heo:∃u,h'.get? e=some u):Un fs ex H (upd H x o) h h':=by
 have hx:∀b,H b=none→b≠x:=λb n z=>by subst z;rw[n]at mu;exact mu
 have hb:∀b,H b=none→b≠e:=λb n z=>by
  subst z;rcases he with r|r
  ·exact hx b n r
  ·rw[n]at r;cases r
 have hm:∀b u,H b=some u→¬Mut (some u)→b≠x:=λb u q nm z=>by subst z;rw[q]at mu;exact nm mu
 refine⟨λb u q n _ _=>k b u (hb b n) q,λb u q n _ _=>⟨u.slots,k b u (hb b n) q⟩,λb u q n _=>by rw[ao (hx b n)];exact n,λb u q _=>?_,
  λb xs q=>by rw[ao (hm b _ q λz=>z)];exact q,λb u xs q=>by rw[ao (hm b _ q λz=>z)];exact q,λb ps q=>⟨#[],by rw[ao (hm b _ q λz=>z),q];simp⟩⟩
 by_cases hbe:b=e
 ·subst hbe;exact heo
 ·exact⟨u,k b u hbe q⟩
end
def trk(h:Heap)(H:Hp):List Addr:=(List.range h.objs.size).filter λa=>(H a).isSome
def lp(h:Heap)(H:Hp):Heap:=hideAll h (trk h H)
theorem qG(h:Heap)(H:Hp):(lp h H).objs.size=h.objs.size:=PySem.W.hideAll_size _ _
theorem rG{h:Heap}{H:Hp}{b:Addr}{o:Obj}(e:h.get? b=some o)(n:H b=none):(lp h H).get? b=some o :=
 hideAll_get _ e λhm=>by
  have q:(H b).isSome=true:=(mem_filter.mp hm).2;rw[n]at q;simp at q
theorem um{h:Heap}{H:Hp}{b:Addr}{o:Obj}(e:(lp h H).get? b=some o):h.get? b=some o∧H b=none:=by
 have e':h.get? b=some o:=of_hideAll (trk h H) e;refine⟨e',?_⟩;cases q:H b with
 |none=>rfl
 |some x =>
  have hm:b∈trk h H:=mem_filter.mpr ⟨mem_range.mpr (lt_size e'),by simp[q]⟩;have z:(lp h H).get? b=none:=PySem.W.hideAll_none (trk h H) hm;rw[z]at e;cases e
structure Mod(K:PySem.W.Frag)(mg:Str→Option Value)(base:Heap):Prop where
 kin:K.In base
 glob:base.Ns mainGlobals mg
 blt:∃mb,base.Ns builtinsNs mb∧∀x:Str,x≠"__name__"→mb x=bootBuiltins x
 nolimit:base.NoLimit
structure Cx where
 prog:Program
 w:World
 K:PySem.W.Frag
 mg:Str→Option Value
 base:Heap
 A:Around
 N:List Str
 s₀:Shared
 H₀:Hp
 env:Env
 outer:List Env
 stack:List Env
 ex:List Addr
 fn:Str→Bool
 calm:Bool
 pn:List (Addr×Obj)
 xe:Value→Shared→Prop
def frs(l:List Env):List Addr:=l.filterMap (·.frame)
abbrev Cx.fs(X:Cx):List Addr:=frs X.outer
def Vis(sc:Scope)(x:Str):Prop:=sc.names.lookup x=some .local∨sc.names.lookup x=some .cell∨sc.names.lookup x=some .free
def Loc(sc:Scope)(x:Str):Prop:=sc.names.lookup x=some .local∨sc.names.lookup x=some .cell
def zc(env:Env)(h:Heap)(m:Str→Option Value)(x:Str)(u:Value):Prop :=
 (env.kindOf x=some .local∧m x=some u)∨((env.kindOf x=some .cell∨env.kindOf x=some .free)∧∃c,env.cells.lookup x=some c∧h.IsCell c (some u))
structure Cx.Ok(X:Cx):Prop where
 mod:Mod X.K X.mg X.base
 kind:X.env.scope.kind=.function
 glob:X.env.globals=mainGlobals
 blt:X.env.builtins=builtinsNs
 above:X.s₀.heap.objs.size≤X.env.locals
 inj:∀x y c,X.env.cells.lookup x=some c→X.env.cells.lookup y=some c→x=y
 has:∀x,(X.env.kindOf x=some .cell∨X.env.kindOf x=some .free)→∃c,X.env.cells.lookup x=some c
 cab:∀x c,X.fn x=true→X.env.cells.lookup x=some c→X.s₀.heap.objs.size≤c
 hd:X.calm=true→X.A.handled=none
 frames:X.A.frames=some X.stack
 stk:X.stack=X.outer∨(X.stack=X.env::X.outer∧X.env.frame=some X.env.locals)
 exf:∀b∈X.ex,b≠X.env.locals∧∀x c,X.env.cells.lookup x=some c→c≠b
 bs:∀b o,X.base.get? b=some o→X.s₀.heap.get? b=some o∧X.H₀ b=none
 bsz:X.base.objs.size≤X.s₀.heap.objs.size
 noex:∀b o,X.base.get? b=some o→b∉X.ex
 exfs:∀b∈X.ex,b∉X.fs
 funs:X.s₀.heap.FunFrames X.base X.outer
 frf:∀b∈X.fs,X.H₀ b=none
structure Inv(X:Cx)(pins:List (Addr×Obj))(σ:List (Option V))(H:Hp)(s:Shared):Prop where
 ok:X.Ok
 os:s.os=X.s₀.os
 bare:AllBare s.gens
 base:Un X.fs X.ex X.H₀ H X.s₀.heap s.heap
 loc:∃m,s.heap.Ns X.env.locals m∧∀(i:Nat)(x:Str)(v:V),X.N[i]?=some x→σ[i]?=some (some v)→Vis X.env.scope x→∃u,aX v u∧zc X.env s.heap m x u
 cell:∀x c,X.env.cells.lookup x=some c→∃v,s.heap.IsCell c v
 free:H X.env.locals=none
 freeC:∀x c,X.env.cells.lookup x=some c→H c=none
 pin:∀p∈X.pn++pins,s.heap.get? p.1=some p.2∧H p.1=none∧p.1≠X.env.locals∧p.1∉X.fs∧∀v,p.2.data≠.cell v
 hok:HOk X.prog X.w H s.heap
 len:σ.length=X.N.length
section
variable{X:Cx}{pins:List (Addr×Obj)}{σ:List (Option V)}{H H':Hp}{s:Shared}{h':Heap}
theorem Cx.Ok.nofr(ok:X.Ok){b:Addr}{o:Obj}(e:X.base.get? b=some o):b∉X.fs:=λhb=>by
 have:=(ok.funs.mem hb).1;rw[e]at this;cases this
theorem Inv.bs(I:Inv X pins σ H s):∀b o,X.base.get? b=some o→s.heap.get? b=some o∧H b=none:=λb o e =>
 ⟨I.base.keep b o (I.ok.bs b o e).1 (I.ok.bs b o e).2 (I.ok.nofr e) (I.ok.noex b o e),I.base.free b o (I.ok.bs b o e).1 (I.ok.bs b o e).2 (I.ok.noex b o e)⟩
theorem Inv.bk(I:Inv X pins σ H s):∀b o,X.base.get? b=some o→s.heap.get? b=some o:=λb o e=>(I.bs b o e).1
theorem Inv.mod(I:Inv X pins σ H s):Mod X.K X.mg X.base:=I.ok.mod
theorem Inv.kIn(I:Inv X pins σ H s):X.K.In s.heap:=I.ok.mod.kin.keeps I.bk
theorem Inv.lt(I:Inv X pins σ H s):X.env.locals<s.heap.objs.size:=let⟨_,hn,_⟩:=I.loc;hn.lt
theorem Inv.sz(I:Inv X pins σ H s):X.s₀.heap.objs.size≤s.heap.objs.size:=le_trans I.ok.above (le_of_lt I.lt)
theorem Inv.nofs(I:Inv X pins σ H s){a:Addr}(h:s.heap.objs.size≤a):a∉X.fs:=λhb=>by
 obtain⟨_,o,ho,_⟩:=I.ok.funs.mem hb;exact absurd (lt_of_lt_of_le (lt_size ho) (le_trans I.sz h)) (lt_irrefl _)
theorem Inv.cne(I:Inv X pins σ H s):∀x c,X.env.cells.lookup x=some c→c≠X.env.locals:=λx c e z=>by
 obtain⟨v,o,ho,hd⟩:=I.cell x c e;obtain⟨m,⟨o',es,ep,ho',hd',_⟩,_⟩:=I.loc;rw[z,ho']at ho;cases ho;rw[hd']at hd;cases hd
theorem Inv.funs(I:Inv X pins σ H s):s.heap.FunFrames X.base X.outer:=by
 have all:∀(l:List Env),(∀b∈frs l,b∈X.fs)→X.s₀.heap.FunFrames X.base l→s.heap.FunFrames X.base l:=by
  intro l
  induction l with
  |nil=>intro _ _;trivial
  |cons env r ih =>
   intro hs hl;obtain⟨hk,⟨L,o,hf,hn,ho,hd⟩,hr⟩:=hl;have hL:L∈X.fs:=hs L (by unfold frs;rw[List.filterMap_cons,hf];exact mem_cons_self);obtain⟨sl,e⟩:=I.base.slot L o ho (I.ok.frf L hL) hL λz=>I.ok.exfs L z hL;exact⟨hk,⟨L,_,hf,hn,e,hd⟩,ih (λb hb=>hs b (by unfold frs;rw[List.filterMap_cons,hf];exact mem_cons_of_mem _ hb)) hr⟩
 exact all X.outer (λ_ hb=>hb) I.ok.funs
theorem Inv.stack(I:Inv X pins σ H s):s.heap.FunFrames X.base X.stack:=by
 rcases I.ok.stk with e|⟨e,hf⟩
 ·rw[e];exact I.funs
 ·rw[e];obtain⟨m,hn,_⟩:=I.loc;refine .cons (by rw[I.ok.kind];decide) hf hn ?_ I.funs;exact Heap.get?_none_of_le (le_trans I.ok.bsz I.ok.above)
theorem Inv.stkSub(I:Inv X pins σ H s):∀b∈frs X.stack,b∈X.env.locals::X.fs:=λb hb=>by
 rcases I.ok.stk with e|⟨e,hf⟩
 ·rw[e]at hb;exact mem_cons_of_mem _ hb
 ·rw[e]at hb;unfold frs at hb;rw[List.filterMap_cons,hf]at hb;exact hb
theorem Inv.stkFree(I:Inv X pins σ H s):∀b∈frs X.stack,H b=none:=λb hb=>by
 rcases mem_cons.mp (I.stkSub b hb)with e|hb
 ·rw[e];exact I.free
 ·obtain⟨_,o,ho,_⟩:=I.ok.funs.mem hb;exact I.base.free b o ho (I.ok.frf b hb) λz=>I.ok.exfs b z hb
theorem Inv.step{g':Array GenState}{t':Nat}{d':Drawn}{ch:List Addr}(I:Inv X pins σ H s)(hch:∀b∈ch,(b∈X.ex∨X.s₀.heap.objs.size≤b)∧b≠X.env.locals∧(∀x c,X.env.cells.lookup x=some c→c≠b)∧∀p∈X.pn++pins,p.1≠b)(keep:∀b o,b≠X.env.locals→b∉X.fs→b∉ch→s.heap.get? b=some o→H b=none→h'.get? b=some o)(slot:∀b o,b≠X.env.locals→b∈X.fs→b∉ch→s.heap.get? b=some o→H b=none→∃sl,h'.get? b=some {o with slots:=sl})(free:∀b o,b∉ch→s.heap.get? b=some o→H b=none→H' b=none)(there:∀b o,b∉ch→s.heap.get? b=some o→∃o',h'.get? b=some o')(tups:∀b xs,H b=some (.tup xs)→H' b=some (.tup xs))(frzs:∀b o u,H b=some (.frz o u)→H' b=some (.frz o u))(tbls:∀b ps,H b=some (.tbl ps)→∃more,H' b=some (.tbl (ps++more)))(ns:∀m,s.heap.Ns X.env.locals m→h'.Ns X.env.locals m)(hok:HOk X.prog X.w H' h')(hg:AllBare g'):
  Inv X pins σ H' {s with heap:=h',gens:=g',drawn:=d',toks:=t'}:=by
 have neL:∀b o,X.s₀.heap.get? b=some o→b≠X.env.locals:=λb o e=>ne_of_lt (lt_of_lt_of_le (lt_size e) I.ok.above);have neC:∀b o,X.s₀.heap.get? b=some o→b∉X.ex→b∉ch:=λb o e hx hb=>by
  rcases (hch b hb).1 with z|z
  ·exact hx z
  ·exact absurd (lt_of_lt_of_le (lt_size e) z) (lt_irrefl _)
 have cellK:∀x c,X.env.cells.lookup x=some c→∀v,s.heap.IsCell c v→h'.IsCell c v:=λx c e v ⟨o,ho,hd⟩=>by
  have nch:c∉ch:=λz=>(hch c z).2.2.1 x c e rfl
  by_cases hc:c∈X.fs
  ·obtain⟨sl,q⟩:=slot c o (I.cne x c e) hc nch ho (I.freeC x c e);exact⟨_,q,hd⟩
  ·exact⟨o,keep c o (I.cne x c e) hc nch ho (I.freeC x c e),hd⟩
 refine⟨I.ok,I.os,hg,⟨λb o e n hb hx=>?_,λb o e n hb hx=>?_,λb o e n hx=>?_,λb o e hx=>?_,λb xs e=>tups b xs (I.base.tups b xs e),λb o xs e=>frzs b o xs (I.base.frzs b o xs e),λb ps e=>?_⟩,?_,λx c e=>?_,?_,λx c e=>?_,λp hp=>?_,hok,I.len⟩
 ·exact keep b o (neL b o e) hb (neC b o e hx) (I.base.keep b o e n hb hx) (I.base.free b o e n hx)
 ·obtain⟨sl,e1⟩:=I.base.slot b o e n hb hx;obtain⟨sl',e2⟩:=slot b _ (neL b o e) hb (neC b o e hx) e1 (I.base.free b o e n hx);exact⟨sl',e2⟩
 ·obtain⟨o',e1⟩:=I.base.there b o e hx;exact free b o' (neC b o e hx) e1 (I.base.free b o e n hx)
 ·obtain⟨o',e1⟩:=I.base.there b o e hx;exact there b o' (neC b o e hx) e1
 ·obtain⟨m1,e1⟩:=I.base.tbls b ps e;obtain⟨m2,e2⟩:=tbls b _ e1;exact⟨m1++m2,by rw[e2,Array.append_assoc]⟩
 ·obtain⟨m,hn,hl⟩:=I.loc;refine⟨m,ns m hn,λi x v e1 e2 e3=>?_⟩;obtain⟨u,r,l⟩:=hl i x v e1 e2 e3;refine⟨u,r,?_⟩;rcases l with l|⟨k,c,e,z⟩
  ·exact .inl l
  ·exact .inr ⟨k,c,e,cellK x c e _ z⟩
 ·obtain⟨v,z⟩:=I.cell x c e;exact⟨v,cellK x c e v z⟩
 ·obtain⟨m,⟨o,_,_,ho,_⟩,_⟩:=I.loc;exact free _ o (λz=>(hch _ z).2.1 rfl) ho I.free
 ·obtain⟨v,o,ho,hd⟩:=I.cell x c e;exact free c o (λz=>(hch c z).2.2.1 x c e rfl) ho (I.freeC x c e)
 ·obtain⟨e,n,ne,nf,d⟩:=I.pin p hp;have nch:p.1∉ch:=λz=>(hch p.1 z).2.2.2 p hp rfl;exact⟨keep p.1 p.2 ne nf nch e n,free p.1 p.2 nch e n,ne,nf,d⟩
theorem Inv.un{t':Nat}(I:Inv X pins σ H s)(u:Un X.fs [] H H' s.heap h')(hok:HOk X.prog X.w H' h'):Inv X pins σ H' {s with heap:=h',toks:=t'}:=by
 obtain⟨m,⟨o,es,ep,ho,r⟩,_⟩:=id I.loc;obtain⟨sl,hL⟩:=u.any ho I.free (by simp);exact I.step (g':=s.gens) (d':=s.drawn) (ch:=[]) (λ_ z=>nomatch z) (λb o _ hb _ e n=>u.keep b o e n hb (by simp)) (λb o _ hb _ e n=>u.slot b o e n hb (by simp)) (λb o _ e n=>u.free b o e n (by simp)) (λb o _ e=>u.there b o e (by simp)) u.tups u.frzs u.tbls (λm' hm=>by
  obtain⟨o',es',ep',ho',r'⟩:=hm;rw[ho]at ho';cases ho';exact⟨_,es',ep',hL,r'⟩) hok I.bare
theorem Inv.call{g':Array GenState}{t':Nat}{d':Drawn}{ch:List Addr}(I:Inv X pins σ H s)(u:Un (frs X.stack) ch H H' s.heap h')(hok:HOk X.prog X.w H' h')(hg:AllBare g')(hch:∀b∈ch,(b∈X.ex∨X.s₀.heap.objs.size≤b)∧b≠X.env.locals∧(∀x c,X.env.cells.lookup x=some c→c≠b)∧∀p∈X.pn++pins,p.1≠b):
  Inv X pins σ H' {s with heap:=h',gens:=g',drawn:=d',toks:=t'}:=by
 obtain⟨m,⟨o,es,ep,ho,r⟩,_⟩:=id I.loc;obtain⟨sl,hL⟩:=u.any ho I.free λz=>(hch _ z).2.1 rfl;exact I.step (ch:=ch) hch (λb o hL hb hc e n=>u.keep b o e n (λz=>(mem_cons.mp (I.stkSub b z)).elim hL hb) hc) (λb o _ _ hc e n=>u.any e n hc) (λb o hc e n=>u.free b o e n hc) (λb o hc e=>u.there b o e hc) u.tups u.frzs u.tbls (λm' hm=>by
  obtain⟨o',es',ep',ho',r'⟩:=hm;rw[ho]at ho';cases ho';exact⟨_,es',ep',hL,r'⟩) hok hg
theorem Inv.turned{t':Nat}{it:Addr}(I:Inv X pins σ H s)(k:∀b o,b≠it→s.heap.get? b=some o→h'.get? b=some o)(hn:H it=none)(hL:it≠X.env.locals)(h1:it∈X.ex∨X.s₀.heap.objs.size≤it)(h2:∀x c,X.env.cells.lookup x=some c→c≠it)(h3:∀p∈X.pn++pins,p.1≠it):Inv X pins σ H {s with heap:=h',toks:=t'}:=by
 have nit:∀b u,H b=some u→b≠it:=λb u e z=>by rw[z,hn]at e;cases e
 refine I.step (g':=s.gens) (d':=s.drawn) (ch:=[it]) (λb hb=>?_) (λb o _ _ hc e _=>k b o (λz=>hc (by simp[z])) e) (λb o _ _ hc e _=>⟨o.slots,k b o (λz=>hc (by simp[z])) e⟩) (λ_ _ _ _ n=>n)
  (λb o hc e=>⟨o,k b o (λz=>hc (by simp[z])) e⟩) (λ_ _ e=>e) (λ_ _ _ e=>e) (λb ps e=>⟨#[],by rw[e];simp⟩) (λm hm=>?_) (λb u e=>?_) I.bare
 ·have e:b=it:=by simpa using hb
  subst e;exact⟨h1,hL,h2,h3⟩
 ·obtain⟨o,es,ep,ho,r⟩:=hm;exact⟨o,es,ep,k _ o (symm hL) ho,r⟩
 ·refine(I.hok b u e).stay (λc v hc q=>k c v ?_ q) (λ_ q=>q) λ_ _ q=>q;rcases hc with z|z
  ·rw[z];exact nit b u e
  ·exact nit c _ z
theorem Inv.tok(I:Inv X pins σ H s)(t:Nat):Inv X pins σ H {s with toks:=t}:=I.un (h':=s.heap) (t':=t) Un.refl I.hok
theorem Inv.kept{t':Nat}(I:Inv X pins σ H s)(k:∀b u,s.heap.get? b=some u→h'.get? b=some u):Inv X pins σ H {s with heap:=h',toks:=t'}:=I.un (Un.kept k) (I.hok.kept k)
theorem Inv.laid{a:Addr}{o:HO}{t':Nat}(I:Inv X pins σ H s)(k:∀b u,s.heap.get? b=some u→h'.get? b=some u)(hp:s.heap.objs.size≤a)(new:bQ X.prog X.w (upd H a o) h' a o):
  Inv X pins σ (upd H a o) {s with heap:=h',toks:=t'}:=I.un (Un.laid k hp (I.hok.fresh hp)) (I.hok.laid k hp new)
theorem Inv.write{x e:Addr}{o:HO}{t':Nat}(I:Inv X pins σ H s)(mu:Mut (H x))(he:e=x∨H e=some (.own x))(k:∀b u,b≠e→s.heap.get? b=some u→h'.get? b=some u)(heo:∃u,h'.get? e=some u)(new:bQ X.prog X.w (upd H x o) h' x o):Inv X pins σ (upd H x o) {s with heap:=h',toks:=t'}:=I.un (Un.write mu he k heo) (I.hok.write mu he k heo new)
theorem Inv.pins_of{pins':List (Addr×Obj)}(I:Inv X pins σ H s)(h:∀p∈pins',s.heap.get? p.1=some p.2∧H p.1=none∧p.1≠X.env.locals∧p.1∉X.fs∧∀v,p.2.data≠.cell v):Inv X pins' σ H s :=
 ⟨I.ok,I.os,I.bare,I.base,I.loc,I.cell,I.free,I.freeC,λp hp=>(mem_append.mp hp).elim (λz=>I.pin p (mem_append_left _ z)) (h p),I.hok,I.len⟩
theorem jk{N:List Str}(hN:N.Nodup){i j:Nat}{x:Str}(a:N[i]?=some x)(b:N[j]?=some x):i=j:=by
 obtain⟨h1,e1⟩:=List.getElem?_eq_some_iff.mp a;obtain⟨h2,e2⟩:=List.getElem?_eq_some_iff.mp b;exact(getElem_inj hN).mp (e1.trans e2.symm)
theorem iD{M:Model}{A:Around}{E:Value→Shared→Prop}{i:Nat}{x:Str}{v:V}{u:Value}{Q:Unit→Shared→Prop}(I:Inv X pins σ H s)(hN:X.N.Nodup)(hi:X.N[i]?=some x)(hx:Loc X.env.scope x)(r:aX v u)(h:∀s',Inv X pins (σ.set i (some v)) H s'→(∃a,SameBut a s.heap s'.heap∧(a=X.env.locals∨X.env.cells.lookup x=some a))→Q () s')(hf:X.fn x=true∨X.env.scope.names.lookup x=some .local:=by first|exact .inl rfl|exact .inr rfl|assumption):wpAny M A (storeName X.env x u) Q E s:=by
 obtain⟨m,hn,hl⟩:=id I.loc;have hcls:(X.env.scope.kind==.class||(X.env.scope.kind==.module&&X.env.locals != X.env.globals))=false:=by rw[I.ok.kind];rfl
 have hiσ:i<σ.length:=by rw[I.len];exact(List.getElem?_eq_some_iff.mp hi).1
 have cne:=I.cne;have tracked:∀{a:Addr}{h':Heap},(∃o,s.heap.get? a=some o∧H a=none)→SameBut a s.heap h'→HOk X.prog X.w H h':=λ{a h'} ha hs b ob e=>by
  obtain⟨_,_,hfree⟩:=ha;refine(I.hok b ob e).stay (λc w' hc q=>(hs.2 c ?_).trans q) (λ_ q=>q) λ_ _ q=>q;rintro rfl;rcases hc with rfl|hc
  ·rw[hfree]at e;cases e
  ·rw[hfree]at hc;cases hc
 rcases hx with hk|hk
 ·refine wpAny_storeName_local hk hn (λh' hn' hs=>?_) hcls;obtain⟨oL,_,_,hoL,_⟩:=id hn;refine h _ ⟨I.ok,I.os,I.bare,⟨λb o e n hb hx=>?_,λb o e n hb hx=>?_,I.base.free,λb o e hx=>?_,I.base.tups,I.base.frzs,I.base.tbls⟩,⟨_,hn',λj y v' e1 e2 e3=>?_⟩,λy c e=>?_,I.free,I.freeC,λp hp=>?_,tracked ⟨oL,hoL,I.free⟩ hs,by simpa using I.len⟩ ⟨_,hs,.inl rfl⟩
  ·exact(hs.2 b (ne_of_lt (lt_of_lt_of_le (lt_size e) I.ok.above))).trans (I.base.keep b o e n hb hx)
  ·obtain⟨sl,e1⟩:=I.base.slot b o e n hb hx;exact⟨sl,(hs.2 b (ne_of_lt (lt_of_lt_of_le (lt_size e) I.ok.above))).trans e1⟩
  ·obtain⟨o',e1⟩:=I.base.there b o e hx;exact⟨o',(hs.2 b (ne_of_lt (lt_of_lt_of_le (lt_size e) I.ok.above))).trans e1⟩
  ·by_cases hj:j=i
   ·subst hj;rw[hi]at e1;cases e1;rw[getElem?_set_self hiσ]at e2;cases e2;exact⟨u,r,.inl ⟨hk,by simp⟩⟩
   ·rw[List.getElem?_set_ne (symm hj)]at e2;obtain⟨u',r',q⟩:=hl j y v' e1 e2 e3;refine⟨u',r',?_⟩;rcases q with⟨k,e⟩|⟨k,c,e,z⟩
    ·refine .inl ⟨k,?_⟩;have:y≠x:=λe=>hj (jk hN e1 (e ▸ hi));simp[this,e]
    ·exact .inr ⟨k,c,e,z.sameBut hs (cne y c e)⟩
  ·obtain⟨w',z⟩:=I.cell y c e;exact⟨w',z.sameBut hs (cne y c e)⟩
  ·obtain⟨e,n,ne,nf,d⟩:=I.pin p hp;exact⟨(hs.2 p.1 ne).trans e,n,ne,nf,d⟩
 ·have hfn:X.fn x=true:=by
   rcases hf with z|z
   ·exact z
   ·rw[z]at hk;cases hk
  obtain⟨c,hc⟩:=I.ok.has x (.inl hk);obtain⟨w',z⟩:=I.cell x c hc;refine wpAny_storeName_cell I.ok.kind hk hc z (λh' hc' hs=>?_);obtain⟨oc,hoc,hocd⟩:=id z;refine h {s with heap:=h'} ⟨I.ok,I.os,I.bare,⟨λb o e n hb hx=>?_,λb o e n hb hx=>?_,I.base.free,λb o e hx=>?_,I.base.tups,I.base.frzs,I.base.tbls⟩,⟨m,hn.sameBut hs (symm (cne x c hc)),λj y v' e1 e2 e3=>?_⟩,λy c' e=>?_,I.free,I.freeC,λp hp=>?_,tracked ⟨oc,hoc,I.freeC x c hc⟩ hs,by simpa using I.len⟩ ⟨c,hs,.inr hc⟩
  ·exact(hs.2 b (ne_of_lt (lt_of_lt_of_le (lt_size e) (I.ok.cab x c hfn hc)))).trans (I.base.keep b o e n hb hx)
  ·obtain⟨sl,e1⟩:=I.base.slot b o e n hb hx;exact⟨sl,(hs.2 b (ne_of_lt (lt_of_lt_of_le (lt_size e) (I.ok.cab x c hfn hc)))).trans e1⟩
  ·obtain⟨o',e1⟩:=I.base.there b o e hx;exact⟨o',(hs.2 b (ne_of_lt (lt_of_lt_of_le (lt_size e) (I.ok.cab x c hfn hc)))).trans e1⟩
  ·by_cases hj:j=i
   ·subst hj;rw[hi]at e1;cases e1;rw[getElem?_set_self hiσ]at e2;cases e2;exact⟨u,r,.inr ⟨.inl hk,c,hc,hc'⟩⟩
   ·rw[List.getElem?_set_ne (symm hj)]at e2;obtain⟨u',r',q⟩:=hl j y v' e1 e2 e3;refine⟨u',r',?_⟩;rcases q with q|⟨k,c',e,z'⟩
    ·exact .inl q
    ·refine .inr ⟨k,c',e,z'.sameBut hs ?_⟩;rintro rfl;exact hj (jk hN e1 (I.ok.inj _ _ _ e hc ▸ hi))
  ·by_cases hcc:c'=c
   ·subst hcc;exact⟨_,hc'⟩
   ·obtain⟨w2,z2⟩:=I.cell y c' e;exact⟨w2,z2.sameBut hs hcc⟩
  ·obtain⟨e,n,ne,nf,d⟩:=I.pin p hp;refine⟨(hs.2 p.1 ?_).trans e,n,ne,nf,d⟩;intro q;rw[q,hoc]at e;have q':oc=p.2:=Option.some.inj e;exact d w' (by rw[←q'];exact hocd)
theorem eR{M:Model}{A:Around}{E:Value→Shared→Prop}{i:Nat}{x:Str}{v:V}{u:Value}{Q:Unit→Shared→Prop}(I:Inv X pins σ H s)(hN:X.N.Nodup)(hi:X.N[i]?=some x)(hx:Loc X.env.scope x)(r:aX v u)(h:∀s',Inv X pins (σ.set i (some v)) H s'→Q () s')(hf:X.fn x=true∨X.env.scope.names.lookup x=some .local:=by first|exact .inl rfl|exact .inr rfl|assumption):wpAny M A (storeName X.env x u) Q E s :=
 iD I hN hi hx r (λs' I' _=>h s' I') hf
theorem Inv.call'{s':Shared}{ch:List Addr}(I:Inv X pins σ H s)(ho:s'.os=s.os)(u:Un (frs X.stack) ch H H' s.heap s'.heap)(hok:HOk X.prog X.w H' s'.heap)(hg:AllBare s'.gens)(hch:∀b∈ch,(b∈X.ex∨X.s₀.heap.objs.size≤b)∧b≠X.env.locals∧(∀x c,X.env.cells.lookup x=some c→c≠b)∧∀p∈X.pn++pins,p.1≠b):Inv X pins σ H' s':=by
 obtain⟨h',g',d',t',o'⟩:=s';have e:o'=s.os:=ho;subst e;exact I.call (g':=g') (t':=t') (d':=d') u hok hg hch
end
abbrev XK:=Value→Option Addr→Hp→Prop
abbrev St:=List (Option V)
abbrev VK:=V→Hp→Prop
abbrev TE:=St→Hp→VK→Prop
abbrev TT:=St→Hp→(Bool→Hp→Prop)→Prop
abbrev TA:=St→Hp→(List V→Hp→Prop)→Prop
structure Ends where
 nx:St→Hp→Prop
 rt:VK
 bk:St→Hp→Prop:=λ_ _=>False
 ct:St→Hp→Prop:=λ_ _=>False
abbrev TS:=Ends→St→Hp→Prop
def EP(X:Cx)(pins:List (Addr×Obj))(σ:St)(Q:VK)(u:Value)(s':Shared):Prop:=∃v H',Inv X pins σ H' s'∧aX v u∧Q v H'
def TP(X:Cx)(pins:List (Addr×Obj))(σ:St)(Q:Bool→Hp→Prop)(b:Bool)(s':Shared):Prop:=∃H',Inv X pins σ H' s'∧Q b H'
def AP(X:Cx)(pins:List (Addr×Obj))(σ:St)(Q:List V→Hp→Prop)(us:List Value)(s':Shared):Prop:=∃vs H',Inv X pins σ H' s'∧aT vs us∧Q vs H'
def SP(X:Cx)(pins:List (Addr×Obj))(D:Ends)(f:Flow)(s':Shared):Prop :=
 match f with
 |.next=>∃σ' H',Inv X pins σ' H' s'∧D.nx σ' H'
 |.brk=>∃σ' H',Inv X pins σ' H' s'∧D.bk σ' H'
 |.cont=>∃σ' H',Inv X pins σ' H' s'∧D.ct σ' H'
 |.ret u=>∃v σ' H',Inv X pins σ' H' s'∧aX v u∧D.rt v H'
def PE(X:Cx)(e:Expr)(t:TE):Prop :=
 ∀(pins:List (Addr×Obj))(s:Shared)(σ:St)(H:Hp)(Q:VK),Inv X pins σ H s→t σ H Q→wpAny (model X.prog X.w) X.A (eval e X.env) (EP X pins σ Q) X.xe s
def PT(X:Cx)(e:Expr)(t:TT):Prop :=
 ∀(pins:List (Addr×Obj))(s:Shared)(σ:St)(H:Hp)(Q:Bool→Hp→Prop),Inv X pins σ H s→t σ H Q→wpAny (model X.prog X.w) X.A (isTrue e X.env (eval e X.env)) (TP X pins σ Q) X.xe s
def PW(X:Cx)(e:Expr)(t:TT):Prop :=
 ∀(whole:Sem Value)(pins:List (Addr×Obj))(s:Shared)(σ:St)(H:Hp)(Q:Bool→Hp→Prop),Inv X pins σ H s→t σ H Q→wpAny (model X.prog X.w) X.A (isTrue e X.env whole) (TP X pins σ Q) X.xe s
theorem PW.pt{X:Cx}{e:Expr}{t:TT}(h:PW X e t):PT X e t:=h _
def PA(X:Cx)(es:List Expr)(t:TA):Prop :=
 ∀(pos:Pos)(pins:List (Addr×Obj))(s:Shared)(σ:St)(H:Hp)(Q:List V→Hp→Prop),Inv X pins σ H s→t σ H Q→wpAny (model X.prog X.w) X.A (spliced (backTo pos (starEach es X.env))) (AP X pins σ Q) X.xe s
def PS(X:Cx)(st:Stmt)(t:TS):Prop :=
 ∀(pins:List (Addr×Obj))(s:Shared)(σ:St)(H:Hp)(D:Ends),Inv X pins σ H s→t D σ H→wpAny (model X.prog X.w) X.A (exec st X.env) (SP X pins D) X.xe s
def PSs(X:Cx)(st:List Stmt)(t:TS):Prop :=
 ∀(pins:List (Addr×Obj))(s:Shared)(σ:St)(H:Hp)(D:Ends),Inv X pins σ H s→t D σ H→wpAny (model X.prog X.w) X.A (execs st X.env) (SP X pins D) X.xe s
theorem thn{α:Type}{t:Sem α}{Q Q':α→Shared→Prop}{M:Model}{A:Around}{E:Value→Shared→Prop}{s:Shared}(h:wpAny M A t Q E s)(hQ:∀a s,Q a s→Q' a s):wpAny M A t Q' E s:=wpAny_mono h hQ λ_ _ x=>x
section
variable{X:Cx}
theorem bin{a b:Expr}{ta tb:TE}(ha:PE X a ta)(hb:PE X b tb){pins:List (Addr×Obj)}{s:Shared}{σ:St}{H:Hp}{R:V→V→Hp→Prop}(I:Inv X pins σ H s)(h:ta σ H λx H1=>tb σ H1 λy H2=>R x y H2){α:Type}{Q:α→Shared→Prop}{f:Value→Value→Sem α}(hf:∀v u s2 x y H2,Inv X pins σ H2 s2→aX x v→aX y u→R x y H2→wpAny (model X.prog X.w) X.A (f v u) Q X.xe s2):
  wpAny (model X.prog X.w) X.A (eval a X.env) (λv s₁=>wpAny (model X.prog X.w) X.A (eval b X.env) (λu s₂=>wpAny (model X.prog X.w) X.A (f v u) Q X.xe s₂) X.xe s₁) X.xe s:=by
 refine thn (ha pins s σ H _ I h) λv s1 hpt=>?_;obtain⟨x,H1,I1,r1,q1⟩:=hpt;refine thn (hb pins s1 σ H1 _ I1 q1) λu s2 hpt=>?_;obtain⟨y,H2,I2,r2,q2⟩:=hpt;exact hf v u s2 x y H2 I2 r1 r2 q2
def iE(i:Nat):TE:=λσ H Q=>∃v,σ[i]?=some (some v)∧Q v H
def tC(v:V):TE:=λ_ H Q=>Q v H
theorem wt{i:Nat}{x:Str}{pos:Pos}(hN:X.N[i]?=some x)(hv:Vis X.env.scope x)(hd:(x==("__debug__":Str))=false:=by decide)(hcd:(x==("__classdict__":Str))=false:=by decide):PE X (.Name x pos) (iE i):=by
 intro pins s σ H Q I h;obtain⟨v,e,h⟩:=h;obtain⟨m,hn,hl⟩:=I.loc;obtain⟨u,r,l⟩:=hl i x v hN e hv;have fin:EP X pins σ Q u s:=⟨v,H,I,r,h⟩;rcases l with⟨hk,hm⟩|⟨hk,c,hc,hcell⟩
 ·exact wpAny_Name (wpAny_loadName_local I.ok.kind hk hn hm fin) hd
 ·rcases hk with hk|hk
  ·exact wpAny_Name (wpAny_loadName_cell I.ok.kind hk hc hcell fin) hd
  ·exact wpAny_Name (wpAny_loadName_free I.ok.kind hk hc hcell fin hcd) hd
theorem ai{i j pos}:PE X (.Constant (.int i) j pos) (tC (.int i)):=λ_ _ _ H _ I h=>wpAny_Constant_int ⟨.int i,H,I.tok _,⟨_,rfl⟩,h⟩
theorem gJ{b j pos}:PE X (.Constant (.bool b) j pos) (tC (.bl b)):=λ_ _ _ H _ I h=>Constant_bool ⟨.bl b,H,I,rfl,h⟩
theorem bJ{j pos}:PE X (.Constant .none j pos) (tC .non):=λ_ _ _ H _ I h=>Constant_none ⟨.non,H,I,rfl,h⟩
theorem aC{x j pos}:PE X (.Constant (.str x) j pos) (tC (.str x)):=λ_ _ _ H _ I h=>Calls.Constant_str ⟨.str x,H,I.tok _,⟨_,rfl⟩,h⟩
def Gl(X:Cx)(x:Str):Prop:=X.env.kindOf x=some .globalImplicit
theorem ja{E:Value→Shared→Prop}{pins:List (Addr×Obj)}{s:Shared}{σ:St}{H:Hp}{x:Str}{u:Value}{pos:Pos}{Q:Value→Shared→Prop}(I:Inv X pins σ H s)(hg:Gl X x)(hm:X.mg x=some u)(h:Q u s)(hd:(x==("__debug__":Str))=false:=by decide):wpAny (model X.prog X.w) X.A (eval (.Name x pos) X.env) Q E s :=
 Name_function_global I.ok.kind hg (Calls.loadGlobal_global (by rw[I.ok.glob];exact I.mod.glob.keeps I.bk) hm h) hd
theorem lr{E:Value→Shared→Prop}{pins:List (Addr×Obj)}{s:Shared}{σ:St}{H:Hp}{x:Str}{u:Value}{pos:Pos}{Q:Value→Shared→Prop}(I:Inv X pins σ H s)(hg:Gl X x)(hm:X.mg x=none)(hv:bootBuiltins x=some u)(h:Q u s)(hn:x≠"__name__":=by decide)(hd:(x==("__debug__":Str))=false:=by decide):wpAny (model X.prog X.w) X.A (eval (.Name x pos) X.env) Q E s:=by
 obtain⟨mb,h1,h2⟩:=I.mod.blt;exact Name_function_global I.ok.kind hg (Calls.loadGlobal_builtin (by rw[I.ok.glob];exact I.mod.glob.keeps I.bk) hm (by rw[I.ok.blt];exact h1.keeps I.bk) ((h2 x hn).trans hv) h) hd
theorem cb{x:Str}{v:V}{u:Value}{pos:Pos}(hg:Gl X x)(hm:X.mg x=some u)(r:aX v u)(hd:(x==("__debug__":Str))=false:=by decide):PE X (.Name x pos) (tC v) :=
 λ_ _ _ H _ I h=>ja I hg hm ⟨v,H,I,r,h⟩ hd
theorem lu{x:Str}{v:V}{u:Value}{pos:Pos}(hg:Gl X x)(hm:X.mg x=none)(hv:bootBuiltins x=some u)(r:aX v u)(hn:x≠"__name__":=by decide)(hd:(x==("__debug__":Str))=false:=by decide):PE X (.Name x pos) (tC v) :=
 λ_ _ _ H _ I h=>lr I hg hm hv ⟨v,H,I,r,h⟩ hn hd
def t2I(ta tb:TE)(k:Int→Int→Hp→Prop):St→Hp→Prop:=λσ H=>ta σ H λx H1=>tb σ H1 λy H2=>∃i j,x=.int i∧y=.int j∧k i j H2
def zd(ta tb:TE):TE:=λσ H Q=>t2I ta tb (λi j H2=>Q (.int (i+j)) H2) σ H
variable{a b:Expr}{ta tb:TE}{pos:Pos}
theorem wu(ha:PE X a ta)(hb:PE X b tb):PE X (.BinOp a .Add b pos) (zd ta tb):=by
 intro pins s σ H Q I h;refine wpAny_BinOp (bin ha hb I h λv u s2 x y H2 I2 rx ry q=>?_);obtain⟨i,j,rfl,rfl,q⟩:=q;obtain⟨t,rfl⟩:=rx;obtain⟨t',rfl⟩:=ry;exact add_int ⟨.int _,H2,I2.tok _,⟨_,rfl⟩,q⟩
def PC(X:Cx)(op:CmpOp)(a b:Expr)(t:TE):Prop :=
 ∀(pins:List (Addr×Obj))(s:Shared)(σ:St)(H:Hp)(Q:VK),Inv X pins σ H s→t σ H Q →
  wpAny (model X.prog X.w) X.A (eval a X.env) (λv s₁=>wpAny (model X.prog X.w) X.A (eval b X.env) (λu s₂=>wpAny (model X.prog X.w) X.A (compareOp op v u) (EP X pins σ Q) X.xe s₂) X.xe s₁) X.xe s
def tB(t:TE):TT:=λσ H Q=>t σ H λx H1=>∃c,x=.bl c∧Q c H1
theorem cc{op:CmpOp}{t:TE}(h:PC X op a b t)(h1:behindInMarks op b=false:=by first|exact nobehind _ (by decide) (by decide)|rfl):PT X (.Compare a [op] [b] pos) (tB t):=by
 intro pins s σ H Q I hw;refine wpAny_isTrue_Compare1 (thn (h pins s σ H _ I hw) λv s1 h1=>thn h1 λu s2 h2=>thn h2 λc s3 ⟨x,H1,I1,r1,q1⟩=>?_) h1;obtain⟨d,rfl,q⟩:=q1;cases r1;exact wpAny_truthy_bool ⟨H1,I1,q⟩
theorem gQ{e:Expr}{t:TE}(h:PE X e t)(he:∀whole,isTrue e X.env whole=(do let v ← whole;standAt e.pos;holding [v] (truthy v)):=by intro _;rfl):PT X e (tB t):=by
 intro pins s σ H Q I hw;refine isTrue_plain (thn (h pins s σ H _ I hw) λv s1 ⟨x,H1,I1,r1,q1⟩=>?_) (he _);obtain⟨d,rfl,q⟩:=q1;cases r1;exact wpAny_truthy_bool ⟨H1,I1,q⟩
variable{tA tB':TT}{rest:List Expr}
def ze(t u:TT):TT:=λσ H Q=>t σ H λc H1=>if c=true then u σ H1 Q else Q false H1
def tOr(t u:TT):TT:=λσ H Q=>t σ H λc H1=>if c=true then Q true H1 else u σ H1 Q
def zf(t:TT):TT:=λσ H Q=>t σ H λc H1=>Q (!c) H1
theorem pw_and1(ha:PT X a tA):PW X (.BoolOp .And [a] pos) tA:=by
 intro wh pins s σ H Q I h;refine isTrue_and (thn (ha pins s σ H Q I h) λc s1 e=>?_);cases c with
 |true=>exact isTrue_and_nil e
 |false=>exact e
theorem pw_or1(ha:PT X a tA):PW X (.BoolOp .Or [a] pos) tA:=by
 intro wh pins s σ H Q I h;refine isTrue_or (thn (ha pins s σ H Q I h) λc s1 e=>?_);cases c with
 |false=>exact isTrue_or_nil e
 |true=>exact e
theorem pw_and(ha:PT X a tA)(hb:PW X (.BoolOp .And (b::rest) pos) tB'):PW X (.BoolOp .And (a::b::rest) pos) (ze tA tB'):=by
 intro wh pins s σ H Q I h;refine isTrue_and (thn (ha pins s σ H _ I h) λc s1 hpt=>?_);obtain⟨H1,I1,q1⟩:=hpt;cases c with
 |true=>exact hb wh pins s1 σ H1 Q I1 q1
 |false=>exact⟨H1,I1,q1⟩
theorem pw_or(ha:PT X a tA)(hb:PW X (.BoolOp .Or (b::rest) pos) tB'):PW X (.BoolOp .Or (a::b::rest) pos) (tOr tA tB'):=by
 intro wh pins s σ H Q I h;refine isTrue_or (thn (ha pins s σ H _ I h) λc s1 hpt=>?_);obtain⟨H1,I1,q1⟩:=hpt;cases c with
 |true=>exact⟨H1,I1,q1⟩
 |false=>exact hb wh pins s1 σ H1 Q I1 q1
theorem jl(ha:PT X a tA):PT X (.UnaryOp .Not a pos) (zf tA):=by
 intro pins s σ H Q I h;exact isTrue_not (ha pins s σ H (λc H1=>Q (!c) H1) I h)
def tIf(t:TT)(ta tb:TE):TE:=λσ H Q=>t σ H λc H1=>if c=true then ta σ H1 Q else tb σ H1 Q
theorem jm{c:Expr}(hc:PT X c tA)(ha:PE X a ta)(hb:PE X b tb):PE X (.IfExp c a b pos) (tIf tA ta tb):=by
 intro pins s σ H Q I h;refine wpAny_IfExp (thn (hc pins s σ H _ I h) λd s1 hpt=>?_);obtain⟨H1,I1,q1⟩:=hpt;cases d with
 |true=>exact ha pins s1 σ H1 Q I1 q1
 |false=>exact hb pins s1 σ H1 Q I1 q1
end
def SqL(K:PySem.W.Frag)(H:Hp)(a:Addr)(xs:List V):Prop :=
 Rd H a (.lst xs) ∨
  ∃(o:Obj) (its:Array Value) (n:Nat),K.lookup a=some o∧o.cls=.type "list"∧o.dict=none∧o.data=.seq its n∧its.size≤sizeLine∧aT xs its.toList
def SqT(K:PySem.W.Frag)(H:Hp)(a:Addr)(xs:List V):Prop :=
 Rd H a (.tup xs) ∨
  ∃(o:Obj) (its:Array Value) (n:Nat),K.lookup a=some o∧o.cls=.type "tuple"∧o.data=.seq its n∧its.size≤sizeLine∧aT xs its.toList
def zg:Value→Option V
 |.none=>some .non
 |.bool b=>some (.bl b)
 |.int i _=>some (.int i)
 |.str x _=>some (.str x)
 |.bytes b _=>some (.byt b)
 |.float b _=>some (.flt b)
 |.ref a=>some (.ref a)
 |.type n=>some (.ty n)
 |_=>none
theorem aX.abs{x:V}{u:Value}(r:aX x u):zg u=some x:=by
 cases x with
 |non=>cases r;rfl
 |bl _=>cases r;rfl
 |int _=>obtain⟨t,rfl⟩:=r;rfl
 |str _=>obtain⟨t,rfl⟩:=r;rfl
 |byt _=>obtain⟨t,rfl⟩:=r;rfl
 |flt _=>obtain⟨t,rfl⟩:=r;rfl
 |ref _=>cases r;rfl
 |ty _=>cases r;rfl
theorem aX.inj{x y:V}{u:Value}(r:aX x u)(q:aX y u):x=y:=Option.some.inj (r.abs.symm.trans q.abs)
theorem aT.inj:∀{xs ys:List V}{us:List Value},aT xs us→aT ys us→xs=ys
 |_,_,_,.nil,.nil=>rfl
 |_,_,_,.cons r t,.cons r' t'=>by rw[r.inj r',aT.inj t t']
section
variable{X:Cx}{pins:List (Addr×Obj)}{σ:St}{H:Hp}{s:Shared}{a:Addr}{xs ys:List V}
theorem SqL.of{K:PySem.W.Frag}(h:H a=some (.lst xs)):SqL K H a xs:=.inl (.inl h)
theorem SqT.of{K:PySem.W.Frag}(h:H a=some (.tup xs)):SqT K H a xs:=.inl (.inl h)
theorem Inv.list(I:Inv X pins σ H s)(h:SqL X.K H a xs):∃its:List Value,aT xs its∧PlainL s.heap a its.toArray∧xs.length≤sizeLine:=by
 rcases h with h|⟨o,its,n,hk,hc,hd,hs,hz,r⟩
 ·obtain⟨z,its,n,r,e⟩:=h.ok I.hok;exact⟨its,r,⟨_,n,e,rfl,rfl,rfl⟩,z⟩
 ·refine⟨its.toList,r,⟨o,n,I.kIn a o hk,hc,hd,by simpa using hs⟩,?_⟩
  have e:=r.length;simp only[length_toList]at e;omega
theorem Inv.tuple(I:Inv X pins σ H s)(h:SqT X.K H a xs):∃its:List Value,aT xs its∧IsTup s.heap a its.toArray∧xs.length≤sizeLine:=by
 rcases h with h|⟨o,its,n,hk,hc,hs,hz,r⟩
 ·obtain⟨z,its,r,p⟩:=h.ok I.hok;exact⟨its,r,p,z⟩
 ·refine⟨its.toList,r,⟨o,I.kIn a o hk,hc,n,by simpa using hs⟩,?_⟩
  have e:=r.length;simp only[length_toList]at e;omega
theorem Inv.list_inj(I:Inv X pins σ H s)(h:SqL X.K H a xs)(h':SqL X.K H a ys):xs=ys:=by
 obtain⟨its,r,⟨o,n,e,_,_,d⟩,_⟩:=I.list h;obtain⟨its',r',⟨o',n',e',_,_,d'⟩,_⟩:=I.list h';rw[e]at e';cases e';rw[d]at d';injection d' with d1 _
 have:its=its':=by simpa using congrArg toList d1
 subst this;exact r.inj r'
theorem Inv.tuple_inj(I:Inv X pins σ H s)(h:SqT X.K H a xs)(h':SqT X.K H a ys):xs=ys:=by
 obtain⟨its,r,⟨o,e,_,n,d⟩,_⟩:=I.tuple h;obtain⟨its',r',⟨o',e',_,n',d'⟩,_⟩:=I.tuple h';rw[e]at e';cases e';rw[d]at d';injection d' with d1 _
 have:its=its':=by simpa using congrArg toList d1
 subst this;exact r.inj r'
end
abbrev Cx.wish(X:Cx)(E:Value→Shared→Prop):Cx:={X with xe:=E}
abbrev Cx.nox(X:Cx):Cx:=X.wish λ_ _=>False
theorem Cx.Ok.wish{X:Cx}(ok:X.Ok)(E:Value→Shared→Prop):(X.wish E).Ok :=
 ⟨ok.mod,ok.kind,ok.glob,ok.blt,ok.above,ok.inj,ok.has,ok.cab,ok.hd,ok.frames,ok.stk,ok.exf,ok.bs,ok.bsz,ok.noex,ok.exfs,ok.funs,ok.frf⟩
theorem Cx.Ok.unwish{X:Cx}{E:Value→Shared→Prop}(ok:(X.wish E).Ok):X.Ok :=
 ⟨ok.mod,ok.kind,ok.glob,ok.blt,ok.above,ok.inj,ok.has,ok.cab,ok.hd,ok.frames,ok.stk,ok.exf,ok.bs,ok.bsz,ok.noex,ok.exfs,ok.funs,ok.frf⟩
section
variable{X:Cx}{pins:List (Addr×Obj)}{σ:St}{H:Hp}{s:Shared}{E:Value→Shared→Prop}
theorem Inv.wish(I:Inv X pins σ H s)(E:Value→Shared→Prop):Inv (X.wish E) pins σ H s:=⟨I.ok.wish E,I.os,I.bare,I.base,I.loc,I.cell,I.free,I.freeC,I.pin,I.hok,I.len⟩
theorem Inv.unwish(I:Inv (X.wish E) pins σ H s):Inv X pins σ H s:=⟨I.ok.unwish,I.os,I.bare,I.base,I.loc,I.cell,I.free,I.freeC,I.pin,I.hok,I.len⟩
theorem SP.unwish{D:Ends}{f:Flow}{s':Shared}(h:SP (X.wish E) pins D f s'):SP X pins D f s':=by
 cases f with
 |next=>obtain⟨σ',H',I,q⟩:=h;exact⟨σ',H',I.unwish,q⟩
 |brk=>obtain⟨σ',H',I,q⟩:=h;exact⟨σ',H',I.unwish,q⟩
 |cont=>obtain⟨σ',H',I,q⟩:=h;exact⟨σ',H',I.unwish,q⟩
 |ret u=>obtain⟨v,σ',H',I,r,q⟩:=h;exact⟨v,σ',H',I.unwish,r,q⟩
theorem PSs.nox{st:List Stmt}{t:TS}(h:PSs X.nox st t):PSs X st t:=λpins s σ H D I hw =>
 wpAny_mono (h pins s σ H D (I.wish _) hw) (λ_ _ q=>q.unwish) λ_ _ z=>False.elim z
end
section
variable{X:Cx}{st:Stmt}{rest:List Stmt}{t u:TS}{e:Expr}{te:TE}{pos:Pos}
def yo:TS:=λD σ H=>D.nx σ H
def iY(t u:TS):TS:=λD σ H=>t {D with nx:=u D} σ H
theorem aB:PSs X [] yo:=λ_ _ σ H _ I h=>wpAny_execs_nil ⟨σ,H,I,h⟩
theorem ae(h1:PS X st t)(h2:PSs X rest u):PSs X (st::rest) (iY t u):=by
 intro pins s σ H D I h;refine wpAny_execs_cons (thn (h1 pins s σ H {D with nx:=u D} I h) λf s1 q=>?_);cases f with
 |next =>
  obtain⟨σ',H',I',q⟩:=q;exact h2 pins s1 σ' H' D I' q
 |ret v=>exact q
 |brk=>exact q
 |cont=>exact q
theorem aj(h1:PS X st t):PSs X [st] t:=by
 intro pins s σ H D I h;refine wpAny_execs_cons (thn (h1 pins s σ H D I h) λf s1 q=>?_);cases f with
 |next=>exact wpAny_execs_nil q
 |ret v=>exact q
 |brk=>exact q
 |cont=>exact q
theorem Inv.quiet{pins:List (Addr×Obj)}{σ:St}{H:Hp}{s:Shared}(I:Inv X pins σ H s):interactive X.env=false:=by simp[interactive,I.ok.kind]
def vR(te:TE):TS:=λD σ H=>te σ H λ_ H1=>D.nx σ H1
theorem bz(he:PE X e te)(hs:swapsWith e none pos.line X.env=pure false:=by rfl):PS X (.Expr e pos) (vR te):=by
 intro pins s σ H D I h;exact wpAny_Expr_any (thn (he pins s σ H _ I h) λv s1 ⟨x,H1,I1,r1,q1⟩=>⟨σ,H1,I1,q1⟩) I.quiet hs
def wv(te:TE):TS:=λD σ H=>te σ H D.rt
theorem ax(he:PE X e te):PS X (.Return (some e) pos) (wv te):=by
 intro pins s σ H D I h;exact wpAny_Return_some (thn (he pins s σ H _ I h) λv s1 ⟨x,H1,I1,r1,q1⟩=>⟨x,σ,H1,I1,r1,q1⟩)
def zh(c:TT)(t u:TS):TS:=λD σ H=>c σ H λb H1=>if b=true then t D σ H1 else u D σ H1
theorem aW{c:Expr}{a b:List Stmt}{tc:TT}(hc:PT X c tc)(ha:PSs X a t)(hb:PSs X b u):PS X (.If c a b pos) (zh tc t u):=by
 intro pins s σ H D I h;refine wpAny_If (thn (hc pins s σ H _ I h) λd s1 hpt=>?_);obtain⟨H1,I1,q1⟩:=hpt;cases d with
 |true=>exact ha pins s1 σ H1 D I1 q1
 |false=>exact hb pins s1 σ H1 D I1 q1
def rH:TS:=λ_ _ _=>False
theorem rJ:PS X st rH:=λ_ _ _ _ _ _ h=>h.elim
theorem qH{sts:List Stmt}:PSs X sts rH:=λ_ _ _ _ _ _ h=>h.elim
end
abbrev TG:=V→St→Hp→(St→Hp→Prop)→Prop
def PG(X:Cx)(target:Expr)(t:TG):Prop :=
 ∀(pins:List (Addr×Obj))(s:Shared)(σ:St)(H:Hp)(v:V)(u:Value)(Q:St→Hp→Prop),Inv X pins σ H s→aX v u→t v σ H Q →
  wpAny (model X.prog X.w) X.A (assign target X.env u) (λ_ s'=>∃σ' H',Inv X pins σ' H' s'∧Q σ' H') X.xe s
abbrev TIp:=V→V→Hp→VK→Prop
def PIp(X:Cx)(op:Operator)(t:TIp):Prop :=
 ∀(pins:List (Addr×Obj))(s:Shared)(σ:St)(H:Hp)(x y:V)(v u:Value)(Q:VK),Inv X pins σ H s→aX x v→aX y u→t x y H Q →
  wpAny (model X.prog X.w) X.A (inplaceOp op v u) (EP X pins σ Q) X.xe s
section
variable{X:Cx}{pos:Pos}
def bg(i:Nat):TG:=λv σ H Q=>Q (σ.set i (some v)) H
theorem aG{i:Nat}{x:Str}(hN:X.N.Nodup)(hi:X.N[i]?=some x)(hx:Loc X.env.scope x)(hf:X.fn x=true∨X.env.scope.names.lookup x=some .local:=by first|exact .inl rfl|exact .inr rfl|assumption):PG X (.Name x pos) (bg i):=by
 intro pins s σ H v u Q I r h;exact wpAny_assign_Name (eR I hN hi hx r (λs' I'=>⟨_,H,I',h⟩) hf)
def ww(te:TE)(g:TG):TS:=λD σ H=>te σ H λx H1=>g x σ H1 D.nx
theorem ap{i:Nat}{x:Str}{e:Expr}{te:TE}{pos':Pos}(hN:X.N.Nodup)(hi:X.N[i]?=some x)(hx:Loc X.env.scope x)(he:PE X e te)(hs:swapsWith e (some (.Name x pos')) pos.line X.env=pure false:=by rfl)(hf:X.fn x=true∨X.env.scope.names.lookup x=some .local:=by first|exact .inl rfl|exact .inr rfl|assumption):
  PS X (.Assign [.Name x pos'] e pos) (ww te (bg i)):=by
 intro pins s σ H D I h;refine wpAny_Assign_Name (thn (he pins s σ H _ I h) λv s1 ⟨y,H1,I1,r1,q1⟩=>?_) hs;exact eR I1 hN hi hx r1 (λs2 I2=>⟨_,H1,I2,q1⟩) hf
def zi(i:Nat)(te:TE)(ti:TIp):TS:=λD σ H=>∃x,σ[i]?=some (some x)∧te σ H λy H1=>ti x y H1 λz H2=>D.nx (σ.set i (some z)) H2
theorem wx{i:Nat}{x:Str}{e:Expr}{te:TE}{op:Operator}{ti:TIp}{pos':Pos}(hN:X.N.Nodup)(hi:X.N[i]?=some x)(hx:Loc X.env.scope x)(he:PE X e te)(ho:PIp X op ti)(hf:X.fn x=true∨X.env.scope.names.lookup x=some .local:=by first|exact .inl rfl|exact .inr rfl|assumption):
  PS X (.AugAssign (.Name x pos') op e pos) (zi i te ti):=by
 intro pins s σ H D I h;obtain⟨v,e1,h⟩:=h;obtain⟨m,hn,hl⟩:=I.loc;have vis:Vis X.env.scope x:=by rcases hx with k|k;exact .inl k;exact .inr (.inl k)
 obtain⟨u,r,l⟩:=hl i x v hi e1 vis;refine wpAny_AugAssign_Name ?_;have go:wpAny (model X.prog X.w) X.A (eval e X.env) (λw s₂=>wpAny (model X.prog X.w) X.A (inplaceOp op u w) (λr s₃=>wpAny (model X.prog X.w) X.A (storeName X.env x r) (λ_=>SP X pins D .next) X.xe s₃) X.xe s₂) X.xe s:=by
  refine thn (he pins s σ H _ I h) λw s1 hpt=>?_;obtain⟨y,H1,I1,r1,q1⟩:=hpt;refine thn (ho pins s1 σ H1 v y u w _ I1 r r1 q1) λz s2 hpt=>?_;obtain⟨zv,H2,I2,r2,q2⟩:=hpt;exact eR I2 hN hi hx r2 (λs3 I3=>⟨_,H2,I3,q2⟩) hf
 rcases l with⟨hk,hm⟩|⟨hk,c,hc,hcell⟩
 ·exact wpAny_loadName_local I.ok.kind hk hn hm go
 ·rcases hk with hk|hk
  ·exact wpAny_loadName_cell I.ok.kind hk hc hcell go
  ·rcases hx with k|k
   ·have:X.env.scope.names.lookup x=some .free:=hk;rw[k]at this;cases this
   ·have:X.env.scope.names.lookup x=some .free:=hk;rw[k]at this;cases this
def rK(c:TT)(tb:TS):TS:=λD σ H=>∃W:Nat→St→Hp→Prop,(∃m,W m σ H)∧∀m σ H,W m σ H →
 c σ H λb H1=>if b=true then ∃N:St→Hp→Prop,(∀σ' H',N σ' H'→∃m',m'<m∧W m' σ' H')∧tb {D with nx:=N,ct:=N,bk:=D.nx} σ H1 else D.nx σ H1
theorem dw{c:Expr}{body:List Stmt}{tc:TT}{tb:TS}(hp:PassesOwn (model X.prog X.w) X.A X.env X.xe)(hc:PT X c tc)(hb:PSs X body tb):PS X (.While c body [] pos) (rK tc tb):=by
 intro pins s σ H D I h;obtain⟨W,⟨m0,w0⟩,turn⟩:=h;refine wpAny_While (codeAny_whileLoop (λn s'=>∃σ' H',Inv X pins σ' H' s'∧W n σ' H') ?_ m0 ⟨σ,H,I,w0⟩);rintro n s1 ⟨σ1,H1,I1,w1⟩;refine wpAny_passesOwn hp (thn (hc pins s1 σ1 H1 _ I1 (turn n σ1 H1 w1)) λb s2 hpt=>?_);obtain⟨H2,I2,q2⟩:=hpt;cases b with
 |true =>
  obtain⟨N,hN,q2⟩:=q2;rw[if_pos rfl];refine wpAny_passesOwn hp (thn (hb pins s2 σ1 H2 _ I2 q2) λf s3 q3=>?_);cases f with
  |next =>
   obtain⟨σ3,H3,I3,n3⟩:=q3;obtain⟨m',hm,w3⟩:=hN σ3 H3 n3;exact⟨m',hm,σ3,H3,I3,w3⟩
  |cont =>
   obtain⟨σ3,H3,I3,n3⟩:=q3;obtain⟨m',hm,w3⟩:=hN σ3 H3 n3;exact⟨m',hm,σ3,H3,I3,w3⟩
  |brk=>exact q3
  |ret v=>exact q3
 |false =>
  rw[if_neg Bool.false_ne_true];exact wpAny_execs_nil ⟨σ1,H2,I2,q2⟩
end
structure It where
 go:Nat→Hp→Prop
 yld:Nat→Hp→V→Hp→Prop
 stop:Nat→Hp→Prop
def fH(X:Cx)(pins:List (Addr×Obj))(H:Hp)(b:Addr):Prop :=
 H b=none∧b≠X.env.locals∧b∉X.fs∧(b∈X.ex∨X.s₀.heap.objs.size≤b)∧(∀x c,X.env.cells.lookup x=some c→c≠b)∧∀p∈X.pn++pins,p.1≠b
theorem Inv.fpOk{X:Cx}{pins:List (Addr×Obj)}{σ:St}{H H':Hp}{s:Shared}{b:Addr}(I:Inv X pins σ H s)(hb:s.heap.objs.size≤b)(hn:H' b=none):fH X pins H' b:=by
 refine⟨hn,Nat.ne_of_gt (lt_of_lt_of_le I.lt hb),I.nofs hb,.inr (le_trans I.sz hb),λx c e z=>?_,λp hp z=>?_⟩
 ·obtain⟨v,q⟩:=I.cell x c e;exact absurd (lt_of_lt_of_le q.lt (by rw[z];exact hb)) (lt_irrefl _)
 ·exact absurd (lt_of_lt_of_le (lt_size (I.pin p hp).1) (by rw[z];exact hb)) (lt_irrefl _)
structure Turn(P:Program)(w:World)(K:PySem.W.Frag)(tg:Expr)(J:It)(fp:List Addr)(it:Addr)(tn:Nat→Heap→Prop):Prop where
 mem:it∈fp
 obj:∀i h,tn i h→∀b∈fp,∃o,h.get? b=some o∧∀v,o.data≠.cell v
 keep:∀i h h',tn i h→(∀b∈fp,∀o,h.get? b=some o→h'.get? b=some o)→tn i h'
 item:∀(X:Cx),X.prog=P→X.w=w→X.K=K→X.calm=true→∀(i:Nat)(pins:List (Addr×Obj))(s:Shared)(σ:St)(H:Hp)(E:Value→Shared→Prop),Inv X pins σ H s→(∀b∈fp,fH X pins H b)→tn i s.heap→J.go i H →
  wpAny (model P w) X.A (pyNext (.ref it)) (λr s1=>∃u,r=some u ∧
   wpAny (model P w) X.A (letOwnedTupleGo tg (.ref it) u) (λ_ s2=>∃x H',Inv X pins σ H' s2∧aX x u∧J.yld i H x H'∧tn (i+1) s2.heap∧∀b∈fp,H' b=none) E s1) E s
 done:∀(X:Cx),X.prog=P→X.w=w→X.K=K→X.calm=true→∀(i:Nat)(pins:List (Addr×Obj))(s:Shared)(σ:St)(H:Hp)(E:Value→Shared→Prop),Inv X pins σ H s→(∀b∈fp,fH X pins H b)→tn i s.heap→J.stop i H →
  wpAny (model P w) X.A (pyNext (.ref it)) (λr s1=>r=none∧Inv X pins σ H s1) E s
 self:∀(A:Around)(i:Nat)(s:Shared)(Q:Value→Shared→Prop)(E:Value→Shared→Prop),tn i s.heap→Q (.ref it) s→wpAny (model P w) A (pyIter (.ref it)) Q E s
abbrev TI:=St→Hp→(It→Hp→Prop)→Prop
def PIE(X:Cx)(pins:List (Addr×Obj))(σ:St)(tg:Expr)(R:It→Hp→Prop)(itv:Value)(s2:Shared):Prop :=
 ∃(it:Addr) (fp:List Addr) (tn:Nat→Heap→Prop) (J:It) (H':Hp),itv=.ref it∧Inv X pins σ H' s2∧Turn X.prog X.w X.K tg J fp it tn∧tn 0 s2.heap∧(∀b∈fp,fH X pins H' b)∧R J H'
def PI(X:Cx)(tg iter:Expr)(wi:TI):Prop :=
 ∀(pins:List (Addr×Obj))(s:Shared)(σ:St)(H:Hp)(R:It→Hp→Prop),Inv X pins σ H s→wi σ H R →
  wpAny (model X.prog X.w) X.A (eval iter X.env) (λv s1=>wpAny (model X.prog X.w) X.A (pyIter v) (PIE X pins σ tg R) X.xe s1) X.xe s
theorem mh{M:Model}{A:Around}{E:Value→Shared→Prop}{s:Shared}{tg:Expr}{it:Addr}{u:Value}{o:Obj}{n:String}{vs:Array Value}{Q:Unit→Shared→Prop}(ho:s.heap.get? it=some o)(hc:o.cls=.type n)(hd:o.data=.fields vs)(hn:["enumerate","zip","dict_itemiterator","dict_reverseitemiterator","odict_iterator","itertools.zip_longest","itertools.pairwise"].contains n=false)(hQ:Q () s):wpAny M A (letOwnedTupleGo tg (.ref it) u) Q E s:=by
 unfold letOwnedTupleGo;cases tg<;>first
  |exact wpAny_pure hQ
  | (cases u<;>first
    |exact wpAny_pure hQ
    | (refine wpAny_bind (wpAny_load ho ?_)
       rw[hc,hd];show wpAny M A (if (["enumerate","zip","dict_itemiterator","dict_reverseitemiterator","odict_iterator","itertools.zip_longest","itertools.pairwise"].contains n&&vs[0]?==some (rawInt _))=true then _ else _) Q E s
       rw[if_neg (by intro h;rw[hn,Bool.false_and]at h;cases h)];exact wpAny_pure hQ))
def Itl(K:PySem.W.Frag)(a:Addr):It :=
 ⟨λi H=>∃xs x,SqL K H a xs∧xs[i]?=some x,λi H x H'=>H'=H∧∀xs,SqL K H a xs→xs[i]?=some x,λi H=>∃xs,SqL K H a xs∧xs.length≤i⟩
def Itt(K:PySem.W.Frag)(a:Addr):It :=
 ⟨λi H=>∃xs x,SqT K H a xs∧xs[i]?=some x,λi H x H'=>H'=H∧∀xs,SqT K H a xs→xs[i]?=some x,λi H=>∃xs,SqT K H a xs∧xs.length≤i⟩
def Itr(lo:Int)(n:Nat):It:=⟨λi _=>i<n,λi H x H'=>H'=H∧x=.int (lo+i),λi _=>n≤i⟩
theorem qI{P:Program}{w:World}{K:PySem.W.Frag}{tg:Expr}(a it:Addr):Turn P w K tg (Itl K a) [it] it (λi h=>h.IsListIter it a i) where
 mem:=by simp
 obj:=λi h st b hb=>by
  have e:b=it:=by simpa using hb
  subst e;obtain⟨o,e,c,d⟩:=st;exact⟨o,e,λv z=>by rw[d]at z;cases z⟩
 keep:=λi h h' st k=>st.at λo e=>k it (by simp) o e
 item:=by
  intro X hP hw hK hc i pins s σ H E I hf st hg;subst hP hw hK;obtain⟨xs,x,hq,hx⟩:=hg;obtain⟨its,rv,p,hz⟩:=I.list hq;obtain⟨u,hu,ru⟩:=rv.get hx;obtain⟨f0,f1,f2,f3,f4,f5⟩:=hf it (by simp);refine wpAny_pyNext_list_item st p.isList (x:=u) (by simpa using hu) λh' st' sb=>?_;have I1:Inv X pins σ H {s with heap:=h'}:=I.turned (t':=s.toks) (λb o hb e=>(sb.2 b hb).trans e) f0 f1 f3 f4 f5
  obtain⟨o,e,c,d⟩:=id st';exact⟨u,rfl,mh (s:={s with heap:=h'}) e c d (by decide) ⟨x,H,I1,ru,⟨rfl,λys hy=>by rw[I.list_inj hy hq];exact hx⟩,st',λb hb=>(hf b hb).1⟩⟩
 done:=by
  intro X hP hw hK hc i pins s σ H E I hf st hg;subst hP hw hK;obtain⟨xs,hq,hx⟩:=hg;obtain⟨its,rv,p,hz⟩:=I.list hq;obtain⟨f0,f1,f2,f3,f4,f5⟩:=hf it (by simp);have hl:=rv.length;exact wpAny_pyNext_list_end (I.ok.hd hc) st p.isList (by simp;omega) λh' eb=>⟨rfl,I.turned (t':=s.toks) (λb o hb e=>eb b o hb e) f0 f1 f3 f4 f5⟩
 self:=λ_ _ _ _ _ st h=>wpAny_pyIter_listiter st h
theorem oo{P:Program}{w:World}{K:PySem.W.Frag}{tg:Expr}(a it:Addr):Turn P w K tg (Itt K a) [it] it (λi h=>h.IsTupleIter it a i) where
 mem:=by simp
 obj:=λi h st b hb=>by
  have e:b=it:=by simpa using hb
  subst e;obtain⟨o,e,c,d⟩:=st;exact⟨o,e,λv z=>by rw[d]at z;cases z⟩
 keep:=λi h h' st k=>st.at λo e=>k it (by simp) o e
 item:=by
  intro X hP hw hK hc i pins s σ H E I hf st hg;subst hP hw hK;obtain⟨xs,x,hq,hx⟩:=hg;obtain⟨its,rv,p,hz⟩:=I.tuple hq;obtain⟨u,hu,ru⟩:=rv.get hx;obtain⟨f0,f1,f2,f3,f4,f5⟩:=hf it (by simp);refine wpAny_pyNext_tuple_item st (show s.heap.IsTuple a its.toArray from p) (x:=u) (by simpa using hu) λh' st' sb=>?_;have I1:Inv X pins σ H {s with heap:=h'}:=I.turned (t':=s.toks) (λb o hb e=>(sb.2 b hb).trans e) f0 f1 f3 f4 f5
  obtain⟨o,e,c,d⟩:=id st';exact⟨u,rfl,mh (s:={s with heap:=h'}) e c d (by decide) ⟨x,H,I1,ru,⟨rfl,λys hy=>by rw[I.tuple_inj hy hq];exact hx⟩,st',λb hb=>(hf b hb).1⟩⟩
 done:=by
  intro X hP hw hK hc i pins s σ H E I hf st hg;subst hP hw hK;obtain⟨xs,hq,hx⟩:=hg;obtain⟨its,rv,p,hz⟩:=I.tuple hq;obtain⟨f0,f1,f2,f3,f4,f5⟩:=hf it (by simp);have hl:=rv.length;exact wpAny_pyNext_tuple_end (I.ok.hd hc) st (show s.heap.IsTuple a its.toArray from p) (by simp;omega) λh' eb=>⟨rfl,I.turned (t':=s.toks) (λb o hb e=>eb b o hb e) f0 f1 f3 f4 f5⟩
 self:=λ_ _ _ _ _ st h=>wpAny_pyIter_tupleiter st h
theorem oq{P:Program}{w:World}{K:PySem.W.Frag}{tg:Expr}(it:Addr)(lo:Int)(n:Nat):Turn P w K tg (Itr lo n) [it] it (λi h=>IsRangeIter h it (lo+(i:Nat)*1) ((n:Int)-(i:Nat)) 1) where
 mem:=by simp
 obj:=λi h st b hb=>by
  have e:b=it:=by simpa using hb
  subst e;exact⟨_,st,λv z=>by
   have z':Data.fields _=Data.cell v:=z;cases z'⟩
 keep:=λi h h' st k=>k it (by simp) _ st
 item:=by
  intro X hP hw hK hc i pins s σ H E I hf st hg;subst hP hw hK;obtain⟨f0,f1,f2,f3,f4,f5⟩:=hf it (by simp);have W:=Walks.range (prog:=X.prog) (w:=X.w) (I.ok.hd hc) it lo 1 n;refine W.item i s _ _ hg st λv h' tk hv st' kk=>?_;obtain⟨t,rfl⟩:=hv;have I1:Inv X pins σ H {s with heap:=h',toks:=tk}:=I.turned (λb o hb e=>kk b o (by simpa using hb) e) f0 f1 f3 f4 f5
  refine⟨_,rfl,mh (s:={s with heap:=h',toks:=tk}) (n:="range_iterator") st' rfl rfl (by decide) ⟨.int (lo+i),H,I1,⟨t,?_⟩,⟨rfl,rfl⟩,st',λb hb=>(hf b hb).1⟩⟩;rw[Int.mul_one]
 done:=by
  intro X hP hw hK hc i pins s σ H E I hf st hg;subst hP hw hK;obtain⟨f0,f1,f2,f3,f4,f5⟩:=hf it (by simp);exact wpAny_pyNext_range_end (I.ok.hd hc) st (by have:n≤i:=hg;omega) λh' eb=>⟨rfl,I.turned (t':=s.toks) (λb o hb e=>eb b o hb e) f0 f1 f3 f4 f5⟩
 self:=λ_ _ _ _ _ st h=>wpAny_pyIter_rangeiter st h
section
variable{X:Cx}{tg:Expr}
def yp(K:PySem.W.Frag)(tl:TE):TI:=λσ H R=>tl σ H λx H1=>∃a,x=.ref a∧(∃xs,SqL K H1 a xs)∧R (Itl K a) H1
def zj(K:PySem.W.Frag)(tl:TE):TI:=λσ H R=>tl σ H λx H1=>∃a,x=.ref a∧(∃xs,SqT K H1 a xs)∧R (Itt K a) H1
theorem ce{l:Expr}{tl:TE}(hl:PE X l tl):PI X tg l (yp X.K tl):=by
 intro pins s σ H R I h;refine thn (hl pins s σ H _ I h) λv s1 hpt=>?_;obtain⟨x,H1,I1,r1,q1⟩:=hpt;obtain⟨a,e,⟨xs,hq⟩,q⟩:=q1;subst e;cases r1;obtain⟨its,rv,p,hz⟩:=I1.list hq;refine wpAny_pyIter_list p.isList ?_;refine⟨s1.heap.objs.size,[s1.heap.objs.size],_,_,H1,rfl,I1.kept (t':=s1.toks) λb o e=>get?_push_of_some _ e,qI a _,⟨_,get?_push_size _ rfl,rfl,rfl⟩,λb hb=>?_,q⟩;have e:b=s1.heap.objs.size:=by simpa using hb
 subst e;exact I1.fpOk (le_refl _) (I1.hok.fresh (le_refl _))
theorem cS{l:Expr}{tl:TE}(hl:PE X l tl):PI X tg l (zj X.K tl):=by
 intro pins s σ H R I h;refine thn (hl pins s σ H _ I h) λv s1 hpt=>?_;obtain⟨x,H1,I1,r1,q1⟩:=hpt;obtain⟨a,e,⟨xs,hq⟩,q⟩:=q1;subst e;cases r1;obtain⟨its,rv,p,hz⟩:=I1.tuple hq;refine wpAny_pyIter_tuple (show s1.heap.IsTuple a its.toArray from p) ?_;refine⟨s1.heap.objs.size,[s1.heap.objs.size],_,_,H1,rfl,I1.kept (t':=s1.toks) λb o e=>get?_push_of_some _ e,oo a _,⟨_,get?_push_size _ rfl,rfl,rfl⟩,λb hb=>?_,q⟩;have e:b=s1.heap.objs.size:=by simpa using hb
 subst e;exact I1.fpOk (le_refl _) (I1.hok.fresh (le_refl _))
theorem rL{pins:List (Addr×Obj)}{σ:St}{H:Hp}{s:Shared}{R:It→Hp→Prop}{E:Value→Shared→Prop}{lo hi:Int}{t u v:Tok}{tk:Nat}(I:Inv X pins σ H s)(h1:-(2 ^ 62)≤lo)(h2:lo<2 ^ 62)(h3:-(2 ^ 62)≤hi)(h4:hi<2 ^ 62)(q:R (Itr lo (hi-lo).toNat) H):wpAny (model X.prog X.w) X.A (pyIter (.ref s.heap.objs.size)) (PIE X pins σ tg R) E {s with heap:=s.heap.push {cls:=.type "range",data:=.fields #[.int lo t,.int hi u,.int 1 v]},toks:=tk}:=by
 refine wpAny_pyIter_range (IsRange.new ..) (small_one h1 h2 h3 h4) ?_;have I1:Inv X pins σ H {s with heap:=s.heap.push {cls:=.type "range",data:=.fields #[.int lo t,.int hi u,.int 1 v]},toks:=tk}:=I.kept λb o e=>get?_push_of_some _ e
 refine⟨(s.heap.push {cls:=.type "range",data:=.fields #[.int lo t,.int hi u,.int 1 v]}).objs.size,[(s.heap.push {cls:=.type "range",data:=.fields #[.int lo t,.int hi u,.int 1 v]}).objs.size],_,_,H,rfl,
  I1.kept (t':=tk) λb o e=>get?_push_of_some _ e,oq _ lo (hi-lo).toNat,?_,λb hb=>?_,q⟩
 ·have e1:lo+((0:Nat):Int)*1=lo:=by simp
  have e2:(((hi-lo).toNat:Nat):Int)-((0:Nat):Int)=Builtin.Range.rangeSize lo hi 1:=by rw[rangeSize_one];split<;>omega
  show IsRangeIter _ _ (lo+((0:Nat):Int)*1) ((((hi-lo).toNat:Nat):Int)-((0:Nat):Int)) 1;rw[e1,e2];exact get?_push_size _ rfl
 ·have e:b=(s.heap.push {cls:=.type "range",data:=.fields #[.int lo t,.int hi u,.int 1 v]}).objs.size:=by simpa using hb
  subst e;exact I1.fpOk (le_refl _) (I1.hok.fresh (le_refl _))
def yq(ta:TA):TI:=λσ H R=>ta σ H λvs H1=>∃j:Int,vs=[.int j]∧-(2 ^ 62)≤j∧j<2 ^ 62∧R (Itr 0 j.toNat) H1
theorem ka{a:Expr}{ta:TA}{p pos:Pos}(hg:Gl X "range")(hm:X.mg "range"=none)(ha:PA X [a] ta)(hs:starEach [a] X.env=[(false,eval a X.env)]:=by rfl):PI X tg (.Call (.Name "range" p) [a] [] pos) (yq ta):=by
 intro pins s σ H R I h;refine Call_ (lr I hg hm boot_range (PyProof.Rows.callWith_type1 (thn (ha pos pins s σ H _ I h) λus s1 ⟨vs,H1,I1,r1,q1⟩=>?_) hs rfl));obtain⟨j,e,q1,q2,q⟩:=q1;subst e;cases r1 with
 |cons r rr =>
  cases rr;obtain⟨t,rfl⟩:=r;exact call_range_1 (rL I1 (by omega) (by omega) q1 q2 (by simpa using q))
def zk(wi:TI)(g:TG)(tb:TS):TS:=λD σ H=>wi σ H λJ H1=>∃W:Nat→Nat→St→Hp→Prop,(∃m,W 0 m σ H1)∧∀i m σ H,W i m σ H →
 (J.stop i H∧D.nx σ H)∨(J.go i H∧∃N:St→Hp→Prop,(∀σ' H',N σ' H'→∃m',m'<m∧W (i+1) m' σ' H')∧∀x H',J.yld i H x H'→g x σ H' λσ2 H2=>tb {D with nx:=N,ct:=N,bk:=D.nx} σ2 H2)
def lv(fp:List Addr)(h:Heap):List (Addr×Obj):=fp.filterMap λb=>(h.get? b).map λo=>(b,o)
theorem bo{fp:List Addr}{h:Heap}{b:Addr}{o:Obj}(hb:b∈fp)(e:h.get? b=some o):(b,o)∈lv fp h:=List.mem_filterMap.mpr ⟨b,hb,by rw[e];rfl⟩
theorem qJ{fp:List Addr}{h:Heap}{p:Addr×Obj}(hp:p∈lv fp h):p.1∈fp∧h.get? p.1=some p.2:=by
 obtain⟨b,hb,e⟩:=List.mem_filterMap.mp hp;cases q:h.get? b with
 |none=>rw[q]at e;cases e
 |some o =>
  rw[q]at e;have e':(b,o)=p:=Option.some.inj e;subst e';exact⟨hb,q⟩
theorem Inv.pinned{pins:List (Addr×Obj)}{σ:St}{H:Hp}{s:Shared}{fp:List Addr}(I:Inv X pins σ H s)(hf:∀b∈fp,fH X pins H b)(ho:∀b∈fp,∃o,s.heap.get? b=some o∧∀v,o.data≠.cell v):Inv X (pins++lv fp s.heap) σ H s :=
 I.pins_of λp hp=>(mem_append.mp hp).elim (λz=>I.pin p (mem_append_right _ z)) λz=>by
  obtain⟨hb,e⟩:=qJ z;obtain⟨f0,f1,f2,_⟩:=hf p.1 hb;obtain⟨o,e',d⟩:=ho p.1 hb;rw[e]at e';cases e';exact⟨e,f0,f1,f2,d⟩
theorem Inv.unpinned{pins pl:List (Addr×Obj)}{σ:St}{H:Hp}{s:Shared}(I:Inv X (pins++pl) σ H s):Inv X pins σ H s:=I.pins_of λp hp=>I.pin p (mem_append_right _ (mem_append_left _ hp))
theorem dh{iter:Expr}{body:List Stmt}{wi:TI}{g:TG}{tb:TS}{pos:Pos}(hp:PassesOwn (model X.prog X.w) X.A X.env X.xe)(hc:X.calm=true)(hi:PI X tg iter wi)(hg:PG X tg g)(hb:PSs X body tb)(hs:∀x,foldedSetIterable iter X.env x=pure x:=by intro _;rfl):PS X (.For tg iter body [] pos) (zk wi g tb):=by
 intro pins s σ H D I h;refine wpAny_For (thn (hi pins s σ H _ I h) λv s1 h1=>thn h1 λitv s2 h2=>?_) hs;obtain⟨it,fp,tn,J,H2,e,I2,T,st2,f2,W,⟨m0,w0⟩,turn⟩:=h2;subst e;have stat:∀{H':Hp},(∀b∈fp,H' b=none)→∀b∈fp,fH X pins H' b:=λhn b hb=>⟨hn b hb,(f2 b hb).2⟩;refine codeAny_forLoop_any (λn s'=>∃i σ' H',Inv X pins σ' H' s'∧tn i s'.heap∧(∀b∈fp,H' b=none)∧W i n σ' H') ?_ m0 ⟨0,σ,H2,I2,st2,λb hb=>(f2 b hb).1,w0⟩;rintro n s3 ⟨i,σ3,H3,I3,st3,fr3,w3⟩;rcases turn i n σ3 H3 w3 with⟨stop,qn⟩|⟨go,N,hN,step⟩
 ·refine wpAny_passesOwn hp (thn (T.done X rfl rfl rfl hc i pins s3 σ3 H3 X.xe I3 (stat fr3) st3 stop) λr s4 hpt=>?_);obtain⟨hr,I4⟩:=hpt;subst hr;exact wpAny_execs_nil ⟨σ3,H3,I4,qn⟩
 ·refine wpAny_passesOwn hp (thn (T.item X rfl rfl rfl hc i pins s3 σ3 H3 X.xe I3 (stat fr3) st3 go) λr s4 hpt=>?_);obtain⟨u,hr,h4⟩:=hpt;subst hr;refine wpAny_passesOwn hp (thn h4 λ_ s5 hpt=>?_);obtain⟨x,H5,I5,r5,y5,st5,fr5⟩:=hpt;have I5':=I5.pinned (stat fr5) (T.obj _ _ st5);refine wpAny_passesOwn hp (thn (hg _ s5 σ3 H5 x u _ I5' r5 (step x H5 y5)) λ_ s6 hpt=>?_);obtain⟨σ6,H6,I6,q6⟩:=hpt;refine wpAny_passesOwn hp (thn (hb _ s6 σ6 H6 _ I6 q6) λf s7 q7=>?_);have again:∀{σ7:St}{H7:Hp},Inv X (pins++lv fp s5.heap) σ7 H7 s7→N σ7 H7→∃m,m<n∧∃i σ' H',Inv X pins σ' H' s7∧tn i s7.heap∧(∀b∈fp,H' b=none)∧W i m σ' H':=λ{σ7 H7} I7 n7=>by
   obtain⟨m',hm,w7⟩:=hN σ7 H7 n7;refine⟨m',hm,i+1,σ7,H7,I7.unpinned,T.keep _ _ _ st5 λb hb o e=>(I7.pin (b,o) (mem_append_right _ (mem_append_right _ (bo hb e)))).1,λb hb=>?_,w7⟩;obtain⟨o,e,d⟩:=T.obj _ _ st5 b hb;exact(I7.pin (b,o) (mem_append_right _ (mem_append_right _ (bo hb e)))).2.1
  cases f with
  |next=>obtain⟨σ7,H7,I7,n7⟩:=q7;exact again I7 n7
  |cont=>obtain⟨σ7,H7,I7,n7⟩:=q7;exact again I7 n7
  |brk=>obtain⟨σ7,H7,I7,q7⟩:=q7;exact⟨σ7,H7,I7.unpinned,q7⟩
  |ret v=>obtain⟨x7,σ7,H7,I7,r7,q7⟩:=q7;exact⟨x7,σ7,H7,I7.unpinned,r7,q7⟩
end
theorem eS{K:PySem.W.Frag}{a:Addr}{xs:List V}{g:TG}{tb:TS}{D:Ends}{σ:St}{H:Hp}(Pv:Nat→St→Hp→Prop)(h0:Pv 0 σ H)(hl:∀i σ H,i≤xs.length→Pv i σ H→SqL K H a xs)(hs:∀i x σ H,xs[i]?=some x→Pv i σ H→g x σ H λσ2 H2=>tb {D with nx:=Pv (i+1),ct:=Pv (i+1),bk:=D.nx} σ2 H2)(hd:∀σ H,Pv xs.length σ H→D.nx σ H):
  ∃W:Nat→Nat→St→Hp→Prop,(∃m,W 0 m σ H)∧∀i m σ H,W i m σ H →
   ((Itl K a).stop i H∧D.nx σ H)∨((Itl K a).go i H∧∃N:St→Hp→Prop,(∀σ' H',N σ' H'→∃m',m'<m∧W (i+1) m' σ' H')∧∀x H',(Itl K a).yld i H x H'→g x σ H' λσ2 H2=>tb {D with nx:=N,ct:=N,bk:=D.nx} σ2 H2):=by
 refine⟨λi m σ H=>m=xs.length-i∧i≤xs.length∧Pv i σ H,⟨xs.length,by simp,zero_le _,h0⟩,?_⟩;rintro i m σ H ⟨rfl,hi,p⟩;have q:=hl i σ H hi p
 by_cases hlt:i<xs.length
 ·refine .inr ⟨⟨xs,xs[i],q,by simp[hlt]⟩,Pv (i+1),λσ' H' p'=>⟨xs.length-(i+1),by omega,rfl,hlt,p'⟩,λx H' y=>?_⟩;obtain⟨e,y⟩:=y;subst e;exact hs i x σ _ (y xs q) p
 ·have e:i=xs.length:=by omega
  subst e;exact .inl ⟨⟨xs,q,le_refl _⟩,hd σ H p⟩
theorem hX{K:PySem.W.Frag}{a:Addr}{xs:List V}{g:TG}{tb:TS}{D:Ends}{σ:St}{H:Hp}(Pv:Nat→St→Hp→Prop)(h0:Pv 0 σ H)(hl:∀i σ H,i≤xs.length→Pv i σ H→SqT K H a xs)(hs:∀i x σ H,xs[i]?=some x→Pv i σ H→g x σ H λσ2 H2=>tb {D with nx:=Pv (i+1),ct:=Pv (i+1),bk:=D.nx} σ2 H2)(hd:∀σ H,Pv xs.length σ H→D.nx σ H):
  ∃W:Nat→Nat→St→Hp→Prop,(∃m,W 0 m σ H)∧∀i m σ H,W i m σ H →
   ((Itt K a).stop i H∧D.nx σ H)∨((Itt K a).go i H∧∃N:St→Hp→Prop,(∀σ' H',N σ' H'→∃m',m'<m∧W (i+1) m' σ' H')∧∀x H',(Itt K a).yld i H x H'→g x σ H' λσ2 H2=>tb {D with nx:=N,ct:=N,bk:=D.nx} σ2 H2):=by
 refine⟨λi m σ H=>m=xs.length-i∧i≤xs.length∧Pv i σ H,⟨xs.length,by simp,zero_le _,h0⟩,?_⟩;rintro i m σ H ⟨rfl,hi,p⟩;have q:=hl i σ H hi p
 by_cases hlt:i<xs.length
 ·refine .inr ⟨⟨xs,xs[i],q,by simp[hlt]⟩,Pv (i+1),λσ' H' p'=>⟨xs.length-(i+1),by omega,rfl,hlt,p'⟩,λx H' y=>?_⟩;obtain⟨e,y⟩:=y;subst e;exact hs i x σ _ (y xs q) p
 ·have e:i=xs.length:=by omega
  subst e;exact .inl ⟨⟨xs,q,le_refl _⟩,hd σ H p⟩
theorem kb{lo:Int}{n:Nat}{g:TG}{tb:TS}{D:Ends}{σ:St}{H:Hp}(Pv:Nat→St→Hp→Prop)(h0:Pv 0 σ H)(hs:∀i σ H,i<n→Pv i σ H→g (.int (lo+i)) σ H λσ2 H2=>tb {D with nx:=Pv (i+1),ct:=Pv (i+1),bk:=D.nx} σ2 H2)(hd:∀σ H,Pv n σ H→D.nx σ H):
  ∃W:Nat→Nat→St→Hp→Prop,(∃m,W 0 m σ H)∧∀i m σ H,W i m σ H →
   ((Itr lo n).stop i H∧D.nx σ H)∨((Itr lo n).go i H∧∃N:St→Hp→Prop,(∀σ' H',N σ' H'→∃m',m'<m∧W (i+1) m' σ' H')∧∀x H',(Itr lo n).yld i H x H'→g x σ H' λσ2 H2=>tb {D with nx:=N,ct:=N,bk:=D.nx} σ2 H2):=by
 refine⟨λi m σ H=>m=n-i∧i≤n∧Pv i σ H,⟨n,by simp,zero_le _,h0⟩,?_⟩;rintro i m σ H ⟨rfl,hi,p⟩
 by_cases hlt:i<n
 ·refine .inr ⟨hlt,Pv (i+1),λσ' H' p'=>⟨n-(i+1),by omega,rfl,hlt,p'⟩,λx H' y=>?_⟩;obtain⟨e,y⟩:=y;subst e y;exact hs i σ _ hlt p
 ·have e:i=n:=by omega
  subst e;exact .inl ⟨le_refl _,hd σ H p⟩
theorem eT{c:TT}{tb:TS}{D:Ends}{σ:St}{H:Hp}(Pv:St→Hp→Prop)(μ:St→Hp→Nat)(h0:Pv σ H)(hs:∀σ H,Pv σ H→c σ H λb H1=>if b=true then tb {D with nx:=λσ' H'=>Pv σ' H'∧μ σ' H'<μ σ H,ct:=λσ' H'=>Pv σ' H'∧μ σ' H'<μ σ H,bk:=D.nx} σ H1 else D.nx σ H1)(mono:∀σ H Q Q',(∀b H1,Q b H1→Q' b H1)→c σ H Q→c σ H Q'):rK c tb D σ H:=by
 refine⟨λm σ H=>m=μ σ H∧Pv σ H,⟨_,rfl,h0⟩,?_⟩;rintro m σ H ⟨rfl,p⟩;refine mono σ H _ _ (λb H1 q=>?_) (hs σ H p);cases b with
 |true=>exact⟨_,λσ' H' ⟨p',l⟩=>⟨_,l,rfl,p'⟩,q⟩
 |false=>exact q
abbrev R2:=V→V→Hp→VK→Prop
def OpR(X:Cx)(f:Value→Value→Sem Value)(r:R2):Prop :=
 ∀(pins:List (Addr×Obj))(s:Shared)(σ:St)(H:Hp)(x y:V)(v u:Value)(Q:VK),Inv X pins σ H s→aX x v→aX y u→r x y H Q →
  wpAny (model X.prog X.w) X.A (f v u) (EP X pins σ Q) X.xe s
def dg(X:Cx)(f:Value)(r:List V→Hp→VK→Prop):Prop :=
 ∀(pins:List (Addr×Obj))(s:Shared)(σ:St)(H:Hp)(xs:List V)(us:List Value)(Q:VK),Inv X pins σ H s→aT xs us→r xs H Q →
  wpAny (model X.prog X.w) X.A (call f us) (EP X pins σ Q) X.xe s
def zm(X:Cx)(r:V→Hp→(Bool→Hp→Prop)→Prop):Prop :=
 ∀(pins:List (Addr×Obj))(s:Shared)(σ:St)(H:Hp)(x:V)(v:Value)(Q:Bool→Hp→Prop),Inv X pins σ H s→aX x v→r x H Q →
  wpAny (model X.prog X.w) X.A (truthy v) (TP X pins σ Q) X.xe s
def tOp(r:R2)(ta tb:TE):TE:=λσ H Q=>ta σ H λx H1=>tb σ H1 λy H2=>r x y H2 Q
def rI(C:Int→Int→Prop)(g:Int→Int→V):R2:=λx y H Q=>∃i j,x=.int i∧y=.int j∧C i j∧Q (g i j) H
def rI0(g:Int→Int→V):R2:=λx y H Q=>∃i j,x=.int i∧y=.int j∧Q (g i j) H
section
variable{X:Cx}{a b c:Expr}{ta tb tc:TE}{pos:Pos}
theorem wz(ha:PE X a ta)(hb:PE X b tb){pins:List (Addr×Obj)}{s:Shared}{σ:St}{H:Hp}{R:V→V→Hp→Prop}(I:Inv X pins σ H s)(h:ta σ H λx H1=>tb σ H1 λy H2=>R x y H2){Q:Value→Shared→Prop}{f:Value→Value→Sem Value}(hf:∀v u s2 x y H2,Inv X pins σ H2 s2→aX x v→aX y u→R x y H2→wpAny (model X.prog X.w) X.A (f v u) Q X.xe s2):
  wpAny (model X.prog X.w) X.A (eval a X.env) (λv s₁=>wpAny (model X.prog X.w) X.A (eval b X.env) (λu s₂=>wpAny (model X.prog X.w) X.A (f v u) Q X.xe s₂) X.xe s₁) X.xe s:=by
 refine thn (ha pins s σ H _ I h) λv s1 hpt=>?_;obtain⟨x,H1,I1,r1,q1⟩:=hpt;refine thn (hb pins s1 σ H1 _ I1 q1) λu s2 hpt=>?_;obtain⟨y,H2,I2,r2,q2⟩:=hpt;exact hf v u s2 x y H2 I2 r1 r2 q2
theorem aK{op:Operator}{r:R2}(ho:OpR X (binaryOp op) r)(ha:PE X a ta)(hb:PE X b tb):PE X (.BinOp a op b pos) (tOp r ta tb):=by
 intro pins s σ H Q I h;exact wpAny_BinOp (wz ha hb I h λv u s2 x y H2 I2 rx ry q=>ho pins s2 σ H2 x y v u Q I2 rx ry q)
theorem opI{f:Value→Value→Sem Value}{C:Int→Int→Prop}{g:Int→Int→Int}(rule:∀(i j:Int) (t u:Tok) (s:Shared) (Q:Value→Shared→Prop) (E:Value→Shared→Prop),C i j→Q (.int (g i j) s.toks) {s with toks:=s.toks+1}→wpAny (model X.prog X.w) X.A (f (.int i t) (.int j u)) Q E s):
  OpR X f (rI C λi j=>.int (g i j)):=by
 intro pins s σ H x y v u Q I rx ry h;obtain⟨i,j,rfl,rfl,hc,q⟩:=h;obtain⟨t,rfl⟩:=rx;obtain⟨t',rfl⟩:=ry;exact rule i j t t' s _ _ hc ⟨.int (g i j),H,I.tok _,⟨_,rfl⟩,q⟩
theorem wA{f:Value→Value→Sem Value}{g:Int→Int→Int}(rule:∀(i j:Int) (t u:Tok) (s:Shared) (Q:Value→Shared→Prop) (E:Value→Shared→Prop),Q (.int (g i j) s.toks) {s with toks:=s.toks+1}→wpAny (model X.prog X.w) X.A (f (.int i t) (.int j u)) Q E s):
  OpR X f (rI0 λi j=>.int (g i j)):=by
 intro pins s σ H x y v u Q I rx ry h;obtain⟨i,j,rfl,rfl,q⟩:=h;obtain⟨t,rfl⟩:=rx;obtain⟨t',rfl⟩:=ry;exact rule i j t t' s _ _ ⟨.int (g i j),H,I.tok _,⟨_,rfl⟩,q⟩
theorem yr{f:Value→Value→Sem Value}{g:Int→Int→Bool}(rule:∀(i j:Int) (t u:Tok) (s:Shared) (Q:Value→Shared→Prop) (E:Value→Shared→Prop),Q (.bool (g i j)) s→wpAny (model X.prog X.w) X.A (f (.int i t) (.int j u)) Q E s):
  OpR X f (rI0 λi j=>.bl (g i j)):=by
 intro pins s σ H x y v u Q I rx ry h;obtain⟨i,j,rfl,rfl,q⟩:=h;obtain⟨t,rfl⟩:=rx;obtain⟨t',rfl⟩:=ry;exact rule i j t t' s _ _ ⟨.bl (g i j),H,I,rfl,q⟩
def zo(i j:Int):Prop:=0<j∧j<1073741824
def wB(i j:Int):Prop:=(-(2 ^ 64)<i∧i<2 ^ 64)∨(-(2 ^ 64)<j∧j<2 ^ 64)
theorem wB.ok{i j:Int}(h:wB i j):IntMulOk i j:=by
 rcases h with⟨h1,h2⟩|⟨h1,h2⟩
 ·exact .of_left (intBits_le_64 h1 h2)
 ·exact .of_right (intBits_le_64 h1 h2)
theorem bu:OpR X (binaryOp .Add) (rI0 λi j=>.int (i+j)):=wA λ_ _ _ _ _ _ _ q=>add_int q
theorem rM:OpR X (binaryOp .Sub) (rI0 λi j=>.int (i-j)):=wA λ_ _ _ _ _ _ _ q=>sub_int q
theorem dS:OpR X (binaryOp .Mult) (rI wB λi j=>.int (i*j)):=opI λ_ _ _ _ _ _ _ hc q=>mul_int q hc.ok
theorem lw:OpR X (binaryOp .FloorDiv) (rI zo λi j=>.int (i / j)):=opI λi j _ _ _ _ _ hc q=>by
 have h1:(0:Int)<j:=hc.1;have h2:j<1073741824:=hc.2;exact floordiv_int (by omega) (by rw[Int.fdiv_eq_ediv_of_nonneg i (by omega)];exact q) (.inl (PyProof.noPylong_small (by omega)))
theorem jn:OpR X (binaryOp .Mod) (rI (λ_ j=>0<j) λi j=>.int (i % j)):=opI λi j _ _ _ _ _ hc q=>by
 have h1:(0:Int)<j:=hc;exact mod_int' (by omega) (by rw[Int.fmod_eq_emod_of_nonneg i (by omega)];exact q)
theorem uo:OpR X (inplaceOp .Add) (rI0 λi j=>.int (i+j)):=wA λ_ _ _ _ _ _ _ q=>iadd_int q
end
def wC:V→V→Bool
 |.non,.non=>true | .non,.int _=>true | .int _,.non=>true | .non,.bl _=>true | .bl _,.non=>true | .non,.str _=>true | .str _,.non=>true
 |.int _,.int _=>true | .bl _,.bl _=>true | .str _,.str _=>true | .byt _,.byt _=>true
 |.int _,.str _=>true | .str _,.int _=>true | .bl _,.str _=>true | .str _,.bl _=>true
 |_,_=>false
def rEq:R2:=λx y H Q=>wC x y=true∧Q (.bl (decide (x=y))) H
def rNe:R2:=λx y H Q=>wC x y=true∧Q (.bl (!decide (x=y))) H
theorem lx{i j:Int}:decide (V.int i=V.int j)=(i==j):=by
 rw[Bool.eq_iff_iff];simp
theorem rN{i j:Bool}:decide (V.bl i=V.bl j)=(i==j):=by
 rw[Bool.eq_iff_iff];simp
theorem pC{i j:Str}:decide (V.str i=V.str j)=(i==j):=by
 rw[Bool.eq_iff_iff];simp
theorem pD{i j:Array UInt8}:decide (V.byt i=V.byt j)=(i.toList==j.toList):=by
 rw[Bool.eq_iff_iff];cases i;cases j;simp
section
variable{X:Cx}{a b c:Expr}{ta tb tc:TE}{pos:Pos}
theorem bi{pins:List (Addr×Obj)}{σ:St}{H:Hp}{s:Shared}{Q:VK}{k k':Bool}(I:Inv X pins σ H s)(q:Q (.bl k) H)(e:k=k'):EP X pins σ Q (.bool k') s:=by
 subst e;exact⟨.bl k,H,I,rfl,q⟩
theorem cv:OpR X (compareOp .Eq) rEq:=by
 intro pins s σ H x y v u Q I rx ry h;obtain⟨hs,q⟩:=h;cases x with
 |non =>
  cases rx;cases y with
  |non=>cases ry;exact PySem.EqNone.eq_none_none (bi I q (by simp))
  |bl j=>cases ry;exact PySem.EqNone.eq_none_bool (bi I q (by simp))
  |int j=>obtain⟨t',rfl⟩:=ry;exact PySem.EqNone.eq_none_int (bi I q (by simp))
  |str j=>obtain⟨t',rfl⟩:=ry;exact PySem.EqNone.eq_none_str (bi I q (by simp))
  |_=>exact absurd (show false=true from hs) Bool.false_ne_true
 |bl i =>
  cases rx;cases y with
  |non=>cases ry;exact PySem.EqNone.eq_bool_none (bi I q (by simp))
  |bl j=>cases ry;exact eq_bool (bi I q rN)
  |str j=>obtain⟨t',rfl⟩:=ry;exact PySem.EqMixed.eq_bool_str (bi I q (by simp))
  |_=>exact absurd (show false=true from hs) Bool.false_ne_true
 |int i =>
  obtain⟨t,rfl⟩:=rx;cases y with
  |non=>cases ry;exact PySem.EqNone.eq_int_none (bi I q (by simp))
  |int j=>obtain⟨t',rfl⟩:=ry;exact eq_int (bi I q lx)
  |str j=>obtain⟨t',rfl⟩:=ry;exact PySem.EqMixed.eq_int_str (bi I q (by simp))
  |_=>exact absurd (show false=true from hs) Bool.false_ne_true
 |str i =>
  obtain⟨t,rfl⟩:=rx;cases y with
  |non=>cases ry;exact PySem.EqNone.eq_str_none (bi I q (by simp))
  |bl j=>cases ry;exact PySem.EqMixed.eq_str_bool (bi I q (by simp))
  |int j=>obtain⟨t',rfl⟩:=ry;exact PySem.EqMixed.eq_str_int (bi I q (by simp))
  |str j=>obtain⟨t',rfl⟩:=ry;exact eq_str (bi I q pC)
  |_=>exact absurd (show false=true from hs) Bool.false_ne_true
 |byt i =>
  obtain⟨t,rfl⟩:=rx;cases y with
  |byt j=>obtain⟨t',rfl⟩:=ry;exact PySem.W.eq_bytes (bi I q pD)
  |_=>exact absurd (show false=true from hs) Bool.false_ne_true
 |_=>cases y<;>exact absurd (show false=true from hs) Bool.false_ne_true
theorem cU:OpR X (compareOp .NotEq) rNe:=by
 intro pins s σ H x y v u Q I rx ry h;obtain⟨hs,q⟩:=h;cases x with
 |non =>
  cases rx;cases y with
  |non=>cases ry;exact PySem.EqNone.ne_none_none (bi I q (by simp))
  |bl j=>cases ry;exact PySem.EqNone.ne_none_bool (bi I q (by simp))
  |int j=>obtain⟨t',rfl⟩:=ry;exact PySem.EqNone.ne_none_int (bi I q (by simp))
  |str j=>obtain⟨t',rfl⟩:=ry;exact PySem.EqNone.ne_none_str (bi I q (by simp))
  |_=>exact absurd (show false=true from hs) Bool.false_ne_true
 |bl i =>
  cases rx;cases y with
  |non=>cases ry;exact PySem.EqNone.ne_bool_none (bi I q (by simp))
  |bl j=>cases ry;exact ne_bool (bi I q (congrArg not rN))
  |str j=>obtain⟨t',rfl⟩:=ry;exact PySem.EqMixed.ne_bool_str (bi I q (by simp))
  |_=>exact absurd (show false=true from hs) Bool.false_ne_true
 |int i =>
  obtain⟨t,rfl⟩:=rx;cases y with
  |non=>cases ry;exact PySem.EqNone.ne_int_none (bi I q (by simp))
  |int j=>obtain⟨t',rfl⟩:=ry;exact ne_int (bi I q (congrArg not lx))
  |str j=>obtain⟨t',rfl⟩:=ry;exact PySem.EqMixed.ne_int_str (bi I q (by simp))
  |_=>exact absurd (show false=true from hs) Bool.false_ne_true
 |str i =>
  obtain⟨t,rfl⟩:=rx;cases y with
  |non=>cases ry;exact PySem.EqNone.ne_str_none (bi I q (by simp))
  |bl j=>cases ry;exact PySem.EqMixed.ne_str_bool (bi I q (by simp))
  |int j=>obtain⟨t',rfl⟩:=ry;exact PySem.EqMixed.ne_str_int (bi I q (by simp))
  |str j=>obtain⟨t',rfl⟩:=ry;exact ne_str (bi I q (congrArg not pC))
  |_=>exact absurd (show false=true from hs) Bool.false_ne_true
 |byt i =>
  obtain⟨t,rfl⟩:=rx;cases y with
  |byt j=>obtain⟨t',rfl⟩:=ry;exact PySem.W.ne_bytes (bi I q (congrArg not pD))
  |_=>exact absurd (show false=true from hs) Bool.false_ne_true
 |_=>cases y<;>exact absurd (show false=true from hs) Bool.false_ne_true
theorem pE:OpR X (compareOp .Lt) (rI0 λi j=>.bl (decide (i<j))):=yr λ_ _ _ _ _ _ _ q=>lt_int q
theorem vS:OpR X (compareOp .Gt) (rI0 λi j=>.bl (decide (j<i))):=yr λ_ _ _ _ _ _ _ q=>gt_int q
theorem eK:OpR X (compareOp .Is) (λx y H Q=>y=.non∧Q (.bl (decide (x=.non))) H):=by
 intro pins s σ H x y v u Q I rx ry h;obtain⟨rfl,q⟩:=h;cases ry;refine is_none_gen (bi I q ?_);cases x<;>first
  |(cases rx;rfl)
  |(obtain⟨t,rfl⟩:=rx;rfl)
theorem gB:OpR X (compareOp .IsNot) (λx y H Q=>y=.non∧Q (.bl (!decide (x=.non))) H):=by
 intro pins s σ H x y v u Q I rx ry h;obtain⟨rfl,q⟩:=h;cases ry;refine isnot_none_gen (bi I q ?_);cases x<;>first
  |(cases rx;rfl)
  |(obtain⟨t,rfl⟩:=rx;rfl)
theorem OpR.or{f:Value→Value→Sem Value}{r r':R2}(h:OpR X f r)(h':OpR X f r'):OpR X f (λx y H Q=>r x y H Q∨r' x y H Q):=by
 intro pins s σ H x y v u Q I rx ry q;rcases q with q|q
 ·exact h pins s σ H x y v u Q I rx ry q
 ·exact h' pins s σ H x y v u Q I rx ry q
theorem aw(b:Expr){op:CmpOp}(h:op≠.In:=by decide)(h2:op≠.NotIn:=by decide):behindInMarks op b=false:=by
 have e1:(op==CmpOp.In)=false:=by cases op<;>first|rfl|exact absurd rfl h
 have e2:(op==CmpOp.NotIn)=false:=by cases op<;>first|rfl|exact absurd rfl h2
 cases b<;>simp[behindInMarks,e1,e2]
theorem gC{op:CmpOp}{r:R2}(ho:OpR X (compareOp op) r)(ha:PE X a ta)(hb:PE X b tb)(hm:behindInMarks op b=false):PE X (.Compare a [op] [b] pos) (tOp r ta tb):=by
 intro pins s σ H Q I h;exact wpAny_Compare1 (wz ha hb I h λv u s2 x y H2 I2 rx ry q=>ho pins s2 σ H2 x y v u Q I2 rx ry q) hm
def yt(t:TE):TT:=λσ H Q=>t σ H λx H'=>∃k,x=.bl k∧Q k H'
theorem am{op:CmpOp}{r:R2}(ho:OpR X (compareOp op) r)(ha:PE X a ta)(hb:PE X b tb)(hm:behindInMarks op b=false):PT X (.Compare a [op] [b] pos) (yt (tOp r ta tb)):=by
 intro pins s σ H Q I h;refine wpAny_isTrue_Compare1 (thn (ha pins s σ H _ I h) λv s1 ⟨x,H1,I1,r1,q1⟩=>thn (hb pins s1 σ H1 _ I1 q1) λu s2 ⟨y,H2,I2,r2,q2⟩ =>
  thn (ho pins s2 σ H2 x y v u _ I2 r1 r2 q2) λc s3 ⟨z,H3,I3,r3,k,e,q3⟩=>?_) hm
 subst e;cases r3;exact wpAny_truthy_bool ⟨H3,I3,q3⟩
def yu(K:PySem.W.Frag)(x:V)(H:Hp)(k:Bool):Prop :=
 match x with
 |.non=>k=false
 |.bl b=>k=b
 |.int i=>k=(i != 0)
 |.str y=>y.length≤sizeLine∧k=((y.length:Int) != 0)
 |.byt y=>y.size≤sizeLine∧k=((y.size:Int) != 0)
 |.ref p=>(∃xs,SqL K H p xs∧k = !xs.isEmpty)∨(∃xs,SqT K H p xs∧k = !xs.isEmpty)∨∃kvs,H p=some (.dK kvs)∧k = !kvs.isEmpty
 |_=>False
theorem ou{κ:Type}{kvs:List (κ×V)}{vs:List (κ×Value)}(r:KV kvs vs):(!vs.isEmpty) = !kvs.isEmpty:=by
 cases r<;>rfl
theorem jo{xs:List V}{its:List Value}(r:aT xs its):(!its.toArray.isEmpty) = !xs.isEmpty:=by
 cases r<;>simp
theorem iF:(sizeLine:Nat)<2 ^ 63:=by rw[sizeLine_eq];decide
theorem wD:zm X (λx H Q=>∃k,yu X.K x H k∧Q k H):=by
 intro pins s σ H x v Q I rx h;obtain⟨k,e,q⟩:=h;have hl:=iF;have hs:sizeLine=16777216:=sizeLine_eq;cases x with
 |non =>
  cases rx;have e':k=false:=e;subst e';exact truthy_none ⟨H,I,q⟩
 |bl b =>
  cases rx;have e':k=b:=e;subst e';exact wpAny_truthy_bool ⟨H,I,q⟩
 |int i =>
  obtain⟨t,rfl⟩:=rx;have e':k=(i != 0):=e;subst e';exact PySem.P.truthy_int ⟨H,I,q⟩
 |str y =>
  obtain⟨t,rfl⟩:=rx;obtain⟨hy,e'⟩:y.length≤sizeLine∧k=((y.length:Int) != 0):=e;subst e';exact PySem.P.truthy_str (by omega) ⟨H,I.tok _,q⟩
 |byt y =>
  obtain⟨t,rfl⟩:=rx;obtain⟨hy,e'⟩:y.size≤sizeLine∧k=((y.size:Int) != 0):=e;subst e';exact PySem.W.truthy_bytes (by omega) ⟨H,I.tok _,q⟩
 |ref p =>
  cases rx;have e':(∃xs,SqL X.K H p xs∧k = !xs.isEmpty)∨(∃xs,SqT X.K H p xs∧k = !xs.isEmpty)∨∃kvs,H p=some (.dK kvs)∧k = !kvs.isEmpty:=e;rcases e' with⟨xs,hx,e'⟩|⟨xs,hx,e'⟩|⟨kvs,hx,e'⟩
  ·subst e';obtain⟨its,r,pl,hz⟩:=I.list hx;have hlen:=r.length;exact wpAny_truthy_list pl.isList (by simp only[size_toArray];omega) ⟨H,I.tok _,by rw[jo r];exact q⟩
  ·subst e';obtain⟨its,r,pl,hz⟩:=I.tuple hx;have hlen:=r.length;exact truthy_tuple pl (by simp only[size_toArray];omega) ⟨H,I.tok _,by rw[jo r];exact q⟩
  ·subst e';obtain⟨hz,hS,vs,r,m⟩:kvs.length≤sizeLine∧(p==sysModules)=false∧∃vs,KV kvs vs∧s.heap.DictOf (bb X.prog X.w) p vs:=I.hok p _ hx;have hlen:kvs.length=vs.length:=Paired.length r;exact wpAny_truthy_dict hS m (by omega) ⟨H,I.tok _,by rw[ou r];exact q⟩
 |_=>exact(show False from e).elim
theorem rO(ha:PE X a ta)(he:∀whole,isTrue a X.env whole=(do let v ← whole;standAt a.pos;holding [v] (truthy v))):
  PT X a (λσ H Q=>ta σ H λx H'=>∃k,yu X.K x H' k∧Q k H'):=by
 intro pins s σ H Q I h;exact isTrue_plain (thn (ha pins s σ H _ I h) λv s1 ⟨x,H1,I1,r1,q1⟩=>wD pins s1 σ H1 x v Q I1 r1 q1) (he _)
theorem ow:OpR X (binaryOp .Add) (λx y H Q=>∃i j,x=.str i∧y=.str j∧i.length+j.length≤sizeLine∧Q (.str (i++j)) H):=by
 intro pins s σ H x y v u Q I rx ry h;obtain⟨i,j,rfl,rfl,hz,q⟩:=h;obtain⟨t,rfl⟩:=rx;obtain⟨t',rfl⟩:=ry;exact add_str (λt' tk=>⟨.str (i++j),H,I.tok _,⟨_,rfl⟩,q⟩) hz
theorem fz{x:V}{us:List Value}(r:aT [x] us):∃u,us=[u]∧aX x u:=by
 cases r with
 |cons r1 r2=>cases r2;exact⟨_,rfl,r1⟩
theorem rP{x y:V}{us:List Value}(r:aT [x,y] us):∃u w',us=[u,w']∧aX x u∧aX y w':=by
 cases r with
 |cons r1 r2 =>
  cases r2 with
  |cons r3 r4=>cases r4;exact⟨_,_,rfl,r1,r3⟩
end
structure ObjM(h:Heap)(x dx C:Addr)(mA:Str→Option Value):Prop where
 obj:h.get? x=some (instObj C dx)
 ns:h.Ns1 dx mA
 ne:dx≠x
theorem qK{h:Heap}{dx:Addr}{mA:Str→Option Value}(n:h.Ns1 dx mA):∃od,h.get? dx=some od∧∀name,lookIn name od=some (mA name):=by
 obtain⟨o,es,ep,ho,hd,hk,_,hm⟩:=n;refine⟨o,ho,λname=>?_⟩;have e:=hm name;unfold nsFind findBy at e;rw[←Array.find?_toList]at e;unfold lookIn;rw[hd];dsimp only
 split
 ·rename_i y q
  rw[q]at e;exact congrArg some e
 ·rename_i q
  rw[q]at e;have a:es.toList.any (·.refKey)=false:=by
   rw[List.any_eq_false];intro y hy;obtain⟨z,t,hkey⟩:=hk y (Array.mem_toList_iff.mp hy);simp[DictEntry.refKey,hkey]
  have a':¬es.toList.any (·.refKey)=true:=by rw[a];exact Bool.false_ne_true
  rw[if_neg a'];exact congrArg some e
theorem ObjM.look{h:Heap}{x dx C:Addr}{mA:Str→Option Value}(I:ObjM h x dx C mA):∃od,PySem.W.InstAt h x (instObj C dx) C (some od)∧∀name,lookIn name od=some (mA name) :=
 let⟨od,ho,hl⟩:=qK I.ns
 ⟨od,⟨I.obj,rfl,rfl,ho⟩,hl⟩
section
variable{prog:Program}{w:World}{A:Around}{E:Value→Shared→Prop}{s:Shared}{K:PySem.W.Frag}{x dx C f:Addr}{mA:Str→Option Value}{name:Str}{v:Value}
end
theorem gP.some_of{v:V}{o:Option Value}(r:gP (some v) o):∃u,o=some u∧aX v u:=by
 cases o with
 |none=>exact(show False from r).elim
 |some u=>exact⟨u,rfl,r⟩
theorem gP.none_of{o:Option Value}(r:gP none o):o=none:=by
 cases o with
 |none=>rfl
 |some u=>exact(show False from r).elim
section
variable{P:Program}{w:World}{H H':Hp}{h h':Heap}{a C dx:Addr}{fs fs':List (Str×V)}
theorem uq(hok:HOk P w H h)(e:H a=some (.ins C dx fs)):∃mA,ObjM h a dx C mA∧(∀f,gP (fs.lookup f) (mA f))∧PySem.Within mA (fs.map (·.1))∧fs.length≤1000∧H dx=some (.own a):=by
 obtain⟨d,z,ne,ob,mA,n,r,q⟩:=(show bQ P w H h a (.ins C dx fs)from hok a _ e);exact⟨mA,⟨ob,n,ne⟩,r,q,z,d⟩
end
structure Cls(K:PySem.W.Frag)(C:Addr):Prop where
 pg:plainGet K C empty=true
 hd:PySem.W.hasDictIn K C=true
 po:PySem.W.plainOver K C=true
 sa:PySem.W.findIn K (.ref C) "__setattr__"=some (some (.builtin "object.__setattr__"))
theorem Cls.get{K:PySem.W.Frag}{C:Addr}(c:Cls K C)(f:Str):plainGet K C f=true:=c.pg
section
variable{X:Cx}{pins:List (Addr×Obj)}{σ:St}{H:Hp}{s:Shared}{a C dx:Addr}{fs:List (Str×V)}{f:Str}{v:V}{A:Around}{E:Value→Shared→Prop}
end
section
variable{X:Cx}{o e value:Expr}{f:Str}{pos pos' tpos:Pos}{ta tv:TE}
end
section
variable{X:Cx}{pins:List (Addr×Obj)}{σ:St}{H:Hp}{s:Shared}{A:Around}{E:Value→Shared→Prop}{Q:Value→Shared→Prop}{c:Value}{b:Bool}
inductive TyOf(K:PySem.W.Frag)(H:Hp):V→Value→Prop where
 |non:TyOf K H .non (.type "NoneType")
 |bl (x:Bool):TyOf K H (.bl x) (.type "bool")
 |int (i:Int):TyOf K H (.int i) (.type "int")
 |str (x:Str):TyOf K H (.str x) (.type "str")
 |flt (x:UInt64):TyOf K H (.flt x) (.type "float")
 |lst {a:Addr} {xs:List V} (e:H a=some (.lst xs)):TyOf K H (.ref a) (.type "list")
 |frz {a:Addr} {o:Obj} {xs:List V} (e:H a=some (.frz o (.lst xs))):TyOf K H (.ref a) (.type "list")
 |tup {a:Addr} {xs:List V} (e:H a=some (.tup xs)):TyOf K H (.ref a) (.type "tuple")
 |dK {a:Addr} {kvs:List (Key×V)} (e:H a=some (.dK kvs)):TyOf K H (.ref a) (.type "dict")
 |dT {a:Addr} {kvs:List (List Key×V)} (e:H a=some (.dT kvs)):TyOf K H (.ref a) (.type "dict")
 |ins {a C dx:Addr} {fs:List (Str×V)} (e:H a=some (.ins C dx fs)) (cl:Cls K C) (ha:PySem.W.findIn K (.ref C) "__class__"=some (some (.builtin "object.__class__")))
   (hn:PySem.W.specialIn K (.builtin "object.__class__") "__get__"=some (some (.builtin "getset_descriptor.__get__"))) (htk:PySem.W.takesIn K (.builtin "object.__class__")=some true)
   (hm:mroIn K C (.type "object")=some true):TyOf K H (.ref a) (.ref C)
theorem qL{x:V}{u t:Value}(I:Inv X pins σ H s)(rx:aX x u)(ty:TyOf X.K H x t)(e:kitOne X.K t c=some b)(h:∀tk,Q (.bool b) {s with toks:=tk}):
  wpAny (model X.prog X.w) A (call (.builtin "isinstance") [u,c]) Q E s:=by
 cases ty with
 |non=>cases (show u=Value.none from rx);exact kia_one PySem.W.kitx_none I.kIn True.intro e (λz=>nomatch z) h
 |bl y=>cases (show u=Value.bool y from rx);exact kia_one PySem.W.kitx_bool I.kIn True.intro e (λz=>nomatch z) h
 |int i=>obtain⟨t,q⟩:=(show ∃t,u=Value.int i t from rx);cases q;exact kia_one PySem.W.kitx_int I.kIn True.intro e (λz=>nomatch z) h
 |str y=>obtain⟨t,q⟩:=(show ∃t,u=Value.str y t from rx);cases q;exact kia_one PySem.W.kitx_str I.kIn True.intro e (λz=>nomatch z) h
 |flt y=>obtain⟨t,q⟩:=(show ∃t,u=float y t from rx);cases q;exact kia_one PySem.W.kitx_float I.kIn True.intro e (λz=>nomatch z) h
 |@lst a xs ea =>
  cases (show u=Value.ref a from rx);obtain⟨_,_,n,_,h1⟩:=(show bQ X.prog X.w H s.heap a (.lst xs)from I.hok a _ ea);exact kia_one kitx_list I.kIn ⟨_,h1,rfl⟩ e (λz=>nomatch z) h
 |@frz a ob xs ea =>
  cases (show u=Value.ref a from rx);obtain⟨_,_,_,n,_,h1⟩:=(show bQ X.prog X.w H s.heap a (.frz ob (.lst xs))from I.hok a _ ea);exact kia_one kitx_list I.kIn ⟨_,h1,rfl⟩ e (λz=>nomatch z) h
 |@tup a xs ea =>
  cases (show u=Value.ref a from rx);obtain⟨_,_,_,p⟩:=(show bQ X.prog X.w H s.heap a (.tup xs)from I.hok a _ ea);obtain⟨o,h1,h2,_⟩:=p;exact kia_one PySem.W.kitx_tuple I.kIn ⟨o,h1,h2⟩ e (λz=>nomatch z) h
 |@dK a kvs ea =>
  cases (show u=Value.ref a from rx);obtain⟨_,_,vs,_,p⟩:=(show bQ X.prog X.w H s.heap a (.dK kvs)from I.hok a _ ea);obtain⟨o,es,ep,h1,h2,_⟩:=p;exact kia_one kitx_dict I.kIn ⟨o,h1,h2.1⟩ e (λz=>nomatch z) h
 |@dT a kvs ea =>
  cases (show u=Value.ref a from rx);obtain⟨_,_,xs,_,o,es,ep,h1,h2,_⟩:=(show bQ X.prog X.w H s.heap a (.dT kvs)from I.hok a _ ea);exact kia_one kitx_dict I.kIn ⟨o,h1,h2.1⟩ e (λz=>nomatch z) h
 |@ins a C dx fs ea cl ha hn htk hm =>
  cases (show u=Value.ref a from rx);obtain⟨mA,O,_⟩:=uq I.hok ea;obtain⟨od,J,_⟩:=O.look;exact kia_one (PySem.W.kitx_own (cl.get _) cl.hd ha hn htk hm) I.kIn J e (λz=>nomatch z) h
end
structure Room(k:Nat)(A:Around):Prop where
 hd:A.handled=none
 dp:A.depth+3*k+5<recursionLimit
 un:A.units+16*k+200<cLine
 gd:A.guards=some []
theorem Room.mono{j k:Nat}{A:Around}(r:Room k A)(h:j≤k):Room j A:=⟨r.hd,by have:=r.dp;omega,by have:=r.un;omega,r.gd⟩
theorem Room.deeper{k:Nat}{A:Around}(r:Room (k+1) A)(env:Env):Room k (A.deeper env) :=
 ⟨r.hd,by have:=r.dp;show A.depth+1+3*k+5<_;omega,by have:=r.un;show A.units+3+16*k+200<_;omega,r.gd⟩
theorem Room.depth{k:Nat}{A:Around}(r:Room k A):A.depth<recursionLimit:=by have:=r.dp;omega
theorem Room.units{k:Nat}{A:Around}(r:Room k A):A.units+64<cLine:=by have:=r.un;omega
theorem Room.units0{k:Nat}{A:Around}(r:Room k A):A.units<cLine:=by have:=r.un;omega
def ly:TA:=λ_ H Q=>Q [] H
def dy(ta:TE)(tr:TA):TA:=λσ H Q=>ta σ H λx H1=>tr σ H1 λxs H2=>Q (x::xs) H2
section
variable{X:Cx}{e:Expr}{es:List Expr}{te:TE}{t:TA}{pos:Pos}
theorem af:PA X [] ly:=λ_ _ _ _ H Q I h=>Calls.spliced_nil ⟨[],H,I,.nil,h⟩
theorem aa(ha:PE X e te)(hr:PA X es t)(hs:starEach (e::es) X.env=(false,eval e X.env)::starEach es X.env:=by rfl):PA X (e::es) (dy te t):=by
 intro pos pins s σ H Q I h;rw[hs];show wpAny _ _ (spliced ((false,eval e X.env)::backTo pos (starEach es X.env))) _ _ s;refine spliced_cons (thn (ha pins s σ H _ I h) λu s1 hpt=>?_);obtain⟨x,H1,I1,r1,q1⟩:=hpt;exact thn (hr pos pins s1 σ H1 _ I1 q1) λus s2 ⟨xs,H2,I2,r2,q2⟩=>⟨x::xs,H2,I2,.cons r1 r2,q2⟩
def yv(t:TA):TE:=λσ H Q=>t σ H λxs H1=>xs.length≤sizeLine∧∀p,H1 p=none→Q (.ref p) (upd H1 p (.tup xs))
def zp(t:TA):TE:=λσ H Q=>t σ H λxs H1=>xs.length≤sizeLine∧∀p,H1 p=none→Q (.ref p) (upd H1 p (.lst xs))
theorem bn{x1}(h:PA X es t):PE X (.Tuple es x1 pos) (yv t):=by
 intro pins s σ H Q I hq;refine wpAny_Tuple_spliced (thn (h pos pins s σ H _ I hq) λus s1 ⟨xs,H1,I1,r,z,q⟩=>⟨by rw[←r.length];exact z,?_⟩);have hf:H1 s1.heap.objs.size=none:=I1.hok.fresh (le_refl _);refine⟨.ref s1.heap.objs.size,upd H1 s1.heap.objs.size (.tup xs),I1.laid (t':=s1.toks) (λb u e=>get?_push_of_some _ e) (le_refl _) ?_,rfl,q _ hf⟩;exact⟨z,us,r,⟨_,get?_push_size _ rfl,rfl,_,rfl⟩⟩
theorem bx(h:PA X es t):PE X (.List es pos) (zp t):=by
 intro pins s σ H Q I hq;refine wpAny_List_spliced (thn (h pos pins s σ H _ I hq) λus s1 ⟨xs,H1,I1,r,z,q⟩=>⟨by rw[←r.length];exact z,?_⟩);have hf:H1 s1.heap.objs.size=none:=I1.hok.fresh (le_refl _);refine⟨.ref s1.heap.objs.size,upd H1 s1.heap.objs.size (.lst xs),I1.laid (t':=s1.toks) (λb u e=>get?_push_of_some _ e) (le_refl _) ?_,rfl,q _ hf⟩;exact⟨z,us,0,r,get?_push_size _ rfl⟩
end
abbrev Sp:=List V→Hp→VK→XK→Prop
abbrev CXT:=List Env→Hp→Shared→XK→Value→Shared→Prop
structure Env0(P:Program)(w:World)(K:PySem.W.Frag)(mg:Str→Option Value)(base:Heap)(A:Around)(outer:List Env)(s:Shared)(H:Hp):Prop where
 frames:A.frames=some outer
 mod:Mod K mg base
 bs:∀b o,base.get? b=some o→s.heap.get? b=some o∧H b=none
 bsz:base.objs.size≤s.heap.objs.size
 funs:s.heap.FunFrames base outer
 frf:∀b∈frs outer,H b=none
 hok:HOk P w H s.heap
 bare:AllBare s.gens
def CE(outer:List Env)(P:Program)(w:World)(H:Hp)(s:Shared)(Q:VK)(u:Value)(s':Shared):Prop :=
 ∃v H',s'.os=s.os∧AllBare s'.gens∧Un (frs outer) [] H H' s.heap s'.heap∧HOk P w H' s'.heap∧aX v u∧Q v H'
def CR(CX:CXT)(outer:List Env)(P:Program)(w:World)(H:Hp)(s:Shared)(Q:VK)(E:XK)(r:Result)(s':Shared):Prop :=
 match r with
 |.ok (.ret u)=>CE outer P w H s Q u s'
 |.ok _=>False
 |.error e=>CX outer H s E e s'
structure FnOk(P:Program)(w:World)(K:PySem.W.Frag)(mg:Str→Option Value)(base:Heap)(CX:CXT)(k:Nat)(f:Addr)(fd:FuncData)(ps:List Str)(sp:Sp):Prop where
 len:∀vs H Q E,sp vs H Q E→vs.length=ps.length
 run:∀(A:Around)(outer:List Env)(s:Shared)(H:Hp)(args:Args)(us:List Value)(vs:List V)(Q:VK)(E:XK),Room k A→Env0 P w K mg base A outer s H→BindsTo s fd args (ps.zip us)→aT vs us→sp vs H Q E →
  codeAny (model P w) A (.call (.ref f) args) (CR CX outer P w H s Q E) s
theorem FnOk.imp{P:Program}{w:World}{K:PySem.W.Frag}{mg:Str→Option Value}{base:Heap}{CX:CXT}{k:Nat}{f:Addr}{fd:FuncData}{ps:List Str}{sp sp':Sp}(F:FnOk P w K mg base CX k f fd ps sp)(h:∀vs H Q E,sp' vs H Q E→sp vs H Q E):FnOk P w K mg base CX k f fd ps sp' :=
 ⟨λvs H Q E q=>F.len vs H Q E (h _ _ _ _ q),λA outer s H args us vs Q E hr he hb hv hs=>F.run A outer s H args us vs Q E hr he hb hv (h _ _ _ _ hs)⟩
section
variable{X:Cx}{pins:List (Addr×Obj)}{σ:St}{H:Hp}{s s':Shared}
theorem Inv.env0(I:Inv X pins σ H s):Env0 X.prog X.w X.K X.mg X.base X.A X.stack s H :=
 ⟨I.ok.frames,I.ok.mod,I.bs,le_trans I.ok.bsz I.sz,I.stack,I.stkFree,I.hok,I.bare⟩
theorem Inv.after{Q:VK}{u:Value}(I:Inv X pins σ H s)(h:CE X.stack X.prog X.w H s Q u s'):EP X pins σ Q u s':=by
 obtain⟨v,H',os,bare,un,hok,r,q⟩:=h;obtain⟨hh,g,d,t,os'⟩:=s';obtain rfl:os'=s.os:=os;exact⟨v,H',I.call (h':=hh) (g':=g) (d':=d) (t':=t) (ch:=[]) un hok bare (λb z=>absurd z (by simp)),r,q⟩
end
def pF(sp:Sp)(dvs:List V)(E:XK)(t:TA):TE:=λσ H Q=>t σ H λvs H1=>sp (vs++dvs) H1 Q E
def dU(K:PySem.W.Frag)(fd:FuncData)(ps:List Str)(ds:List Value):Prop :=
 ∀(s:Shared)(us:List Value),K.In s.heap→(us++ds).length=ps.length→BindsTo s fd ⟨us,[]⟩ (ps.zip (us++ds))
theorem dU.all{K:PySem.W.Frag}{fd:FuncData}{ps:List Str}(h:∀us:List Value,us.length=ps.length→bindArgs fd ⟨us,[]⟩=pure (ps.zip us)):dU K fd ps []:=λs us _ hl=>by
 rw[append_nil]at hl⊢;exact .of_eq (h us hl)
def jp(CX:CXT)(X:Cx)(E:XK):Prop:=∀(pins:List (Addr×Obj))(σ:St)(H:Hp)(s:Shared)(e:Value)(s':Shared),Inv X pins σ H s→CX X.stack H s E e s'→X.xe e s'
section
variable{X:Cx}{CX:CXT}{k:Nat}{f C:Addr}{fd:FuncData}{ps:List Str}{sp:Sp}{dvs:List V}{ds:List Value}{E:XK}{x m:Str}{p pos apos:Pos}{e o:Expr}{es:List Expr}{ta:TE}{t:TA}
theorem wE{pins:List (Addr×Obj)}{σ:St}{H:Hp}{s:Shared}{Q:VK}{us:List Value}{vs:List V}(F:FnOk X.prog X.w X.K X.mg X.base CX k f fd ps sp)(hr:Room k X.A)(hb:dU X.K fd ps ds)(hd:aT dvs ds)(hx:jp CX X E)(I:Inv X pins σ H s)(r:aT vs us)(h:sp (vs++dvs) H Q E):wpAny (model X.prog X.w) X.A (call (.ref f) us) (EP X pins σ Q) X.xe s:=by
 have r2:aT (vs++dvs) (us++ds):=r.append hd;have hl:(us++ds).length=ps.length:=by rw[←r2.length];exact F.len _ _ _ _ h
 refine wpAny_call (codeAny_mono (F.run X.A X.stack s H ⟨us,[]⟩ (us++ds) (vs++dvs) Q E hr I.env0 (hb s us I.kIn hl) r2 h) λr s' hq=>?_);cases r with
 |error e=>exact hx pins σ H s e s' I hq
 |ok fl =>
  cases fl with
  |ret u=>exact I.after hq
  |next=>exact False.elim hq
  |brk=>exact False.elim hq
  |cont=>exact False.elim hq
theorem ak(F:FnOk X.prog X.w X.K X.mg X.base CX k f fd ps sp)(hr:Room k X.A)(hg:Gl X x)(hm:X.mg x=some (.ref f))(hk:keepIn X.K (.ref f)=true)(hb:dU X.K fd ps ds)(hd:aT dvs ds)(hx:jp CX X E)(ha:PA X (e::es) t)(hdb:(x==("__debug__":Str))=false:=by decide)(he:starEach (e::es) X.env=(false,eval e X.env)::starEach es X.env:=by rfl)(hpl:(backTo pos (starEach es X.env)).any (·.1)=false:=by rfl):
  PE X (.Call (.Name x p) (e::es) [] pos) (pF sp dvs E t):=by
 intro pins s σ H Q I h;refine wpAny_Call_Name_kw (ja I hg hm ?_ hdb);refine callWith_K (h₀:=X.base) I.ok.mod.kin hk (thn (ha pos pins s σ H _ I h) λus s1 ⟨vs,H1,I1,r,q⟩=>⟨I1.kIn,?_⟩) he hpl;exact wE F hr hb hd hx I1 r q
end
section
variable{X:Cx}{CX:CXT}{k:Nat}{f C:Addr}{fd:FuncData}{ps ks:List Str}{sp:Sp}{E:XK}{x m:Str}{p pos apos kpos:Pos}{e o:Expr}{es:List Expr}{kws:List Keyword}{te ta:TE}{t tk:TA}{nm:Option Str}
variable{g:List Value→List Value→List Value}{gV:List V→List V→List V}
end
structure FnScope(N P:List Str)(sc:Scope):Prop where
 kind:sc.kind=.function
 co:sc.isCoroutine=false
 gen:sc.isGenerator=false
 nd:N.Nodup
 pre:N.take P.length=P
 par:∀x∈P,sc.names.lookup x=some .local∨sc.names.lookup x=some .cell
 nofree:∀y∈sc.names,y.2≠.free
theorem fsc{N P:List Str}{c:Scope}(a:c.kind=.function:=by rfl)(b:c.isCoroutine=false:=by rfl)(d:c.isGenerator=false:=by rfl)(e:N.Nodup:=by decide +kernel)(f:N.take P.length=P:=by rfl)(g:∀x∈P,c.names.lookup x=some .local∨c.names.lookup x=some .cell:=by decide +kernel)(h:∀y∈c.names,y.2≠.free:=by decide +kernel):FnScope N P c:=⟨a,b,d,e,f,g,h⟩
theorem kc{kindOf:Str→Option NameKind}{x:Str}:∀{binds:List (Str×Value)}{m:Str→Option Value},(∀v,(x,v)∉binds)→bindL kindOf binds m x=m x
 |[],_,_=>rfl
 |(n,v)::r,m,h=>by
  unfold bindL;rw[kc λw hw=>h w (mem_cons_of_mem _ hw)]
  split
  ·have:x≠n:=by rintro rfl;exact h v mem_cons_self
   simp[this]
  ·rfl
theorem kd{kindOf:Str→Option NameKind}{x:Str}:∀{binds:List (Str×Value)}{m:Str→Option Value},(∀v,(x,v)∉binds)→bindC kindOf binds m x=m x
 |[],_,_=>rfl
 |(n,v)::r,m,h=>by
  unfold bindC;rw[kd λw hw=>h w (mem_cons_of_mem _ hw)]
  split
  ·rfl
  ·have:x≠n:=by rintro rfl;exact h v mem_cons_self
   simp[this]
theorem ke{kindOf:Str→Option NameKind}{x:Str}{v:Value}:∀{P:List Str}{vs:List Value}{i:Nat}{m:Str→Option Value},P.Nodup→P[i]?=some x→vs[i]?=some v→kindOf x=some .local →
  bindL kindOf (P.zip vs) m x=some v
 |[],_,_,_,_,h,_,_=>by simp at h
 |_::_,[],_,_,_,_,h,_=>by simp at h
 |p::P,w::vs,0,m,nd,h1,h2,hk=>by
  simp at h1 h2;subst h1;subst h2;show bindL kindOf ((p,w)::P.zip vs) m p=_;unfold bindL;rw[kc λv hv=>(nodup_cons.mp nd).1 (of_mem_zip hv).1,if_pos hk];simp
 |p::P,w::vs,i+1,m,nd,h1,h2,hk=>by
  show bindL kindOf ((p,w)::P.zip vs) m x=_;unfold bindL;exact ke (i:=i) (nodup_cons.mp nd).2 (by simpa using h1) (by simpa using h2) hk
theorem kg{kindOf:Str→Option NameKind}{x:Str}{v:Value}:∀{P:List Str}{vs:List Value}{i:Nat}{m:Str→Option Value},P.Nodup→P[i]?=some x→vs[i]?=some v→kindOf x≠some .local →
  bindC kindOf (P.zip vs) m x=some v
 |[],_,_,_,_,h,_,_=>by simp at h
 |_::_,[],_,_,_,_,h,_=>by simp at h
 |p::P,w::vs,0,m,nd,h1,h2,hk=>by
  simp at h1 h2;subst h1;subst h2;show bindC kindOf ((p,w)::P.zip vs) m p=_;unfold bindC;rw[kd λv hv=>(nodup_cons.mp nd).1 (of_mem_zip hv).1,if_neg hk];simp
 |p::P,w::vs,i+1,m,nd,h1,h2,hk=>by
  show bindC kindOf ((p,w)::P.zip vs) m x=_;unfold bindC;exact kg (i:=i) (nodup_cons.mp nd).2 (by simpa using h1) (by simpa using h2) hk
def start(N:List Str)(vs:List V):St:=vs.map some++List.replicate (N.length-vs.length) none
def fJ(CX:CXT)(P:Program)(w:World)(K:PySem.W.Frag)(mg:Str→Option Value)(base:Heap)(N:List Str)(qual:Str)(scope:Scope)(f:Addr)(cd:Value)(A:Around)(outer:List Env)(s:Shared)(H:Hp)(E:XK):Cx where
 prog:=P
 w:=w
 K:=K
 mg:=mg
 base:=base
 A:=A.deeper (envOfC qual scope s.heap.objs.size f cd)
 N:=N
 s₀:=s
 H₀:=H
 env:=envOfC qual scope s.heap.objs.size f cd
 outer:=outer
 stack:=envOfC qual scope s.heap.objs.size f cd::outer
 ex:=[]
 calm:=true
 fn:=λ_=>true
 pn:=[]
 xe:=λe s'=>wpAny (model P w) (A.deeper (envOfC qual scope s.heap.objs.size f cd)) (leaving (envOfC qual scope s.heap.objs.size f cd) e) (λ_ s''=>CX outer H s E e s'') (λe' s''=>CX outer H s E e' s'') s'
theorem ml{sc:Scope}{n:Nat}{x:Str}(h:sc.names.lookup x=some .cell):∃c,(cellsFrom n sc.names []).lookup x=some c:=by
 have q:=PySem.W.cellsFrom_some sc.names n [] (.inl h);exact Option.isSome_iff_exists.mp q
theorem qM{CX:CXT}{P:Program}{w:World}{K:PySem.W.Frag}{mg:Str→Option Value}{base:Heap}{N ps:List Str}{qual:Str}{scope:Scope}{f:Addr}{cd:Value}{A:Around}{outer:List Env}{s s1:Shared}{H:Hp}{E:XK}{us:List Value}{vs:List V}(S:FnScope N ps scope)(hd:A.handled=none)(e0:Env0 P w K mg base A outer s H)(hl:vs.length=ps.length)(r:aT vs us)(x:InCallC s s.heap.objs.size (bindL (envOfC qual scope s.heap.objs.size f cd).kindOf (ps.zip us) λ_=>none) (cellsFrom (s.heap.objs.size+1) scope.names []) (bindC (envOfC qual scope s.heap.objs.size f cd).kindOf (ps.zip us) λ_=>none) s1):
  Inv (fJ CX P w K mg base N qual scope f cd A outer s H E) [] (start N vs) H s1:=by
 have hpl:ps.length≤N.length:=by have:=congrArg length S.pre;rw[length_take]at this;omega
 obtain⟨h1,tk,rfl,hk⟩:=x.done;have noA:∀b:Addr,b∉(fJ CX P w K mg base N qual scope f cd A outer s H E).ex:=λb z=>absurd (show b∈([]:List Addr)from z) (by simp);refine⟨⟨e0.mod,S.kind,rfl,rfl,le_refl _,λy z c h1 h2=>?_,λy hy=>?_,λy c _ h=>?_,λ_=>hd,Around.frames_deeper e0.frames,.inr ⟨rfl,rfl⟩,λb z=>absurd z (noA b),e0.bs,e0.bsz,λb _ _=>noA b,λb z=>absurd z (noA b),e0.funs,e0.frf⟩,
  rfl,e0.bare,Un.kept hk,⟨_,x.toInCall.ns,λi y v h1 h2 h3=>?_⟩,λy c h=>⟨_,x.cell y c h⟩,e0.hok.fresh (le_refl _),λy c h=>?_,λp hp=>absurd (show p∈([]:List (Addr×Obj))from hp) (by simp),e0.hok.kept hk,?_⟩
 ·exact name_of_addr x.apart (PySem.mem_of_lookup h1) (PySem.mem_of_lookup h2)
 ·have hy:scope.names.lookup y=some .cell∨scope.names.lookup y=some .free:=hy;rcases hy with hy|hy
  ·exact ml hy
  ·exact absurd rfl (S.nofree _ (PySem.mem_of_lookup hy))
 ·exact le_of_lt (x.above y c (PySem.mem_of_lookup h))
 ·have hi:i<vs.length:=by
   unfold start at h2
   by_cases hi:i<vs.length
   ·exact hi
   ·rw[List.getElem?_append_right (by simpa using hi)]at h2;rw[List.getElem?_replicate]at h2
    split at h2<;>cases h2
  have ha:vs[i]?=some v:=by
   unfold start at h2;rw[List.getElem?_append_left (by simpa using hi),getElem?_map]at h2;cases e:vs[i]? with
   |none=>rw[e]at h2;cases h2
   |some a=>rw[e]at h2;cases h2;rfl
  obtain⟨u,hu,rv⟩:=r.get ha;have hp:ps[i]?=some y:=by
   rw[←S.pre,List.getElem?_take_of_lt (by omega)];exact h1
  have ndP:ps.Nodup:=by rw[←S.pre];exact S.nd.sublist (List.take_sublist _ _)
  refine⟨u,rv,?_⟩;rcases S.par y (mem_of_getElem? hp)with k|k
  ·exact .inl ⟨k,ke ndP hp hu k⟩
  ·obtain⟨c,e⟩:=ml (n:=s.heap.objs.size+1) k;refine .inr ⟨.inl k,c,e,?_⟩;have q:=x.cell y c e;rw[kg ndP hp hu (by show scope.names.lookup y≠_;rw[k];decide)]at q;exact q
 ·exact e0.hok.fresh (le_of_lt (x.above y c (PySem.mem_of_lookup h)))
 ·unfold start;show _=N.length;rw[length_append,length_map,List.length_replicate];omega
theorem vT{CX:CXT}{P:Program}{w:World}{K:PySem.W.Frag}{mg:Str→Option Value}{base:Heap}{k:Nat}{f:Addr}{name qual:Str}{params:Arguments}{body:List Stmt}{scope:Scope}{dV kV doc pm cdv ct oc:Value}{an od:Option Addr}{osl:Array (Option Value)}{N ps:List Str}{sp:Sp}(lk:K.lookup f=some ⟨oc,od,.func (fnOf name qual params body scope dV kV doc pm an cdv ct),osl⟩)(hcd:codeIn K cdv qual=true)(S:FnScope N ps scope)(len:∀vs H Q E,sp vs H Q E→vs.length=ps.length)(hbody:∀(A:Around) (outer:List Env) (s:Shared) (H:Hp) (vs:List V) (Q:VK) (E:XK),Room k (A.deeper (envOfC qual scope s.heap.objs.size f cdv))→sp vs H Q E →
   ∃t,PSs (fJ CX P w K mg base N qual scope f cdv A outer s H E) body t∧t {nx:=λ_ H'=>Q .non H',rt:=Q} (start N vs) H):
  FnOk P w K mg base CX (k+1) f (fnOf name qual params body scope dV kV doc pm an cdv ct) ps sp:=by
 refine⟨len,λA outer s H args us vs Q E hr e0 hb r hsp=>?_⟩;have hl:=len _ _ _ _ hsp;have KX:K.In s.heap:=e0.mod.kin.keeps λb o e=>(e0.bs b o e).1;have lim:s.heap.NoLimit:=e0.mod.nolimit.keeps λb o e=>(e0.bs b o e).1;have hkind:∀y∈ps.zip us,scope.names.lookup y.1=some .local∨(scope.names.lookup y.1=some .cell∧((cellsFrom (s.heap.objs.size+1) scope.names []).lookup y.1).isSome=true):=λ⟨n,v⟩ hy=>by
  rcases S.par n (of_mem_zip hy).1 with q|q
  ·exact .inl q
  ·exact .inr ⟨q,PySem.W.cellsFrom_some _ _ _ (.inl q)⟩
 refine codeAny_call_function hr.depth (KX _ _ lk) rfl S.co S.gen rfl (PySem.W.codeRec_of KX hcd) (hb _ _ _ _ ?_);refine wpAny_newFunctionEnv_cells S.kind hkind λenv he s1 x=>?_;subst he;refine⟨lim.keeps x.toInCall.keep,codeAny_func ?_⟩;obtain⟨t,ht,hq⟩:=hbody A outer s H vs Q E (hr.deeper _) hsp;have I:Inv (fJ CX P w K mg base N qual scope f cdv A outer s H E) [] (start N vs) H s1:=qM S hr.hd e0 hl r x;refine wpAny_mono (ht [] s1 (start N vs) H _ I hq) (λfl s' hs=>?_) λe s' hs=>hs;have fin:∀{σ':St}{H':Hp}{v:V}{u:Value},Inv (fJ CX P w K mg base N qual scope f cdv A outer s H E) [] σ' H' s'→aX v u→Q v H'→CE outer P w H s Q u s' :=
  λ{σ' H' v u} J rv q=>⟨v,H',J.os,J.bare,J.base,J.hok,rv,q⟩
 cases fl with
 |ret u =>
  obtain⟨v,σ',H',J,rv,q⟩:=hs;exact fin J rv q
 |next =>
  obtain⟨σ',H',J,q⟩:=hs;exact fin (v:=V.non) (u:=Value.none) J rfl q
 |brk =>
  obtain⟨_,_,_,q⟩:=hs;exact False.elim q
 |cont =>
  obtain⟨_,_,_,q⟩:=hs;exact False.elim q
section
variable{X:Cx}{x:Str}{p pos:Pos}{e:Expr}{es:List Expr}{t:TA}{id T:String}{r:List V→Hp→VK→Prop}
def tCB(r:List V→Hp→VK→Prop)(t:TA):TE:=λσ H Q=>t σ H λvs H1=>r vs H1 Q
theorem aO(hc:dg X (.builtin id) r)(hg:Gl X x)(hm:X.mg x=none)(hv:bootBuiltins x=some (.builtin id))(ha:PA X (e::es) t)(hn:x≠"__name__":=by decide)(hdb:(x==("__debug__":Str))=false:=by decide)(he:starEach (e::es) X.env=(false,eval e X.env)::starEach es X.env:=by rfl)(hpl:(backTo pos (starEach es X.env)).any (·.1)=false:=by rfl):PE X (.Call (.Name x p) (e::es) [] pos) (tCB r t):=by
 intro pins s σ H Q I h;refine wpAny_Call_Name_kw (lr I hg hm hv ?_ hn hdb);exact PyProof.Rows.callWith_builtin1 (thn (ha pos pins s σ H _ I h) λus s1 ⟨vs,H1,I1,r1,q1⟩=>hc pins s1 σ H1 vs us Q I1 r1 q1) he hpl
theorem bc(hc:dg X (.type T) r)(hg:Gl X x)(hm:X.mg x=none)(hv:bootBuiltins x=some (.type T))(ha:PA X (e::es) t)(hn:x≠"__name__":=by decide)(hdb:(x==("__debug__":Str))=false:=by decide)(he:starEach (e::es) X.env=(false,eval e X.env)::starEach es X.env:=by rfl)(hpl:(backTo pos (starEach es X.env)).any (·.1)=false:=by rfl):PE X (.Call (.Name x p) (e::es) [] pos) (tCB r t):=by
 intro pins s σ H Q I h;refine wpAny_Call_Name_kw (lr I hg hm hv ?_ hn hdb);exact PyProof.Rows.callWith_type1 (thn (ha pos pins s σ H _ I h) λus s1 ⟨vs,H1,I1,r1,q1⟩=>hc pins s1 σ H1 vs us Q I1 r1 q1) he hpl
end
end L2
namespace HT
open PySem PyProof.Rows
section
open PySem.SeqAt
open PySem.AutoSeq1 (wpAny_loadPart')
open PySem.MeetsSeq PySem.MeetsSeq2 PySem.MeetsSeq3
end
section
variable{prog:Program}{w:World}{A:Around}{E:Value→Shared→Prop}{s:Shared}
theorem ut{t b:Addr}{vs ws:List Value}{Q:Value→Shared→Prop}(ht:IsTup s.heap t vs.toArray)(hb:IsTup s.heap b ws.toArray)(hv:vs≠[])(h1:ws=[]→Q (.ref t) s)(h2:ws≠[]→Q (.ref s.heap.objs.size) {s with heap:=s.heap.push {cls:=.type "tuple",data:=.seq (vs++ws).toArray}})(hsz:vs.length+ws.length≤sizeLine):wpAny (model prog w) A (binaryOp .Add (.ref t) (.ref b)) Q E s:=by
 obtain⟨⟨cls,dd,data,sl⟩,ho,hc,n,hd⟩:=id ht;obtain⟨⟨cls2,dd2,data2,sl2⟩,ho2,hc2,n2,hd2⟩:=id hb;simp only at hc hd hc2 hd2;subst hc hd hc2 hd2;have e:vs.toArray++ws.toArray=(vs++ws).toArray:=by simp
 by_cases hw:ws=[]
 ·exact concat_meets ⟨_,ho,rfl⟩ ⟨_,ho2,rfl⟩ noFill_tuple_add seq_tuple_add slot_tuple_add entry_tuple_add (args_tuple_add_2 _ _)
   (tuple_addW1 t b vs.toArray ws.toArray n n2 dd dd2 sl sl2 (by simpa using hv) (by simp[hw])) ⟨ho,ho2,h1 hw⟩
 ·refine concat_meets ⟨_,ho,rfl⟩ ⟨_,ho2,rfl⟩ noFill_tuple_add seq_tuple_add slot_tuple_add entry_tuple_add (args_tuple_add_2 _ _)
   (tuple_addW2 t b vs.toArray ws.toArray n n2 dd dd2 sl sl2 (by simpa using hv) (by simpa using hw) (by rw[size_toArray,size_toArray];exact hsz)) ⟨ho,ho2,?_⟩
  rw[e];exact h2 hw
def sIx(n d:Nat):Option Int→Nat
 |none=>d
 |some v=>if v<0 then (v+(n:Int)).toNat else min v.toNat n
theorem rQ(n d:Nat):sIx n d none=d:=rfl
theorem uu(n d k:Nat):sIx n d (some (k:Int))=min k n:=by
 show(if (k:Int)<0 then ((k:Int)+(n:Int)).toNat else min (k:Int).toNat n)=min k n
 rw[if_neg (by omega),Int.toNat_natCast]
theorem wF(n d:Nat)(hd:d≤n)(o:Option Int):sIx n d o≤n:=by
 cases o with
 |none=>exact hd
 |some v =>
  show(if v<0 then (v+(n:Int)).toNat else min v.toNat n)≤n
  by_cases hv:v<0
  ·rw[if_pos hv];omega
  ·rw[if_neg hv];exact Nat.min_le_right _ _
theorem pG(v:Int)(n d:Nat):(if v<0 then max (v+(n:Int)) 0 else min v (n:Int))=((sIx n d (some v):Nat):Int):=by
 show(if v<0 then max (v+(n:Int)) 0 else min v (n:Int))=(((if v<0 then (v+(n:Int)).toNat else min v.toNat n):Nat):Int)
 by_cases hv:v<0
 ·simp only[if_pos hv];omega
 ·simp only[if_neg hv];omega
theorem oz(lo hi:Option Int)(n:Nat):Builtin.Slice.sliceAdjust lo hi 1 (n:Int)=(((sIx n 0 lo:Nat):Int),((sIx n n hi:Nat):Int)):=by
 have h1:¬((1:Int)<0):=by omega
 unfold Builtin.Slice.sliceAdjust;simp only[h1,if_false];refine Prod.ext ?_ ?_
 ·cases lo with
  |none=>rfl
  |some v=>exact pG v n 0
 ·cases hi with
  |none=>rfl
  |some v=>exact pG v n n
theorem oA(i j:Nat):Builtin.Slice.slicePlaces (i:Int) (j:Int) 1=j-i:=by
 unfold Builtin.Slice.slicePlaces;have h1:(1:Int)>0:=by omega
 simp only[h1,if_true,Int.ediv_one]
 split<;>omega
theorem jq{v:Value}{o:Option Int}{Q:Option Int→Shared→Prop}(p:IsPart v o)(h:Q o s):wpAny (model prog w) A (Builtin.Slice.slicePartIndex v) Q E s:=by
 cases p with
 |none=>exact slicePart_none h
 |int i t=>exact slicePart_int h
theorem iG{sl:Addr}{vl vu:Value}{lo hi:Option Int}{n:Nat}{Q:Int×Int×Nat→Shared→Prop}(hs:s.heap.IsSliceOf sl vl vu .none)(pl:IsPart vl lo)(pu:IsPart vu hi)(h:Q (((sIx n 0 lo:Nat):Int),1,sIx n n hi-sIx n 0 lo) s):wpAny (model prog w) A (Builtin.Slice.sliceApplied (.ref sl) (pure (n:Int))) Q E s:=by
 obtain⟨os,hos,hcs,hds⟩:=id hs;unfold Builtin.Slice.sliceApplied Builtin.Slice.sliceFields;refine wpAny_bind (wpAny_bind (wpAny_field hos hds (x:=vl) rfl (wpAny_bind (wpAny_field hos hds (x:=vu) rfl (wpAny_bind (wpAny_field hos hds (x:=.none) rfl (wpAny_pure ?_)))))));refine wpAny_bind (slicePart_none ?_);show wpAny _ _ (if ((1:Int)==0)=true then _ else _) _ _ s
 rw[if_neg (by decide)];refine wpAny_bind (jq pl (wpAny_bind (jq pu (wpAny_bind (wpAny_pure ?_)))));show wpAny _ _ (match Builtin.Slice.sliceAdjust lo hi 1 (n:Int)with|(lo,hi)=>pure (lo,(1:Int),Builtin.Slice.slicePlaces lo hi 1)) _ _ s
 rw[oz lo hi n];show wpAny _ _ (pure (((sIx n 0 lo:Nat):Int),(1:Int),Builtin.Slice.slicePlaces ((sIx n 0 lo:Nat):Int) ((sIx n n hi:Nat):Int) 1)) _ _ s;rw[oA];exact wpAny_pure h
theorem rR(xs:Array Value)(i k:Nat):((List.range k).filterMap λ(m:Nat)=>xs[((i:Int)+(m:Int)*1).toNat]?).toArray=((xs.toList.drop i).take k).toArray:=by
 have e:(λ(m:Nat)=>xs[((i:Int)+(m:Int)*1).toNat]?)=λm=>xs[i+m]?:=by
  funext m
  have:((i:Int)+(m:Int)*1).toNat=i+m:=by omega
  rw[this]
 rw[e];have:=pick_run xs i k;rw[List.filterMap_map]at this;have e2:((λx=>xs[x]?)∘λx=>i+x)=λm=>xs[i+m]?:=rfl;rw[e2]at this;rw[this]
theorem hZ{t sl:Addr}{items:Array Value}{vl vu:Value}{lo hi:Option Int}{Q:Value→Shared→Prop}(ht:IsTup s.heap t items)(hs:s.heap.IsSliceOf sl vl vu .none)(pl:IsPart vl lo)(pu:IsPart vu hi)(hw:¬(sIx items.size 0 lo=0∧sIx items.size items.size hi=items.size))(h:Q (.ref s.heap.objs.size) {s with heap:=s.heap.push {cls:=.type "tuple",data:=.seq ((items.toList.drop (sIx items.size 0 lo)).take (sIx items.size items.size hi-sIx items.size 0 lo)).toArray}})(hsz:items.size≤sizeLine):wpAny (model prog w) A (getItem (.ref t) (.ref sl)) Q E s:=by
 have htake:sizeOk (.seq ((items.toList.drop (sIx items.size 0 lo)).take (sIx items.size items.size hi-sIx items.size 0 lo)).toArray):=by
  show((items.toList.drop (sIx items.size 0 lo)).take (sIx items.size items.size hi-sIx items.size 0 lo)).toArray.size≤sizeLine;rw[size_toArray,length_take,List.length_drop,length_toList];omega
 have hj:sIx items.size items.size hi≤items.size:=wF _ _ (le_refl _) hi;obtain⟨os,hos,hcs,hds⟩:=id hs;have hTs:s.TypeIs (.ref sl) "slice":=⟨os,hos,hcs⟩;unfold getItem
 try with_reducible refine wpAny_holding ?_
 first|refine wpAny_bind (wpAny_pure ?_)|skip
 refine wpAny_bind (wpAny_sequenceKey ht.typeIs (by decide) ?_);refine wpAny_bind (wpAny_callSpecial?_slot (name:=ofString "__getitem__") ht.typeIs PyProof.Rows.slot_tuple_getitem
  (wpAny_call_entry PyProof.Rows.slot_tuple_getitem ht.typeIs entry_tuple_getitem ?_ (args_tuple_getitem _ _)))
 show wpAny _ _ (Builtin.Tuple.tupleItemsOf (.ref t) >>= _) _ _ s;refine wpAny_bind (tupleItemsOf_ ht ?_);refine wpAny_bind (wpAny_typeOf hTs ?_);rw[if_pos (by decide)];refine wpAny_bind (iG hs pl pu ?_);have hno:¬((((sIx items.size 0 lo:Nat):Int)==0&&(1:Int)==1&&(sIx items.size items.size hi-sIx items.size 0 lo)==items.size)=true):=by
  intro q;rw[and_eq_true,and_eq_true]at q;have q1:((sIx items.size 0 lo:Nat):Int)=0:=eq_of_beq q.1.1;have q2:sIx items.size items.size hi-sIx items.size 0 lo=items.size:=eq_of_beq q.2;exact hw ⟨by omega,by omega⟩
 show wpAny _ _ (if (((sIx items.size 0 lo:Nat):Int)==0&&(1:Int)==1&&(sIx items.size items.size hi-sIx items.size 0 lo)==items.size)=true then _ else _) _ _ s
 rw[if_neg hno,rR]
 first
  |exact wpAny_bind (m:=Builtin.Tuple.tupleExact _) (wpAny_newObj_type (wpAny_pure ⟨_,rfl,wpAny_pure h⟩) htake)
  |exact wpAny_bind (m:=Builtin.Tuple.tupleExact _) (wpAny_newObj_type (wpAny_bind (wpAny_pure (wpAny_pure ⟨_,rfl,wpAny_pure h⟩))) htake)
  |exact wpAny_bind (wpAny_bind (m:=Builtin.Tuple.tupleExact _) (wpAny_newObj_type (wpAny_pure (wpAny_pure ⟨_,rfl,wpAny_pure h⟩)) htake))
  |exact wpAny_bind (wpAny_bind (m:=Builtin.Tuple.tupleExact _) (wpAny_newObj_type (wpAny_pure ⟨_,rfl,wpAny_pure h⟩) htake))
end
end HT
namespace L2
open PySem PySem.Spec PyProof.Rows
abbrev TO:=St→Hp→(Option Int→Hp→Prop)→Prop
def PO(X:Cx)(e:Option Expr)(t:TO):Prop :=
 ∀(pins:List (Addr×Obj))(s:Shared)(σ:St)(H:Hp)(Q:Option Int→Hp→Prop),Inv X pins σ H s→t σ H Q →
  wpAny (model X.prog X.w) X.A (evalPart e X.env) (λu s'=>∃o H',Inv X pins σ H' s'∧IsPart u o∧Q o H') X.xe s
def uv:TO:=λ_ H Q=>Q none H
def yw(t:TE):TO:=λσ H Q=>t σ H λx H1=>∃i,x=.int i∧Q (some i) H1
theorem oB{ns:List Int}:∀{us:List Value},aT (ns.map V.int) us→IntsAre us ns:=by
 induction ns with
 |nil=>intro us r;rw[map_nil]at r;cases r;exact .nil
 |cons n ns ih =>
  intro us r;rw[map_cons]at r;cases r with
  |cons r1 r2 =>
   obtain⟨t,e⟩:=r1;subst e;exact .cons n t (ih r2)
section
variable{X:Cx}{e:Expr}{te:TE}{lo hi:Option Expr}{tl th:TO}{pos p2:Pos}
theorem cW:PO X none uv:=by
 intro pins s σ H Q I h;rw[evalPart_none];exact wpAny_pure ⟨none,H,I,.none,h⟩
theorem bv(h:PE X e te):PO X (some e) (yw te):=by
 intro pins s σ H Q I hw;rw[evalPart_some];refine thn (h pins s σ H _ I hw) λu s1 hpt=>?_;obtain⟨x,H1,I1,r1,q1⟩:=hpt;obtain⟨i,rfl,q⟩:=q1;obtain⟨t,rfl⟩:=r1;exact⟨some i,H1,I1,.int i t,q⟩
def SlR(X:Cx)(r:V→Option Int→Option Int→Hp→VK→Prop):Prop :=
 ∀(pins:List (Addr×Obj))(s:Shared)(σ:St)(H:Hp)(x:V)(v vl vu:Value)(lo hi:Option Int)(sl:Addr)(Q:VK),Inv X pins σ H s→aX x v→s.heap.IsSliceOf sl vl vu .none→IsPart vl lo→IsPart vu hi→r x lo hi H Q →
  ∃T id,typeLookup (.type T) "__getitem__"=pure (some (.builtin id))∧s.TypeIs v T∧wpAny (model X.prog X.w) X.A (getItem v (.ref sl)) (EP X pins σ Q) X.xe s
def tSl(r:V→Option Int→Option Int→Hp→VK→Prop)(te:TE)(tl th:TO):TE:=λσ H Q=>te σ H λx H1=>tl σ H1 λl H2=>th σ H2 λu H3=>r x l u H3 Q
theorem bX{r:V→Option Int→Option Int→Hp→VK→Prop}(hr:SlR X r)(he:PE X e te)(hl:PO X lo tl)(hu:PO X hi th):PE X (.Subscript e (.Slice lo hi none p2) pos) (tSl r te tl th):=by
 intro pins s σ H Q I h;refine Subscript_ (thn (he pins s σ H _ I h) λv s1 hpt=>?_);obtain⟨x,H1,I1,r1,q1⟩:=hpt;refine wpAny_Slice (thn (hl pins s1 σ H1 _ I1 q1) λvl s2 ⟨l,H2,I2,pl,q2⟩=>thn (hu pins s2 σ H2 _ I2 q2) λvu s3 hpt=>?_);obtain⟨u,H3,I3,pu,q3⟩:=hpt;rw[evalPart_none];refine wpAny_pure ?_;have I4:Inv X pins σ H3 {s3 with heap:=s3.heap.push {cls:=.type "slice",data:=.fields #[vl,vu,.none]}}:=I3.kept (t':=s3.toks) λb ob q=>get?_push_of_some _ q
 obtain⟨T,id,hT,ht,hg⟩:=hr pins {s3 with heap:=s3.heap.push {cls:=.type "slice",data:=.fields #[vl,vu,.none]}} σ H3 x v vl vu l u s3.heap.objs.size Q I4 r1 (Heap.IsSliceOf.new ..) pl pu q3
 show wpAny (model X.prog X.w) X.A (subscriptTail e (.Slice lo hi none p2) v (.ref s3.heap.objs.size)) (EP X pins σ Q) X.xe {s3 with heap:=s3.heap.push {cls:=.type "slice",data:=.fields #[vl,vu,.none]}}
 exact tail_any (ops:=[.ref s3.heap.objs.size,v]) ht hT hg (by with_unfolding_all rfl)
def dz(xs:List V)(lo hi:Option Int):List V:=(xs.drop (HT.sIx xs.length 0 lo)).take (HT.sIx xs.length xs.length hi-HT.sIx xs.length 0 lo)
theorem iS(xs:List V)(lo hi:Option Int):(dz xs lo hi).length≤xs.length:=by
 unfold dz;rw[length_take,List.length_drop];omega
def jR(K:PySem.W.Frag):V→Option Int→Option Int→Hp→VK→Prop:=λx lo hi H Q=>∃a xs,x=.ref a∧SqT K H a xs ∧
 ¬(HT.sIx xs.length 0 lo=0∧HT.sIx xs.length xs.length hi=xs.length)∧∀p,H p=none→Q (.ref p) (upd H p (.tup (dz xs lo hi)))
theorem cT:SlR X (jR X.K):=by
 intro pins s σ H x v vl vu lo hi sl Q I rx hs pl pu h;obtain⟨a,xs,rfl,hx,hw,q⟩:=h;cases rx;obtain⟨its,r,ht,hz⟩:=I.tuple hx;have hlen:its.toArray.size=xs.length:=by rw[size_toArray];exact r.length.symm
 refine⟨"tuple",_,PyProof.Rows.slot_tuple_getitem.lookup,ht.typeIs,?_⟩;refine HT.hZ ht hs pl pu (by rw[hlen];exact hw) ?_ (by rw[hlen];exact hz);rw[hlen];refine⟨.ref s.heap.objs.size,_,I.laid (t':=s.toks) (o:=.tup (dz xs lo hi)) (λb ob q=>get?_push_of_some _ q) (le_refl _) ?_,rfl,q _ (I.hok.fresh (le_refl _))⟩;exact⟨le_trans (iS xs lo hi) hz,_,(r.drop (HT.sIx xs.length 0 lo)).take (HT.sIx xs.length xs.length hi-HT.sIx xs.length 0 lo),IsTup.new _ _⟩
def kh(K:PySem.W.Frag):R2:=λx y H Q=>∃a b xs ys,x=.ref a∧y=.ref b∧SqT K H a xs∧SqT K H b ys∧xs≠[]∧xs.length+ys.length≤sizeLine ∧
 (ys=[]→Q (.ref a) H)∧(ys≠[]→∀p,H p=none→Q (.ref p) (upd H p (.tup (xs++ys))))
theorem aT.nil_iff{xs:List V}{us:List Value}(r:aT xs us):us=[]↔xs=[]:=by
 cases r with
 |nil=>simp
 |cons _ _=>simp
theorem dm:OpR X (binaryOp .Add) (kh X.K):=by
 intro pins s σ H x y v u Q I rx ry h;obtain⟨a,b,xs,ys,rfl,rfl,ha,hb,hx,hz,q1,q2⟩:=h;cases rx;cases ry;obtain⟨its,r1,p1,_⟩:=I.tuple ha;obtain⟨its2,r2,p2,_⟩:=I.tuple hb;refine HT.ut p1 p2 (λz=>hx (r1.nil_iff.mp z)) (λz=>⟨.ref a,H,I,rfl,q1 (r2.nil_iff.mp z)⟩) (λz=>?_) (by rw[←r1.length,←r2.length];exact hz);refine⟨.ref s.heap.objs.size,_,I.laid (t':=s.toks) (o:=.tup (xs++ys)) (λb ob q=>get?_push_of_some _ q) (le_refl _) ?_,rfl,q2 (λw=>z (r2.nil_iff.mpr w)) _ (I.hok.fresh (le_refl _))⟩;exact⟨by rw[length_append];exact hz,_,r1.append r2,IsTup.new _ _⟩
end
def ixN(n:Nat)(i:Int):Option Nat:=if 0≤i then (if i<n then some i.toNat else none)else if -(n:Int)≤i then some (i+n).toNat else none
def atI{α:Type}(xs:List α)(i:Int):Option α:=(ixN xs.length i).bind λj=>xs[j]?
theorem pH{n:Nat}{i:Int}{j:Nat}(h:ixN n i=some j):seqIndex? i n=some j∧j<n∧-(n:Int)≤i∧i<n:=by
 unfold ixN at h
 by_cases h0:0≤i
 ·rw[if_pos h0]at h
  by_cases h1:i<n
  ·rw[if_pos h1]at h;have e:i.toNat=j:=Option.some.inj h;exact⟨by rw[seqIndex_of h0 h1,e],by omega,by omega,h1⟩
  ·rw[if_neg h1]at h;cases h
 ·rw[if_neg h0]at h
  by_cases h1:-(n:Int)≤i
  ·rw[if_pos h1]at h;have e:(i+n).toNat=j:=Option.some.inj h;exact⟨by rw[seqIndex_neg (by omega) h1,e],by omega,h1,by omega⟩
  ·rw[if_neg h1]at h;cases h
theorem lz{α:Type}{xs:List α}{i:Int}{v:α}(h:atI xs i=some v):∃j,seqIndex? i xs.length=some j∧xs[j]?=some v∧j<xs.length∧-(xs.length:Int)≤i∧i<xs.length:=by
 unfold atI at h;cases e:ixN xs.length i with
 |none=>rw[e]at h;cases h
 |some j =>
  rw[e]at h;obtain⟨h1,h2,h3,h4⟩:=pH e;exact⟨j,h1,h,h2,h3,h4⟩
theorem cX{α:Type}{xs:List α}{j:Nat}{v:α}(h:xs[j]?=some v):atI xs (j:Int)=some v:=by
 have hj:j<xs.length:=(List.getElem?_eq_some_iff.mp h).1;have e:ixN xs.length (j:Int)=some j:=by
  unfold ixN;rw[if_pos (by omega),if_pos (by omega)];simp
 unfold atI;rw[e];exact h
def uw(b:Expr):Prop:=∀o i,subscripted b false o i=operate [o,i] (getItem o i)
def IxR(X:Cx)(r:R2):Prop :=
 ∀(value slice:Expr)(pins:List (Addr×Obj))(s:Shared)(σ:St)(H:Hp)(x y:V)(v u:Value)(Q:VK),Inv X pins σ H s→aX x v→aX y u→r x y H Q →
  subscripted slice false v u=operate [v,u] (getItem v u)→wpAny (model X.prog X.w) X.A (subscriptTail value slice v u) (EP X pins σ Q) X.xe s
def MtR(X:Cx)(id:String)(r:V→List V→Hp→VK→Prop):Prop :=
 ∀(pins:List (Addr×Obj))(s:Shared)(σ:St)(H:Hp)(x:V)(xs:List V)(v:Value)(us:List Value)(Q:VK),Inv X pins σ H s→aX x v→aT xs us→r x xs H Q →
  wpAny (model X.prog X.w) X.A (call (.builtin id) (v::us)) (EP X pins σ Q) X.xe s
section
variable{X:Cx}{a b:Expr}{ta tb:TE}{pos:Pos}
theorem av{r:R2}(hr:IxR X r)(ha:PE X a ta)(hb:PE X b tb)(hs:uw b):PE X (.Subscript a b pos) (tOp r ta tb):=by
 intro pins s σ H Q I h;exact Subscript_ (wz ha hb I h λv u s2 x y H2 I2 rx ry q=>hr a b pins s2 σ H2 x y v u Q I2 rx ry q (hs _ _))
def wG(K:PySem.W.Frag):R2:=λx y H Q=>∃p xs i v,x=.ref p∧y=.int i∧SqL K H p xs∧atI xs i=some v∧Q v H
def cw(K:PySem.W.Frag):R2:=λx y H Q=>∃p xs i v,x=.ref p∧y=.int i∧SqT K H p xs∧atI xs i=some v∧Q v H
def zq:R2:=λx y H Q=>∃z i c,x=.str z∧y=.int i∧z.length≤sizeLine∧atI z.cps.toList i=some c∧Q (.str ⟨#[c]⟩) H
theorem cG:IxR X (wG X.K):=by
 intro value slice pins s σ H x y v u Q I rx ry h hs;obtain⟨p,xs,i,z,rfl,rfl,hq,he,q⟩:=h;cases rx;obtain⟨t,rfl⟩:=ry;obtain⟨its,r,pl,hz⟩:=I.list hq;obtain⟨j,h1,h2,h3,h4,h5⟩:=lz he;obtain⟨w,ew,rw'⟩:=r.get h2;have hl:=r.length;have hn:=iF;have fin:EP X pins σ Q w s:=⟨z,H,I,rw',q⟩
 by_cases h0:0≤i
 ·have hj:i.toNat=j:=by
   rw[seqIndex_of h0 h5]at h1;exact Option.some.inj h1
  exact item_listR pl.isList h0 (by omega) (by rw[hj];simpa using ew) fin hs
 ·have hj:(i+(its.toArray.size:Int)).toNat=j:=by
   rw[seqIndex_neg (by omega) h4]at h1;rw[size_toArray,←hl];exact Option.some.inj h1
  exact subscriptTail_builtinR (x:=w) pl.isList.typeIs slot_list_getitem.lookup
   (wpAny_getItem_list_neg (Q:=λr s'=>r=w∧EP X pins σ Q r s') pl.isList (by omega) (by rw[size_toArray]<;>omega) (by omega) (by rw[hj];simpa using ew) ⟨rfl,fin⟩) hs
theorem aq:IxR X (cw X.K):=by
 intro value slice pins s σ H x y v u Q I rx ry h hs;obtain⟨p,xs,i,z,rfl,rfl,hq,he,q⟩:=h;cases rx;obtain⟨t,rfl⟩:=ry;obtain⟨its,r,pl,hz⟩:=I.tuple hq;obtain⟨j,h1,h2,h3,h4,h5⟩:=lz he;obtain⟨w,ew,rw'⟩:=r.get h2;have hl:=r.length;have hn:=iF;have fin:EP X pins σ Q w s:=⟨z,H,I,rw',q⟩;exact subscriptTail_builtinR (x:=w) pl.typeIs slot_tuple_getitem.lookup
  (getItem_tuple (j:=j) (Q:=λr s'=>r=w∧EP X pins σ Q r s') pl (by omega) (by omega) (by rw[size_toArray,←hl];exact h1) (by simpa using ew) ⟨rfl,fin⟩) hs
theorem wH:IxR X zq:=by
 intro value slice pins s σ H x y v u Q I rx ry h hs;obtain⟨z,i,c,rfl,rfl,hz,he,q⟩:=h;obtain⟨t,rfl⟩:=rx;obtain⟨t',rfl⟩:=ry;obtain⟨j,h1,h2,h3,h4,h5⟩:=lz he;have hl:z.cps.toList.length=z.length:=by simp[Str.length]
 rw[hl]at h1 h4 h5;have hn:=iF;exact tail_any (typeIs_str s z t) slot_str_getitem.lookup (getItem_str (c:=c) (by
  have e1:decide (i < -(2 ^ 63:Int))=false:=decide_eq_false (by omega);have e2:decide (i≥2 ^ 63)=false:=decide_eq_false (by omega);rw[e1,e2,Bool.or_false]) (by rw[h1];simpa using h2) ⟨.str ⟨#[c]⟩,H,I.tok _,⟨_,rfl⟩,q⟩) hs
theorem lA(lo hi:Option Int)(n:Nat):(sliceBounds lo hi none n).1=((HT.sIx n 0 lo:Nat):Int)∧(sliceBounds lo hi none n).2.1=((HT.sIx n n hi:Nat):Int)∧(sliceBounds lo hi none n).2.2=1:=by
 refine⟨?_,?_,rfl⟩
 ·cases lo with
  |none=>simp[sliceBounds,HT.sIx]
  |some i =>
   simp only[sliceBounds,HT.sIx,getD_none,show(1:Int)>0 by decide,if_true]
   by_cases h:i<0
   ·simp only[h,if_true]<;>omega
   ·simp only[h,if_false]<;>omega
 ·cases hi with
  |none=>simp[sliceBounds,HT.sIx]
  |some i =>
   simp only[sliceBounds,HT.sIx,getD_none,show(1:Int)>0 by decide,if_true]
   by_cases h:i<0
   ·simp only[h,if_true]<;>omega
   ·simp only[h,if_false]<;>omega
theorem jS(its:List Value)(lo hi:Option Int):slicePick its.toArray lo hi none=((its.drop (HT.sIx its.length 0 lo)).take (HT.sIx its.length its.length hi-HT.sIx its.length 0 lo)).toArray:=by
 obtain⟨h1,h2,h3⟩:=lA lo hi its.toArray.size;unfold slicePick;rw[h1,h2,h3];simp only[sliceRange_one,pick_run,size_toArray]<;>rfl
def zr(K:PySem.W.Frag):V→Option Int→Option Int→Hp→VK→Prop:=λx lo hi H Q=>∃a xs,x=.ref a∧SqL K H a xs∧∀p,H p=none→Q (.ref p) (upd H p (.lst (dz xs lo hi)))
theorem ux:SlR X (zr X.K):=by
 intro pins s σ H x v vl vu lo hi sl Q I rx hs pl pu h;obtain⟨a,xs,rfl,hx,q⟩:=h;cases rx;obtain⟨its,r,ht,hz⟩:=I.list hx;have hlen:=r.length;refine⟨"list",_,slot_list_getitem.lookup,ht.isList.typeIs,?_⟩;refine wpAny_getItem_list_slice ht.isList hs pl pu .none (by simp) ?_ (by rw[size_toArray]<;>omega);rw[jS,←hlen];refine⟨.ref s.heap.objs.size,_,I.laid (t':=s.toks) (o:=.lst (dz xs lo hi)) (λb ob q=>get?_push_of_some _ q) (le_refl _) ?_,rfl,q _ (I.hok.fresh (le_refl _))⟩;exact⟨le_trans (iS xs lo hi) hz,_,0,(r.drop (HT.sIx xs.length 0 lo)).take (HT.sIx xs.length xs.length hi-HT.sIx xs.length 0 lo),get?_push_size _ rfl⟩
def dJ:V→Bool
 |.non=>true
 |.bl _=>true
 |.int _=>true
 |.str _=>true
 |_=>false
def eqV:V→V→Bool
 |.non,.non=>true
 |.bl a,.bl b=>a==b
 |.bl a,.int b=>(if a then 1 else 0)==b
 |.int a,.bl b=>a==(if b then 1 else 0)
 |.int a,.int b=>a==b
 |.str a,.str b=>a==b
 |_,_=>false
theorem iH{A:Around}{s:Shared}{y x:V}{u v:Value}(ry:aX y u)(rx:aX x v)(fy:dJ y=true)(fx:dJ x=true):EqAt A s u v (eqV y x):=by
 cases y with
 |non =>
  cases ry;cases x with
  |non=>cases rx;exact EqAt.same _
  |bl b=>cases rx;exact EqAt.none_bool b
  |int b=>obtain⟨t,rfl⟩:=rx;exact EqAt.none_int b t
  |str b=>obtain⟨t,rfl⟩:=rx;exact EqAt.none_str b t
  |_=>exact absurd (show false=true from fx) Bool.false_ne_true
 |bl a =>
  cases ry;cases x with
  |non=>cases rx;exact EqAt.bool_none a
  |bl b=>cases rx;exact EqAt.bool_bool a b
  |int b=>obtain⟨t,rfl⟩:=rx;exact EqAt.bool_int a b t
  |str b=>obtain⟨t,rfl⟩:=rx;exact EqAt.bool_str a b t
  |_=>exact absurd (show false=true from fx) Bool.false_ne_true
 |int a =>
  obtain⟨t',rfl⟩:=ry;cases x with
  |non=>cases rx;exact EqAt.int_none a t'
  |bl b=>cases rx;exact EqAt.int_bool a t' b
  |int b=>obtain⟨t,rfl⟩:=rx;exact EqAt.int_int a t' b t
  |str b=>obtain⟨t,rfl⟩:=rx;exact EqAt.int_str a t' b t
  |_=>exact absurd (show false=true from fx) Bool.false_ne_true
 |str a =>
  obtain⟨t',rfl⟩:=ry;cases x with
  |non=>cases rx;exact EqAt.str_none a t'
  |bl b=>cases rx;exact EqAt.str_bool a t' b
  |int b=>obtain⟨t,rfl⟩:=rx;exact EqAt.str_int a t' b t
  |str b=>obtain⟨t,rfl⟩:=rx;exact EqAt.str_str a t' b t
  |_=>exact absurd (show false=true from fx) Bool.false_ne_true
 |_=>exact absurd (show false=true from fy) Bool.false_ne_true
def eqU(x:V)(u:Value):Bool:=match u with
 |.none=>eqV .non x
 |.bool b=>eqV (.bl b) x
 |.int i _=>eqV (.int i) x
 |.str z _=>eqV (.str z) x
 |_=>false
theorem rS{x y:V}{u:Value}(r:aX y u)(f:dJ y=true):eqU x u=eqV y x:=by
 cases y with
 |non=>cases r;rfl
 |bl b=>cases r;rfl
 |int i=>obtain⟨t,rfl⟩:=r;rfl
 |str z=>obtain⟨t,rfl⟩:=r;rfl
 |_=>exact absurd (show false=true from f) Bool.false_ne_true
theorem ia{x:V}:∀{xs:List V}{us:List Value},aT xs us→xs.all dJ=true→us.any (eqU x)=xs.any λy=>eqV y x
 |_,_,.nil,_=>rfl
 |y::xs,u::us,.cons r t,f=>by
  rw[List.all_cons,and_eq_true]at f;rw[any_cons,any_cons,rS r f.1,ia t f.2]
theorem fQ{A:Around}{s:Shared}{x:V}{v:Value}(rx:aX x v)(fx:dJ x=true):∀{xs:List V}{us:List Value},aT xs us→xs.all dJ=true→∀u∈us,EqAt A s u v (eqU x u)
 |_,_,.nil,_=>λu hu=>by cases hu
 |y::xs,u::us,.cons r t,f=>λu' hu=>by
  rw[List.all_cons,and_eq_true]at f;rcases mem_cons.mp hu with rfl|hu
  ·rw[rS r f.1];exact iH r rx f.1 fx
  ·exact fQ rx fx t f.2 u' hu
def inV(x:V)(xs:List V):Bool:=xs.any λy=>eqV y x
def rIn(K:PySem.W.Frag)(neg:Bool):R2:=λx y H Q=>∃p xs,y=.ref p∧(SqL K H p xs∨SqT K H p xs)∧dJ x=true∧xs.all dJ=true∧Q (.bl (if neg then !inV x xs else inV x xs)) H
theorem ki:OpR X (compareOp .In) (rIn X.K false):=by
 intro pins s σ H x y v u Q I rx ry h;obtain⟨p,xs,rfl,hq,fx,fs,q⟩:=h;cases ry;rcases hq with hq|hq
 ·obtain⟨its,r,pl,hz⟩:=I.list hq;refine in_listAt (eqU x) pl.isList (λw hw=>fQ rx fx r fs w (by simpa using hw)) ⟨.bl _,H,I,rfl,?_⟩;rw[show its.toArray.any (eqU x)=its.any (eqU x)by simp,ia r fs];exact q
 ·obtain⟨its,r,pl,hz⟩:=I.tuple hq;refine SeqAt.in_tupleAt (eqU x) pl (λw hw=>fQ rx fx r fs w (by simpa using hw)) ⟨.bl _,H,I,rfl,?_⟩;rw[show its.toArray.any (eqU x)=its.any (eqU x)by simp,ia r fs];exact q
theorem ib:OpR X (compareOp .NotIn) (rIn X.K true):=by
 intro pins s σ H x y v u Q I rx ry h;obtain⟨p,xs,rfl,hq,fx,fs,q⟩:=h;cases ry;rcases hq with hq|hq
 ·obtain⟨its,r,pl,hz⟩:=I.list hq;refine SeqAt.notIn_listAt (eqU x) pl.isList (λw hw=>fQ rx fx r fs w (by simpa using hw)) ⟨.bl _,H,I,rfl,?_⟩;rw[show its.toArray.any (eqU x)=its.any (eqU x)by simp,ia r fs];exact q
 ·obtain⟨its,r,pl,hz⟩:=I.tuple hq;refine SeqAt.notIn_tupleAt (eqU x) pl (λw hw=>fQ rx fx r fs w (by simpa using hw)) ⟨.bl _,H,I,rfl,?_⟩;rw[show its.toArray.any (eqU x)=its.any (eqU x)by simp,ia r fs];exact q
theorem bY:dg X (.builtin "len") (λxs H Q=>∃p ys,xs=[.ref p]∧(SqL X.K H p ys∨SqT X.K H p ys)∧Q (.int ys.length) H):=by
 intro pins s σ H xs us Q I r h;obtain⟨p,ys,rfl,hq,q⟩:=h;obtain⟨u,rfl,rx⟩:=fz r;cases rx;have hn:=iF;rcases hq with hq|hq
 ·obtain⟨its,r',pl,hz⟩:=I.list hq;have hlen:=r'.length;exact Calls.call_len_list pl.isList (by simp only[size_toArray]<;>omega) ⟨.int ys.length,H,I.tok _,⟨s.toks+1,by rw[size_toArray,hlen]⟩,q⟩
 ·obtain⟨its,r',pl,hz⟩:=I.tuple hq;have hlen:=r'.length;exact len_tuple pl (by simp only[size_toArray]<;>omega) ⟨.int ys.length,H,I.tok _,⟨s.toks+1,by rw[size_toArray,hlen]⟩,q⟩
theorem ic:dg X (.builtin "len") (λxs H Q=>∃z,xs=[.str z]∧z.length≤sizeLine∧Q (.int z.length) H):=by
 intro pins s σ H xs us Q I r h;obtain⟨z,rfl,hz,q⟩:=h;obtain⟨u,rfl,t,rfl⟩:=fz r;have hn:=iF;exact len_str (by omega) ⟨.int z.length,H,I.tok _,⟨_,rfl⟩,q⟩
theorem lB:dg X (.type "list") (λxs H Q=>∃p ys,xs=[.ref p]∧(SqL X.K H p ys∨SqT X.K H p ys)∧∀l,H l=none→Q (.ref l) (upd H l (.lst ys))):=by
 intro pins s σ H xs us Q I r h;obtain⟨p,ys,rfl,hq,q⟩:=h;obtain⟨u,rfl,rx⟩:=fz r;cases rx;have fin:∀(its:List Value),aT ys its→ys.length≤sizeLine→∀(h':Heap)(c':Nat),(∀b o',s.heap.get? b=some o'→h'.get? b=some o') →
   h'.get? s.heap.objs.size=some {cls:=.type "list",dict:=none,data:=.seq its.toArray c',slots:=#[]}→EP X pins σ Q (.ref s.heap.objs.size) {s with heap:=h'}:=λits r' hz h' c' kp e =>
  ⟨.ref s.heap.objs.size,_,I.laid (t':=s.toks) kp (le_refl _) (show bQ X.prog X.w _ h' _ (.lst ys)from⟨hz,its,c',r',e⟩),rfl,q _ (I.hok.fresh (le_refl _))⟩
 rcases hq with hq|hq
 ·obtain⟨its,r',pl,hz⟩:=I.list hq;have hlen:=r'.length;obtain⟨o,ho,hc,n,hd⟩:=pl.isList;exact call_list_seq p (.inl rfl) ho hc hd (λh' c' kp e=>fin its r' hz h' c' kp e) (by simp only[size_toArray]<;>omega)
 ·obtain⟨its,r',pl,hz⟩:=I.tuple hq;have hlen:=r'.length;obtain⟨o,ho,hc,n,hd⟩:=pl;exact call_list_seq p (.inr rfl) ho hc hd (λh' c' kp e=>fin its r' hz h' c' kp e) (by simp only[size_toArray]<;>omega)
theorem cj:dg X (.type "tuple") (λxs H Q=>∃p ys,xs=[.ref p]∧((SqL X.K H p ys∧∀l,H l=none→Q (.ref l) (upd H l (.tup ys)))∨(SqT X.K H p ys∧Q (.ref p) H))):=by
 intro pins s σ H xs us Q I r h;obtain⟨p,ys,rfl,h⟩:=h;obtain⟨u,rfl,rx⟩:=fz r;cases rx;rcases h with⟨hq,q⟩|⟨hq,q⟩
 ·obtain⟨its,r',pl,hz⟩:=I.list hq;have hlen:=r'.length;refine call_tuple_list pl.isList (λh' kp=>?_) (by simp only[size_toArray]<;>omega);have I1:Inv X pins σ H {s with heap:=h'}:=I.kept (t':=s.toks) kp
  have I2:Inv X pins σ (upd H h'.objs.size (.tup ys)) {s with heap:=h'.push {cls:=.type "tuple",data:=.seq its.toArray}} :=
   I1.laid (t':=s.toks) (λb o e=>get?_push_of_some _ e) (le_refl _) (show bQ X.prog X.w _ _ _ (.tup ys)from⟨hz,its,r',IsTup.new _ _⟩)
  exact⟨.ref h'.objs.size,_,I2,rfl,q _ (I1.hok.fresh (le_refl _))⟩
 ·obtain⟨its,r',pl,hz⟩:=I.tuple hq;exact call_tuple_same pl ⟨.ref p,H,I,rfl,q⟩
def tyV(K:PySem.W.Frag)(T:String)(x:V)(H:Hp):Prop:=match x with
 |.str _=>T="str"
 |.int _=>T="int"
 |.ref p=>(T="list"∧∃xs,SqL K H p xs)∨(T="tuple"∧∃o,K.lookup p=some o∧o.cls=.type "tuple"∧o.dict=none) ∨
   (T="dict"∧((∃kvs,H p=some (.dK kvs))∨∃kvs,H p=some (.dT kvs)))∨(T="set"∧∃S n,H p=some (.set S n))
 |_=>False
theorem rT{pins:List (Addr×Obj)}{σ:St}{H:Hp}{s:Shared}{T:String}{x:V}{v:Value}(I:Inv X pins σ H s)(r:aX x v)(ty:tyV X.K T x H):
  s.TypeIs v T∧∀a,v=.ref a→∃ob,s.heap.get? a=some ob∧ob.dict=none:=by
 cases x with
 |str z =>
  obtain⟨t,rfl⟩:=r;cases (show T="str" from ty);exact⟨typeIs_str s z t,λ_ e=>nomatch e⟩
 |int i =>
  obtain⟨t,rfl⟩:=r;cases (show T="int" from ty);exact⟨typeIs_int s i t,λ_ e=>nomatch e⟩
 |ref p =>
  cases r;rcases ty with⟨rfl,xs,hq⟩|⟨rfl,o,hk,hc,hd⟩|⟨rfl,hk⟩|⟨rfl,S,n,hk⟩
  ·obtain⟨its,_,pl,_⟩:=I.list hq;refine⟨pl.isList.typeIs,λa e=>?_⟩;cases e;obtain⟨o,n,e,c,hd,_⟩:=pl;exact⟨o,e,hd⟩
  ·refine⟨⟨o,I.kIn p o hk,hc⟩,λa e=>?_⟩;cases e;exact⟨o,I.kIn _ o hk,hd⟩
  ·have z:∃o,s.heap.get? p=some o∧o.ExactDict:=by
    rcases hk with⟨kvs,hk⟩|⟨kvs,hk⟩
    ·obtain⟨_,_,_,_,o,_,_,e,ex,_⟩:=I.hok p _ hk;exact⟨o,e,ex⟩
    ·obtain⟨_,_,_,_,o,_,_,e,ex,_⟩:=I.hok p _ hk;exact⟨o,e,ex⟩
   obtain⟨o,e,ex⟩:=z;refine⟨⟨o,e,ex.1⟩,λa e2=>?_⟩;cases e2;exact⟨o,e,ex.2.1⟩
  ·obtain⟨o,_,_,_,e,ex,_⟩:=I.hok p _ hk;refine⟨⟨o,e,ex.1⟩,λa e2=>?_⟩;cases e2;exact⟨o,e,ex.2.1⟩
 |_=>exact False.elim ty
def zt(K:PySem.W.Frag)(T:String)(r:V→List V→Hp→VK→Prop)(to:TE):TE:=λσ H Q=>to σ H λx H1=>tyV K T x H1∧r x [] H1 Q
def tBM(K:PySem.W.Frag)(T:String)(r:V→List V→Hp→VK→Prop)(to:TE)(t:TA):TE:=λσ H Q=>to σ H λx H1=>tyV K T x H1∧t σ H1 λxs H2=>r x xs H2 Q
variable{o e:Expr}{es:List Expr}{to:TE}{t:TA}{name:Str}{apos cpos:Pos}{T id:String}{r:V→List V→Hp→VK→Prop}
theorem wI(pa:PlainAttrs T)(slot:Slot T name id)(hty:typeOf (.builtin id)=pure (.type "method_descriptor"))(hm:MtR X id r)(ho:PE X o to)(hbase:attributeBase o name X.env (eval o X.env)=eval o X.env:=by rfl)(hline:(apos.endLine==cpos.line)=true:=by rfl):PE X (.Call (.Attribute o name apos) [] [] cpos) (zt X.K T r to):=by
 intro pins s σ H Q I h;refine wpAny_Call_method0_late hbase hline (thn (ho pins s σ H _ I h) λv s1 hpt=>?_);obtain⟨x,H1,I1,r1,ty,q1⟩:=hpt;obtain⟨h1,h2⟩:=rT I1 r1 ty;exact⟨T,id,pa,slot,hty,h1,h2,Calls.callWith_builtin rfl (PySem.evalArgs_none (hm pins s1 σ H1 x [] v [] Q I1 r1 .nil q1))⟩
theorem dL(pa:PlainAttrs T)(slot:Slot T name id)(hty:typeOf (.builtin id)=pure (.type "method_descriptor"))(hm:MtR X id r)(ho:PE X o to)(ha:PA X (e::es) t)(hbase:attributeBase o name X.env (eval o X.env)=eval o X.env:=by rfl)(hfew:((backTo cpos (starEach (e::es) X.env)).all (λx=>!x.1)&&(backToKw cpos (keywordEach [] X.env)).all (λx=>x.1.isSome)
   && decide ((e::es).length+([]:List Keyword).length+(if ([]:List Keyword).isEmpty then 0 else 1)<30))=true:=by rfl)(hline:(apos.endLine==cpos.line)=true:=by rfl)(hs:starEach (e::es) X.env=(false,eval e X.env)::starEach es X.env:=by rfl)(hplain:(backTo cpos (starEach es X.env)).any (·.1)=false:=by rfl):
  PE X (.Call (.Attribute o name apos) (e::es) [] cpos) (tBM X.K T r to t):=by
 intro pins s σ H Q I h;refine wpAny_Call_method_late hbase hfew hline rfl (thn (ho pins s σ H _ I h) λv s1 hpt=>?_);obtain⟨x,H1,I1,r1,ty,q1⟩:=hpt;obtain⟨h1,h2⟩:=rT I1 r1 ty;refine⟨T,id,pa,slot,hty,h1,h2,?_⟩;have hA:=ha cpos pins s1 σ H1 _ I1 q1;rw[hs]at hA⊢;refine Calls.callWith_builtin (by show(false||(backTo cpos (starEach es X.env)).any (·.1))=false;rw[hplain]<;>rfl) (evalArgs_plain ?_);exact thn hA λus s2 ⟨vs,H2,I2,r2,q2⟩=>hm pins s2 σ H2 x vs v us Q I2 r1 r2 q2
end
def MtM(X:Cx)(id:String)(r:V→List V→Hp→VK→Prop):Prop :=
 ∀(pins:List (Addr×Obj))(s:Shared)(σ:St)(H:Hp)(x:V)(xs:List V)(v:Value)(us:List Value)(Q:VK),Inv X pins σ H s→aX x v→aT xs us→r x xs H Q →
  wpAny (model X.prog X.w) X.A (call (.builtin id) (v::us)) (EP X pins σ Q) X.xe s
theorem aT.one:∀{x:V}{us:List Value},aT [x] us→∃u,us=[u]∧aX x u
 |_,_,.cons r .nil=>⟨_,rfl,r⟩
theorem aT.two:∀{x y:V}{us:List Value},aT [x,y] us→∃u v,us=[u,v]∧aX x u∧aX y v
 |_,_,_,.cons r (.cons q .nil)=>⟨_,_,rfl,r,q⟩
theorem aT.zero:∀{us:List Value},aT [] us→us=[]
 |_,.nil=>rfl
theorem aT.dropLast{xs:List V}{us:List Value}(h:aT xs us):aT xs.dropLast us.dropLast:=by
 induction h with
 |nil=>exact .nil
 |cons r t ih =>
  cases t with
  |nil=>exact .nil
  |cons q t'=>exact .cons r ih
theorem aT.eraseIdx:∀{xs:List V}{us:List Value}(i:Nat),aT xs us→aT (xs.eraseIdx i) (us.eraseIdx i)
 |_,_,_,.nil=>.nil
 |_,_,0,.cons _ t=>t
 |_,_,i+1,.cons r t=>.cons r (aT.eraseIdx i t)
theorem oC{α:Type}(l:List α):l.eraseIdx (l.length-1)=l.dropLast:=by
 induction l with
 |nil=>rfl
 |cons a r ih =>
  cases r with
  |nil=>rfl
  |cons b r =>
   have e:(a::b::r).length-1=((b::r).length-1)+1:=by
    have h1:(a::b::r).length=r.length+2:=rfl;have h2:(b::r).length=r.length+1:=rfl;omega
   rw[e,List.eraseIdx_cons_succ,ih]
   all_goals rfl
theorem kj{α:Type}:∀(l:List α)(i:Nat),(l.eraseIdx i).length≤l.length
 |[],_=>le_refl _
 |_::_,0=>le_succ _
 |_::r,i+1=>Nat.succ_le_succ (kj r i)
section
variable{X:Cx}{pins:List (Addr×Obj)}{σ:St}{H:Hp}{s:Shared}{l b:Addr}{xs ys zs:List V}
theorem Inv.lset{its its':List Value}{n:Nat}{f:Array Value→Array Value}{t':Nat}(I:Inv X pins σ H s)(hH:H l=some (.lst xs))(e:s.heap.get? l=some {cls:=.type "list",data:=.seq its.toArray n})(hf:f its.toArray=its'.toArray)(hv:aT ys its')(hz:ys.length≤sizeLine):
  Inv X pins σ (upd H l (.lst ys)) {s with heap:=s.heap.update l (Obj.mapSeq f),toks:=t'}:=by
 have q:=PySem.IsL.update e f;rw[hf]at q;refine I.write (x:=l) (e:=l) (by rw[hH];exact trivial) (.inl rfl) (λb' u hb hu=>(Heap.get?_update_other s.heap (Obj.mapSeq f) (symm hb)).trans hu) ⟨_,q⟩ ?_;exact⟨hz,its',_,hv,q⟩
theorem Inv.lnew{its:List Value}{t':Nat}(I:Inv X pins σ H s)(hv:aT ys its)(hz:ys.length≤sizeLine):
  Inv X pins σ (upd H s.heap.objs.size (.lst ys)) {s with heap:=s.heap.push {cls:=.type "list",data:=.seq its.toArray},toks:=t'} :=
 I.laid (λ_ _ q=>get?_push_of_some _ q) (le_refl _) ⟨hz,its,0,hv,get?_push_size _ rfl⟩
theorem Inv.fresh(I:Inv X pins σ H s):H s.heap.objs.size=none:=I.hok.fresh (le_refl _)
theorem Inv.lstM(I:Inv X pins σ H s)(hH:H l=some (.lst xs)):xs.length≤sizeLine∧∃(its:List Value) (n:Nat),aT xs its∧xs.length=its.length∧s.heap.get? l=some {cls:=.type "list",data:=.seq its.toArray n}:=by
 obtain⟨z,its,n,r,e⟩:=I.hok l _ hH;exact⟨z,its,n,r,r.length,e⟩
theorem rU{n:Nat}(h:n≤sizeLine):Builtin.List.listTooLong n=false:=by
 unfold Builtin.List.listTooLong;exact decide_eq_false (by omega)
def uy:V→List V→Hp→VK→Prop:=λx vs H Q=>∃l xs y,x=.ref l∧vs=[y]∧H l=some (.lst xs)∧xs.length<sizeLine∧Q .non (upd H l (.lst (xs++[y])))
theorem bA:MtM X "list.append" uy:=by
 intro pins s σ H x vs v us Q I rx rv h;obtain⟨l,xs,y,rfl,rfl,hH,hz,q⟩:=h;cases rx;obtain⟨u,rfl,ru⟩:=rv.one;obtain⟨z,its,n,r,hl,e⟩:=I.lstM hH;refine call_meets F.slot_list_append ⟨_,e,rfl⟩ F.entry_list_append (F.args_list_append_2 _ _) (PySem.list_append l its.toArray n u (by rw[size_toArray];omega)) ⟨e,?_⟩;refine⟨.non,_,I.lset (its':=its++[u]) hH e (by simp) (r.append (.cons ru .nil)) ?_,rfl,q⟩;rw[length_append,length_singleton];omega
def uz:V→List V→Hp→VK→Prop:=λx vs H Q=>∃l b xs zs,x=.ref l∧vs=[.ref b]∧H l=some (.lst xs)∧H b=some (.lst zs)∧xs.length+zs.length≤sizeLine∧Q .non (upd H l (.lst (xs++zs)))
theorem kl:MtM X "list.extend" uz:=by
 intro pins s σ H x vs v us Q I rx rv h;obtain⟨l,b,xs,zs,rfl,rfl,hH,hB,hz,q⟩:=h;cases rx;obtain⟨u,rfl,ru⟩:=rv.one;cases ru;obtain⟨z,its,n,r,hl,e⟩:=I.lstM hH;obtain⟨z2,its2,n2,r2,hl2,e2⟩:=I.lstM hB;have hsz:its.toArray.size+its2.toArray.size≤sizeLine:=by rw[size_toArray,size_toArray];omega
 have hlong:¬(!its.toArray.isEmpty&&Builtin.List.listTooLong (its.toArray.size+its2.toArray.size))=true:=by
  rw[rU hsz,Bool.and_false];exact Bool.false_ne_true
 refine call_meets F.slot_list_extend ⟨_,e,rfl⟩ F.entry_list_extend (F.args_list_extend_2 _ _)
  (AutoSeq1.list_extend_list_list_0 l its.toArray n b its2.toArray n2 hlong (by rw[size_toArray];omega) (by omega)) ⟨e,e2,?_⟩
 refine⟨.non,_,I.lset (its':=its++its2) hH e (by simp) (r.append r2) ?_,rfl,q⟩;rw[length_append];omega
def zu:V→List V→Hp→VK→Prop:=λx vs H Q=>∃l xs y,x=.ref l∧vs=[]∧H l=some (.lst xs)∧xs[xs.length-1]?=some y∧Q y (upd H l (.lst xs.dropLast))
theorem wJ:MtM X "list.pop" zu:=by
 intro pins s σ H x vs v us Q I rx rv h;obtain⟨l,xs,y,rfl,rfl,hH,hy,q⟩:=h;cases rx;have hus:=rv.zero;subst hus;obtain⟨z,its,n,r,hl,e⟩:=I.lstM hH;obtain⟨u,hu,ru⟩:=r.get hy;have hy':its.toArray[its.toArray.size-1]?=some u:=by
  show its.toArray[its.length-1]?=some u;rw[←getElem?_toList,←hl];exact hu
 refine call_meets F.slot_list_pop ⟨_,e,rfl⟩ F.entry_list_pop (F.args_list_pop_1 _) (MeetsSeq.list_pop_last l its.toArray n u hy' (by rw[size_toArray];omega)) ⟨e,?_⟩;refine⟨y,_,I.lset (its':=its.dropLast) hH e ?_ r.dropLast ?_,ru,q⟩
 ·show its.toArray.eraseIdxIfInBounds (its.toArray.size-1)=its.dropLast.toArray;rw[size_toArray,List.eraseIdxIfInBounds_toArray,oC]
 ·rw[List.length_dropLast];omega
def wK:V→List V→Hp→VK→Prop:=λx vs H Q=>∃l xs i k y,x=.ref l∧vs=[.int i]∧H l=some (.lst xs)∧-(2 ^ 63)≤i∧i<2 ^ 63∧seqIndex? i xs.length=some k∧xs[k]?=some y∧Q y (upd H l (.lst (xs.eraseIdx k)))
theorem rV:MtM X "list.pop" wK:=by
 intro pins s σ H x vs v us Q I rx rv h;obtain⟨l,xs,i,k,y,rfl,rfl,hH,h1,h2,hk,hy,q⟩:=h;cases rx;obtain⟨u,rfl,ru⟩:=rv.one;obtain⟨t,rfl⟩:=ru;obtain⟨z,its,n,r,hl,e⟩:=I.lstM hH;obtain⟨w,hw,rw'⟩:=r.get hy;refine call_meets F.slot_list_pop ⟨_,e,rfl⟩ F.entry_list_pop (F.args_list_pop_2 _ _)
  (MeetsSeq.list_pop_at l its.toArray n i t k w (fitsIndex_both h1 h2) (by rw[size_toArray,←hl];exact hk) (by rw[←getElem?_toList];exact hw) (by rw[size_toArray];omega)) ⟨e,?_⟩
 refine⟨y,_,I.lset (its':=its.eraseIdx k) hH e ?_ (r.eraseIdx k) ?_,rw',q⟩
 ·show its.toArray.eraseIdxIfInBounds k=(its.eraseIdx k).toArray;rw[List.eraseIdxIfInBounds_toArray]
 ·have:=kj xs k;omega
def zw:R2:=λx y H Q=>∃l b xs zs,x=.ref l∧y=.ref b∧H l=some (.lst xs)∧H b=some (.lst zs)∧xs.length+zs.length≤sizeLine∧∀p,H p=none→Q (.ref p) (upd H p (.lst (xs++zs)))
theorem fc:OpR X (binaryOp .Add) zw:=by
 intro pins s σ H x y v u Q I rx ry h;obtain⟨l,b,xs,zs,rfl,rfl,hH,hB,hz,q⟩:=h;cases rx;cases ry;obtain⟨z,its,n,r,hl,e⟩:=I.lstM hH;obtain⟨z2,its2,n2,r2,hl2,e2⟩:=I.lstM hB;refine PySem.P.add_list e e2 ?_ (by rw[size_toArray,size_toArray];omega);have ea:its.toArray++its2.toArray=(its++its2).toArray:=by simp
 rw[ea];exact⟨.ref _,_,I.lnew (t':=s.toks) (r.append r2) (by rw[length_append];omega),rfl,q _ I.fresh⟩
end
section
variable{prog:Program}{w:World}{A:Around}{E:Value→Shared→Prop}{s:Shared}
end
section
variable{X:Cx}
end
section
variable{κ:Type}[DecidableEq κ]
def br(kvs:List (κ×V))(k:κ):Option V:=(kvs.find? λkv=>decide (kv.1=k)).map (·.2)
def cx(kvs:List (κ×V))(k:κ)(v:V):List (κ×V) :=
 if (kvs.any λkv=>decide (kv.1=k))=true then kvs.map (λkv=>if kv.1=k then (kv.1,v)else kv)else kvs++[(k,v)]
def dM(kvs:List (κ×V))(k:κ):List (κ×V):=kvs.filter λkv=>decide (kv.1≠k)
theorem bZ{p:κ×V}{r:List (κ×V)}{k:κ}(e:p.1=k):br (p::r) k=some p.2:=by simp[br,find?_cons,e]
theorem bt{p:κ×V}{r:List (κ×V)}{k:κ}(e:¬p.1=k):br (p::r) k=br r k:=by simp[br,find?_cons,e]
theorem cP(k:κ):∀kvs:List (κ×V),(kvs.any λkv=>decide (kv.1=k))=(br kvs k).isSome
 |[]=>rfl
 |p::r=>by
  rw[any_cons]
  by_cases e:p.1=k
  ·simp only[bZ e,decide_eq_true e,Bool.true_or,Option.isSome_some]
  ·rw[bt e,decide_eq_false e,Bool.false_or];exact cP k r
theorem mn(k j:κ)(y:V):∀kvs:List (κ×V),br (kvs.map λkv=>if kv.1=k then (kv.1,y)else kv) j=(br kvs j).map λx=>if j=k then y else x
 |[]=>rfl
 |p::r=>by
  have ih:=mn k j y r;rw[map_cons]
  by_cases h:p.1=k
  ·rw[if_pos h]
   by_cases e:p.1=j
   ·rw[bZ (p:=(p.1,y)) e,bZ e,map_some,if_pos (e.symm.trans h)]
   ·rw[bt (p:=(p.1,y)) e,bt e,ih]
  ·rw[if_neg h]
   by_cases e:p.1=j
   ·rw[bZ (p:=p) e,bZ e,map_some,if_neg (λz=>h (e.trans z))]
   ·rw[bt (p:=p) e,bt e,ih]
theorem km(k j:κ)(y:V):∀kvs:List (κ×V),br kvs k=none→br (kvs++[(k,y)]) j=if j=k then some y else br kvs j
 |[],_=>by
  by_cases e:k=j
  ·rw[if_pos e.symm];exact bZ (p:=(k,y)) e
  ·rw[if_neg (λz=>e z.symm)];exact bt (p:=(k,y)) e
 |p::r,hn=>by
  rw[cons_append];have hk:¬p.1=k:=λz=>by rw[bZ z]at hn;cases hn
  rw[bt hk]at hn;have ih:=km k j y r hn
  by_cases e:p.1=j
  ·rw[bZ e,bZ e,if_neg (λz=>hk (e.trans z))]
  ·rw[bt e,bt e,ih]
theorem fX(kvs:List (κ×V))(k j:κ)(y:V):br (cx kvs k y) j=if j=k then some y else br kvs j:=by
 unfold cx
 by_cases a:(kvs.any λkv=>decide (kv.1=k))=true
 ·rw[if_pos a,mn];rw[cP]at a
  by_cases e:j=k
  ·obtain⟨x,hx⟩:=Option.isSome_iff_exists.mp a;rw[if_pos e,e,hx,map_some,if_pos rfl]
  ·rw[if_neg e];cases br kvs j with
   |none=>rfl
   |some x=>rw[map_some,if_neg e]
 ·rw[if_neg a];refine km k j y kvs ?_;rw[cP]at a;cases q:br kvs k with
  |none=>rfl
  |some x=>rw[q]at a;exact(a rfl).elim
theorem eF(kvs:List (κ×V))(k:κ)(v:V):(cx kvs k v).length≤kvs.length+1:=by
 unfold cx
 split
 ·rw[length_map];omega
 ·rw[length_append,length_cons,length_nil];omega
theorem rW{kvs:List (κ×V)}{k:κ}(v:V)(h:br kvs k=none):cx kvs k v=kvs++[(k,v)]:=by
 unfold cx;rw[cP,h];exact if_neg (by decide)
theorem gP.isSome_eq{o:Option V}{u:Option Value}(r:gP o u):o.isSome=u.isSome:=by
 cases o with
 |none=>cases u with
  |none=>rfl
  |some _=>exact(show False from r).elim
 |some _=>cases u with
  |none=>exact(show False from r).elim
  |some _=>rfl
theorem KV.val{kvs:List (κ×V)}{vs:List (κ×Value)}(r:KV kvs vs)(k:κ):gP (br kvs k) (valueAt vs k):=by
 unfold KV at r
 induction r with
 |nil=>exact True.intro
 |@cons p q ps qs h t ih =>
  obtain⟨h1,h2⟩:=h
  by_cases e:p.1=k
  ·have e':q.1=k:=h1.symm.trans e;have b:valueAt (q::qs) k=some q.2:=by simp[valueAt,find?_cons,e']
   rw[bZ e,b];exact h2
  ·have e':¬q.1=k:=λz=>e (h1.trans z);have b:valueAt (q::qs) k=valueAt qs k:=by simp[valueAt,find?_cons,e']
   rw[bt e,b];exact ih
theorem KV.any{kvs:List (κ×V)}{vs:List (κ×Value)}(r:KV kvs vs)(k:κ):(kvs.any λkv=>decide (kv.1=k))=vs.any λkv=>decide (kv.1=k):=by
 unfold KV at r
 induction r with
 |nil=>rfl
 |cons h t ih=>rw[any_cons,any_cons,ih,h.1]
theorem KV.repl{kvs:List (κ×V)}{vs:List (κ×Value)}(r:KV kvs vs)(k:κ){y:V}{u:Value}(ry:aX y u):
  KV (kvs.map λkv=>if kv.1=k then (kv.1,y)else kv) (vs.map λkv=>if kv.1=k then (kv.1,u)else kv):=by
 unfold KV at r⊢
 induction r with
 |nil=>exact .nil
 |@cons p q ps qs h t ih =>
  rw[map_cons,map_cons];refine .cons ?_ ih;obtain⟨h1,h2⟩:=h
  by_cases e:p.1=k
  ·rw[if_pos e,if_pos (h1.symm.trans e)];exact⟨h1,ry⟩
  ·rw[if_neg e,if_neg (λz=>e (h1.trans z))];exact⟨h1,h2⟩
theorem KV.put{kvs:List (κ×V)}{vs:List (κ×Value)}(r:KV kvs vs)(k:κ){y:V}{u:Value}(ry:aX y u):KV (cx kvs k y) (stored vs k u):=by
 unfold cx stored;rw[r.any k]
 by_cases e:(vs.any λkv=>decide (kv.1=k))=true
 ·rw[if_pos e,if_pos e];exact r.repl k ry
 ·rw[if_neg e,if_neg e];exact Paired.snoc r ⟨rfl,ry⟩
theorem KV.drop{kvs:List (κ×V)}{vs:List (κ×Value)}(r:KV kvs vs)(k:κ):KV (dM kvs k) (without vs k):=by
 unfold KV at r⊢;unfold dM without
 induction r with
 |nil=>exact .nil
 |@cons p q ps qs h t ih =>
  obtain⟨h1,h2⟩:=h;rw[filter_cons,filter_cons]
  by_cases e:p.1=k
  ·have a:¬decide (p.1≠k)=true:=by simp[e]
   have b:¬decide (q.1≠k)=true:=by simp[h1.symm.trans e]
   rw[if_neg a,if_neg b];exact ih
  ·have e':¬q.1=k:=λz=>e (h1.trans z);have a:decide (p.1≠k)=true:=by simp[e]
   have b:decide (q.1≠k)=true:=by simp[e']
   rw[if_pos a,if_pos b];exact .cons ⟨h1,h2⟩ ih
theorem KV.length{kvs:List (κ×V)}{vs:List (κ×Value)}(r:KV kvs vs):kvs.length=vs.length:=Paired.length r
theorem mq(kvs:List (κ×V))(k:κ):(dM kvs k).length≤kvs.length:=length_filter_le _ _
end
theorem gL{P:Program}{w:World}{k:Key}{u:Value}(r:aX (kV k) u):(bb P w).is k u=true:=by
 cases k with
 |inl i=>obtain⟨t,e⟩:=(show ∃t,u=Value.int i t from r);subst e;exact md P w i t
 |inr x=>obtain⟨t,e⟩:=(show ∃t,u=Value.str x t from r);subst e;exact mf P w x t
theorem wL{a b:Key}(e:kV a=kV b):a=b:=by
 cases a with
 |inl i=>cases b with
  |inl j=>have e':V.int i=V.int j:=e;injection e' with e';rw[e']
  |inr y=>exact nomatch (show V.int i=V.str y from e)
 |inr x=>cases b with
  |inl j=>exact nomatch (show V.str x=V.int j from e)
  |inr y=>have e':V.str x=V.str y:=e;injection e' with e';rw[e']
theorem lC:∀{a b:List Key},a.map kV=b.map kV→a=b
 |[],[],_=>rfl
 |[],_::_,e=>by simp at e
 |_::_,[],e=>by simp at e
 |x::xs,y::ys,e=>by
  rw[map_cons,map_cons]at e;injection e with e1 e2
  rw[wL e1,lC e2]
theorem iI{P:Program}{w:World}:∀{ks:List Key}{us:List Value},aT (ks.map kV) us→ItemsAre (bb P w) ks us
 |[],_,r=>by rw[map_nil]at r;cases r;exact .nil
 |k::ks,_,r=>by
  rw[map_cons]at r;cases r with
  |cons h t=>exact .cons (gL h) (iI t)
abbrev KT(H:Hp):List (List Key×V)→List (List Key×Addr×Value)→Prop:=Paired λp q=>p.1=q.1∧H q.2.1=some (.tup (p.1.map kV))∧aX p.2 q.2.2
theorem KT.val{H:Hp}{kvs:List (List Key×V)}{xs:List (List Key×Addr×Value)}(r:KT H kvs xs)(k:List Key):gP (br kvs k) ((atKey xs k).map (·.2)):=by
 induction r with
 |nil=>exact True.intro
 |@cons p q ps qs h t ih =>
  obtain⟨h1,_,h2⟩:=h
  by_cases e:p.1=k
  ·have e':q.1=k:=h1.symm.trans e;have b:atKey (q::qs) k=some q.2:=by simp[atKey,find?_cons,e']
   rw[bZ e,b];exact h2
  ·have e':¬q.1=k:=λz=>e (h1.trans z);have b:atKey (q::qs) k=atKey qs k:=by simp[atKey,find?_cons,e']
   rw[bt e,b];exact ih
theorem KT.repl{H:Hp}{kvs:List (List Key×V)}{xs:List (List Key×Addr×Value)}(r:KT H kvs xs)(k:List Key){y:V}{u:Value}(ry:aX y u):
  KT H (kvs.map λkv=>if kv.1=k then (kv.1,y)else kv) (xs.map (putAt k u)):=by
 induction r with
 |nil=>exact .nil
 |@cons p q ps qs h t ih =>
  rw[map_cons,map_cons];refine .cons ?_ ih;obtain⟨h1,h2,h3⟩:=h;unfold putAt
  by_cases e:p.1=k
  ·rw[if_pos e,if_pos (h1.symm.trans e)];exact⟨h1,h2,ry⟩
  ·rw[if_neg e,if_neg (λz=>e (h1.trans z))];exact⟨h1,h2,h3⟩
theorem KT.put{H:Hp}{kvs:List (List Key×V)}{xs:List (List Key×Addr×Value)}(r:KT H kvs xs)(k:List Key){b:Addr}{y:V}{u:Value}(hb:H b=some (.tup (k.map kV)))(ry:aX y u):
  KT H (cx kvs k y) (storedH xs k b u):=by
 have e:(kvs.any λkv=>decide (kv.1=k))=(atKey xs k).isSome:=by
  rw[cP,(r.val k).isSome_eq,isSome_map]
 unfold cx storedH;rw[e]
 by_cases q:(atKey xs k).isSome=true
 ·rw[if_pos q,if_pos q];exact r.repl k ry
 ·rw[if_neg q,if_neg q];exact Paired.snoc r ⟨rfl,hb,ry⟩
theorem KT.keeps{H H':Hp}{kvs:List (List Key×V)}{xs:List (List Key×Addr×Value)}(r:KT H kvs xs)(ht:∀b ys,H b=some (.tup ys)→H' b=some (.tup ys)):KT H' kvs xs :=
 Paired.mapP r λ_ _ z=>⟨z.1,ht _ _ z.2.1,z.2.2⟩
section
variable{P:Program}{w:World}{H:Hp}{h:Heap}{a:Addr}
theorem vU{u:HO}(ok:HOk P w H h)(e:Rd H a u):bQ P w H h a u:=e.ok ok
theorem kn{kvs:List (Key×V)}(ok:HOk P w H h)(e:Rd H a (.dK kvs)):kvs.length≤sizeLine∧(a==sysModules)=false∧∃vs,KV kvs vs∧h.DictOf (bb P w) a vs :=
 show bQ P w H h a (.dK kvs)from vU ok e
theorem pI{kvs:List (Key×V)}(ok:HOk P w H h)(e:H a=some (.dK kvs)):kvs.length≤sizeLine∧(a==sysModules)=false∧∃vs,KV kvs vs∧h.DictOf (bb P w) a vs:=kn ok (.inl e)
theorem jr{ks:List Key}(ok:HOk P w H h)(e:H a=some (.tup (ks.map kV))):(tupleKind (bb P w)).is h ks a:=by
 obtain⟨_,its,r,o,h1,h2,n,h3⟩:=(show bQ P w H h a (.tup (ks.map kV))from ok a _ e);exact⟨o,its.toArray,n,h1,h2,h3,by simpa using iI r⟩
theorem ko{kvs:List (List Key×V)}(ok:HOk P w H h)(e:Rd H a (.dT kvs)):kvs.length≤sizeLine∧(a==sysModules)=false ∧
  ∃xs,KT H kvs xs∧h.DictOfH (tupleKind (bb P w)) a xs:=by
 obtain⟨z,y,xs,r,o,es,ep,h1,h2,h3,h4,h5⟩:=(show bQ P w H h a (.dT kvs)from vU ok e);refine⟨z,y,xs,r,o,es,ep,h1,h2,h3,h4,λx hx=>?_,h5⟩;have all:∀{l:List (List Key×V)}{m:List (List Key×Addr×Value)},KT H l m→∀x∈m,(tupleKind (bb P w)).is h x.1 x.2.1:=by
  intro l m q
  induction q with
  |nil=>intro x hx;exact nomatch hx
  |@cons p q ps qs hq t ih =>
   intro x hx;rcases mem_cons.mp hx with e|hx
   ·subst e;exact jr ok (by rw[←hq.1];exact hq.2.1)
   ·exact ih x hx
 exact all r x hx
theorem yx{kvs:List (List Key×V)}(ok:HOk P w H h)(e:H a=some (.dT kvs)):kvs.length≤sizeLine∧(a==sysModules)=false ∧
  ∃xs,KT H kvs xs∧h.DictOfH (tupleKind (bb P w)) a xs:=ko ok (.inl e)
end
def dA(H:Hp)(a:Addr)(y:V)(r:Option V):Prop :=
 (∃kvs k,Rd H a (.dK kvs)∧y=kV k∧r=br kvs k)∨∃kvs k b,Rd H a (.dT kvs)∧y=.ref b∧H b=some (.tup (k.map kV))∧r=br kvs k
def jT(H:Hp)(a:Addr)(y v:V)(H':Hp):Prop :=
 (∃kvs k,H a=some (.dK kvs)∧y=kV k∧kvs.length<sizeLine∧H'=upd H a (.dK (cx kvs k v))) ∨
 ∃kvs k b,H a=some (.dT kvs)∧y=.ref b∧H b=some (.tup (k.map kV))∧kvs.length<sizeLine∧H'=upd H a (.dT (cx kvs k v))
theorem dA.k{H:Hp}{a:Addr}{kvs:List (Key×V)}{k:Key}(e:H a=some (.dK kvs)):dA H a (kV k) (br kvs k):=.inl ⟨kvs,k,.inl e,rfl,rfl⟩
theorem jT.k{H:Hp}{a:Addr}{kvs:List (Key×V)}{k:Key}{v:V}(e:H a=some (.dK kvs))(hl:kvs.length<sizeLine):jT H a (kV k) v (upd H a (.dK (cx kvs k v))):=.inl ⟨kvs,k,e,rfl,hl,rfl⟩
section
variable{X:Cx}{pins:List (Addr×Obj)}{σ:St}{H:Hp}{s:Shared}{a:Addr}{y v:V}{u r:Value}{o:Option V}{A:Around}{E:Value→Shared→Prop}
theorem Inv.big(I:Inv X pins σ H s):sysModules<s.heap.objs.size:=by
 have h:mainGlobals<s.heap.objs.size:=(I.mod.glob.keeps I.bk).lt;exact lt_trans (by decide) h
theorem qN{Q:Value→Shared→Prop}(hu:A.units+1<cLine)(I:Inv X pins σ H s)(g:dA H a y (some v))(ry:aX y u)(h:∀w' s',Inv X pins σ H s'→aX v w'→Q w' s'):
  wpAny (model X.prog X.w) A (getItem (.ref a) u) Q E s:=by
 rcases g with⟨kvs,k,e,ey,l⟩|⟨kvs,k,b,e,ey,eb,l⟩
 ·subst ey;obtain⟨z,hd,vs,rel,dd⟩:=kn I.hok e;obtain⟨w',hw,rw'⟩:=gP.some_of (v:=v) (o:=valueAt vs k) (by rw[l];exact rel.val k);exact wpAny_getItem_of (gL ry) dd.mapOf hw (h w' _ (I.tok _) rw')
 ·subst ey;cases (show u=Value.ref b from ry);obtain⟨z,hd,xs,rel,dd⟩:=ko I.hok e;obtain⟨w',hw,rw'⟩:=gP.some_of (v:=v) (o:=(atKey xs k).map (·.2)) (by rw[l];exact rel.val k);obtain⟨p,hp,hp2⟩:=Option.map_eq_some_iff.mp hw;refine wpAny_getItem_heap (tupleKind_room_in1 hu) (jr I.hok eb) dd hp ?_;rw[hp2];exact h w' _ (I.tok _) rw'
theorem zx{Q:Value→Shared→Prop}(hu:A.units+1<cLine)(I:Inv X pins σ H s)(g:dA H a y o)(ry:aX y u)(h:∀s',Inv X pins σ H s'→Q (.bool o.isSome) s'):
  wpAny (model X.prog X.w) A (compareOp .In u (.ref a)) Q E s:=by
 rcases g with⟨kvs,k,e,ey,l⟩|⟨kvs,k,b,e,ey,eb,l⟩
 ·subst ey;obtain⟨z,hd,vs,rel,dd⟩:=kn I.hok e;refine wpAny_in_of (gL ry) hd dd.mapOf ?_;rw[←(rel.val k).isSome_eq,←l];exact h _ (I.tok _)
 ·subst ey;cases (show u=Value.ref b from ry);obtain⟨z,hd,xs,rel,dd⟩:=ko I.hok e;refine wpAny_in_heap (tupleKind_room_in1 hu) (jr I.hok eb) hd dd ?_;have q:=(rel.val k).isSome_eq;rw[isSome_map]at q;rw[←q,←l];exact h _ (I.tok _)
theorem uA{Q:Value→Shared→Prop}(hu:A.units+1<cLine)(I:Inv X pins σ H s)(g:dA H a y o)(ry:aX y u)(h:∀s',Inv X pins σ H s'→Q (.bool (!o.isSome)) s'):
  wpAny (model X.prog X.w) A (compareOp .NotIn u (.ref a)) Q E s:=by
 rcases g with⟨kvs,k,e,ey,l⟩|⟨kvs,k,b,e,ey,eb,l⟩
 ·subst ey;obtain⟨z,hd,vs,rel,dd⟩:=kn I.hok e;refine wpAny_notIn_of (gL ry) hd dd.mapOf ?_;rw[←(rel.val k).isSome_eq,←l];exact h _ (I.tok _)
 ·subst ey;cases (show u=Value.ref b from ry);obtain⟨z,hd,xs,rel,dd⟩:=ko I.hok e;refine wpAny_notIn_heap (tupleKind_room_in1 hu) (jr I.hok eb) hd dd ?_;have q:=(rel.val k).isSome_eq;rw[isSome_map]at q;rw[←q,←l];exact h _ (I.tok _)
theorem jb{h':Heap}{t':Nat}{ob:HO}(I:Inv X pins σ H s)(mu:Mut (H a))(hs:SameBut a s.heap h')(he:∃q,h'.get? a=some q)(new:bQ X.prog X.w (upd H a ob) h' a ob):
  Inv X pins σ (upd H a ob) {s with heap:=h',toks:=t'} :=
 I.write (x:=a) (e:=a) mu (.inl rfl) (λb q hb z=>(hs.2 b hb).trans z) he new
theorem jt{P:Program}{w:World}{H':Hp}{h':Heap}{kvs:List (Key×V)}{vs:List (Key×Value)}(z:kvs.length≤sizeLine)(hd:(a==sysModules)=false)(rel:KV kvs vs)(dd:h'.DictOf (bb P w) a vs):
  bQ P w H' h' a (.dK kvs):=⟨z,hd,vs,rel,dd⟩
theorem qO{H':Hp}{Q:Unit→Shared→Prop}(hu:A.units+1<cLine)(I:Inv X pins σ H s)(g:jT H a y v H')(ry:aX y u)(rv:aX v r)(h:∀s',Inv X pins σ H' s'→Q () s'):
  wpAny (model X.prog X.w) A (setItem (.ref a) u r) Q E s:=by
 rcases g with⟨kvs,k,e,ey,l,eH⟩|⟨kvs,k,b,e,ey,eb,l,eH⟩
 ·subst ey eH;obtain⟨z,hd,vs,rel,dd⟩:=pI I.hok e;have hz:vs.length≤sizeLine:=by rw[←rel.length];exact z
  have hl:(cx kvs k v).length≤sizeLine:=by have:=eF kvs k v;omega
  refine wpAny_setItem_pairs (hsz:=hz) (gL ry) dd λh' dd' hs=>h _ ?_;have he:∃q,h'.get? a=some q:=let⟨q,_,_,hq,_⟩:=dd';⟨q,hq⟩;exact jb I (by rw[e];exact True.intro) hs he (jt hl hd (rel.put k rv) dd')
 ·subst ey eH;cases (show u=Value.ref b from ry);obtain⟨z,hd,xs,rel,dd⟩:=yx I.hok e;have hz:xs.length≤sizeLine:=by rw[←Paired.length rel];exact z
  have hl:(cx kvs k v).length≤sizeLine:=by have:=eF kvs k v;omega
  refine wpAny_setItem_heap (hsz:=hz) (tupleKind_room_in1 hu) (jr I.hok eb) dd λh' dd' hs=>h _ ?_;obtain⟨q,es,ep,hq,h2,h3,h4,_,h5⟩:=dd';refine jb I (by rw[e];exact True.intro) hs ⟨q,hq⟩ ⟨hl,hd,_,(rel.put k eb rv).keeps λc ys ec=>?_,q,es,ep,hq,h2,h3,h4,h5⟩;rw[ao (yn ec e (λz=>nomatch z))];exact ec
end
section
variable{X:Cx}{pins:List (Addr×Obj)}{σ:St}{H:Hp}{s:Shared}{a:Addr}{kvs:List (Key×V)}{k:Key}{u:Value}{A:Around}{E:Value→Shared→Prop}
theorem yy{v:V}{more:List Value}{Q:Value→Shared→Prop}(I:Inv X pins σ H s)(e:H a=some (.dK kvs))(ry:aX (kV k) u)(l:br kvs k=some v)(hm:more=[]∨∃x,more=[x])(h:∀w' s',Inv X pins σ (upd H a (.dK (dM kvs k))) s'→aX v w'→Q w' s'):wpAny (model X.prog X.w) A (call (.builtin "dict.pop") (.ref a::u::more)) Q E s:=by
 obtain⟨z,hd,vs,rel,dd⟩:=pI I.hok e;obtain⟨w',hw,rw'⟩:=gP.some_of (v:=v) (o:=valueAt vs k) (by rw[←l];exact rel.val k);have hp:(keyPart u).isSome=true:=by
  cases k with
  |inl i=>obtain⟨t,q⟩:=(show ∃t,u=Value.int i t from ry);subst q;rfl
  |inr x=>obtain⟨t,q⟩:=(show ∃t,u=Value.str x t from ry);subst q;rfl
 have ha:argsOk "dict.pop" ⟨.ref a::u::more,[]⟩:=by
  rcases hm with q|⟨x,q⟩
  ·subst q;exact PySem.F.args_dict_pop_2 _ _
  ·subst q;exact PySem.F.args_dict_pop_3 _ _ _
 refine call_meetsIn slot_dict_pop dd.typeIs PySem.F.entry_dict_pop ha (meets_dict_pop_there (bb X.prog X.w) a (gL ry) more hm hp)
  ⟨vs,w',dd,by rw[←rel.length];exact z,hw,λh' dd' hs=>h w' _ ?_ rw'⟩
 have he:∃q,h'.get? a=some q:=let⟨q,_,_,hq,_⟩:=dd';⟨q,hq⟩;exact jb I (by rw[e];exact True.intro) hs he (jt (le_trans (mq kvs k) z) hd (rel.drop k) dd')
theorem wM{r:Value}{Q:Value→Shared→Prop}(I:Inv X pins σ H s)(e:H a=some (.dK kvs))(ry:aX (kV k) u)(l:br kvs k=none)(h:∀s',Inv X pins σ H s'→Q r s'):
  wpAny (model X.prog X.w) A (call (.builtin "dict.pop") [.ref a,u,r]) Q E s:=by
 obtain⟨z,hd,vs,rel,dd⟩:=pI I.hok e;have hn:valueAt vs k=none:=gP.none_of (by rw[←l];exact rel.val k);have hp:(keyPart u).isSome=true:=by
  cases k with
  |inl i=>obtain⟨t,q⟩:=(show ∃t,u=Value.int i t from ry);subst q;rfl
  |inr x=>obtain⟨t,q⟩:=(show ∃t,u=Value.str x t from ry);subst q;rfl
 exact call_meetsIn slot_dict_pop dd.typeIs PySem.F.entry_dict_pop (PySem.F.args_dict_pop_3 _ _ _) (meets_dict_pop_default (bb X.prog X.w) a (gL ry) hd hp r) ⟨vs,dd,hn,h _ (I.tok _)⟩
end
def yz(i:Expr):Prop:=∀ov iv,subscripted i false ov iv=operate [ov,iv] (getItem ov iv)
theorem uB{prog:Program}{w:World}{A:Around}{E:Value→Shared→Prop}{s:Shared}{env:Env}{value slice:Expr}{pos:Pos}{T id:String}{Q:Value→Shared→Prop}(hl:typeLookup (.type T) "__getitem__"=pure (some (.builtin id)))(hs:yz slice)(h:wpAny (model prog w) A (eval value env) (λo s₁=>wpAny (model prog w) A (eval slice env) (λi s₂=>s₂.TypeIs o T∧wpAny (model prog w) A (getItem o i) Q E s₂) E s₁) E s):
  wpAny (model prog w) A (eval (.Subscript value slice pos) env) Q E s:=by
 refine Subscript_ (wpAny_mono h (λo s₁ h₁=>wpAny_mono h₁ (λi s₂ h₂=>?_) λ_ _ x=>x) λ_ _ x=>x);obtain⟨hT,h₂⟩:=h₂;unfold subscriptTail;refine wpAny_bind ?_;rw[getitemInPython_of_ne hT.not_modules];refine wpAny_bind (wpAny_specialOf hT hl ?_);have fin:wpAny (model prog w) A (subscripted slice false o i) (λr s₃=>wpAny (model prog w) A (letTemporaryGo value o r >>= λ_=>pure r) Q E s₃) E s₂:=by
  rw[hs o i];exact wpAny_operating (wpAny_mono h₂ (λr s₃ h₃=>wpAny_bind (wpAny_letTemporaryGo (wpAny_pure h₃))) λ_ _ x=>x)
 first
  |exact wpAny_pure (wpAny_bind fin)
  |exact wpAny_bind (wpAny_pure (wpAny_bind fin))
  |exact wpAny_bind fin
theorem mr{X:Cx}{pins:List (Addr×Obj)}{σ:St}{H:Hp}{s:Shared}{a:Addr}{y:V}{o:Option V}(I:Inv X pins σ H s)(g:dA H a y o):s.TypeIs (.ref a) "dict":=by
 rcases g with⟨kvs,k,e,_,_⟩|⟨kvs,k,b,e,_,_,_⟩
 ·obtain⟨_,_,vs,_,dd⟩:=kn I.hok e;exact dd.typeIs
 ·obtain⟨_,_,xs,_,dd⟩:=ko I.hok e;exact dd.typeIs
def yA(td ty:TE):TE:=λσ H Q=>td σ H λx H1=>ty σ H1 λy H2=>∃a v,x=.ref a∧dA H2 a y (some v)∧Q v H2
def zy(ty td:TE):TE:=λσ H Q=>ty σ H λy H1=>td σ H1 λx H2=>∃a o,x=.ref a∧dA H2 a y o∧Q (.bl o.isSome) H2
def uC(ty td:TE):TE:=λσ H Q=>ty σ H λy H1=>td σ H1 λx H2=>∃a o,x=.ref a∧dA H2 a y o∧Q (.bl (!o.isSome)) H2
def yB(td ty tv:TE):TS:=λD σ H=>tv σ H λv H1=>td σ H1 λx H2=>ty σ H2 λy H3=>∃a H4,x=.ref a∧jT H3 a y v H4∧D.nx σ H4
section
variable{X:Cx}{o i e value:Expr}{pos pos' tpos:Pos}{td ty tv:TE}
theorem aV(hu:X.A.units+1<cLine)(ho:PE X o td)(hi:PE X i ty)(hs:yz i):PE X (.Subscript o i pos) (yA td ty):=by
 intro pins s σ H Q I h;refine uB PySem.F.slot_dict_getitem.lookup hs (thn (ho pins s σ H _ I h) λu s1 ⟨x,H1,I1,rx,q1⟩=>thn (hi pins s1 σ H1 _ I1 q1) λiv s2 hpt=>?_);obtain⟨y,H2,I2,ry,a,v,ex,g,q2⟩:=hpt;subst ex;obtain rfl:u=Value.ref a:=rx;exact⟨mr I2 g,qN hu I2 g ry λw' s3 I3 rw'=>⟨v,H2,I3,rw',q2⟩⟩
theorem dF(hu:X.A.units+1<cLine)(hi:PE X i ty)(ho:PE X o td):PC X .In i o (zy ty td):=by
 intro pins s σ H Q I h;refine thn (hi pins s σ H _ I h) λiv s1 ⟨y,H1,I1,ry,q1⟩=>thn (ho pins s1 σ H1 _ I1 q1) λu s2 hpt=>?_;obtain⟨x,H2,I2,rx,a,ov,ex,g,q2⟩:=hpt;subst ex;obtain rfl:u=Value.ref a:=rx;exact zx hu I2 g ry λs3 I3=>⟨.bl ov.isSome,H2,I3,rfl,q2⟩
theorem cC(hu:X.A.units+1<cLine)(hi:PE X i ty)(ho:PE X o td):PC X .NotIn i o (uC ty td):=by
 intro pins s σ H Q I h;refine thn (hi pins s σ H _ I h) λiv s1 ⟨y,H1,I1,ry,q1⟩=>thn (ho pins s1 σ H1 _ I1 q1) λu s2 hpt=>?_;obtain⟨x,H2,I2,rx,a,ov,ex,g,q2⟩:=hpt;subst ex;obtain rfl:u=Value.ref a:=rx;exact uA hu I2 g ry λs3 I3=>⟨.bl (!ov.isSome),H2,I3,rfl,q2⟩
theorem ie(hu:X.A.units+1<cLine)(ho:PE X o td)(hi:PE X i ty)(hv:PE X value tv)(hs:swapsWith value (some (.Subscript o i pos')) pos.line X.env=pure false):
  PS X (.Assign [.Subscript o i pos'] value pos) (yB td ty tv):=by
 intro pins s σ H D I h;refine wpAny_Assign_Subscript (thn (hv pins s σ H _ I h) λr s1 ⟨v,H1,I1,rv,q1⟩=>thn (ho pins s1 σ H1 _ I1 q1) λu s2 ⟨x,H2,I2,rx,q2⟩=>thn (hi pins s2 σ H2 _ I2 q2) λiv s3 ⟨y,H3,I3,ry,a,H4,ex,g,q3⟩=>?_) hs;subst ex;obtain rfl:u=Value.ref a:=rx;exact qO hu I3 g ry rv λs4 I4=>⟨σ,H4,I4,q3⟩
end
theorem rX{P:Program}{w:World}{H:Hp}(h:Heap)(hb:sysModules<h.objs.size):bQ P w H (h.push {cls:=.type "dict",data:=.dict #[]}) h.objs.size (.dK []) :=
 ⟨zero_le _,beq_eq_false_iff_ne.mpr (symm (ne_of_lt hb)),[],.nil,Heap.DictOf.new h⟩
def wN:TE:=λ_ H Q=>∀p,H p=none→Q (.ref p) (upd H p (.dK []))
section
variable{X:Cx}{pos:Pos}
theorem mw:PE X (.Dict [] [] pos) wN:=λpins s σ H Q I h =>
 wpAny_Dict_empty ⟨.ref s.heap.objs.size,_,I.laid (a:=s.heap.objs.size) (o:=.dK []) (t':=s.toks) (λ_ _ q=>get?_push_of_some _ q) (le_refl _) (rX s.heap I.big),rfl,h _ (I.hok.fresh (le_refl _))⟩
end
structure M2(X:Cx)(o:Expr)(m:Str)(apos:Pos)(e f:Expr)(cpos:Pos):Prop where
 base:attributeBase o m X.env (eval o X.env)=eval o X.env
 few:((backTo cpos (starEach [e,f] X.env)).all (λx=>!x.1)&&(backToKw cpos (keywordEach [] X.env)).all (λx=>x.1.isSome)
  && decide (([e,f]:List Expr).length+([]:List Keyword).length+(if ([]:List Keyword).isEmpty then 0 else 1)<30))=true
 line:(apos.endLine==cpos.line)=true
 trees:backTo cpos (starEach [e,f] X.env)=[(false,eval e X.env),(false,eval f X.env)]
def IsD(H:Hp)(a:Addr):Prop:=(∃kvs,Rd H a (.dK kvs))∨∃kvs,Rd H a (.dT kvs)
theorem wO{X:Cx}{pins:List (Addr×Obj)}{σ:St}{H:Hp}{s:Shared}{a:Addr}(I:Inv X pins σ H s)(d:IsD H a):
  s.TypeIs (.ref a) "dict"∧(∀b,Value.ref a=.ref b→∃ob,s.heap.get? b=some ob∧ob.dict=none)∧(a==sysModules)=false:=by
 rcases d with⟨kvs,e⟩|⟨kvs,e⟩
 ·obtain⟨_,hd,vs,_,dd⟩:=kn I.hok e;refine⟨dd.typeIs,λb q=>?_,hd⟩;cases q;obtain⟨ob,_,_,h1,h2,_⟩:=dd;exact⟨ob,h1,h2.2.1⟩
 ·obtain⟨_,hd,xs,_,dd⟩:=ko I.hok e;refine⟨dd.typeIs,λb q=>?_,hd⟩;cases q;obtain⟨ob,_,_,h1,h2,_⟩:=dd;exact⟨ob,h1,h2.2.1⟩
section
variable{X:Cx}{pins:List (Addr×Obj)}{σ:St}{H:Hp}{s:Shared}{a:Addr}{y d:V}{u r:Value}{o:Option V}{A:Around}{E:Value→Shared→Prop}
end
def wP(td ty tx:TE):TE:=λσ H Q=>td σ H λx H1=>∃a,x=.ref a∧IsD H1 a∧ty σ H1 λy H2=>tx σ H2 λz H3=>∃kvs k,H3 a=some (.dK kvs)∧y=kV k ∧
 (∀v,br kvs k=some v→Q v (upd H3 a (.dK (dM kvs k))))∧(br kvs k=none→Q z H3)
section
variable{X:Cx}{o e f:Expr}{apos cpos:Pos}{td ty tx:TE}
theorem rY(ho:PE X o td)(he:PE X e ty)(hf:PE X f tx)(m:M2 X o "pop" apos e f cpos):PE X (.Call (.Attribute o "pop" apos) [e,f] [] cpos) (wP td ty tx):=by
 intro pins s σ H Q I h;refine wpAny_Call_method m.base m.few m.line PySem.F.plainAttrs_dict slot_dict_pop PySem.F.type_dict_pop (thn (ho pins s σ H _ I h) λu s1 hpt=>?_);obtain⟨x,H1,I1,rx,a,ex,d,q1⟩:=hpt;subst ex;obtain rfl:u=Value.ref a:=rx;obtain⟨t1,t2,_⟩:=wO I1 d;refine⟨t1,t2,?_⟩;rw[m.trees];refine Calls.callWith_builtin rfl (evalArgs_plain (spliced_cons (thn (he pins s1 σ H1 _ I1 q1) λiv s2 ⟨y,H2,I2,ry,q2⟩ =>
  spliced_cons (thn (hf pins s2 σ H2 _ I2 q2) λfv s3 ⟨z,H3,I3,rz,kvs,k,ea,ey,q3,q4⟩=>Calls.spliced_nil ?_))))
 subst ey;cases l:br kvs k with
 |some v=>exact yy I3 ea ry l (.inr ⟨fv,rfl⟩) λw' s4 I4 rw'=>⟨v,_,I4,rw',q3 v l⟩
 |none=>exact wM I3 ea ry l λs4 I4=>⟨z,H3,I4,rz,q4 l⟩
end
section
variable{X:Cx}{pins:List (Addr×Obj)}{σ:St}{H:Hp}{s:Shared}{a:Addr}{kvs:List (Key×V)}{A:Around}{E:Value→Shared→Prop}
end
section
variable{X:Cx}{pins:List (Addr×Obj)}{σ:St}{H:Hp}{s:Shared}{a:Addr}{y:V}{u:Value}{A:Around}{E:Value→Shared→Prop}
end
end L2
namespace Att
open PySem PySem.W PySem.Calls PyProof.Rows
theorem iZ{P:Params}{h:Heap}:∀(ns:List Int)(vs:List Value),WellAll P h vs (ns.map WData.int)→IntsAre vs ns:=by
 intro ns
 induction ns with
 |nil =>
  intro vs w;rw[map_nil]at w;cases w;exact .nil
 |cons n ns ih =>
  intro vs w;rw[map_cons]at w;cases w with
  |cons a b =>
   cases a;exact .cons _ _ (ih _ b)
theorem qP{l:OpenLaw}{n:Nat}(hn:l.most=some n){P:Params}{h:Heap}{args:List WData}{vals:List Value}(hpre:l.row.toRowW.claim.pre args=true)(hwl:WellAll P h vals args):
  ∃a vs ns,vals=[Value.ref a]∧args=[WData.list (ns.map WData.int)]∧h.get? a=some {cls:=.type "list",data:=.seq vs.toArray}∧IntsAre vs ns∧ns.length≤n:=by
 have hsh:WShape.hasAll [] args [.list .int]=true:=(pre_splitW hpre).1;have hc:l.pre.holds [] {args:=args}=true:=(pre_splitW hpre).2;obtain⟨d,r,rfl,h1,h2⟩:=hasAllW_cons hsh;obtain rfl:=hasAllW_nil h2;obtain⟨xs,rfl,h3⟩:=hasW_list h1;obtain⟨ns,rfl⟩:=items_int h3;have hlen:ns.length≤n:=by
  unfold OpenLaw.pre at hc;have h4:(WTm.not (.lt (.lit (.int (n:Int))) (.len (.arg 0)))).holds [] {args:=[.list (ns.map .int)]}=true:=by
   have h4:=(holds_andW hc).1;rw[hn]at h4;exact h4
  have h5:=condW_of h4 (w_not (w_lt w_lit (w_len_list (w_arg rfl))));rw[length_map]at h5;refine Nat.le_of_not_lt λq=>?_;have q':(n:Int)<((ns.length:Nat):Int):=by omega
  first
   |(rw[decide_eq_true q']at h5;exact absurd h5 (by decide))
   |(simp at h5;omega)
 cases hwl with
 |cons w1 w2 =>
  cases w2;cases w1 with
  |list ho hall=>exact⟨_,_,ns,rfl,rfl,ho,iZ ns _ hall,hlen⟩
theorem qQ(l:OpenLaw)(args:List WData):l.row.toRowW.claim.post args (.bool true) args=true :=
 postW_of (r:=l.row.toRowW) (X:=(true==true))
  (show WShape.has [] (.bool true) .bool=true by first|rfl|decide|simp[WShape.has,WShape.arms,WShape.armsAll])
  (show(WTm.eq .res (.lit (.bool true))).value [] {args:=args,res:=some (.bool true),after:=args}=some (.bool (true==true))from w_eq_bool (w_res rfl) w_lit) rfl
theorem mG{l:OpenLaw}{n:Nat}{q:Program}{loose:List Str}{XP:(Str→Option Value)→Heap→Prop}{YP:World→Heap→Prop}{d:DefRec}(hn:l.most=some n)(hdf:d.params.defaults=[])(call:∀(w:World) (s₀ s₁:Shared) (mg mb:Str→Option Value) (fa:Addr) (o:Obj) (pm cd doc:Value) (a:Addr) (vs:List Value) (ns:List Int),
   Ground q loose [] XP w s₀ mg mb s₁.heap→YP w s₁.heap →
   s₁.heap.get? fa=some o→o.data=.func (docDef d.name d.params d.body d.scope pm cd doc)→s₁.heap.CodeRec cd d.name→mg d.name=some (.ref fa) →
   s₁.heap.get? a=some {cls:=.type "list",data:=.seq vs.toArray}→IntsAre vs ns→ns.length≤n→s₁.gens=#[] →
   codeAny (model l.prog w) callerA (.call (.ref fa) ⟨[.ref a],[]⟩) (λr s'=>r=.ok (.ret (.bool true))∧OldK s₁.heap s'.heap∧s'.os=s₁.os∧AllBare s'.gens) s₁):
  WalkO q loose XP YP l.row.toRowW d [] (λf vs=>PySem.call f vs):=by
 intro w s₀ s₁ mg mb G Y fa o pm cd doc dV kV ho hd hcd hD hmg hg args vals as hpre hlay hrd hwl hlo;obtain rfl:dV=.none:=Dflts.none hD hdf;obtain rfl:kV=.none:=Dflts.noKw hD;obtain⟨a,vs,ns,rfl,rfl,hobj,hints,hlen⟩:=qP hn hpre hwl;refine enter_call (codeAny_mono (call w s₀ s₁ mg mb fa o pm cd doc a vs ns G Y ho (fd_plain hd) hcd hmg hobj hints hlen hg) λr s' hq=>?_);obtain⟨rfl,h2,h3,h4⟩:=hq;exact⟨.inl ⟨.bool true,.bool true,[],rfl,λ_=>rfl,.bool true,qQ l _,λ_=>⟨List.Pairwise.nil,λ_ hm=>(nomatch hm)⟩⟩,h2,h3,h4⟩
section
variable{prog:Program}{w:World}{A:Around}{E:Value→Shared→Prop}{s:Shared}{K:Frag}
end
end Att
namespace L2
open PySem PySem.Spec PyProof.Rows
theorem kq:∀{vs:List Value}{ns:List Int},IntsAre vs ns→aT (ns.map V.int) vs
 |_,_,.nil=>.nil
 |_,_,.cons n t h=>.cons ⟨t,rfl⟩ (kq h)
def wQ(H:Hp):Prop:=∀b,H b=none∨∃o xs,H b=some (.frz o (.lst xs))
theorem rZ{P:Program}{w:World}{K:PySem.W.Frag}{mg mb:Str→Option Value}{CX:CXT}{k:Nat}{fa a:Addr}{fd:FuncData}{x:Str}{sp:Sp}{s₁:Shared}{vs:List Value}{ns:List Int}(KX:K.In s₁.heap)(hns:s₁.heap.Ns mainGlobals mg)(hb:s₁.heap.Ns builtinsNs mb)(hbb:∀x:Str,x≠"__name__"→mb x=bootBuiltins x)(hlim:s₁.heap.NoLimit)(hg:s₁.gens=#[])(ha:s₁.heap.get? a=some {cls:=.type "list",data:=.seq vs.toArray})(hi:IntsAre vs ns)(hl:ns.length≤sizeLine)(hr:Room k callerA)(F:∀base:Heap,K.In base→base.Ns mainGlobals mg→FnOk P w K mg base CX k fa fd [x] sp)(hbind:∀(s:Shared) (u:Value),BindsTo s fd ⟨[u],[]⟩ [(x,u)])(hsp:∀H:Hp,wQ H→SqL K H a (ns.map V.int)→sp [.ref a] H (λv _=>v=.bl true) λ_ _ _=>False)(hCX:∀H e s',CX [] H s₁ (λ_ _ _=>False) e s'→False):
  codeAny (model P w) callerA (.call (.ref fa) ⟨[.ref a],[]⟩) (λr s'=>r=.ok (.ret (.bool true))∧OldK s₁.heap s'.heap∧s'.os=s₁.os∧AllBare s'.gens) s₁:=by
 have rv:=kq hi;have lenV:=hi.length;have core:∀H:Hp,wQ H→SqL K H a (ns.map V.int)→HOk P w H s₁.heap→(∀b,H b≠none→b=a)→(H a≠none→K.lookup a=none) →
   codeAny (model P w) callerA (.call (.ref fa) ⟨[.ref a],[]⟩) (λr s'=>r=.ok (.ret (.bool true))∧OldK s₁.heap s'.heap∧s'.os=s₁.os∧AllBare s'.gens) s₁:=by
  intro H hO hS hok hA hK;have base_of:∀{b:Addr}{o:Obj},s₁.heap.get? b=some o→H b=none→(lp s₁.heap H).get? b=some o:=λe n=>rG e n;have noA:∀{b:Addr}{o:Obj}{es:Array DictEntry}{ep:Nat},s₁.heap.get? b=some o→o.data=.dict es ep→H b=none:=λ{b o es ep} e d=>by
   cases q:H b with
   |none=>rfl
   |some u =>
    have e':b=a:=hA b (by rw[q];simp);subst e';rw[ha]at e;cases e;have d':Data.seq vs.toArray _=Data.dict es ep:=d;cases d'
  have nsK:∀{b:Addr}{m:Str→Option Value},s₁.heap.Ns b m→(lp s₁.heap H).Ns b m:=λ{b m} ⟨o,es,ep,e,d,r⟩=>⟨o,es,ep,base_of e (noA e d),d,r⟩;have hKb:K.In (lp s₁.heap H):=λb o e=>base_of (KX b o e) (by
   cases q:H b with
   |none=>rfl
   |some u =>
    have e':b=a:=hA b (by rw[q];simp);subst e';rw[hK (by rw[q];simp)]at e;cases e)
  have hM:Mod K mg (lp s₁.heap H):=⟨hKb,nsK hns,⟨mb,nsK hb,hbb⟩,let⟨mc,h1,h2⟩:=hlim;⟨mc,nsK h1,h2⟩⟩;have e0:Env0 P w K mg (lp s₁.heap H) callerA [] s₁ H:=⟨rfl,hM,λb o e=>um e,le_of_eq (qG _ _),trivial,λb hb=>absurd (show b∈([]:List Addr)from hb) (by simp),hok,.of_eq hg⟩;refine codeAny_mono ((F _ hKb (nsK hns)).run callerA [] s₁ H ⟨[.ref a],[]⟩ [.ref a] [.ref a] _ _ hr e0 (hbind s₁ (.ref a)) (.cons rfl .nil) (hsp H hO hS)) λr s' h=>?_;cases r with
  |error e=>exact(hCX H e s' h).elim
  |ok fl =>
   cases fl with
   |next=>exact False.elim h
   |brk=>exact False.elim h
   |cont=>exact False.elim h
   |ret u =>
    obtain⟨v,H',os,bare,un,hok',r',q⟩:=h;have q':v=.bl true:=q;subst q';obtain rfl:u=Value.bool true:=r';refine⟨rfl,OldK.of_keep λb o e=>?_,os,bare⟩;cases q:H b with
    |none=>exact un.keep b o e q (by intro z;exact absurd (show b∈([]:List Addr)from z) (by simp)) (by simp)
    |some u =>
     rcases hO b with z|⟨ob,xs,z⟩
     ·rw[q]at z;cases z
     ·have z2:=un.frzs b ob _ z;obtain⟨e1,_⟩:=hok b _ z;obtain⟨e2,_⟩:=hok' b _ z2;rw[e]at e1;cases e1;exact e2
 cases hk:K.lookup a with
 |some o =>
  have e:=KX a o hk;rw[ha]at e;cases e;refine core (λ_=>none) (λ_=>.inl rfl) (.inr ⟨_,vs.toArray,_,hk,rfl,rfl,rfl,by rw[size_toArray,lenV];exact hl,by simpa using rv⟩) (λb u z=>by have z':(none:Option HO)=some u:=z;cases z') (λb z=>absurd rfl z) λz=>absurd rfl z
 |none =>
  refine core (λb=>if b=a then some (.frz {cls:=.type "list",data:=.seq vs.toArray} (.lst (ns.map V.int)))else none) (λb=>?_) (.inl (.inr ⟨{cls:=.type "list",data:=.seq vs.toArray},if_pos rfl⟩)) (λb u z=>?_) (λb z=>?_) λ_=>hk
  ·by_cases hb:b=a
   ·exact .inr ⟨_,_,if_pos hb⟩
   ·exact .inl (if_neg hb)
  ·by_cases hb:b=a
   ·have z':=(if_pos hb).symm.trans z;cases z';subst hb;exact⟨ha,by rw[length_map];exact hl,vs,_,rv,ha⟩
   ·have z':=(if_neg hb).symm.trans z;cases z'
  ·by_cases hb:b=a
   ·exact hb
   ·exact absurd (if_neg hb) z
theorem uD{l:PySem.W.OpenLaw}{n k:Nat}{q:Program}{loose:List Str}{XP:(Str→Option Value)→Heap→Prop}{YP:World→Heap→Prop}{d:DefRec}{K:Params→PySem.W.Frag}{CX:World→CXT}{sp:World→Sp}{x:Str}(hn:l.most=some n)(hn2:n≤sizeLine)(hdf:d.params.defaults=[])(hr:Room k callerA)(hY:∀(w:World) (h:Heap),YP w h→(K w.params).In h)(F:∀(w:World) (mg:Str→Option Value) (fa:Addr) (h:Heap),(K w.params).In h→h.Ns mainGlobals mg→mg d.name=some (.ref fa) →
   ∃fd:FuncData,(∀(s:Shared) (u:Value),BindsTo s fd ⟨[u],[]⟩ [(x,u)]) ∧
    ∀base:Heap,(K w.params).In base→base.Ns mainGlobals mg→FnOk l.prog w (K w.params) mg base (CX w) k fa fd [x] (sp w))(hsp:∀(w:World) (H:Hp) (a:Addr) (ns:List Int),ns.length≤n→wQ H→SqL (K w.params) H a (ns.map V.int)→sp w [.ref a] H (λv _=>v=.bl true) λ_ _ _=>False)(hCX:∀(w:World) (H:Hp) (s:Shared) (e:Value) (s':Shared),CX w [] H s (λ_ _ _=>False) e s'→False):
  PySem.W.WalkO q loose XP YP l.row.toRowW d [] (λf vs=>PySem.call f vs):=by
 refine Att.mG hn hdf λw s₀ s₁ mg mb fa o pm cd doc a vs ns G Y ho hd hcd hmg hobj hints hlen hg=>?_;have KX:=hY w _ Y;obtain⟨fd,hb,hF⟩:=F w mg fa _ KX G.T.g hmg;exact rZ KX G.T.g G.T.b G.T.builtins G.T.nolimit hg hobj hints (le_trans hlen hn2) hr hF hb (λH hO hS=>hsp w H a ns hlen hO hS) λH e s'=>hCX w H s₁ e s'
def dN(s:Stmt):Arguments:=match s with
 |.FunctionDef _ a _ _ _ _ _ _ _ _=>a
 |_=>{posonlyargs:=[],args:=[],vararg:=none,kwonlyargs:=[],kw_defaults:=[],kwarg:=none,defaults:=[]}
def bp(s:Stmt):List Stmt:=match s with
 |.FunctionDef _ _ b _ _ _ _ _ _ _=>b
 |_=>[]
def ah(s:Stmt):Scope:=match s with
 |.FunctionDef _ _ _ _ _ _ sc _ _ _=>sc
 |_=>{kind:=.function,names:=[],isGenerator:=false,isCoroutine:=false}
abbrev CX0:CXT:=λ_ _ _ _ _ _=>False
abbrev E0:XK:=λ_ _ _=>False
theorem aI{X:Cx}:jp CX0 X E0:=λ_ _ _ _ _ _ _ h=>h.elim
structure Fun(K:PySem.W.Frag)(x qual:Str)(st:Stmt)(f:Addr)(fd:FuncData):Prop where
 ex:∃(oc:Value) (od:Option Addr) (kV doc pm:Value) (an:Option Addr) (cdv ct:Value) (osl:Array (Option Value)),
  fd=fnOf x qual (dN st) (bp st) (ah st) .none kV doc pm an cdv ct∧K.lookup f=some ⟨oc,od,.func fd,osl⟩∧codeIn K cdv qual=true
 kp:keepIn K (.ref f)=true
section
variable{P:Program}{w:World}{K:PySem.W.Frag}{mg:Str→Option Value}{base:Heap}
theorem Fun.ok{x qual:Str}{st:Stmt}{f:Addr}{fd:FuncData}{N ps:List Str}{k:Nat}{sp:Sp}(F:Fun K x qual st f fd)(S:FnScope N ps (ah st))(len:∀vs H Q E,sp vs H Q E→vs.length=ps.length)(hbody:∀(cdv:Value) (A:Around) (outer:List Env) (s:Shared) (H:Hp) (vs:List V) (Q:VK) (E:XK),Room k (A.deeper (envOfC qual (ah st) s.heap.objs.size f cdv))→sp vs H Q E →
   ∃t,PSs (fJ CX0 P w K mg base N qual (ah st) f cdv A outer s H E).nox (bp st) t∧t {nx:=λ_ H'=>Q .non H',rt:=Q} (start N vs) H):FnOk P w K mg base CX0 (k+1) f fd ps sp:=by
 obtain⟨oc,od,kV,doc,pm,an,cdv,ct,osl,rfl,lk,hcd⟩:=F.ex;refine vT lk hcd S len λA outer s H vs Q E hr hsp=>?_;obtain⟨t,h,q⟩:=hbody cdv A outer s H vs Q E hr hsp;exact⟨t,h.nox,q⟩
theorem Fun.binds{x qual:Str}{st:Stmt}{f:Addr}{fd:FuncData}{ps:List Str}(F:Fun K x qual st f fd)(h:∀(kV doc pm:Value) (an:Option Addr) (cdv ct:Value) (us:List Value),us.length=ps.length→bindArgs (fnOf x qual (dN st) (bp st) (ah st) .none kV doc pm an cdv ct) ⟨us,[]⟩=pure (ps.zip us)):dU K fd ps []:=by
 obtain⟨oc,od,kV,doc,pm,an,cdv,ct,osl,rfl,lk,hcd⟩:=F.ex;exact .all (h kV doc pm an cdv ct)
theorem wR{x qual:Str}{st:Stmt}{f:Addr}{oc:Value}{od an:Option Addr}{osl:Array (Option Value)}{kV doc pm cdv ct:Value}(l:K.lookup f=some ⟨oc,od,.func (fnOf x qual (dN st) (bp st) (ah st) .none kV doc pm an cdv ct),osl⟩)(c:codeIn K cdv qual=true)(k:keepIn K (.ref f)=true):Fun K x qual st f (fnOf x qual (dN st) (bp st) (ah st) .none kV doc pm an cdv ct):=⟨⟨oc,od,kV,doc,pm,an,cdv,ct,osl,rfl,l,c⟩,k⟩
end
theorem aN{A:Around}{k:Nat}(hr:Room k A):A.units+1<cLine:=lt_of_le_of_lt (Nat.add_le_add_left (by decide:1≤64) _) hr.units
theorem aJ{n:Nat}(h:n≤1000):n<sizeLine:=lt_of_le_of_lt h (by decide)
section
variable{X:Cx}
theorem pv(i:Nat){x:Str}{pos:Pos}(hN:X.N[i]?=some x:=by rfl)(hv:Vis X.env.scope x:=by first|exact Or.inl rfl|exact Or.inr (Or.inl rfl)|exact Or.inr (Or.inr rfl))(hd:(x==("__debug__":Str))=false:=by decide)(hcd:(x==("__classdict__":Str))=false:=by decide):PE X (.Name x pos) (iE i):=wt hN hv hd hcd
end
theorem aE{A B:Prop}(h:B):if false=true then A else B:=by
 rw[if_neg Bool.false_ne_true];exact h
theorem aQ{A B:Prop}(h:A):if true=true then A else B:=by
 rw[if_pos rfl];exact h
theorem qR{c A B:Prop}[Decidable c](h1:c→A)(h2:¬c→B):if c then A else B:=by
 by_cases h:c
 ·rw[if_pos h];exact h1 h
 ·rw[if_neg h];exact h2 h
def Same(H H':Hp):Prop:=∀b o,H b=some o→H' b=some o
theorem Same.refl(H:Hp):Same H H:=λ_ _ h=>h
theorem Same.trans{H H1 H2:Hp}(a:Same H H1)(b:Same H1 H2):Same H H2:=λc o h=>b c o (a c o h)
theorem Same.free{H H':Hp}(e:Same H H'){l:Addr}(h:H' l=Option.none):H l=Option.none:=by
 cases q:H l with
 |none=>rfl
 |some o =>
  rw[e l o q]at h;cases h
theorem Same.seq{K:PySem.W.Frag}{H H':Hp}{a:Addr}{xs:List V}(e:Same H H')(h:SqL K H a xs):SqL K H' a xs:=by
 rcases h with (h|⟨o,h⟩)|h
 ·exact .inl (.inl (e _ _ h))
 ·exact .inl (.inr ⟨o,e _ _ h⟩)
 ·exact .inr h
section
variable{κ:Type}[DecidableEq κ]
theorem qS{p:κ×V}{r:List (κ×V)}{k:κ}(e:p.1=k):dM (p::r) k=dM r k:=by
 unfold dM;rw[filter_cons,if_neg (by simp[e])]
theorem qT{p:κ×V}{r:List (κ×V)}{k:κ}(e:¬p.1=k):dM (p::r) k=p::dM r k:=by
 unfold dM;rw[filter_cons,if_pos (by simp[e])]
end
structure LcOk(X:Cx)(scope:Scope)(cl:List (Str×Addr)):Prop where
 kind:scope.kind=.function
 clos:closureFor scope X.env=pure cl
 names:∀x∈scope.names,x.2=.local→scope.names.lookup x.1=some .local
 nocell:∀x∈scope.names,x.2≠.cell
 cells:∀x c,cl.lookup x=some c→X.env.cells.lookup x=some c
 has:∀x,((relabel scope X.env).names.lookup x=some .cell∨(relabel scope X.env).names.lookup x=some .free)→∃c,cl.lookup x=some c
abbrev cQ(X:Cx)(N:List Str)(scope:Scope)(cl:List (Str×Addr))(s:Shared)(H:Hp)(ex:List Addr):Cx :=
 {X with N:=N,s₀:=s,H₀:=H,env:=compEnvC scope cl s.heap.objs.size X.env,outer:=X.stack,stack:=X.stack,ex:=ex,fn:=λ_=>false,pn:=[],xe:=λ_ _=>False}
section
variable{X:Cx}{pins:List (Addr×Obj)}{σ:St}{H:Hp}{s:Shared}{N:List Str}{scope:Scope}{cl:List (Str×Addr)}{fp:List Addr}
theorem mH(I:Inv X pins σ H s)(L:LcOk X scope cl)(hf:∀b∈fp,fH X pins H b)(ho:∀b∈fp,b<s.heap.objs.size):(cQ X N scope cl s H fp).Ok where
 mod:=I.ok.mod
 kind:=L.kind
 glob:=I.ok.glob
 blt:=I.ok.blt
 above:=le_refl _
 inj:=λx y c h1 h2=>I.ok.inj x y c (L.cells x c h1) (L.cells y c h2)
 has:=λx hx=>L.has x hx
 cab:=λx c h _=>absurd h (by simp)
 hd:=I.ok.hd
 frames:=I.ok.frames
 stk:=.inl rfl
 exf:=λb hb=>⟨ne_of_lt (ho b hb),λx c h=>(hf b hb).2.2.2.2.1 x c (L.cells x c h)⟩
 bs:=I.bs
 bsz:=le_trans I.ok.bsz I.sz
 noex:=λb o e hb=>by
  rcases (hf b hb).2.2.2.1 with z|z
  ·exact I.ok.noex b o e z
  ·exact absurd (lt_of_lt_of_le (lt_size e) (le_trans I.ok.bsz z)) (lt_irrefl _)
 exfs:=λb hb hs=>by
  rcases mem_cons.mp (I.stkSub b hs)with z|z
  ·exact(hf b hb).2.1 z
  ·exact(hf b hb).2.2.1 z
 funs:=I.stack
 frf:=I.stkFree
def dO(k:Nat)(js:List Nat)(σ:St):St:=List.replicate k none++js.map λj=>(σ[j]?).getD none
theorem ig{h₁:Heap}{tk:Nat}{k:Nat}{js:List Nat}(I:Inv X pins σ H s)(L:LcOk X scope cl)(hf:∀b∈fp,fH X pins H b)(ho:∀b∈fp,b<s.heap.objs.size)(hns:∃m,h₁.Ns s.heap.objs.size m)(hk:∀b o,s.heap.get? b=some o→h₁.get? b=some o)(hN:N.length=k+js.length)(hj:∀(i j:Nat) x,js[i]?=some j→N[k+i]?=some x→X.N[j]?=some x∧Vis X.env.scope x∧X.env.scope.names.lookup x≠some .local∧((relabel scope X.env).names.lookup x=some .cell∨(relabel scope X.env).names.lookup x=some .free)):
  Inv (cQ X N scope cl s H fp) [] (dO k js σ) H {s with heap:=h₁,toks:=tk}:=by
 obtain⟨m,hm⟩:=hns;have cellK:∀c v,s.heap.IsCell c v→h₁.IsCell c v:=λc v ⟨o,e,d⟩=>⟨o,hk c o e,d⟩;refine⟨mH I L hf ho,rfl,I.bare,Un.kept hk,⟨m,hm,λi x v e1 e2 e3=>?_⟩,λx c e=>?_,I.hok.fresh (le_refl _),λx c e=>I.freeC x c (L.cells x c e),λp hp=>absurd (show p∈([]:List (Addr×Obj))from hp) (by simp),I.hok.kept hk,?_⟩
 ·unfold dO at e2
  by_cases hi:i<k
  ·rw[List.getElem?_append_left (by simpa using hi),List.getElem?_replicate]at e2
   split at e2<;>cases e2
  ·obtain⟨i',rfl⟩:∃i',i=k+i':=⟨i-k,by omega⟩;rw[List.getElem?_append_right (by simp),List.length_replicate,Nat.add_sub_cancel_left,getElem?_map]at e2;cases ej:js[i']? with
   |none=>rw[ej]at e2;cases e2
   |some j =>
    rw[ej]at e2;have e2':(σ[j]?).getD none=some v:=Option.some.inj e2;obtain⟨h1,h2,h3,h4⟩:=hj i' j x ej e1;have e4:σ[j]?=some (some v):=by
     cases q:σ[j]? with
     |none=>rw[q]at e2';cases e2'
     |some y=>rw[q]at e2';exact congrArg some e2'
    obtain⟨m0,_,hl⟩:=I.loc;obtain⟨u,r,lk⟩:=hl j x v h1 e4 h2;refine⟨u,r,.inr ⟨h4,?_⟩⟩;rcases lk with⟨q,_⟩|⟨_,c,e5,e6⟩
    ·exact absurd q h3
    ·obtain⟨c',e7⟩:=L.has x h4;have:c'=c:=Option.some.inj ((L.cells x c' e7).symm.trans e5);subst this;exact⟨c',e7,cellK c' _ e6⟩
 ·obtain⟨v,e1⟩:=I.cell x c (L.cells x c e);exact⟨v,cellK c v e1⟩
 ·unfold dO;rw[length_append,List.length_replicate,length_map];exact hN.symm
theorem lD{H':Hp}{σ':St}{s':Shared}{h':Heap}(I:Inv X pins σ H s)(hf:∀b∈fp,fH X pins H b)(J:Inv (cQ X N scope cl s H fp) [] σ' H' s')(hs:SameBut s.heap.objs.size s'.heap h'):Inv X pins σ H' {s' with heap:=h'}:=by
 have ne:∀b o,s.heap.get? b=some o→b≠s.heap.objs.size:=λb o e=>ne_of_lt (lt_size e);have u:=J.base;have u':Un (frs X.stack) fp H H' s.heap h' :=
  ⟨λb o e n hb hx=>(hs.2 b (ne b o e)).trans (u.keep b o e n hb hx),λb o e n hb hx=>by
   obtain⟨sl,q⟩:=u.slot b o e n hb hx;exact⟨sl,(hs.2 b (ne b o e)).trans q⟩,u.free,λb o e hx=>by
   obtain⟨o',q⟩:=u.there b o e hx;exact⟨o',(hs.2 b (ne b o e)).trans q⟩,u.tups,u.frzs,u.tbls⟩
 have nt:∀b o,H' b=some o→b≠s.heap.objs.size:=λb o e z=>by
  have:=J.free;rw[show(cQ X N scope cl s H fp).env.locals=s.heap.objs.size from rfl,←z,e]at this;cases this
 refine I.call' (s':={s' with heap:=h'}) J.os u' (λb o e=>?_) J.bare λb hb=>?_
 ·refine(J.hok b o e).stay (λc v hc q=>(hs.2 c ?_).trans q) (λ_ q=>q) λ_ _ q=>q;rcases hc with z|z
  ·rw[z];exact nt b o e
  ·exact nt c _ z
 ·obtain⟨f0,f1,f2,f3,f4,f5⟩:=hf b hb;exact⟨f3,f1,f4,f5⟩
end
section
variable{prog:Program}{w:World}{A:Around}{R:Result→Shared→Prop}{s:Shared}
theorem pJ{elt target iter:Expr}{scope:Scope}{pos:Pos}{it acc:Value}{env:Env}(I:Nat→Shared→Prop)(turn:∀n s,I n s→wpAny (model prog w) A (pyNext it) (λr s₁=>match r with
   |none=>R (.ok .next) s₁
   | some v=>wpAny (model prog w) A (letOwnedTupleGo target it v) (λ_ s₂=>wpAny (model prog w) A (assign target env v) (λ_ s₃=>wpAny (model prog w) A (eval elt env) (λx s₄ =>
     wpAny (model prog w) A (call (.builtin "list.append") [acc,x]) (λ_ s₅=>∃m,m<n∧I m s₅) (λ_ _=>False) s₄) (λ_ _=>False) s₃) (λ_ _=>False) s₂) (λ_ _=>False) s₁) (λ_ _=>False) s)(n:Nat)(h:I n s):codeAny (model prog w) A (.compLoop (.ListComp elt [⟨target,iter,[],0⟩] scope pos) 0 it acc env) R s:=by
 refine codeAny_loop rfl I (λn s hI=>?_) n h;show wpAny _ _ ((compTurn (.ListComp elt [⟨target,iter,[],0⟩] scope pos) 0 it acc env).onRaise (λx=>do noteFrame x env;theTreesLotGoes x)) _ _ s;refine wpAny_noted ?_;rw[compTurn_list1];refine wpAny_bind (wpAny_standAt (wpAny_bind (wpAny_mono (turn n s hI) (λr s₁ h₁=>?_) λ_ _ h'=>h'.elim)));cases r with
 |none=>exact wpAny_pure h₁
 |some v =>
  refine wpAny_bind (wpAny_mono h₁ (λ_ s₂ h₂=>?_) λ_ _ h'=>h'.elim);exact wpAny_bind (wpAny_mono h₂ (λ_ s₂ h₂=>wpAny_bind (wpAny_bind (wpAny_mono h₂ (λx s₃ h₃=>wpAny_bind (wpAny_mono h₃
   (λ_ s₄ h₄=>wpAny_pure (wpAny_pure ⟨rfl,h₄⟩)) λ_ _ h'=>h'.elim)) λ_ _ h'=>h'.elim))) λ_ _ h'=>h'.elim)
theorem ju(elt target iter c:Expr)(scope:Scope)(pos:Pos)(it acc:Value)(env:Env):
  compTurn (.ListComp elt [⟨target,iter,[c],0⟩] scope pos) 0 it acc env=(standAt iter.pos >>= λ_=>pyNext it >>= λr=>match r with
   |none=>pure (.done .next)
   |some v=>letOwnedTupleGo target it v >>= λ_=>assign target env v >>= λ_ =>
    (forIn [c] true λc r=>if r=true then do let ok ← isTrue c env (eval c env);pure (ForInStep.yield ok)else pure (ForInStep.yield r)) >>= λok =>
    if ok=true then (eval elt env >>= λx=>call (.builtin "list.append") [acc,x] >>= λ_=>pure ()) >>= λ_ =>
     again (.compLoop (.ListComp elt [⟨target,iter,[c],0⟩] scope pos) 0 it acc env)
    else again (.compLoop (.ListComp elt [⟨target,iter,[c],0⟩] scope pos) 0 it acc env)):=by rfl
theorem mJ{elt target iter c:Expr}{scope:Scope}{pos:Pos}{it acc:Value}{env:Env}(I:Nat→Shared→Prop)(turn:∀n s,I n s→wpAny (model prog w) A (pyNext it) (λr s₁=>match r with
   |none=>R (.ok .next) s₁
   | some v=>wpAny (model prog w) A (letOwnedTupleGo target it v) (λ_ s₂=>wpAny (model prog w) A (assign target env v) (λ_ s₃=>wpAny (model prog w) A (isTrue c env (eval c env)) (λok s₃ =>
     if ok=true then wpAny (model prog w) A (eval elt env) (λx s₄ =>
      wpAny (model prog w) A (call (.builtin "list.append") [acc,x]) (λ_ s₅=>∃m,m<n∧I m s₅) (λ_ _=>False) s₄) (λ_ _=>False) s₃
     else ∃m,m<n∧I m s₃) (λ_ _=>False) s₃) (λ_ _=>False) s₂) (λ_ _=>False) s₁) (λ_ _=>False) s)(n:Nat)(h:I n s):codeAny (model prog w) A (.compLoop (.ListComp elt [⟨target,iter,[c],0⟩] scope pos) 0 it acc env) R s:=by
 refine codeAny_loop rfl I (λn s hI=>?_) n h;show wpAny _ _ ((compTurn (.ListComp elt [⟨target,iter,[c],0⟩] scope pos) 0 it acc env).onRaise (λx=>do noteFrame x env;theTreesLotGoes x)) _ _ s;refine wpAny_noted ?_;rw[ju];refine wpAny_bind (wpAny_standAt (wpAny_bind (wpAny_mono (turn n s hI) (λr s₁ h₁=>?_) λ_ _ h'=>h'.elim)));cases r with
 |none=>exact wpAny_pure h₁
 |some v =>
  refine wpAny_bind (wpAny_mono h₁ (λ_ s₂ h₂=>?_) λ_ _ h'=>h'.elim);refine wpAny_bind (wpAny_mono h₂ (λ_ s₃ h₃=>?_) λ_ _ h'=>h'.elim);rw[List.forIn_cons];simp only[if_true];refine wpAny_bind (wpAny_bind (wpAny_bind (wpAny_mono h₃ (λok s₄ h₄=>wpAny_pure ?_) λ_ _ h'=>h'.elim)));simp only[List.forIn_nil];refine wpAny_pure ?_;cases ok with
  |true =>
   rw[if_pos rfl]at h₄⊢;exact wpAny_bind (wpAny_bind (wpAny_mono h₄ (λx s₃ h₃=>wpAny_bind (wpAny_mono h₃ (λ_ s₄ h₄=>wpAny_pure (wpAny_pure ⟨rfl,h₄⟩)) λ_ _ h'=>h'.elim)) λ_ _ h'=>h'.elim))
  |false =>
   rw[if_neg (by simp)]at h₄⊢;exact wpAny_pure ⟨rfl,h₄⟩
end
def LcW(k:Nat)(js:List Nat)(g:TG)(te:TE)(σ:St)(Q:VK)(J:It)(H1:Hp)(p:Addr):Prop:=∃W:Nat→Nat→List V→St→Hp→Prop,
 (∃m,W 0 m [] (dO k js σ) (upd H1 p (.lst [])))∧∀i m ys σ' H',W i m ys σ' H'→(J.stop i H'∧Q (.ref p) H') ∨
  (J.go i H'∧ys.length<sizeLine∧∀x H2,J.yld i H' x H2→g x σ' H2 λσ2 H3=>te σ2 H3 λy H4=>H4 p=some (.lst ys)∧∃m',m'<m∧W (i+1) m' (ys++[y]) σ2 (upd H4 p (.lst (ys++[y]))))
def tLc(k:Nat)(js:List Nat)(wi:TI)(g:TG)(te:TE):TE:=λσ H Q=>wi σ H λJ H1=>∀p,H1 p=none→LcW k js g te σ Q J H1 p
def yC(k:Nat)(js:List Nat)(g:TG)(tc:TT)(te:TE)(σ:St)(Q:VK)(J:It)(H1:Hp)(p:Addr):Prop:=∃W:Nat→Nat→List V→St→Hp→Prop,
 (∃m,W 0 m [] (dO k js σ) (upd H1 p (.lst [])))∧∀i m ys σ' H',W i m ys σ' H'→(J.stop i H'∧Q (.ref p) H') ∨
  (J.go i H'∧ys.length<sizeLine∧∀x H2,J.yld i H' x H2→g x σ' H2 λσ2 H3=>tc σ2 H3 λb H4=>if b=true then te σ2 H4 λy H5=>H5 p=some (.lst ys)∧∃m',m'<m∧W (i+1) m' (ys++[y]) σ2 (upd H5 p (.lst (ys++[y])))
   else ∃m',m'<m∧W (i+1) m' ys σ2 H4)
def yD(k:Nat)(js:List Nat)(wi:TI)(g:TG)(tc:TT)(te:TE):TE:=λσ H Q=>wi σ H λJ H1=>∀p,H1 p=none→yC k js g tc te σ Q J H1 p
section
variable{X:Cx}{N:List Str}{scope:Scope}{cl:List (Str×Addr)}{k:Nat}{js:List Nat}
theorem ik{elt tg iter:Expr}{pos:Pos}{wi:TI}{g:TG}{te:TE}(hc:X.calm=true)(L:LcOk X scope cl)(hN:N.length=k+js.length)(hj:∀(i j:Nat) x,js[i]?=some j→N[k+i]?=some x→X.N[j]?=some x∧Vis X.env.scope x∧X.env.scope.names.lookup x≠some .local∧((relabel scope X.env).names.lookup x=some .cell∨(relabel scope X.env).names.lookup x=some .free))(hi:PI X tg iter wi)(hg:∀s H fp,PG (cQ X N scope cl s H fp) tg g)(he:∀s H fp,PE (cQ X N scope cl s H fp) elt te)(hs:∀x,foldedSetIterable iter X.env x=pure x:=by intro _;rfl):PE X (.ListComp elt [⟨tg,iter,[],0⟩] scope pos) (tLc k js wi g te):=by
 intro pins s σ H Q I h;rw[eval_ListComp];refine wpAny_comprehension_free (use:=none) rfl hs L.clos L.kind L.names ?_;refine thn (hi pins s σ H _ I h) λv s1 h1=>thn h1 λitv s2 h2=>?_;obtain⟨it,fp,tn,J,H2,e,I2,T,st2,f2,hW⟩:=h2;subst e;have hfp:∀b∈fp,b<s2.heap.objs.size:=λb hb=>by
  obtain⟨o,e,_⟩:=T.obj _ _ st2 b hb;exact lt_size e
 refine wpAny_newObj_type (wpAny_newFunctionEnv L.nocell (by intro y hy;simp at hy) (λh₁ hns hsb=>?_) L.kind);dsimp only at hns hsb⊢;obtain⟨W,⟨m0,w0⟩,turn⟩:=hW s2.heap.objs.size (I2.hok.fresh (le_refl _));have I3:Inv X pins σ (upd H2 s2.heap.objs.size (.lst [])) {s2 with heap:=s2.heap.push {cls:=.type "list",dict:=none,data:=.seq ([]:List Value).toArray}}:=I2.lnew (t':=s2.toks) .nil (zero_le _)
 generalize hA:s2.heap.push {cls:=.type "list",dict:=none,data:=.seq ([]:List Value).toArray}=hpA at hns hsb I3⊢;have hszA:hpA.objs.size=s2.heap.objs.size+1:=by rw[←hA,size_push]
 have keepA:∀b o,s2.heap.get? b=some o→hpA.get? b=some o:=λb o e=>by rw[←hA];exact get?_push_of_some _ e
 have f3:∀b∈fp,fH X pins (upd H2 s2.heap.objs.size (.lst [])) b:=λb hb=>⟨by rw[ao (ne_of_lt (hfp b hb))];exact(f2 b hb).1,(f2 b hb).2⟩;have hfp3:∀b∈fp,b<hpA.objs.size:=λb hb=>by rw[hszA];exact lt_succ_of_lt (hfp b hb)
 have keep1:∀b o,hpA.get? b=some o→h₁.get? b=some o:=λb o e=>hsb.extBut b o (ne_of_lt (lt_size e)) (get?_push_of_some _ e);have J0:=ig (N:=N) (k:=k) (js:=js) (tk:=s2.toks+([]:List (Str×Value)).length) I3 L f3 hfp3 ⟨_,hns⟩ keep1 hN hj;have st1:tn 0 h₁:=T.keep _ _ _ st2 λb hb o e=>keep1 b o (keepA b o e);have stat:∀{H':Hp},(∀b∈fp,H' b=none)→∀b∈fp,fH (cQ X N scope cl {s2 with heap:=hpA} (upd H2 s2.heap.objs.size (.lst [])) fp) [] H' b:=λhn b hb =>
  ⟨hn b hb,ne_of_lt (hfp3 b hb),(mH (N:=N) I3 L f3 hfp3).exfs b hb,.inl hb,λx c h=>(f3 b hb).2.2.2.2.1 x c (L.cells x c h),λp hp=>absurd (show p∈([]:List (Addr×Obj))from hp) (by simp)⟩
 have loop:codeAny (model X.prog X.w) X.A (.compLoop (.ListComp elt [⟨tg,iter,[],0⟩] scope pos) 0 (.ref it) (.ref s2.heap.objs.size) (compEnvC scope cl hpA.objs.size X.env))
   (compPost (model X.prog X.w) X.A X.xe none (EP X pins σ Q) (.ref s2.heap.objs.size) hpA.objs.size) {s2 with heap:=h₁,toks:=s2.toks+([]:List (Str×Value)).length}:=by
  refine pJ (λn s'=>∃i ys σ' H',Inv (cQ X N scope cl {s2 with heap:=hpA} (upd H2 s2.heap.objs.size (.lst [])) fp) [] σ' H' s'∧tn i s'.heap∧(∀b∈fp,H' b=none)∧W i n ys σ' H') ?_ m0 ⟨0,[],_,_,J0,st1,λb hb=>(f3 b hb).1,w0⟩
  rintro n s3 ⟨i,ys,σ3,H3,J3,st3,fr3,w3⟩;rcases turn i n ys σ3 H3 w3 with⟨stop,qn⟩|⟨go,hlen,step⟩
  ·refine thn (T.done (cQ X N scope cl {s2 with heap:=hpA} (upd H2 s2.heap.objs.size (.lst [])) fp) rfl rfl rfl hc i [] s3 σ3 H3 (λ_ _=>False) J3 (stat fr3) st3 stop) λr s4 hpt=>?_
   obtain⟨hr,J4⟩:=hpt;subst hr;obtain⟨m,hm,_⟩:=J4.loc;exact⟨m,hm,λh' hs'=>⟨.ref s2.heap.objs.size,H3,lD I3 f3 J4 hs',rfl,qn⟩⟩
  ·refine thn (T.item (cQ X N scope cl {s2 with heap:=hpA} (upd H2 s2.heap.objs.size (.lst [])) fp) rfl rfl rfl hc i [] s3 σ3 H3 (λ_ _=>False) J3 (stat fr3) st3 go) λr s4 hpt=>?_
   obtain⟨u,hr,h4⟩:=hpt;subst hr;refine thn h4 λ_ s5 hpt=>?_;obtain⟨x,H5,J5,r5,y5,st5,fr5⟩:=hpt;have J5':=J5.pinned (stat fr5) (T.obj _ _ st5);refine thn (hg _ _ _ _ s5 σ3 H5 x u _ J5' r5 (step x H5 y5)) λ_ s6 hpt=>?_;obtain⟨σ6,H6,J6,q6⟩:=hpt;refine thn (he _ _ _ _ s6 σ6 H6 _ J6 q6) λy s7 hpt=>?_;obtain⟨vy,H7,J7,r7,q7,m',hm',w7⟩:=hpt;refine thn (bA _ s7 σ6 H7 (.ref s2.heap.objs.size) [vy] _ _ (λ_ H8=>H8=upd H7 s2.heap.objs.size (.lst (ys++[vy]))) J7 rfl (.cons r7 .nil) ⟨_,ys,vy,rfl,rfl,q7,hlen,rfl⟩) λ_ s8 hpt=>?_;obtain⟨_,H8,J8,_,e8⟩:=hpt;subst e8;refine⟨m',hm',i+1,ys++[vy],σ6,_,J8.unpinned,T.keep _ _ _ st5 λb hb o e=>(J8.pin (b,o) (mem_append_right _ (mem_append_right _ (bo hb e)))).1,λb hb=>?_,w7⟩;obtain⟨o,e,d⟩:=T.obj _ _ st5 b hb;exact(J8.pin (b,o) (mem_append_right _ (mem_append_right _ (bo hb e)))).2.1
 exact codeAny_compStart_list loop (T.self _ 0 _ _ _ st1 loop)
theorem cY{elt tg iter c:Expr}{pos:Pos}{wi:TI}{g:TG}{tc:TT}{te:TE}(hc:X.calm=true)(L:LcOk X scope cl)(hN:N.length=k+js.length)(hj:∀(i j:Nat) x,js[i]?=some j→N[k+i]?=some x→X.N[j]?=some x∧Vis X.env.scope x∧X.env.scope.names.lookup x≠some .local∧((relabel scope X.env).names.lookup x=some .cell∨(relabel scope X.env).names.lookup x=some .free))(hi:PI X tg iter wi)(hg:∀s H fp,PG (cQ X N scope cl s H fp) tg g)(ht:∀s H fp,PT (cQ X N scope cl s H fp) c tc)(he:∀s H fp,PE (cQ X N scope cl s H fp) elt te)(hs:∀x,foldedSetIterable iter X.env x=pure x:=by intro _;rfl):PE X (.ListComp elt [⟨tg,iter,[c],0⟩] scope pos) (yD k js wi g tc te):=by
 intro pins s σ H Q I h;rw[eval_ListComp];refine wpAny_comprehension_free (use:=none) rfl hs L.clos L.kind L.names ?_;refine thn (hi pins s σ H _ I h) λv s1 h1=>thn h1 λitv s2 h2=>?_;obtain⟨it,fp,tn,J,H2,e,I2,T,st2,f2,hW⟩:=h2;subst e;have hfp:∀b∈fp,b<s2.heap.objs.size:=λb hb=>by
  obtain⟨o,e,_⟩:=T.obj _ _ st2 b hb;exact lt_size e
 refine wpAny_newObj_type (wpAny_newFunctionEnv L.nocell (by intro y hy;simp at hy) (λh₁ hns hsb=>?_) L.kind);dsimp only at hns hsb⊢;obtain⟨W,⟨m0,w0⟩,turn⟩:=hW s2.heap.objs.size (I2.hok.fresh (le_refl _));have I3:Inv X pins σ (upd H2 s2.heap.objs.size (.lst [])) {s2 with heap:=s2.heap.push {cls:=.type "list",dict:=none,data:=.seq ([]:List Value).toArray}}:=I2.lnew (t':=s2.toks) .nil (zero_le _)
 generalize hA:s2.heap.push {cls:=.type "list",dict:=none,data:=.seq ([]:List Value).toArray}=hpA at hns hsb I3⊢;have hszA:hpA.objs.size=s2.heap.objs.size+1:=by rw[←hA,size_push]
 have keepA:∀b o,s2.heap.get? b=some o→hpA.get? b=some o:=λb o e=>by rw[←hA];exact get?_push_of_some _ e
 have f3:∀b∈fp,fH X pins (upd H2 s2.heap.objs.size (.lst [])) b:=λb hb=>⟨by rw[ao (ne_of_lt (hfp b hb))];exact(f2 b hb).1,(f2 b hb).2⟩;have hfp3:∀b∈fp,b<hpA.objs.size:=λb hb=>by rw[hszA];exact lt_succ_of_lt (hfp b hb)
 have keep1:∀b o,hpA.get? b=some o→h₁.get? b=some o:=λb o e=>hsb.extBut b o (ne_of_lt (lt_size e)) (get?_push_of_some _ e);have J0:=ig (N:=N) (k:=k) (js:=js) (tk:=s2.toks+([]:List (Str×Value)).length) I3 L f3 hfp3 ⟨_,hns⟩ keep1 hN hj;have st1:tn 0 h₁:=T.keep _ _ _ st2 λb hb o e=>keep1 b o (keepA b o e);have stat:∀{H':Hp},(∀b∈fp,H' b=none)→∀b∈fp,fH (cQ X N scope cl {s2 with heap:=hpA} (upd H2 s2.heap.objs.size (.lst [])) fp) [] H' b:=λhn b hb =>
  ⟨hn b hb,ne_of_lt (hfp3 b hb),(mH (N:=N) I3 L f3 hfp3).exfs b hb,.inl hb,λx c h=>(f3 b hb).2.2.2.2.1 x c (L.cells x c h),λp hp=>absurd (show p∈([]:List (Addr×Obj))from hp) (by simp)⟩
 have loop:codeAny (model X.prog X.w) X.A (.compLoop (.ListComp elt [⟨tg,iter,[c],0⟩] scope pos) 0 (.ref it) (.ref s2.heap.objs.size) (compEnvC scope cl hpA.objs.size X.env))
   (compPost (model X.prog X.w) X.A X.xe none (EP X pins σ Q) (.ref s2.heap.objs.size) hpA.objs.size) {s2 with heap:=h₁,toks:=s2.toks+([]:List (Str×Value)).length}:=by
  refine mJ (λn s'=>∃i ys σ' H',Inv (cQ X N scope cl {s2 with heap:=hpA} (upd H2 s2.heap.objs.size (.lst [])) fp) [] σ' H' s'∧tn i s'.heap∧(∀b∈fp,H' b=none)∧W i n ys σ' H') ?_ m0 ⟨0,[],_,_,J0,st1,λb hb=>(f3 b hb).1,w0⟩
  rintro n s3 ⟨i,ys,σ3,H3,J3,st3,fr3,w3⟩;rcases turn i n ys σ3 H3 w3 with⟨stop,qn⟩|⟨go,hlen,step⟩
  ·refine thn (T.done (cQ X N scope cl {s2 with heap:=hpA} (upd H2 s2.heap.objs.size (.lst [])) fp) rfl rfl rfl hc i [] s3 σ3 H3 (λ_ _=>False) J3 (stat fr3) st3 stop) λr s4 hpt=>?_
   obtain⟨hr,J4⟩:=hpt;subst hr;obtain⟨m,hm,_⟩:=J4.loc;exact⟨m,hm,λh' hs'=>⟨.ref s2.heap.objs.size,H3,lD I3 f3 J4 hs',rfl,qn⟩⟩
  ·refine thn (T.item (cQ X N scope cl {s2 with heap:=hpA} (upd H2 s2.heap.objs.size (.lst [])) fp) rfl rfl rfl hc i [] s3 σ3 H3 (λ_ _=>False) J3 (stat fr3) st3 go) λr s4 hpt=>?_
   obtain⟨u,hr,h4⟩:=hpt;subst hr;refine thn h4 λ_ s5 hpt=>?_;obtain⟨x,H5,J5,r5,y5,st5,fr5⟩:=hpt;have J5':=J5.pinned (stat fr5) (T.obj _ _ st5);refine thn (hg _ _ _ _ s5 σ3 H5 x u _ J5' r5 (step x H5 y5)) λ_ s6 hpt=>?_;obtain⟨σ6,H6,J6,q6⟩:=hpt;refine thn (ht _ _ _ _ s6 σ6 H6 _ J6 q6) λb s6 hpt=>?_;obtain⟨H6,J6,q6⟩:=hpt;cases b with
   |true =>
    rw[if_pos rfl]at q6⊢;refine thn (he _ _ _ _ s6 σ6 H6 _ J6 q6) λy s7 hpt=>?_;obtain⟨vy,H7,J7,r7,q7,m',hm',w7⟩:=hpt;refine thn (bA _ s7 σ6 H7 (.ref s2.heap.objs.size) [vy] _ _ (λ_ H8=>H8=upd H7 s2.heap.objs.size (.lst (ys++[vy]))) J7 rfl (.cons r7 .nil) ⟨_,ys,vy,rfl,rfl,q7,hlen,rfl⟩) λ_ s8 hpt=>?_;obtain⟨_,H8,J8,_,e8⟩:=hpt;subst e8;refine⟨m',hm',i+1,ys++[vy],σ6,_,J8.unpinned,T.keep _ _ _ st5 λb hb o e=>(J8.pin (b,o) (mem_append_right _ (mem_append_right _ (bo hb e)))).1,λb hb=>?_,w7⟩;obtain⟨o,e,d⟩:=T.obj _ _ st5 b hb;exact(J8.pin (b,o) (mem_append_right _ (mem_append_right _ (bo hb e)))).2.1
   |false =>
    rw[if_neg (by simp)]at q6⊢;obtain⟨m',hm',w7⟩:=q6;refine⟨m',hm',i+1,ys,σ6,_,J6.unpinned,T.keep _ _ _ st5 λb hb o e=>(J6.pin (b,o) (mem_append_right _ (mem_append_right _ (bo hb e)))).1,λb hb=>?_,w7⟩;obtain⟨o,e,d⟩:=T.obj _ _ st5 b hb;exact(J6.pin (b,o) (mem_append_right _ (mem_append_right _ (bo hb e)))).2.1
 exact codeAny_compStart_list loop (T.self _ 0 _ _ _ st1 loop)
end
end L2
namespace TB
open PySem SetTable
section
variable{prog:Program}{w:World}{K:Type}[DecidableEq K]{knd:KeyKind prog w K}{A:Around}{E:Value→Shared→Prop}{s:Shared}
end
section
variable{prog:Program}{w:World}{K:Type}[DecidableEq K](knd:KeyKind prog w K)
variable{knd}
variable{A:Around}{E:Value→Shared→Prop}{s:Shared}
end
section
variable{prog:Program}{w:World}{K:Type}[DecidableEq K]{knd:KeyKind prog w K}{A:Around}{E:Value→Shared→Prop}{s:Shared}
end
section
variable{prog:Program}{w:World}{K:Type}[DecidableEq K]{knd:KeyKind prog w K}{A:Around}{R:Result→Shared→Prop}{I:Addr}{fp wr:List Addr}{G:Array GenState→Array GenState→Prop}{n:Nat}{P:Nat→Value→Prop}{St:Nat→Shared→Prop}
end
section
variable{prog:Program}{w:World}{K:Type}[DecidableEq K]{knd:KeyKind prog w K}{A:Around}{E:Value→Shared→Prop}{s:Shared}
end
end TB
namespace SRT
open PySem PySem.W PyProof.Rows
def run{α:Type}(f:Nat→Nat→Bool):KasT α→α
 |.ret a=>a
 |.ask i j k=>run f (k (f i j))
theorem eU{α β:Type}(f:Nat→Nat→Bool)(g:α→KasT β):∀t:KasT α,run f (t.bind g)=run f (g (run f t))
 |.ret a=>rfl
 |.ask i j k=>eU f g (k (f i j))
def il{α:Type}(f:Nat→Nat→Bool)(n:Nat):KasT α→Prop
 |.ret _=>True
 |.ask i j k=>i<n∧j<n∧il f n (k (f i j))
theorem dP{α β:Type}{f:Nat→Nat→Bool}{n:Nat}{g:α→KasT β}:∀{t:KasT α},il f n t→il f n (g (run f t))→il f n (t.bind g)
 |.ret a,_,h=>h
 |.ask i j k,h,h'=>⟨h.1,h.2.1,dP (t:=k (f i j)) h.2.2 h'⟩
theorem pK{α:Type}{f:Nat→Nat→Bool}{n:Nat}{cmp:Nat→Nat→(Bool→Shared→Prop)→Shared→Prop}{s:Shared}(hc:∀i j C,i<n→j<n→C (f i j) s→cmp i j C s)(Q:α→Shared→Prop):∀t:KasT α,il f n t→Q (run f t) s→t.kasWp cmp Q s
 |.ret a,_,h=>h
 |.ask i j k,p,h=>hc i j _ p.1 p.2.1 (pK hc Q (k (f i j)) p.2.2 h)
structure Ord(f:Nat→Nat→Bool)(n:Nat):Prop where
 irr:∀i,i<n→f i i=false
 tr:∀i j k,i<n→j<n→k<n→f i j=true→f j k=true→f i k=true
 tot:∀i j,i<n→j<n→i≠j→f i j=true∨f j i=true
section
variable{f:Nat→Nat→Bool}{n:Nat}
structure Row(n:Nat)(p:Array Nat):Prop where
 perm:p.toList.Perm (List.range n)
theorem Row.size{p:Array Nat}(r:Row n p):p.size=n:=by have:=r.perm.length_eq;simpa using this
theorem Row.lt{p:Array Nat}(r:Row n p){i:Nat}(hi:i<n):p.getD i 0<n:=by
 have hs:=r.size;have:p.getD i 0∈p.toList:=by
  rw[getD_eq_getD_getElem?,Array.getElem?_eq_getElem (by omega)];exact Array.getElem_mem_toList (by omega)
 exact mem_range.mp (r.perm.mem_iff.mp this)
theorem Row.ne{p:Array Nat}(r:Row n p){i j:Nat}(hi:i<n)(hj:j<n)(hij:i≠j):p.getD i 0≠p.getD j 0:=by
 have hs:=r.size;have nd:p.toList.Nodup:=r.perm.nodup_iff.mpr List.nodup_range;rw[getD_eq_getD_getElem?,getD_eq_getD_getElem?,Array.getElem?_eq_getElem (by omega),Array.getElem?_eq_getElem (by omega)];intro e;have e':p.toList[i]'(by simpa using (by omega:i<p.size))=p.toList[j]'(by simpa using (by omega:j<p.size)):=by simpa using e
 exact hij ((getElem_inj nd).mp e')
theorem Row.rev{p:Array Nat}(r:Row n p)(i j:Nat):Row n (kas_rev p i j):=⟨(Array.perm_iff_toList_perm.mp (mirror_perm p i j _)).trans r.perm⟩
theorem Row.bub{p:Array Nat}(r:Row n p)(i j:Nat):Row n (bubble p i j):=⟨(Array.perm_iff_toList_perm.mp (bubble_perm p i j)).trans r.perm⟩
def Up(f:Nat→Nat→Bool)(p:Array Nat)(m:Nat):Prop:=∀i j,i<j→j<m→f (p.getD i 0) (p.getD j 0)=true
theorem uE(O:Ord f n){p:Array Nat}(r:Row n p){m:Nat}(hm:m<n)(h1:1≤m)(u:Up f p m)(h:f (p.getD m 0) (p.getD (m-1) 0)=false):Up f p (m+1):=by
 have hl:f (p.getD (m-1) 0) (p.getD m 0)=true:=by
  rcases O.tot _ _ (r.lt (i:=m) hm) (r.lt (i:=m-1) (by omega)) (r.ne hm (by omega) (by omega))with z|z
  ·rw[h]at z;cases z
  ·exact z
 intro i j hij hj
 by_cases e:j=m
 ·subst e
  by_cases e2:i=j-1
  ·rw[e2];exact hl
  ·exact O.tr _ _ _ (r.lt (by omega)) (r.lt (by omega)) (r.lt hm) (u i (j-1) (by omega) (by omega)) hl
 ·exact u i j hij (by omega)
theorem lE(O:Ord f n){p:Array Nat}(r:Row n p):∀(fuel m:Nat),1≤m→m+fuel≤n→Up f p m →
  m≤run f (kas_asc p fuel m)∧run f (kas_asc p fuel m)≤m+fuel∧Up f p (run f (kas_asc p fuel m))∧(run f (kas_asc p fuel m)<m+fuel→f (p.getD (run f (kas_asc p fuel m)) 0) (p.getD (run f (kas_asc p fuel m)-1) 0)=true)
 |0,m,_,_,u=>⟨le_refl _,le_refl _,u,λh=>absurd h (by simp[kas_asc,run])⟩
 |fuel+1,m,h1,hm,u=>by
  cases e:f (p.getD m 0) (p.getD (m-1) 0)with
  |true =>
   have er:run f (kas_asc p (fuel+1) m)=m:=by
    show run f (if f (p.getD m 0) (p.getD (m-1) 0)=true then KasT.ret m else kas_asc p fuel (m+1))=m
    rw[e,if_pos rfl];rfl
   rw[er];exact⟨le_refl _,by omega,u,λ_=>e⟩
  |false =>
   have er:run f (kas_asc p (fuel+1) m)=run f (kas_asc p fuel (m+1)):=by
    show run f (if f (p.getD m 0) (p.getD (m-1) 0)=true then KasT.ret m else kas_asc p fuel (m+1))=_
    rw[e,if_neg (by simp)]
   rw[er];obtain⟨a1,a2,a3,a4⟩:=lE O r fuel (m+1) (by omega) (by omega) (uE O r (by omega) h1 u e);exact⟨by omega,by omega,a3,λh=>a4 (by omega)⟩
def wS(f:Nat→Nat→Bool)(p:Array Nat)(m:Nat):Prop:=∀i j,i<j→j<m→f (p.getD j 0) (p.getD i 0)=true
theorem lF(O:Ord f n){p:Array Nat}(r:Row n p):∀(fuel m:Nat),1≤m→m+fuel≤n→wS f p m →
  ∃m',run f (kas_desc fuel p m 0)=(p,m',0)∧m≤m'∧m'≤m+fuel∧wS f p m'
 |0,m,_,_,u=>⟨m,rfl,le_refl _,le_refl _,u⟩
 |fuel+1,m,h1,hm,u=>by
  cases e:f (p.getD m 0) (p.getD (m-1) 0)with
  |true =>
   have er:run f (kas_desc (fuel+1) p m 0)=run f (kas_desc fuel p (m+1) 0):=by
    show run f (if f (p.getD m 0) (p.getD (m-1) 0)=true then (if 0>0 then _ else kas_desc fuel p (m+1) 0)else _)=_
    rw[e,if_pos rfl,if_neg (by omega)]
   rw[er];obtain⟨m',a1,a2,a3,a4⟩:=lF O r fuel (m+1) (by omega) (by omega) (by
    intro i j hij hj
    by_cases ej:j=m
    ·subst ej
     by_cases e2:i=j-1
     ·rw[e2];exact e
     ·exact O.tr _ _ _ (r.lt (by omega)) (r.lt (i:=j-1) (by omega)) (r.lt (by omega)) e (u i (j-1) (by omega) (by omega))
    ·exact u i j hij (by omega))
   exact⟨m',a1,by omega,by omega,a4⟩
  |false =>
   have e2:f (p.getD (m-1) 0) (p.getD m 0)=true:=by
    rcases O.tot _ _ (r.lt (i:=m) (by omega)) (r.lt (i:=m-1) (by omega)) (r.ne (by omega) (by omega) (by omega))with z|z
    ·rw[e]at z;cases z
    ·exact z
   have er:run f (kas_desc (fuel+1) p m 0)=(p,m,0):=by
    show run f (if f (p.getD m 0) (p.getD (m-1) 0)=true then _ else KasT.ask (p.getD (m-1) 0) (p.getD m 0) λd=>if d=true then .ret (p,m,0)else kas_desc fuel p (m+1) (0+1))=_
    rw[e,if_neg (by simp)];show run f (if f (p.getD (m-1) 0) (p.getD m 0)=true then KasT.ret (p,m,0)else kas_desc fuel p (m+1) (0+1))=_
    rw[e2,if_pos rfl];rfl
   exact⟨m,er,le_refl _,by omega,u⟩
theorem pL{p:Array Nat}{m:Nat}(hm:m≤p.size)(k:Nat)(hk:k<m):(kas_rev p 0 m).getD k 0=p.getD (m-1-k) 0:=by
 unfold kas_rev;rw[getD_eq_getD_getElem?,getElem?_mirror_all hm k,if_pos ⟨by omega,hk⟩,getD_eq_getD_getElem?]
 congr 2
 omega
theorem wT{p:Array Nat}{m:Nat}(hm:m≤p.size)(d:wS f p m):Up f (kas_rev p 0 m) m:=by
 intro i j hij hj;rw[pL hm i (by omega),pL hm j hj];exact d _ _ (by omega) (by omega)
theorem mQ(O:Ord f n){p:Array Nat}(r:Row n p)(h2:1≤n):∃m p',run f (kas_count n p)=(m,p')∧1≤m∧m≤n∧Row n p'∧Up f p' m:=by
 obtain⟨a1,a2,a3,a4⟩:=lE O r (n-1) 1 (by omega) (by omega) (by intro i j hij hj;omega);have er:run f (kas_count n p)=run f (if (run f (kas_asc p (n-1) 1)==n)=true then KasT.ret (run f (kas_asc p (n-1) 1),p)else if run f (kas_asc p (n-1) 1)>1 then .ask (p.getD 0 0) (p.getD (run f (kas_asc p (n-1) 1)-1) 0) λc=>if c=true then .ret (run f (kas_asc p (n-1) 1),p)else kas_descPart (run f (kas_asc p (n-1) 1)) n (kas_rev p 0 (run f (kas_asc p (n-1) 1)))
  else kas_descPart (run f (kas_asc p (n-1) 1)) n p):=by
  unfold kas_count;rw[eU]
 rw[er];generalize run f (kas_asc p (n-1) 1)=m at a1 a2 a3 a4⊢
 by_cases e:m=n
 ·rw[if_pos (by simp[e])];exact⟨m,p,rfl,a1,by omega,r,a3⟩
 ·rw[if_neg (by simpa using e)]
  by_cases e1:m>1
  ·rw[if_pos e1];refine⟨m,p,?_,a1,by omega,r,a3⟩;show run f (if f (p.getD 0 0) (p.getD (m-1) 0)=true then KasT.ret (m,p)else _)=_
   rw[a3 0 (m-1) (by omega) (by omega),if_pos rfl];rfl
  ·rw[if_neg e1];have em:m=1:=by omega
   subst em;have hd:=a4 (by omega);unfold kas_descPart;obtain⟨m',b1,b2,b3,b4⟩:=lF O r (n-(1+1)) (1+1) (by omega) (by omega) (by
    intro i j hij hj;have:i=0∧j=1:=by omega
    rw[this.1,this.2];exact hd)
   rw[eU,b1];dsimp only;rw[if_neg (by omega)];unfold kas_tail3;have hs:=r.size;have ur:=wT (f:=f) (by omega:m'≤p.size) b4;obtain⟨c1,c2,c3,c4⟩:=lE O (r.rev 0 m') (n-m') m' (by omega) (by omega) ur;rw[eU];exact⟨_,_,rfl,by omega,by omega,r.rev 0 m',c3⟩
theorem im(O:Ord f n){p:Array Nat}(r:Row n p){k:Nat}(hk:k<n)(u:Up f p k):∀(fuel l r':Nat),r'-l≤fuel→l≤r'→r'≤k →
  (∀i,i<l→f (p.getD i 0) (p.getD k 0)=true)→(∀i,r'≤i→i<k→f (p.getD k 0) (p.getD i 0)=true) →
  run f (kas_place p k fuel l r')≤k∧(∀i,i<run f (kas_place p k fuel l r')→f (p.getD i 0) (p.getD k 0)=true)∧(∀i,run f (kas_place p k fuel l r')≤i→i<k→f (p.getD k 0) (p.getD i 0)=true)
 |0,l,r',h1,h2,h3,h4,h5=>by
  have:l=r':=by omega
  subst this;exact⟨h3,h4,h5⟩
 |fuel+1,l,r',h1,h2,h3,h4,h5=>by
  unfold kas_place
  by_cases e:l≥r'
  ·rw[if_pos e];have:l=r':=by omega
   subst this;exact⟨h3,h4,h5⟩
  ·rw[if_neg e];have hmid:(l+r') / 2<k:=by omega
   cases c:f (p.getD k 0) (p.getD ((l+r') / 2) 0)with
   |true =>
    have er:run f (KasT.ask (p.getD k 0) (p.getD ((l+r') / 2) 0) λc=>if c=true then kas_place p k fuel l ((l+r') / 2)else kas_place p k fuel ((l+r') / 2+1) r')=run f (kas_place p k fuel l ((l+r') / 2)):=by
     show run f (if f (p.getD k 0) (p.getD ((l+r') / 2) 0)=true then _ else _)=_
     rw[c,if_pos rfl]
    rw[er];refine im O r hk u fuel l _ (by omega) (by omega) (by omega) h4 (λi hi hik=>?_)
    by_cases ei:i=(l+r') / 2
    ·rw[ei];exact c
    ·exact O.tr _ _ _ (r.lt hk) (r.lt (i:=(l+r') / 2) (by omega)) (r.lt (by omega)) c (u _ _ (by omega) hik)
   |false =>
    have er:run f (KasT.ask (p.getD k 0) (p.getD ((l+r') / 2) 0) λc=>if c=true then kas_place p k fuel l ((l+r') / 2)else kas_place p k fuel ((l+r') / 2+1) r')=run f (kas_place p k fuel ((l+r') / 2+1) r'):=by
     show run f (if f (p.getD k 0) (p.getD ((l+r') / 2) 0)=true then _ else _)=_
     rw[c,if_neg (by simp)]
    rw[er];have c':f (p.getD ((l+r') / 2) 0) (p.getD k 0)=true:=by
     rcases O.tot _ _ (r.lt (i:=k) hk) (r.lt (i:=(l+r') / 2) (by omega)) (r.ne hk (by omega) (by omega))with z|z
     ·rw[c]at z;cases z
     ·exact z
    refine im O r hk u fuel _ r' (by omega) (by omega) h3 (λi hi=>?_) h5
    by_cases ei:i=(l+r') / 2
    ·rw[ei];exact c'
    ·exact O.tr _ _ _ (r.lt (by omega)) (r.lt (i:=(l+r') / 2) (by omega)) (r.lt hk) (u i _ (by omega) (by omega)) c'
theorem jd{p:Array Nat}{k l:Nat}(hk:k<p.size)(hl:l≤k)(i:Nat):(bubble p k (k-l)).getD i 0=if i=l then p.getD k 0 else if l<i∧i≤k then p.getD (i-1) 0 else p.getD i 0:=by
 simp only[getD_eq_getD_getElem?];rw[getElem?_bubble hk (k-l) (by omega) i];have e:k-(k-l)=l:=by omega
 rw[e]
 by_cases h1:i=l
 ·rw[if_pos h1,if_pos h1]
 ·rw[if_neg h1,if_neg h1]
  by_cases h2:l<i∧i≤k
  ·rw[if_pos h2,if_pos h2]
  ·rw[if_neg h2,if_neg h2]
theorem se(O:Ord f n):∀(fuel:Nat)(p:Array Nat)(k:Nat),Row n p→k+fuel=n→Up f p k→Row n (run f (kas_bin fuel p k))∧Up f (run f (kas_bin fuel p k)) n
 |0,p,k,r,hk,u=>by
  have:k=n:=by omega
  subst this;exact⟨r,u⟩
 |fuel+1,p,k,r,hk,u=>by
  have hkn:k<n:=by omega
  obtain⟨a1,a2,a3⟩:=im O r hkn u k 0 k (by omega) (by omega) (le_refl _) (λi hi=>by omega) (λi h1 h2=>by omega);have er:run f (kas_bin (fuel+1) p k)=run f (kas_bin fuel (bubble p k (k-run f (kas_place p k k 0 k))) (k+1)):=by
   show run f ((kas_place p k k 0 k).bind λl=>kas_bin fuel (bubble p k (k-l)) (k+1))=_;rw[eU]
  rw[er];generalize run f (kas_place p k k 0 k)=l at a1 a2 a3⊢;have hs:=r.size;refine se O fuel _ (k+1) (r.bub _ _) (by omega) ?_;intro i j hij hj;rw[jd (by omega) a1 i,jd (by omega) a1 j]
  by_cases ei:i=l
  ·rw[if_pos ei,if_neg (by omega),if_pos ⟨by omega,by omega⟩];exact a3 (j-1) (by omega) (by omega)
  ·rw[if_neg ei]
   by_cases ej:j=l
   ·rw[if_pos ej,if_neg (by omega)];exact a2 i (by omega)
   ·rw[if_neg ej]
    by_cases hi2:l<i∧i≤k
    ·rw[if_pos hi2,if_pos ⟨by omega,by omega⟩];exact u _ _ (by omega) (by omega)
    ·rw[if_neg hi2]
     by_cases hj2:l<j∧j≤k
     ·rw[if_pos hj2]
      by_cases e3:i=j-1
      ·omega
      ·exact u i (j-1) (by omega) (by omega)
     ·rw[if_neg hj2];exact u i j hij (by omega)
theorem jv{p:Array Nat}(r:Row n p):∀(fuel m:Nat),1≤m→m+fuel≤n→il f n (kas_asc p fuel m)
 |0,m,_,_=>trivial
 |fuel+1,m,h1,hm=>by
  refine⟨r.lt (by omega),r.lt (by omega),?_⟩;show il f n (if f (p.getD m 0) (p.getD (m-1) 0)=true then KasT.ret m else kas_asc p fuel (m+1))
  split
  ·exact trivial
  ·exact jv r fuel (m+1) (by omega) (by omega)
theorem kr(O:Ord f n){p:Array Nat}(r:Row n p):∀(fuel m:Nat),1≤m→m+fuel≤n→il f n (kas_desc fuel p m 0)
 |0,m,_,_=>trivial
 |fuel+1,m,h1,hm=>by
  refine⟨r.lt (by omega),r.lt (by omega),?_⟩;show il f n (if f (p.getD m 0) (p.getD (m-1) 0)=true then (if 0>0 then _ else kas_desc fuel p (m+1) 0)else KasT.ask (p.getD (m-1) 0) (p.getD m 0) λd=>if d=true then .ret (p,m,0)else kas_desc fuel p (m+1) (0+1))
  cases e:f (p.getD m 0) (p.getD (m-1) 0)with
  |true =>
   rw[if_pos rfl,if_neg (by omega)];exact kr O r fuel (m+1) (by omega) (by omega)
  |false =>
   rw[if_neg (by simp)];have e2:f (p.getD (m-1) 0) (p.getD m 0)=true:=by
    rcases O.tot _ _ (r.lt (i:=m) (by omega)) (r.lt (i:=m-1) (by omega)) (r.ne (by omega) (by omega) (by omega))with z|z
    ·rw[e]at z;cases z
    ·exact z
   refine⟨r.lt (by omega),r.lt (by omega),?_⟩;dsimp only;rw[e2,if_pos rfl];exact trivial
theorem oD(O:Ord f n){p:Array Nat}(r:Row n p)(h2:1≤n):il f n (kas_count n p):=by
 obtain⟨a1,a2,a3,a4⟩:=lE O r (n-1) 1 (by omega) (by omega) (by intro i j hij hj;omega);unfold kas_count;refine dP (jv r _ _ (by omega) (by omega)) ?_;generalize run f (kas_asc p (n-1) 1)=m at a1 a2 a3 a4⊢
 by_cases e:m=n
 ·rw[if_pos (by simp[e])];exact trivial
 ·rw[if_neg (by simpa using e)]
  by_cases e1:m>1
  ·rw[if_pos e1];refine⟨r.lt (by omega),r.lt (by omega),?_⟩;dsimp only;rw[a3 0 (m-1) (by omega) (by omega),if_pos rfl];exact trivial
  ·rw[if_neg e1];have em:m=1:=by omega
   subst em;have hd:=a4 (by omega);unfold kas_descPart;refine dP (kr O r _ _ (by omega) (by omega)) ?_;obtain⟨m',b1,b2,b3,b4⟩:=lF O r (n-(1+1)) (1+1) (by omega) (by omega) (by
    intro i j hij hj;have:i=0∧j=1:=by omega
    rw[this.1,this.2];exact hd)
   rw[b1];dsimp only;rw[if_neg (by omega)];unfold kas_tail3;exact dP (jv (r.rev 0 m') _ _ (by omega) (by omega)) trivial
theorem gR{p:Array Nat}(r:Row n p){k:Nat}(hk:k<n):∀(fuel l r':Nat),r'≤k→il f n (kas_place p k fuel l r')
 |0,l,r',_=>trivial
 |fuel+1,l,r',h=>by
  unfold kas_place
  by_cases e:l≥r'
  ·rw[if_pos e];exact trivial
  ·rw[if_neg e];refine⟨r.lt hk,r.lt (by omega),?_⟩;dsimp only
   split
   ·exact gR r hk fuel _ _ (by omega)
   ·exact gR r hk fuel _ _ h
theorem mX(O:Ord f n):∀(fuel:Nat)(p:Array Nat)(k:Nat),Row n p→k+fuel=n→Up f p k→il f n (kas_bin fuel p k)
 |0,p,k,r,hk,u=>trivial
 |fuel+1,p,k,r,hk,u=>by
  have hkn:k<n:=by omega
  show il f n ((kas_place p k k 0 k).bind λl=>kas_bin fuel (bubble p k (k-l)) (k+1));refine dP (gR r hkn _ _ _ (le_refl _)) ?_;obtain⟨a1,a2,a3⟩:=im O r hkn u k 0 k (by omega) (by omega) (le_refl _) (λi hi=>by omega) (λi h1 h2=>by omega);generalize run f (kas_place p k k 0 k)=l at a1 a2 a3⊢;have hs:=r.size;refine mX O fuel _ (k+1) (r.bub _ _) (by omega) ?_;intro i j hij hj;rw[jd (by omega) a1 i,jd (by omega) a1 j]
  by_cases ei:i=l
  ·rw[if_pos ei,if_neg (by omega),if_pos ⟨by omega,by omega⟩];exact a3 (j-1) (by omega) (by omega)
  ·rw[if_neg ei]
   by_cases ej:j=l
   ·rw[if_pos ej,if_neg (by omega)];exact a2 i (by omega)
   ·rw[if_neg ej]
    by_cases hi2:l<i∧i≤k
    ·rw[if_pos hi2,if_pos ⟨by omega,by omega⟩];exact u _ _ (by omega) (by omega)
    ·rw[if_neg hi2]
     by_cases hj2:l<j∧j≤k
     ·rw[if_pos hj2]
      by_cases e3:i=j-1
      ·omega
      ·exact u i (j-1) (by omega) (by omega)
     ·rw[if_neg hj2];exact u i j hij (by omega)
theorem qU(O:Ord f n)(h:1≤n):il f n (kas_sort n):=by
 have r0:Row n (toArray (List.range n)):=⟨by simp⟩;obtain⟨m,p',e,h1,h2,r,u⟩:=mQ O r0 h;unfold kas_sort;refine dP (oD O r0 h) ?_;rw[e];dsimp only
 by_cases hm:m<n
 ·rw[if_pos hm];have:max m 1=m:=by omega
  rw[this];exact mX O (n-m) p' m r (by omega) u
 ·rw[if_neg hm];exact trivial
theorem uF(O:Ord f n)(h:1≤n):Row n (run f (kas_sort n))∧Up f (run f (kas_sort n)) n:=by
 have r0:Row n (toArray (List.range n)):=⟨by simp⟩;obtain⟨m,p',e,h1,h2,r,u⟩:=mQ O r0 h;unfold kas_sort;rw[eU,e];dsimp only
 by_cases hm:m<n
 ·rw[if_pos hm];have:max m 1=m:=by omega
  rw[this];exact se O (n-m) p' m r (by omega) u
 ·rw[if_neg hm];have:m=n:=by omega
  subst this;exact⟨r,u⟩
end
section
variable{prog:Program}{w:World}{A:Around}{E:Value→Shared→Prop}{s:Shared}
theorem uG{vs:List Value}(h:vs.length<2):((vs.toArray.zip vs.toArray).map (·.2)).toList=(toArray ((toArray (List.range vs.length)).toList.map λi=>vs.getD i Value.none)).toList:=by
 cases vs with
 |nil=>simp
 |cons v r =>
  cases r with
  |nil=>simp
  |cons u r=>exact absurd h (by simp)
theorem lG{f:Nat→Nat→Bool}{a:Addr}{vs:List Value}{n:Nat}{κ:SortKind}{P:PySem.Fin→Shared→Prop}(O:Ord f vs.length)(ho:s.heap.get? a=some (seqObj "list" vs.toArray n))(h64:vs.length<64)(hk:∀s':Shared,(∀b o,b≠a→s.heap.get? b=some o→s'.heap.get? b=some o)→∀Q:SortKind→Shared→Prop,2≤vs.length→Q κ s'→wpAny (model prog w) A (keyKind' vs.toArray) Q (λ_ _=>False) s')(hlt:∀s':Shared,(∀b o,b≠a→s.heap.get? b=some o→s'.heap.get? b=some o)→∀(i j:Nat) (C:Bool→Shared→Prop),i<vs.length→j<vs.length→C (f i j) s'→wpAny (model prog w) A (keyLt' κ (vs.getD i Value.none) (vs.getD j Value.none)) C (λ_ _=>False) s')(h:∀p:Array Nat,Row vs.length p→Up f p vs.length→P (.done (.ret .none)) {s with heap:=sortedHeap s.heap a vs (toArray (p.toList.map λi=>vs.getD i Value.none))}):
  wpAny (model prog w) A (Builtin.«list.sort» ⟨[.ref a],[]⟩) P E s:=by
 have ha:a<s.heap.objs.size:=lt_size ho;have s1:=SameBut.update s.heap a (Obj.mapSeq λ_=>(#[]:Array Value));obtain⟨e1,ho1⟩:∃e1,(s.heap.update a (Obj.mapSeq λ_=>(#[]:Array Value))).get? a=some (seqObj "list" #[] e1):=⟨_,get?_update_seq ho λ_=>#[]⟩;rw[list_sort_plain];refine wpAny_bind (listItems_at ho rfl ?_);refine wpAny_bind (listUpdate_at ho rfl ?_ (by rw[size_toArray,sizeLine_eq];omega) (zero_le _));refine wpAny_bind (seqEpoch_at ho1 rfl ?_);refine wpAny_bind (wpAny_newTuple ?_ (by show vs.length≤_;rw[sizeLine_eq];omega));refine wpAny_bind (wpAny_newList ?_ (zero_le _));refine wpAny_holding ?_;have ho6:(((s.heap.update a (Obj.mapSeq λ_=>(#[]:Array Value))).push (seqObj "tuple" vs.toArray 0)).push (seqObj "list" #[] 0)).get? a=some (seqObj "list" #[] e1):=get?_push_of_some _ (get?_push_of_some _ ho1);have keep:∀b o,b≠a→s.heap.get? b=some o→(((s.heap.update a (Obj.mapSeq λ_=>(#[]:Array Value))).push (seqObj "tuple" vs.toArray 0)).push (seqObj "list" #[] 0)).get? b=some o:=λb o hb e =>
  get?_push_of_some _ (get?_push_of_some _ ((s1.2 b hb).trans e))
 show wpAny (model prog w) A _ P E {s with heap:=((s.heap.update a (Obj.mapSeq λ_=>(#[]:Array Value))).push (seqObj "tuple" vs.toArray 0)).push (seqObj "list" #[] 0)}
 dsimp only
 by_cases hn2:vs.toArray.size<2
 ·rw[if_pos hn2,if_pos hn2];refine wpAny_bind (wpAny_pure ?_);rw[StateT.run_pure];refine wpAny_bind (wpAny_pure ?_);dsimp only;have hn2':vs.length<2:=by simpa using hn2
  have hr:Row vs.length (toArray (List.range vs.length)):=⟨by simp⟩;have hu:Up f (toArray (List.range vs.length)) vs.length:=λi j hij hj=>by omega
  have e2:(arrOf (SortSt.mk' general' (vs.toArray.zip vs.toArray) #[] 7 none)).map (·.2)=toArray ((toArray (List.range vs.length)).toList.map λi=>vs.getD i Value.none):=by
   show(vs.toArray.zip vs.toArray).map (·.2)=_;apply Array.toList_inj.mp;exact uG hn2'
  refine wpAny_bind (seqEpoch_at ho6 rfl ?_);rw[e2];refine wpAny_bind (listUpdate_at ho6 rfl ?_ (zero_le _) (by rw[size_toArray,length_map,length_toList,hr.size,sizeLine_eq];omega));show wpAny _ _ (if (e1 != e1)=true then _ else _) _ _ _
  simp only[bne_self_eq_false,false_eq_true,if_false];exact wpAny_pure (h _ hr hu)
 ·have hn2':2≤vs.length:=by rw[size_toArray]at hn2;omega
  rw[if_neg hn2,if_neg hn2];refine wpAny_bind (wpAny_mono (hk {s with heap:=((s.heap.update a (Obj.mapSeq λ_=>(#[]:Array Value))).push (seqObj "tuple" vs.toArray 0)).push (seqObj "list" #[] 0)} keep (λk' s'=>k'=κ∧s'={s with heap:=((s.heap.update a (Obj.mapSeq λ_=>(#[]:Array Value))).push (seqObj "tuple" vs.toArray 0)).push (seqObj "list" #[] 0)}) hn2' ⟨rfl,rfl⟩) (λκ' s0 hes=>?_) λ_ _ x=>x.elim)
  obtain⟨ek,es⟩:=hes;subst ek es;obtain⟨hrow,hup⟩:=uF O (by omega:1≤vs.length);refine wpAny_bind (wpAny_mono (kat_run (Q:=λst' s'=>∃p:Array Nat,p.size=vs.length∧arrOf st'=p.map (kas_item (vs.toArray.zip vs.toArray))∧failedOf st'=none∧p=run f (kas_sort vs.length)∧s'={s with heap:=((s.heap.update a (Obj.mapSeq λ_=>(#[]:Array Value))).push (seqObj "tuple" vs.toArray 0)).push (seqObj "list" #[] 0)})
   rfl hn2' h64 (λp' st' s' a1 a2 a3 a4=>⟨p',a1,a2,a3,a4⟩) (pK (n:=vs.length) (λi j C hi hj hC=>hlt _ keep i j C hi hj hC) (λp s'=>p=run f (kas_sort vs.length)∧s'={s with heap:=((s.heap.update a (Obj.mapSeq λ_=>(#[]:Array Value))).push (seqObj "tuple" vs.toArray 0)).push (seqObj "list" #[] 0)}) _ (qU O (by omega)) ⟨rfl,rfl⟩)) ?_ λ_ _ e=>e)
  rintro⟨⟨⟩,st'⟩ s' ⟨p,hp,har,hf,ep,es⟩;subst es;dsimp only;have hout:=kat_snds (ks:=vs) rfl har;refine wpAny_bind (seqEpoch_at ho6 rfl ?_);rw[hout];refine wpAny_bind (listUpdate_at ho6 rfl ?_ (zero_le _) (by rw[size_toArray,length_map,length_toList,hp,sizeLine_eq];omega));rw[hf];simp only[bne_self_eq_false,false_eq_true,if_false];rw[ep];exact wpAny_pure (h _ hrow hup)
theorem mY{l:Addr}{vs:List Value}{Q:List Value→Shared→Prop}(hl:IsTup s.heap l vs.toArray)(h:Q vs {s with heap:=(s.heap.push (seqObj "list" #[] 0)).update s.heap.objs.size (Obj.mapSeq (· ++ vs.toArray))})(hsz:vs.length≤sizeLine):
  wpAny (model prog w) A (collect (.ref l)) Q E s:=by
 obtain⟨o,ho,hc,n,hd⟩:=id hl;unfold collect;refine wpAny_bind (wpAny_runValue (codeAny_builtin entry_proto_collect' ?_));show wpAny _ _ (do again (.builtin "list.__iadd__" ⟨[←newList [],.ref l],[]⟩)) _ _ s
 refine wpAny_bind (wpAny_newList (wpAny_pure ⟨Code.quiet_builtin _ (by decide +kernel),codeAny_builtin entry_list_iadd' ?_⟩));show wpAny _ _ (Builtin.List.listExtendWith (.ref s.heap.objs.size) (.ref l) (.ref s.heap.objs.size)) _ _ {s with heap:=s.heap.push (seqObj "list" #[] 0)}
 unfold Builtin.List.listExtendWith;have ho':(s.heap.push (seqObj "list" #[] 0)).get? l=some o:=get?_push_of_some _ ho;refine wpAny_bind (wpAny_typeOf (T:="tuple") ⟨o,ho',hc⟩ ?_);have ht:(type "tuple"==type "tuple")=true:=by rfl
 rw[if_pos (by rw[ht];simp)];refine wpAny_bind (listItems_at ho' hd ?_);refine wpAny_bind (listItems_at (xs:=#[]) (n:=0) (get?_push_size _ rfl) rfl ?_);rw[if_neg (by simp)];refine wpAny_bind (listUpdate_at (xs:=#[]) (n:=0) (get?_push_size _ rfl) rfl ?_ (zero_le _) (by show(#[]++vs.toArray).size≤sizeLine+1;simp only[Array.size_append,size_toArray,length_nil];omega));refine wpAny_pure ?_;show wpAny (model prog w) A (do
   let o ← load s.heap.objs.size
   match o.data with
   |.seq xs _=>pure xs.toList
   | _=>unsupported "internal:collect") Q E {s with heap:=(s.heap.push (seqObj "list" #[] 0)).update s.heap.objs.size (Obj.mapSeq (· ++ vs.toArray))}
 refine wpAny_bind (wpAny_load (get?_update_seq (get?_push_size _ rfl) _) ?_);show wpAny _ _ (pure ((#[]:Array Value)++vs.toArray).toList) Q E _;rw[show((#[]:Array Value)++vs.toArray).toList=vs by simp];exact wpAny_pure h
theorem mZ{l:Addr}{vs:List Value}{Q:List Value→Shared→Prop}(hl:s.heap.IsList l vs.toArray∨IsTup s.heap l vs.toArray)(h:Q vs {s with heap:=(s.heap.push (seqObj "list" #[] 0)).update s.heap.objs.size (Obj.mapSeq (· ++ vs.toArray))})(hsz:vs.length≤sizeLine):
  wpAny (model prog w) A (collect (.ref l)) Q E s:=by
 rcases hl with hl|hl
 ·exact collect_list hl h hsz
 ·exact mY hl h hsz
theorem jw{f:Nat→Nat→Bool}{l:Addr}{vs:List Value}{κ:SortKind}{Q:Value→Shared→Prop}(O:Ord f vs.length)(hl:s.heap.IsList l vs.toArray∨IsTup s.heap l vs.toArray)(h64:vs.length<64)(hk:∀(A':Around) (s':Shared),A'.units≤A.units+2→(∀b o,s.heap.get? b=some o→s'.heap.get? b=some o)→∀Q:SortKind→Shared→Prop,2≤vs.length→Q κ s'→wpAny (model prog w) A' (keyKind' vs.toArray) Q (λ_ _=>False) s')(hlt:∀(A':Around) (s':Shared),A'.units≤A.units+2→(∀b o,s.heap.get? b=some o→s'.heap.get? b=some o)→∀(i j:Nat) (C:Bool→Shared→Prop),i<vs.length→j<vs.length→C (f i j) s'→wpAny (model prog w) A' (keyLt' κ (vs.getD i Value.none) (vs.getD j Value.none)) C (λ_ _=>False) s')(h:∀(p:Array Nat) (h':Heap),Row vs.length p→Up f p vs.length→(∀b o,s.heap.get? b=some o→h'.get? b=some o)→s.heap.objs.size≤s.heap.objs.size+1→(∃k,h'.get? (s.heap.objs.size+1)=some (seqObj "list" (toArray (p.toList.map λi=>vs.getD i Value.none)) k))→Q (.ref (s.heap.objs.size+1)) {s with heap:=h'}):
  wpAny (model prog w) A (call (.builtin "sorted") [.ref l]) Q E s:=by
 refine Calls.call_function_entry kind_sorted plain_sorted entry_sorted (args_sorted1 _) ?_;unfold Builtin.«sorted»;refine wpAny_bind (m:=checkCount "sorted" 1 1 _) (wpAny_pure ?_);refine wpAny_bind (mZ hl ?_ (by rw[sizeLine_eq];omega));refine wpAny_bind (wpAny_newList ?_ (by rw[sizeLine_eq];omega));have hsz:((s.heap.push (seqObj "list" #[] 0)).update s.heap.objs.size (Obj.mapSeq (· ++ vs.toArray))).objs.size=s.heap.objs.size+1:=by
  rw[Heap.size_update,size_push']
 have hoL:(((s.heap.push (seqObj "list" #[] 0)).update s.heap.objs.size (Obj.mapSeq (· ++ vs.toArray))).push (seqObj "list" vs.toArray 0)).get? (s.heap.objs.size+1)=some (seqObj "list" vs.toArray 0):=by
  rw[←hsz];exact get?_push_size _ rfl
 have keep:∀b o,s.heap.get? b=some o→(((s.heap.push (seqObj "list" #[] 0)).update s.heap.objs.size (Obj.mapSeq (· ++ vs.toArray))).push (seqObj "list" vs.toArray 0)).get? b=some o:=λb o q=>by
  have hlt:b<s.heap.objs.size:=lt_size q;rw[Heap.get?_push_ne _ _ _ (by rw[hsz];exact ne_of_lt (lt_succ_of_lt hlt)),Heap.get?_update_ne _ _ _ _ (ne_of_lt hlt),Heap.get?_push_ne _ _ _ (ne_of_lt hlt)];exact q
 have neD:∀b o,s.heap.get? b=some o→b≠s.heap.objs.size+1:=λb o q=>ne_of_lt (lt_succ_of_lt (lt_size q));show wpAny _ _ _ _ _ {s with heap:=((s.heap.push (seqObj "list" #[] 0)).update s.heap.objs.size (Obj.mapSeq (· ++ vs.toArray))).push (seqObj "list" vs.toArray 0)}
 rw[hsz];refine wpAny_bind (wpAny_holding (wpAny_call_entry slot_list_sort ⟨_,hoL,rfl⟩ entry_list_sort (lG (κ:=κ) (s:={s with heap:=((s.heap.push (seqObj "list" #[] 0)).update s.heap.objs.size (Obj.mapSeq (· ++ vs.toArray))).push (seqObj "list" vs.toArray 0)}) O hoL h64 ?_ ?_ λp hr hu=>⟨_,rfl,?_⟩) (args_list_sort _)))
 ·intro s' hs' Q' h2 hq;exact hk _ s' (by simp[Around.in1_units]) (λb o e=>hs' b o (neD b o e) (keep b o e)) Q' h2 hq
 ·intro s' hs' i j C hi hj hC;exact hlt _ s' (by simp[Around.in1_units]) (λb o e=>hs' b o (neD b o e) (keep b o e)) i j C hi hj hC
 ·refine wpAny_pure ⟨_,rfl,h p _ hr hu (λb o e=>?_) (le_succ _) ?_⟩
  ·unfold sortedHeap;rw[Heap.get?_update_ne _ _ _ _ (neD b o e)];refine get?_push_of_some _ (get?_push_of_some _ ?_);rw[Heap.get?_update_ne _ _ _ _ (neD b o e)];exact keep b o e
  ·unfold sortedHeap;obtain⟨e1,ho1⟩:∃e1,((((s.heap.push (seqObj "list" #[] 0)).update s.heap.objs.size (Obj.mapSeq (· ++ vs.toArray))).push (seqObj "list" vs.toArray 0)).update (s.heap.objs.size+1) (Obj.mapSeq λ_=>(#[]:Array Value))).get? (s.heap.objs.size+1)=some (seqObj "list" #[] e1):=⟨_,get?_update_seq hoL λ_=>#[]⟩;exact⟨_,get?_update_seq (get?_push_of_some _ (get?_push_of_some _ ho1)) _⟩
theorem qV{f:Nat→Nat→Bool}{l:Addr}{vs:List Value}{κ:SortKind}{Q:Value→Shared→Prop}(O:Ord f vs.length)(hl:s.heap.IsList l vs.toArray)(h64:vs.length<64)(hk:∀(A':Around) (s':Shared),A'.units≤A.units+2→(∀b o,s.heap.get? b=some o→s'.heap.get? b=some o)→∀Q:SortKind→Shared→Prop,2≤vs.length→Q κ s'→wpAny (model prog w) A' (keyKind' vs.toArray) Q (λ_ _=>False) s')(hlt:∀(A':Around) (s':Shared),A'.units≤A.units+2→(∀b o,s.heap.get? b=some o→s'.heap.get? b=some o)→∀(i j:Nat) (C:Bool→Shared→Prop),i<vs.length→j<vs.length→C (f i j) s'→wpAny (model prog w) A' (keyLt' κ (vs.getD i Value.none) (vs.getD j Value.none)) C (λ_ _=>False) s')(h:∀(p:Array Nat) (h':Heap),Row vs.length p→Up f p vs.length→(∀b o,s.heap.get? b=some o→h'.get? b=some o)→s.heap.objs.size≤s.heap.objs.size+1→(∃k,h'.get? (s.heap.objs.size+1)=some (seqObj "list" (toArray (p.toList.map λi=>vs.getD i Value.none)) k))→Q (.ref (s.heap.objs.size+1)) {s with heap:=h'}):
  wpAny (model prog w) A (call (.builtin "sorted") [.ref l]) Q E s:=jw O (.inl hl) h64 hk hlt h
end
end SRT
namespace L2
open PySem PySem.Spec PyProof.Rows
section
variable{X:Cx}{tg:Expr}
theorem lH:∀{bs:List Bool}{us:List Value},aT (bs.map V.bl) us→us=bs.map Value.bool
 |[],_,.nil=>rfl
 |b::bs,_,.cons r t=>by
  have e:_=Value.bool b:=r;rw[e,lH t];rfl
theorem iT:dg X (.builtin "isinstance") (λxs H Q=>∃x n t b,xs=[x,.ty n]∧TyOf X.K H x t∧kitOne X.K t (.type n)=some b∧Q (.bl b) H):=by
 intro pins s σ H xs us Q I r h;obtain⟨x,n,t,b,rfl,ty,e,q⟩:=h;obtain⟨u,u',rfl,ru,ru'⟩:=rP r;cases (show u'=type n from ru');exact qL I ru ty e λtk=>⟨.bl b,H,I.tok tk,rfl,q⟩
def Its(x:Str):It:=⟨λi _=>i<x.cps.size,λi H v H'=>H'=H∧∃c,x.cps[i]?=some c∧v=.str ⟨#[c]⟩,λi _=>x.cps.size≤i⟩
theorem sf{P:Program}{w:World}{K:PySem.W.Frag}(x:Str)(t:Tok)(it:Addr):Turn P w K tg (Its x) [it] it (λi h=>h.IsStrIter it (strIterType x) x t i) where
 mem:=by simp
 obj:=λi h st b hb=>by
  have e:b=it:=by simpa using hb
  subst e;obtain⟨o,e,c,d⟩:=st;exact⟨o,e,λv z=>by rw[d]at z;cases z⟩
 keep:=λi h h' st k=>by
  obtain⟨o,e,r⟩:=st;exact⟨o,k it (by simp) o e,r⟩
 item:=by
  intro X hP hw hK hc i pins s σ H E I hf st hg;subst hP hw hK;obtain⟨f0,f1,f2,f3,f4,f5⟩:=hf it (by simp);have hg':i<x.cps.size:=hg;have fin:∀(h':Heap)(tk:Nat),h'.IsStrIter it (strIterType x) x t (i+1)→SameBut it s.heap h'→∃u',some (Value.str ⟨#[x.cps[i]]⟩ s.toks)=some u'∧wpAny (model X.prog X.w) X.A (letOwnedTupleGo tg (.ref it) u') (λ_ s2=>∃y H',Inv X pins σ H' s2∧aX y u'∧(Its x).yld i H y H'∧s2.heap.IsStrIter it (strIterType x) x t (i+1)∧∀b∈[it],H' b=none) E {s with heap:=h',toks:=tk}:=λh' tk st' sb=>by
   have I1:Inv X pins σ H {s with heap:=h',toks:=tk}:=I.turned (t':=tk) (λb o hb e=>(sb.2 b hb).trans e) f0 f1 f3 f4 f5
   obtain⟨o,e,c,d⟩:=id st';refine⟨_,rfl,mh (s:={s with heap:=h',toks:=tk}) e c d ?_ ⟨.str ⟨#[x.cps[i]]⟩,H,I1,⟨_,rfl⟩,⟨rfl,x.cps[i],by simp[hg'],rfl⟩,st',λb hb=>(hf b hb).1⟩⟩;unfold strIterType
   split<;>decide
  cases ha:x.cps.all (· < 128)with
  |true =>
   have et:strIterType x="str_ascii_iterator":=by simp[strIterType,ha]
   rw[et]at st fin⊢;exact wpAny_pyNext_ascii_item st (c:=x.cps[i]) (by simp[hg']) λh' st' sb=>fin h' _ st' sb
  |false =>
   have et:strIterType x="str_iterator":=by simp[strIterType,ha]
   rw[et]at st fin⊢;exact wpAny_pyNext_wide_item st (c:=x.cps[i]) (by simp[hg']) λh' st' sb=>fin h' _ st' sb
 done:=by
  intro X hP hw hK hc i pins s σ H E I hf st hg;subst hP hw hK;obtain⟨f0,f1,f2,f3,f4,f5⟩:=hf it (by simp);have hg':x.cps.size≤i:=hg;cases ha:x.cps.all (· < 128)with
  |true =>
   have et:strIterType x="str_ascii_iterator":=by simp[strIterType,ha]
   rw[et]at st;exact wpAny_pyNext_ascii_end (I.ok.hd hc) st (by simp[hg']) λh' eb=>⟨rfl,I.turned (t':=s.toks) (λb o hb e=>eb b o hb e) f0 f1 f3 f4 f5⟩
  |false =>
   have et:strIterType x="str_iterator":=by simp[strIterType,ha]
   rw[et]at st;exact wpAny_pyNext_wide_end (I.ok.hd hc) st (by simp[hg']) λh' eb=>⟨rfl,I.turned (t':=s.toks) (λb o hb e=>eb b o hb e) f0 f1 f3 f4 f5⟩
 self:=λA i s Q E st h=>by
  cases ha:x.cps.all (· < 128)with
  |true =>
   have et:strIterType x="str_ascii_iterator":=by simp[strIterType,ha]
   rw[et]at st;exact wpAny_pyIter_striter_ascii st h
  |false =>
   have et:strIterType x="str_iterator":=by simp[strIterType,ha]
   rw[et]at st;exact wpAny_pyIter_striter_wide st h
def zz(tl:TE):TI:=λσ H R=>tl σ H λv H1=>∃x,v=.str x∧R (Its x) H1
theorem wU{l:Expr}{tl:TE}(hl:PE X l tl):PI X tg l (zz tl):=by
 intro pins s σ H R I h;refine thn (hl pins s σ H _ I h) λv s1 hpt=>?_;obtain⟨y,H1,I1,r1,q1⟩:=hpt;obtain⟨x,e,q⟩:=q1;subst e;obtain⟨t,rfl⟩:=r1;refine wpAny_pyIter_strU ?_;refine⟨s1.heap.objs.size,[s1.heap.objs.size],_,_,H1,rfl,I1.kept (t':=s1.toks) λb o e=>get?_push_of_some _ e,sf x t _,⟨_,get?_push_size _ rfl,rfl,rfl⟩,λb hb=>?_,q⟩;have e:b=s1.heap.objs.size:=by simpa using hb
 subst e;exact I1.fpOk (le_refl _) (I1.hok.fresh (le_refl _))
theorem uH{pins:List (Addr×Obj)}{σ:St}{H:Hp}{s:Shared}{a:Addr}{ks:List Key}(I:Inv X pins σ H s)(h:H a=some (.tup (ks.map kV)))(P:Program)(w:World):IsTupleKey (bb P w) s.heap ks a:=by
 obtain⟨_,its,r,o,e,c,n,d⟩:=I.hok a _ h;exact⟨o,its.toArray,n,e,c,d,by simpa using iI r⟩
theorem dQ:∀{as:List Addr}{us:List Value},aT (as.map V.ref) us→us=as.map Value.ref
 |[],_,.nil=>rfl
 |b::bs,_,.cons r t=>by
  have e:_=Value.ref b:=r;rw[e,dQ t];rfl
theorem jU(hu:X.A.units+1<cLine):OpR X (compareOp .NotIn) (λx y H Q=>∃a p ks,∃kss:List (Addr×List Key),x=.ref a∧H a=some (.tup (ks.map kV))∧y=.ref p∧SqL X.K H p ((kss.map (·.1)).map V.ref) ∧
  (∀z∈kss,H z.1=some (.tup (z.2.map kV)))∧Q (.bl (!(kss.any λz=>decide (z.2=ks)))) H):=by
 intro pins s σ H x y v u Q I rx ry h;obtain⟨a,p,ks,kss,rfl,ha,rfl,hq,hk,q⟩:=h;cases rx;cases ry;obtain⟨its,rv,pl,hz⟩:=I.list hq;have e:=dQ rv;subst e
 let e:Value→Bool:=λv=>match v with | .ref b=>((kss.find? λz=>z.1==b).map λz=>decide (z.2=ks)).getD false | _=>false
 have he:∀z∈kss,e (.ref z.1)=decide (z.2=ks):=λz hz'=>by
  show((kss.find? λy=>y.1==z.1).map λz=>decide (z.2=ks)).getD false=_;cases ef:kss.find? λy=>y.1==z.1 with
  |none=>have:=find?_eq_none.mp ef z hz';simp at this
  |some y =>
   have h1:=find?_some ef;have h2:=List.mem_of_find?_eq_some ef;have e1:y.1=z.1:=by simpa using h1
   have e2:=hk y h2;rw[e1,hk z hz']at e2;have e3:z.2.map kV=y.2.map kV:=by injection (Option.some.inj e2)
   rw[lC e3];rfl
 refine SeqAt.notIn_listAt e pl.isList (λy hy=>?_) ⟨.bl _,H,I,rfl,?_⟩
 ·have hy':y∈(kss.map (·.1)).map Value.ref:=by simpa using hy
  obtain⟨b,hb,rfl⟩:=mem_map.mp hy';obtain⟨z,hz',rfl⟩:=mem_map.mp hb;rw[he z hz'];intro prog w E' Q' hQ;exact wpAny_eqBool_tuple (knd:=bb prog w) (by simp;exact hu) (uH I (hk z hz') prog w) (uH I ha prog w) hQ
 ·have e1:(((kss.map (·.1)).map Value.ref).toArray.any e)=kss.any λz=>decide (z.2=ks):=by
   rw[List.any_toArray,any_map,any_map];apply Bool.eq_iff_iff.mpr;rw[any_eq_true,any_eq_true];constructor
   ·rintro⟨z,hz',h1⟩;exact⟨z,hz',by rw[←he z hz'];exact h1⟩
   ·rintro⟨z,hz',h1⟩;exact⟨z,hz',by show e (.ref z.1)=true;rw[he z hz'];exact h1⟩
  rw[e1];exact q
def uI:V→List V→Hp→VK→Prop:=λx vs H Q=>∃d kvs k y,x=.ref d∧vs=[kV k,y]∧H d=some (.dK kvs)∧kvs.length<sizeLine∧(∀v,br kvs k=some v→Q v H)∧(br kvs k=none→Q y (upd H d (.dK (cx kvs k y))))
theorem jV:MtM X "dict.setdefault" uI:=by
 intro pins s σ H x vs v us Q I rx rv h;obtain⟨d,kvs,k,y,rfl,rfl,hd,hz,q1,q2⟩:=h;cases rx;obtain⟨u,u',rfl,ru,ru'⟩:=rv.two;obtain⟨z,hs,ws,rel,dd⟩:=pI I.hok hd;have hzw:ws.length≤sizeLine:=by rw[←rel.length];exact z
 refine call_meetsIn F.slot_dict_setdefault dd.typeIs F.entry_dict_setdefault (F.args_dict_setdefault_3 _ _ _) (kt_meets_setdefault (bb X.prog X.w) d (gL ru) hs u') ⟨ws,dd,hzw,λw' hw=>?_,λhw h' dd' sb=>?_⟩
 ·have:=rel.val k;rw[hw]at this;cases e:br kvs k with
  |none=>rw[e]at this;cases this
  |some v =>
   rw[e]at this;exact⟨v,H,I.tok _,this,q1 v e⟩
 ·have:=rel.val k;rw[hw]at this;cases e:br kvs k with
  |some v=>rw[e]at this;cases this
  |none =>
   have he:∃q,h'.get? d=some q:=let⟨q,_,_,hq,_⟩:=dd';⟨q,hq⟩;have hl:(cx kvs k y).length≤sizeLine:=by have:=eF kvs k y;omega
   exact⟨y,_,jb I (by rw[hd];exact True.intro) sb he (jt hl hs (rel.put k ru') dd'),ru',q2 e⟩
theorem qW:dg X (.type "range") (λxs H Q=>∃i j,xs=[.int i,.int j]∧∀p,H p=none→Q (.ref p) (upd H p (.rng i j))):=by
 intro pins s σ H xs us Q I r h;obtain⟨i,j,rfl,q⟩:=h;obtain⟨u,u',rfl,⟨t,rfl⟩,⟨t',rfl⟩⟩:=rP r;refine call_range_2 ⟨.ref s.heap.objs.size,_,I.laid (t':=s.toks+1) (o:=.rng i j) (λb ob q=>get?_push_of_some _ q) (le_refl _) ?_,rfl,q _ (I.hok.fresh (le_refl _))⟩;exact⟨t,t',_,get?_push_size _ rfl⟩
theorem oE{lo:Int}{n:Nat}{acc:Array Value}(h:ItemsOf (λi v=>∃t,v=.int (lo+i*1) t) acc n):aT ((List.range n).map λk=>V.int (lo+(k:Nat))) acc.toList:=by
 obtain⟨h1,h2⟩:=h;have key:∀(l:List Value)(k:Nat),(∀(i:Nat)(v:Value),l[i]?=some v→∃t,v=Value.int (lo+(k+i:Nat)) t)→aT ((List.range' k l.length).map λk=>V.int (lo+(k:Nat))) l:=by
  intro l
  induction l with
  |nil=>intro k _;exact .nil
  |cons v l ih =>
   intro k hv;rw[length_cons,List.range'_succ,map_cons];refine .cons ?_ (ih (k+1) λi w hw=>?_)
   ·obtain⟨t,e⟩:=hv 0 v rfl;exact⟨t,e⟩
   ·obtain⟨t,e⟩:=hv (i+1) w hw;exact⟨t,by rw[e,show k+(i+1)=k+1+i by omega]⟩
 have hl:acc.toList.length=n:=by simpa using h1
 have:=key acc.toList 0 λi v hv=>by
  have hv':acc[i]?=some v:=by simpa using hv
  obtain⟨t,e⟩:=h2 i v hv';exact⟨t,by rw[e,Int.mul_one,Nat.zero_add]⟩
 rw[hl]at this;rw[List.range_eq_range'];exact this
theorem jW(hc:X.calm=true):dg X (.type "list") (λxs H Q=>∃p i j,xs=[.ref p]∧H p=some (.rng i j)∧(-(2 ^ 62)≤i∧i<2 ^ 62∧-(2 ^ 62)≤j∧j<2 ^ 62)∧(j-i).toNat≤1000 ∧
  ∀l,H l=none→Q (.ref l) (upd H l (.lst ((List.range (j-i).toNat).map λk=>V.int (i+(k:Nat)))))):=by
 intro pins s σ H xs us Q I r h;obtain⟨p,i,j,rfl,hp,⟨b1,b2,b3,b4⟩,hn,q⟩:=h;obtain⟨u,rfl,rx⟩:=fz r;cases rx;obtain⟨t,t',t'',e⟩:=(show bQ X.prog X.w H s.heap p (.rng i j)from I.hok p _ hp);have hsz:Builtin.Range.rangeSize i j 1=((j-i).toNat:Nat):=by rw[rangeSize_one];split<;>omega
 refine call_list_range (n:=(j-i).toNat) (I.ok.hd hc) e (small_one b1 b2 b3 b4) hsz (by omega) λh' tk acc c' kp hg hi=>?_;refine⟨.ref s.heap.objs.size,_,I.laid (t':=tk) kp (le_refl _) (show bQ X.prog X.w _ h' _ (.lst _)from⟨?_,acc.toList,c',oE hi,by simpa using hg⟩),rfl,q _ (I.hok.fresh (le_refl _))⟩
 rw[length_map,length_range,sizeLine_eq];omega
theorem nc:OpR X (binaryOp .Add) (λx y H Q=>∃a b ys,x=.ref a∧y=.ref b∧SqT X.K H a []∧SqT X.K H b ys∧Q (.ref b) H):=by
 intro pins s σ H x y v u Q I rx ry h;obtain⟨a,b,ys,rfl,rfl,ha,hb,q⟩:=h;cases rx;cases ry;obtain⟨its,r1,ht,_⟩:=I.tuple ha;obtain⟨its2,r2,hb',_⟩:=I.tuple hb;cases r1;obtain⟨⟨cls,dd,data,sl⟩,ho,hc,n,hd⟩:=id ht;obtain⟨⟨cls2,dd2,data2,sl2⟩,ho2,hc2,n2,hd2⟩:=id hb';simp only at hc hd hc2 hd2;subst hc hd hc2 hd2;exact concat_meets ⟨_,ho,rfl⟩ ⟨_,ho2,rfl⟩ noFill_tuple_add seq_tuple_add slot_tuple_add entry_tuple_add (args_tuple_add_2 _ _)
  (tuple_addW0 a b _ its2.toArray n n2 dd dd2 sl sl2 (by rfl)) ⟨ho,ho2,⟨.ref b,H,I,rfl,q⟩⟩
theorem fe(hu:X.A.units<cLine):OpR X (compareOp .Eq) (λx y H Q=>∃a b xs,x=.ref a∧y=.ref b∧SqL X.K H a xs∧SqL X.K H b []∧Q (.bl (decide (xs=[]))) H):=by
 intro pins s σ H x y v u Q I rx ry h;obtain⟨a,b,xs,rfl,rfl,ha,hb,q⟩:=h;cases rx;cases ry;obtain⟨its,r1,ht,_⟩:=I.list ha;obtain⟨its2,r2,hb',_⟩:=I.list hb;cases r2
 by_cases e:xs=[]
 ·subst e;cases r1;refine eq_listAt (e:=λ_=>true) ht.isList hb'.isList rfl hu (λj h1 h2=>absurd h2 (by simp)) ⟨.bl _,H,I,?_,q⟩;rfl
 ·have e2:its≠[]:=λz=>e (r1.nil_iff.mp z);have e3:its.length≠0:=λz=>e2 (List.length_eq_zero_iff.mp z);refine SeqAt.eq_list_lengthsAt ht.isList hb'.isList (by simp[e3]) hu ⟨.bl _,H,I,?_,q⟩;show _=Value.bool _;simp[e]
end
end L2
namespace ZT
open PySem PySem.SeqAt
section
variable{prog:Program}{w:World}{A:Around}{E:Value→Shared→Prop}{s:Shared}
end
end ZT
namespace L2
open PySem PySem.Spec PyProof.Rows
section
variable{X:Cx}{tg:Expr}
abbrev io:=Addr×Int×List V
def numAt(zs:List io)(i:Nat):Int:=(zs.getD i (0,0,[])).2.1
theorem sg{zs:List io}(h:(zs.map (·.2.1)).Nodup):SRT.Ord (λi j=>decide (numAt zs i<numAt zs j)) zs.length:=by
 refine⟨λi _=>by simp,λi j k _ _ _ h1 h2=>?_,λi j hi hj hij=>?_⟩
 ·simp only[decide_eq_true_eq]at *;omega
 ·simp only[decide_eq_true_eq];have:numAt zs i≠numAt zs j:=by
   unfold numAt;rw[getD_eq_getElem?_getD,getD_eq_getElem?_getD,getElem?_eq_getElem hi,getElem?_eq_getElem hj];intro e;have e':(zs.map (·.2.1))[i]'(by simpa using hi)=(zs.map (·.2.1))[j]'(by simpa using hj):=by simpa using e
   exact hij ((getElem_inj h).mp e')
  omega
theorem ng{prog:Program}{w:World}{A:Around}{s:Shared}{b:Bool}{Q:Bool→Shared→Prop}(h:Q false s):∀(l:List Value)(i:Nat),PySem.W.KatLex prog w A b false Q (l.zip l) i s
 |[],i=>h
 |v::l,i=>kat_cons (EqAt.same v prog w _ _ (PySem.W.kat_yes (ng h l (i+1))))
theorem cH:dg X (.builtin "sorted") (λxs H Q=>∃l,∃zs:List io,xs=[.ref l]∧(SqL X.K H l ((zs.map (·.1)).map V.ref)∨SqT X.K H l ((zs.map (·.1)).map V.ref))∧(∀z∈zs,H z.1=some (.tup (.int z.2.1::z.2.2)))∧(zs.map (·.2.1)).Nodup∧zs.length<64 ∧
  ∀zs':List io,zs'.Perm zs→zs'.Pairwise (λa b=>a.2.1<b.2.1)→∀p,H p=none→Q (.ref p) (upd H p (.lst ((zs'.map (·.1)).map V.ref)))):=by
 intro pins s σ H xs us Q I r h;obtain⟨l,zs,rfl,hq,hk,hnd,h64,q⟩:=h;obtain⟨u,rfl,ru⟩:=fz r;cases ru;obtain⟨its,rv,pl⟩:∃its,aT ((zs.map (·.1)).map V.ref) its∧(s.heap.IsList l its.toArray∨IsTup s.heap l its.toArray):=by
  rcases hq with hq|hq
  ·obtain⟨its,rv,pl,hz⟩:=I.list hq;exact⟨its,rv,.inl pl.isList⟩
  ·obtain⟨its,rv,pl,hz⟩:=I.tuple hq;exact⟨its,rv,.inr pl⟩
 have e:=dQ rv;subst e;have hlen:((zs.map (·.1)).map Value.ref).length=zs.length:=by simp
 have hobj:∀z∈zs,∃o its n t,s.heap.get? z.1=some o∧o.cls=.type "tuple"∧o.data=.seq its n∧its.toList=.int z.2.1 t::its.toList.drop 1:=λz hz'=>by
  obtain⟨_,its,rr,o,e1,e2,n,e3⟩:=I.hok z.1 _ (hk z hz');cases rr with
  |cons r1 r2 =>
   obtain⟨t,rfl⟩:=r1;exact⟨o,_,n,t,e1,e2,e3,by simp⟩
 have hget:∀i,i<zs.length→((zs.map (·.1)).map Value.ref).getD i Value.none=.ref (zs.getD i (0,0,[])).1∧zs.getD i (0,0,[])∈zs:=λi hi=>by
  rw[getD_eq_getElem?_getD,getD_eq_getElem?_getD,getElem?_map,getElem?_map,getElem?_eq_getElem hi];exact⟨rfl,getElem_mem hi⟩
 refine SRT.jw (κ:=tuples' true) (f:=λi j=>decide (numAt zs i<numAt zs j)) (by rw[hlen];exact sg hnd) pl (by rw[hlen];exact h64) ?kind ?less ?fin
 case kind =>
  intro A' s' _ kp Q' h2 hQ';have key:∀ys:List io,(∀z∈ys,z∈zs)→∃fs:List Value,KatTups s'.heap ((ys.map (·.1)).map Value.ref) fs∧fs.length=ys.length∧∀v∈fs,∃i t,v=Value.int i t:=by
   intro ys
   induction ys with
   |nil=>intro _;exact⟨[],KatTups.nil,rfl,λv hv=>by simp at hv⟩
   |cons z ys ih =>
    intro hm;obtain⟨fs,h1,h2',h3⟩:=ih λy hy=>hm y (by simp[hy]);obtain⟨o,its,n,t,e1,e2,e3,e4⟩:=hobj z (hm z (by simp));refine⟨.int z.2.1 t::fs,KatTups.cons (kp _ _ e1) e2 e3 ?_ h1,by simp[h2'],λv hv=>?_⟩
    ·rw[←getElem?_toList,e4];rfl
    ·rcases mem_cons.mp hv with rfl|hv
     ·exact⟨_,_,rfl⟩
     ·exact h3 v hv
  obtain⟨fs,h1,h2',h3⟩:=key zs λz hz'=>hz';refine PySem.W.kat_kind (T:=.type "int") h1 (by rw[h2'];rw[hlen]at h2;omega) (λv hv=>?_) (by rfl) hQ';obtain⟨i,t,rfl⟩:=h3 v hv;exact .now
 case less =>
  intro A' s' _ kp i j C hi hj hC;rw[hlen]at hi hj;obtain⟨gi,mi⟩:=hget i hi;obtain⟨gj,mj⟩:=hget j hj;rw[gi,gj];obtain⟨oi,ii,ni,ti,a1,a2,a3,a4⟩:=hobj _ mi;obtain⟨oj,ij,nj,tj,b1,b2,b3,b4⟩:=hobj _ mj;refine PySem.W.kat_lt (kp _ _ a1) a3 (kp _ _ b1) b3 ?_
  by_cases hij:i=j
  ·subst hij;rw[a1]at b1;cases b1;rw[a3]at b3;cases b3;have:C false s':=by simpa using hC
   have e2:decide (ii.size<ii.size)=false:=by simp
   rw[e2];exact ng this _ _
  ·have hne:numAt zs i≠numAt zs j:=by
    rcases (sg hnd).tot i j hi hj hij with h1|h1<;>simp only[decide_eq_true_eq]at h1<;>omega
   rw[a4,b4];refine kat_cons (wpAny_eqBool_int ?_);have e2:((zs.getD i (0,0,[])).2.1==(zs.getD j (0,0,[])).2.1)=false:=beq_eq_false_iff_ne.mpr hne;rw[e2];refine PySem.W.kat_no ?_;exact kat_lt_int hC
 case fin =>
  intro p h' hrow hup kp _ hg;obtain⟨c,hg⟩:=hg;rw[hlen]at hrow hup;obtain⟨zs',hzs'⟩:∃zs',zs'=p.toList.map λi=>zs.getD i (0,0,[]):=⟨_,rfl⟩;have hperm:zs'.Perm zs:=by
   rw[hzs'];refine(hrow.perm.map _).trans ?_;have:(List.range zs.length).map (λi=>zs.getD i (0,0,[]))=zs:=by
    apply ext_getElem?;intro i;rw[getElem?_map]
    by_cases hi:i<zs.length
    ·rw[List.getElem?_range hi,getElem?_eq_getElem hi];show some (zs.getD i (0,0,[]))=_;rw[getD_eq_getElem?_getD,getElem?_eq_getElem hi];rfl
    ·rw[getElem?_eq_none (by rw[length_range];omega),getElem?_eq_none (by omega)];rfl
   rw[this]
  have hpl:p.size=zs.length:=hrow.size;have hpw:zs'.Pairwise (λa b=>a.2.1<b.2.1):=by
   rw[List.pairwise_iff_getElem];intro i j hi hj hij;have hi':i<p.size:=by rw[hzs',length_map,length_toList]at hi;exact hi
   have hj':j<p.size:=by rw[hzs',length_map,length_toList]at hj;exact hj
   have:=hup i j hij (by omega);simp only[decide_eq_true_eq,numAt]at this;rw[getD_eq_getD_getElem?,getD_eq_getD_getElem?,Array.getElem?_eq_getElem hi',Array.getElem?_eq_getElem hj']at this;simpa [hzs']using this
  have hout:(toArray (p.toList.map λi=>((zs.map (·.1)).map Value.ref).getD i Value.none))=((zs'.map (·.1)).map Value.ref).toArray:=by
   congr 1
   rw[hzs'];simp only[map_map];apply map_congr_left;intro i hi;have hi':i<zs.length:=mem_range.mp (hrow.perm.mem_iff.mp hi);have:=(hget i hi').1;simp only[map_map]at this;exact this
  rw[hout]at hg;have hv:aT ((zs'.map (·.1)).map V.ref) ((zs'.map (·.1)).map Value.ref):=by
   generalize zs'.map (·.1)=as
   induction as with
   |nil=>exact .nil
   |cons a as ih=>exact .cons rfl ih
  refine⟨.ref (s.heap.objs.size+1),_,I.laid (t':=s.toks) (o:=.lst ((zs'.map (·.1)).map V.ref)) kp (le_succ _) ⟨?_,_,c,hv,hg⟩,rfl,q zs' hperm hpw _ (I.hok.fresh (le_succ _))⟩;rw[length_map,length_map,hperm.length_eq,sizeLine_eq];omega
theorem iJ:dg X (.builtin "sorted") (λxs H Q=>∃l,∃zs:List io,xs=[.ref l]∧SqL X.K H l ((zs.map (·.1)).map V.ref)∧(∀z∈zs,H z.1=some (.tup (.int z.2.1::z.2.2)))∧(zs.map (·.2.1)).Nodup∧zs.length<64 ∧
  ∀zs':List io,zs'.Perm zs→zs'.Pairwise (λa b=>a.2.1<b.2.1)→∀p,H p=none→Q (.ref p) (upd H p (.lst ((zs'.map (·.1)).map V.ref)))) :=
 λpins s σ H xs us Q I r ⟨l,zs,e,hq,h⟩=>cH pins s σ H xs us Q I r ⟨l,zs,e,.inl hq,h⟩
end
theorem lI{scope:Scope}{env:Env}(h:∀y∈scope.names,y.2≠.free):relabel scope env=scope:=by
 unfold relabel;rw[map_eq_self (l:=scope.names) (λx hx=>by
  obtain⟨n,k⟩:=x;have:(k==NameKind.free)=false:=by simpa using h _ hx
  simp[this])]
theorem eL{X:Cx}{scope:Scope}(hk:scope.kind=.function)(hf:∀y∈scope.names,y.2≠.free)(hc:∀y∈scope.names,y.2≠.cell)(hn:∀x∈scope.names,x.2=.local→scope.names.lookup x.1=some .local):LcOk X scope [] :=
 ⟨hk,closureFor_none hf,hn,hc,λx c h=>by simp at h,λx h=>by
  rw[lI hf]at h;rcases h with h|h
  ·exact absurd rfl (hc _ (PySem.mem_of_lookup h))
  ·exact absurd rfl (hf _ (PySem.mem_of_lookup h))⟩
theorem vV{k:Nat}{js:List Nat}{J:It}{g:TG}{te:TE}{σ:St}{H1:Hp}{Q:VK}{p:Addr}(n:Nat)(hn:n≤1000)(Pv:Nat→List V→St→Hp→Prop)(h0:Pv 0 [] (dO k js σ) (upd H1 p (.lst [])))(hy:∀i ys σ' H',Pv i ys σ' H'→ys.length≤i)(go:∀i ys σ' H',i<n→Pv i ys σ' H'→J.go i H')(stop:∀ys σ' H',Pv n ys σ' H'→J.stop n H'∧Q (.ref p) H')(step:∀i ys σ' H',i<n→Pv i ys σ' H'→∀x H2,J.yld i H' x H2→g x σ' H2 λσ2 H3=>te σ2 H3 λy H4=>H4 p=some (.lst ys)∧Pv (i+1) (ys++[y]) σ2 (upd H4 p (.lst (ys++[y]))))(mg:∀x σ H (Q Q':St→Hp→Prop),(∀σ H,Q σ H→Q' σ H)→g x σ H Q→g x σ H Q')(me:∀σ H (Q Q':VK),(∀y H,Q y H→Q' y H)→te σ H Q→te σ H Q'):
  LcW k js g te σ Q J H1 p:=by
 refine⟨λi m ys σ' H'=>m=n-i∧i≤n∧Pv i ys σ' H',⟨n,by simp,zero_le _,h0⟩,?_⟩;rintro i m ys σ' H' ⟨rfl,hi,hp⟩
 by_cases hlt:i<n
 ·refine .inr ⟨go i ys σ' H' hlt hp,?_,λx H2 y=>?_⟩
  ·have:=hy i ys σ' H' hp;exact lt_of_le_of_lt this (aJ (by omega))
  ·refine mg _ _ _ _ _ (λσ2 H3 h3=>me _ _ _ _ (λz H4 h4=>⟨h4.1,n-(i+1),by omega,rfl,hlt,h4.2⟩) h3) (step i ys σ' H' hlt hp x H2 y)
 ·have e:i=n:=by omega
  subst e;exact .inl (stop ys σ' H' hp)
theorem ag{H:Hp}{p:Addr}{o:HO}(h:H p=none):Same H (upd H p o):=λb u e=>by rw[ao (cK e h)];exact e
theorem bj{H:Hp}{p a:Addr}{o u:HO}(h:H p=none)(e:H a=some u):upd H p o a=some u:=by rw[ao (cK e h)];exact e
theorem aS{H0 H:Hp}{p:Addr}{o:HO}(h0:H0 p=none)(s:Same H0 H):Same H0 (upd H p o):=λb u e=>by
 rw[ao (cK e h0)];exact s b u e
structure Fly(P:Program)(w:World)(outer:List Env)(H:Hp)(s:Shared)(H':Hp)(ea C:Addr)(s':Shared):Prop where
 os:s'.os=s.os
 bare:AllBare s'.gens
 un:Un (frs outer) [] H H' s.heap s'.heap
 new:H' ea=none
 fly:∃B a0,FlyingW B outer ea (.ref C) a0 s'.heap∧HOk P w H' B∧(∀b o,s.heap.get? b=some o→H b=none→b∉frs outer→B.get? b=some o) ∧
  ∀b o,s.heap.get? b=some o→b∉frs outer→∃o',B.get? b=some o'
def CX1(P:Program)(w:World):CXT:=λouter H s E e s'=>∃ea C H',e=.ref ea∧Fly P w outer H s H' ea C s'∧E (.ref C) none H'
theorem bQ.ex{P:Program}{w:World}{H:Hp}{h:Heap}{a:Addr}{o:HO}(x:bQ P w H h a o):∃ob,h.get? a=some ob:=by
 cases o with
 |lst xs=>obtain⟨_,_,_,_,e⟩:=x;exact⟨_,e⟩
 |tup xs=>obtain⟨_,_,_,ob,e,_⟩:=x;exact⟨ob,e⟩
 |dK kvs=>obtain⟨_,_,_,_,o,_,_,e,_⟩:=x;exact⟨_,e⟩
 |dT kvs=>obtain⟨_,_,_,_,o,_,_,e,_⟩:=x;exact⟨_,e⟩
 |set S n=>obtain⟨o,_,_,_,e,_⟩:=x;exact⟨_,e⟩
 |ins C dx fs=>obtain⟨_,_,_,e,_⟩:=x;exact⟨_,e⟩
 |own y=>obtain⟨_,e⟩:=x;exact⟨_,e⟩
 |xd fs=>obtain⟨_,⟨_,_,_,e,_⟩,_⟩:=x;exact⟨_,e⟩
 |rng lo hi=>obtain⟨_,_,_,e⟩:=x;exact⟨_,e⟩
 |frz ob u=>obtain⟨e,_⟩:=x;exact⟨_,e⟩
 |tbl ps=>exact⟨_,(show h.get? a=some _ from x)⟩
 |met f y=>exact⟨_,(show h.get? a=some _ from x)⟩
 |ext φ=>obtain⟨_,⟨_,e⟩,_⟩:=x;exact⟨_,e⟩
theorem sh{P:Program}{w:World}{H:Hp}{h:Heap}{l:List Addr}(x:HOk P w H h)(hl:∀b∈l,H b=none):HOk P w H (hideAll h l):=λa o e =>
 (x a o e).stay (λb u hb q=>hideAll_get l q λz=>by
  have:=hl b z;rcases hb with hb|hb
  ·rw[hb,e]at this;cases this
  ·rw[hb]at this;cases this) (λ_ q=>q) λ_ _ q=>q
section
variable{P:Program}{w:World}{l:List Env}{H H':Hp}{h1 h2 h3 B:Heap}{ea:Addr}{cls a0:Value}
theorem nh(un:Un (frs l) [] H H' h1 h2)(fl:FlyingW B l ea cls a0 h2)(hB:HOk P w H' B)(kp:∀b o,h1.get? b=some o→H b=none→b∉frs l→B.get? b=some o)(th:∀b o,h1.get? b=some o→b∉frs l→∃o',B.get? b=some o')(st:B.StaysIn h3)(hs:h2.UpToSlots h3):Un (frs l) [] H H' h1 h3∧HOk P w H' h3:=by
 refine⟨⟨λb o e n hb _=>st b o (kp b o e n hb),λb o e n hb hx=>?_,un.free,λb o e _=>?_,un.tups,un.frzs,un.tbls⟩,hB.kept st⟩
 ·obtain⟨sl,q⟩:=un.slot b o e n hb hx;obtain⟨_,o',ho',hd⟩:=fl.2.2.1.mem hb;rw[q]at ho';cases ho';obtain⟨sl',q'⟩:=hs b _ q hd;exact⟨sl',q'⟩
 ·by_cases hb:b∈frs l
  ·obtain⟨_,o',ho',hd⟩:=fl.2.2.1.mem hb;obtain⟨sl',q'⟩:=hs b _ ho' hd;exact⟨_,q'⟩
  ·obtain⟨o',q⟩:=th b o e hb;exact⟨o',st b o' q⟩
end
section
variable{X:Cx}{pins:List (Addr×Obj)}{σ:St}{H H':Hp}{s s':Shared}{ea C:Addr}{E:XK}
theorem Inv.fly_up(I:Inv X pins σ H s)(hex:X.ex=[])(J:Inv X pins σ H' s')(new:H' ea=none){B:Heap}{a0:Value}(fl:FlyingW B X.outer ea (.ref C) a0 s'.heap)(hB:HOk X.prog X.w H' B)(kp:∀b o,s.heap.get? b=some o→H b=none→b∉frs X.stack→B.get? b=some o)(th:∀b o,s.heap.get? b=some o→b∉frs X.stack→∃o',B.get? b=some o'):Fly X.prog X.w X.outer X.H₀ X.s₀ H' ea C s':=by
 have ub:=I.base;rw[hex]at ub;have uj:=J.base;rw[hex]at uj;have ne:∀b o,X.s₀.heap.get? b=some o→b∉frs X.outer→b∉frs X.stack:=λb o e n hb=>by
  rcases mem_cons.mp (I.stkSub b hb)with z|z
  ·have:=lt_size e;rw[z]at this;exact absurd (lt_of_lt_of_le this I.ok.above) (lt_irrefl _)
  ·exact n z
 refine⟨J.os,J.bare,uj,new,B,a0,fl,hB,λb o e n hb=>?_,λb o e hb=>?_⟩
 ·exact kp b o (ub.keep b o e n hb (by simp)) (ub.free b o e n (by simp)) (ne b o e hb)
 ·obtain⟨o',q⟩:=ub.there b o e (by simp);exact th b o' q (ne b o e hb)
structure Lv(X:Cx)(E:XK):Prop where
 ex:X.ex=[]
 stk:X.stack=X.env::X.outer
 fr:X.env.frame=some X.env.locals
 xe:X.xe=λe s'=>wpAny (model X.prog X.w) X.A (leaving X.env e) (λ_ s''=>CX1 X.prog X.w X.outer X.H₀ X.s₀ E e s'') (λe' s''=>CX1 X.prog X.w X.outer X.H₀ X.s₀ E e' s'') s'
theorem cr{P:Program}{w:World}{K:PySem.W.Frag}{mg:Str→Option Value}{base:Heap}{N:List Str}{qual:Str}{scope:Scope}{f:Addr}{cd:Value}{A:Around}{outer:List Env}{s:Shared}{H:Hp}{E:XK} :
  Lv (fJ (CX1 P w) P w K mg base N qual scope f cd A outer s H E) E:=⟨rfl,rfl,rfl,rfl⟩
theorem dB(L:Lv X E):jp (CX1 X.prog X.w) X E:=by
 intro pins σ H s e s' I h;obtain⟨ea,C,H',rfl,F,hE⟩:=h;rw[L.xe];obtain⟨B,a0,fl,hB,kp,th⟩:=id F.fly;have fl':=fl;rw[L.stk]at fl';refine wpAny_leaves_onW (by rw[I.ok.frames,L.stk]) L.fr fl' λh' fl2 hs=>?_;obtain⟨u,ok⟩:=nh F.un fl hB kp th fl2.1 hs;have J:Inv X pins σ H' {s' with heap:=h'}:=I.call' (s':={s' with heap:=h'}) F.os u ok F.bare λb z=>absurd z (by simp)
 exact⟨ea,C,H',rfl,I.fly_up L.ex J F.new fl2 hB kp th,hE⟩
theorem Inv.ground(I:Inv X pins σ H s):(hideAll s.heap (frs X.stack)).StaysIn s.heap∧s.heap.FunFrames (hideAll s.heap (frs X.stack)) X.stack∧HOk X.prog X.w H (hideAll s.heap (frs X.stack)) :=
 ⟨λb o q=>of_hideAll _ q,PySem.W.funFrames_hide I.stack λenv he b hb=>List.mem_filterMap.mpr ⟨env,he,hb⟩,sh I.hok I.stkFree⟩
theorem yE(L:Lv X E)(I:Inv X pins σ H s){h':Heap}{vs:List Value}(hx:Heap.MadeExcOf s.heap h' ea (.ref C) vs)(hE:E (.ref C) none H):X.xe (.ref ea) {s with heap:=h'}:=by
 rw[L.xe];obtain⟨g1,g2,g3⟩:=I.ground;have g2':s.heap.FunFrames (hideAll s.heap (frs X.stack)) (X.env::X.outer):=L.stk ▸ g2;refine wpAny_leaves_madeW (s:={s with heap:=h'}) (by rw[I.ok.frames,L.stk]) L.fr g1 g2' hx λh'' t fl _ _ hs=>?_;have hs':s.heap.UpToSlots h'':=(Heap.UpToSlots.of_keeps hx.keeps).trans hs;have u:Un (frs X.stack) [] H H s.heap h'':=⟨λb o e n hb _=>fl.1 b o (hideAll_get _ e hb),λb o e n hb _=>by
   obtain⟨_,o',ho',hd⟩:=g2.mem hb;rw[e]at ho';cases ho';exact hs' b o e hd,λb o e n _=>n,λb o e _=>by
   by_cases hb:b∈frs X.stack
   ·obtain⟨_,o',ho',hd⟩:=g2.mem hb;obtain⟨sl,q⟩:=hs' b o' ho' hd;exact⟨_,q⟩
   ·exact⟨o,fl.1 b o (hideAll_get _ e hb)⟩,λ_ _ q=>q,λ_ _ _ q=>q,λb ps q=>⟨#[],by simpa using q⟩⟩
 have J:Inv X pins σ H {s with heap:=h''}:=I.call' (s':={s with heap:=h''}) rfl u (g3.kept fl.1) I.bare λb z=>absurd z (by simp)
 have new:H ea=none:=by
  cases q:H ea with
  |none=>rfl
  |some o =>
   obtain⟨ob,e⟩:=(I.hok ea o q).ex;have h2:=hx.new;rw[e]at h2;cases h2
 exact⟨ea,C,H,rfl,I.fly_up L.ex J new fl g3 (λb o e _ hb=>hideAll_get _ e hb) λb o e hb=>⟨o,hideAll_get _ e hb⟩,hE⟩
end
end L2
namespace XI
open PySem PySem.Spec PySem.W
section
variable{prog:Program}{w:World}{A:Around}{E:Value→Shared→Prop}{h:Heap}{g:Array GenState}{d:Drawn}{t:Nat}{os:OsState}{a:Addr}{o:Obj}{vs:Array Value}{nm q:Str}{C N:Addr}{bs bm:List Value}{hdct:Bool}{sn:List Str}{sub:List Value}{ab:Bool}{col:Option Bool}{dd:Option Addr}{k0 k1 k2 k3 k5:Option Value}{newId:String}
theorem qX{R:Result→Shared→Prop}(hC:h.get? C=some (excClassObj nm q C N bs bm hdct sn sub ab col dd k0 k1 k2 k3 k5 newId))(hb:bm.contains (.type "object")=true)(hx:h.get? a=some o)(hc:o.cls=.ref C)(hq:R (.ok (.ret (.ref C))) ⟨h,g,d,t,os⟩):
  codeAny (model prog w) A (.call (.builtin "getset_descriptor.__get__") ⟨[.builtin "object.__class__",.ref a,.ref C],[]⟩) R ⟨h,g,d,t,os⟩:=by
 have hT5:(⟨h,g,d,t,os⟩:Shared).TypeIs (.builtin "object.__class__") "getset_descriptor":=F.typeOf_object_class;have hcB:(Value.ref C::bm).contains (.type (".".intercalate ("object.__class__".cutAt '.').dropLast))=true:=by
  rw[F.owner_object_class,List.contains_cons,hb];rfl
 refine codeAny_call_builtin F.slot_gs_get.plain F.entry_gs_get (F.slot_gs_get.check _ _ _ _ _ _ _ _ hT5 (F.args_gs_get _ _ _) ?_)
 repeat (any_goals (first|assumption|(with_reducible refine wpAny_loadPart_at hx ?_;rw[hc]) | (with_reducible refine wpAny_isSubtype_exc hC ?_;rw[hcB])|wp_step))
 refine⟨Code.quiet_builtin _ (by decide +kernel),codeAny_builtin F.entry_object_class ?_⟩
 repeat (any_goals (first|assumption|(with_reducible refine wpAny_loadPart_at hx ?_;rw[hc])|wp_step))
theorem si{M:Model}{nameV:Value}{Q:Unit→Shared→Prop}(hC:h.get? C=some (excClassObj nm q C N bs bm hdct sn sub ab col dd k0 k1 k2 k3 k5 newId))(hb:bm.contains (.type "BaseException")=true)(hx:h.get? a=some o)(hc:o.cls=.ref C)(hq:Q () ⟨h,g,d,t,os⟩):wpAny M A (checkBuiltinCall "BaseException.__getattribute__" ⟨[.ref a,nameV],[]⟩) Q E ⟨h,g,d,t,os⟩:=by
 have hk:builtinKind "BaseException.__getattribute__"=some .slot:=by decide +kernel
 have hsplit:splitId "BaseException.__getattribute__"=some ("BaseException","__getattribute__"):=by decide +kernel
 have hcB:(Value.ref C::bm).contains (.type "BaseException")=true:=by rw[List.contains_cons,hb];rfl
 have ha:=F.args_bexc_ga (.ref a) nameV;simp only[checkBuiltinCall,hk,hsplit];refine wpAny_bind ?_
 ·unfold isInstance
  repeat (first|(with_reducible refine wpAny_loadPart_at hx ?_;rw[hc]) | (with_reducible refine wpAny_isSubtype_exc hC ?_;rw[hcB])|wp_step)
  exact hq
theorem nq{tk:Tok}{Q:Fin→Shared→Prop}(hC:h.get? C=some (excClassObj nm q C N bs bm hdct sn sub ab col dd k0 k1 k2 k3 k5 newId))(hb:bm.contains (.type "object")=true)(LC:Looks (model prog w) h (typeLookup (.ref C) "__class__") (some (.builtin "object.__class__")))(hx:h.get? a=some o)(hc:o.cls=.ref C)(hq:Q (.done (.ret (.ref C))) ⟨h,g,d,t,os⟩):
  wpAny (model prog w) A (Builtin.«object.__getattribute__» ⟨[.ref a,.str "__class__" tk],[]⟩) Q E ⟨h,g,d,t,os⟩:=by
 have hT5:(⟨h,g,d,t,os⟩:Shared).TypeIs (.builtin "object.__class__") "getset_descriptor":=F.typeOf_object_class;have f5:=F.typeOf_object_class;have f6:=F.slot_gs_get.lookup;have f7:=F.slot_gs_set.lookup
 repeat (any_goals (first|assumption|(with_reducible refine wpAny_loadPart_at hx ?_;rw[hc])|with_reducible refine LC.at ?_|wp_step))
 refine qX hC hb hx hc ?_
 repeat (any_goals (first|assumption|wp_step))
theorem oF{Q:Option Value→Shared→Prop}(hC:h.get? C=some (excClassObj nm q C N bs bm hdct sn sub ab col dd k0 k1 k2 k3 k5 newId))(hb:bm.contains (.type "object")=true)(hbb:bm.contains (.type "BaseException")=true)(LG:Looks (model prog w) h (typeLookup (.ref C) "__getattribute__") (some (.builtin "BaseException.__getattribute__")))(LA:Looks (model prog w) h (typeLookup (.ref C) "__getattr__") none)(LC:Looks (model prog w) h (typeLookup (.ref C) "__class__") (some (.builtin "object.__class__")))(hx:h.get? a=some o)(hc:o.cls=.ref C)(hq:Q (some (.ref C)) ⟨h,g,d,t+1,os⟩):
  wpAny (model prog w) A (getAttr? (.ref a) "__class__") Q E ⟨h,g,d,t,os⟩:=by
 have f3:=F.attr_ValueError.ga.bind (.ref a);have hx0:(false&&onTheHeap (builtin "BaseException.__getattribute__"))=false:=rfl;have hx2:(builtin "BaseException.__getattribute__"==builtin "object.__getattribute__")=false:=by decide +kernel
 have hx1:(onTheHeap (Value.ref C)&&builtin "BaseException.__getattribute__"==builtin "object.__getattribute__")=false:=by rw[hx2];rfl
 unfold getAttr? getAttrBy?
 repeat (any_goals (first|assumption|(with_reducible refine wpAny_loadPart_at hx ?_;rw[hc])|with_reducible refine LG.at ?_|with_reducible refine LA.at ?_|wp_step))
 refine codeAny_call_builtin F.attr_ValueError.ga.plain F.entry_bexc_ga (si hC hbb hx hc (nq hC hb LC hx hc ?_))
 repeat (any_goals (first|assumption|wp_step))
end
def qY(K:Frag)(C:Addr):Bool:=ktsIn K C "object"&&findIn K (.ref C) "__getattribute__"==some (some (.builtin "BaseException.__getattribute__"))&&findIn K (.ref C) "__getattr__"==some none&&findIn K (.ref C) "__class__"==some (some (.builtin "object.__class__"))
def kt(e C:Addr)(h:Heap):Prop:=∃o vs,h.get? e=some o∧o.cls=.ref C∧o.data=.fields vs
theorem nr{K:Frag}{e C:Addr}(q:qY K C=true):KitX K (.ref e) (.ref C) (kt e C):=by
 unfold qY at q;simp only[and_eq_true,beq_iff_eq]at q;obtain⟨⟨⟨q1,q2⟩,q3⟩,q4⟩:=q;refine⟨λM h X p=>?_,λM h X p=>?_,λh tp dd its n sl X htp=>?_,λ{prog w A E Q s} X p hq=>?_⟩
 ·obtain⟨o,vs,h1,h2,_⟩:=p;exact h2 ▸ (Looks.ld h1).andThen .now
 ·obtain⟨nm,q',N,bs,bm,hdct,sn,sub,ab,col,dd,k0,k1,k2,k3,k5,newId,hC,_,_⟩:=kts_cls X q1;intro A' Q' E' s' k q;unfold isType loadHead;exact wpAny_bind (wpAny_loadPart (k _ _ hC) (wpAny_pure q))
 ·obtain⟨nm,q',N,bs,bm,hdct,sn,sub,ab,col,dd',k0,k1,k2,k3,k5,newId,hC,_,_⟩:=kts_cls X q1;refine Bool.eq_false_iff.mpr λz=>?_;have e:C=tp:=Value.ref.inj (beq_iff_eq.mp z);subst e;have z2:type "type"=type "tuple":=congrArg Obj.cls (Option.some.inj (hC.symm.trans htp));injection z2 with z3
  exact absurd z3 (by decide)
 ·obtain⟨h0,g,d,t,os⟩:=s;obtain⟨o,vs,h1,h2,_⟩:=p;obtain⟨nm,q',N,bs,bm,hdct,sn,sub,ab,col,dd,k0,k1,k2,k3,k5,newId,hC,hb1,hb2⟩:=kts_cls X q1;exact oF hC hb2 hb1 (looks_findIn X q2) (looks_findIn X q3) (looks_findIn X q4) h1 h2 hq
end XI
namespace L2
open PySem PySem.Spec PyProof.Rows
section
variable{X:Cx}{pins:List (Addr×Obj)}{σ:St}{H:Hp}{s:Shared}
abbrev bmV:List Value:=[.type "ValueError",.type "Exception",.type "BaseException",.type "object"]
abbrev yF(X:Cx)(x:Str)(C:Addr):Prop:=OwnCls x C bmV "ValueError.__new__" X.mg X.base
def wV(C:Addr)(E:XK)(ta:TE):TS:=λ_ σ H=>dy ta ly σ H λvs H1=>vs.length≤sizeLine∧E (.ref C) none H1
theorem dW{E:XK}(L:Lv X E){x:Str}{C:Addr}{np cpos pos:Pos}{a:Expr}{ta:TE}(O:yF X x C)(hh:X.A.handled=none)(hg:Gl X x)(ha:PE X a ta)(hs:starEach [a] X.env=[(false,eval a X.env)]:=by rfl)(hd:(x==("__debug__":Str))=false:=by decide):PS X (.Raise (some (.Call (.Name x np) [a] [] cpos)) none pos) (wV C E ta):=by
 intro pins s σ H D I h;obtain⟨tl,N,nm,q,bs,hdct,sn,sub,ab,col,dd,k0,k1,k2,k3,k5,mN,hC,hN,hni,T⟩:=O.obj;refine wpAny_Raise_call_subT (C:=C) (nm:=nm) (q:=q) (N:=N) (bs:=bs) (bm:=tl) (hdct:=hdct) (sn:=sn) (sub:=sub) (ab:=ab) (col:=col) (dd:=dd) (k0:=k0) (k1:=k1) (k2:=k2) (k3:=k3) (k5:=k5)
  PySem.F.excBase_ValueError (mN:=mN) (T.hasType PySem.F.excBase_ValueError.hasBase) hh (by rw[hs];rfl) hni (ja I hg O.bound ⟨rfl,?_⟩ hd)
 have hA:PA X [a] (dy ta ly):=aa ha af hs;have h':=hA cpos pins s σ H (λvs H1=>vs.length≤sizeLine∧E (.ref C) none H1) I h;rw[hs]at h'⊢;refine evalArgs_plain (thn h' λus s2 hpt=>?_);obtain⟨vs,H2,I2,r2,q2⟩:=hpt;exact⟨rfl,by rw[←r2.length];exact q2.1,I2.bk _ _ hC,hN.keeps I2.bk,T.keeps I2.bk,λh' e hx=>yE L I2 hx q2.2⟩
abbrev TX:=St→Hp→VK→XK→Prop
def XP(X:Cx)(pins:List (Addr×Obj))(σ:St)(E:XK)(e:Value)(s':Shared):Prop:=∃ea C H' H1 s1,e=.ref ea∧Inv X pins σ H1 s1∧Fly X.prog X.w X.stack H1 s1 H' ea C s'∧E (.ref C) none H'
def PX(X:Cx)(e:Expr)(t:TX):Prop :=
 ∀(pins:List (Addr×Obj))(s:Shared)(σ:St)(H:Hp)(Q:VK)(E:XK),Inv X pins σ H s→t σ H Q E→wpAny (model X.prog X.w) X.A (eval e X.env) (EP X pins σ Q) (XP X pins σ E) s
def wW(sp:Sp)(t:TA):TX:=λσ H Q E=>t σ H λvs H1=>sp vs H1 Q E
theorem uJ(hno:∀e s,¬X.xe e s){k:Nat}{f:Addr}{fd:FuncData}{ps:List Str}{sp:Sp}{x:Str}{p pos:Pos}{e:Expr}{es:List Expr}{t:TA}(F:FnOk X.prog X.w X.K X.mg X.base (CX1 X.prog X.w) k f fd ps sp)(hr:Room k X.A)(hg:Gl X x)(hm:X.mg x=some (.ref f))(hk:keepIn X.K (.ref f)=true)(hb:dU X.K fd ps [])(ha:PA X (e::es) t)(hdb:(x==("__debug__":Str))=false:=by decide)(he:starEach (e::es) X.env=(false,eval e X.env)::starEach es X.env:=by rfl)(hpl:(backTo pos (starEach es X.env)).any (·.1)=false:=by rfl):
  PX X (.Call (.Name x p) (e::es) [] pos) (wW sp t):=by
 intro pins s σ H Q E I h;refine wpAny_Call_Name_kw (ja I hg hm ?_ hdb);refine callWith_K (h₀:=X.base) I.ok.mod.kin hk (wpAny_mono (ha pos pins s σ H _ I h) (λus s1 ⟨vs,H1,I1,r,q⟩=>⟨I1.kIn,?_⟩) λ_ _ z=>absurd z (hno _ _)) he hpl;have hl:us.length=ps.length:=by rw[←r.length];exact F.len _ _ _ _ q
 have hb':=hb s1 us I1.kIn (by rw[append_nil];exact hl);rw[append_nil]at hb';refine wpAny_call (codeAny_mono (F.run X.A X.stack s1 H1 ⟨us,[]⟩ us vs Q E hr I1.env0 hb' r q) λr s' hq=>?_);cases r with
 |error e =>
  obtain⟨ea,C,H',rfl,fl,hE⟩:=hq;exact⟨ea,C,H',H1,s1,rfl,I1,fl,hE⟩
 |ok fl =>
  cases fl with
  |ret u=>exact I1.after hq
  |next=>exact False.elim hq
  |brk=>exact False.elim hq
  |cont=>exact False.elim hq
theorem pN{M:Model}{A:Around}{E:Value→Shared→Prop}{nm q:Str}{C N:Addr}{bs bm:List Value}{hdct:Bool}{sn:List Str}{sub:List Value}{ab:Bool}{col:Option Bool}{dd:Option Addr}{k0 k1 k2 k3 k5:Option Value}{newId:String}{h:Heap}{g:Array GenState}{d:Drawn}{t:Nat}{os:OsState}{e T:Addr}{oe:Obj}{Q:Bool→Shared→Prop}(hT:h.get? T=some (excClassObj nm q T N bs bm hdct sn sub ab col dd k0 k1 k2 k3 k5 newId))(hbase:bm.contains (.type "BaseException")=true)(LCT:PySem.W.Looks M h (isSubtype (.ref C) (.ref T)) true)(he:h.get? e=some oe)(hcls:oe.cls=.ref C)(hq:Q true ⟨h,g,d,t,os⟩):wpAny M A (excMatches (.ref e) (.ref T)) Q E ⟨h,g,d,t,os⟩:=by
 have hcB:(Value.ref T::bm).contains (.type "BaseException")=true:=by rw[List.contains_cons,hbase,Bool.or_true]
 have f:=tc_notTuple;unfold excMatches
 repeat (first|(with_reducible refine wpAny_loadPart_at he ?_;rw[hcls])|with_reducible refine LCT.at ?_|with_reducible refine wpAny_loadPart_at hT ?_|(with_reducible refine wpAny_isSubtype_exc hT ?_;rw[hcB])|wp_step)
 exact hq
theorem Inv.forget(I:Inv X pins σ H s){l:Nat}{n:Str}{h':Heap}{m:Str→Option Value}{v:Option Value}{tk:Nat}(hN:X.N.Nodup)(hl:X.N[l]?=some n)(hm:s.heap.Ns X.env.locals m)(hn':h'.Ns X.env.locals (λx=>if x=n then v else m x))(hs:SameBut X.env.locals s.heap h'):Inv X pins (σ.set l none) H {s with heap:=h',toks:=tk}:=by
 obtain⟨m0,hn,hlk⟩:=id I.loc;have em:∀x,m0 x=m x:=λx=>by
  obtain⟨o,es,ep,e1,e2,e3,e4⟩:=hn;obtain⟨o',es',ep',f1,f2,f3,f4⟩:=hm;rw[e1]at f1;cases f1;rw[e2]at f2;cases f2;rw[←e4,←f4]
 have hlσ:l<σ.length:=by rw[I.len];exact(List.getElem?_eq_some_iff.mp hl).1
 have cne:=I.cne;have ne:∀b o,X.s₀.heap.get? b=some o→b≠X.env.locals:=λb o e=>ne_of_lt (lt_of_lt_of_le (lt_size e) I.ok.above);refine⟨I.ok,I.os,I.bare,⟨λb o e n hb hx=>(hs.2 b (ne b o e)).trans (I.base.keep b o e n hb hx),λb o e n hb hx=>?_,I.base.free,λb o e hx=>?_,I.base.tups,I.base.frzs,I.base.tbls⟩,⟨_,hn',λj y v' e1 e2 e3=>?_⟩,λy c e=>?_,I.free,I.freeC,λp hp=>?_,λb ob e=>?_,by simpa using I.len⟩
 ·obtain⟨sl,e1⟩:=I.base.slot b o e n hb hx;exact⟨sl,(hs.2 b (ne b o e)).trans e1⟩
 ·obtain⟨o',e1⟩:=I.base.there b o e hx;exact⟨o',(hs.2 b (ne b o e)).trans e1⟩
 ·by_cases hj:j=l
  ·subst hj;rw[getElem?_set_self hlσ]at e2;cases e2
  ·rw[List.getElem?_set_ne (symm hj)]at e2;obtain⟨u',r',q⟩:=hlk j y v' e1 e2 e3;refine⟨u',r',?_⟩;rcases q with⟨k,e⟩|⟨k,c,e,z⟩
   ·refine .inl ⟨k,?_⟩;have hy:y≠n:=λe=>hj (jk hN e1 (e ▸ hl));show(if y=n then v else m y)=some u';rw[if_neg hy,←em];exact e
   ·exact .inr ⟨k,c,e,z.sameBut hs (cne y c e)⟩
 ·obtain⟨w',z⟩:=I.cell y c e;exact⟨w',z.sameBut hs (cne y c e)⟩
 ·obtain⟨p1,p2,p3,p4,p5⟩:=I.pin p hp;exact⟨(hs.2 p.1 p3).trans p1,p2,p3,p4,p5⟩
 ·refine(I.hok b ob e).stay (λc w' hc q=>(hs.2 c ?_).trans q) (λ_ q=>q) λ_ _ q=>q;rintro rfl;rcases hc with hc|hc
  ·rw[←hc,I.free]at e;cases e
  ·rw[I.free]at hc;cases hc
theorem Inv.caught{H':Hp}{ea C:Addr}{s':Shared}{B h6:Heap}{a0:Value}(I:Inv X pins σ H s)(F:Fly X.prog X.w X.stack H s H' ea C s')(fl:FlyingW B X.stack ea (.ref C) a0 s'.heap)(hB:HOk X.prog X.w H' B)(kp:∀b o,s.heap.get? b=some o→H b=none→b∉frs X.stack→B.get? b=some o)(th:∀b o,s.heap.get? b=some o→b∉frs X.stack→∃o',B.get? b=some o')(f6:FlyingW B X.stack ea (.ref C) a0 h6)(hs:s'.heap.UpToSlots h6):
  Inv X pins σ (upd H' ea (.ext (XI.kt ea C))) {s' with heap:=h6}:=by
 obtain⟨u,ok⟩:=nh F.un fl hB kp th f6.1 hs;obtain⟨oe,vs,g1,g2,g3,_⟩:=f6.first;have ne:∀b o,s.heap.get? b=some o→b≠ea:=λb o e z=>by
  by_cases hb:b∈frs X.stack
  ·obtain⟨_,o',ho',hd⟩:=f6.2.2.1.mem hb;rw[z,g1]at ho';cases ho';exact hd _ g3
  ·obtain⟨o',q⟩:=th b o e hb;rw[z,f6.2.1]at q;cases q
 have ner:∀b u,H' b=some u→b≠ea:=λb u e z=>by rw[z,F.new]at e;cases e
 refine I.call' (s':={s' with heap:=h6}) F.os ⟨u.keep,u.slot,λb o e n hx=>?_,u.there,λb xs e=>?_,λb o v e=>?_,λb ps e=>?_⟩ (λb ob e=>?_) F.bare λb z=>absurd z (by simp)
 ·rw[ao (ne b o e)];exact u.free b o e n hx
 ·have:=u.tups b xs e;rw[ao (ner b _ this)];exact this
 ·have:=u.frzs b o v e;rw[ao (ner b _ this)];exact this
 ·obtain⟨more,this⟩:=u.tbls b ps e;exact⟨more,by rw[ao (ner b _ this)];exact this⟩
 ·by_cases hb:b=ea
  ·subst hb;rw[ac]at e;cases e;refine⟨⟨oe,vs,g1,g2,g3⟩,⟨oe,g1⟩,λh1 h2 ⟨o,vs,a1,a2,a3⟩ k=>⟨o,vs,k o a1,a2,a3⟩⟩
  ·rw[ao hb]at e;exact(ok b ob e).stay (λ_ _ _ q=>q) (λc q=>by rw[ao (ner c _ q)];exact q) λc xs q=>by rw[ao (ner c _ q)];exact q
structure TryOk(X:Cx):Prop where
 no:∀e s,¬X.xe e s
 stk:X.stack=X.env::X.outer
 fr:X.env.frame=some X.env.locals
def zA(i j l:Nat)(T:Addr)(K:PySem.W.Frag)(te:TX):TS:=λD σ H=>te σ H (λv H1=>D.nx (σ.set i (some v)) H1)
 (λcl _ H'=>∃C,cl=.ref C∧subIn K (.ref C) (.ref T)=some true∧∀ea,H' ea=none→D.nx (((σ.set l (some (.ref ea))).set j (some (.ref ea))).set l none) (upd H' ea (.ext (XI.kt ea C))))
theorem wX(Y:TryOk X){i j l:Nat}{a b n x:Str}{T:Addr}{e:Expr}{te:TX}{pa pb pn px p1 p2 p3 p4:Pos}(hN:X.N.Nodup)(hi:X.N[i]?=some a)(hj:X.N[j]?=some b)(hl:X.N[l]?=some n)(la:X.env.scope.names.lookup a=some .local)(lb:X.env.scope.names.lookup b=some .local)(ln:X.env.scope.names.lookup n=some .local)(he:PX X e te)(hg:Gl X x)(hm:X.mg x=some (.ref T))(hT:PySem.W.ktsIn X.K T "BaseException"=true)(hs:swapsWith e (some (.Name a pa)) p1.line X.env=pure false:=by rfl)(hs2:swapsWith (.Name n pn) (some (.Name b pb)) p2.line X.env=pure false:=by rfl)(hdx:(x==("__debug__":Str))=false:=by decide)(hdn:(n==("__debug__":Str))=false:=by decide):
  PS X (.Try [.Assign [.Name a pa] e p1] [.ExceptHandler (some (.Name x px)) (some n) [.Assign [.Name b pb] (.Name n pn) p2] p3] [] [] p4) (zA i j l T X.K te):=by
 intro pins s σ H D I h;refine wpAny_Try_except ?_;refine wpAny_execs_cons (wpAny_Assign_Name (wpAny_mono (he pins s σ H _ _ I h) (λv s1 ⟨y,H1,I1,r1,q1⟩=>?_) λev s1 hx=>?_) hs)
 ·exact eR I1 hN hi (.inl la) r1 (λs2 I2=>wpAny_execs_nil (wpAny_execs_nil ⟨_,H1,I2,q1⟩)) (.inr la)
 ·obtain⟨ea,C,H',H1,s0,rfl,I1,F,⟨C',eC,hsub,hk⟩⟩:=hx;cases eC;obtain⟨B,a0,fl,hB,kp,th⟩:=id F.fly;have frm:X.A.frames=some (X.env::X.outer):=by rw[I1.ok.frames,Y.stk]
  have fl':=fl;rw[Y.stk]at fl';refine wpAny_looks_onW frm Y.fr fl' λh4 held4 hs4=>?_;refine wpAny_landsW held4 λh5 fl5 hs5=>?_;have sm5:s1.heap.UpToSlots h5:=hs4.trans hs5;have fl5':FlyingW B X.stack ea (.ref C) a0 h5:=by rw[Y.stk];exact fl5
  have J5:=I1.caught F fl hB kp th fl5' sm5;obtain⟨ob,hob,hobc⟩:=fl5.there;obtain⟨nm,q',N,bs,bm,hdct,sn,sub,ab,col,dd,k0,k1,k2,k3,k5,newId,hTo,hbase,_⟩:=PySem.W.kts_cls J5.kIn hT;obtain⟨hp1,g1,d1,t1,os1⟩:=s1;refine wpAny_handleBy_cons (codeAny_handlers_test ?_) (by intro q;cases q);refine Name_function_global J5.ok.kind hg (Calls.loadGlobal_global (by rw[J5.ok.glob];exact J5.mod.glob.keeps J5.bk) hm ?_) hdx;refine pN hTo hbase (looks_subIn J5.kIn hsub) hob hobc ?_;refine codeAny_handlers_suite_as ?_;refine lands_againW (s:=⟨h5,g1,d1,t1,os1⟩) fl5 λh6 fl6 hs6=>?_;have fl6':FlyingW B X.stack ea (.ref C) a0 h6:=by rw[Y.stk];exact fl6
  have J6:=I1.caught F fl hB kp th fl6' (sm5.trans hs6);refine eR J6 hN hl (.inl ln) (v:=.ref ea) rfl (λs2 J7=>?_) (.inr ln);obtain⟨m7,hn7,lk7⟩:=id J7.loc;have hlσ:l<σ.length:=by rw[I.len];exact(List.getElem?_eq_some_iff.mp hl).1
  obtain⟨u7,r7,q7⟩:=lk7 l n (.ref ea) hl (getElem?_set_self hlσ) (.inl ln);cases (show u7=Value.ref ea from r7);have hm7:X.env.kindOf n=some .local∧m7 n=some (.ref ea):=by
   rcases q7 with z|⟨z,_⟩
   ·exact z
   ·exfalso
    have z':X.env.scope.names.lookup n=some .cell∨X.env.scope.names.lookup n=some .free:=z;rw[ln]at z';rcases z' with z'|z'<;>cases z'
  refine wpAny_execs_cons (wpAny_Assign_Name (wpAny_Name (wpAny_loadName_local J7.ok.kind hm7.1 hn7 hm7.2 ?_) hdn) hs2);refine eR J7 hN hj (.inl lb) (v:=.ref ea) rfl (λs3 J8=>wpAny_execs_nil ?_) (.inr lb);obtain⟨m8,hn8,_⟩:=id J8.loc;have hcls:(X.env.scope.kind==.class||(X.env.scope.kind==.module&&X.env.locals != X.env.globals))=false:=by rw[J8.ok.kind];rfl
  refine wpAny_nameGoes_keeps hm7.1 hn8 hcls λh9 v9 hn9 hs9=>?_;exact⟨_,_,J8.forget hN hl hn8 hn9 hs9,hk ea F.new⟩
end
end L2
namespace DL
open PySem PySem.Spec PyProof.Rows
theorem jx:entryFor table "dict.update.loop"=some Builtin.«dict.update.loop»:=entryFor_of_tree (by kernel_rfl)
theorem ff:plainId "dict.update.loop"=true:=by decide +kernel
theorem lJ:typeLookup (.type "list") "keys"=pure none:=by rw[typeLookup_type,builtinLookup_eq_fast];kernel_rfl
section
variable{prog:Program}{w:World}{A:Around}{E:Value→Shared→Prop}{s:Shared}
theorem uK{a:Addr}{xs:Array Value}{k:Nat}{sl:Array (Option Value)}{u:Tok}{Q:Value→Shared→Prop}(hx:s.heap.get? a=some {cls:=.type "list",dict:=none,data:=.seq xs k,slots:=sl})(hA:A.handled=none)(h:∀h' tk e,Heap.NewExcOf s.heap h' e "AttributeError"→E (.ref e) {s with heap:=h',toks:=tk}):
  wpAny (model prog w) A (getAttrBy (.ref a) (.str "keys" u) false) Q E s:=by
 obtain⟨hp,g,d,tk,os⟩:=s;have hT:∀tk',(⟨hp,g,d,tk',os⟩:Shared).TypeIs (.ref a) "list":=λ_=>⟨_,hx,rfl⟩;have f1:=sub_AttributeError;have f3:=F.slot_list_getattribute.lookup;have f4:=F.slot_list_getattribute.bind (.ref a);have f5:=am_list_getattr_none;unfold getAttrBy
 repeat (any_goals (first|assumption|exact hT _|((with_reducible show wpAny _ _ (call (builtin "list.__getattribute__") _ _) _ _ _);refine call_meets F.slot_list_getattribute (hT _) am_entry_list_getattribute (F.args_list_getattribute_2 _ _) (meets_getattribute_miss_list a xs k sl "keys" _ lJ (by decide) (by size_fits)) ⟨hx,hA,λh' tk' e hx'=>?_⟩)|wp_step))
 obtain⟨t',u',he⟩:=hx'.there;show wpAny _ _ (getattributeRaised _ _ _ _ _ _ _) _ _ _;unfold getattributeRaised
 repeat (any_goals (first|assumption|wp_step))
 exact h _ _ _ hx'.of
theorem uL{a:Addr}{xs:Array Value}{k:Nat}{sl:Array (Option Value)}{Q:Option Value→Shared→Prop}(hx:s.heap.get? a=some {cls:=.type "list",dict:=none,data:=.seq xs k,slots:=sl})(hA:A.handled=none)(h:∀h' tk,(∀b o,s.heap.get? b=some o→h'.get? b=some o)→Q none {s with heap:=h',toks:=tk}):
  wpAny (model prog w) A (getAttr? (.ref a) "keys") Q E s:=by
 obtain⟨hp,g,d,tk,os⟩:=s;have f1:=sub_AttributeError;unfold getAttr? getAttrBy?
 repeat (any_goals (first|assumption|((with_reducible show wpAny _ _ (getAttrBy _ _ false) _ _ _);refine uK (s:=⟨hp,g,d,_,os⟩) hx hA λh' tk' e hx'=>?_)|wp_step))
 obtain⟨⟨oc,od,odt,osl⟩,vs,he,hc,_,_⟩:=hx'.there;simp only at hc;subst hc
 repeat (any_goals (first|assumption|with_reducible refine wpAny_loadPart_at he ?_|wp_step))
 exact h h' tk' λb o e=>hx'.keeps b o e
end
section
variable{prog:Program}{w:World}{A:Around}{E:Value→Shared→Prop}{R:Result→Shared→Prop}{I:Addr}{fp wr:List Addr}{G:Array GenState→Array GenState→Prop}{n:Nat}{P:Nat→Value→Prop}{St:Nat→Shared→Prop}
theorem qZ(W:WalksS prog w A.in1 I fp wr G n P St)(d:Addr)(hdf:d∉fp)(ad:Nat→Addr)(kk vv:Nat→Value)(hval:∀i v,P i v→v=.ref (ad i))(had:∀i,i<n→ad i∉d::wr)(D:Nat→Heap→Prop)(hD:∀i (h h':Heap),D i h→(∀b o,b∉wr→h.get? b=some o→h'.get? b=some o)→D i h')(step:∀i (s:Shared) (E:Value→Shared→Prop) (Q:Unit→Shared→Prop),i<n→D i s.heap→(∀h' tk,s.toks≤tk→SameBut d s.heap h'→D (i+1) h'→Q () {s with heap:=h',toks:=tk})→wpAny (model prog w) A.in1 (dictSet d (kk i) (vv i)) Q E s):
  ∀(k i:Nat)(s:Shared)(tk:Tok),n-i=k→i≤n→St i s→D i s.heap→(∀j,j<n→IsTup s.heap (ad j) #[kk j,vv j]) →
   (∀s',Moved (d::wr) G s s'→D n s'.heap→R (.ok (.ret .none)) s') →
   codeAny (model prog w) A (.builtin "dict.update.loop" ⟨[.ref d,.ref I,.int i tk,.none],[]⟩) R s:=by
 have hdw:d∉wr:=λh=>hdf (W.sub _ h);have hsub:∀b∈wr,b∈d::wr:=λb hb=>mem_cons_of_mem _ hb;have hadw:∀i,i<n→ad i∉wr:=λi hi h=>had i hi (mem_cons_of_mem _ h);have hadd:∀i,i<n→ad i≠d:=λi hi h=>had i hi (by rw[h];exact mem_cons_self);intro k
 induction k with
 |zero =>
  intro i s tk hk hi hst hDi htp hR;have hin:i=n:=by omega
  subst hin;refine codeAny_builtin jx ?_;rw[Around.under_plainId ff _];show wpAny _ A.in1 (pyNext (.ref I) >>= _) _ _ s;refine wpAny_bind (W.done s _ _ hst λs' hm=>?_);show wpAny _ A.in1 (Builtin.Dict.addKeywords d [] >>= λ_=>ret Value.none) _ _ s';exact wpAny_bind (wpAny_pure (wpAny_pure (hR s' (hm.mono hsub) (hD _ _ _ hDi hm.heap))))
 |succ k ih =>
  intro i s tk hk hi hst hDi htp hR;have hlt:i<n:=by omega
  refine codeAny_builtin jx ?_;rw[Around.under_plainId ff _];show wpAny _ A.in1 (pyNext (.ref I) >>= _) _ _ s;refine wpAny_bind (W.item i s _ _ hlt hst λv s' hP hst' hm=>?_);have hv:=hval i v hP;subst hv;have hDi':D i s'.heap:=hD _ _ _ hDi hm.heap;have htp':∀j,j<n→IsTup s'.heap (ad j) #[kk j,vv j]:=λj hj=>by
   obtain⟨o,ho,r⟩:=htp j hj;exact⟨o,hm.heap _ o (hadw j hj) ho,r⟩
  obtain⟨ot,hot,hct,nt,hdt⟩:=htp' i hlt;have hT:s'.TypeIs (.ref (ad i)) "tuple":=⟨ot,hot,hct⟩;refine wpAny_bind (wpAny_holding ?_);refine wpAny_bind (wpAny_tryCatch ?_);unfold Builtin.Dict.pairItems;refine wpAny_bind (wpAny_typeOf hT ?_);rw[if_pos (by decide)];generalize hDS:dictSet=DS;obtain⟨hp,g,dr,t,os⟩:=s';obtain⟨ocls,odict,odata,oslots⟩:=ot;simp only at hct hdt;subst hct hdt
  repeat (any_goals (first|assumption|with_reducible refine wpAny_loadPart_at hot ?_|wp_step))
  subst hDS;refine step i _ _ _ hlt hDi' λh' tk' htk hsb hD'=>?_;have hsb':SameBut d hp h':=hsb;have hkeep:∀b o,b∉d::wr→hp.get? b=some o→h'.get? b=some o:=λb o hb e=>by
   rw[hsb'.2 b (λz:b=d=>hb (by rw[z];exact mem_cons_self))];exact e
  refine wpAny_pure ⟨plainId_quiet ff _,?_⟩;refine ih (i+1) _ _ (by omega) hlt (W.frame _ _ _ _ hst' htk λb hb o e=>?_) hD' (λj hj=>?_) λs'' hm'' hD''=>?_
  ·rw[hsb'.2 b (λh:b=d=>hdf (by rw[←h];exact hb))];exact e
  ·obtain⟨o,ho,r⟩:=htp' j hj;exact⟨o,hkeep _ o (had j hj) ho,r⟩
  ·exact hR s'' (Moved.trans W.gtrans ((hm.mono hsub).then_heap htk λb o hb e=>hkeep b o hb e) hm'') hD''
end
section
variable{prog:Program}{w:World}{A:Around}{E:Value→Shared→Prop}{s:Shared}
theorem fY{l:Addr}{items:Array Value}{nl:Nat}{sl:Array (Option Value)}{Q:Value→Shared→Prop}(hh:A.handled=none)(hl:s.heap.get? l=some {cls:=.type "list",dict:=none,data:=.seq items nl,slots:=sl})(ad:Nat→Addr)(kk vv:Nat→Value)(hi:∀(i:Nat) (v:Value),items[i]?=some v→v=Value.ref (ad i))(ht:∀i,i<items.size→IsTup s.heap (ad i) #[kk i,vv i])(D:Nat→Heap→Prop)(hD0:∀h',h'.get? s.heap.objs.size=some {cls:=.type "dict",data:=.dict #[]}→(∀b o,s.heap.get? b=some o→h'.get? b=some o)→D 0 h')(hD:∀i (h h':Heap),D i h→(∀b o,b≤s.heap.objs.size→h.get? b=some o→h'.get? b=some o)→D i h')(step:∀i (s':Shared) (E:Value→Shared→Prop) (Q:Unit→Shared→Prop),i<items.size→D i s'.heap→(∀h' tk,s'.toks≤tk→SameBut s.heap.objs.size s'.heap h'→D (i+1) h'→Q () {s' with heap:=h',toks:=tk}) →
   wpAny (model prog w) A.in1.in1 (dictSet s.heap.objs.size (kk i) (vv i)) Q E s')(h:∀h' tk,D items.size h'→(∀b o,s.heap.get? b=some o→h'.get? b=some o)→Q (.ref s.heap.objs.size) {s with heap:=h',toks:=tk}):
  wpAny (model prog w) A (call (.type "dict") [.ref l]) Q E s:=by
 refine callType_codes (Q₁:=λobj s₁=>obj=.ref s.heap.objs.size∧s₁={s with heap:=s.heap.push {cls:=.type "dict",data:=.dict #[]}}) F.kt_called_dict (F.kt_typeCall_dict_1 _) F.entry_dict_init (kt_code_dict_new _ ⟨rfl,rfl⟩) ?_;rintro obj s₁ ⟨rfl,rfl⟩;have hnew:(s.heap.push {cls:=.type "dict",data:=.dict #[]}).get? s.heap.objs.size=some {cls:=.type "dict",data:=.dict #[]}:=get?_push_size _ rfl;have hTd:Shared.TypeIs {s with heap:=s.heap.push {cls:=.type "dict",data:=.dict #[]}} (.ref s.heap.objs.size) "dict":=⟨_,hnew,rfl⟩
 have hl':(s.heap.push {cls:=.type "dict",data:=.dict #[]}).get? l=some {cls:=.type "list",dict:=none,data:=.seq items nl,slots:=sl}:=get?_push_of_some _ hl;have hTl:Shared.TypeIs {s with heap:=s.heap.push {cls:=.type "dict",data:=.dict #[]}} (.ref l) "list":=⟨_,hl',rfl⟩
 refine⟨hTd,F.args_dict_init_2 _ _,?_⟩;unfold Builtin.«dict.__init__»;refine wpAny_bind ?_;unfold Builtin.Dict.selfAndRest;refine wpAny_bind (wpAny_notOrdered_dict hTd ?_);show wpAny _ _ (pure (s.heap.objs.size,[Value.ref l])) _ _ _;refine wpAny_pure ?_;show wpAny _ _ (Builtin.Dict.updateFrom "dict.__init__" s.heap.objs.size (.ref l) [] .none) _ _ _;unfold Builtin.Dict.updateFrom;refine wpAny_bind (wpAny_typeOf hTl ?_);rw[if_pos (by decide)];refine wpAny_bind (uL (s:={s with heap:=s.heap.push {cls:=.type "dict",data:=.dict #[]}}) hl' (show A.in1.in1.handled=none by simp[hh]) λh1 tk1 hk1=>?_);have hk1':∀b o,(s.heap.push {cls:=.type "dict",data:=.dict #[]}).get? b=some o→h1.get? b=some o:=hk1;have hL1:h1.IsList l items:=⟨_,hk1' _ _ hl',rfl,nl,rfl⟩;rw[if_pos (show(none:Option Value).isNone=true from rfl)];refine wpAny_bind (wpAny_rule ?_);refine wpAny_bind (wpAny_pyIter_list hL1 ?_);have hlS:l<s.heap.objs.size:=lt_size hl;have hS1:s.heap.objs.size<h1.objs.size:=lt_size (hk1' _ _ hnew);have k0:∀b o,s.heap.get? b=some o→h1.get? b=some o:=λb o e=>hk1' b o (get?_push_of_some _ e);have hadlt:∀i,i<items.size→ad i<s.heap.objs.size:=λi hi'=>by
  obtain⟨o,ho,_⟩:=ht i hi';exact lt_size ho
 refine wpAny_pure ⟨plainId_quiet ff _,qZ (A:=A.in1) ((Walks.list (show A.in1.in1.handled=none by simp[hh]) h1.objs.size l (ne_of_lt (lt_trans hlS hS1)) items).toS) s.heap.objs.size ?hdf ad kk vv hi ?had D ?hD' (λi s' E Q hi' hDi hq=>step i s' E Q hi' hDi hq)
  (items.size-0) 0 _ 0 (by omega) (zero_le _) ⟨⟨_,get?_push_size _ rfl,rfl,rfl⟩,hL1.push _⟩ ?hD0' ?ht' λs' hm hDn=>?_⟩
 case hdf =>
  simp only[mem_cons,not_mem_nil,or_false,not_or];exact⟨ne_of_lt hS1,Nat.ne_of_gt hlS⟩
 case had =>
  intro i hi';simp only[mem_cons,not_mem_nil,or_false,not_or];exact⟨ne_of_lt (hadlt i hi'),ne_of_lt (lt_trans (hadlt i hi') hS1)⟩
 case hD' =>
  intro i g g' hDi hk;refine hD i g g' hDi λb o hb e=>hk b o ?_ e;simp only[mem_cons,not_mem_nil,or_false];exact ne_of_lt (lt_of_le_of_lt hb hS1)
 case hD0' =>
  exact hD0 _ (get?_push_of_some _ (hk1' _ _ hnew)) λb o e=>get?_push_of_some _ (k0 b o e)
 case ht' =>
  intro j hj;obtain⟨o,ho,r⟩:=ht j hj;exact⟨o,get?_push_of_some _ (k0 _ _ ho),r⟩
 obtain⟨h',g',d',tk',os'⟩:=s';have eg:g'=s.gens:=hm.gens;have ed:d'=s.drawn:=hm.drawn;have eo:os'=s.os:=hm.os;subst eg;subst ed;subst eo;refine⟨rfl,h h' tk' hDn λb o e=>?_⟩;have hb:b<s.heap.objs.size:=lt_size e;refine hm.heap b o ?_ (get?_push_of_some _ (k0 b o e));simp only[mem_cons,not_mem_nil,or_false,not_or];exact⟨ne_of_lt hb,ne_of_lt (lt_trans hb hS1)⟩
end
end DL
namespace L2
open PySem PySem.Spec PyProof.Rows
section
variable{X:Cx}
theorem wY{pins:List (Addr×Obj)}{σ:St}{H:Hp}{s:Shared}(I:Inv X pins σ H s){a:Addr}{x y:V}(h:H a=some (.tup [x,y])):∃u v,aX x u∧aX y v∧IsTup s.heap a #[u,v]:=by
 obtain⟨_,its,r,ht⟩:=I.hok a _ h;cases r with
 |cons r1 r =>
  cases r with
  |cons r2 r=>cases r;exact⟨_,_,r1,r2,by simpa using ht⟩
theorem nv{κ:Type}{pins:List (Addr×Obj)}{σ:St}{H:Hp}{s:Shared}(I:Inv X pins σ H s){zs:List (Addr×κ×V)}(kf:Addr×κ×V→V)(hk:∀z∈zs,H z.1=some (.tup [kf z,z.2.2])):
  ∃f:Addr×κ×V→Value×Value,∀z∈zs,aX (kf z) (f z).1∧aX z.2.2 (f z).2∧IsTup s.heap z.1 #[(f z).1,(f z).2]:=by
 have hch:∀z:Addr×κ×V,∃p:Value×Value,z∈zs→aX (kf z) p.1∧aX z.2.2 p.2∧IsTup s.heap z.1 #[p.1,p.2]:=λz=>by
  by_cases hz':z∈zs
  ·obtain⟨u,v,a,b,c⟩:=wY I (hk z hz');exact⟨(u,v),λ_=>⟨a,b,c⟩⟩
  ·exact⟨(.none,.none),λh=>absurd h hz'⟩
 exact⟨λz=>Classical.choose (hch z),λz hz=>Classical.choose_spec (hch z) hz⟩
theorem dX{α:Type}{l:List α}{i:Nat}{d:α}(h:i<l.length):l.getD i d∈l∧l[i]?=some (l.getD i d):=by
 rw[getD_eq_getElem?_getD,getElem?_eq_getElem h];exact⟨getElem_mem h,rfl⟩
theorem ku{κ:Type}{zs:List (Addr×κ×V)}{d:Addr×κ×V}{i:Nat}{v:Value}(h:(((zs.map (·.1)).map Value.ref).toArray)[i]?=some v):v=Value.ref (zs.getD i d).1:=by
 have h':((zs.map (·.1)).map Value.ref)[i]?=some v:=by simpa using h
 rw[getElem?_map,getElem?_map]at h';rw[getD_eq_getElem?_getD];cases e:zs[i]? with
 |none=>rw[e]at h';cases h'
 |some z=>rw[e]at h';exact(Option.some.inj h').symm
theorem bG{α:Type}{l:List α}{i:Nat}{x:α}(h:l[i]?=some x):l.take (i+1)=l.take i++[x]:=by rw[take_succ,h];rfl
theorem rb{α κ:Type}{l:List α}{f:α→κ}{i:Nat}{x:α}(hn:(l.map f).Nodup)(h:l[i]?=some x):f x∉(l.take i).map f:=by
 intro hm;obtain⟨y,hy,e⟩:=mem_map.mp hm;obtain⟨j,hj,e2⟩:=List.mem_iff_getElem.mp hy;have hj':j<i:=by rw[length_take]at hj;omega
 have hi:i<l.length:=(List.getElem?_eq_some_iff.mp h).1;have e3:(l.map f)[j]'(by rw[length_map];omega)=(l.map f)[i]'(by rw[length_map];omega):=by
  rw[List.getElem_map,List.getElem_map];rw[List.getElem_take]at e2;rw[e2,e,(List.getElem?_eq_some_iff.mp h).2]
 have:=(getElem_inj hn).mp e3;omega
theorem iU(hc:X.calm=true):dg X (.type "dict") (λxs H Q=>∃l,∃zs:List (Addr×Key×V),xs=[.ref l]∧H l=some (.lst ((zs.map (·.1)).map V.ref))∧(∀z∈zs,H z.1=some (.tup [kV z.2.1,z.2.2]))∧zs.length≤1000 ∧
  (zs.map (·.2.1)).Nodup∧((∀d o,H d=none→Q (.ref d) (upd H d (.frz o (.dK (zs.map (·.2))))))∨∀d,H d=none→Q (.ref d) (upd H d (.dK (zs.map (·.2)))))):=by
 intro pins s σ H xs us Q I r h;obtain⟨l,zs,rfl,hl,hk,hz,hnd,q⟩:=h;obtain⟨u,rfl,ru⟩:=fz r;cases ru;obtain⟨_,its,nl,rv,ho⟩:=I.hok l _ hl;have e:=dQ rv;subst e;obtain⟨f,hf⟩:=nv I (λz=>kV z.2.1) hk;have hsz:(((zs.map (·.1)).map Value.ref).toArray).size=zs.length:=by simp
 refine DL.fY (s:=s) (I.ok.hd hc) ho (λi=>(zs.getD i (0,.inl 0,.non)).1) (λi=>(f (zs.getD i (0,.inl 0,.non))).1) (λi=>(f (zs.getD i (0,.inl 0,.non))).2) (λi v hv=>ku hv) (λi hi=>?_)
  (λi h'=>h'.DictOf (bb X.prog X.w) s.heap.objs.size ((zs.take i).map λz=>(z.2.1,(f z).2))) (λh' hg _=>?_) (λi g g' hd hk=>?_) (λi s' E Q hi hd hq=>?_) λh' tk hd hkeep=>?_
 ·rw[hsz]at hi;exact(hf _ (dX hi).1).2.2
 ·exact⟨_,#[],0,hg,⟨rfl,rfl,rfl⟩,rfl,λ_ he=>by simp at he,Pairs.nil,nodup_nil⟩
 ·obtain⟨o,es,ep,ho,r⟩:=hd;exact⟨o,es,ep,hk _ o (le_refl _) ho,r⟩
 ·rw[hsz]at hi;obtain⟨hm,hg⟩:=dX (d:=((0,.inl 0,.non):Addr×Key×V)) hi;refine wpAny_dictSet_pairs (hsz:=by rw[length_map,length_take];have:=aJ hz;omega) (k:=(zs.getD i (0,.inl 0,.non)).2.1) (gL (hf _ hm).1) hd λh' hd' hs=>hq h' _ (le_succ _) hs ?_;have e1:=bG hg;have e2:=rb hnd hg;rw[e1,map_append];unfold stored at hd';rw[if_neg]at hd'
  ·exact hd'
  ·intro ha;obtain⟨p,hp,he⟩:=any_eq_true.mp ha;obtain⟨z,hz',rfl⟩:=mem_map.mp hp;exact e2 (mem_map.mpr ⟨z,hz',of_decide_eq_true he⟩)
 ·rw[hsz,take_length]at hd;obtain⟨ob,hob⟩:∃ob,h'.get? s.heap.objs.size=some ob:=let⟨o,_,_,ho,_⟩:=hd;⟨o,ho⟩;have hrel:KV (zs.map (·.2)) (zs.map λz=>(z.2.1,(f z).2)):=by
   have:∀ys:List (Addr×Key×V),(∀z∈ys,z∈zs)→KV (ys.map (·.2)) (ys.map λz=>(z.2.1,(f z).2)):=by
    intro ys
    induction ys with
    |nil=>intro _;exact .nil
    |cons z ys ih=>intro hm;exact .cons ⟨rfl,(hf z (hm z (by simp))).2.1⟩ (ih λy hy=>hm y (by simp[hy]))
   exact this zs λz hz=>hz
  have hdk:∀H':Hp,bQ X.prog X.w H' h' s.heap.objs.size (.dK (zs.map (·.2))):=λH'=>jt (le_of_lt (aJ (by rw[length_map];exact hz))) (beq_eq_false_iff_ne.mpr (symm (ne_of_lt I.big))) hrel hd;rcases q with q|q
  ·exact⟨.ref s.heap.objs.size,_,I.laid (t':=tk) (o:=.frz ob (.dK (zs.map (·.2)))) hkeep (le_refl _) ⟨hob,hdk _⟩,rfl,q _ ob (I.hok.fresh (le_refl _))⟩
  ·exact⟨.ref s.heap.objs.size,_,I.laid (t':=tk) (o:=.dK (zs.map (·.2))) hkeep (le_refl _) (hdk _),rfl,q _ (I.hok.fresh (le_refl _))⟩
theorem oG(hc:X.calm=true):dg X (.type "dict") (λxs H Q=>∃l,∃zs:List (Addr×Key×V),xs=[.ref l]∧H l=some (.lst ((zs.map (·.1)).map V.ref))∧(∀z∈zs,H z.1=some (.tup [kV z.2.1,z.2.2]))∧zs.length≤1000∧(zs.map (·.2.1)).Nodup∧∀d o,H d=none→Q (.ref d) (upd H d (.frz o (.dK (zs.map (·.2)))))) :=
 λpins s σ H xs us Q I r ⟨l,zs,h1,h2,h3,h4,h5,q⟩=>iU hc pins s σ H xs us Q I r ⟨l,zs,h1,h2,h3,h4,h5,.inl q⟩
theorem fZ(hc:X.calm=true):dg X (.type "dict") (λxs H Q=>∃l,∃zs:List (Addr×Key×V),xs=[.ref l]∧H l=some (.lst ((zs.map (·.1)).map V.ref))∧(∀z∈zs,H z.1=some (.tup [kV z.2.1,z.2.2]))∧zs.length≤1000∧(zs.map (·.2.1)).Nodup∧∀d,H d=none→Q (.ref d) (upd H d (.dK (zs.map (·.2))))) :=
 λpins s σ H xs us Q I r ⟨l,zs,h1,h2,h3,h4,h5,q⟩=>iU hc pins s σ H xs us Q I r ⟨l,zs,h1,h2,h3,h4,h5,.inr q⟩
end
def wZ(h:Heap)(d:Addr)(es:Array DictEntry)(ep:Nat):Prop:=∃o,h.get? d=some o∧o.ExactDict∧o.data=.dict es ep
section
variable{prog:Program}{w:World}{A:Around}{E:Value→Shared→Prop}{s:Shared}
theorem ny{d:Addr}{es:Array DictEntry}{ep:Nat}{Q:Value→Shared→Prop}(hd:(d==sysModules)=false)(hm:wZ s.heap d es ep)(hQ:Q (.ref s.heap.objs.size) {s with heap:=s.heap.push {cls:=.type "dict_keyiterator",data:=.fields #[.ref d,.int 0 0,.int es.size 0,.int ep 0]}}):
  wpAny (model prog w) A (pyIter (.ref d)) Q E s:=by
 obtain⟨o,ho,hc,hdat⟩:=id hm;have hT:s.TypeIs (.ref d) "dict":=⟨o,ho,hc.1⟩;refine wpAny_pyIter_slot hT PySem.F.slot_dict_iter (wpAny_call_entry PySem.F.slot_dict_iter hT PySem.F.entry_dict_iter ?_ (PySem.F.args_dict_iter_1 _));unfold Builtin.«dict.__iter__»;refine wpAny_bind ?_;unfold Builtin.Dict.dictSlotNone;refine wpAny_bind (wpAny_notOrdered_dict hT ?_);show wpAny _ _ (pure (Value.ref d)) _ _ s;refine wpAny_pure ?_;show wpAny _ _ (Builtin.Dict.showsAll d >>= _) _ _ s;unfold Builtin.Dict.showsAll;rw[if_neg (by rw[hd];exact Bool.false_ne_true)];refine wpAny_bind (wpAny_pure ?_);refine wpAny_bind (wpAny_dictEntries ho hdat ?_);refine wpAny_bind (wpAny_dictEpoch ho hdat ?_);refine wpAny_bind (wpAny_newObj_type (wpAny_pure ⟨_,rfl,"dict_keyiterator",_,⟨_,get?_push_size _ rfl,rfl⟩,slot_dict_keyiterator_next.lookup,?_⟩));simpa [rawInt]using hQ
theorem sj{it d:Addr}{i ep:Nat}{es:Array DictEntry}{e:DictEntry}{Q:Option Value→Shared→Prop}(hit:s.heap.IsKeyIter it d i es.size ep)(hm:wZ s.heap d es ep)(hx:es[i]?=some e)(hQ:∀h',h'.IsKeyIter it d (i+1) es.size ep→SameBut it s.heap h'→Q (some e.key) {s with heap:=h'}):
  wpAny (model prog w) A (pyNext (.ref it)) Q E s:=by
 obtain⟨o,ho,hc,hd⟩:=id hit;obtain⟨od,hod,hcd,hdd⟩:=id hm;unfold pyNext;refine wpAny_bind (wpAny_attempt (wpAny_callSpecial?_slot (name:=ofString "__next__") hit.typeIs slot_dict_keyiterator_next
  (wpAny_call_entry slot_dict_keyiterator_next hit.typeIs PySem.F.entry_dict_keyiterator_next ?_ (PySem.F.args_dict_keyiterator_next_1 _))))
 refine wpAny_bind (wpAny_pure ?_);refine wpAny_bind ?_;refine wpAny_bind ?_
 first|refine wpAny_bind (wpAny_typeNameOfWhole_keyiter hit.typeIs (wpAny_pure ?_))|refine wpAny_bind (wpAny_typeNameOf_keyiter hit.typeIs (wpAny_pure ?_))
 refine wpAny_bind (wpAny_fieldsOf ho hd ?_);have hown:Builtin.Dict_items.ownsTuple "dict_keyiterator"=false:=by decide
 simp only[hown,false_eq_true,if_false];show wpAny _ _ (if (Value.ref d==Value.none)=true then _ else _) _ _ s
 rw[if_neg (show ¬((Value.ref d==Value.none)=true)from Bool.false_ne_true)];refine wpAny_bind (wpAny_pure ?_);refine wpAny_bind (wpAny_dictEntries hod hdd ?_);rw[if_neg (by simp)];refine wpAny_bind (wpAny_pure ?_);refine wpAny_bind (wpAny_dictEpoch hod hdd ?_);rw[if_neg (by simp)];refine wpAny_pure ?_;have hlt':i<es.size:=(Array.getElem?_eq_some_iff.mp hx).1;have he:es[i]=e:=(Array.getElem?_eq_some_iff.mp hx).2;simp only[show ¬((i:Int)<0)from by omega,if_false,Int.toNat_natCast,Array.getElem?_eq_getElem hlt'];refine wpAny_bind ?_
 first|refine wpAny_bind (wpAny_typeNameOfWhole_keyiter hit.typeIs (wpAny_pure ?_))|refine wpAny_bind (wpAny_typeNameOf_keyiter hit.typeIs (wpAny_pure ?_))
 refine wpAny_bind (wpAny_isOneOf_keyiter hit.typeIs ?_);show wpAny _ _ (setField (.ref it) 1 (rawInt ((i:Int)+1)) >>= _) _ _ s;refine wpAny_bind (wpAny_setField ho hd (by simp) ?_);have hit':(s.heap.update it (Obj.mapFields (·.setIfInBounds 1 (rawInt ((i:Int)+1))))).IsKeyIter it d (i+1) es.size ep :=
  ⟨_,Heap.get?_update_self _ ho (Obj.isFreed_of_fields (Obj.data_mapFields hd _)),(Obj.cls_mapFields ..).trans hc,by rw[Obj.data_mapFields hd];simp[rawInt]⟩
 refine wpAny_bind (wpAny_holding ?_);refine wpAny_bind (wpAny_isOneOf_keyiter (s:={s with heap:=s.heap.update it (Obj.mapFields (·.setIfInBounds 1 (rawInt ((i:Int)+1))))}) hit'.typeIs ?_)
 show wpAny _ _ (pure es[i].key) _ _ _;rw[he];exact wpAny_pure (wpAny_pure ⟨_,rfl,wpAny_pure (hQ _ hit' (SameBut.update ..))⟩)
theorem uM{it d:Addr}{i ep:Nat}{es:Array DictEntry}{Q:Option Value→Shared→Prop}(hh:A.handled=none)(hit:s.heap.IsKeyIter it d i es.size ep)(hm:wZ s.heap d es ep)(hge:es.size≤i)(hQ:∀h',Heap.ExtBut it s.heap h'→Q none {s with heap:=h'}):wpAny (model prog w) A (pyNext (.ref it)) Q E s:=by
 obtain⟨o,ho,hc,hd⟩:=id hit;obtain⟨od,hod,hcd,hdd⟩:=id hm;unfold pyNext;refine wpAny_bind (wpAny_attempt (wpAny_callSpecial?_slot (name:=ofString "__next__") hit.typeIs slot_dict_keyiterator_next
  (wpAny_call_entry slot_dict_keyiterator_next hit.typeIs PySem.F.entry_dict_keyiterator_next ?_ (PySem.F.args_dict_keyiterator_next_1 _))))
 refine wpAny_bind (wpAny_pure ?_);refine wpAny_bind ?_;refine wpAny_bind ?_
 first|refine wpAny_bind (wpAny_typeNameOfWhole_keyiter hit.typeIs (wpAny_pure ?_))|refine wpAny_bind (wpAny_typeNameOf_keyiter hit.typeIs (wpAny_pure ?_))
 refine wpAny_bind (wpAny_fieldsOf ho hd ?_);have hown:Builtin.Dict_items.ownsTuple "dict_keyiterator"=false:=by decide
 simp only[hown,false_eq_true,if_false];show wpAny _ _ (if (Value.ref d==Value.none)=true then _ else _) _ _ s
 rw[if_neg (show ¬((Value.ref d==Value.none)=true)from Bool.false_ne_true)];refine wpAny_bind (wpAny_pure ?_);refine wpAny_bind (wpAny_dictEntries hod hdd ?_);rw[if_neg (by simp)];refine wpAny_bind (wpAny_pure ?_);refine wpAny_bind (wpAny_dictEpoch hod hdd ?_);rw[if_neg (by simp)];refine wpAny_pure ?_;simp only[show ¬((i:Int)<0)from by omega,if_false,Int.toNat_natCast,Array.getElem?_eq_none hge];refine wpAny_bind ?_
 first|refine wpAny_bind (wpAny_typeNameOfWhole_keyiter hit.typeIs (wpAny_pure ?_))|refine wpAny_bind (wpAny_typeNameOf_keyiter hit.typeIs (wpAny_pure ?_))
 show wpAny _ _ (setField (.ref it) 0 .none >>= _) _ _ s;refine wpAny_bind (wpAny_setField ho hd (by simp) ?_);show wpAny _ _ (newExc (.type "StopIteration") [] >>= _) _ _ _;refine wpAny_bind ?_;simp only[newExc,newTuple];refine wpAny_bind (wpAny_newObj_type ?_ (by size_fits));refine wpAny_bind (m:=firstArgMember _ _) (wpAny_of_eq (a:=Value.none) (by first|rfl|(simp only[firstArgMember];rfl)) ?_)
 refine wpAny_newObj_type ?_ (by size_fits);simp only[raiseNew];refine wpAny_bind (wpAny_handled ?_);rw[show A.in1.handled=none from hh];refine wpAny_bind (wpAny_pure (wpAny_throw ?_));refine wpAny_bind (wpAny_isInstance (T:="StopIteration") (b:=true) ⟨_,get?_push_size _ rfl,rfl⟩ isSubtype_stop ?_);exact wpAny_pure (hQ _ (((SameBut.update ..).extBut.push _).push _))
end
def Itk(d:Addr)(o:Obj)(u:HO)(ks:List V):It:=⟨λi H=>H d=some (.frz o u)∧i<ks.length,λi H x H'=>H'=H∧ks[i]?=some x,λi H=>H d=some (.frz o u)∧ks.length≤i⟩
theorem kw{P:Program}{w:World}{K:PySem.W.Frag}{tg:Expr}{d it:Addr}{o:Obj}{u:HO}{es:Array DictEntry}{ep:Nat}{ks:List V}(hx:o.ExactDict)(hd:o.data=.dict es ep)(hv:aT ks (es.toList.map (·.key))):
  Turn P w K tg (Itk d o u ks) [it] it (λi h=>h.IsKeyIter it d i es.size ep) where
 mem:=by simp
 obj:=λi h st b hb=>by
  have e:b=it:=by simpa using hb
  subst e;obtain⟨o,e,c,d⟩:=st;exact⟨o,e,λv z=>by rw[d]at z;cases z⟩
 keep:=λi h h' st k=>st.at λo e=>k it (by simp) o e
 item:=by
  intro X hP hw hK hc i pins s σ H E I hf st hg;subst hP hw hK;obtain⟨hH,hi⟩:=hg;have ho:=(I.hok d _ hH).1;have hl:ks.length=es.size:=by rw[hv.length,length_map,length_toList]
  have hi':i<es.size:=by omega
  obtain⟨v,hv1,hv2⟩:=hv.get (getElem?_eq_getElem hi);obtain⟨f0,f1,f2,f3,f4,f5⟩:=hf it (by simp);have ev:v=es[i].key:=by
   rw[getElem?_map,getElem?_toList,Array.getElem?_eq_getElem hi']at hv1;exact(Option.some.inj hv1).symm
  refine sj st ⟨o,ho,hx,hd⟩ (Array.getElem?_eq_getElem hi') λh' st' sb=>?_;have I1:Inv X pins σ H {s with heap:=h'}:=I.turned (t':=s.toks) (λb o hb e=>(sb.2 b hb).trans e) f0 f1 f3 f4 f5
  obtain⟨oi,e,c,dd⟩:=id st';exact⟨_,rfl,mh (s:={s with heap:=h'}) e c dd (by decide) ⟨ks[i],H,I1,ev ▸ hv2,⟨rfl,getElem?_eq_getElem hi⟩,st',λb hb=>(hf b hb).1⟩⟩
 done:=by
  intro X hP hw hK hc i pins s σ H E I hf st hg;subst hP hw hK;obtain⟨hH,hi⟩:=hg;have ho:=(I.hok d _ hH).1;have hl:ks.length=es.size:=by rw[hv.length,length_map,length_toList]
  obtain⟨f0,f1,f2,f3,f4,f5⟩:=hf it (by simp);exact uM (I.ok.hd hc) st ⟨o,ho,hx,hd⟩ (by omega) λh' eb=>⟨rfl,I.turned (t':=s.toks) (λb o hb e=>eb b o hb e) f0 f1 f3 f4 f5⟩
 self:=λ_ _ _ _ _ st h=>wpAny_pyIter_keyiter st h
section
variable{X:Cx}{tg:Expr}
def iDF(td:TE):TI:=λσ H R=>td σ H λv H1=>∃d o kvs,v=.ref d∧H1 d=some (.frz o (.dK kvs))∧R (Itk d o (.dK kvs) (kvs.map λp=>kV p.1)) H1
theorem kx{l:Expr}{tl:TE}(hl:PE X l tl):PI X tg l (iDF tl):=by
 intro pins s σ H R I h;refine thn (hl pins s σ H _ I h) λv s1 hpt=>?_;obtain⟨x,H1,I1,r1,q1⟩:=hpt;obtain⟨d,o,kvs,e,hH,q⟩:=q1;subst e;cases r1;obtain⟨ho,_,hsm,vs,rel,o',es,ep,ho',hx,hd,hk,hp,hn⟩:=I1.hok d _ hH;rw[ho]at ho';cases ho';refine ny hsm ⟨o,ho,hx,hd⟩ ?_;refine⟨s1.heap.objs.size,[s1.heap.objs.size],_,_,H1,rfl,I1.kept (t':=s1.toks) λb o e=>get?_push_of_some _ e,kw hx hd ?_,⟨_,get?_push_size _ rfl,rfl,rfl⟩,λb hb=>?_,q⟩
 ·have key:∀(es:List DictEntry)(vs:List (Key×Value))(kvs:List (Key×V)),Pairs (bb X.prog X.w) es vs→KV kvs vs→aT (kvs.map λp=>kV p.1) (es.map (·.key)):=by
   intro es vs kvs hp
   induction hp generalizing kvs with
   |nil=>intro r;cases r;exact .nil
   |cons h1 h2 _ ih =>
    intro r;cases r with
    |cons r1 r2 =>
     refine .cons ?_ (ih _ r2);dsimp only;rw[r1.1];rcases bq h1 with⟨i,t,e1,e2⟩|⟨x,t,e1,e2⟩
     ·rw[e1,e2];exact⟨t,rfl⟩
     ·rw[e1,e2];exact⟨t,rfl⟩
  exact key _ _ _ hp rel
 ·have e:b=s1.heap.objs.size:=by simpa using hb
  subst e;exact I1.fpOk (le_refl _) (I1.hok.fresh (le_refl _))
end
section
variable{prog:Program}{w:World}{A:Around}{E:Value→Shared→Prop}{s:Shared}
end
section
variable{X:Cx}
theorem uN{P:Program}{w:World}{kvs:List (Key×V)}{vs:List (Key×Value)}{acc:Array Value}(rel:KV kvs vs)(h:ItemsOf (λi v=>∃k x,vs[i]?=some (k,x)∧(bb P w).is k v=true) acc vs.length):aT (kvs.map λp=>kV p.1) acc.toList:=by
 obtain⟨h1,h2⟩:=h;have hl:acc.toList.length=vs.length:=by simpa using h1
 have h3:∀(i:Nat)(v:Value),acc.toList[i]?=some v→∃k x,vs[i]?=some (k,x)∧(bb P w).is k v=true:=λi v hv=>h2 i v (by simpa using hv);clear h1 h2;generalize acc.toList=l at hl h3
 induction rel generalizing l with
 |nil =>
  cases l with
  |nil=>exact .nil
  |cons a r=>simp at hl
 |@cons p q kvs vs r _ ih =>
  cases l with
  |nil=>simp at hl
  |cons a l =>
   refine .cons ?_ (ih l (by simpa using hl) λi v hv=>by simpa using h3 (i+1) v (by simpa using hv))
   obtain⟨k,x,e1,e2⟩:=h3 0 a rfl;have e3:q=(k,x):=by simpa using e1
   show aX (kV p.1) a;rw[r.1,e3];rcases bq e2 with⟨i,t,e4,e5⟩|⟨y,t,e4,e5⟩
   ·rw[e4,e5];exact⟨t,rfl⟩
   ·rw[e4,e5];exact⟨t,rfl⟩
end
end L2
namespace HT
open PySem PyProof.Rows
section
open PySem.SeqAt
open PySem.AutoSeq1 (wpAny_loadPart')
open PySem.MeetsSeq PySem.MeetsSeq2 PySem.MeetsSeq3
end
section
variable{prog:Program}{w:World}{A:Around}{E:Value→Shared→Prop}{s:Shared}
end
end HT
namespace L2
open PySem PySem.Spec PyProof.Rows
section
variable{X:Cx}
theorem rc{α:Type}{zs:List α}{val:α→V}{d:α}:∀{us:List Value},aT (zs.map val) us→∀(ps:List Nat),(∀i∈ps,i<zs.length)→aT ((ps.map λi=>zs.getD i d).map val) (ps.map λi=>us.getD i Value.none):=by
 intro us rv ps
 induction ps with
 |nil=>intro _;exact .nil
 |cons i ps ih =>
  intro h;refine .cons ?_ (ih λj hj=>h j (by simp[hj]));have hi:=h i (by simp);obtain⟨u,hu,r⟩:=rv.get (i:=i) (x:=val (zs.getD i d)) (by rw[getElem?_map,(dX (d:=d) hi).2];rfl);have:us.getD i Value.none=u:=by rw[getD_eq_getElem?_getD,hu];rfl
  show aX (val (zs.getD i d)) (us.getD i Value.none);rw[this];exact r
theorem nA{α:Type}{zs:List α}{val:α→V}{d:α}{us:List Value}{f:α→α→Bool}{l:Addr}{pins:List (Addr×Obj)}{σ:St}{H:Hp}{s:Shared}{Q:VK}{κ:SortKind}{E:Value→Shared→Prop}(I:Inv X pins σ H s)(rv:aT (zs.map val) us)(O:SRT.Ord (λi j=>f (zs.getD i d) (zs.getD j d)) zs.length)(pl:s.heap.IsList l us.toArray)(h64:zs.length<64)(hk:∀(A':Around) (s':Shared),A'.units≤X.A.units+2→(∀b o,s.heap.get? b=some o→s'.heap.get? b=some o)→∀Q:SortKind→Shared→Prop,2≤zs.length→Q κ s'→wpAny (model X.prog X.w) A' (keyKind' us.toArray) Q (λ_ _=>False) s')(hlt:∀(A':Around) (s':Shared),A'.units≤X.A.units+2→(∀b o,s.heap.get? b=some o→s'.heap.get? b=some o)→∀(i j:Nat) (C:Bool→Shared→Prop),i<zs.length→j<zs.length→C (f (zs.getD i d) (zs.getD j d)) s'→wpAny (model X.prog X.w) A' (keyLt' κ (us.getD i Value.none) (us.getD j Value.none)) C (λ_ _=>False) s')(q:∀zs':List α,zs'.Perm zs→zs'.Pairwise (λa b=>f a b=true)→∀p,H p=none→Q (.ref p) (upd H p (.lst (zs'.map val)))):wpAny (model X.prog X.w) X.A (call (.builtin "sorted") [.ref l]) (EP X pins σ Q) E s:=by
 have hlen:us.length=zs.length:=by rw[←rv.length,length_map]
 refine SRT.qV (κ:=κ) (f:=λi j=>f (zs.getD i d) (zs.getD j d)) (by rw[hlen];exact O) pl (by rw[hlen];exact h64) (λA' s' h1 h2 Q' h3=>hk A' s' h1 h2 Q' (by omega)) (λA' s' h1 h2 i j C hi hj=>hlt A' s' h1 h2 i j C (by omega) (by omega)) ?_;intro p h' hrow hup kp _ hg;obtain⟨c,hg⟩:=hg;rw[hlen]at hrow hup;have hin:∀i∈p.toList,i<zs.length:=λi hi=>mem_range.mp (hrow.perm.mem_iff.mp hi);have hperm:(p.toList.map λi=>zs.getD i d).Perm zs:=by
  refine(hrow.perm.map _).trans ?_;have:(List.range zs.length).map (λi=>zs.getD i d)=zs:=by
   apply ext_getElem?;intro i;rw[getElem?_map]
   by_cases hi:i<zs.length
   ·rw[List.getElem?_range hi,(dX (d:=d) hi).2];rfl
   ·rw[getElem?_eq_none (by rw[length_range];omega),getElem?_eq_none (by omega)];rfl
  rw[this]
 have hpl:p.size=zs.length:=hrow.size;have hpw:(p.toList.map λi=>zs.getD i d).Pairwise (λa b=>f a b=true):=by
  rw[List.pairwise_iff_getElem];intro i j hi hj hij;have hi':i<p.size:=by rw[length_map,length_toList]at hi;exact hi
  have hj':j<p.size:=by rw[length_map,length_toList]at hj;exact hj
  have:=hup i j hij (by omega);simp only[]at this;rw[getD_eq_getD_getElem?,getD_eq_getD_getElem?,Array.getElem?_eq_getElem hi',Array.getElem?_eq_getElem hj']at this;simpa using this
 refine⟨.ref (s.heap.objs.size+1),_,I.laid (t':=s.toks) (o:=.lst ((p.toList.map λi=>zs.getD i d).map val)) kp (le_succ _) ⟨?_,_,c,rc rv p.toList hin,hg⟩,rfl,q _ hperm hpw _ (I.hok.fresh (le_succ _))⟩;rw[length_map,hperm.length_eq,sizeLine_eq];omega
theorem uO{ns:List Int}{us:List Value}(r:aT (ns.map V.int) us):IntsAre us ns:=oB r
theorem cL:dg X (.builtin "sorted") (λxs H Q=>∃l,∃ns:List Int,xs=[.ref l]∧H l=some (.lst (ns.map V.int))∧ns.Nodup∧ns.length<64 ∧
  ∀ms:List Int,ms.Perm ns→ms.Pairwise (λa b=>a<b)→∀p,H p=none→Q (.ref p) (upd H p (.lst (ms.map V.int)))):=by
 intro pins s σ H xs us Q I r h;obtain⟨l,ns,rfl,hl,hnd,h64,q⟩:=h;obtain⟨u,rfl,ru⟩:=fz r;cases ru;obtain⟨_,its,n,rv,ho⟩:=I.hok l _ hl;have hI:=uO rv;have hlen:its.length=ns.length:=by rw[←rv.length,length_map]
 refine nA (val:=V.int) (d:=(0:Int)) (f:=λa b=>decide (a<b)) (κ:=oneType') I rv ⟨λi _=>by simp,λi j k _ _ _ h1 h2=>?_,λi j hi hj hij=>?_⟩ ⟨_,ho,rfl,n,rfl⟩ h64 (λA' s' _ _ Q' h2 hQ=>?_) (λA' s' _ _ i j C hi hj hC=>?_) λzs' h1 h2 p hp=>q zs' h1 (h2.imp λh=>by simpa using h) p hp
 ·simp only[decide_eq_true_eq]at *;omega
 ·simp only[decide_eq_true_eq];have:ns.getD i 0≠ns.getD j 0:=by
   rw[getD_eq_getElem?_getD,getD_eq_getElem?_getD,getElem?_eq_getElem hi,getElem?_eq_getElem hj];exact λe=>hij ((getElem_inj hnd).mp e)
  omega
 ·rw[ksk_kind (keys:=its.toArray) (kz:=ns) (by simpa using hI) (by rw[size_toArray];omega)];exact wpAny_pure hQ
 ·have gi:∀i,i<ns.length→∃t,its.getD i Value.none=.int (ns.getD i 0) t:=λi hi=>by
   obtain⟨v,hv,r⟩:=rv.get (i:=i) (x:=.int (ns.getD i 0)) (by rw[getElem?_map,(dX (d:=(0:Int)) hi).2];rfl);obtain⟨t,rfl⟩:=r;exact⟨t,by rw[getD_eq_getElem?_getD,hv];rfl⟩
  obtain⟨t,e1⟩:=gi i hi;obtain⟨t',e2⟩:=gi j hj;rw[e1,e2];exact kat_lt_int hC
end
def pO(H:Hp):Nat→V→V→Prop
 |0,x,y=>x=y∧dJ x=true
 |n+1,x,y=>(x=y∧dJ x=true)∨∃a b xs ys,x=.ref a∧y=.ref b∧H a=some (.tup xs)∧H b=some (.tup ys)∧xs.length=ys.length∧∀(i:Nat) x' y',xs[i]?=some x'→ys[i]?=some y'→pO H n x' y'
theorem nB{x:V}(f:dJ x=true):eqV x x=true:=by
 cases x<;>first|rfl|(simp[eqV];done) | (exact absurd (show false=true from f) Bool.false_ne_true)
theorem oH{H:Hp}{n:Nat}{x y:V}(h:x=y∧dJ x=true):pO H n x y:=by
 cases n with
 |zero=>exact h
 |succ n=>exact .inl h
section
variable{X:Cx}{pins:List (Addr×Obj)}{σ:St}{H:Hp}{s:Shared}
theorem so(I:Inv X pins σ H s):∀(n:Nat){A:Around}{x y:V}{u v:Value},aX x u→aX y v→pO H n x y→A.units+n<cLine→EqAt A s u v true:=by
 intro n
 induction n with
 |zero =>
  intro A x y u v ru rv h hu;obtain⟨e,f⟩:=h;subst e;have:=iH (A:=A) (s:=s) ru rv f f;rw[nB f]at this;exact this
 |succ n ih =>
  intro A x y u v ru rv h hu;rcases h with⟨e,f⟩|⟨a,b,xs,ys,rfl,rfl,ha,hb,hl,hx⟩
  ·subst e;have:=iH (A:=A) (s:=s) ru rv f f;rw[nB f]at this;exact this
  ·cases ru;cases rv
   by_cases hab:a=b
   ·subst hab;exact EqAt.same _
   ·obtain⟨_,us,r1,t1⟩:=I.hok a _ ha;obtain⟨_,ws,r2,t2⟩:=I.hok b _ hb;have l1:=r1.length;have l2:=r2.length;have:=RcAt.tuples (A:=A) (s:=s) (e:=λ_=>true) t1 t2 (by omega) (λj h1 h2=>by
     have h1':j<xs.length:=by rw[l1];simpa using h1
     have h2':j<ys.length:=by rw[l2];simpa using h2
     obtain⟨u',hu1,hu2⟩:=r1.get (getElem?_eq_getElem h1');obtain⟨v',hv1,hv2⟩:=r2.get (getElem?_eq_getElem h2');have e1:us.toArray[j]=u':=by
      have:us[j]?=some us.toArray[j]:=by rw[getElem?_eq_getElem (by simpa using h1)];simp
      rw[hu1]at this;exact(Option.some.inj this).symm
     have e2:ws.toArray[j]=v':=by
      have:ws[j]?=some ws.toArray[j]:=by rw[getElem?_eq_getElem (by simpa using h2)];simp
      rw[hv1]at this;exact(Option.some.inj this).symm
     rw[e1,e2];exact ih hu2 hv2 (hx j _ _ (getElem?_eq_getElem h1') (getElem?_eq_getElem h2')) (by simp[Around.in1_units];omega))
    have e3:((List.range (min us.toArray.size ws.toArray.size)).all (λ_=>true)&&us.toArray.size==ws.toArray.size)=true:=by
     have:us.toArray.size=ws.toArray.size:=by simp only[size_toArray];omega
     simp[this]
    rw[e3]at this;exact EqAt.of_refs hab this
def jy(H:Hp)(xs ys:List V):Prop:=xs.length=ys.length∧∀(i:Nat) x y,xs[i]?=some x→ys[i]?=some y→pO H 3 x y
theorem nC{pins:List (Addr×Obj)}{σ:St}{H:Hp}{s:Shared}(I:Inv X pins σ H s){xs ys:List V}{us ws:List Value}(r1:aT xs us)(r2:aT ys ws)(h:jy H xs ys){A:Around}(hu:A.units+3<cLine):
  ∀j (h1:j<us.toArray.size) (h2:j<ws.toArray.size),EqAt A s us.toArray[j] ws.toArray[j] true:=λj h1 h2=>by
 have h1':j<xs.length:=by rw[r1.length];simpa using h1
 have h2':j<ys.length:=by rw[r2.length];simpa using h2
 obtain⟨u',hu1,hu2⟩:=r1.get (getElem?_eq_getElem h1');obtain⟨v',hv1,hv2⟩:=r2.get (getElem?_eq_getElem h2');have e1:us.toArray[j]=u':=by
  have:us[j]?=some us.toArray[j]:=by rw[getElem?_eq_getElem (by simpa using h1)];simp
  rw[hu1]at this;exact(Option.some.inj this).symm
 have e2:ws.toArray[j]=v':=by
  have:ws[j]?=some ws.toArray[j]:=by rw[getElem?_eq_getElem (by simpa using h2)];simp
  rw[hv1]at this;exact(Option.some.inj this).symm
 rw[e1,e2];exact so I 3 hu2 hv2 (h.2 j _ _ (getElem?_eq_getElem h1') (getElem?_eq_getElem h2')) hu
theorem vW{A:Around}{s:Shared}{bs:List Bool}:∀y,y∈(bs.map Value.bool).toArray→EqAt A s y (.bool true) (y==.bool true):=λy hy=>by
 have hy':y∈bs.map Value.bool:=by simpa using hy
 obtain⟨b,_,rfl⟩:=mem_map.mp hy';have:=EqAt.bool_bool (A:=A) (s:=s) b true;cases b<;>exact this
theorem sr:MtM X "list.count" (λx vs H Q=>∃l,∃bs:List Bool,x=.ref l∧vs=[.bl true]∧H l=some (.lst (bs.map V.bl))∧Q (.int (bs.count true:Nat)) H):=by
 intro pins s σ H x vs v us Q I rx rv h;obtain⟨l,bs,rfl,rfl,hl,q⟩:=h;cases rx;obtain⟨u,rfl,ru⟩:=fz rv;cases (show u=Value.bool true from ru);obtain⟨_,its,n,r,ho⟩:=I.hok l _ hl;have e:=lH r;subst e;refine call_meets PySem.F.slot_list_count ⟨_,ho,rfl⟩ PySem.F.entry_list_count (PySem.F.args_list_count_2 _ _) (SeqAt.list_countAt l _ n none #[] (.bool true) (λy=>y==.bool true)) ⟨ho,vW,⟨.int (bs.count true:Nat),H,I.tok _,?_,q⟩⟩;have:((bs.map Value.bool).toArray.toList.countP λy=>y==.bool true)=bs.count true:=by
  rw[List.count];simp only[List.countP_map]
  congr 1
  funext b
  cases b<;>rfl
 rw[this];exact⟨_,rfl⟩
theorem su:MtM X "list.index" (λx vs H Q=>∃l j,∃bs:List Bool,x=.ref l∧vs=[.bl true]∧H l=some (.lst (bs.map V.bl))∧bs.length≤1000∧bs[j]?=some true∧(∀m,m<j→bs[m]?=some false)∧Q (.int (j:Nat)) H):=by
 intro pins s σ H x vs v us Q I rx rv h;obtain⟨l,j,bs,rfl,rfl,hl,hz,hj,hm,q⟩:=h;cases rx;obtain⟨u,rfl,ru⟩:=fz rv;cases (show u=Value.bool true from ru);obtain⟨_,its,n,r,ho⟩:=I.hok l _ hl;have e:=lH r;subst e;have hjl:j<bs.length:=(List.getElem?_eq_some_iff.mp hj).1;refine call_meets PySem.F.slot_list_index ⟨_,ho,rfl⟩ PySem.F.entry_list_index (PySem.F.args_list_index_2 _ _) (SeqAt.list_indexAt l _ n none #[] (.bool true) (λy=>y==.bool true) j (by simpa using hjl) (by omega) ?_ ?_) ⟨ho,vW,⟨.int (j:Nat),H,I.tok _,⟨_,rfl⟩,q⟩⟩
 ·have:=(List.getElem?_eq_some_iff.mp hj).2;simp[this]
 ·intro m hm1 hm2;have:=(List.getElem?_eq_some_iff.mp (hm m hm2)).2;simp[this]
theorem ck:dg X (.builtin "isinstance") (λxs H Q=>∃ea C c b,xs=[.ref ea,c]∧H ea=some (.ext (XI.kt ea C))∧XI.qY X.K C=true∧((∃n,c=.ty n∧kitOne X.K (.ref C) (.type n)=some b)∨(∃D,c=.ref D∧kitOne X.K (.ref C) (.ref D)=some b))∧Q (.bl b) H):=by
 intro pins s σ H xs us Q I r h;obtain⟨ea,C,c,b,rfl,hH,hxc,hc,q⟩:=h;obtain⟨u,u',rfl,ru,ru'⟩:=rP r;cases ru;obtain⟨hex,_,_⟩:=I.hok ea _ hH;rcases hc with⟨n,rfl,e⟩|⟨D,rfl,e⟩
 ·cases (show u'=type n from ru');exact kia_one (XI.nr hxc) I.kIn hex e (λz=>nomatch z) λtk=>⟨.bl b,H,I.tok tk,rfl,q⟩
 ·cases (show u'=Value.ref D from ru');exact kia_one (XI.nr hxc) I.kIn hex e (λz=>nomatch z) λtk=>⟨.bl b,H,I.tok tk,rfl,q⟩
end
section
variable{prog:Program}{w:World}{A:Around}{E:Value→Shared→Prop}{s:Shared}
end
section
variable{P:Program}{w:World}
end
section
variable{X:Cx}{o e:Expr}{td ty:TE}{apos cpos:Pos}
end
def Ext(p:Addr)(H H':Hp):Prop:=∀b o,b≠p→H b=some o→H' b=some o
theorem Ext.of{p:Addr}{H H':Hp}(s:Same H H'):Ext p H H':=λb o _ e=>s b o e
theorem Ext.upd{p:Addr}{H:Hp}{o:HO}:Ext p H (upd H p o):=λb u hb e=>by rw[ao hb];exact e
theorem Ext.trans{p:Addr}{H H1 H2:Hp}(a:Ext p H H1)(b:Ext p H1 H2):Ext p H H2:=λc o hc e=>b c o hc (a c o hc e)
def yG(te:TE):Prop:=∀σ H (Q Q':VK),(∀y H,Q y H→Q' y H)→te σ H Q→te σ H Q'
theorem sv{js:List Nat}{J:It}{te:TE}{σ:St}{H1:Hp}{Q:VK}{p:Addr}{fr:List (Option V)}(n:Nat)(hn:n≤1000)(hp:H1 p=none)(hfr:dO 1 js σ=none::fr)(R:Nat→V→Hp→Prop)(hR:∀i y H H',R i y H→Ext p H H'→R i y H')(go:∀i H',i<n→Same H1 H'→J.go i H')(stop:∀H',Same H1 H'→J.stop n H')(me:yG te)(step:∀i H' x H2,i<n→Same H1 H'→(∃ys,H' p=some (.lst ys))→J.yld i H' x H2→H2=H'∧te (some x::fr) H' λy H4=>Same H' H4∧R i y H4)(fin:∀ys H',Same H1 H'→H' p=some (.lst ys)→ys.length=n→(∀(j:Nat) y,ys[j]?=some y→R j y H')→Q (.ref p) H'):LcW 1 js (bg 0) te σ Q J H1 p:=by
 refine vV (k:=1) (js:=js) (J:=J) (p:=p) n hn (λi ys σ' H'=>(∃o,σ'=o::fr)∧Same H1 H'∧H' p=some (.lst ys)∧ys.length=i∧∀(j:Nat) y,ys[j]?=some y→R j y H') ⟨⟨none,hfr⟩,ag hp,ac,rfl,λj y h=>by simp at h⟩
  (λi ys σ' H' h=>by have:=h.2.2.2.1;omega) (λi ys σ' H' hi h=>go i H' hi h.2.1) (λys σ' H' h=>⟨stop H' h.2.1,fin ys H' h.2.1 h.2.2.1 h.2.2.2.1 h.2.2.2.2⟩) (λi ys σ' H' hi h x H2 hy=>?_) ?_ me
 ·obtain⟨⟨o,rfl⟩,s1,hl,hlen,hrs⟩:=h;obtain⟨rfl,ht⟩:=step i H' x H2 hi s1 ⟨ys,hl⟩ hy;refine me _ _ _ _ (λy H4 h4=>?_) ht;obtain⟨s4,r4⟩:=h4;refine⟨s4 _ _ hl,⟨some x,rfl⟩,aS hp (s1.trans s4),ac,by rw[length_append,hlen];rfl,λj z hz=>?_⟩;have ex:Ext p H2 (upd H4 p (.lst (ys++[y]))):=(Ext.of s4).trans Ext.upd
  by_cases hj:j<ys.length
  ·rw[List.getElem?_append_left hj]at hz;exact hR _ _ _ _ (hrs j z hz) ex
  ·rw[List.getElem?_append_right (by omega)]at hz;have hj':j-ys.length=0:=by
    cases e:j-ys.length with
    |zero=>rfl
    |succ m=>rw[e]at hz;simp at hz
   rw[hj']at hz;have ez:y=z:=by simpa using hz
   subst ez;have ej:j=i:=by omega
   subst ej;exact hR _ _ _ _ r4 Ext.upd
 ·intro _ _ _ _ _ m q;exact m _ _ q
theorem dG{H:Hp}{p q:Addr}(hp:∃ys,H p=some (.lst ys))(hq:H q=none):q≠p:=λe=>by
 obtain⟨ys,h⟩:=hp;rw[←e,hq]at h;cases h
section
variable{X:Cx}{N:List Str}{scope:Scope}{cl:List (Str×Addr)}{k:Nat}{js:List Nat}
theorem eV{elt tg iter c:Expr}{pos spos py:Pos}{y:Str}{ii:Nat}{wi:TI}{g:TG}{tc:TT}{te:TE}(hXN:X.N.Nodup)(hii:X.N[ii]?=some y)(hx:Loc X.env.scope y)(hc:X.calm=true)(L:LcOk X scope cl)(hN:N.length=k+js.length)(hj:∀(i j:Nat) x,js[i]?=some j→N[k+i]?=some x→X.N[j]?=some x∧Vis X.env.scope x∧X.env.scope.names.lookup x≠some .local∧((relabel scope X.env).names.lookup x=some .cell∨(relabel scope X.env).names.lookup x=some .free))(hi:PI X tg iter wi)(hg:∀s H fp,PG (cQ X N scope cl s H fp) tg g)(ht:∀s H fp,PT (cQ X N scope cl s H fp) c tc)(he:∀s H fp,PE (cQ X N scope cl s H fp) elt te)(hs:∀x,foldedSetIterable iter X.env x=pure x:=by intro _;rfl)(hsw:swapsWith (.ListComp elt [⟨tg,iter,[c],0⟩] scope pos) (some (.Name y py)) spos.line X.env=pure true:=by rfl)(hf:X.fn y=true∨X.env.scope.names.lookup y=some .local:=by first|exact .inl rfl|exact .inr rfl|assumption):PS X (.Assign [.Name y py] (.ListComp elt [⟨tg,iter,[c],0⟩] scope pos) spos) (ww (yD k js wi g tc te) (bg ii)):=by
 intro pins s σ H D I h;rw[exec_Assign_Name_used _ _ _ _ hsw];refine wpAny_bind (wpAny_standAt (wpAny_bind ?_));show wpAny _ X.A (do let _ ← comprehension (.ListComp elt [⟨tg,iter,[c],0⟩] scope pos) scope X.env _ (newList []) false (eval iter X.env) (some (assign (.Name y py) X.env))) _ _ s
 refine wpAny_bind (wpAny_mono (wpAny_comprehension_free (use:=some (assign (.Name y py) X.env)) (Q:=λ_ s'=>∃σ' H',Inv X pins σ' H' s'∧D.nx σ' H') rfl hs L.clos L.kind L.names ?_) (λ_ s' hq=>wpAny_pure (wpAny_pure hq)) λ_ _ e=>e);refine thn (hi pins s σ H _ I h) λv s1 h1=>thn h1 λitv s2 h2=>?_;obtain⟨it,fp,tn,J,H2,e,I2,T,st2,f2,hW⟩:=h2;subst e;have hfp:∀b∈fp,b<s2.heap.objs.size:=λb hb=>by
  obtain⟨o,e,_⟩:=T.obj _ _ st2 b hb;exact lt_size e
 refine wpAny_newObj_type (wpAny_newFunctionEnv L.nocell (by intro y hy;simp at hy) (λh₁ hns hsb=>?_) L.kind);dsimp only at hns hsb⊢;obtain⟨W,⟨m0,w0⟩,turn⟩:=hW s2.heap.objs.size (I2.hok.fresh (le_refl _));have I3:Inv X pins σ (upd H2 s2.heap.objs.size (.lst [])) {s2 with heap:=s2.heap.push {cls:=.type "list",dict:=none,data:=.seq ([]:List Value).toArray}}:=I2.lnew (t':=s2.toks) .nil (zero_le _)
 generalize hA:s2.heap.push {cls:=.type "list",dict:=none,data:=.seq ([]:List Value).toArray}=hpA at hns hsb I3⊢;have hszA:hpA.objs.size=s2.heap.objs.size+1:=by rw[←hA,size_push]
 have keepA:∀b o,s2.heap.get? b=some o→hpA.get? b=some o:=λb o e=>by rw[←hA];exact get?_push_of_some _ e
 have f3:∀b∈fp,fH X pins (upd H2 s2.heap.objs.size (.lst [])) b:=λb hb=>⟨by rw[ao (ne_of_lt (hfp b hb))];exact(f2 b hb).1,(f2 b hb).2⟩;have hfp3:∀b∈fp,b<hpA.objs.size:=λb hb=>by rw[hszA];exact lt_succ_of_lt (hfp b hb)
 have keep1:∀b o,hpA.get? b=some o→h₁.get? b=some o:=λb o e=>hsb.extBut b o (ne_of_lt (lt_size e)) (get?_push_of_some _ e);have J0:=ig (N:=N) (k:=k) (js:=js) (tk:=s2.toks+([]:List (Str×Value)).length) I3 L f3 hfp3 ⟨_,hns⟩ keep1 hN hj;have st1:tn 0 h₁:=T.keep _ _ _ st2 λb hb o e=>keep1 b o (keepA b o e);have stat:∀{H':Hp},(∀b∈fp,H' b=none)→∀b∈fp,fH (cQ X N scope cl {s2 with heap:=hpA} (upd H2 s2.heap.objs.size (.lst [])) fp) [] H' b:=λhn b hb =>
  ⟨hn b hb,ne_of_lt (hfp3 b hb),(mH (N:=N) I3 L f3 hfp3).exfs b hb,.inl hb,λx c h=>(f3 b hb).2.2.2.2.1 x c (L.cells x c h),λp hp=>absurd (show p∈([]:List (Addr×Obj))from hp) (by simp)⟩
 have loop:codeAny (model X.prog X.w) X.A (.compLoop (.ListComp elt [⟨tg,iter,[c],0⟩] scope pos) 0 (.ref it) (.ref s2.heap.objs.size) (compEnvC scope cl hpA.objs.size X.env))
   (compPost (model X.prog X.w) X.A X.xe (some (assign (.Name y py) X.env)) (λ_ s'=>∃σ' H',Inv X pins σ' H' s'∧D.nx σ' H') (.ref s2.heap.objs.size) hpA.objs.size) {s2 with heap:=h₁,toks:=s2.toks+([]:List (Str×Value)).length}:=by
  refine mJ (λn s'=>∃i ys σ' H',Inv (cQ X N scope cl {s2 with heap:=hpA} (upd H2 s2.heap.objs.size (.lst [])) fp) [] σ' H' s'∧tn i s'.heap∧(∀b∈fp,H' b=none)∧W i n ys σ' H') ?_ m0 ⟨0,[],_,_,J0,st1,λb hb=>(f3 b hb).1,w0⟩
  rintro n s3 ⟨i,ys,σ3,H3,J3,st3,fr3,w3⟩;rcases turn i n ys σ3 H3 w3 with⟨stop,qn⟩|⟨go,hlen,step⟩
  ·refine thn (T.done (cQ X N scope cl {s2 with heap:=hpA} (upd H2 s2.heap.objs.size (.lst [])) fp) rfl rfl rfl hc i [] s3 σ3 H3 (λ_ _=>False) J3 (stat fr3) st3 stop) λr s4 hpt=>?_
   obtain⟨hr,J4⟩:=hpt;subst hr;obtain⟨m,hm,_⟩:=J4.loc;have I4:Inv X pins σ H3 s4:=lD I3 f3 J4 (SameBut.refl _ _);obtain⟨f0,f1,f2,f3',f4,f5⟩:=I3.fpOk (b:=hpA.objs.size) (le_refl _) (H':=H3) J4.free;show wpAny _ _ (assign (.Name y py) X.env (.ref s2.heap.objs.size)) _ _ _;refine wpAny_assign_Name (iD I4 hXN hii hx (v:=.ref s2.heap.objs.size) rfl (λs5 I5 ⟨a,sb,ha⟩=>⟨m,hm.sameBut sb ?_,λh' hs'=>⟨_,H3,I5.turned (t':=s5.toks) (λb o hb e=>(hs'.2 b hb).trans e) f0 f1 f3' f4 f5,qn⟩⟩) hf);rcases ha with e|e
   ·rw[e];exact f1
   ·exact λz=>f4 _ _ e z.symm
  ·refine thn (T.item (cQ X N scope cl {s2 with heap:=hpA} (upd H2 s2.heap.objs.size (.lst [])) fp) rfl rfl rfl hc i [] s3 σ3 H3 (λ_ _=>False) J3 (stat fr3) st3 go) λr s4 hpt=>?_
   obtain⟨u,hr,h4⟩:=hpt;subst hr;refine thn h4 λ_ s5 hpt=>?_;obtain⟨x,H5,J5,r5,y5,st5,fr5⟩:=hpt;have J5':=J5.pinned (stat fr5) (T.obj _ _ st5);refine thn (hg _ _ _ _ s5 σ3 H5 x u _ J5' r5 (step x H5 y5)) λ_ s6 hpt=>?_;obtain⟨σ6,H6,J6,q6⟩:=hpt;refine thn (ht _ _ _ _ s6 σ6 H6 _ J6 q6) λb s6 hpt=>?_;obtain⟨H6,J6,q6⟩:=hpt;cases b with
   |true =>
    rw[if_pos rfl]at q6⊢;refine thn (he _ _ _ _ s6 σ6 H6 _ J6 q6) λy s7 hpt=>?_;obtain⟨vy,H7,J7,r7,q7,m',hm',w7⟩:=hpt;refine thn (bA _ s7 σ6 H7 (.ref s2.heap.objs.size) [vy] _ _ (λ_ H8=>H8=upd H7 s2.heap.objs.size (.lst (ys++[vy]))) J7 rfl (.cons r7 .nil) ⟨_,ys,vy,rfl,rfl,q7,hlen,rfl⟩) λ_ s8 hpt=>?_;obtain⟨_,H8,J8,_,e8⟩:=hpt;subst e8;refine⟨m',hm',i+1,ys++[vy],σ6,_,J8.unpinned,T.keep _ _ _ st5 λb hb o e=>(J8.pin (b,o) (mem_append_right _ (mem_append_right _ (bo hb e)))).1,λb hb=>?_,w7⟩;obtain⟨o,e,d⟩:=T.obj _ _ st5 b hb;exact(J8.pin (b,o) (mem_append_right _ (mem_append_right _ (bo hb e)))).2.1
   |false =>
    rw[if_neg (by simp)]at q6⊢;obtain⟨m',hm',w7⟩:=q6;refine⟨m',hm',i+1,ys,σ6,_,J6.unpinned,T.keep _ _ _ st5 λb hb o e=>(J6.pin (b,o) (mem_append_right _ (mem_append_right _ (bo hb e)))).1,λb hb=>?_,w7⟩;obtain⟨o,e,d⟩:=T.obj _ _ st5 b hb;exact(J6.pin (b,o) (mem_append_right _ (mem_append_right _ (bo hb e)))).2.1
 exact codeAny_compStart_list loop (T.self _ 0 _ _ _ st1 loop)
theorem nD{elt tg iter:Expr}{pos spos py:Pos}{y:Str}{ii:Nat}{wi:TI}{g:TG}{te:TE}(hXN:X.N.Nodup)(hii:X.N[ii]?=some y)(hx:Loc X.env.scope y)(hc:X.calm=true)(L:LcOk X scope cl)(hN:N.length=k+js.length)(hj:∀(i j:Nat) x,js[i]?=some j→N[k+i]?=some x→X.N[j]?=some x∧Vis X.env.scope x∧X.env.scope.names.lookup x≠some .local∧((relabel scope X.env).names.lookup x=some .cell∨(relabel scope X.env).names.lookup x=some .free))(hi:PI X tg iter wi)(hg:∀s H fp,PG (cQ X N scope cl s H fp) tg g)(he:∀s H fp,PE (cQ X N scope cl s H fp) elt te)(hs:∀x,foldedSetIterable iter X.env x=pure x:=by intro _;rfl)(hsw:swapsWith (.ListComp elt [⟨tg,iter,[],0⟩] scope pos) (some (.Name y py)) spos.line X.env=pure true:=by rfl)(hf:X.fn y=true∨X.env.scope.names.lookup y=some .local:=by first|exact .inl rfl|exact .inr rfl|assumption):PS X (.Assign [.Name y py] (.ListComp elt [⟨tg,iter,[],0⟩] scope pos) spos) (ww (tLc k js wi g te) (bg ii)):=by
 intro pins s σ H D I h;rw[exec_Assign_Name_used _ _ _ _ hsw];refine wpAny_bind (wpAny_standAt (wpAny_bind ?_));show wpAny _ X.A (do let _ ← comprehension (.ListComp elt [⟨tg,iter,[],0⟩] scope pos) scope X.env _ (newList []) false (eval iter X.env) (some (assign (.Name y py) X.env))) _ _ s
 refine wpAny_bind (wpAny_mono (wpAny_comprehension_free (use:=some (assign (.Name y py) X.env)) (Q:=λ_ s'=>∃σ' H',Inv X pins σ' H' s'∧D.nx σ' H') rfl hs L.clos L.kind L.names ?_) (λ_ s' hq=>wpAny_pure (wpAny_pure hq)) λ_ _ e=>e);refine thn (hi pins s σ H _ I h) λv s1 h1=>thn h1 λitv s2 h2=>?_;obtain⟨it,fp,tn,J,H2,e,I2,T,st2,f2,hW⟩:=h2;subst e;have hfp:∀b∈fp,b<s2.heap.objs.size:=λb hb=>by
  obtain⟨o,e,_⟩:=T.obj _ _ st2 b hb;exact lt_size e
 refine wpAny_newObj_type (wpAny_newFunctionEnv L.nocell (by intro y hy;simp at hy) (λh₁ hns hsb=>?_) L.kind);dsimp only at hns hsb⊢;obtain⟨W,⟨m0,w0⟩,turn⟩:=hW s2.heap.objs.size (I2.hok.fresh (le_refl _));have I3:Inv X pins σ (upd H2 s2.heap.objs.size (.lst [])) {s2 with heap:=s2.heap.push {cls:=.type "list",dict:=none,data:=.seq ([]:List Value).toArray}}:=I2.lnew (t':=s2.toks) .nil (zero_le _)
 generalize hA:s2.heap.push {cls:=.type "list",dict:=none,data:=.seq ([]:List Value).toArray}=hpA at hns hsb I3⊢;have hszA:hpA.objs.size=s2.heap.objs.size+1:=by rw[←hA,size_push]
 have keepA:∀b o,s2.heap.get? b=some o→hpA.get? b=some o:=λb o e=>by rw[←hA];exact get?_push_of_some _ e
 have f3:∀b∈fp,fH X pins (upd H2 s2.heap.objs.size (.lst [])) b:=λb hb=>⟨by rw[ao (ne_of_lt (hfp b hb))];exact(f2 b hb).1,(f2 b hb).2⟩;have hfp3:∀b∈fp,b<hpA.objs.size:=λb hb=>by rw[hszA];exact lt_succ_of_lt (hfp b hb)
 have keep1:∀b o,hpA.get? b=some o→h₁.get? b=some o:=λb o e=>hsb.extBut b o (ne_of_lt (lt_size e)) (get?_push_of_some _ e);have J0:=ig (N:=N) (k:=k) (js:=js) (tk:=s2.toks+([]:List (Str×Value)).length) I3 L f3 hfp3 ⟨_,hns⟩ keep1 hN hj;have st1:tn 0 h₁:=T.keep _ _ _ st2 λb hb o e=>keep1 b o (keepA b o e);have stat:∀{H':Hp},(∀b∈fp,H' b=none)→∀b∈fp,fH (cQ X N scope cl {s2 with heap:=hpA} (upd H2 s2.heap.objs.size (.lst [])) fp) [] H' b:=λhn b hb =>
  ⟨hn b hb,ne_of_lt (hfp3 b hb),(mH (N:=N) I3 L f3 hfp3).exfs b hb,.inl hb,λx c h=>(f3 b hb).2.2.2.2.1 x c (L.cells x c h),λp hp=>absurd (show p∈([]:List (Addr×Obj))from hp) (by simp)⟩
 have loop:codeAny (model X.prog X.w) X.A (.compLoop (.ListComp elt [⟨tg,iter,[],0⟩] scope pos) 0 (.ref it) (.ref s2.heap.objs.size) (compEnvC scope cl hpA.objs.size X.env))
   (compPost (model X.prog X.w) X.A X.xe (some (assign (.Name y py) X.env)) (λ_ s'=>∃σ' H',Inv X pins σ' H' s'∧D.nx σ' H') (.ref s2.heap.objs.size) hpA.objs.size) {s2 with heap:=h₁,toks:=s2.toks+([]:List (Str×Value)).length}:=by
  refine pJ (λn s'=>∃i ys σ' H',Inv (cQ X N scope cl {s2 with heap:=hpA} (upd H2 s2.heap.objs.size (.lst [])) fp) [] σ' H' s'∧tn i s'.heap∧(∀b∈fp,H' b=none)∧W i n ys σ' H') ?_ m0 ⟨0,[],_,_,J0,st1,λb hb=>(f3 b hb).1,w0⟩
  rintro n s3 ⟨i,ys,σ3,H3,J3,st3,fr3,w3⟩;rcases turn i n ys σ3 H3 w3 with⟨stop,qn⟩|⟨go,hlen,step⟩
  ·refine thn (T.done (cQ X N scope cl {s2 with heap:=hpA} (upd H2 s2.heap.objs.size (.lst [])) fp) rfl rfl rfl hc i [] s3 σ3 H3 (λ_ _=>False) J3 (stat fr3) st3 stop) λr s4 hpt=>?_
   obtain⟨hr,J4⟩:=hpt;subst hr;obtain⟨m,hm,_⟩:=J4.loc;have I4:Inv X pins σ H3 s4:=lD I3 f3 J4 (SameBut.refl _ _);obtain⟨f0,f1,f2,f3',f4,f5⟩:=I3.fpOk (b:=hpA.objs.size) (le_refl _) (H':=H3) J4.free;show wpAny _ _ (assign (.Name y py) X.env (.ref s2.heap.objs.size)) _ _ _;refine wpAny_assign_Name (iD I4 hXN hii hx (v:=.ref s2.heap.objs.size) rfl (λs5 I5 ⟨a,sb,ha⟩=>⟨m,hm.sameBut sb ?_,λh' hs'=>⟨_,H3,I5.turned (t':=s5.toks) (λb o hb e=>(hs'.2 b hb).trans e) f0 f1 f3' f4 f5,qn⟩⟩) hf);rcases ha with e|e
   ·rw[e];exact f1
   ·exact λz=>f4 _ _ e z.symm
  ·refine thn (T.item (cQ X N scope cl {s2 with heap:=hpA} (upd H2 s2.heap.objs.size (.lst [])) fp) rfl rfl rfl hc i [] s3 σ3 H3 (λ_ _=>False) J3 (stat fr3) st3 go) λr s4 hpt=>?_
   obtain⟨u,hr,h4⟩:=hpt;subst hr;refine thn h4 λ_ s5 hpt=>?_;obtain⟨x,H5,J5,r5,y5,st5,fr5⟩:=hpt;have J5':=J5.pinned (stat fr5) (T.obj _ _ st5);refine thn (hg _ _ _ _ s5 σ3 H5 x u _ J5' r5 (step x H5 y5)) λ_ s6 hpt=>?_;obtain⟨σ6,H6,J6,q6⟩:=hpt;refine thn (he _ _ _ _ s6 σ6 H6 _ J6 q6) λy s7 hpt=>?_;obtain⟨vy,H7,J7,r7,q7,m',hm',w7⟩:=hpt;refine thn (bA _ s7 σ6 H7 (.ref s2.heap.objs.size) [vy] _ _ (λ_ H8=>H8=upd H7 s2.heap.objs.size (.lst (ys++[vy]))) J7 rfl (.cons r7 .nil) ⟨_,ys,vy,rfl,rfl,q7,hlen,rfl⟩) λ_ s8 hpt=>?_;obtain⟨_,H8,J8,_,e8⟩:=hpt;subst e8;refine⟨m',hm',i+1,ys++[vy],σ6,_,J8.unpinned,T.keep _ _ _ st5 λb hb o e=>(J8.pin (b,o) (mem_append_right _ (mem_append_right _ (bo hb e)))).1,λb hb=>?_,w7⟩;obtain⟨o,e,d⟩:=T.obj _ _ st5 b hb;exact(J8.pin (b,o) (mem_append_right _ (mem_append_right _ (bo hb e)))).2.1
 exact codeAny_compStart_list loop (T.self _ 0 _ _ _ st1 loop)
end
abbrev TJ:=St→Hp→(Hp→Prop)→Prop
section
variable{X:Cx}{tg:Expr}
def PJ(X:Cx)(ps:List Expr)(b:Nat)(t:TJ):Prop :=
 ∀(out:Str)(pins:List (Addr×Obj))(s:Shared)(σ:St)(H:Hp)(Q:VK),Inv X pins σ H s→out.length+b≤1000→(t σ H λH1=>∀y,Q (.str y) H1)→wpAny (model X.prog X.w) X.A (joinParts out (evalEach ps X.env)) (EP X pins σ Q) X.xe s
theorem gS:PJ X [] 0 (λσ H k=>k H):=by
 intro out pins s σ H Q I hb h;exact joinParts_nilE (joinParts_nil ⟨.str _,H,I.tok _,⟨_,rfl⟩,h _⟩ (le_of_lt (aJ (by omega))))
theorem di{x:Str}{c b:Nat}{j:Nat}{p:Pos}{ps:List Expr}{t:TJ}(hx:x.length≤c)(h:PJ X ps b t):PJ X (.Constant (.str x) j p::ps) (c+b) t:=by
 intro out pins s σ H Q I hb hq;refine joinParts_cons (Calls.Constant_str ?_);have hl:(out++x).length=out.length+x.length:=strLen_append ..;exact⟨le_of_lt (aJ (by omega)),h _ pins _ σ H Q (I.tok _) (by omega) hq⟩
theorem xa{e:Expr}{te:TE}{b:Nat}{p:Pos}{ps:List Expr}{t:TJ}(he:PE X e te)(h:PJ X ps b t):PJ X (.FormattedValue e (-1) none p::ps) (100+b) (λσ H k=>te σ H λv H1=>∃x:Str,v=.str x∧x.length≤100∧t σ H1 k):=by
 intro out pins s σ H Q I hb hq;refine joinParts_cons (FormattedValue_plain (thn (he pins _ σ H _ I hq) λv s1 hpt=>?_));obtain⟨y,H1,I1,r1,q1⟩:=hpt;obtain⟨x,rfl,h2,q⟩:=q1;obtain⟨tk,rfl⟩:=r1;have hl:(out++x).length=out.length+x.length:=strLen_append ..;refine formatField_str (λt' tk=>⟨le_of_lt (aJ (by omega)),?_⟩) (le_of_lt (aJ (by omega)));exact h _ pins _ σ H1 Q (I1.tok _) (by omega) q
def yH(t:TJ):TE:=λσ H Q=>t σ H λH1=>∀y,Q (.str y) H1
theorem fg{p1 p2:Expr}{ps:List Expr}{pos:Pos}{b:Nat}{t:TJ}(h:PJ X (p1::p2::ps) b t)(hb:b≤1000):PE X (.JoinedStr (p1::p2::ps) pos) (yH t):=by
 intro pins s σ H Q I hq;exact JoinedStr_many (h empty pins s σ H Q I (by show 0+b≤1000;omega) hq)
theorem xb{E:XK}(L:Lv X E):PassesOwn (model X.prog X.w) X.A X.env X.xe:=by
 rw[L.xe];exact PassesOwn.leaving
def iDK(td:TE):TI:=λσ H R=>td σ H λv H1=>∃d kvs,v=.ref d∧H1 d=some (.dK kvs)∧∀o,R (Itk d o (.dK kvs) (kvs.map λp=>kV p.1)) (upd H1 d (.frz o (.dK kvs)))
theorem vX{l:Expr}{tl:TE}(hl:PE X l tl):PI X tg l (iDK tl):=by
 intro pins s σ H R I h;refine thn (hl pins s σ H _ I h) λv s1 hpt=>?_;obtain⟨x,H1,I1,r1,q1⟩:=hpt;obtain⟨d,kvs,e,hH,q⟩:=q1;subst e;cases r1;obtain⟨hz,hsm,vs,rel,o,es,ep,ho,hx,hd,hk,hp,hn⟩:=I1.hok d _ hH;have I2:Inv X pins σ (upd H1 d (.frz o (.dK kvs))) s1:=I1.write (t':=s1.toks) (x:=d) (e:=d) (by rw[hH];trivial) (.inl rfl) (λ_ _ _ q=>q) ⟨o,ho⟩ ⟨ho,hz,hsm,vs,rel,o,es,ep,ho,hx,hd,hk,hp,hn⟩;refine ny hsm ⟨o,ho,hx,hd⟩ ?_;refine⟨s1.heap.objs.size,[s1.heap.objs.size],_,_,upd H1 d (.frz o (.dK kvs)),rfl,I2.kept (t':=s1.toks) λb o e=>get?_push_of_some _ e,kw hx hd ?_,⟨_,get?_push_size _ rfl,rfl,rfl⟩,λb hb=>?_,q o⟩
 ·have key:∀(es:List DictEntry)(vs:List (Key×Value))(kvs:List (Key×V)),Pairs (bb X.prog X.w) es vs→KV kvs vs→aT (kvs.map λp=>kV p.1) (es.map (·.key)):=by
   intro es vs kvs hp
   induction hp generalizing kvs with
   |nil=>intro r;cases r;exact .nil
   |cons h1 h2 _ ih =>
    intro r;cases r with
    |cons r1 r2 =>
     refine .cons ?_ (ih _ r2);dsimp only;rw[r1.1];rcases bq h1 with⟨i,t,e1,e2⟩|⟨x,t,e1,e2⟩
     ·rw[e1,e2];exact⟨t,rfl⟩
     ·rw[e1,e2];exact⟨t,rfl⟩
  exact key _ _ _ hp rel
 ·have e:b=s1.heap.objs.size:=by simpa using hb
  subst e;exact I2.fpOk (le_refl _) (I2.hok.fresh (le_refl _))
theorem oI(hu:X.A.units+1<cLine):OpR X (compareOp .In) (λx y H Q=>∃a p ks,∃kss:List (Addr×List Key),x=.ref a∧H a=some (.tup (ks.map kV))∧y=.ref p∧SqL X.K H p ((kss.map (·.1)).map V.ref) ∧
  (∀z∈kss,H z.1=some (.tup (z.2.map kV)))∧Q (.bl (kss.any λz=>decide (z.2=ks))) H):=by
 intro pins s σ H x y v u Q I rx ry h;obtain⟨a,p,ks,kss,rfl,ha,rfl,hq,hk,q⟩:=h;cases rx;cases ry;obtain⟨its,rv,pl,hz⟩:=I.list hq;have e:=dQ rv;subst e
 let e:Value→Bool:=λv=>match v with | .ref b=>((kss.find? λz=>z.1==b).map λz=>decide (z.2=ks)).getD false | _=>false
 have he:∀z∈kss,e (.ref z.1)=decide (z.2=ks):=λz hz'=>by
  show((kss.find? λy=>y.1==z.1).map λz=>decide (z.2=ks)).getD false=_;cases ef:kss.find? λy=>y.1==z.1 with
  |none=>have:=find?_eq_none.mp ef z hz';simp at this
  |some y =>
   have h1:=find?_some ef;have h2:=List.mem_of_find?_eq_some ef;have e1:y.1=z.1:=by simpa using h1
   have e2:=hk y h2;rw[e1,hk z hz']at e2;have e3:z.2.map kV=y.2.map kV:=by injection (Option.some.inj e2)
   rw[lC e3];rfl
 refine in_listAt e pl.isList (λy hy=>?_) ⟨.bl _,H,I,rfl,?_⟩
 ·have hy':y∈(kss.map (·.1)).map Value.ref:=by simpa using hy
  obtain⟨b,hb,rfl⟩:=mem_map.mp hy';obtain⟨z,hz',rfl⟩:=mem_map.mp hb;rw[he z hz'];intro prog w E' Q' hQ;exact wpAny_eqBool_tuple (knd:=bb prog w) (by simp;exact hu) (uH I (hk z hz') prog w) (uH I ha prog w) hQ
 ·have e1:(((kss.map (·.1)).map Value.ref).toArray.any e)=kss.any λz=>decide (z.2=ks):=by
   rw[List.any_toArray,any_map,any_map];apply Bool.eq_iff_iff.mpr;rw[any_eq_true,any_eq_true];constructor
   ·rintro⟨z,hz',h1⟩;exact⟨z,hz',by rw[←he z hz'];exact h1⟩
   ·rintro⟨z,hz',h1⟩;exact⟨z,hz',by show e (.ref z.1)=true;rw[he z hz'];exact h1⟩
  rw[e1];exact q
theorem xf(hu:X.A.units+4<cLine):OpR X (compareOp .Eq) (λx y H Q=>rEq x y H Q∨(∃a b xs ys,x=.ref a∧y=.ref b∧jy H xs ys∧((H a=some (.lst xs)∧H b=some (.lst ys))∨(H a=some (.tup xs)∧H b=some (.tup ys)))∧Q (.bl true) H)):=by
 intro pins s σ H x y v u Q I rx ry h;rcases h with h|⟨a,b,xs,ys,rfl,rfl,hx,h,q⟩
 ·exact cv pins s σ H x y v u Q I rx ry h
 ·cases rx;cases ry;rcases h with⟨ha,hb⟩|⟨ha,hb⟩
  ·obtain⟨_,us,n1,r1,o1⟩:=I.hok a _ ha;obtain⟨_,ws,n2,r2,o2⟩:=I.hok b _ hb;have hl:=hx.1;have l1:=r1.length;have l2:=r2.length;refine eq_listAt (e:=λ_=>true) ⟨_,o1,rfl,n1,rfl⟩ ⟨_,o2,rfl,n2,rfl⟩ (by simp only[size_toArray];omega) (by omega) (nC I r1 r2 hx (by simp[Around.in1_units];omega)) ⟨.bl true,H,I,?_,q⟩;show _=Value.bool true;simp
  ·obtain⟨_,us,r1,t1⟩:=I.hok a _ ha;obtain⟨_,ws,r2,t2⟩:=I.hok b _ hb;have hl:=hx.1;have l1:=r1.length;have l2:=r2.length;refine SeqAt.eq_tupleAt (e:=λ_=>true) t1 t2 (by omega) (nC I r1 r2 hx (by simp[Around.in1_units];omega)) ⟨.bl true,H,I,?_,q⟩;show _=Value.bool true;have:us.toArray.size=ws.toArray.size:=by simp only[size_toArray];omega
   simp[this]
end
theorem Same.seqT{K:PySem.W.Frag}{H H':Hp}{a:Addr}{xs:List V}(e:Same H H')(h:SqT K H a xs):SqT K H' a xs:=by
 rcases h with (h|⟨o,h⟩)|h
 ·exact .inl (.inl (e _ _ h))
 ·exact .inl (.inr ⟨o,e _ _ h⟩)
 ·exact .inr h
structure Src(J:It)(H1:Hp)(xs:List V):Prop where
 go:∀i H',i<xs.length→Same H1 H'→J.go i H'
 stop:∀H',Same H1 H'→J.stop xs.length H'
 yl:∀i H' x H2,i<xs.length→Same H1 H'→J.yld i H' x H2→H2=H'∧xs[i]?=some x
theorem eG{K:PySem.W.Frag}{a:Addr}{xs:List V}{H1:Hp}(h:SqT K H1 a xs):Src (Itt K a) H1 xs :=
 ⟨λi H' hi s=>⟨xs,xs[i],s.seqT h,getElem?_eq_getElem hi⟩,λH' s=>⟨xs,s.seqT h,le_refl _⟩,λi H' x H2 _ s ⟨e,y⟩=>⟨e,y xs (by subst e;exact s.seqT h)⟩⟩
theorem dq{K:PySem.W.Frag}{a:Addr}{xs:List V}{H1:Hp}(h:SqL K H1 a xs):Src (Itl K a) H1 xs :=
 ⟨λi H' hi s=>⟨xs,xs[i],s.seq h,getElem?_eq_getElem hi⟩,λH' s=>⟨xs,s.seq h,le_refl _⟩,λi H' x H2 _ s ⟨e,y⟩=>⟨e,y xs (by subst e;exact s.seq h)⟩⟩
theorem dC{d:Addr}{o:Obj}{u:HO}{ks:List V}{H1:Hp}(h:H1 d=some (.frz o u)):Src (Itk d o u ks) H1 ks :=
 ⟨λi H' hi s=>⟨s _ _ h,hi⟩,λH' s=>⟨s _ _ h,le_refl _⟩,λi H' x H2 _ s ⟨e,y⟩=>⟨e,y⟩⟩
theorem Paired.snoc{α β:Type}{R:α→β→Prop}:∀{as:List α}{bs:List β}{a:α}{b:β},Paired R as bs→R a b→Paired R (as++[a]) (bs++[b])
 |_,_,_,_,.nil,h=>.cons h .nil
 |_,_,_,_,.cons r t,h=>.cons r (Paired.snoc t h)
theorem cy{α:Type}{js:List Nat}{J:It}{tc:TT}{te:TE}{σ:St}{H1:Hp}{Q:VK}{p:Addr}{fr:List (Option V)}(zs:List α)(val:α→V)(hn:zs.length≤1000)(hp:H1 p=none)(S:Src J H1 (zs.map val))(hfr:dO 1 js σ=none::fr)(g:α→Bool)(R:α→V→Hp→Prop)(hR:∀z y H H',R z y H→Ext p H H'→R z y H')(cond:∀z H' (k:Bool→Hp→Prop),z∈zs→Same H1 H'→(∃ys,H' p=some (.lst ys))→(∀H4,Same H' H4→k (g z) H4)→tc (some (val z)::fr) H' k)(elt:∀z H' (k:VK),z∈zs→g z=true→Same H1 H'→(∃ys,H' p=some (.lst ys))→(∀y H4,Same H' H4→R z y H4→k y H4)→te (some (val z)::fr) H' k)(fin:∀ys H',Same H1 H'→H' p=some (.lst ys)→Paired (λz y=>R z y H') (zs.filter g) ys→Q (.ref p) H'):yC 1 js (bg 0) tc te σ Q J H1 p:=by
 have grow:∀{as:List α}{ys:List V}{H H':Hp},Ext p H H'→Paired (λz y=>R z y H) as ys→Paired (λz y=>R z y H') as ys:=λex r=>Paired.mapP r λa b h=>hR a b _ _ h ex;have hlen:∀{as:List α}{ys:List V}{H:Hp},Paired (λz y=>R z y H) as ys→ys.length=as.length:=λr=>(Paired.length r).symm;refine⟨λi m ys σ' H'=>m=zs.length-i∧i≤zs.length∧(∃o,σ'=o::fr)∧Same H1 H'∧H' p=some (.lst ys)∧Paired (λz y=>R z y H') ((zs.take i).filter g) ys,⟨zs.length,by simp,zero_le _,⟨none,hfr⟩,ag hp,ac,.nil⟩,?_⟩;rintro i m ys σ' H' ⟨rfl,hi,⟨o,rfl⟩,s1,hl,hys⟩
 by_cases hlt:i<zs.length
 ·have hlt':i<(zs.map val).length:=by rw[length_map];exact hlt
  refine .inr ⟨S.go i H' hlt' s1,?_,λx H2 hy=>?_⟩
  ·have h1:ys.length≤zs.length:=by
    rw[hlen hys];exact le_trans (length_filter_le _ _) (by rw[length_take];omega)
   exact lt_of_le_of_lt h1 (aJ hn)
  ·obtain⟨rfl,hx⟩:=S.yl i H' x H2 hlt' s1 hy;have gz:zs[i]?=some zs[i]:=getElem?_eq_getElem hlt;have mz:=mem_of_getElem? gz;rw[getElem?_map,gz]at hx;have ex:val zs[i]=x:=Option.some.inj hx;have et:zs.take (i+1)=zs.take i++[zs[i]]:=bG gz;subst ex;generalize zs[i]=z at gz mz et⊢;refine cond z H2 _ mz s1 ⟨ys,hl⟩ λH4 s4=>?_;cases hb:g z with
   |true =>
    rw[if_pos rfl];refine elt z H4 _ mz hb (s1.trans s4) ⟨ys,s4 _ _ hl⟩ λy H5 s5 r5=>⟨s5 _ _ (s4 _ _ hl),zs.length-(i+1),by omega,rfl,hlt,⟨_,rfl⟩,aS hp ((s1.trans s4).trans s5),ac,?_⟩;rw[et,filter_append,filter_cons_of_pos hb];exact Paired.snoc (grow ((Ext.of (s4.trans s5)).trans Ext.upd) hys) (hR _ _ _ _ r5 Ext.upd)
   |false =>
    rw[if_neg (by simp)];refine⟨zs.length-(i+1),by omega,rfl,hlt,⟨_,rfl⟩,s1.trans s4,s4 _ _ hl,?_⟩;rw[et,filter_append,filter_cons_of_neg (by simp[hb]),List.filter_nil,append_nil];exact grow (Ext.of s4) hys
 ·have e:i=zs.length:=by omega
  subst e;have st:=S.stop H' s1;rw[length_map]at st;refine .inl ⟨st,fin ys H' s1 hl ?_⟩;rw[take_length]at hys;exact hys
theorem eI{α:Type}{js:List Nat}{J:It}{te:TE}{σ:St}{H1:Hp}{Q:VK}{p:Addr}{fr:List (Option V)}(zs:List α)(val:α→V)(hn:zs.length≤1000)(hp:H1 p=none)(S:Src J H1 (zs.map val))(hfr:dO 1 js σ=none::fr)(R:α→V→Hp→Prop)(hR:∀z y H H',R z y H→Ext p H H'→R z y H')(elt:∀z H' (k:VK),z∈zs→Same H1 H'→(∃ys,H' p=some (.lst ys))→(∀y H4,Same H' H4→R z y H4→k y H4)→te (some (val z)::fr) H' k)(fin:∀ys H',Same H1 H'→H' p=some (.lst ys)→Paired (λz y=>R z y H') zs ys→Q (.ref p) H'):LcW 1 js (bg 0) te σ Q J H1 p:=by
 have grow:∀{as:List α}{ys:List V}{H H':Hp},Ext p H H'→Paired (λz y=>R z y H) as ys→Paired (λz y=>R z y H') as ys:=λex r=>Paired.mapP r λa b h=>hR a b _ _ h ex;have hlen:∀{as:List α}{ys:List V}{H:Hp},Paired (λz y=>R z y H) as ys→ys.length=as.length:=λr=>(Paired.length r).symm;refine⟨λi m ys σ' H'=>m=zs.length-i∧i≤zs.length∧(∃o,σ'=o::fr)∧Same H1 H'∧H' p=some (.lst ys)∧Paired (λz y=>R z y H') (zs.take i) ys,⟨zs.length,by simp,zero_le _,⟨none,hfr⟩,ag hp,ac,.nil⟩,?_⟩;rintro i m ys σ' H' ⟨rfl,hi,⟨o,rfl⟩,s1,hl,hys⟩
 by_cases hlt:i<zs.length
 ·have hlt':i<(zs.map val).length:=by rw[length_map];exact hlt
  refine .inr ⟨S.go i H' hlt' s1,?_,λx H2 hy=>?_⟩
  ·have h1:ys.length≤zs.length:=by
    rw[hlen hys,length_take];omega
   exact lt_of_le_of_lt h1 (aJ hn)
  ·obtain⟨rfl,hx⟩:=S.yl i H' x H2 hlt' s1 hy;have gz:zs[i]?=some zs[i]:=getElem?_eq_getElem hlt;have mz:=mem_of_getElem? gz;rw[getElem?_map,gz]at hx;have ex:val zs[i]=x:=Option.some.inj hx;have et:zs.take (i+1)=zs.take i++[zs[i]]:=bG gz;subst ex;generalize zs[i]=z at gz mz et⊢;refine elt z H2 _ mz s1 ⟨ys,hl⟩ λy H5 s5 r5=>⟨s5 _ _ hl,zs.length-(i+1),by omega,rfl,hlt,⟨_,rfl⟩,aS hp (s1.trans s5),ac,?_⟩;rw[et];exact Paired.snoc (grow ((Ext.of s5).trans Ext.upd) hys) (hR _ _ _ _ r5 Ext.upd)
 ·have e:i=zs.length:=by omega
  subst e;have st:=S.stop H' s1;rw[length_map]at st;refine .inl ⟨st,fin ys H' s1 hl ?_⟩;rw[take_length]at hys;exact hys
theorem cM{α β:Type}{R:α→V→Prop}{val:β→V}{S:α→β→Prop}{zs:List α}{ys:List V}(h:Paired R zs ys)(f:∀z y,z∈zs→R z y→∃b,y=val b∧S z b):
  ∃bs:List (α×β),bs.map (·.1)=zs∧ys=bs.map (λx=>val x.2)∧∀x∈bs,S x.1 x.2:=by
 induction h with
 |nil=>exact⟨[],rfl,rfl,by simp⟩
 |@cons a y as bs r _ ih =>
  obtain⟨cs,e1,e2,e3⟩:=ih λz y hz=>f z y (by simp[hz]);obtain⟨b,e,s⟩:=f _ _ (by simp) r;refine⟨(a,b)::cs,by rw[map_cons,e1],by rw[map_cons,←e2,e],λx hx=>?_⟩;rcases mem_cons.mp hx with rfl|hx
  ·exact s
  ·exact e3 x hx
theorem aY{α:Type}{R:α→V→Prop}{f:α→V}{zs:List α}{ys:List V}(h:Paired R zs ys)(hf:∀z y,z∈zs→R z y→y=f z):ys=zs.map f:=by
 induction h with
 |nil=>rfl
 |cons r _ ih=>rw[map_cons,←ih λz y hz=>hf z y (by simp[hz]),hf _ _ (by simp) r]
theorem lK(p:Int)(ms:List Int):inV (.int p) (ms.map V.int)=decide (p∈ms):=by
 unfold inV;rw[any_map,Bool.eq_iff_iff,any_eq_true,decide_eq_true_eq];constructor
 ·rintro⟨x,hx,e⟩;have:x=p:=by simpa [eqV]using e
  rw[←this];exact hx
 ·intro h;exact⟨p,h,by simp[eqV]⟩
theorem iK(ms:List Int):(ms.map V.int).all dJ=true:=by
 rw[List.all_map,all_eq_true];intro x _;rfl
theorem Inv.thaw{X:Cx}{pins:List (Addr×Obj)}{σ:St}{H:Hp}{s:Shared}{d:Addr}{o:Obj}{kvs:List (Key×V)}(I:Inv X pins σ H s)(h:H d=some (.frz o (.dK kvs)))(h0:X.H₀ d=none):Inv X pins σ (upd H d (.dK kvs)) s:=by
 have nd:∀b u,H b=some u→(∀o' u',u≠.frz o' u')→b≠d:=λb u e hn z=>by
  subst z;rw[h]at e;cases e;exact hn _ _ rfl
 have nn:∀b,H b=none→b≠d:=λb e z=>by
  subst z;rw[h]at e;cases e
 refine⟨I.ok,I.os,I.bare,⟨I.base.keep,I.base.slot,λb o e n hx=>?_,I.base.there,λb xs e=>?_,λb o' u e=>?_,λb ps e=>?_⟩,I.loc,I.cell,?_,λx c e=>?_,λp hp=>?_,λb u e=>?_,I.len⟩
 ·have:=I.base.free b o e n hx;rw[ao (nn b this)];exact this
 ·have:=I.base.tups b xs e;rw[ao (nd b _ this λ_ _ z=>by cases z)];exact this
 ·have hb:b≠d:=λz=>by subst z;rw[h0]at e;cases e
  rw[ao hb];exact I.base.frzs b o' u e
 ·obtain⟨m,this⟩:=I.base.tbls b ps e;exact⟨m,by rw[ao (nd b _ this λ_ _ z=>by cases z)];exact this⟩
 ·rw[ao (nn _ I.free)];exact I.free
 ·rw[ao (nn _ (I.freeC x c e))];exact I.freeC x c e
 ·obtain⟨e,n,r⟩:=I.pin p hp;exact⟨e,by rw[ao (nn _ n)];exact n,r⟩
 ·by_cases hb:b=d
  ·subst hb;rw[ac]at e;cases e;obtain⟨_,q⟩:=I.hok b _ h;exact q
  ·rw[ao hb]at e;exact(I.hok b u e).stay (λ_ _ _ q=>q) (λc q=>by rw[ao (nd c _ q λ_ _ z=>by cases z)];exact q) λc xs q=>by rw[ao (nd c _ q λ_ _ z=>by cases z)];exact q
def yI(H₀:Hp)(t:TS):TS:=λD σ H=>∃d o kvs,H₀ d=none∧H d=some (.frz o (.dK kvs))∧t D σ (upd H d (.dK kvs))
theorem uP{X:Cx}{st:Stmt}{t:TS}(hs:PS X st t):PS X st (yI X.H₀ t):=λpins s σ H D I ⟨d,o,kvs,h0,h,ht⟩=>hs pins s σ _ D (I.thaw h h0) ht
end L2
namespace TW
structure Nd(S:Type) where
 num:Int
 par:Int
 nm:S
 st:Option Int
section
variable{S:Type}
inductive Reach(ns:List (Nd S))(f:Int):Nd S→Prop where
 |base {n:Nd S}:n∈ns→n.par=f→Reach ns f n
 |step {m n:Nd S}:Reach ns f m→m.st=none→n∈ns→n.par=m.num→Reach ns f n
theorem Reach.mem{ns:List (Nd S)}{f:Int}{n:Nd S}(h:Reach ns f n):n∈ns:=by
 cases h<;>assumption
theorem Reach.mono{ns ms:List (Nd S)}{f:Int}{n:Nd S}(h:Reach ns f n)(hs:∀x∈ns,x∈ms):Reach ms f n:=by
 induction h with
 |base hm hp=>exact .base (hs _ hm) hp
 |step _ hf hm hp ih=>exact .step ih hf (hs _ hm) hp
def inside(ns:List (Nd S))(k:Int):List (Nd S):=ns.filter λn=>decide (n.par=k)
def fA(dn:List Int)(n:Nd S):Bool:=decide (n.par∈dn)
structure Walk(ns:List (Nd S))(f:Int)(dn:List Int)(fd:List (Nd S))(pd:List Int):Prop where
 perm:fd.Perm (ns.filter (fA dn))
 reach:∀n∈fd,Reach ns f n
 cover:∀k,(k∈pd∨k∈dn)↔(k=f∨∃m∈fd,m.st=none∧m.num=k)
theorem Walk.start(ns:List (Nd S))(f:Int):Walk ns f [] [] [f]:=by
 refine⟨?_,by simp,λk=>by simp⟩;have e:ns.filter (fA [])=[]:=by
  rw[filter_eq_nil_iff];intro a _;simp[fA]
 rw[e]
theorem gf{α:Type}(p q:α→Bool)(hd:∀x,p x=true→q x=true→False):∀l:List α,
  (l.filter p++l.filter q).Perm (l.filter λx=>p x||q x)
 |[]=>by simp
 |x::l=>by
  have ih:=gf p q hd l;cases hp:p x with
  |true =>
   have hq:q x=false:=by
    cases h:q x with
    |false=>rfl
    |true=>exact(hd x hp h).elim
   rw[filter_cons_of_pos hp,filter_cons_of_neg (by simp[hq]),filter_cons_of_pos (by simp[hp])];exact List.Perm.cons x ih
  |false =>
   cases hq:q x with
   |true =>
    rw[filter_cons_of_neg (by simp[hp]),filter_cons_of_pos hq,filter_cons_of_pos (by simp[hq])];exact List.perm_middle.trans (List.Perm.cons x ih)
   |false =>
    rw[filter_cons_of_neg (by simp[hp]),filter_cons_of_neg (by simp[hq]),filter_cons_of_neg (by simp[hp,hq])];exact ih
def here(ns:List (Nd S))(dn:List Int)(x:Int):List (Nd S):=if x∈dn then []else inside ns x
def be(l:List (Nd S)):List Int:=(l.filter λn=>n.st.isNone).map (·.num)
theorem iV{l:List (Nd S)}{k:Int}:k∈be l↔∃m∈l,m.st=none∧m.num=k:=by
 unfold be;rw[mem_map];constructor
 ·rintro⟨m,hm,e⟩;rw[mem_filter]at hm;exact⟨m,hm.1,by simpa using hm.2,e⟩
 ·rintro⟨m,hm,h,e⟩;exact⟨m,mem_filter.mpr ⟨hm,by simp[h]⟩,e⟩
theorem Walk.turn{ns:List (Nd S)}{f x:Int}{dn:List Int}{fd:List (Nd S)}{pd:List Int}(w:Walk ns f dn fd (pd++[x])):
  Walk ns f (x::dn) (fd++here ns dn x) (pd++be (here ns dn x)):=by
 have hx:=(w.cover x).mp (.inl (by simp))
 by_cases hd:x∈dn
 ·have eh:here ns dn x=[]:=by unfold here;rw[if_pos hd]
  rw[eh];refine⟨?_,by simpa using w.reach,λk=>?_⟩
  ·have e:ns.filter (fA (x::dn))=ns.filter (fA dn):=by
    apply filter_congr;intro n _;simp only[fA,mem_cons,decide_eq_decide];constructor
    ·rintro(h|h)
     ·rw[h];exact hd
     ·exact h
    ·exact .inr
   rw[e,append_nil];exact w.perm
  ·have c:=w.cover k;rw[append_nil,←c];simp only[be,List.filter_nil,map_nil,append_nil,mem_append,mem_cons,not_mem_nil,or_false];constructor
   ·rintro(h|h|h)
    ·exact .inl (.inl h)
    ·exact .inl (.inr h)
    ·exact .inr h
   ·rintro((h|h)|h)
    ·exact .inl h
    ·exact .inr (.inl h)
    ·exact .inr (.inr h)
 ·have eh:here ns dn x=inside ns x:=by unfold here;rw[if_neg hd]
  rw[eh];refine⟨?_,λn hn=>?_,λk=>?_⟩
  ·have e:ns.filter (fA (x::dn))=ns.filter λn=>fA dn n||decide (n.par=x):=by
    apply filter_congr;intro n _;rw[Bool.eq_iff_iff];simp only[fA,mem_cons,decide_eq_true_eq,Bool.or_eq_true];constructor
    ·rintro(h|h)
     ·exact .inr h
     ·exact .inl h
    ·rintro(h|h)
     ·exact .inr h
     ·exact .inl h
   rw[e];refine(List.Perm.append_right _ w.perm).trans (gf _ _ (λy h1 h2=>?_) ns);simp only[fA,decide_eq_true_eq]at h1 h2;rw[h2]at h1;exact hd h1
  ·rcases mem_append.mp hn with h|h
   ·exact w.reach n h
   ·unfold inside at h;rw[mem_filter]at h;obtain⟨hm,hp⟩:=h;simp only[decide_eq_true_eq]at hp;rcases hx with e|⟨m,hm',hf,e⟩
    ·exact .base hm (hp.trans e)
    ·exact .step (w.reach m hm') hf hm (hp.trans e.symm)
  ·have c:=w.cover k;simp only[mem_append,mem_cons,not_mem_nil,or_false]at c⊢;rw[iV];constructor
   ·rintro((h|⟨m,hm,h1,h2⟩)|h|h)
    ·rcases c.mp (.inl (.inl h))with e|⟨m,hm,z⟩
     ·exact .inl e
     ·exact .inr ⟨m,.inl hm,z⟩
    ·exact .inr ⟨m,.inr hm,h1,h2⟩
    ·rcases c.mp (.inl (.inr h))with e|⟨m,hm,z⟩
     ·exact .inl e
     ·exact .inr ⟨m,.inl hm,z⟩
    ·rcases c.mp (.inr h)with e|⟨m,hm,z⟩
     ·exact .inl e
     ·exact .inr ⟨m,.inl hm,z⟩
   ·rintro(e|⟨m,hm|hm,z⟩)
    ·rcases c.mpr (.inl e)with (h|h)|h
     ·exact .inl (.inl h)
     ·exact .inr (.inl h)
     ·exact .inr (.inr h)
    ·rcases c.mpr (.inr ⟨m,hm,z⟩)with (h|h)|h
     ·exact .inl (.inl h)
     ·exact .inr (.inl h)
     ·exact .inr (.inr h)
    ·exact .inl (.inr ⟨m,hm,z⟩)
theorem Walk.len{ns:List (Nd S)}{f:Int}{dn:List Int}{fd:List (Nd S)}{pd:List Int}(w:Walk ns f dn fd pd):fd.length≤ns.length:=by
 rw[w.perm.length_eq];exact length_filter_le _ _
theorem eJ(l:List (Nd S)):(be l).length≤l.length:=by
 unfold be;rw[length_map];exact length_filter_le _ _
theorem Walk.mem{ns:List (Nd S)}{f:Int}{dn:List Int}{fd:List (Nd S)}(w:Walk ns f dn fd [])(n:Nd S):n∈fd↔Reach ns f n:=by
 constructor
 ·exact w.reach n
 ·have cov:∀k,(k=f∨∃m∈fd,m.st=none∧m.num=k)→k∈dn:=λk h=>by
   rcases (w.cover k).mpr h with z|z
   ·simp at z
   ·exact z
  have back:∀x,x∈ns→x.par∈dn→x∈fd:=λx hx hp=>w.perm.mem_iff.mpr (mem_filter.mpr ⟨hx,by simp[fA,hp]⟩);intro h
  induction h with
  |base hm hp=>exact back _ hm (cov _ (.inl hp))
  |step _ hf hm hp ih=>exact back _ hm (cov _ (.inr ⟨_,ih,hf,hp.symm⟩))
def cO(ns:List (Nd S)):Prop:=ns.Pairwise λa b=>a.num<b.num
def dY(ns:List (Nd S)):Prop:=(ns.map λn=>(n.par,n.nm)).Nodup
structure Tree(ns:List (Nd S)):Prop where
 rise:cO ns
 own:dY ns
 down:∀n∈ns,Reach ns 0 n
inductive Built:List (Nd S)→Prop where
 |nil:Built []
 |snoc {l:List (Nd S)} {n:Nd S}:Built l→(n.par=0∨∃m∈l,m.st=none∧m.num=n.par)→Built (l++[n])
theorem Built.down{l:List (Nd S)}(b:Built l):∀n∈l,Reach l 0 n:=by
 induction b with
 |nil=>simp
 |@snoc l n b h ih =>
  intro x hx;have up:∀y∈l,y∈l++[n]:=λy hy=>mem_append_left _ hy;rcases mem_append.mp hx with hx|hx
  ·exact(ih x hx).mono up
  ·have e:x=n:=by simpa using hx
   subst e;rcases h with h|⟨m,hm,hf,he⟩
   ·exact .base (by simp) h
   ·exact .step ((ih m hm).mono up) hf (by simp) he.symm
theorem uQ{l t:List (Nd S)}(b:Built l)(p:t.Perm l)(hr:t.Pairwise λa b=>a.num≤b.num)(hn:(l.map (·.num)).Nodup)(ho:dY l):Tree t:=by
 refine⟨?_,?_,λn hn'=>?_⟩
 ·have hn':(t.map (·.num)).Nodup:=((p.map _).nodup_iff).mpr hn;unfold Nodup at hn';rw[pairwise_map]at hn';unfold cO;exact hr.imp₂ (λa b h1 h2=>by omega) hn'
 ·unfold dY;exact((p.map _).nodup_iff).mpr ho
 ·exact(b.down n (p.mem_iff.mp hn')).mono λx hx=>p.mem_iff.mpr hx
theorem sw{t:List (Nd S)}(h:cO t){a b:Nd S}(ha:a∈t)(hb:b∈t)(e:a.num=b.num):a=b:=by
 unfold cO at h
 induction t with
 |nil=>simp at ha
 |cons x r ih =>
  rw[pairwise_cons]at h;rcases mem_cons.mp ha with ea|ha'
  ·rcases mem_cons.mp hb with eb|hb'
   ·rw[ea,eb]
   ·have:=h.1 b hb';rw[←ea]at this;omega
  ·rcases mem_cons.mp hb with eb|hb'
   ·have:=h.1 a ha';rw[←eb]at this;omega
   ·exact ih h.2 ha' hb'
end
end TW
namespace TW
section
variable{S:Type}
inductive PathTo(ns:List (Nd S)):Int→List S→Prop where
 |top:PathTo ns 0 []
 |node {n:Nd S} {p:List S}:n∈ns→PathTo ns n.par p→PathTo ns n.num (p++[n.nm])
structure Tree1(ns:List (Nd S)):Prop extends Tree ns where
 pos:∀n∈ns,1≤n.num
theorem Tree1.inj{ns:List (Nd S)}(T:Tree1 ns){a b:Nd S}(ha:a∈ns)(hb:b∈ns)(e:a.num=b.num):a=b:=sw T.rise ha hb e
theorem PathTo.zero{ns:List (Nd S)}(T:Tree1 ns){k:Int}{p:List S}(h:PathTo ns k p)(e:k=0):p=[]:=by
 cases h with
 |top=>rfl
 |@node n p hm _=>have:=T.pos n hm;omega
theorem PathTo.inv{ns:List (Nd S)}(T:Tree1 ns){k:Int}{p:List S}(h:PathTo ns k p){n:Nd S}(hn:n∈ns)(e:k=n.num):∃q,p=q++[n.nm]∧PathTo ns n.par q:=by
 cases h with
 |top=>have:=T.pos n hn;omega
 |@node m q hm hq =>
  have:m=n:=T.inj hm hn e;subst this;exact⟨q,rfl,hq⟩
theorem PathTo.uniq{ns:List (Nd S)}(T:Tree1 ns){k:Int}{p:List S}(h:PathTo ns k p):∀{q:List S},PathTo ns k q→p=q:=by
 induction h with
 |top=>intro q hq;exact(hq.zero T rfl).symm
 |@node n p hm _ ih =>
  intro q hq;obtain⟨q',e,hq'⟩:=hq.inv T hm rfl;rw[e,ih hq']
theorem PathTo.ex{ns:List (Nd S)}(T:Tree1 ns){n:Nd S}(hn:n∈ns):∃p,PathTo ns n.num p:=by
 have key:∀x,Reach ns 0 x→∃p,PathTo ns x.num p:=by
  intro x r
  induction r with
  |base hm hp=>exact⟨_,.node hm (by rw[hp];exact .top)⟩
  |step _ _ hm hp ih =>
   obtain⟨p,h⟩:=ih;exact⟨_,.node hm (by rw[hp];exact h)⟩
 exact key n (T.down n hn)
inductive Und(ns:List (Nd S))(g:Int):Int→Prop where
 |here:Und ns g g
 |up {n:Nd S}:n∈ns→Und ns g n.par→Und ns g n.num
theorem Und.zero{ns:List (Nd S)}(T:Tree1 ns){g k:Int}(h:Und ns g k)(e:k=0):g=0:=by
 cases h with
 |here=>exact e
 |@up n hm _=>have:=T.pos n hm;omega
theorem Und.inv{ns:List (Nd S)}(T:Tree1 ns){g k:Int}(h:Und ns g k){n:Nd S}(hn:n∈ns)(e:k=n.num)(hg:k≠g):Und ns g n.par:=by
 cases h with
 |here=>exact absurd rfl hg
 |@up m hm hu =>
  have:m=n:=T.inj hm hn e;subst this;exact hu
theorem dj{ns:List (Nd S)}(T:Tree1 ns){n:Nd S}(hn:n∈ns):n.par=0∨∃m∈ns,m.st=none∧m.num=n.par:=by
 have:=T.down n hn;cases this with
 |base _ hp=>exact .inl hp
 |@step m _ hr hf _ hp=>exact .inr ⟨m,hr.mem,hf,hp.symm⟩
theorem ky{ns:List (Nd S)}(T:Tree1 ns){g:Int}{n:Nd S}(h:Reach ns g n):Und ns g n.num∧∃p q,PathTo ns n.num (p++q)∧q≠[]∧PathTo ns g p:=by
 induction h with
 |@base n hm hp =>
  obtain⟨p,h⟩:=PathTo.ex T hm;obtain⟨q,e,hq⟩:=h.inv T hm rfl;refine⟨.up hm (by rw[hp];exact .here),q,[n.nm],by rw[←e];exact h,by simp,by rw[←hp];exact hq⟩
 |@step m n hr hf hm hp ih =>
  obtain⟨hu,p,q,h1,h2,h3⟩:=ih;refine⟨.up hm (by rw[hp];exact hu),p,q++[n.nm],?_,by simp,h3⟩;rw[←append_assoc];exact .node hm (by rw[hp];exact h1)
theorem gg{ns:List (Nd S)}(T:Tree1 ns){g:Int}{n:Nd S}(h:Reach ns g n):n.num≠g:=by
 obtain⟨_,p,q,h1,h2,h3⟩:=ky T h;intro e;rw[e]at h1;have:=h1.uniq T h3;have hl:=congrArg length this;rw[length_append]at hl;have:q.length≠0:=λz=>h2 (List.length_eq_zero_iff.mp z);omega
theorem re{ns:List (Nd S)}(T:Tree1 ns){g:Int}(hg:1≤g):∀{k:Int}{p:List S},PathTo ns k p→∀{n:Nd S},n∈ns→k=n.num→Und ns g k→k≠g→Reach ns g n:=by
 intro k p h
 induction h with
 |top=>intro n hn e;have:=T.pos n hn;omega
 |@node m p hm hp ih =>
  intro n hn e hu hne;have:m=n:=T.inj hm hn e;subst this;have hu':=hu.inv T hm rfl hne
  by_cases hpg:m.par=g
  ·exact .base hm hpg
  ·rcases dj T hm with h0|⟨r,hr,hf,er⟩
   ·have:=hu'.zero T h0;omega
   ·exact .step (ih hr er.symm hu' hpg) hf hm er.symm
theorem dR{ns:List (Nd S)}(T:Tree1 ns){g:Int}(hg:1≤g){n:Nd S}(hn:n∈ns):Reach ns g n↔n.num≠g∧Und ns g n.num:=by
 constructor
 ·intro h;exact⟨gg T h,(ky T h).1⟩
 ·rintro⟨h1,h2⟩;obtain⟨p,hp⟩:=PathTo.ex T hn;exact re T hg hp hn rfl h2 h1
end
end TW
namespace TW
section
variable{S:Type}
theorem kA{t:List (Nd S)}:cO t↔(t.map (·.num)).Pairwise (λa b:Int=>a<b):=by
 unfold cO;rw[pairwise_map]
def gT(t:List (Nd S))(p:Int):Prop:=p=0∨∃m∈t,m.st=none∧m.num=p
theorem made{t u:List (Nd S)}{n:Nd S}(T:Tree1 t)(hp:u.Perm (n::t))(hr:cO u)(h1:1≤n.num)(hf:gT t n.par)(ho:∀m∈t,¬(m.par=n.par∧m.nm=n.nm)):Tree1 u:=by
 have hm:∀x,x∈u↔x=n∨x∈t:=λx=>by rw[hp.mem_iff,mem_cons]
 have ht:∀x,x∈t→x∈u:=λx hx=>(hm x).mpr (.inr hx);refine⟨⟨hr,?_,λx hx=>?_⟩,λx hx=>?_⟩
 ·unfold dY;rw[(hp.map λn:Nd S=>(n.par,n.nm)).nodup_iff,map_cons,nodup_cons];refine⟨λhx=>?_,T.own⟩;obtain⟨m,h2,e⟩:=mem_map.mp hx;injection e with e1 e2
  exact ho m h2 ⟨e1,e2⟩
 ·rcases (hm x).mp hx with e|hx
  ·subst e;rcases hf with e|⟨m,h2,h3,e⟩
   ·exact .base hx e
   ·exact .step ((T.down m h2).mono ht) h3 hx e.symm
  ·exact(T.down x hx).mono ht
 ·rcases (hm x).mp hx with e|hx
  ·subst e;exact h1
  ·exact T.pos x hx
def put(z:Nd S)(m:Nd S):Nd S:=if m.num=z.num then z else m
theorem pP(z m:Nd S):(put z m).num=m.num:=by
 unfold put
 split
 ·rename_i h;exact h.symm
 ·rfl
theorem cu{z m:Nd S}(h:m.num≠z.num):put z m=m:=by unfold put;rw[if_neg h]
theorem dZ{z m:Nd S}(h:m.num=z.num):put z m=z:=by unfold put;rw[if_pos h]
theorem sx(z:Nd S)(t:List (Nd S)):(t.map (put z)).map (·.num)=t.map (·.num):=by
 rw[map_map];apply map_congr_left;intro m _;exact pP z m
theorem ip{z:Nd S}{t:List (Nd S)}(h:cO t):cO (t.map (put z)):=by
 rw[kA,sx,←kA];exact h
theorem pQ{z:Nd S}{t:List (Nd S)}(T:Tree1 t):∀n∈t.map (put z),1≤n.num:=λn hn=>by
 obtain⟨m,hm,rfl⟩:=mem_map.mp hn;rw[pP];exact T.pos m hm
theorem wrote{t:List (Nd S)}{y z:Nd S}(T:Tree1 t)(hy:y∈t)(e1:z.num=y.num)(e2:z.par=y.par)(e3:z.nm=y.nm)(hs:y.st≠none):Tree1 (t.map (put z)):=by
 have par:∀m∈t,(put z m).par=m.par∧(put z m).nm=m.nm:=λm hm=>by
  by_cases h:m.num=z.num
  ·have:m=y:=T.inj hm hy (h.trans e1);subst this;rw[dZ h];exact⟨e2,e3⟩
  ·rw[cu h];exact⟨rfl,rfl⟩
 refine⟨⟨ip T.rise,?_,λn hn=>?_⟩,pQ T⟩
 ·have:(t.map (put z)).map (λn=>(n.par,n.nm))=t.map (λn=>(n.par,n.nm)):=by
   rw[map_map];apply map_congr_left;intro m hm;show((put z m).par,(put z m).nm)=_;rw[(par m hm).1,(par m hm).2]
  unfold dY;rw[this];exact T.own
 ·obtain⟨m,hm,rfl⟩:=mem_map.mp hn;have key:∀x,Reach t 0 x→Reach (t.map (put z)) 0 (put z x):=by
   intro x r
   induction r with
   |@base x hx hp=>exact .base (mem_map.mpr ⟨x,hx,rfl⟩) (by rw[(par x hx).1];exact hp)
   |@step a x ra hf hx hp ih =>
    have ha:put z a=a:=cu λe=>hs (by rw[←T.inj ra.mem hy (e.trans e1)];exact hf);rw[ha]at ih;exact .step ih hf (mem_map.mpr ⟨x,hx,rfl⟩) (by rw[(par x hx).1];exact hp)
  exact key m (T.down m hm)
theorem kG{t:List (Nd S)}{k:Int}{n:Nd S}(r:Reach t 0 n)(h:¬Und t k n.num){u:List (Nd S)}(hu:∀x∈t,¬Und t k x.num→x∈u):Reach u 0 n:=by
 induction r with
 |@base n hm hp=>exact .base (hu n hm h) hp
 |@step m n rm hf hn hp ih=>exact .step (ih λhx=>h (.up hn (by rw[hp];exact hx))) hf (hu n hn h) hp
theorem dropped{t:List (Nd S)}{k:Int}(T:Tree1 t){p:Nd S→Bool}(hp:∀n∈t,p n=true↔¬Und t k n.num):Tree1 (t.filter p):=by
 refine⟨⟨T.rise.sublist filter_sublist,T.own.sublist (filter_sublist.map _),λn hn=>?_⟩,λn hn=>T.pos n (mem_filter.mp hn).1⟩;obtain⟨h1,h2⟩:=mem_filter.mp hn;exact kG (T.down n h1) ((hp n h1).mp h2) λx hx hu=>mem_filter.mpr ⟨hx,(hp x hx).mpr hu⟩
theorem moved{t:List (Nd S)}{y z:Nd S}(T:Tree1 t)(hy:y∈t)(e1:z.num=y.num)(e4:z.st=y.st)(hf:gT t z.par)(hi:z.par≠0→¬Und t y.num z.par)(ho:∀m∈t,m.num≠y.num→¬(m.par=z.par∧m.nm=z.nm)):Tree1 (t.map (put z)):=by
 have hz:z∈t.map (put z):=mem_map.mpr ⟨y,hy,dZ e1.symm⟩;have other:∀m∈t,m.num≠y.num→m∈t.map (put z):=λm hm h=>mem_map.mpr ⟨m,hm,cu (by rw[e1];exact h)⟩;have free:∀n∈t,¬Und t y.num n.num→Reach (t.map (put z)) 0 n:=λn hn h=>kG (T.down n hn) h λx hx hu=>other x hx λe=>hu (by rw[e];exact .here);have rz:Reach (t.map (put z)) 0 z:=by
  rcases hf with e|⟨m,h2,h3,e⟩
  ·exact .base hz e
  ·have h0:z.par≠0:=λe'=>by have:=T.pos m h2;omega
   exact .step (free m h2 (by rw[e];exact hi h0)) h3 hz e.symm
 refine⟨⟨ip T.rise,?_,λn hn=>?_⟩,pQ T⟩
 ·have h:=T.own;have hr:=T.rise;unfold dY cO Nodup at *;rw[pairwise_map]at h;rw[map_map,pairwise_map];have both:=h.and hr;refine both.imp_of_mem λ{a b} ha hb hab=>?_;obtain⟨h1,h2⟩:=hab;show((put z a).par,(put z a).nm)≠((put z b).par,(put z b).nm)
  by_cases ea:a.num=y.num
  ·have eb:b.num≠y.num:=by omega
   rw[dZ (by rw[e1];exact ea),cu (by rw[e1];exact eb)];intro e;injection e with q1 q2
   exact ho b hb eb ⟨q1.symm,q2.symm⟩
  ·by_cases eb:b.num=y.num
   ·rw[dZ (m:=b) (by rw[e1];exact eb),cu (by rw[e1];exact ea)];intro e;injection e with q1 q2
    exact ho a ha ea ⟨q1,q2⟩
   ·rw[cu (by rw[e1];exact ea),cu (by rw[e1];exact eb)];exact h1
 ·obtain⟨m,hm,rfl⟩:=mem_map.mp hn
  by_cases em:m.num=y.num
  ·rw[dZ (by rw[e1];exact em)];exact rz
  ·rw[cu (by rw[e1];exact em)]
   by_cases hu:Und t y.num m.num
   ·have r:Reach t y.num m:=(dR T (T.pos y hy) hm).mpr ⟨em,hu⟩;clear hu em hm hn
    induction r with
    |@base n hn hp =>
     have hzs:z.st=none:=by
      rcases dj T hn with e|⟨a,ha,h3,e⟩
      ·have:=T.pos y hy;omega
      ·have:a=y:=T.inj ha hy (e.trans hp);subst this;rw[e4];exact h3
     have hne:n.num≠y.num:=gg T (.base hn hp);exact .step rz hzs (other n hn hne) (by rw[hp,e1])
    |@step a n ra hfa hn hp ih=>exact .step ih hfa (other n hn (gg T (.step ra hfa hn hp))) hp
   ·exact free m hm hu
end
end TW
namespace TW
section
variable{S:Type}
inductive Deed(S:Type) where
 |make (n p:Int) (nm:S) (st:Option Int)
 |write (n st:Int)
 |move (n p:Int) (nm:S)
 |drop (n:Int)
inductive Wd where
 |known|noNode|notFile|notFolder|inside|taken
def aM(t:List (Nd S))(k:Int):Prop:=∃m∈t,m.num=k
inductive Told(t:List (Nd S)):Deed S→Sum Wd (List (Nd S))→Prop where
 |mKnown {n p:Int} {nm:S} {st:Option Int}:aM t n→Told t (.make n p nm st) (.inl .known)
 |mNo {n p:Int} {nm:S} {st:Option Int}:¬aM t n→p≠0→¬aM t p→Told t (.make n p nm st) (.inl .noNode)
 |mFile {n p:Int} {nm:S} {st:Option Int} {m:Nd S}:¬aM t n→p≠0→m∈t→m.num=p→m.st≠none→Told t (.make n p nm st) (.inl .notFolder)
 |mTaken {n p:Int} {nm:S} {st:Option Int} {m:Nd S}:¬aM t n→gT t p→m∈t→m.par=p→m.nm=nm→Told t (.make n p nm st) (.inl .taken)
 |made {n p:Int} {nm:S} {st:Option Int} {u:List (Nd S)}:¬aM t n→gT t p→(∀m∈t,¬(m.par=p∧m.nm=nm))→u.Perm (⟨n,p,nm,st⟩::t)→cO u→Told t (.make n p nm st) (.inr u)
 |wNo {n st:Int}:¬aM t n→Told t (.write n st) (.inl .noNode)
 |wFold {n st:Int} {y:Nd S}:y∈t→y.num=n→y.st=none→Told t (.write n st) (.inl .notFile)
 |wrote {n st:Int} {y:Nd S}:y∈t→y.num=n→y.st≠none→Told t (.write n st) (.inr (t.map (put ⟨n,y.par,y.nm,some st⟩)))
 |vNo {n p:Int} {nm:S}:¬aM t n→Told t (.move n p nm) (.inl .noNode)
 |vNoP {n p:Int} {nm:S}:aM t n→p≠0→¬aM t p→Told t (.move n p nm) (.inl .noNode)
 |vFile {n p:Int} {nm:S} {m:Nd S}:aM t n→p≠0→m∈t→m.num=p→m.st≠none→Told t (.move n p nm) (.inl .notFolder)
 |vIn {n p:Int} {nm:S}:aM t n→gT t p→p≠0→Und t n p→Told t (.move n p nm) (.inl .inside)
 |vTaken {n p:Int} {nm:S} {m:Nd S}:aM t n→gT t p→(p≠0→¬Und t n p)→m∈t→m.num≠n→m.par=p→m.nm=nm→Told t (.move n p nm) (.inl .taken)
 |moved {n p:Int} {nm:S} {y:Nd S}:y∈t→y.num=n→gT t p→(p≠0→¬Und t n p)→(∀m∈t,m.num≠n→¬(m.par=p∧m.nm=nm))→Told t (.move n p nm) (.inr (t.map (put ⟨n,p,nm,y.st⟩)))
 |dNo {n:Int}:¬aM t n→Told t (.drop n) (.inl .noNode)
 |dropped {n:Int} {f:Nd S→Bool}:aM t n→(∀m∈t,f m=true↔¬Und t n m.num)→Told t (.drop n) (.inr (t.filter f))
theorem dt{t:List (Nd S)}{p:Int}(h:gT t p)(h0:p≠0)(hn:¬aM t p):False:=by
 rcases h with h|⟨m,hm,_,e⟩
 ·exact h0 h
 ·exact hn ⟨m,hm,e⟩
theorem cD{t:List (Nd S)}(T:Tree1 t){p:Int}{m:Nd S}(h:gT t p)(h0:p≠0)(hm:m∈t)(e:m.num=p)(hs:m.st≠none):False:=by
 rcases h with h|⟨y,hy,h2,e2⟩
 ·exact h0 h
 ·have:=T.inj hm hy (e.trans e2.symm);subst this;exact hs h2
theorem iq{t u:List (Nd S)}(ht:cO t)(hu:cO u)(h:t.Perm u):t=u:=by
 have main:∀{l m:List (Nd S)},cO l→cO m→(∀x,x∈l↔x∈m)→l=m:=by
  intro l
  induction l with
  |nil =>
   intro m _ _ h;cases m with
   |nil=>rfl
   |cons b m=>exact absurd ((h b).mpr (by simp)) (by simp)
  |cons a l ih =>
   intro m hl hm h;cases m with
   |nil=>exact absurd ((h a).mp (by simp)) (by simp)
   |cons b m =>
    unfold cO at hl hm ih;rw[pairwise_cons]at hl hm;have e:a=b:=by
     rcases mem_cons.mp ((h a).mp (by simp))with e|h1
     ·exact e
     ·rcases mem_cons.mp ((h b).mpr (by simp))with e|h2
      ·exact e.symm
      ·have:=hl.1 b h2;have:=hm.1 a h1;omega
    subst e;rw[ih hl.2 hm.2 λx=>?_];constructor
    ·intro hx;rcases mem_cons.mp ((h x).mp (by simp[hx]))with e|h1
     ·subst e;have:=hl.1 x hx;omega
     ·exact h1
    ·intro hx;rcases mem_cons.mp ((h x).mpr (by simp[hx]))with e|h1
     ·subst e;have:=hm.1 x hx;omega
     ·exact h1
 exact main ht hu λx=>h.mem_iff
theorem Told.one{t:List (Nd S)}(T:Tree1 t){d:Deed S}{r r':Sum Wd (List (Nd S))}(h:Told t d r)(h':Told t d r'):r=r':=by
 have hno:∀{k:Int}{m:Nd S},m∈t→m.num=k→¬aM t k→False:=λhm e hn=>hn ⟨_,hm,e⟩;have one:∀{k:Int}{a b:Nd S},a∈t→a.num=k→b∈t→b.num=k→a=b:=λha ea hb eb=>T.inj ha hb (ea.trans eb.symm);cases h with
 |mKnown a1=>cases h'<;>first|rfl|(exfalso;contradiction)
 |mNo a1 a2 a3=>cases h' with
  |mKnown b1=>exact absurd b1 a1
  |mNo=>rfl
  |mFile b1 b2 b3 b4 b5=>exact(hno b3 b4 a3).elim
  |mTaken b1 b2=>exact(dt b2 a2 a3).elim
  |made b1 b2=>exact(dt b2 a2 a3).elim
 |mFile a1 a2 a3 a4 a5=>cases h' with
  |mKnown b1=>exact absurd b1 a1
  |mNo b1 b2 b3=>exact(hno a3 a4 b3).elim
  |mFile=>rfl
  |mTaken b1 b2=>exact(cD T b2 a2 a3 a4 a5).elim
  |made b1 b2=>exact(cD T b2 a2 a3 a4 a5).elim
 |mTaken a1 a2 a3 a4 a5=>cases h' with
  |mKnown b1=>exact absurd b1 a1
  |mNo b1 b2 b3=>exact(dt a2 b2 b3).elim
  |mFile b1 b2 b3 b4 b5=>exact(cD T a2 b2 b3 b4 b5).elim
  |mTaken=>rfl
  |made b1 b2 b3=>exact(b3 _ a3 ⟨a4,a5⟩).elim
 |made a1 a2 a3 a4 a5=>cases h' with
  |mKnown b1=>exact absurd b1 a1
  |mNo b1 b2 b3=>exact(dt a2 b2 b3).elim
  |mFile b1 b2 b3 b4 b5=>exact(cD T a2 b2 b3 b4 b5).elim
  |mTaken b1 b2 b3 b4 b5=>exact(a3 _ b3 ⟨b4,b5⟩).elim
  |made b1 b2 b3 b4 b5=>rw[iq a5 b5 (a4.trans b4.symm)]
 |wNo a1=>cases h' with
  |wNo=>rfl
  |wFold b1 b2=>exact(hno b1 b2 a1).elim
  |wrote b1 b2=>exact(hno b1 b2 a1).elim
 |wFold a1 a2 a3=>cases h' with
  |wNo b1=>exact(hno a1 a2 b1).elim
  |wFold=>rfl
  |wrote b1 b2 b3=>rw[one a1 a2 b1 b2]at a3;exact absurd a3 b3
 |wrote a1 a2 a3=>cases h' with
  |wNo b1=>exact(hno a1 a2 b1).elim
  |wFold b1 b2 b3=>rw[one b1 b2 a1 a2]at b3;exact absurd b3 a3
  |wrote b1 b2 b3=>rw[one b1 b2 a1 a2]
 |vNo a1=>cases h' with
  |vNo=>rfl
  |vNoP=>rfl
  |vFile b1=>exact absurd b1 a1
  |vIn b1=>exact absurd b1 a1
  |vTaken b1=>exact absurd b1 a1
  |moved b1 b2=>exact(hno b1 b2 a1).elim
 |vNoP a1 a2 a3=>cases h' with
  |vNo=>rfl
  |vNoP=>rfl
  |vFile b1 b2 b3 b4=>exact(hno b3 b4 a3).elim
  |vIn b1 b2=>exact(dt b2 a2 a3).elim
  |vTaken b1 b2=>exact(dt b2 a2 a3).elim
  |moved b1 b2 b3=>exact(dt b3 a2 a3).elim
 |vFile a1 a2 a3 a4 a5=>cases h' with
  |vNo b1=>exact absurd a1 b1
  |vNoP b1 b2 b3=>exact(hno a3 a4 b3).elim
  |vFile=>rfl
  |vIn b1 b2=>exact(cD T b2 a2 a3 a4 a5).elim
  |vTaken b1 b2=>exact(cD T b2 a2 a3 a4 a5).elim
  |moved b1 b2 b3=>exact(cD T b3 a2 a3 a4 a5).elim
 |vIn a1 a2 a3 a4=>cases h' with
  |vNo b1=>exact absurd a1 b1
  |vNoP b1 b2 b3=>exact(dt a2 b2 b3).elim
  |vFile b1 b2 b3 b4 b5=>exact(cD T a2 b2 b3 b4 b5).elim
  |vIn=>rfl
  |vTaken b1 b2 b3=>exact absurd a4 (b3 a3)
  |moved b1 b2 b3 b4=>exact absurd a4 (b4 a3)
 |vTaken a1 a2 a3 a4 a5 a6 a7=>cases h' with
  |vNo b1=>exact absurd a1 b1
  |vNoP b1 b2 b3=>exact(dt a2 b2 b3).elim
  |vFile b1 b2 b3 b4 b5=>exact(cD T a2 b2 b3 b4 b5).elim
  |vIn b1 b2 b3 b4=>exact absurd b4 (a3 b3)
  |vTaken=>rfl
  |moved b1 b2 b3 b4 b5=>exact(b5 _ a4 a5 ⟨a6,a7⟩).elim
 |moved a1 a2 a3 a4 a5=>cases h' with
  |vNo b1=>exact(hno a1 a2 b1).elim
  |vNoP b1 b2 b3=>exact(dt a3 b2 b3).elim
  |vFile b1 b2 b3 b4 b5=>exact(cD T a3 b2 b3 b4 b5).elim
  |vIn b1 b2 b3 b4=>exact absurd b4 (a4 b3)
  |vTaken b1 b2 b3 b4 b5 b6 b7=>exact(a5 _ b4 b5 ⟨b6,b7⟩).elim
  |moved b1 b2=>rw[one b1 b2 a1 a2]
 |dNo a1=>cases h' with
  |dNo=>rfl
  |dropped b1=>exact absurd b1 a1
 |dropped a1 a2=>cases h' with
  |dNo b1=>exact absurd a1 b1
  |dropped b1 b2 =>
   congr 1
   apply filter_congr;intro m hm;rw[Bool.eq_iff_iff,a2 m hm,b2 m hm]
def Deed.pos:Deed S→Prop
 |.make n _ _ _=>1≤n
 |_=>True
theorem Told.tree{t u:List (Nd S)}(T:Tree1 t){d:Deed S}(h:Told t d (.inr u))(hp:d.pos):Tree1 u:=by
 generalize er:(Sum.inr u:Sum Wd (List (Nd S)))=r at h;cases h with
 |made a1 a2 a3 a4 a5 =>
  injection er with er
  subst er;exact TW.made T a4 a5 hp a2 λm hm=>a3 m hm
 |wrote a1 a2 a3 =>
  injection er with er
  subst er a2;exact TW.wrote T a1 rfl rfl rfl a3
 |moved a1 a2 a3 a4 a5 =>
  injection er with er
  subst er a2;exact TW.moved T a1 rfl rfl a3 a4 a5
 |dropped a1 a2 =>
  injection er with er
  subst er;exact TW.dropped T a2
 |_=>cases er
theorem Told.all{t u:List (Nd S)}{P:Nd S→Prop}(ht:∀n∈t,P n){d:Deed S}(h:Told t d (.inr u))(hm:∀n p nm st,d=.make n p nm st→P ⟨n,p,nm,st⟩)(hw:∀n st,d=.write n st→∀y∈t,y.num=n→P ⟨n,y.par,y.nm,some st⟩)(hv:∀n p nm,d=.move n p nm→∀y∈t,y.num=n→P ⟨n,p,nm,y.st⟩):∀n∈u,P n:=by
 have hput:∀z:Nd S,P z→∀n∈t.map (put z),P n:=λz hz n hn=>by
  obtain⟨m,hm,rfl⟩:=mem_map.mp hn
  by_cases e:m.num=z.num
  ·rw[dZ e];exact hz
  ·rw[cu e];exact ht m hm
 generalize er:(Sum.inr u:Sum Wd (List (Nd S)))=r at h;cases h with
 |made a1 a2 a3 a4 a5 =>
  injection er with er
  subst er;intro n hn;rcases mem_cons.mp (a4.mem_iff.mp hn)with e|h
  ·subst e;exact hm _ _ _ _ rfl
  ·exact ht n h
 |wrote a1 a2 a3 =>
  injection er with er
  subst er;exact hput _ (hw _ _ rfl _ a1 a2)
 |moved a1 a2 a3 a4 a5 =>
  injection er with er
  subst er;exact hput _ (hv _ _ _ rfl _ a1 a2)
 |dropped a1 a2 =>
  injection er with er
  subst er;intro n hn;exact ht n (mem_filter.mp hn).1
 |_=>cases er
theorem Told.len{t u:List (Nd S)}{d:Deed S}(h:Told t d (.inr u)):u.length≤t.length+1:=by
 generalize er:(Sum.inr u:Sum Wd (List (Nd S)))=r at h;cases h with
 |made a1 a2 a3 a4 a5 =>
  injection er with er
  subst er;rw[a4.length_eq];simp
 |wrote a1 a2 a3 =>
  injection er with er
  subst er;simp
 |moved a1 a2 a3 a4 a5 =>
  injection er with er
  subst er;simp
 |dropped a1 a2 =>
  injection er with er
  subst er;exact Nat.le_succ_of_le (length_filter_le _ _)
 |_=>cases er
end
end TW
namespace TW
section
variable{S:Type}
inductive Chain:List (Nd S)→List (Deed S)→List (Nd S)→Prop where
 |nil {t:List (Nd S)}:Chain t [] t
 |cons {t u v:List (Nd S)} {d:Deed S} {ds:List (Deed S)}:Told t d (.inr u)→Chain u ds v→Chain t (d::ds) v
theorem Chain.snoc{t u v:List (Nd S)}{ds:List (Deed S)}{d:Deed S}(h:Chain t ds u)(hd:Told u d (.inr v)):Chain t (ds++[d]) v:=by
 induction h with
 |nil=>exact .cons hd .nil
 |cons h1 _ ih=>exact .cons h1 (ih hd)
end
end TW
namespace L2
open PySem PySem.Spec PyProof.Rows
section
variable{P:Program}{w:World}{K:PySem.W.Frag}{mg:Str→Option Value}{base:Heap}
theorem Fun.okX{x qual:Str}{st:Stmt}{f:Addr}{fd:FuncData}{N ps:List Str}{k:Nat}{sp:Sp}(F:Fun K x qual st f fd)(S:FnScope N ps (ah st))(len:∀vs H Q E,sp vs H Q E→vs.length=ps.length)(hbody:∀(cdv:Value) (A:Around) (outer:List Env) (s:Shared) (H:Hp) (vs:List V) (Q:VK) (E:XK),Room k (A.deeper (envOfC qual (ah st) s.heap.objs.size f cdv))→sp vs H Q E →
   ∃t,PSs (fJ (CX1 P w) P w K mg base N qual (ah st) f cdv A outer s H E) (bp st) t∧t {nx:=λ_ H'=>Q .non H',rt:=Q} (start N vs) H):FnOk P w K mg base (CX1 P w) (k+1) f fd ps sp:=by
 obtain⟨oc,od,kV,doc,pm,an,cdv,ct,osl,rfl,lk,hcd⟩:=F.ex;exact vT lk hcd S len λA outer s H vs Q E hr hsp=>hbody cdv A outer s H vs Q E hr hsp
theorem LcOk.mk'{X:Cx}{scope:Scope}{cl:List (Str×Addr)}(fs:List Str)(hk:scope.kind=.function)(hc:closureFor scope X.env=pure cl)(hn:∀x∈scope.names,x.2=.local→scope.names.lookup x.1=some .local)(hnc:∀x∈scope.names,x.2≠.cell)(hcl:∀y∈cl,X.env.cells.lookup y.1=some y.2)(hfs:cl.map (·.1)=fs)(hall:scope.names.all (λy=>!(y.2==.free)||fs.contains y.1)=true):LcOk X scope cl:=by
 refine⟨hk,hc,hn,hnc,λx c h=>hcl (x,c) (PySem.mem_of_lookup h),λx h=>?_⟩;have hm:∃k,(x,k)∈(relabel scope X.env).names∧(k=.cell∨k=.free):=by
  rcases h with h|h
  ·exact⟨_,PySem.mem_of_lookup h,.inl rfl⟩
  ·exact⟨_,PySem.mem_of_lookup h,.inr rfl⟩
 obtain⟨k,hm,hk'⟩:=hm;unfold relabel at hm;obtain⟨⟨y,k0⟩,hy,e⟩:=mem_map.mp hm;have hfree:x=y∧k0=.free:=by
  cases k0 with
  |free =>
   simp only at e
   split at e
   ·injection e with e1 e2;exact⟨e1.symm,rfl⟩
   ·injection e with e1 e2;exact⟨e1.symm,rfl⟩
  |cell=>exact absurd rfl (hnc _ hy)
  |_ =>
   exfalso
   have e2:k=_:=(congrArg Prod.snd e).symm;simp at e2;rcases hk' with z|z<;>rw[z]at e2<;>cases e2
 obtain⟨rfl,rfl⟩:=hfree;have:=all_eq_true.mp hall _ hy;have hin:fs.contains x=true:=by simpa using this
 rw[←hfs]at hin;have hmem:x∈cl.map (·.1):=List.contains_iff_mem.mp hin;cases e:cl.lookup x with
 |some c=>exact⟨c,rfl⟩
 |none =>
  exfalso
  obtain⟨y,hy,ey⟩:=mem_map.mp hmem;have:=List.lookup_eq_none_iff.mp e y hy;rw[ey]at this;simp at this
end
end L2
namespace TK
open PySem L2
abbrev Nd:=TW.Nd Str
def stV:Option Int→V
 |none=>.non
 |some i=>.int i
def vals(n:Nd):List V:=[.int n.num,.int n.par,.str n.nm,stV n.st]
abbrev ZN:=List (Addr×Nd)
def ba(zs:ZN):List V:=(zs.map (·.1)).map V.ref
def nds(zs:ZN):List Nd:=zs.map (·.2)
def At(H:Hp)(zs:ZN):Prop:=∀z∈zs,H z.1=some (.tup (vals z.2))
theorem At.same{H H':Hp}{zs:ZN}(h:At H zs)(s:Same H H'):At H' zs:=λz hz=>s _ _ (h z hz)
theorem cf(zs:ZN):(ba zs).length=zs.length:=by simp[ba]
theorem cI(zs:ZN):(nds zs).length=zs.length:=by simp[nds]
theorem cZ{zs:ZN}{i:Nat}{x:V}(h:(ba zs)[i]?=some x):∃z,zs[i]?=some z∧x=.ref z.1:=by
 unfold ba at h;rw[getElem?_map,getElem?_map]at h;cases e:zs[i]? with
 |none=>rw[e]at h;cases h
 |some z=>rw[e]at h;exact⟨z,rfl,(Option.some.inj h).symm⟩
theorem jz{zs:ZN}{i:Nat}{z:Addr×Nd}(h:zs[i]?=some z):(ba zs)[i]?=some (.ref z.1):=by
 unfold ba;rw[getElem?_map,getElem?_map,h];rfl
theorem at0(n:Nd):atI (vals n) 0=some (.int n.num):=rfl
theorem at1(n:Nd):atI (vals n) 1=some (.int n.par):=rfl
theorem at2(n:Nd):atI (vals n) 2=some (.str n.nm):=rfl
theorem at3(n:Nd):atI (vals n) 3=some (stV n.st):=rfl
theorem xg{σ:St}(h:σ.length=1):∃a,σ=[a]:=by
 match σ,h with
 |[a],_=>exact⟨a,rfl⟩
theorem au{n:Nat}(h:n≤1000):n≤sizeLine:=le_of_lt (aJ h)
theorem le2:2≤sizeLine:=au (by decide)
theorem xh{A:Around}{k:Nat}(hr:Room k A):A.units+4<cLine:=lt_of_le_of_lt (Nat.add_le_add_left (by decide:4≤64) _) hr.units
def plK(n:Nd):List Key:=[.inl n.par,.inr n.nm]
def ins(zs:ZN)(k:Int):ZN:=zs.filter λz=>decide (z.2.par=k)
theorem pR(zs:ZN)(k:Int):nds (ins zs k)=TW.inside (nds zs) k:=by
 unfold nds ins TW.inside;rw[filter_map];rfl
theorem gh(zs:ZN)(z:Addr×Nd)(k:Int):ins (zs++[z]) k=if z.2.par=k then ins zs k++[z]else ins zs k:=by
 unfold ins;rw[filter_append]
 by_cases h:z.2.par=k
 ·rw[if_pos h,filter_cons_of_pos (by simp[h])];rfl
 ·rw[if_neg h,filter_cons_of_neg (by simp[h])];simp
theorem uR{zs:ZN}{k:Int}{z:Addr×Nd}(h:z∈ins zs k):z∈zs:=(mem_filter.mp h).1
theorem iL(zs:ZN)(z:Addr×Nd):ba (zs++[z])=ba zs++[.ref z.1]:=by simp[ba]
theorem sy{zs:ZN}(h:ba zs=[]):zs=[]:=by
 cases zs with
 |nil=>rfl
 |cons a r=>simp[ba]at h
structure Mem(H0 H:Hp)(d:Addr)(L:Int→Addr)(kvs:List (Key×V))(xs:ZN)(dn:List Int):Prop where
 dict:H d=some (.dK kvs)
 d0:H0 d=none
 len:kvs.length≤xs.length
 val:∀k:Int,br kvs (Sum.inl k:Key)=if k∈dn∨ins xs k=[]then none else some (.ref (L k))
 at':∀k,k∉dn→ins xs k≠[]→H (L k)=some (.lst (ba (ins xs k)))∧H0 (L k)=none
 inj:∀k k',k∉dn→k'∉dn→ins xs k≠[]→ins xs k'≠[]→L k=L k'→k=k'
 same:Same H0 H
theorem Mem.grow{H0 H H':Hp}{d:Addr}{L:Int→Addr}{kvs:List (Key×V)}{xs:ZN}{dn:List Int}(m:Mem H0 H d L kvs xs dn)(s:Same H H'):Mem H0 H' d L kvs xs dn :=
 ⟨s _ _ m.dict,m.d0,m.len,m.val,λk h1 h2=>⟨s _ _ (m.at' k h1 h2).1,(m.at' k h1 h2).2⟩,m.inj,m.same.trans s⟩
theorem Mem.other{H0 H:Hp}{d p:Addr}{L:Int→Addr}{kvs:List (Key×V)}{xs:ZN}{dn:List Int}{is:List Int}{o:HO}(m:Mem H0 H d L kvs xs dn)(hp:H p=some (.lst (is.map V.int)))(h0:H0 p=none):Mem H0 (upd H p o) d L kvs xs dn:=by
 refine⟨?_,m.d0,m.len,m.val,λk h1 h2=>⟨?_,(m.at' k h1 h2).2⟩,m.inj,aS h0 m.same⟩
 ·rw[ao]
  ·exact m.dict
  ·intro e;have:=m.dict;rw[e,hp]at this;cases this
 ·have e1:=(m.at' k h1 h2).1;rw[ao]
  ·exact e1
  ·intro e;rw[e,hp]at e1;injection e1 with e1
   injection e1 with e1
   have hne:=h2;cases hk:ins xs k with
   |nil=>exact h2 hk
   |cons a r =>
    rw[hk]at e1;cases is with
    |nil=>simp[ba]at e1
    |cons i r'=>simp[ba]at e1
theorem Mem.start{H0:Hp}{d:Addr}(h:H0 d=none):Mem H0 (upd H0 d (.dK [])) d (λ_=>d) [] [] [] :=
 ⟨ac,h,by simp,λk=>by rw[if_pos (.inr rfl)];rfl,λk _ h=>absurd rfl h,λk k' _ _ h=>absurd rfl h,ag h⟩
theorem Mem.hit{H0 H:Hp}{d:Addr}{L:Int→Addr}{kvs:List (Key×V)}{xs:ZN}{z:Addr×Nd}(m:Mem H0 H d L kvs xs [])(hp:ins xs z.2.par≠[]):
  Mem H0 (upd H (L z.2.par) (.lst (ba (ins xs z.2.par)++[.ref z.1]))) d L kvs (xs++[z]) []:=by
 have e1:=(m.at' z.2.par (by simp) hp);have hd:d≠L z.2.par:=λe=>by
  have:=m.dict;rw[e,e1.1]at this;cases this
 have ne:∀k,ins (xs++[z]) k=[]↔ins xs k=[]:=λk=>by
  rw[gh]
  by_cases h:z.2.par=k
  ·rw[if_pos h];subst h;simp[hp]
  ·rw[if_neg h]
 refine⟨by rw[ao hd];exact m.dict,m.d0,by have:=m.len;simp;omega,λk=>?_,λk h1 h2=>?_,λk k' _ _ h2 h3 e=>m.inj k k' (by simp) (by simp) (λh=>h2 ((ne k).mpr h)) (λh=>h3 ((ne k').mpr h)) e,aS e1.2 m.same⟩
 ·rw[m.val k];simp only[ne k]
 ·have h2':ins xs k≠[]:=λh=>h2 ((ne k).mpr h);refine⟨?_,(m.at' k h1 h2').2⟩
  by_cases h:z.2.par=k
  ·subst h;rw[ac,gh,if_pos rfl,iL]
  ·rw[ao,gh,if_neg h]
   ·exact(m.at' k h1 h2').1
   ·intro e;exact h (m.inj _ _ (by simp) (by simp) hp h2' e.symm)
theorem Mem.fresh{H0 H:Hp}{d q:Addr}{L:Int→Addr}{kvs:List (Key×V)}{xs:ZN}{z:Addr×Nd}(m:Mem H0 H d L kvs xs [])(hp:ins xs z.2.par=[])(hq:H q=none):
  Mem H0 (upd (upd (upd H q (.lst [])) d (.dK (cx kvs (Sum.inl z.2.par:Key) (.ref q)))) q (.lst ([]++[.ref z.1]))) d (λk=>if k=z.2.par then q else L k) (cx kvs (Sum.inl z.2.par:Key) (.ref q)) (xs++[z]) []:=by
 have hdq:d≠q:=λe=>by
  have:=m.dict;rw[e,hq]at this;cases this
 have lq:∀k,ins xs k≠[]→L k≠q:=λk h e=>by
  have:=(m.at' k (by simp) h).1;rw[e,hq]at this;cases this
 have ld:∀k,ins xs k≠[]→L k≠d:=λk h e=>by
  have:=(m.at' k (by simp) h).1;rw[e,m.dict]at this;cases this
 have q0:H0 q=none:=m.same.free hq;have e2:∀k,k≠z.2.par→ins (xs++[z]) k=ins xs k:=λk h=>by rw[gh,if_neg (λe=>h e.symm)]
 have e3:ins (xs++[z]) z.2.par=[z]:=by rw[gh,if_pos rfl,hp];rfl
 refine⟨by rw[ao hdq,ac],m.d0,?_,λk=>?_,λk h1 h2=>?_,λk k' _ _ h2 h3 e=>?_,?_⟩
 ·have h1:=m.len;have h2:=eF kvs (Sum.inl z.2.par:Key) (.ref q);rw[length_append,length_singleton];omega
 ·rw[fX]
  by_cases h:k=z.2.par
  ·subst h;rw[if_pos rfl,if_neg (by rw[e3];simp),if_pos rfl]
  ·rw[if_neg (λe=>h (Sum.inl.inj e)),m.val k,e2 k h,if_neg h]
 ·by_cases h:k=z.2.par
  ·subst h;simp only[if_true];exact⟨by rw[ac,e3];rfl,q0⟩
  ·rw[e2 k h]at h2;simp only[if_neg h];refine⟨?_,(m.at' k h1 h2).2⟩;rw[ao (lq k h2),ao (ld k h2),ao (lq k h2),e2 k h];exact(m.at' k h1 h2).1
 ·by_cases h:k=z.2.par
  ·by_cases h':k'=z.2.par
   ·rw[h,h']
   ·rw[e2 k' h']at h3;simp only[if_pos h,if_neg h']at e;exact absurd e.symm (lq k' h3)
  ·rw[e2 k h]at h2
   by_cases h':k'=z.2.par
   ·simp only[if_neg h,if_pos h']at e;exact absurd e (lq k h2)
   ·rw[e2 k' h']at h3;simp only[if_neg h,if_neg h']at e;exact m.inj k k' (by simp) (by simp) h2 h3 e
 ·exact aS q0 (aS m.d0 (m.same.trans (ag hq)))
theorem rf{κ:Type}[DecidableEq κ](kvs:List (κ×V))(k j:κ):br (dM kvs k) j=if j=k then none else br kvs j:=by
 induction kvs with
 |nil=>simp[dM,br]
 |cons p r ih =>
  by_cases e:p.1=k
  ·rw[qS e,ih]
   by_cases h:j=k
   ·rw[if_pos h,if_pos h]
   ·rw[if_neg h,if_neg h,bt (λz=>h (z.symm.trans e))]
  ·rw[qT e]
   by_cases h:p.1=j
   ·rw[bZ h,if_neg (λz=>e (h.trans z)),bZ h]
   ·rw[bt h,ih,bt h]
theorem Mem.drop{H0 H:Hp}{d:Addr}{L:Int→Addr}{kvs:List (Key×V)}{xs:ZN}{dn:List Int}(m:Mem H0 H d L kvs xs dn)(x:Int):Mem H0 (upd H d (.dK (dM kvs (Sum.inl x:Key)))) d L (dM kvs (Sum.inl x:Key)) xs (x::dn):=by
 have ld:∀k,k∉dn→ins xs k≠[]→L k≠d:=λk h0 h e=>by
  have:=(m.at' k h0 h).1;rw[e,m.dict]at this;cases this
 have no:∀k,k∉x::dn→k∉dn:=λk h h'=>h (mem_cons_of_mem _ h');refine⟨ac,m.d0,le_trans (mq _ _) m.len,λk=>?_,λk h1 h2=>?_,λk k' h0 h1 h2 h3 e=>m.inj k k' (no k h0) (no k' h1) h2 h3 e,aS m.d0 m.same⟩
 ·rw[rf,m.val k]
  by_cases h:k=x
  ·rw[if_pos (by rw[h]),if_pos (.inl (by rw[h];simp))]
  ·rw[if_neg (λe=>h (Sum.inl.inj e))];simp[h]
 ·rw[ao (ld k (no k h1) h2)];exact m.at' k (no k h1) h2
theorem Mem.skip{H0 H:Hp}{d:Addr}{L:Int→Addr}{kvs:List (Key×V)}{xs:ZN}{dn:List Int}(m:Mem H0 H d L kvs xs dn){x:Int}(hx:x∈dn∨ins xs x=[]):Mem H0 H d L kvs xs (x::dn):=by
 have no:∀k,k∉x::dn→k∉dn:=λk h h'=>h (mem_cons_of_mem _ h');refine⟨m.dict,m.d0,m.len,λk=>?_,λk h1 h2=>m.at' k (no k h1) h2,λk k' h0 h1 h2 h3 e=>m.inj k k' (no k h0) (no k' h1) h2 h3 e,m.same⟩;rw[m.val k]
 by_cases h:k=x
 ·subst h;rw[if_pos hx,if_pos (.inl (by simp))]
 ·simp[h]
theorem sA{Q:VK}{H0 H:Hp}{d q:Addr}{L:Int→Addr}{kvs:List (Key×V)}{zs:ZN}{dn:List Int}{x:Int}(m:Mem H0 H d L kvs zs dn)(hq:H q=some (.lst []))(k:∀hl Hc kvs' hs,Mem H0 Hc d L kvs' zs (x::dn)→Hc hl=some (.lst (ba hs))→nds hs=TW.here (nds zs) dn x→(∀z∈hs,z∈zs)→(∀p,p≠d→Hc p=H p)→(hs=[]→hl=q)→Q (.ref hl) Hc):
  ∃kvs k,H d=some (.dK kvs)∧V.int x=kV k∧(∀v,br kvs k=some v→Q v (upd H d (.dK (dM kvs k))))∧(br kvs k=none→Q (.ref q) H):=by
 refine⟨kvs,.inl x,m.dict,rfl,λv hv=>?_,λhn=>?_⟩
 ·rw[m.val x]at hv
  by_cases h:x∈dn∨ins zs x=[]
  ·rw[if_pos h]at hv;cases hv
  ·rw[if_neg h]at hv;have h1:x∉dn:=λz=>h (.inl z);have h2:ins zs x≠[]:=λz=>h (.inr z);cases hv;have a:=(m.at' x h1 h2).1;have ld:L x≠d:=λe=>by rw[e,m.dict]at a;cases a
   refine k (L x) _ _ (ins zs x) (m.drop x) (by rw[ao ld];exact a) ?_ (λz hz=>uR hz) (λp hp=>ao hp) (λe=>absurd e h2);rw[pR];unfold TW.here;rw[if_neg h1]
 ·rw[m.val x]at hn
  by_cases h:x∈dn∨ins zs x=[]
  ·refine k q _ _ [] (m.skip h) hq ?_ (by simp) (λp _=>rfl) (λ_=>rfl);unfold TW.here
   by_cases h1:x∈dn
   ·rw[if_pos h1];rfl
   ·rw[if_neg h1];rcases h with h|h
    ·exact absurd h h1
    ·rw[←pR,h]
  ·rw[if_neg h]at hn;cases hn
theorem pS{H:Hp}{p hl:Addr}{hs:ZN}{is:List Int}(hp:H p=some (.lst (is.map V.int)))(h:H hl=some (.lst (ba hs)))(hne:hs≠[]):hl≠p:=by
 intro e;rw[e,hp]at h;injection h with h
 injection h with h
 cases hs with
 |nil=>exact hne rfl
 |cons a r =>
  cases is with
  |nil=>simp[ba]at h
  |cons i r'=>simp[ba]at h
def kH(H:Hp)(p:Addr):Nat:=match H p with
 |some (.lst xs)=>xs.length
 |_=>0
theorem ir{H:Hp}{p:Addr}{xs:List V}(h:H p=some (.lst xs)):kH H p=xs.length:=by unfold kH;rw[h]
def eW(l:List Nd):List V:=(l.map (·.num)).map V.int
def ee(K:PySem.W.Frag)(H:Hp)(a:Addr):Prop:=∃ns:List Int,SqL K H a (ns.map V.int)
theorem ee.same{K:PySem.W.Frag}{H H':Hp}{a:Addr}(h:ee K H a)(s:Same H H'):ee K H' a:=let⟨ns,e⟩:=h;⟨ns,s.seq e⟩
theorem nE{ns:List Int}{i:Int}(h0:0≤i)(h1:i<ns.length):∃j,atI (ns.map V.int) i=some (.int j):=by
 refine⟨ns[i.toNat]'(by omega),?_⟩;have:=cX (xs:=ns.map V.int) (j:=i.toNat) (v:=.int (ns[i.toNat]'(by omega))) (by rw[getElem?_map,getElem?_eq_getElem (by omega)];rfl);rw[show((i.toNat:Nat):Int)=i by omega]at this;exact this
def Has(P:Program)(w:World)(K:PySem.W.Frag)(mg:Str→Option Value)(base:Heap)(k:Nat)(x:Str)(ps:List Str)(sp:Sp):Prop:=∃f fd,FnOk P w K mg base CX0 k f fd ps sp∧mg x=some (.ref f)∧keepIn K (.ref f)=true∧dU K fd ps []
def uS(n:Nd):Prop:=1≤n.num∧n.num≤12∧(n.nm="a"∨n.nm="b"∨n.nm="c"∨n.nm="abcde")∧(n.st=none∨n.st=some 0∨n.st=some 1∨n.st=some 2∨n.st=some 999)
structure Bd(zs:ZN)(lf:List Int):Prop where
 built:TW.Built (nds zs)
 nd:((nds zs).map (·.num)++lf).Nodup
 rng:∀x∈lf,1≤x∧x≤12
 own:TW.dY (nds zs)
 ok:∀z∈zs,uS z.2
theorem Bd.skip{zs:ZN}{lf:List Int}(b:Bd zs lf)(i:Nat):Bd zs (lf.eraseIdx i) :=
 ⟨b.built,Nodup.sublist (Sublist.append (Sublist.refl _) (List.eraseIdx_sublist lf i)) b.nd,λx hx=>b.rng x ((List.eraseIdx_sublist lf i).mem hx),b.own,b.ok⟩
theorem jA:∀{l:List Int}{i:Nat}{x:Int},l[i]?=some x→(x::l.eraseIdx i).Perm l
 |a::l,0,x,h=>by
  have:a=x:=by simpa using h
  subst this;exact List.Perm.refl _
 |a::l,i+1,x,h=>by
  have h':l[i]?=some x:=by simpa using h
  exact(List.Perm.swap a x _).trans (List.Perm.cons a (jA h'))
 |[],i,x,h=>by simp at h
theorem Bd.add{zs:ZN}{lf:List Int}{i:Nat}{q:Addr}{n:Nd}(b:Bd zs lf)(hi:lf[i]?=some n.num)(hp:n.par∈(0:Int)::TW.be (nds zs))(ho:∀z∈zs,¬(z.2.par=n.par∧z.2.nm=n.nm))(h3:n.nm="a"∨n.nm="b"∨n.nm="c"∨n.nm="abcde")(h4:n.st=none∨n.st=some 0∨n.st=some 1∨n.st=some 2∨n.st=some 999):Bd (zs++[(q,n)]) (lf.eraseIdx i):=by
 have e:nds (zs++[(q,n)])=nds zs++[n]:=by simp[nds]
 have pm:=jA hi;refine⟨?_,?_,λx hx=>b.rng x ((List.eraseIdx_sublist lf i).mem hx),?_,λz hz=>?_⟩
 ·rw[e];refine .snoc b.built ?_;rcases mem_cons.mp hp with h|h
  ·exact .inl h
  ·exact .inr (TW.iV.mp h)
 ·rw[e,map_append,append_assoc];exact((List.Perm.append_left _ pm).nodup_iff).mpr b.nd
 ·rw[e];unfold TW.dY;rw[map_append,nodup_append];refine⟨b.own,by simp,λx hx y hy=>?_⟩;have ey:y=(n.par,n.nm):=by simpa using hy
  subst ey;obtain⟨m,hm,rfl⟩:=mem_map.mp hx;obtain⟨z,hz,rfl⟩:=mem_map.mp hm;intro h;injection h with h1 h2
  exact ho z hz ⟨h1,h2⟩
 ·rcases mem_append.mp hz with h|h
  ·exact b.ok z h
  ·have ez:z=(q,n):=by simpa using h
   subst ez;have:=b.rng n.num (mem_of_getElem? hi);exact⟨this.1,this.2,h3,h4⟩
def tp(z:Addr×Nd):io:=(z.1,z.2.num,[.int z.2.par,.str z.2.nm,stV z.2.st])
def un(t:io):Addr×Nd:=(t.1,match t.2.2 with
 |[.int p,.str s,.int i]=>⟨t.2.1,p,s,some i⟩
 |[.int p,.str s,_]=>⟨t.2.1,p,s,none⟩
 | _=>⟨0,0,"",none⟩)
theorem vY(z:Addr×Nd):un (tp z)=z:=by
 obtain⟨a,⟨n,p,s,st⟩⟩:=z;cases st<;>rfl
theorem back{zs:ZN}{ts:List io}(h:ts.Perm (zs.map tp)):(ts.map un).Perm zs∧(ts.map un).map tp=ts:=by
 constructor
 ·have:=h.map un;rw[map_map]at this;have e:zs.map (un∘tp)=zs.map id:=map_congr_left λz _=>vY z;rw[e,List.map_id]at this;exact this
 ·rw[map_map,map_congr_left (g:=id)]
  ·simp
  ·intro t ht;obtain⟨z,_,rfl⟩:=mem_map.mp (h.mem_iff.mp ht);show tp (un (tp z))=tp z;rw[vY]
theorem je(zs:ZN):((zs.map tp).map (·.1)).map V.ref=ba zs:=by
 unfold ba;simp only[map_map];rfl
theorem xi{n:Nat}{j:Int}(h0:0≤j)(h1:j<n):seqIndex? j n=some j.toNat:=(pH (by unfold ixN;rw[if_pos h0,if_pos h1])).1
theorem kJ:∀(l:List Int)(i:Nat),(l.map V.int).eraseIdx i=(l.eraseIdx i).map V.int
 |[],i=>by simp
 |a::l,0=>rfl
 |a::l,i+1=>by
  show V.int a::(l.map V.int).eraseIdx i=V.int a::(l.eraseIdx i).map V.int;rw[kJ l i]
theorem pT{ns:List Int}{i:Int}(h0:0≤i)(h1:i<ns.length):∃x∈ns,atI (ns.map V.int) i=some (.int x):=by
 refine⟨ns[i.toNat]'(by omega),getElem_mem _,?_⟩;have:=cX (xs:=ns.map V.int) (j:=i.toNat) (v:=.int (ns[i.toNat]'(by omega))) (by rw[getElem?_map,getElem?_eq_getElem (by omega)];rfl);rw[show((i.toNat:Nat):Int)=i by omega]at this;exact this
theorem pU{j:Int}(h0:0≤j)(h1:j<4):∃x:Str,(x="a"∨x="b"∨x="c"∨x="abcde")∧atI [V.str "a",.str "b",.str "c",.str "abcde"] j=some (.str x):=by
 obtain rfl|rfl|rfl|rfl:j=0∨j=1∨j=2∨j=3:=by omega
 ·exact⟨"a",.inl rfl,rfl⟩
 ·exact⟨"b",.inr (.inl rfl),rfl⟩
 ·exact⟨"c",.inr (.inr (.inl rfl)),rfl⟩
 ·exact⟨"abcde",.inr (.inr (.inr rfl)),rfl⟩
theorem uT{j:Int}(h0:0≤j)(h1:j<4):∃i:Int,(some i=none∨some i=some (0:Int)∨some i=some 1∨some i=some 2∨some i=some 999)∧atI [V.int 0,.int 1,.int 2,.int 999] j=some (.int i):=by
 obtain rfl|rfl|rfl|rfl:j=0∨j=1∨j=2∨j=3:=by omega
 ·exact⟨0,.inr (.inl rfl),rfl⟩
 ·exact⟨1,.inr (.inr (.inl rfl)),rfl⟩
 ·exact⟨2,.inr (.inr (.inr (.inl rfl))),rfl⟩
 ·exact⟨999,.inr (.inr (.inr (.inr rfl))),rfl⟩
structure Sta(H:Hp)(pl pf pn:Addr)(Hx:Hp)(lf fs:List Int)(zs:ZN):Prop where
 same:Same H Hx
 l:Hx pl=some (.lst (lf.map V.int))
 f:Hx pf=some (.lst (fs.map V.int))
 n:Hx pn=some (.lst (ba zs))
 nd:At Hx zs
 l0:H pl=none
 f0:H pf=none
 n0:H pn=none
 lf':pl≠pf
 ln':pl≠pn
 fn':pf≠pn
theorem Sta.grow{H Hx Hy:Hp}{pl pf pn:Addr}{lf fs:List Int}{zs:ZN}(a:Sta H pl pf pn Hx lf fs zs)(s:Same Hx Hy):Sta H pl pf pn Hy lf fs zs :=
 ⟨a.same.trans s,s _ _ a.l,s _ _ a.f,s _ _ a.n,a.nd.same s,a.l0,a.f0,a.n0,a.lf',a.ln',a.fn'⟩
theorem At.over{H:Hp}{p:Addr}{xs:List V}{o:HO}{zs:ZN}(h:At H zs)(hp:H p=some (.lst xs)):At (upd H p o) zs:=λz hz=>by
 rw[ao]
 ·exact h z hz
 ·intro e;have:=h z hz;rw[e,hp]at this;cases this
theorem Sta.pop{H Hx:Hp}{pl pf pn:Addr}{lf fs:List Int}{zs:ZN}(a:Sta H pl pf pn Hx lf fs zs)(lf2:List Int):Sta H pl pf pn (upd Hx pl (.lst (lf2.map V.int))) lf2 fs zs :=
 ⟨aS a.l0 a.same,ac,by rw[ao (symm a.lf')];exact a.f,by rw[ao (symm a.ln')];exact a.n,a.nd.over a.l,a.l0,a.f0,a.n0,a.lf',a.ln',a.fn'⟩
theorem Sta.fold{H Hx:Hp}{pl pf pn:Addr}{lf fs:List Int}{zs:ZN}(a:Sta H pl pf pn Hx lf fs zs)(x:Int):Sta H pl pf pn (upd Hx pf (.lst (fs.map V.int++[.int x]))) lf (fs++[x]) zs :=
 ⟨aS a.f0 a.same,by rw[ao a.lf'];exact a.l,by rw[ac];simp,by rw[ao (symm a.fn')];exact a.n,a.nd.over a.f,a.l0,a.f0,a.n0,a.lf',a.ln',a.fn'⟩
theorem Sta.node{H Hx:Hp}{pl pf pn q:Addr}{lf fs:List Int}{zs:ZN}{n:Nd}(a:Sta H pl pf pn Hx lf fs zs)(hq:Hx q=some (.tup (vals n))):Sta H pl pf pn (upd Hx pn (.lst (ba zs++[.ref q]))) lf fs (zs++[(q,n)]) :=
 ⟨aS a.n0 a.same,by rw[ao a.ln'];exact a.l,by rw[ao a.fn'];exact a.f,by rw[ac,iL],(λz hz=>by
  rcases mem_append.mp hz with h|h
  ·exact a.nd.over a.n z h
  ·have ez:z=(q,n):=by simpa using h
   subst ez;rw[ao]
   ·exact hq
   ·intro e;have e':q=pn:=e;rw[e',a.n]at hq;cases hq),a.l0,a.f0,a.n0,a.lf',a.ln',a.fn'⟩
def lf0(m:Int):List Int:=(List.range (m+4-1).toNat).map λk=>(1:Int)+(k:Nat)
theorem uU{m:Int}(h:0≤m):((lf0 m).length:Int)=m+3:=by unfold lf0;rw[length_map,length_range];omega
theorem uV{m:Int}(h:m≤9):∀x∈lf0 m,1≤x∧x≤12:=λx hx=>by
 unfold lf0 at hx;obtain⟨k,hk,rfl⟩:=mem_map.mp hx;have:=mem_range.mp hk;omega
theorem xj(m:Int):(lf0 m).Nodup:=by
 unfold lf0 Nodup;rw[pairwise_map];exact List.nodup_range.imp λh e=>h (by omega)
theorem Bd.zero{m:Int}(h:m≤9):Bd [] (lf0 m):=⟨.nil,by show(([]:List Int)++lf0 m).Nodup;rw[nil_append];exact xj m,uV h,by unfold TW.dY nds;simp,by simp⟩
def dH(zs:ZN):List (Key×V):=zs.map λz=>((Sum.inl z.2.num:Key),V.ref z.1)
theorem lL{zs:ZN}(hn:((nds zs).map (·.num)).Nodup){z:Addr×Nd}(hz:z∈zs):br (dH zs) (Sum.inl z.2.num:Key)=some (.ref z.1):=by
 induction zs with
 |nil=>simp at hz
 |cons y zs ih =>
  have hn':y.2.num∉(nds zs).map (·.num)∧((nds zs).map (·.num)).Nodup:=by simpa [nds]using hn
  show br (((Sum.inl y.2.num:Key),V.ref y.1)::dH zs) _=_;rcases mem_cons.mp hz with e|hz'
  ·subst e;exact bZ rfl
  ·rw[bt]
   ·exact ih hn'.2 hz'
   ·intro e;injection e with e
    exact hn'.1 (mem_map.mpr ⟨z.2,mem_map.mpr ⟨z,hz',rfl⟩,e.symm⟩)
theorem oJ{zs:ZN}{k:Int}(h:∀z∈zs,z.2.num≠k):br (dH zs) (Sum.inl k:Key)=none:=by
 induction zs with
 |nil=>rfl
 |cons y zs ih =>
  show br (((Sum.inl y.2.num:Key),V.ref y.1)::dH zs) _=_;rw[bt]
  ·exact ih λz hz=>h z (mem_cons_of_mem _ hz)
  ·intro e;injection e with e
   exact h y (by simp) e
def gU(H:Hp)(d:Addr)(zs:ZN):Prop:=∃o,H d=some (.frz o (.dK (dH zs)))
theorem gU.same{H H':Hp}{d:Addr}{zs:ZN}(h:gU H d zs)(s:Same H H'):gU H' d zs:=let⟨o,e⟩:=h;⟨o,s _ _ e⟩
theorem gU.get{H:Hp}{d:Addr}{zs:ZN}(h:gU H d zs)(hn:((nds zs).map (·.num)).Nodup){z:Addr×Nd}(hz:z∈zs):dA H d (.int z.2.num) (some (.ref z.1)):=by
 obtain⟨o,e⟩:=h;exact .inl ⟨dH zs,Sum.inl z.2.num,.inr ⟨o,e⟩,rfl,(lL hn hz).symm⟩
theorem gU.not{H:Hp}{d:Addr}{zs:ZN}(h:gU H d zs){k:Int}(hk:∀z∈zs,z.2.num≠k):dA H d (.int k) none:=by
 obtain⟨o,e⟩:=h;exact .inl ⟨dH zs,Sum.inl k,.inr ⟨o,e⟩,rfl,(oJ hk).symm⟩
theorem aH{ns:List Nd}(T:TW.Tree1 ns):(ns.map (·.num)).Nodup:=by
 have h:=T.rise;unfold TW.cO at h;unfold Nodup;rw[pairwise_map];exact h.imp λh e=>by omega
theorem uW{ys:List V}{zs:ZN}{H:Hp}{p:Addr}{g:Addr×Nd→List V}(hlen:ys.length=zs.length)(h:∀(i:Nat) y,ys[i]?=some y→∃q z,zs[i]?=some z∧y=.ref q∧q≠p∧H q=some (.tup (g z))):
  ∃as:List (Addr×(Addr×Nd)),as.map (·.2)=zs∧ys=(as.map (·.1)).map V.ref∧∀a∈as,a.1≠p∧H a.1=some (.tup (g a.2)):=by
 induction ys generalizing zs with
 |nil =>
  have:zs=[]:=List.length_eq_zero_iff.mp hlen.symm;subst this;exact⟨[],rfl,rfl,by simp⟩
 |cons y ys ih =>
  cases zs with
  |nil=>simp at hlen
  |cons z zs =>
   obtain⟨as,e1,e2,e3⟩:=ih (zs:=zs) (by simpa using hlen) λi x hx=>by simpa using h (i+1) x (by simpa using hx)
   obtain⟨q,z',f1,f2,f3,f4⟩:=h 0 y rfl;have:z=z':=by simpa using f1
   subst this;refine⟨(q,z)::as,by simp[e1],by simp[e2,f2],λa ha=>?_⟩;rcases mem_cons.mp ha with rfl|ha
   ·exact⟨f3,f4⟩
   ·exact e3 a ha
theorem iu{κ:Type}[DecidableEq κ]{kvs:List (κ×V)}(hn:(kvs.map (·.1)).Nodup){k:κ}{v:V}(h:(k,v)∈kvs):br kvs k=some v:=by
 induction kvs with
 |nil=>simp at h
 |cons y kvs ih =>
  have hn':y.1∉kvs.map (·.1)∧(kvs.map (·.1)).Nodup:=by simpa using hn
  rcases mem_cons.mp h with e|h'
  ·subst e;exact bZ rfl
  ·rw[bt]
   ·exact ih hn'.2 h'
   ·intro e;exact hn'.1 (mem_map.mpr ⟨_,h',e.symm⟩)
theorem lM{κ:Type}[DecidableEq κ]{kvs:List (κ×V)}{k:κ}(h:k∉kvs.map (·.1)):br kvs k=none:=by
 induction kvs with
 |nil=>rfl
 |cons y kvs ih =>
  have h':¬k=y.1∧k∉kvs.map (·.1):=by simpa using h
  rw[bt (λe=>h'.1 e.symm)];exact ih h'.2
theorem pV{zs:ZN}{k:Int}{q:List Str}(T:TW.Tree1 (nds zs))(h:TW.PathTo (nds zs) k q)(hk:k≠0):∃z∈zs,z.2.num=k∧∃q',q=q'++[z.2.nm]∧TW.PathTo (nds zs) z.2.par q':=by
 cases h with
 |top=>exact absurd rfl hk
 |@node n q' hm hq' =>
  obtain⟨z,hz,rfl⟩:=mem_map.mp hm;exact⟨z,hz,rfl,q',rfl,hq'⟩
def eM(P:Program)(w:World)(K:PySem.W.Frag)(mg:Str→Option Value)(base:Heap)(k:Nat)(x:Str)(ps:List Str)(sp:Sp):Prop:=∃f fd,FnOk P w K mg base (CX1 P w) k f fd ps sp∧mg x=some (.ref f)∧keepIn K (.ref f)=true∧dU K fd ps []
structure Tre(H:Hp)(t:Addr)(zs:ZN):Prop where
 tup:H t=some (.tup (ba zs))
 nod:At H zs
 tr:TW.Tree1 (nds zs)
 len:zs.length≤30
theorem Tre.same{H H':Hp}{t:Addr}{zs:ZN}(h:Tre H t zs)(s:Same H H'):Tre H' t zs:=⟨s _ _ h.tup,h.nod.same s,h.tr,h.len⟩
theorem rg{ns:List Nd}(T:TW.Tree1 ns){f:Int}{dn:List Int}{fd:List Nd}(wk:TW.Walk ns f dn fd []):(fd.map (·.num)).Nodup:=by
 have h:=aH T;have:(fd.map (·.num)).Perm ((ns.filter (TW.fA dn)).map (·.num)):=wk.perm.map _;exact this.nodup_iff.mpr (h.sublist (filter_sublist.map _))
theorem _root_.L2.Same.rd{H H':Hp}(s:Same H H'){a:Addr}{u:HO}(r:Rd H a u):Rd H' a u:=by
 rcases r with r|⟨o,r⟩
 ·exact .inl (s _ _ r)
 ·exact .inr ⟨o,s _ _ r⟩
def aD(as:List (Addr×(Addr×Nd))):List (Key×V):=as.map λa=>((Sum.inl a.2.2.num:Key),V.ref a.1)
def bH(n:Nd):List V:=[.int n.par,.str n.nm,stV n.st]
structure Book(H:Hp)(d:Addr)(as:List (Addr×(Addr×Nd)))(zs:ZN):Prop where
 dict:Rd H d (.dK (aD as))
 of:as.map (·.2)=zs
 at':∀a∈as,H a.1=some (.tup (bH a.2.2))
theorem Book.same{H H':Hp}{d:Addr}{as:List (Addr×(Addr×Nd))}{zs:ZN}(b:Book H d as zs)(s:Same H H'):Book H' d as zs:=⟨s.rd b.dict,b.of,λa ha=>s _ _ (b.at' a ha)⟩
theorem jB{as:List (Addr×(Addr×Nd))}{zs:ZN}(h:as.map (·.2)=zs):(aD as).map (·.1)=((nds zs).map (·.num)).map (Sum.inl:Int→Key):=by
 rw[←h];unfold aD nds;simp only[map_map];rfl
theorem sB{as:List (Addr×(Addr×Nd))}{zs:ZN}(h:as.map (·.2)=zs)(hn:((nds zs).map (·.num)).Nodup):((aD as).map (·.1)).Nodup:=by
 rw[jB h];unfold Nodup at hn⊢;rw[pairwise_map];exact hn.imp λh e=>h (by injection e)
theorem Book.get{H:Hp}{d:Addr}{as:List (Addr×(Addr×Nd))}{zs:ZN}(b:Book H d as zs)(hn:((nds zs).map (·.num)).Nodup){z:Addr×Nd}(hz:z∈zs):∃q,dA H d (.int z.2.num) (some (.ref q))∧H q=some (.tup (bH z.2)):=by
 have:z∈as.map (·.2):=by rw[b.of];exact hz
 obtain⟨a,ha,rfl⟩:=mem_map.mp this;refine⟨a.1,.inl ⟨aD as,Sum.inl a.2.2.num,b.dict,rfl,?_⟩,b.at' a ha⟩;exact(iu (sB b.of hn) (mem_map.mpr ⟨a,ha,rfl⟩)).symm
theorem Book.not{H:Hp}{d:Addr}{as:List (Addr×(Addr×Nd))}{zs:ZN}(b:Book H d as zs){k:Int}(hk:∀z∈zs,z.2.num≠k):dA H d (.int k) none:=by
 refine .inl ⟨aD as,Sum.inl k,b.dict,rfl,(lM λhm=>?_).symm⟩;rw[jB b.of]at hm;obtain⟨i,hi,e⟩:=mem_map.mp hm;obtain⟨n,hn,rfl⟩:=mem_map.mp hi;obtain⟨z,hz,rfl⟩:=mem_map.mp hn;injection e with e
 exact hk z hz e
def nF(ns:List Nd)(k:Int):Nat:=open Classical in if h:∃p,TW.PathTo ns k p then (Classical.choose h).length else 0
theorem jf{ns:List Nd}(T:TW.Tree1 ns){k:Int}{p:List Str}(h:TW.PathTo ns k p):nF ns k=p.length:=by
 unfold nF;have hx:∃p,TW.PathTo ns k p:=⟨p,h⟩;rw[dif_pos hx];rw[(Classical.choose_spec hx).uniq T h]
theorem rh(n:Nd):atI (bH n) 0=some (.int n.par):=rfl
theorem zB(n:Nd):atI (bH n) 1=some (.str n.nm):=rfl
abbrev nG(x:Str)(mg:Str→Option Value)(base:Heap)(C:Addr):Prop:=PyProof.Rows.OwnCls x C bmV "ValueError.__new__" mg base
theorem pW(o:Option Int):(!decide (stV o=V.non))=o.isSome:=by cases o<;>simp[stV]
theorem cg(zs:ZN):zs.map (λz=>V.ref z.1)=ba zs:=by simp[ba]
def zC:TW.Wd→Str
 |.known=>"Known"
 |.noNode=>"NoNode"
 |.notFile=>"NotFile"
 |.notFolder=>"NotFolder"
 |.inside=>"Inside"
 |.taken=>"Taken"
abbrev uX(mg:Str→Option Value)(base:Heap)(cls:TW.Wd→Addr):Prop:=∀w,nG (zC w) mg base (cls w)
structure Outs(H:Hp)(t:List Nd)(d:TW.Deed Str)(cls:TW.Wd→Addr)(Q:VK)(E:XK):Prop where
 ok:∀us t' H',Same H H'→H' t'=some (.tup (ba us))→At H' us→TW.Told t d (.inr (nds us))→Q (.ref t') H'
 no:∀w H',Same H H'→TW.Told t d (.inl w)→E (.ref (cls w)) none H'
theorem gk{K:PySem.W.Frag}{H:Hp}{l:Addr}{zs:ZN}{Q:VK}(hl:SqL K H l (ba zs)∨SqT K H l (ba zs))(hA:At H zs)(hn:((nds zs).map (·.num)).Nodup)(h64:zs.length<64)(q:∀us t' H',Same H H'→H' t'=some (.tup (ba us))→At H' us→us.Perm zs→TW.cO (nds us)→Q (.ref t') H'):
  ∃l',∃ts:List io,[V.ref l]=[V.ref l']∧(SqL K H l' ((ts.map (·.1)).map V.ref)∨SqT K H l' ((ts.map (·.1)).map V.ref))∧(∀z∈ts,H z.1=some (.tup (.int z.2.1::z.2.2)))∧(ts.map (·.2.1)).Nodup∧ts.length<64 ∧
   ∀ts':List io,ts'.Perm ts→ts'.Pairwise (λa b=>a.2.1<b.2.1)→∀p,H p=none→∃p' ys,[V.ref p]=[V.ref p']∧((SqL K (upd H p (.lst ((ts'.map (·.1)).map V.ref))) p' ys∧∀l,upd H p (.lst ((ts'.map (·.1)).map V.ref)) l=none→Q (.ref l) (upd (upd H p (.lst ((ts'.map (·.1)).map V.ref))) l (.tup ys))) ∨
    (SqT K (upd H p (.lst ((ts'.map (·.1)).map V.ref))) p' ys∧Q (.ref p') (upd H p (.lst ((ts'.map (·.1)).map V.ref))))):=by
 have hnum:(zs.map tp).map (·.2.1)=(nds zs).map (·.num):=by
  unfold nds;simp only[map_map];rfl
 refine⟨l,zs.map tp,rfl,by rw[je];exact hl,λz hz=>?_,by rw[hnum];exact hn,by rw[length_map];exact h64,λts pm up p hp=>?_⟩
 ·obtain⟨y,hy,rfl⟩:=mem_map.mp hz;exact hA y hy
 ·obtain⟨pm2,eb⟩:=back pm;have er:(ts.map (·.1)).map V.ref=ba (ts.map un):=by rw[←je,eb]
  rw[er];refine⟨p,_,rfl,.inl ⟨SqL.of ac,λl hl=>?_⟩⟩;refine q (ts.map un) l _ ((ag hp).trans (ag hl)) ac ?_ pm2 ?_
  ·intro z hz;exact((ag hp).trans (ag hl)) _ _ (hA z (pm2.mem_iff.mp hz))
  ·unfold nds TW.cO;rw[pairwise_map];have up2:((ts.map un).map tp).Pairwise (λa b=>a.2.1<b.2.1):=by rw[eb];exact up
   rw[pairwise_map]at up2;exact up2
def aR:TW.Deed Str→List V
 |.make n p nm st=>[.str "make",.int n,.int p,.str nm,stV st]
 |.write n st=>[.str "write",.int n,.int st]
 |.move n p nm=>[.str "move",.int n,.int p,.str nm]
 |.drop n=>[.str "drop",.int n]
def lN:TW.Deed Str→Prop
 |.make n p nm _=>1≤n∧n≤60∧0≤p∧p≤60∧nm.length≤100
 |.write n _=>1≤n∧n≤60
 |.move n p nm=>1≤n∧n≤60∧0≤p∧p≤60∧nm.length≤100
 |.drop n=>1≤n∧n≤60
theorem lN.pos{d:TW.Deed Str}(h:lN d):d.pos:=by
 cases d<;>first|exact h.1|trivial
theorem aA{zs:ZN}{z:Addr×Nd}(h:z∈zs):z.2∈nds zs:=mem_map.mpr ⟨z,h,rfl⟩
theorem bf{zs:ZN}{n:Nd}(h:n∈nds zs):∃z∈zs,z.2=n:=mem_map.mp h
theorem cz{zs:ZN}{k:Int}(h:¬∃z∈zs,z.2.num=k):¬TW.aM (nds zs) k:=λ⟨m,hm,e⟩=>by
 obtain⟨z,hz,rfl⟩:=bf hm;exact h ⟨z,hz,e⟩
theorem cR{zs:ZN}{k:Int}{z:Addr×Nd}(hz:z∈zs)(e:z.2.num=k):TW.aM (nds zs) k:=⟨z.2,aA hz,e⟩
def pX:TW.Wd→Str
 |.known=>"known"
 |.noNode=>"no node"
 |.notFile=>"not file"
 |.notFolder=>"not folder"
 |.inside=>"inside"
 |.taken=>"taken"
def cn(bs:List (Addr×Nd)):List (Key×V):=bs.map λb=>((Sum.inl b.2.num:Key),V.ref b.1)
theorem lO(as:List (Addr×(Addr×Nd))):aD as=cn (as.map λa=>(a.1,a.2.2)):=by
 unfold aD cn;rw[map_map];rfl
theorem jC(bs:List (Addr×Nd)):(cn bs).map (λp=>kV p.1)=bs.map λb=>V.int b.2.num:=by
 unfold cn;rw[map_map];rfl
theorem kQ{bs:List (Addr×Nd)}(hn:(bs.map (·.2.num)).Nodup){b:Addr×Nd}(hb:b∈bs):br (cn bs) (Sum.inl b.2.num:Key)=some (.ref b.1):=by
 refine iu ?_ (mem_map.mpr ⟨b,hb,rfl⟩);unfold cn;rw[map_map];unfold Nodup at hn⊢;rw[pairwise_map]at hn⊢;exact hn.imp λh e=>h (by injection e)
theorem ri(bs:List (Addr×Nd))(c:Addr)(n:Nd):cx (cn bs) (Sum.inl n.num:Key) (.ref c)=cn (if ∃b∈bs,b.2.num=n.num then bs.map (λb=>if b.2.num=n.num then (c,n)else b)else bs++[(c,n)]):=by
 unfold cx
 by_cases h:∃b∈bs,b.2.num=n.num
 ·obtain⟨b,hb,e⟩:=h;have ha:((cn bs).any λkv=>decide (kv.1=(Sum.inl n.num:Key)))=true:=by
   rw[any_eq_true];exact⟨_,mem_map.mpr ⟨b,hb,rfl⟩,by simp[e]⟩
  rw[if_pos ha,if_pos ⟨b,hb,e⟩];unfold cn;rw[map_map,map_map];apply map_congr_left;intro x _;show(if (Sum.inl x.2.num:Key)=Sum.inl n.num then ((Sum.inl x.2.num:Key),V.ref c)else ((Sum.inl x.2.num:Key),V.ref x.1))=_
  by_cases e:x.2.num=n.num
  ·rw[if_pos (by rw[e])];show _=((Sum.inl (if x.2.num=n.num then (c,n)else x).2.num:Key),V.ref (if x.2.num=n.num then (c,n)else x).1)
   rw[if_pos e,e]
  ·rw[if_neg (λh=>e (by injection h))];show _=((Sum.inl (if x.2.num=n.num then (c,n)else x).2.num:Key),V.ref (if x.2.num=n.num then (c,n)else x).1)
   rw[if_neg e]
 ·have ha:¬((cn bs).any λkv=>decide (kv.1=(Sum.inl n.num:Key)))=true:=λha=>h (by
   obtain⟨y,hy,e⟩:=any_eq_true.mp ha;obtain⟨b,hb,rfl⟩:=mem_map.mp hy;have e':(Sum.inl b.2.num:Key)=Sum.inl n.num:=by simpa using e
   exact⟨b,hb,by injection e'⟩)
  rw[if_neg ha,if_neg h];unfold cn;rw[map_append];rfl
theorem nH(n:Nd):atI (bH n) 2=some (stV n.st):=rfl
theorem nI{H:Hp}{d q:Addr}{as:List (Addr×(Addr×Nd))}{zs:ZN}{new:Nd}(hd:H d=some (.dK (aD as)))(hof:as.map (·.2)=zs)(hat:∀a∈as,H a.1=some (.tup (bH a.2.2)))(hq:H q=some (.tup (bH new)))(hnd:((nds zs).map (·.num)).Nodup):
  ∃bs:List (Addr×Nd),upd H d (.dK (cx (aD as) (Sum.inl new.num:Key) (.ref q))) d=some (.dK (cn bs))∧(∀b∈bs,upd H d (.dK (cx (aD as) (Sum.inl new.num:Key) (.ref q))) b.1=some (.tup (bH b.2)))∧(bs.map (·.2.num)).Nodup∧bs.length≤zs.length+1 ∧
   ((TW.aM (nds zs) new.num∧bs.map (·.2)=(nds zs).map (TW.put new))∨(¬TW.aM (nds zs) new.num∧bs.map (·.2)=nds zs++[new])):=by
 have en:(as.map λa=>(a.1,a.2.2)).map (·.2)=nds zs:=by rw[←hof];unfold nds;rw[map_map,map_map];rfl
 have hl:(as.map λa=>(a.1,a.2.2)).length=zs.length:=by rw[←hof,length_map,length_map]
 have ne:∀a xs,H a=some (.tup xs)→a≠d:=λa xs h e=>by rw[e,hd]at h;cases h
 have hat':∀b∈as.map (λa=>(a.1,a.2.2)),H b.1=some (.tup (bH b.2)):=λb hb=>by
  obtain⟨a,ha,rfl⟩:=mem_map.mp hb;exact hat a ha
 rw[lO,ri];generalize as.map (λa=>(a.1,a.2.2))=cs at en hl hat'⊢;have hh:(∃b∈cs,b.2.num=new.num)↔TW.aM (nds zs) new.num:=by
  rw[←en];constructor
  ·rintro⟨b,hb,e⟩;exact⟨b.2,mem_map.mpr ⟨b,hb,rfl⟩,e⟩
  ·rintro⟨m,hm,e⟩;obtain⟨b,hb,rfl⟩:=mem_map.mp hm;exact⟨b,hb,e⟩
 have hn2:(cs.map (·.2.num)).Nodup:=by
  have:cs.map (·.2.num)=(nds zs).map (·.num):=by rw[←en,map_map];rfl
  rw[this];exact hnd
 by_cases h:∃b∈cs,b.2.num=new.num
 ·rw[if_pos h];refine⟨_,ac,λb hb=>?_,?_,by rw[length_map];omega,.inl ⟨hh.mp h,?_⟩⟩
  ·obtain⟨c,hc,rfl⟩:=mem_map.mp hb
   by_cases e:c.2.num=new.num
   ·rw[if_pos e,ao (ne _ _ hq)];exact hq
   ·rw[if_neg e,ao (ne _ _ (hat' c hc))];exact hat' c hc
  ·have:(cs.map λb=>if b.2.num=new.num then (q,new)else b).map (·.2.num)=cs.map (·.2.num):=by
    rw[map_map];apply map_congr_left;intro c _;show(if c.2.num=new.num then (q,new)else c).2.num=c.2.num
    by_cases e:c.2.num=new.num
    ·rw[if_pos e];exact e.symm
    ·rw[if_neg e]
   rw[this];exact hn2
  ·rw[←en,map_map,map_map];apply map_congr_left;intro c _;show(if c.2.num=new.num then (q,new)else c).2=TW.put new c.2
   unfold TW.put
   by_cases e:c.2.num=new.num
   ·rw[if_pos e,if_pos e]
   ·rw[if_neg e,if_neg e]
 ·rw[if_neg h];refine⟨_,ac,λb hb=>?_,?_,by rw[length_append];simp;omega,.inr ⟨λx=>h (hh.mpr x),by rw[map_append,en];rfl⟩⟩
  ·rcases mem_append.mp hb with hb|hb
   ·rw[ao (ne _ _ (hat' b hb))];exact hat' b hb
   ·have e:b=(q,new):=by simpa using hb
    subst e;rw[ao (ne _ _ hq)];exact hq
  ·rw[map_append,nodup_append];refine⟨hn2,by simp,λx hx y hy e=>?_⟩;have ey:y=new.num:=by simpa using hy
   obtain⟨b,hb,eb⟩:=mem_map.mp hx;exact h ⟨b,hb,by rw[eb,e,ey]⟩
def jD(t:List Nd)(dd:TW.Deed Str)(n p:Int)(nm:Str):Prop:=(∃st,dd=.make n p nm st∧¬TW.aM t n)∨(dd=.move n p nm∧TW.aM t n)
theorem jD.no{t:List Nd}{dd:TW.Deed Str}{n p:Int}{nm:Str}(h:jD t dd n p nm)(h0:p≠0)(hp:¬TW.aM t p):TW.Told t dd (.inl .noNode):=by
 rcases h with⟨st,rfl,hn⟩|⟨rfl,hn⟩
 ·exact .mNo hn h0 hp
 ·exact .vNoP hn h0 hp
theorem jD.file{t:List Nd}{dd:TW.Deed Str}{n p:Int}{nm:Str}(h:jD t dd n p nm)(h0:p≠0){m:Nd}(hm:m∈t)(e:m.num=p)(hs:m.st≠none):TW.Told t dd (.inl .notFolder):=by
 rcases h with⟨st,rfl,hn⟩|⟨rfl,hn⟩
 ·exact .mFile hn h0 hm e hs
 ·exact .vFile hn h0 hm e hs
def NotIn(t:List Nd)(dd:TW.Deed Str)(n p:Int):Prop:=(∃nm,dd=.move n p nm)→p≠0→¬TW.Und t n p
theorem jD.taken{t:List Nd}{dd:TW.Deed Str}{n p:Int}{nm:Str}(h:jD t dd n p nm)(hF:TW.gT t p)(hi:NotIn t dd n p){m:Nd}(hm:m∈t)(hne:m.num≠n)(e1:m.par=p)(e2:m.nm=nm):TW.Told t dd (.inl .taken):=by
 rcases h with⟨st,rfl,hn⟩|⟨rfl,hn⟩
 ·exact .mTaken hn hF hm e1 e2
 ·exact .vTaken hn hF (hi ⟨_,rfl⟩) hm hne e1 e2
def nJ(x:Str):Prop:=x="a"∨x="b"∨x="c"∨x="abcde"
def xk(s:Option Int):Prop:=∀i,s=some i→0≤i∧i≤999
def gm(n:Nd):Prop:=1≤n.num∧n.num≤60∧nJ n.nm∧xk n.st
def eu:TW.Deed Str→Prop
 |.make n p nm st=>1≤n∧n≤60∧0≤p∧p≤60∧nJ nm∧xk st
 |.write n st=>1≤n∧n≤60∧0≤st∧st≤999
 |.move n p nm=>1≤n∧n≤60∧0≤p∧p≤60∧nJ nm
 |.drop n=>1≤n∧n≤60
theorem nJ.len{x:Str}(h:nJ x):x.length≤100:=by
 rcases h with rfl|rfl|rfl|rfl<;>decide +kernel
theorem eu.ok{d:TW.Deed Str}(h:eu d):lN d:=by
 cases d with
 |make n p nm st=>obtain⟨h1,h2,h3,h4,h5,_⟩:=h;exact⟨h1,h2,h3,h4,h5.len⟩
 |write n st=>exact⟨h.1,h.2.1⟩
 |move n p nm=>obtain⟨h1,h2,h3,h4,h5⟩:=h;exact⟨h1,h2,h3,h4,h5.len⟩
 |drop n=>exact h
theorem gm.told{t u:List Nd}{d:TW.Deed Str}(ht:∀n∈t,gm n)(hd:eu d)(h:TW.Told t d (.inr u)):∀n∈u,gm n:=by
 refine h.all ht (λn p nm st e=>?_) (λn st e y hy ey=>?_) (λn p nm e y hy ey=>?_)
 ·subst e;obtain⟨h1,h2,h3,h4,h5,h6⟩:=hd;exact⟨h1,h2,h5,h6⟩
 ·subst e;obtain⟨h1,h2,h3,h4⟩:=hd;exact⟨h1,h2,(ht y hy).2.2.1,λi e=>by injection e with e;omega⟩
 ·subst e;obtain⟨h1,h2,h3,h4,h5⟩:=hd;exact⟨h1,h2,h5,(ht y hy).2.2.2⟩
theorem uS.ok{n:Nd}(h:uS n):gm n:=by
 obtain⟨h1,h2,h3,h4⟩:=h;refine⟨h1,by omega,h3,λi e=>?_⟩;rcases h4 with h|h|h|h|h<;>rw[h]at e<;>cases e<;>decide
theorem pY{ns:List Int}{i:Int}(h0:0≤i)(h1:i<ns.length){P:Int→Prop}(hP:∀x∈ns,P x):∃x,atI (ns.map V.int) i=some (.int x)∧P x:=by
 obtain⟨x,hx,e⟩:=pT h0 h1;exact⟨x,e,hP x hx⟩
def top(i:Nat):Stmt:=PySem.Challenge.pw_treewatch_k30_in_steps.main.body.getD i (.Pass ⟨0,0,0,0⟩)
abbrev xl:Stmt:=top 14
abbrev xm:Stmt:=top 15
abbrev xn:Stmt:=top 16
abbrev xo:Stmt:=top 17
abbrev xp:Stmt:=top 18
abbrev xq:Stmt:=top 20
abbrev pZ:Stmt:=top 21
abbrev sC:Stmt:=top 22
abbrev oK:Stmt:=top 23
abbrev sD:Stmt:=top 24
abbrev qb:Stmt:=top 25
abbrev sE:Stmt:=top 26
abbrev eN:Stmt:=top 28
abbrev db:Stmt:=top 29
abbrev gp:Stmt:=top 30
abbrev gW:Stmt:=top 31
abbrev fi:Stmt:=top 32
abbrev iM:Stmt:=top 33
abbrev gs:Stmt:=top 34
abbrev gu:Stmt:=top 35
abbrev iw:Stmt:=top 36
abbrev gX:Stmt:=top 37
abbrev sF:Stmt:=top 39
abbrev sG:Stmt:=top 40
abbrev iN:Stmt:=top 41
abbrev sI:Stmt:=top 42
abbrev oM:Stmt:=top 44
abbrev cF:Stmt:=top 45
abbrev iW:Stmt:=top 46
abbrev xr:Stmt:=top 47
abbrev sJ:Stmt:=top 48
abbrev gv:Stmt:=top 49
abbrev cm:Stmt:=top 50
abbrev ci:Stmt:=top 51
abbrev aZ:Stmt:=top 52
abbrev aL:Stmt:=top 53
abbrev aF:Stmt:=top 54
abbrev oN:Stmt:=top 55
abbrev jE:Stmt:=top 56
structure Txt(mg:Str→Option Value):Prop where
 isin:mg "isinstance"=none
 dict:mg "dict"=none
 len:mg "len"=none
 tuple:mg "tuple"=none
 list:mg "list"=none
 range:mg "range"=none
 sorted:mg "sorted"=none
 reversed:mg "reversed"=none
 ValueError:mg "ValueError"=none
 str:mg "str"=none
 set:mg "set"=none
 max:mg "max"=none
 min:mg "min"=none
 sum:mg "sum"=none
 zip:mg "zip"=none
 enumerate:mg "enumerate"=none
 all:mg "all"=none
 int:mg "int"=none
 bool:mg "bool"=none
 top:∃t,mg "TOP"=some (.int 0 t)
 letters:∃t,mg "LETTERS"=some (.str "abcdefghijklmnopqrstuvwxyz" t)
section
variable{P:Program}{w:World}{K:PySem.W.Frag}{mg:Str→Option Value}{base:Heap}
def qc:Sp:=λvs H Q _=>∃t f zs,vs=[.ref t,.int f]∧H t=some (.tup (ba zs))∧At H zs∧zs.length≤100∧∀fd dn l H',TW.Walk (nds zs) f dn fd []→H' l=some (.lst (eW fd))→Same H H'→Q (.ref l) H'
theorem jF:FnScope ["nodes","folder","members","node","found","pending","here"] ["nodes","folder"] (ah xl):=fsc
theorem xt{f:Addr}{fd:FuncData}(F:Fun K "numbers_inside" "numbers_inside" xl f fd)(T:Txt mg):FnOk P w K mg base CX0 1 f fd ["nodes","folder"] qc:=by
 refine F.ok jF (λvs H Q E h=>?_) (λcdv A outer s H vs Q E hr h=>?_)
 ·obtain⟨t,f,zs,rfl,_⟩:=h;rfl
 ·obtain⟨t,f,zs,rfl,ht,hA,hl,k⟩:=h;refine⟨_,ae (ap (i:=2) jF.nd rfl (Or.inl rfl) mw)
   (ae (dh PassesOwn.never rfl (cS (pv 0)) (aG (i:=3) jF.nd rfl (Or.inl rfl)) (aj (bz (dL plainAttrs_list PySem.F.slot_list_append PySem.F.type_list_append bA
     (dL PySem.F.plainAttrs_dict PySem.F.slot_dict_setdefault PySem.F.type_dict_setdefault jV (pv 2) (aa (av aq (pv 3) ai (λ_ _=>rfl)) (aa (bx af) af))) (aa (pv 3) af)))))
   (ae (ap (i:=4) jF.nd rfl (Or.inl rfl) (bx af))
   (ae (ap (i:=5) jF.nd rfl (Or.inl rfl) (bx (aa (pv 1) af)))
   (ae (dw PassesOwn.never (rO (pv 5) (λ_=>rfl))
    (ae (ap (i:=6) jF.nd rfl (Or.inl rfl) (rY (pv 2) (wI plainAttrs_list slot_list_pop type_list_pop wJ (pv 5)) (bx af) ⟨rfl,rfl,rfl,rfl⟩))
    (aj (dh PassesOwn.never rfl (ce (pv 6)) (aG (i:=3) jF.nd rfl (Or.inl rfl))
     (ae (bz (dL plainAttrs_list PySem.F.slot_list_append PySem.F.type_list_append bA (pv 4) (aa (av aq (pv 3) ai (λ_ _=>rfl)) af)))
     (aj (aW (am eK (av aq (pv 3) ai (λ_ _=>rfl)) bJ (aw _)) (aj (bz (dL plainAttrs_list PySem.F.slot_list_append PySem.F.type_list_append bA (pv 5) (aa (av aq (pv 3) ai (λ_ _=>rfl)) af)))) aB)))))))
   (aj (ax (pv 4))))))),?_⟩
  refine λd hd=>?_;have z100:∀{n:Nat},n≤100→n<sizeLine:=λh=>aJ (by omega);refine⟨_,rfl,t,rfl,⟨_,SqT.of (bj hd ht)⟩,hX (xs:=ba zs) (λi σ H'=>∃L kvs on,σ=[some (.ref t),some (.int f),some (.ref d),on,none,none,none]∧Mem H H' d L kvs (zs.take i) [])
   ⟨_,_,_,rfl,Mem.start hd⟩ (λi σ H' _ h=>?_) (λi x σ H' hx h=>?_) (λσ H' h=>?_)⟩
  ·obtain⟨_,_,_,_,m⟩:=h;exact SqT.of (m.same _ _ ht)
  ·obtain⟨L,kvs,on,rfl,m⟩:=h;obtain⟨z,gz,rfl⟩:=cZ hx;have mz:=mem_of_getElem? gz;have ez:zs.take (i+1)=zs.take i++[z]:=by rw[take_succ,gz];rfl
   have hkl:kvs.length≤100:=by have:=m.len;rw[length_take]at this;omega
   refine⟨_,rfl,.inr (.inr (.inl ⟨rfl,.inl ⟨_,m.dict⟩⟩)),_,rfl,z.1,_,_,_,rfl,rfl,SqT.of (m.same _ _ (hA z mz)),at1 z.2,zero_le _,λq hq=>?_⟩;have m':=m.grow (ag (o:=.lst []) hq);refine⟨d,kvs,.inl z.2.par,.ref q,rfl,rfl,m'.dict,z100 hkl,λv hv=>?_,λhn=>?_⟩
   ·rw[m.val]at hv
    by_cases h:z.2.par∈([]:List Int)∨ins (zs.take i) z.2.par=[]
    ·rw[if_pos h]at hv;cases hv
    ·rw[if_neg h]at hv;cases hv;have h2:ins (zs.take i) z.2.par≠[]:=λz=>h (.inr z);have a:=(m'.at' z.2.par (by simp) h2).1;refine⟨.inl ⟨rfl,_,SqL.of a⟩,_,rfl,_,_,_,rfl,rfl,a,?_,?_⟩
     ·refine z100 ?_;rw[cf];exact le_trans (Sublist.length_le (Sublist.trans filter_sublist (List.take_sublist _ _))) hl
     ·refine⟨L,kvs,_,rfl,?_⟩;rw[ez];exact m'.hit h2
   ·rw[m.val]at hn
    by_cases h:z.2.par∈([]:List Int)∨ins (zs.take i) z.2.par=[]
    ·have h2:ins (zs.take i) z.2.par=[]:=h.resolve_left (by simp);have hqd:q≠d:=λe=>by rw[e,m.dict]at hq;cases hq
     have a:upd (upd H' q (.lst [])) d (.dK (cx kvs (Sum.inl z.2.par:Key) (.ref q))) q=some (.lst []):=by rw[ao hqd];exact ac
     refine⟨.inl ⟨rfl,_,SqL.of a⟩,_,rfl,q,[],_,rfl,rfl,a,z100 (zero_le _),?_⟩;have fr:=m.fresh (z:=z) h2 hq;rw[←ez]at fr;exact⟨_,_,_,rfl,fr⟩
    ·rw[if_neg h]at hn;cases hn
  ·obtain⟨L,kvs,on,rfl,m⟩:=h;rw[cf,take_length]at m;refine⟨zero_le _,λpf hpf=>⟨_,rfl,au (by simp),λpp hpp=>?_⟩⟩;have m1:=(m.grow (ag (o:=.lst []) hpf)).grow (ag (o:=.lst [.int f]) hpp);have hpf0:H pf=none:=m.same.free hpf;have hne:pp≠pf:=λe=>by rw[e,ac]at hpp;cases hpp
   have hpp0:H pp=none:=by rw[ao hne]at hpp;exact m.same.free hpp
   dsimp only[bg,iY];refine eT (λσ H'=>∃L kvs dn fd pd on oh,σ=[some (.ref t),some (.int f),some (.ref d),on,some (.ref pf),some (.ref pp),oh]∧pd.length≤fd.length+1∧Mem H H' d L kvs zs dn∧TW.Walk (nds zs) f dn fd pd∧H' pf=some (.lst (eW fd))∧H' pp=some (.lst (pd.map V.int)))
    (λσ H'=>2*(zs.length-kH H' pf)+kH H' pp) ⟨L,kvs,[],[],[f],_,_,rfl,le_refl _,m1,TW.Walk.start _ _,by rw[ao (symm hne),ac];rfl,ac⟩ (λσ H' h=>?_) ?_
   ·obtain⟨L,kvs,dn,fd,pd,on,oh,rfl,hpl,m,wk,ef,ep⟩:=h;refine⟨_,rfl,_,.inl ⟨_,SqL.of ep,rfl⟩,?_⟩
    by_cases hpd:pd=[]
    ·subst hpd;exact aE ⟨_,rfl,k fd dn pf H' wk ef m.same⟩
    ·obtain⟨pd',x,rfl⟩:∃pd' x,pd=pd'++[x]:=⟨pd.dropLast,pd.getLast hpd,(List.dropLast_concat_getLast hpd).symm⟩;have et:(!((pd'++[x]).map V.int).isEmpty)=true:=by simp
     rw[if_pos et];have elast:((pd'++[x]).map V.int)[((pd'++[x]).map V.int).length-1]?=some (.int x):=by simp
     have edrop:((pd'++[x]).map V.int).dropLast=pd'.map V.int:=by simp
     refine⟨_,rfl,d,rfl,.inl ⟨_,Rd.of m.dict⟩,_,rfl,.inl ⟨rfl,_,SqL.of ep⟩,pp,_,.int x,rfl,rfl,ep,elast,zero_le _,λq hq=>?_⟩;rw[edrop]at hq⊢;have m2:=(m.other (o:=.lst (pd'.map V.int)) ep hpp0).grow (ag (o:=.lst []) hq);have hqp:q≠pp:=λe=>by rw[e,ac]at hq;cases hq
     have hqf:q≠pf:=λe=>by rw[e,ao (symm hne),ef]at hq;cases hq
     refine sA m2 ac λhl Hc kvs' hs m3 ehl eh hsub hkeep hnil=>?_;have df:pf≠d:=λe=>by have:=m.dict;rw[←e,ef]at this;cases this
     have dp:pp≠d:=λe=>by have:=m.dict;rw[←e,ep]at this;cases this
     have ef3:Hc pf=some (.lst (eW fd)):=by rw[hkeep pf df,ao (symm hqf),ao (symm hne)];exact ef
     have ep3:Hc pp=some (.lst (pd'.map V.int)):=by rw[hkeep pp dp,ao (symm hqp),ac]
     have hlf:hl≠pf:=by
      by_cases h:hs=[]
      ·rw[hnil h];exact hqf
      ·exact pS ef3 ehl h
     have hlp:hl≠pp:=by
      by_cases h:hs=[]
      ·rw[hnil h];exact hqp
      ·exact pS ep3 ehl h
     have wk':=wk.turn;rw[←eh]at wk';have hlen:=wk'.len;rw[length_append,cI,cI]at hlen;rw[length_append,length_singleton]at hpl;refine⟨_,rfl,hl,rfl,⟨_,SqL.of ehl⟩,eS (xs:=ba hs) (λj σ H'=>∃on,σ=[some (.ref t),some (.int f),some (.ref d),on,some (.ref pf),some (.ref pp),some (.ref hl)]∧Mem H H' d L kvs' zs (x::dn)∧H' hl=some (.lst (ba hs)) ∧
      H' pf=some (.lst (eW (fd++nds (hs.take j))))∧H' pp=some (.lst ((pd'++TW.be (nds (hs.take j))).map V.int))) ⟨_,rfl,m3,ehl,by rw[ef3];simp[nds],by rw[ep3];simp[nds,TW.be]⟩
      (λj σ H' _ h=>?_) (λj y σ H' hy h=>?_) (λσ H' h=>?_)⟩
     ·obtain⟨_,_,_,e,_⟩:=h;exact SqL.of e
     ·obtain⟨on,rfl,m4,e1,e2,e3⟩:=h;obtain⟨z,gz,rfl⟩:=cZ hy;have mz:=hsub z (mem_of_getElem? gz);have ez:hs.take (j+1)=hs.take j++[z]:=by rw[take_succ,gz];rfl
      have l1:(eW (fd++nds (hs.take j))).length≤100:=by
       unfold eW;rw[length_map,length_map,length_append,cI,length_take];omega
      have l2:((pd'++TW.be (nds (hs.take j))).map V.int).length≤1000:=by
       have:=TW.eJ (nds (hs.take j));rw[cI,length_take]at this;rw[length_map,length_append];omega
      have g0:∀{Hx:Hp},Same H Hx→Hx z.1=some (.tup (vals z.2)):=λs=>s _ _ (hA z mz);have e4:eW (fd++nds (hs.take (j+1)))=eW (fd++nds (hs.take j))++[.int z.2.num]:=by rw[ez];simp[eW,nds]
      have m5:Mem H (upd H' pf (.lst (eW (fd++nds (hs.take j))++[.int z.2.num]))) d L kvs' zs (x::dn):=m4.other e2 hpf0;have e5:(upd H' pf (.lst (eW (fd++nds (hs.take j))++[.int z.2.num]))) hl=some (.lst (ba hs)):=by rw[ao hlf];exact e1
      have e6:(upd H' pf (.lst (eW (fd++nds (hs.take j))++[.int z.2.num]))) pp=some (.lst ((pd'++TW.be (nds (hs.take j))).map V.int)):=by rw[ao hne];exact e3
      refine⟨_,rfl,.inl ⟨rfl,_,SqL.of e2⟩,_,rfl,z.1,_,_,_,rfl,rfl,SqT.of (g0 m4.same),at0 z.2,pf,_,_,rfl,rfl,e2,z100 l1,?_⟩;refine⟨_,rfl,z.1,_,_,_,rfl,rfl,SqT.of (g0 m5.same),at3 z.2,rfl,_,rfl,?_⟩;cases est:z.2.st with
      |none =>
       have e7:TW.be (nds (hs.take (j+1)))=TW.be (nds (hs.take j))++[z.2.num]:=by rw[ez];simp[TW.be,nds,est]
       refine aQ ⟨_,rfl,.inl ⟨rfl,_,SqL.of e6⟩,_,rfl,z.1,_,_,_,rfl,rfl,SqT.of (g0 m5.same),at0 z.2,pp,_,_,rfl,rfl,e6,aJ l2,?_⟩;refine⟨_,rfl,m5.other e6 hpp0,by rw[ao hlp];exact e5,by rw[ao (symm hne),ac,e4],?_⟩;rw[ac,e7];simp
      |some i =>
       have e7:TW.be (nds (hs.take (j+1)))=TW.be (nds (hs.take j)):=by rw[ez];simp[TW.be,nds,est]
       refine aE ⟨_,rfl,m5,e5,by rw[ac,e4],?_⟩;rw[e6,e7]
     ·obtain⟨on,rfl,m4,e1,e2,e3⟩:=h;rw[cf,take_length]at e2 e3;refine⟨⟨L,kvs',x::dn,_,_,on,_,rfl,?_,m4,wk',e2,e3⟩,?_⟩
      ·have:=TW.eJ (nds hs);rw[cI]at this;rw[length_append,length_append,cI];omega
      show 2*(zs.length-kH H' pf)+kH H' pp<_;rw[ir e2,ir e3,ir ef,ir ep];have:=TW.eJ (nds hs);rw[cI]at this;simp only[eW,length_map,length_append,cI,length_singleton];omega
   ·rintro σ H Q Q' mo ⟨v,e,k,tv,q⟩;exact⟨v,e,k,tv,mo _ _ q⟩
end
end TK
namespace L2
open PySem PySem.Spec PyProof.Rows
section
variable{X:Cx}
theorem iX(i:Int)(h0:-1≤i)(h1:i≤99):(ofString (toString i)).length≤100:=by
 have key:∀n:Fin 101,(ofString (toString (((n.val:Nat):Int)-1))).length≤100:=by decide +kernel
 have:=key ⟨(i+1).toNat,by omega⟩;have e:(((i+1).toNat:Nat):Int)-1=i:=by omega
 rw[e]at this;exact this
theorem uY{e:Expr}{te:TE}{b:Nat}{p:Pos}{ps:List Expr}{t:TJ}(he:PE X e te)(h:PJ X ps b t):PJ X (.FormattedValue e (-1) none p::ps) (100+b) (λσ H k=>te σ H λv H1=>∃i:Int,v=.int i∧-1≤i∧i≤99∧t σ H1 k):=by
 intro out pins s σ H Q I hb hq;refine joinParts_cons (FormattedValue_plain (thn (he pins _ σ H _ I hq) λv s1 hpt=>?_));obtain⟨y,H1,I1,r1,q1⟩:=hpt;obtain⟨i,rfl,h0,h1,q⟩:=q1;obtain⟨tk,rfl⟩:=r1;have h2:=iX i h0 h1;have hl:(out++ofString (toString i)).length=out.length+(ofString (toString i)).length:=strLen_append ..;refine formatField_int_small (lt_of_le_of_lt (Nat.log2_le_self _) (by omega)) ⟨le_of_lt (aJ (by omega)),?_⟩;exact h _ pins _ σ H1 Q (I1.tok _) (by omega) q
theorem fj{e:Expr}{te:TE}{b:Nat}{p:Pos}{ps:List Expr}{t:TJ}(he:PE X e te)(h:PJ X ps b t):PJ X (.FormattedValue e (-1) none p::ps) (100+b) (λσ H k=>te σ H λv H1=>∃i:Int,v=.int i∧0≤i∧i≤99∧t σ H1 k):=by
 intro out pins s σ H Q I hb hq;refine joinParts_cons (FormattedValue_plain (thn (he pins _ σ H _ I hq) λv s1 hpt=>?_));obtain⟨y,H1,I1,r1,q1⟩:=hpt;obtain⟨i,rfl,h0,h1,q⟩:=q1;obtain⟨tk,rfl⟩:=r1;have h2:=iX i (by omega) h1;have hl:(out++ofString (toString i)).length=out.length+(ofString (toString i)).length:=strLen_append ..;refine formatField_int_small (lt_of_le_of_lt (Nat.log2_le_self _) (by omega)) ⟨le_of_lt (aJ (by omega)),?_⟩;exact h _ pins _ σ H1 Q (I1.tok _) (by omega) q
end
end L2
namespace TK
open PySem L2
def cp:TW.Deed Str→Prop
 |.make n p nm _=>1≤n∧n≤99∧0≤p∧p≤99∧nm.length≤100
 |.write n _=>1≤n∧n≤99
 |.move n p nm=>1≤n∧n≤99∧0≤p∧p≤99∧nm.length≤100
 |.drop n=>1≤n∧n≤99
theorem cp.pos{d:TW.Deed Str}(h:cp d):d.pos:=by
 cases d<;>first|exact h.1|trivial
section
variable{P:Program}{w:World}{K:PySem.W.Frag}{mg:Str→Option Value}{base:Heap}
def fG:Sp:=λvs H Q _=>∃t zs,vs=[.ref t]∧H t=some (.tup (ba zs))∧At H zs∧zs.length≤100∧((nds zs).map (·.num)).Nodup∧∀d H',Same H H'→gU H' d zs→Q (.ref d) H'
theorem yJ:FnScope ["tree"] ["tree"] (ah xm):=fsc
theorem xv{f:Addr}{fd:FuncData}(F:Fun K "by_number" "by_number" xm f fd)(T:Txt mg):FnOk P w K mg base CX0 1 f fd ["tree"] fG:=by
 refine F.ok yJ (λvs H Q E h=>?_) (λcdv A outer s H vs Q E hr h=>?_)
 ·obtain⟨t,zs,rfl,_⟩:=h;rfl
 ·obtain⟨t,zs,rfl,ht,hA,hl,hnd,k⟩:=h;refine⟨_,aj (ax (bc (oG rfl) rfl T.dict boot_dict (aa (ik (N:=["node"]) (k:=1) (js:=[]) (g:=bg 0) rfl (eL rfl (by decide +kernel) (by decide +kernel) (by decide +kernel)) rfl (λi j x h=>by simp at h)
   (cS (pv 0)) (λs H fp=>aG (i:=0) (show(["node"]:List Str).Nodup by decide +kernel) rfl (Or.inl rfl) (Or.inr rfl))
   (λs H fp=>bn (aa (av (r:=cw K) aq (pv 0) ai (λ_ _=>rfl)) (aa (pv 0) af)))) af))),?_⟩
  refine⟨_,rfl,t,rfl,⟨_,SqT.of ht⟩,λp hp=>?_⟩;refine sv (fr:=[]) zs.length (by omega) hp rfl (λi y H'=>∃q z,zs[i]?=some z∧y=.ref q∧q≠p∧H' q=some (.tup [.int z.2.num,.ref z.1])) (λi y H1 H2 h ex=>?_) (λi H' hi s1=>?_) (λH' s1=>?_) ?_ (λi H' x H2 hi s1 hpl hy=>?_) (λys H' s1 hp' hlen hys=>?_)
  ·obtain⟨q,z,e1,e2,e3,e4⟩:=h;exact⟨q,z,e1,e2,e3,ex q _ e3 e4⟩
  ·exact⟨_,_,SqT.of (s1 _ _ ht),jz (getElem?_eq_getElem hi)⟩
  ·exact⟨_,SqT.of (s1 _ _ ht),by rw[cf];exact le_refl _⟩
  ·rintro _ _ _ _ m ⟨v1,b1,p1,xs,i1,v2,c1,c2,c3,c4,v3,b3,hz,q⟩;exact⟨v1,b1,p1,xs,i1,v2,c1,c2,c3,c4,v3,b3,hz,λl hl=>m _ _ (q l hl)⟩
  ·obtain⟨rfl,hx⟩:=hy;obtain⟨z,gz,rfl⟩:=cZ (hx _ (SqT.of (s1 _ _ ht)));have mz:=mem_of_getElem? gz;refine⟨rfl,_,rfl,z.1,_,_,_,rfl,rfl,SqT.of (s1 _ _ (hA z mz)),at0 z.2,_,rfl,le2,λq hq=>⟨ag hq,q,z,gz,rfl,dG hpl hq,ac⟩⟩
  ·obtain⟨as,e1,e2,e3⟩:=uW (g:=λz=>[.int z.2.num,.ref z.1]) hlen hys;have e4:as.length=zs.length:=by rw[←e1,length_map]
   have e5:(as.map λa=>((Sum.inl a.2.2.num:Key),V.ref a.2.1))=dH zs:=by rw[←e1];unfold dH;rw[map_map];rfl
   refine⟨p,as.map λa=>(a.1,(Sum.inl a.2.2.num:Key),V.ref a.2.1),rfl,?_,?_,?_,?_,λd o hd=>?_⟩
   ·rw[hp',e2,map_map,map_map,map_map];rfl
   ·intro z hz;obtain⟨a,ha,rfl⟩:=mem_map.mp hz;exact(e3 a ha).2
   ·rw[length_map];omega
   ·rw[map_map];have:(as.map ((λx:Addr×Key×V=>x.2.1)∘λa=>(a.1,(Sum.inl a.2.2.num:Key),V.ref a.2.1)))=((nds zs).map (·.num)).map (Sum.inl:Int→Key):=by
     rw[←e1];unfold nds;simp only[map_map];rfl
    rw[this];unfold Nodup at hnd⊢;rw[pairwise_map];exact hnd.imp λh e=>h (by injection e)
   ·refine k d _ (s1.trans (ag hd)) ⟨o,?_⟩;rw[ac,map_map];exact congrArg (λx=>some (HO.frz o (.dK x))) e5
abbrev sK(mg:Str→Option Value)(base:Heap)(C:Addr):Prop:=PyProof.Rows.OwnCls "NoNode" C bmV "ValueError.__new__" mg base
def jG(C:Addr):Sp:=λvs H Q E=>∃d k zs,vs=[.ref d,.int k]∧gU H d zs∧((nds zs).map (·.num)).Nodup∧0≤k∧k≤99∧(∀z∈zs,z.2.num=k→Q (.ref z.1) H)∧((∀z∈zs,z.2.num≠k)→E (.ref C) none H)
theorem yK:FnScope ["nodes","number"] ["nodes","number"] (ah xn):=fsc
theorem xw{f C:Addr}{fd:FuncData}(F:Fun K "node_of" "node_of" xn f fd)(O:sK mg base C):FnOk P w K mg base (CX1 P w) 1 f fd ["nodes","number"] (jG C):=by
 refine F.okX yK (λvs H Q E h=>?_) (λcdv A outer s H vs Q E hr h=>?_)
 ·obtain⟨d,k,zs,rfl,_⟩:=h;rfl
 ·obtain⟨d,k,zs,rfl,hd,hnd,h0,h1,q1,q2⟩:=h;refine⟨_,ae (aW (cc (cC (aN hr) (pv 1) (pv 0))) (aj (dW cr O hr.hd rfl (fg (di (c:=100) (by decide +kernel) (fj (pv 1) gS)) (by decide)))) aB) (aj (ax (aV (aN hr) (pv 0) (pv 1) (λ_ _=>rfl)))),?_⟩
  by_cases hk:∀z∈zs,z.2.num≠k
  ·refine⟨_,rfl,_,rfl,d,_,rfl,hd.not hk,_,rfl,?_⟩;exact aQ ⟨_,rfl,k,rfl,h0,h1,λy=>⟨au (show 1≤1000 by decide),q2 hk⟩⟩
  ·obtain⟨z,hz,e⟩:∃z∈zs,z.2.num=k:=by
    by_cases h:∃z∈zs,z.2.num=k
    ·exact h
    ·exact absurd (λz hz e=>h ⟨z,hz,e⟩) hk
   subst e;refine⟨_,rfl,_,rfl,d,_,rfl,hd.get hnd hz,_,rfl,?_⟩;exact aE ⟨_,rfl,_,rfl,d,_,rfl,hd.get hnd hz,q1 z hz rfl⟩
def qd(C:Addr):Sp:=λvs H Q E=>∃t k zs,vs=[.ref t,.int k]∧Tre H t zs∧0≤k∧k≤99 ∧
 ((k=0∨∃z∈zs,z.2.num=k)→∀(ms:List Int)(l:Addr)(H':Hp),Same H H'→ms.Pairwise (λa b:Int=>a<b)→ms.length≤zs.length→(∀x,x∈ms↔∃n∈nds zs,n.num=x∧TW.Reach (nds zs) k n)→H' l=some (.lst (ms.map V.int))→Q (.ref l) H') ∧
 (k≠0→(∀z∈zs,z.2.num≠k)→∀H',Same H H'→E (.ref C) none H')
theorem yL:FnScope ["tree","number"] ["tree","number"] (ah xp):=fsc
theorem xx{f C:Addr}{fd:FuncData}(F:Fun K "below" "below" xp f fd)(T:Txt mg)(CB:Has P w K mg base 1 "by_number" ["tree"] fG)(CN:eM P w K mg base 1 "node_of" ["nodes","number"] (jG C))(CI:Has P w K mg base 1 "numbers_inside" ["nodes","folder"] qc):
  FnOk P w K mg base (CX1 P w) 2 f fd ["tree","number"] (qd C):=by
 obtain⟨fB,fdB,GB,mB,kB,bB⟩:=CB;obtain⟨fN,fdN,GN,mN,kN,bN⟩:=CN;obtain⟨fI,fdI,GI,mI,kI,bI⟩:=CI;obtain⟨tt,hT⟩:=T.top;refine F.okX yL (λvs H Q E h=>?_) (λcdv A outer s H vs Q E hr h=>?_)
 ·obtain⟨t,k,zs,rfl,_⟩:=h;rfl
 ·obtain⟨t,k,zs,rfl,tr,h0,h1,q1,q2⟩:=h;have hnd:=aH tr.tr;have hl:=tr.len;refine⟨_,ae (aW (am cU (pv 1) (cb (v:=.int 0) rfl hT ⟨_,rfl⟩) (aw _))
    (aj (bz (ak (E:=E) GN hr rfl mN kN bN .nil (dB cr) (aa (ak GB hr rfl mB kB bB .nil aI (aa (pv 0) af)) (aa (pv 1) af))))) aB)
   (aj (ax (aO cL rfl T.sorted boot_sorted (aa (ak GI hr rfl mI kI bI .nil aI (aa (pv 0) (aa (pv 1) af))) af)))),?_⟩
  have main:∀H1,Same H H1→(k=0∨∃z∈zs,z.2.num=k)→wv (tCB (λxs H Q=>∃l,∃ns:List Int,xs=[.ref l]∧H l=some (.lst (ns.map V.int))∧ns.Nodup∧ns.length<64∧∀ms:List Int,ms.Perm ns→ms.Pairwise (λa b=>a<b)→∀p,H p=none→Q (.ref p) (upd H p (.lst (ms.map V.int))))
    (dy (pF qc [] E0 (dy (iE 0) (dy (iE 1) ly))) ly)) {nx:=λ_ H'=>Q .non H',rt:=Q} [some (.ref t),some (.int k)] H1:=by
   intro H1 s1 hk;refine⟨_,rfl,_,rfl,t,k,zs,rfl,s1 _ _ tr.tup,tr.nod.same s1,by omega,λfd dn l H2 wk el s2=>?_⟩;have hfl:=wk.len;rw[cI]at hfl;refine⟨l,fd.map (λn:Nd=>n.num),rfl,(show H2 l=some (.lst ((fd.map λn:Nd=>n.num).map V.int))from el),rg tr.tr wk,by rw[length_map];omega,λms hp hs p hpn=>?_⟩;refine q1 hk ms p _ ((s1.trans s2).trans (ag hpn)) hs (by rw[hp.length_eq,length_map];exact hfl) (λx=>?_) ac;rw[hp.mem_iff,mem_map];constructor
   ·rintro⟨n,hn,e⟩;have:=(wk.mem n).mp hn;exact⟨n,this.mem,e,this⟩
   ·rintro⟨n,_,e,hr⟩;exact⟨n,(wk.mem n).mpr hr,e⟩
  refine⟨_,rfl,rfl,_,rfl,?_⟩
  by_cases hk0:k=0
  ·have:decide (V.int k=V.int 0)=true:=by simp[hk0]
   rw[this];exact aE (main H (Same.refl _) (.inl hk0))
  ·have:decide (V.int k=V.int 0)=false:=by simp[hk0]
   rw[this];refine aQ ?_;refine⟨_,rfl,t,zs,rfl,tr.tup,tr.nod,by omega,hnd,λd H1 s1 nd1=>?_⟩;refine⟨_,rfl,d,k,zs,rfl,nd1,hnd,h0,h1,λz hz e=>main H1 s1 (.inr ⟨z,hz,e⟩),λhk=>q2 hk0 hk H1 s1⟩
def qe(CN CF:Addr):Sp:=λvs H Q E=>∃d p zs,vs=[.ref d,.int p]∧gU H d zs∧At H zs∧((nds zs).map (·.num)).Nodup∧0≤p∧p≤99 ∧
 (TW.gT (nds zs) p→Q .non H)∧(p≠0→(∀z∈zs,z.2.num≠p)→E (.ref CN) none H)∧(∀z∈zs,z.2.num=p→p≠0→z.2.st≠none→E (.ref CF) none H)
theorem yM:FnScope ["nodes","number"] ["nodes","number"] (ah xo):=fsc
theorem xy{f CN CF:Addr}{fd:FuncData}(F:Fun K "check_folder" "check_folder" xo f fd)(T:Txt mg)(O:nG "NotFolder" mg base CF)(CNo:eM P w K mg base 1 "node_of" ["nodes","number"] (jG CN)):
  FnOk P w K mg base (CX1 P w) 2 f fd ["nodes","number"] (qe CN CF):=by
 obtain⟨fN,fdN,GN,mN,kN,bN⟩:=CNo;obtain⟨tt,hT⟩:=T.top;refine F.okX yM (λvs H Q E h=>?_) (λcdv A outer s H vs Q E hr h=>?_)
 ·obtain⟨d,p,zs,rfl,_⟩:=h;rfl
 ·obtain⟨d,p,zs,rfl,hd,hA,hnd,h0,h1,q1,q2,q3⟩:=h;refine⟨_,aj (aW (PW.pt (pw_and (am cU (pv 1) (cb (v:=.int 0) rfl hT ⟨_,rfl⟩) (aw _)) (pw_and1 (am gB (av aq (ak (E:=E) GN hr rfl mN kN bN .nil (dB cr) (aa (pv 0) (aa (pv 1) af))) ai (λ_ _=>rfl)) bJ (aw _)))))
   (aj (dW cr O hr.hd rfl (fg (di (c:=100) (by decide +kernel) (fj (pv 1) (di (c:=100) (by decide +kernel) gS))) (by decide)))) aB),?_⟩
  refine⟨_,rfl,rfl,_,rfl,?_⟩
  by_cases hp0:p=0
  ·have:decide (V.int p=V.int 0)=true:=by simp[hp0]
   rw[this];exact aE (aE (q1 (.inl hp0)))
  ·have:decide (V.int p=V.int 0)=false:=by simp[hp0]
   rw[this];refine aQ ⟨_,rfl,_,rfl,d,p,zs,rfl,hd,hnd,h0,h1,λz hz e=>?_,λhk=>q2 hp0 hk⟩;refine⟨z.1,_,_,_,rfl,rfl,SqT.of (hA z hz),at3 z.2,rfl,_,rfl,?_⟩;rw[pW];cases hs:z.2.st with
   |none=>exact aE (q1 (.inr ⟨z.2,aA hz,hs,e⟩))
   |some i=>exact aQ ⟨_,rfl,p,rfl,h0,h1,λy=>⟨au (show 1≤1000 by decide),q3 z hz e hp0 (by rw[hs];simp)⟩⟩
def nK(CT:Addr):Sp:=λvs H Q E=>∃t k p nm zs,vs=[.ref t,.int k,.int p,.str nm]∧H t=some (.tup (ba zs))∧At H zs∧0≤p∧p≤99∧nm.length≤100 ∧
 ((∀z∈zs,z.2.num≠k→¬(z.2.par=p∧z.2.nm=nm))→Q .non H)∧(∀z∈zs,z.2.num≠k→z.2.par=p→z.2.nm=nm→E (.ref CT) none H)
theorem vZ:FnScope ["tree","number","parent","name","node"] ["tree","number","parent","name"] (ah xq):=fsc
theorem xz{f CT:Addr}{fd:FuncData}(F:Fun K "check_place" "check_place" xq f fd)(O:nG "Taken" mg base CT):FnOk P w K mg base (CX1 P w) 1 f fd ["tree","number","parent","name"] (nK CT):=by
 refine F.okX vZ (λvs H Q E h=>?_) (λcdv A outer s H vs Q E hr h=>?_)
 ·obtain⟨t,k,p,nm,zs,rfl,_⟩:=h;rfl
 ·obtain⟨t,k,p,nm,zs,rfl,ht,hA,h0,h1,hn,q1,q2⟩:=h;refine⟨_,aj (dh (xb cr) rfl (cS (pv 0)) (aG (i:=4) vZ.nd rfl (Or.inl rfl))
   (aj (aW (PW.pt (pw_and (am cU (av aq (pv 4) ai (λ_ _=>rfl)) (pv 1) (aw _)) (pw_and (am cv (av aq (pv 4) ai (λ_ _=>rfl)) (pv 2) (aw _)) (pw_and1 (am cv (av aq (pv 4) ai (λ_ _=>rfl)) (pv 3) (aw _))))))
    (aj (dW cr O hr.hd rfl (fg (di (c:=100) (by decide +kernel) (fj (pv 2) (di (c:=100) (by decide +kernel) (xa (pv 3) gS)))) (by decide)))) aB))),?_⟩
  refine⟨_,rfl,t,rfl,⟨_,SqT.of ht⟩,hX (xs:=ba zs) (λi σ H'=>(∃on,σ=[some (.ref t),some (.int k),some (.int p),some (.str nm),on])∧H'=H∧∀z∈zs.take i,z.2.num≠k→¬(z.2.par=p∧z.2.nm=nm)) ⟨⟨none,rfl⟩,rfl,by simp⟩ (λi σ H' _ h=>by rw[h.2.1];exact SqT.of ht) (λi x σ H' hx h=>?_) (λσ H' h=>?_)⟩
  ·obtain⟨⟨on,rfl⟩,rfl,hi⟩:=h;obtain⟨z,gz,rfl⟩:=cZ hx;have mz:=mem_of_getElem? gz;have az:SqT K H' z.1 (vals z.2):=SqT.of (hA z mz);have et:zs.take (i+1)=zs.take i++[z]:=bG gz;have nxt:(z.2.num≠k→¬(z.2.par=p∧z.2.nm=nm))→∀y∈zs.take (i+1),y.2.num≠k→¬(y.2.par=p∧y.2.nm=nm):=λhz y hy=>by
    rw[et]at hy;rcases mem_append.mp hy with hy|hy
    ·exact hi y hy
    ·have e:y=z:=by simpa using hy
     subst e;exact hz
   refine⟨_,rfl,z.1,_,_,_,rfl,rfl,az,at0 z.2,_,rfl,rfl,_,rfl,?_⟩
   by_cases hk:z.2.num=k
   ·have e1:(!decide (V.int z.2.num=V.int k))=false:=by simp[hk]
    rw[e1];exact aE (aE ⟨⟨_,rfl⟩,rfl,nxt λh=>absurd hk h⟩)
   ·have e1:(!decide (V.int z.2.num=V.int k))=true:=by simp[hk]
    rw[e1];refine aQ ⟨_,rfl,z.1,_,_,_,rfl,rfl,az,at1 z.2,_,rfl,rfl,_,rfl,?_⟩
    by_cases hp:z.2.par=p
    ·have e2:decide (V.int z.2.par=V.int p)=true:=by simp[hp]
     rw[e2];refine aQ ⟨_,rfl,z.1,_,_,_,rfl,rfl,az,at2 z.2,_,rfl,rfl,_,rfl,?_⟩
     by_cases hm:z.2.nm=nm
     ·have e3:decide (V.str z.2.nm=V.str nm)=true:=by simp[hm]
      rw[e3];exact aQ ⟨_,rfl,p,rfl,h0,h1,_,rfl,nm,rfl,hn,λy=>⟨au (show 1≤1000 by decide),q2 z mz hk hp hm⟩⟩
     ·have e3:decide (V.str z.2.nm=V.str nm)=false:=by simp[hm]
      rw[e3];exact aE ⟨⟨_,rfl⟩,rfl,nxt λ_ h=>hm h.2⟩
    ·have e2:decide (V.int z.2.par=V.int p)=false:=by simp[hp]
     rw[e2];exact aE (aE ⟨⟨_,rfl⟩,rfl,nxt λ_ h=>hp h.1⟩)
  ·obtain⟨_,rfl,hi⟩:=h;rw[cf,take_length]at hi;exact q1 hi
def jH:Sp:=λvs H Q _=>∃t c n zs,vs=[.ref t,.ref c]∧H t=some (.tup (ba zs))∧At H zs∧H c=some (.tup (vals n))∧zs.length≤100∧∀us t' H',Same H H'→H' t'=some (.tup (ba us))→At H' us→nds us=(nds zs).map (TW.put n)→Q (.ref t') H'
theorem xA:FnScope ["tree","changed"] ["tree","changed"] (ah pZ):=fsc
theorem uZ{f:Addr}{fd:FuncData}(F:Fun K "with_node" "with_node" pZ f fd)(T:Txt mg):FnOk P w K mg base CX0 1 f fd ["tree","changed"] jH:=by
 refine F.ok xA (λvs H Q E h=>?_) (λcdv A outer s H vs Q E hr h=>?_)
 ·obtain⟨t,c,n,zs,rfl,_⟩:=h;rfl
 ·obtain⟨t,c,n,zs,rfl,ht,hA,hc,hl,q⟩:=h;refine⟨_,aj (ax (bc cj rfl T.tuple rfl (aa (ik (N:=["node","changed"]) (cl:=[("changed",s.heap.objs.size+1)]) (k:=1) (js:=[1]) (g:=bg 0) rfl
    (LcOk.mk' ["changed"] rfl rfl (by decide +kernel) (by decide +kernel) ?hcl rfl (by decide +kernel)) rfl ?hj (cS (pv 0)) (λs H fp=>aG (i:=0) (show(["node","changed"]:List Str).Nodup by decide +kernel) rfl (Or.inl rfl) (Or.inr rfl))
    (λs H fp=>jm (am cv (av (r:=cw K) aq (pv 0) ai (λ_ _=>rfl)) (av (r:=cw K) aq (pv 1) ai (λ_ _=>rfl)) (aw _)) (pv 1) (pv 0))) af))),?_⟩
  case hcl =>
   intro y hy;rcases mem_cons.mp hy with e|hy
   ·rw[e];rfl
   ·cases hy
  case hj =>
   intro i j x h1 h2
   match i,h1,h2 with
   |0,h1,h2 =>
    cases h1;cases h2;exact⟨rfl,Or.inr (Or.inl rfl),(show((ah pZ).names.lookup ("changed":Str)≠some NameKind.local)by decide +kernel),by first|exact Or.inl rfl|exact Or.inr rfl⟩
   |i+1,h1,h2=>simp at h1
  refine⟨_,rfl,t,rfl,⟨_,SqT.of ht⟩,λp hp=>?_⟩;refine eI (fr:=[some (.ref c)]) zs (λz=>V.ref z.1) (by omega) hp (eG (by rw[cg];exact SqT.of ht)) rfl (λz y H'=>y=.ref (if z.2.num=n.num then c else z.1)) (λz y H H' h _=>h) (λz H' k mz s1 _ hk=>?_) (λys H' s1 hp' hys=>?_)
  ·refine⟨_,rfl,z.1,_,_,_,rfl,rfl,SqT.of (s1 _ _ (hA z mz)),at0 z.2,_,rfl,c,_,_,_,rfl,rfl,SqT.of (s1 _ _ hc),at0 n,rfl,_,rfl,?_⟩
   by_cases e:z.2.num=n.num
   ·have e1:decide (V.int z.2.num=V.int n.num)=true:=by simp[e]
    rw[e1];exact aQ ⟨_,rfl,hk _ H' (Same.refl _) (by rw[if_pos e])⟩
   ·have e1:decide (V.int z.2.num=V.int n.num)=false:=by simp[e]
    rw[e1];exact aE ⟨_,rfl,hk _ H' (Same.refl _) (by rw[if_neg e])⟩
  ·have ey:=aY (f:=λz:Addr×Nd=>V.ref (if z.2.num=n.num then c else z.1)) hys (λz y _ h=>h);refine⟨p,_,rfl,.inl ⟨SqL.of hp',λl hl'=>?_⟩⟩;have er:ba (zs.map λz=>if z.2.num=n.num then (c,n)else z)=ys:=by
    rw[ey,←cg,map_map];apply map_congr_left;intro z _;show V.ref (if z.2.num=n.num then (c,n)else z).1=_
    by_cases e:z.2.num=n.num
    ·rw[if_pos e,if_pos e]
    ·rw[if_neg e,if_neg e]
   refine q (zs.map λz=>if z.2.num=n.num then (c,n)else z) l _ (s1.trans (ag hl')) (by rw[er];exact ac) (λy hy=>?_) ?_
   ·obtain⟨z,mz,rfl⟩:=mem_map.mp hy
    by_cases e:z.2.num=n.num
    ·rw[if_pos e];exact(s1.trans (ag hl')) _ _ hc
    ·rw[if_neg e];exact(s1.trans (ag hl')) _ _ (hA z mz)
   ·unfold nds;rw[map_map,map_map];apply map_congr_left;intro z _;show(if z.2.num=n.num then (c,n)else z).2=TW.put n z.2
    unfold TW.put
    by_cases e:z.2.num=n.num
    ·rw[if_pos e,if_pos e]
    ·rw[if_neg e,if_neg e]
def oO(cls:TW.Wd→Addr):Sp:=λvs H Q E=>∃t n p nm st zs,vs=[.ref t,.int n,.int p,.str nm,stV st]∧Tre H t zs∧zs.length≤29∧cp (.make n p nm st)∧Outs H (nds zs) (.make n p nm st) cls Q E
theorem sL:FnScope ["tree","number","parent","name","stamp","nodes"] ["tree","number","parent","name","stamp"] (ah sC):=fsc
theorem va{f:Addr}{fd:FuncData}{cls:TW.Wd→Addr}(F:Fun K "make" "make" sC f fd)(T:Txt mg)(O:uX mg base cls)(CB:Has P w K mg base 1 "by_number" ["tree"] fG)(CF:eM P w K mg base 2 "check_folder" ["nodes","number"] (qe (cls .noNode) (cls .notFolder)))(CL:eM P w K mg base 1 "check_place" ["tree","number","parent","name"] (nK (cls .taken))):FnOk P w K mg base (CX1 P w) 3 f fd ["tree","number","parent","name","stamp"] (oO cls):=by
 obtain⟨fB,fdB,GB,mB,kB,bB⟩:=CB;obtain⟨fF,fdF,GF,mF,kF,bF⟩:=CF;obtain⟨fL,fdL,GL,mL,kL,bL⟩:=CL;refine F.okX sL (λvs H Q E h=>?_) (λcdv A outer s H vs Q E hr h=>?_)
 ·obtain⟨t,n,p,nm,st,zs,rfl,_⟩:=h;rfl
 ·obtain⟨t,n,p,nm,st,zs,rfl,tr,hl,⟨hn1,hn2,hp1,hp2,hnm⟩,o⟩:=h;have hr1:Room 1 _:=hr.mono (by decide);have hnd:=aH tr.tr;refine⟨_,ae (ap (i:=5) sL.nd rfl (Or.inl rfl) (ak GB hr1 rfl mB kB bB .nil aI (aa (pv 0) af)))
   (ae (aW (cc (dF (aN hr) (pv 1) (pv 5))) (aj (dW cr (O .known) hr.hd rfl (fg (di (c:=100) (by decide +kernel) (fj (pv 1) gS)) (by decide)))) aB)
   (ae (bz (ak (E:=E) GF hr rfl mF kF bF .nil (dB cr) (aa (pv 5) (aa (pv 2) af))))
   (ae (bz (ak (E:=E) GL hr1 rfl mL kL bL .nil (dB cr) (aa (pv 0) (aa (pv 1) (aa (pv 2) (aa (pv 3) af))))))
   (aj (ax (bc cj rfl T.tuple rfl (aa (aO cH rfl T.sorted boot_sorted (aa (aK (nc.or dm) (pv 0) (bn (aa (bn (aa (pv 1) (aa (pv 2) (aa (pv 3) (aa (pv 4) af))))) af))) af)) af))))))),?_⟩
  refine⟨_,rfl,t,zs,rfl,tr.tup,tr.nod,by omega,hnd,λd H1 s1 nd1=>?_⟩
  by_cases hk:∃z∈zs,z.2.num=n
  ·obtain⟨z,hz,e⟩:=hk;subst e;exact⟨_,rfl,_,rfl,d,_,rfl,nd1.get hnd hz,_,rfl,aQ ⟨_,rfl,_,rfl,by omega,hn2,λy=>⟨au (show 1≤1000 by decide),o.no .known H1 s1 (.mKnown (cR hz rfl))⟩⟩⟩
  ·have hno:=cz hk;refine⟨_,rfl,_,rfl,d,_,rfl,nd1.not (λz hz e=>hk ⟨z,hz,e⟩),_,rfl,aE ?_⟩;refine⟨_,rfl,_,rfl,d,p,zs,rfl,nd1,tr.nod.same s1,hnd,hp1,hp2,λhF=>?_,λh0 hz=>o.no .noNode H1 s1 (.mNo hno h0 (cz λ⟨z,hz',e⟩=>hz z hz' e)),λz hz e h0 hs=>o.no .notFolder H1 s1 (.mFile hno h0 (aA hz) e hs)⟩;refine⟨_,rfl,_,rfl,_,rfl,_,rfl,t,n,p,nm,zs,rfl,s1 _ _ tr.tup,tr.nod.same s1,hp1,hp2,hnm,λhfree=>?_,λz hz _ e1 e2=>o.no .taken H1 s1 (.mTaken hno hF (aA hz) e1 e2)⟩;refine⟨_,rfl,_,rfl,_,rfl,_,rfl,_,rfl,(show 4≤sizeLine from au (by decide)),λq hq=>⟨(show 1≤sizeLine from au (by decide)),λc hc=>?_⟩⟩;have s2:Same H1 (upd (upd H1 q (.tup [.int n,.int p,.str nm,stV st])) c (.tup [.ref q])):=(ag hq).trans (ag hc);have gq:upd (upd H1 q (.tup [.int n,.int p,.str nm,stV st])) c (.tup [.ref q]) q=some (.tup (vals ⟨n,p,nm,st⟩)):=bj hc ac;have gc:upd (upd H1 q (.tup [.int n,.int p,.str nm,stV st])) c (.tup [.ref q]) c=some (.tup [.ref q]):=ac;generalize upd (upd H1 q (.tup [.int n,.int p,.str nm,stV st])) c (.tup [.ref q])=H2 at s2 gq gc⊢;have fin:∀(l:Addr)(H3:Hp),Same H2 H3→SqT K H3 l (ba (zs++[(q,⟨n,p,nm,st⟩)]))→tCB (λxs H Q=>∃l,∃zs:List io,xs=[.ref l]∧(SqL K H l ((zs.map (·.1)).map V.ref)∨SqT K H l ((zs.map (·.1)).map V.ref))∧(∀z∈zs,H z.1=some (.tup (.int z.2.1::z.2.2)))∧(zs.map (·.2.1)).Nodup∧zs.length<64 ∧
     ∀zs':List io,zs'.Perm zs→zs'.Pairwise (λa b=>a.2.1<b.2.1)→∀p,H p=none→Q (.ref p) (upd H p (.lst ((zs'.map (·.1)).map V.ref)))) (dy (tC (.ref l)) ly) [] H3 (λx H1=>(λxs H Q=>∃p ys,xs=[V.ref p]∧((SqL K H p ys∧∀l,H l=none→Q (V.ref l) (upd H l (.tup ys)))∨(SqT K H p ys∧Q (.ref p) H))) [x] H1 Q):=by
    intro l H3 s3 hl3;have s123:=(s1.trans s2).trans s3;refine gk (.inr hl3) (λz hz=>?_) ?_ (by rw[length_append];simp;omega) (λus t' H' s' ht' hA' hp hrise=>?_)
    ·rcases mem_append.mp hz with h|h
     ·exact s123 _ _ (tr.nod z h)
     ·have e:z=(q,⟨n,p,nm,st⟩):=by simpa using h
      subst e;exact s3 _ _ gq
    ·have e:(nds (zs++[(q,(⟨n,p,nm,st⟩:Nd))])).map (·.num)=(nds zs).map (·.num)++[n]:=by simp[nds]
     rw[e,nodup_append];refine⟨hnd,by simp,λa ha b hb e=>?_⟩;have eb:b=n:=by simpa using hb
     obtain⟨m,hm,em⟩:=mem_map.mp ha;exact hno ⟨m,hm,by rw[em,e,eb]⟩
    ·refine o.ok us t' H' (s123.trans s') ht' hA' (.made hno hF (λm hm=>?_) ?_ hrise)
     ·obtain⟨z,hz,rfl⟩:=bf hm;exact hfree z hz λe=>hno ⟨z.2,hm,e⟩
     ·have:(nds us).Perm (nds (zs++[(q,⟨n,p,nm,st⟩)])):=hp.map _;refine this.trans ?_;unfold nds;rw[map_append];exact List.perm_append_comm
   by_cases hz:zs=[]
   ·subst hz;exact .inl ⟨t,c,_,rfl,rfl,SqT.of ((s1.trans s2) _ _ tr.tup),SqT.of gc,fin c H2 (Same.refl _) (SqT.of gc)⟩
   ·refine .inr ⟨t,c,_,_,rfl,rfl,SqT.of ((s1.trans s2) _ _ tr.tup),SqT.of gc,?_,?_,λh=>absurd h (cons_ne_nil _ _),λ_ l hl3=>fin l _ (ag hl3) (by rw[iL];exact SqT.of ac)⟩
    ·intro e;exact hz (sy e)
    ·rw[cf];exact au (by show zs.length+1≤1000;omega)
def lP(cls:TW.Wd→Addr):Sp:=λvs H Q E=>∃t n st zs,vs=[.ref t,.int n,.int st]∧Tre H t zs∧cp (.write n st)∧Outs H (nds zs) (.write n st) cls Q E
theorem qf:FnScope ["tree","number","stamp","node"] ["tree","number","stamp"] (ah oK):=fsc
theorem sM{f:Addr}{fd:FuncData}{cls:TW.Wd→Addr}(F:Fun K "write" "write" oK f fd)(O:uX mg base cls)(CB:Has P w K mg base 1 "by_number" ["tree"] fG)(CN:eM P w K mg base 1 "node_of" ["nodes","number"] (jG (cls .noNode)))(CW:Has P w K mg base 1 "with_node" ["tree","changed"] jH):FnOk P w K mg base (CX1 P w) 2 f fd ["tree","number","stamp"] (lP cls):=by
 obtain⟨fB,fdB,GB,mB,kB,bB⟩:=CB;obtain⟨fN,fdN,GN,mN,kN,bN⟩:=CN;obtain⟨fW,fdW,GW,mW,kW,bW⟩:=CW;refine F.okX qf (λvs H Q E h=>?_) (λcdv A outer s H vs Q E hr h=>?_)
 ·obtain⟨t,n,st,zs,rfl,_⟩:=h;rfl
 ·obtain⟨t,n,st,zs,rfl,tr,⟨hn1,hn2⟩,o⟩:=h;have hnd:=aH tr.tr;have hl:=tr.len;refine⟨_,ae (ap (i:=3) qf.nd rfl (Or.inl rfl) (ak (E:=E) GN hr rfl mN kN bN .nil (dB cr) (aa (ak GB hr rfl mB kB bB .nil aI (aa (pv 0) af)) (aa (pv 1) af))))
   (ae (aW (am eK (av aq (pv 3) ai (λ_ _=>rfl)) bJ (aw _)) (aj (dW cr (O .notFile) hr.hd rfl (fg (di (c:=100) (by decide +kernel) (fj (pv 1) (di (c:=100) (by decide +kernel) gS))) (by decide)))) aB)
   (aj (ax (ak GW hr rfl mW kW bW .nil aI (aa (pv 0) (aa (bn (aa (pv 1) (aa (av aq (pv 3) ai (λ_ _=>rfl)) (aa (av aq (pv 3) ai (λ_ _=>rfl)) (aa (pv 2) af))))) af)))))),?_⟩
  refine⟨_,rfl,t,zs,rfl,tr.tup,tr.nod,by omega,hnd,λd H1 s1 nd1=>?_⟩;refine⟨_,rfl,d,n,zs,rfl,nd1,hnd,by omega,hn2,λz hz e=>?_,λhk=>o.no .noNode H1 s1 (.wNo (cz λ⟨z,hz,e⟩=>hk z hz e))⟩;subst e;have az:SqT K H1 z.1 (vals z.2):=SqT.of (s1 _ _ (tr.nod z hz));refine⟨_,rfl,z.1,_,_,_,rfl,rfl,az,at3 z.2,rfl,_,rfl,?_⟩;cases hs:z.2.st with
  |none=>exact aQ ⟨_,rfl,_,rfl,by omega,hn2,λy=>⟨au (show 1≤1000 by decide),o.no .notFile H1 s1 (.wFold (aA hz) rfl hs)⟩⟩
  |some i =>
   refine aE ⟨_,rfl,_,rfl,_,rfl,z.1,_,_,_,rfl,rfl,az,at1 z.2,_,rfl,z.1,_,_,_,rfl,rfl,az,at2 z.2,_,rfl,(show 4≤sizeLine from au (by decide)),λc hc=>?_⟩;have s2:=s1.trans (ag (o:=.tup [.int z.2.num,.int z.2.par,.str z.2.nm,.int st]) hc);refine⟨t,c,⟨z.2.num,z.2.par,z.2.nm,some st⟩,zs,rfl,s2 _ _ tr.tup,tr.nod.same s2,ac,by omega,λus t' H' s' ht' hA' e=>o.ok us t' H' (s2.trans s') ht' hA' ?_⟩;rw[e];exact .wrote (aA hz) rfl (by rw[hs];simp)
def oP(cls:TW.Wd→Addr):Sp:=λvs H Q E=>∃t n p nm zs,vs=[.ref t,.int n,.int p,.str nm]∧Tre H t zs∧cp (.move n p nm)∧Outs H (nds zs) (.move n p nm) cls Q E
theorem oQ:FnScope ["tree","number","parent","name","nodes","node"] ["tree","number","parent","name"] (ah sD):=fsc
theorem vb{f:Addr}{fd:FuncData}{cls:TW.Wd→Addr}(F:Fun K "move" "move" sD f fd)(O:uX mg base cls)(CB:Has P w K mg base 1 "by_number" ["tree"] fG)(CN:eM P w K mg base 1 "node_of" ["nodes","number"] (jG (cls .noNode)))(CF:eM P w K mg base 2 "check_folder" ["nodes","number"] (qe (cls .noNode) (cls .notFolder)))(CE:eM P w K mg base 2 "below" ["tree","number"] (qd (cls .noNode)))(CL:eM P w K mg base 1 "check_place" ["tree","number","parent","name"] (nK (cls .taken)))(CW:Has P w K mg base 1 "with_node" ["tree","changed"] jH):FnOk P w K mg base (CX1 P w) 3 f fd ["tree","number","parent","name"] (oP cls):=by
 obtain⟨fB,fdB,GB,mB,kB,bB⟩:=CB;obtain⟨fN,fdN,GN,mN,kN,bN⟩:=CN;obtain⟨fF,fdF,GF,mF,kF,bF⟩:=CF;obtain⟨fE,fdE,GE,mE,kE,bE⟩:=CE;obtain⟨fL,fdL,GL,mL,kL,bL⟩:=CL;obtain⟨fW,fdW,GW,mW,kW,bW⟩:=CW;refine F.okX oQ (λvs H Q E h=>?_) (λcdv A outer s H vs Q E hr h=>?_)
 ·obtain⟨t,n,p,nm,zs,rfl,_⟩:=h;rfl
 ·obtain⟨t,n,p,nm,zs,rfl,tr,⟨hn1,hn2,hp1,hp2,hnm⟩,o⟩:=h;have hnd:=aH tr.tr;have hl:=tr.len;have hT:=tr.tr;have hr1:Room 1 _:=hr.mono (by decide);refine⟨_,ae (ap (i:=4) oQ.nd rfl (Or.inl rfl) (ak GB hr1 rfl mB kB bB .nil aI (aa (pv 0) af)))
   (ae (ap (i:=5) oQ.nd rfl (Or.inl rfl) (ak (E:=E) GN hr1 rfl mN kN bN .nil (dB cr) (aa (pv 4) (aa (pv 1) af))))
   (ae (bz (ak (E:=E) GF hr rfl mF kF bF .nil (dB cr) (aa (pv 4) (aa (pv 2) af))))
   (ae (aW (PW.pt (pw_or (am cv (pv 2) (pv 1) (aw _)) (pw_or1 (am ki (pv 2) (ak (E:=E) GE hr rfl mE kE bE .nil (dB cr) (aa (pv 0) (aa (pv 1) af))) rfl))))
    (aj (dW cr (O .inside) hr.hd rfl (fg (di (c:=100) (by decide +kernel) (fj (pv 2) (di (c:=100) (by decide +kernel) (fj (pv 1) (di (c:=100) (by decide +kernel) gS))))) (by decide)))) aB)
   (ae (bz (ak (E:=E) GL hr1 rfl mL kL bL .nil (dB cr) (aa (pv 0) (aa (pv 1) (aa (pv 2) (aa (pv 3) af))))))
   (aj (ax (ak GW hr1 rfl mW kW bW .nil aI (aa (pv 0) (aa (bn (aa (pv 1) (aa (pv 2) (aa (pv 3) (aa (av aq (pv 5) ai (λ_ _=>rfl)) af))))) af))))))))),?_⟩
  refine⟨_,rfl,t,zs,rfl,tr.tup,tr.nod,by omega,hnd,λd H1 s1 nd1=>?_⟩;refine⟨_,rfl,_,rfl,d,n,zs,rfl,nd1,hnd,by omega,hn2,λz hz e=>?_,λhk=>o.no .noNode H1 s1 (.vNo (cz λ⟨z,hz,e⟩=>hk z hz e))⟩;subst e;have hh:TW.aM (nds zs) z.2.num:=cR hz rfl;refine⟨_,rfl,_,rfl,d,p,zs,rfl,nd1,tr.nod.same s1,hnd,hp1,hp2,λhF=>?_,λh0 hk=>o.no .noNode H1 s1 (.vNoP hh h0 (cz λ⟨y,hy,e⟩=>hk y hy e)),λy hy e h0 hs=>o.no .notFolder H1 s1 (.vFile hh h0 (aA hy) e hs)⟩;have insd:∀H2,Same H1 H2→p≠0→TW.Und (nds zs) z.2.num p→∀y:Str,E (.ref (cls .inside)) none H2:=λH2 s2 h0 hu _=>o.no .inside H2 (s1.trans s2) (.vIn hh hF h0 hu);have rest:∀H2,Same H1 H2→(p≠0→¬TW.Und (nds zs) z.2.num p)→iY (vR (pF (nK (cls .taken)) [] E (dy (iE 0) (dy (iE 1) (dy (iE 2) (dy (iE 3) ly)))))) (wv (pF jH [] E0 (dy (iE 0) (dy (yv (dy (iE 1) (dy (iE 2) (dy (iE 3) (dy (tOp (cw K) (iE 5) (tC (.int 3))) ly))))) ly))))
    {nx:=λ_ H'=>Q .non H',rt:=Q} [some (.ref t),some (.int z.2.num),some (.int p),some (.str nm),some (.ref d),some (.ref z.1)] H2:=by
   intro H2 s2 hu;have s12:=s1.trans s2;refine⟨_,rfl,_,rfl,_,rfl,_,rfl,t,z.2.num,p,nm,zs,rfl,s12 _ _ tr.tup,tr.nod.same s12,hp1,hp2,hnm,λhfree=>?_,λy hy hne e1 e2=>o.no .taken H2 s12 (.vTaken hh hF hu (aA hy) hne e1 e2)⟩;refine⟨_,rfl,_,rfl,_,rfl,_,rfl,_,rfl,z.1,_,_,_,rfl,rfl,SqT.of (s12 _ _ (tr.nod z hz)),at3 z.2,(show 4≤sizeLine from au (by decide)),λc hc=>?_⟩;have s3:=s12.trans (ag (o:=.tup [.int z.2.num,.int p,.str nm,stV z.2.st]) hc);refine⟨t,c,⟨z.2.num,p,nm,z.2.st⟩,zs,rfl,s3 _ _ tr.tup,tr.nod.same s3,ac,by omega,λus t' H' s' ht' hA' e=>o.ok us t' H' (s3.trans s') ht' hA' ?_⟩;rw[e];refine .moved (aA hz) rfl hF hu λm hm hne h=>?_;obtain⟨y,hy,rfl⟩:=bf hm;exact hfree y hy hne h
  refine⟨_,rfl,_,rfl,rfl,_,rfl,?_⟩
  by_cases hpn:p=z.2.num
  ·have e1:decide (V.int p=V.int z.2.num)=true:=by simp[hpn]
   rw[e1];exact aQ (aQ ⟨_,rfl,p,rfl,hp1,hp2,_,rfl,_,rfl,by omega,hn2,λy=>⟨au (show 1≤1000 by decide),insd H1 (Same.refl _) (by omega) (by rw[hpn];exact .here) y⟩⟩)
  ·have e1:decide (V.int p=V.int z.2.num)=false:=by simp[hpn]
   rw[e1];refine aE ⟨_,rfl,_,rfl,_,rfl,t,z.2.num,zs,rfl,tr.same s1,by omega,hn2,λ_ ms l H2 s2 hms _ hm hl2=>?_,λh0 hk=>absurd rfl (hk z hz)⟩;refine⟨l,_,rfl,.inl (SqL.of hl2),rfl,iK ms,_,rfl,?_⟩;show if (inV (.int p) (ms.map V.int))=true then _ else _
   rw[lK]
   by_cases hin:p∈ms
   ·rw[decide_eq_true hin];obtain⟨m,hm1,hm2,hm3⟩:=(hm p).mp hin;have hu:TW.Und (nds zs) z.2.num p:=by rw[←hm2];exact((TW.dR hT hn1 hm1).mp hm3).2
    have h0:p≠0:=by have:=hT.pos m hm1;omega
    exact aQ ⟨_,rfl,p,rfl,hp1,hp2,_,rfl,_,rfl,by omega,hn2,λy=>⟨au (show 1≤1000 by decide),insd H2 s2 h0 hu y⟩⟩
   ·rw[decide_eq_false hin];refine aE (rest H2 s2 λh0 hu=>?_);rcases hF with e|⟨m,hm1,hm2,hm3⟩
    ·exact h0 e
    ·refine hin ((hm p).mpr ⟨m,hm1,hm3,(TW.dR hT hn1 hm1).mpr ⟨by rw[hm3];exact hpn,by rw[hm3];exact hu⟩⟩)
def oR(cls:TW.Wd→Addr):Sp:=λvs H Q E=>∃t n zs,vs=[.ref t,.int n]∧Tre H t zs∧cp (.drop n)∧Outs H (nds zs) (.drop n) cls Q E
theorem sN:FnScope ["tree","number","gone"] ["tree","number"] (ah qb):=fsc
def nL(n:Int)(ms:List Int)(m:Nd):Bool:=!decide (m.num=n∨m.num∈ms)
theorem vc{f:Addr}{fd:FuncData}{cls:TW.Wd→Addr}(F:Fun K "drop" "drop" qb f fd)(T:Txt mg)(CB:Has P w K mg base 1 "by_number" ["tree"] fG)(CN:eM P w K mg base 1 "node_of" ["nodes","number"] (jG (cls .noNode)))(CE:eM P w K mg base 2 "below" ["tree","number"] (qd (cls .noNode))):FnOk P w K mg base (CX1 P w) 3 f fd ["tree","number"] (oR cls):=by
 obtain⟨fB,fdB,GB,mB,kB,bB⟩:=CB;obtain⟨fN,fdN,GN,mN,kN,bN⟩:=CN;obtain⟨fE,fdE,GE,mE,kE,bE⟩:=CE;refine F.okX sN (λvs H Q E h=>?_) (λcdv A outer s H vs Q E hr h=>?_)
 ·obtain⟨t,n,zs,rfl,_⟩:=h;rfl
 ·obtain⟨t,n,zs,rfl,tr,⟨hn1,hn2⟩,o⟩:=h;have hnd:=aH tr.tr;have hl:=tr.len;have hT:=tr.tr;have hr1:Room 1 _:=hr.mono (by decide);refine⟨_,ae (bz (ak (E:=E) GN hr1 rfl mN kN bN .nil (dB cr) (aa (ak GB hr1 rfl mB kB bB .nil aI (aa (pv 0) af)) (aa (pv 1) af))))
   (ae (ap (i:=2) sN.nd rfl (Or.inr rfl) (bc (fZ rfl) rfl T.dict boot_dict (aa (ik (N:=["inner"]) (k:=1) (js:=[]) (g:=bg 0) rfl (eL rfl (by decide +kernel) (by decide +kernel) (by decide +kernel)) rfl (λi j x h=>by simp at h)
    (ce (ak (E:=E) GE hr rfl mE kE bE .nil (dB cr) (aa (pv 0) (aa (pv 1) af)))) (λs H fp=>aG (i:=0) (show(["inner"]:List Str).Nodup by decide +kernel) rfl (Or.inl rfl) (Or.inr rfl))
    (λs H fp=>bn (aa (pv 0) (aa gJ af)))) af)))
   (ae (ie (aN hr) (pv 2) (pv 1) gJ rfl)
   (aj (ax (bc cj rfl T.tuple rfl (aa (cY (N:=["node","gone"]) (cl:=[("gone",s.heap.objs.size+1)]) (k:=1) (js:=[2]) (g:=bg 0) rfl
    (LcOk.mk' ["gone"] rfl rfl (by decide +kernel) (by decide +kernel) ?hcl rfl (by decide +kernel)) rfl ?hj (cS (pv 0)) (λs H fp=>aG (i:=0) (show(["node","gone"]:List Str).Nodup by decide +kernel) rfl (Or.inl rfl) (Or.inr rfl))
    (λs H fp=>cc (cC (aN hr) (av (r:=cw K) aq (pv 0) ai (λ_ _=>rfl)) (pv 1))) (λs H fp=>pv 0)) af)))))),?_⟩
  case hcl =>
   intro y hy;rcases mem_cons.mp hy with e|hy
   ·rw[e];rfl
   ·cases hy
  case hj =>
   intro i j x h1 h2
   match i,h1,h2 with
   |0,h1,h2 =>
    cases h1;cases h2;exact⟨rfl,Or.inr (Or.inl rfl),(show((ah qb).names.lookup ("gone":Str)≠some NameKind.local)by decide +kernel),by first|exact Or.inl rfl|exact Or.inr rfl⟩
   |i+1,h1,h2=>simp at h1
  refine⟨_,rfl,t,zs,rfl,tr.tup,tr.nod,by omega,hnd,λd H1 s1 nd1=>?_⟩;refine⟨_,rfl,d,n,zs,rfl,nd1,hnd,by omega,hn2,λz hz e=>?_,λhk=>o.no .noNode H1 s1 (.dNo (cz λ⟨z,hz,e⟩=>hk z hz e))⟩;refine⟨_,rfl,_,rfl,t,n,zs,rfl,tr.same s1,by omega,hn2,λ_ ms l H2 s2 hms hml0 hm hl2=>?_,λh0 hk=>absurd e (hk z hz)⟩;have hml:ms.length≤1000:=by omega
  refine⟨l,rfl,⟨_,SqL.of hl2⟩,λp hp=>?_⟩;refine eI (fr:=[]) ms V.int hml hp (dq (SqL.of hl2)) rfl (λm y H'=>∃q,y=.ref q∧q≠p∧H' q=some (.tup [.int m,.bl true])) (λm y H H' ⟨q,e,ne,h⟩ ex=>⟨q,e,ne,ex q _ ne h⟩) (λm H' k _ s3 hpl hk=>?_) (λys H3 s3 hp3 hys=>?_)
  ·exact⟨_,rfl,le2,λq hq=>hk _ _ (ag hq) ⟨q,rfl,dG hpl hq,ac⟩⟩
  ·obtain⟨bs,e1,e2,e3⟩:=cM (val:=V.ref) (S:=λ(m:Int) (q:Addr)=>H3 q=some (.tup [.int m,.bl true])) hys (λm y _ ⟨q,e,_,h⟩=>⟨q,e,h⟩);have s123:=(s1.trans s2).trans s3;have hbl:bs.length=ms.length:=by rw[←e1,length_map]
   refine⟨p,bs.map λx=>(x.2,(Sum.inl x.1:Key),V.bl true),rfl,by rw[hp3,e2,map_map,map_map];rfl,λy hy=>?_,by rw[length_map];omega,?_,λg hg=>?_⟩
   ·obtain⟨x,hx,rfl⟩:=mem_map.mp hy;exact e3 x hx
   ·rw[map_map];have:(bs.map ((λx:Addr×Key×V=>x.2.1)∘λx=>(x.2,(Sum.inl x.1:Key),V.bl true)))=ms.map (Sum.inl:Int→Key):=by rw[←e1,map_map];rfl
    rw[this];unfold Nodup;rw[pairwise_map];exact hms.imp λh e=>by injection e with e;omega
   ·have ekv:(bs.map λx=>(x.2,(Sum.inl x.1:Key),V.bl true)).map (·.2)=ms.map λm=>((Sum.inl m:Key),V.bl true):=by rw[←e1,map_map,map_map];rfl
    rw[ekv];have s4:=s123.trans (ag (o:=.dK (ms.map λm=>((Sum.inl m:Key),V.bl true))) hg);have s5:Same H (upd (upd H3 g (.dK (ms.map λm=>((Sum.inl m:Key),V.bl true)))) g (.dK (cx (ms.map λm=>((Sum.inl m:Key),V.bl true)) (Sum.inl n:Key) (.bl true)))):=aS (s123.free hg) s4;refine⟨_,rfl,_,rfl,g,_,rfl,jT.k (k:=Sum.inl n) ac (aJ (by rw[length_map];exact hml)),?_⟩;have hgo:(upd (upd H3 g (.dK (ms.map λm=>((Sum.inl m:Key),V.bl true)))) g (.dK (cx (ms.map λm=>((Sum.inl m:Key),V.bl true)) (Sum.inl n:Key) (.bl true)))) g=some (.dK (cx (ms.map λm=>((Sum.inl m:Key),V.bl true)) (Sum.inl n:Key) (.bl true))):=ac;generalize upd (upd H3 g (.dK (ms.map λm=>((Sum.inl m:Key),V.bl true)))) g (.dK (cx (ms.map λm=>((Sum.inl m:Key),V.bl true)) (Sum.inl n:Key) (.bl true)))=H5 at s5 hgo⊢;have hval:∀k:Int,(!(br (cx (ms.map λm=>((Sum.inl m:Key),V.bl true)) (Sum.inl n:Key) (.bl true)) (Sum.inl k:Key)).isSome) = !decide (k=n∨k∈ms):=λk=>by
     rw[fX]
     by_cases e:k=n
     ·subst e;simp
     ·have e':¬(Sum.inl k:Key)=Sum.inl n:=λh=>e (by injection h);rw[if_neg e']
      by_cases hk:k∈ms
      ·have:br (ms.map λm=>((Sum.inl m:Key),V.bl true)) (Sum.inl k:Key)=some (.bl true):=by
        refine iu ?_ (mem_map.mpr ⟨k,hk,rfl⟩);rw[map_map];unfold Nodup;rw[pairwise_map];exact hms.imp λh e=>by injection e with e;omega
       rw[this];simp[hk]
      ·have:br (ms.map λm=>((Sum.inl m:Key),V.bl true)) (Sum.inl k:Key)=none:=by
        refine lM λhx=>hk ?_;rw[map_map]at hx;obtain⟨m,hm',e⟩:=mem_map.mp hx;injection e with e
        rw[←e];exact hm'
       rw[this];simp[e,hk]
    refine⟨_,rfl,t,rfl,⟨_,SqT.of (s5 _ _ tr.tup)⟩,λp2 hp2=>?_⟩;refine cy (fr:=[some (.ref g)]) zs (λz=>V.ref z.1) (by omega) hp2 (eG (by rw[cg];exact SqT.of (s5 _ _ tr.tup))) rfl (λz=>nL n ms z.2) (λz y _=>y=.ref z.1) (λz y H H' h _=>h) (λz H' k mz s6 _ hk=>?_) (λz H' k mz _ s6 _ hk=>?_) (λys H6 s6 hp6 hys=>?_)
    ·refine⟨_,rfl,z.1,_,_,_,rfl,rfl,SqT.of (s6 _ _ (s5 _ _ (tr.nod z mz))),at0 z.2,_,rfl,g,_,rfl,dA.k (k:=Sum.inl z.2.num) (s6 _ _ hgo),_,rfl,?_⟩;rw[hval];exact hk H' (Same.refl _)
    ·exact⟨_,rfl,hk _ H' (Same.refl _) rfl⟩
    ·have ey:=aY (f:=λz:Addr×Nd=>V.ref z.1) hys (λz y _ h=>h);refine⟨p2,_,rfl,.inl ⟨SqL.of hp6,λl6 hl6=>?_⟩⟩;have s56:=(s5.trans s6).trans (ag (o:=.tup ys) hl6);refine o.ok (zs.filter λz=>nL n ms z.2) l6 _ s56 (by rw[ac,ey,cg]) (λy hy=>s56 _ _ (tr.nod y (mem_filter.mp hy).1)) ?_;have en:nds (zs.filter λz=>nL n ms z.2)=(nds zs).filter (nL n ms):=by
      unfold nds;rw[filter_map];rfl
     rw[en];refine .dropped ⟨z.2,aA hz,e⟩ λm hm'=>?_;unfold nL;rw[Bool.not_eq_true',decide_eq_false_iff_not];constructor
     ·intro h hu
      by_cases em:m.num=n
      ·exact h (.inl em)
      ·exact h (.inr ((hm m.num).mpr ⟨m,hm',rfl,(TW.dR hT hn1 hm').mpr ⟨em,hu⟩⟩))
     ·intro h hx;rcases hx with em|hx
      ·exact h (by rw[em];exact .here)
      ·obtain⟨m',h1,h2,h3⟩:=(hm m.num).mp hx;have:m'=m:=hT.inj h1 hm' h2;subst this;exact h ((TW.dR hT hn1 h1).mp h3).2
def lQ(cls:TW.Wd→Addr):Sp:=λvs H Q E=>∃t d dd zs,vs=[.ref t,.ref d]∧Tre H t zs∧zs.length≤29∧H d=some (.tup (aR dd))∧cp dd∧Outs H (nds zs) dd cls Q E
theorem sO:FnScope ["tree","deed","word"] ["tree","deed"] (ah sE):=fsc
theorem vd{f:Addr}{fd:FuncData}{cls:TW.Wd→Addr}(F:Fun K "done" "done" sE f fd)(CM:eM P w K mg base 3 "make" ["tree","number","parent","name","stamp"] (oO cls))(CW:eM P w K mg base 2 "write" ["tree","number","stamp"] (lP cls))(CV:eM P w K mg base 3 "move" ["tree","number","parent","name"] (oP cls))(CD:eM P w K mg base 3 "drop" ["tree","number"] (oR cls)):FnOk P w K mg base (CX1 P w) 4 f fd ["tree","deed"] (lQ cls):=by
 obtain⟨fM,fdM,GM,mM,kM,bM⟩:=CM;obtain⟨fW,fdW,GW,mW,kW,bW⟩:=CW;obtain⟨fV,fdV,GV,mV,kV',bV⟩:=CV;obtain⟨fD,fdD,GD,mD,kD,bD⟩:=CD;refine F.okX sO (λvs H Q E h=>?_) (λcdv A outer s H vs Q E hr h=>?_)
 ·obtain⟨t,d,dd,zs,rfl,_⟩:=h;rfl
 ·obtain⟨t,d,dd,zs,rfl,tr,hl,hd,hok,o⟩:=h;have hr2:Room 2 _:=hr.mono (by decide);refine⟨_,ae (ap (i:=2) sO.nd rfl (Or.inl rfl) (av aq (pv 1) ai (λ_ _=>rfl)))
   (ae (aW (am cv (pv 2) aC (aw _)) (aj (ax (ak (E:=E) GM hr rfl mM kM bM .nil (dB cr) (aa (pv 0) (aa (av aq (pv 1) ai (λ_ _=>rfl)) (aa (av aq (pv 1) ai (λ_ _=>rfl)) (aa (av aq (pv 1) ai (λ_ _=>rfl)) (aa (av aq (pv 1) ai (λ_ _=>rfl)) af)))))))) aB)
   (ae (aW (am cv (pv 2) aC (aw _)) (aj (ax (ak (E:=E) GW hr2 rfl mW kW bW .nil (dB cr) (aa (pv 0) (aa (av aq (pv 1) ai (λ_ _=>rfl)) (aa (av aq (pv 1) ai (λ_ _=>rfl)) af)))))) aB)
   (ae (aW (am cv (pv 2) aC (aw _)) (aj (ax (ak (E:=E) GV hr rfl mV kV' bV .nil (dB cr) (aa (pv 0) (aa (av aq (pv 1) ai (λ_ _=>rfl)) (aa (av aq (pv 1) ai (λ_ _=>rfl)) (aa (av aq (pv 1) ai (λ_ _=>rfl)) af))))))) aB)
   (ae (aW (am cv (pv 2) aC (aw _)) (aj (ax (ak (E:=E) GD hr rfl mD kD bD .nil (dB cr) (aa (pv 0) (aa (av aq (pv 1) ai (λ_ _=>rfl)) af))))) aB)
   (aj rJ))))),?_⟩
  have sd:SqT K H d (aR dd):=SqT.of hd;cases dd with
  |make n p nm st =>
   refine⟨_,rfl,d,_,_,_,rfl,rfl,sd,rfl,?_⟩;refine⟨_,rfl,rfl,_,rfl,aQ ⟨_,rfl,_,rfl,d,_,_,_,rfl,rfl,sd,rfl,_,rfl,d,_,_,_,rfl,rfl,sd,rfl,_,rfl,d,_,_,_,rfl,rfl,sd,rfl,_,rfl,d,_,_,_,rfl,rfl,sd,rfl,t,n,p,nm,st,zs,rfl,tr,hl,hok,o⟩⟩
  |write n st =>
   refine⟨_,rfl,d,_,_,_,rfl,rfl,sd,rfl,?_⟩;refine⟨_,rfl,rfl,_,rfl,aE ⟨_,rfl,rfl,_,rfl,aQ ⟨_,rfl,_,rfl,d,_,_,_,rfl,rfl,sd,rfl,_,rfl,d,_,_,_,rfl,rfl,sd,rfl,t,n,st,zs,rfl,tr,hok,o⟩⟩⟩
  |move n p nm =>
   refine⟨_,rfl,d,_,_,_,rfl,rfl,sd,rfl,?_⟩;refine⟨_,rfl,rfl,_,rfl,aE ⟨_,rfl,rfl,_,rfl,aE ⟨_,rfl,rfl,_,rfl,aQ ⟨_,rfl,_,rfl,d,_,_,_,rfl,rfl,sd,rfl,_,rfl,d,_,_,_,rfl,rfl,sd,rfl,_,rfl,d,_,_,_,rfl,rfl,sd,rfl,t,n,p,nm,zs,rfl,tr,hok,o⟩⟩⟩⟩
  |drop n =>
   refine⟨_,rfl,d,_,_,_,rfl,rfl,sd,rfl,?_⟩;refine⟨_,rfl,rfl,_,rfl,aE ⟨_,rfl,rfl,_,rfl,aE ⟨_,rfl,rfl,_,rfl,aE ⟨_,rfl,rfl,_,rfl,aQ ⟨_,rfl,_,rfl,d,_,_,_,rfl,rfl,sd,rfl,t,n,zs,rfl,tr,hok,o⟩⟩⟩⟩⟩
end
end TK
namespace TB
open PySem SetTable
section
variable{prog:Program}{w:World}{A:Around}{E:Value→Shared→Prop}{s:Shared}
end
section
variable{prog:Program}{w:World}{A:Around}{R:Result→Shared→Prop}{I:Addr}{fp wr:List Addr}{G:Array GenState→Array GenState→Prop}{n:Nat}{P:Nat→Value→Prop}{St:Nat→Shared→Prop}
end
section
variable{prog:Program}{w:World}{A:Around}{E:Value→Shared→Prop}{s:Shared}
end
end TB
namespace SRT
open PySem PySem.W PyProof.Rows
section
variable{prog:Program}{w:World}{A:Around}{E:Value→Shared→Prop}{s:Shared}
end
end SRT
namespace L2
open PySem PySem.Spec PyProof.Rows
section
variable{X:Cx}
end
end L2
namespace TB
open PySem SetTable
section
variable{prog:Program}{w:World}{A:Around}{E:Value→Shared→Prop}{s:Shared}
end
end TB
namespace L2
open PySem PySem.Spec PyProof.Rows
section
variable{X:Cx}
theorem Inv.dK{pins:List (Addr×Obj)}{σ:St}{H:Hp}{s:Shared}(I:Inv X pins σ H s){a:Addr}{kvs:List (Key×V)}(h:Rd H a (.dK kvs)):
  kvs.length≤sizeLine∧(a==sysModules)=false∧∃vs,KV kvs vs∧s.heap.DictOf (bb X.prog X.w) a vs:=by
 rcases h with h|⟨o,h⟩
 ·obtain⟨hz,hsm,vs,rel,dd⟩:=I.hok a _ h;exact⟨hz,hsm,vs,rel,dd⟩
 ·obtain⟨_,hz,hsm,vs,rel,dd⟩:=I.hok a _ h;exact⟨hz,hsm,vs,rel,dd⟩
theorem gY(hc:X.calm=true):dg X (.type "list") (λxs H Q=>∃d kvs,xs=[.ref d]∧Rd H d (.dK kvs)∧∀l,H l=none→Q (.ref l) (upd H l (.lst (kvs.map λp=>kV p.1)))):=by
 intro pins s σ H xs us Q I r h;obtain⟨d,kvs,rfl,hH,q⟩:=h;obtain⟨u,rfl,ru⟩:=fz r;cases ru;obtain⟨hz,hsm,vs,rel,dd⟩:=I.dK hH;obtain⟨ep,da⟩:=dd.dictAt;have hzv:vs.length≤sizeLine:=by rw[←rel.length];exact hz
 refine PySem.W.kdl_call (PySem.W.kdl_dict hsm) (I.ok.hd hc) da hzv λh' tk acc c kp hg hi=>?_;refine⟨.ref s.heap.objs.size,_,I.laid (t':=tk) kp (le_refl _) (show bQ X.prog X.w _ h' _ (.lst _)from⟨by rw[length_map];exact hz,acc.toList,c,uN rel hi,by simpa using hg⟩),rfl,q _ (I.hok.fresh (le_refl _))⟩
def eA:V→Bool
 |.non=>true
 |.int _=>true
 |.str _=>true
 |_=>false
theorem dk{x:V}(h:eA x=true):dJ x=true:=by cases x<;>first|rfl|cases h
theorem jI{x y:V}(hx:eA x=true)(hy:eA y=true):eqV x y=decide (x=y):=by
 cases x<;>cases y<;>simp_all [eqV,eA]<;>rw[Bool.eq_iff_iff]<;>simp
def OT(H:Hp)(x:V)(o:Option (List V)):Prop:=(x=.non∧o=none)∨∃a xs,x=.ref a∧H a=some (.tup xs)∧o=some xs∧∀v∈xs,eA v=true
theorem oS{xs ys:List V}(hl:xs.length=ys.length):((List.range xs.length).all λi=>decide (xs.getD i .non=ys.getD i .non))=decide (xs=ys):=by
 rw[Bool.eq_iff_iff,all_eq_true,decide_eq_true_eq];constructor
 ·intro h;apply ext_getElem?;intro i
  by_cases hi:i<xs.length
  ·have:=h i (mem_range.mpr hi);rw[decide_eq_true_eq,getD_eq_getElem?_getD,getD_eq_getElem?_getD,getElem?_eq_getElem hi,getElem?_eq_getElem (by omega)]at this;rw[getElem?_eq_getElem hi,getElem?_eq_getElem (by omega)];exact congrArg some this
  ·rw[getElem?_eq_none (by omega),getElem?_eq_none (by omega)]
 ·intro h i hi;rw[h];simp
theorem sP(hu:X.A.units+1<cLine):OpR X (compareOp .NotEq) (λx y H Q=>∃ox oy,OT H x ox∧OT H y oy∧Q (.bl (!decide (ox=oy))) H):=by
 intro pins s σ H x y v u Q I rx ry h;obtain⟨ox,oy,hx,hy,q⟩:=h;have hu0:X.A.units<cLine:=by omega
 rcases hx with⟨rfl,rfl⟩|⟨a,xs,rfl,ha,rfl,fx⟩<;>rcases hy with⟨rfl,rfl⟩|⟨b,ys,rfl,hb,rfl,fy⟩<;>cases rx<;>cases ry
 ·exact RcNeAt.none_none _ _ _ _ ⟨.bl false,H,I,rfl,q⟩
 ·obtain⟨_,ws,r2,t2⟩:=I.hok b _ hb;exact RcNeAt.none_tuple t2 hu0 _ _ _ _ ⟨.bl true,H,I,rfl,q⟩
 ·obtain⟨_,us,r1,t1⟩:=I.hok a _ ha;exact RcNeAt.tuple_none t1 hu0 _ _ _ _ ⟨.bl true,H,I,rfl,q⟩
 ·obtain⟨_,us,r1,t1⟩:=I.hok a _ ha;obtain⟨_,ws,r2,t2⟩:=I.hok b _ hb;have l1:=r1.length;have l2:=r2.length;refine RcNeAt.tuples (e:=λi=>decide (xs.getD i .non=ys.getD i .non)) t1 t2 hu0 (λj h1 h2=>?_) _ _ _ _ ⟨.bl _,H,I,rfl,?_⟩
  ·have h1':j<xs.length:=by rw[l1];simpa using h1
   have h2':j<ys.length:=by rw[l2];simpa using h2
   obtain⟨u',hu1,hu2⟩:=r1.get (getElem?_eq_getElem h1');obtain⟨v',hv1,hv2⟩:=r2.get (getElem?_eq_getElem h2');have e1:us.toArray[j]=u':=by
    have:us[j]?=some us.toArray[j]:=by rw[getElem?_eq_getElem (by simpa using h1)];simp
    rw[hu1]at this;exact(Option.some.inj this).symm
   have e2:ws.toArray[j]=v':=by
    have:ws[j]?=some ws.toArray[j]:=by rw[getElem?_eq_getElem (by simpa using h2)];simp
    rw[hv1]at this;exact(Option.some.inj this).symm
   rw[e1,e2,getD_eq_getElem?_getD,getD_eq_getElem?_getD,getElem?_eq_getElem h1',getElem?_eq_getElem h2'];have f1:=fx _ (getElem_mem h1');have f2:=fy _ (getElem_mem h2');show EqAt _ _ _ _ (decide (xs[j]=ys[j]));rw[←jI f1 f2];exact iH hu2 hv2 (dk f1) (dk f2)
  ·have e:((List.range (min us.toArray.size ws.toArray.size)).all (λi=>decide (xs.getD i .non=ys.getD i .non))&&us.toArray.size==ws.toArray.size)=decide (some xs=some ys):=by
    simp only[size_toArray,←l1,←l2]
    by_cases hl:xs.length=ys.length
    ·rw[←hl,min_self,oS hl];simp
    ·have:(xs.length==ys.length)=false:=by simpa using hl
     rw[this,Bool.and_false];refine(decide_eq_false ?_).symm;intro e;injection e with e
     exact hl (by rw[e])
   rw[e];exact q
end
end L2
namespace TW
section
variable{S:Type}
def gM(t:List (Nd S))(k:Int):Option (Nd S):=t.find? λn=>n.num==k
theorem gZ{t:List (Nd S)}(T:Tree1 t){m:Nd S}(hm:m∈t){k:Int}(e:m.num=k):gM t k=some m:=by
 subst e;unfold gM;cases h:t.find? λn=>n.num==m.num with
 |none=>have:=find?_eq_none.mp h m hm;simp at this
 |some y =>
  have h1:=find?_some h;have h2:=List.mem_of_find?_eq_some h;have h3:y.num=m.num:=by simpa using h1
  rw[T.inj h2 hm h3]
theorem jJ{t:List (Nd S)}{k:Int}(h:∀m∈t,m.num≠k):gM t k=none:=by
 unfold gM;rw[find?_eq_none];intro m hm;simpa using h m hm
theorem gE{t u:List (Nd S)}(T:Tree1 t)(U:Tree1 u){k:Int}(h:∀m,m.num=k→(m∈u↔m∈t)):gM u k=gM t k:=by
 by_cases hk:∃m∈t,m.num=k
 ·obtain⟨m,hm,e⟩:=hk;rw[gZ T hm e,gZ U ((h m e).mpr hm) e]
 ·rw[jJ λm hm e=>hk ⟨m,hm,e⟩,jJ λm hm e=>hk ⟨m,(h m e).mp hm,e⟩]
def Deed.key:Deed S→Int
 |.make n _ _ _=>n
 |.write n _=>n
 |.move n _ _=>n
 |.drop n=>n
theorem put_mem{t:List (Nd S)}{z:Nd S}{m:Nd S}(h:m.num≠z.num):m∈t.map (put z)↔m∈t:=by
 rw[mem_map];constructor
 ·rintro⟨y,hy,e⟩
  by_cases e2:y.num=z.num
  ·rw[dZ e2]at e;exact absurd (by rw[←e]) h
  ·rw[cu e2]at e;rw[←e];exact hy
 ·intro hm;exact⟨m,hm,cu h⟩
theorem Told.others{t u:List (Nd S)}(T:Tree1 t)(U:Tree1 u){d:Deed S}(h:Told t d (.inr u)){k:Int}(hk:k≠d.key):
  gM u k=gM t k∨((∃n,d=.drop n)∧Und t d.key k∧(∃m∈t,m.num=k)∧∀m∈u,m.num≠k):=by
 generalize er:(Sum.inr u:Sum Wd (List (Nd S)))=r at h;cases h with
 |@made n p nm st _ a1 a2 a3 a4 a5 =>
  injection er with er
  subst er;refine .inl (gE T U λm e=>?_);rw[a4.mem_iff,mem_cons];constructor
  ·rintro(e2|hm)
   ·rw[e2]at e;exact absurd e.symm hk
   ·exact hm
  ·exact .inr
 |@wrote n st y a1 a2 a3 =>
  injection er with er
  subst er;exact .inl (gE T U λm e=>put_mem (by rw[e];exact hk))
 |@moved n p nm y a1 a2 a3 a4 a5 =>
  injection er with er
  subst er;exact .inl (gE T U λm e=>put_mem (by rw[e];exact hk))
 |@dropped n f a1 a2 =>
  injection er with er
  subst er
  by_cases hu:(∃m∈t,m.num=k)∧Und t n k
  ·obtain⟨⟨m,hm,e⟩,hu⟩:=hu;refine .inr ⟨⟨n,rfl⟩,hu,⟨m,hm,e⟩,λy hy e2=>?_⟩;obtain⟨hy1,hy2⟩:=mem_filter.mp hy;exact(a2 y hy1).mp hy2 (by rw[e2];exact hu)
  ·refine .inl (gE T U λm e=>?_);rw[mem_filter];constructor
   ·exact λh=>h.1
   ·intro hm;refine⟨hm,(a2 m hm).mpr λz=>hu ⟨⟨m,hm,e⟩,by rw[e]at z;exact z⟩⟩
 |_=>cases er
end
end TW
namespace TW
section
variable{S:Type}
theorem rj{t:List (Nd S)}{k:Int}{m:Nd S}(h:gM t k=some m):m∈t∧m.num=k:=by
 unfold gM at h;have h1:=find?_some h;have h2:=List.mem_of_find?_eq_some h;exact⟨h2,by simpa using h1⟩
end
end TW
namespace L2
open PySem PySem.Spec PyProof.Rows
end L2
namespace TK
open PySem L2
instance decNd:DecidableEq (TW.Nd Str):=λa b=>Classical.propDecidable _
end TK
namespace L2
open PySem PySem.Spec PyProof.Rows
section
variable{X:Cx}
theorem xB(hu:X.A.units+1<cLine):OpR X (compareOp .Eq) (λx y H Q=>∃a b xs ys,x=.ref a∧y=.ref b∧H a=some (.tup xs)∧H b=some (.tup ys)∧(∀v∈xs,eA v=true)∧(∀v∈ys,eA v=true)∧Q (.bl (decide (xs=ys))) H):=by
 intro pins s σ H x y v u Q I rx ry h;obtain⟨a,b,xs,ys,rfl,rfl,ha,hb,fx,fy,q⟩:=h;have hu0:X.A.units<cLine:=by omega
 cases rx;cases ry;obtain⟨_,us,r1,t1⟩:=I.hok a _ ha;obtain⟨_,ws,r2,t2⟩:=I.hok b _ hb;have l1:=r1.length;have l2:=r2.length;refine SeqAt.eq_tupleAt (e:=λi=>decide (xs.getD i .non=ys.getD i .non)) t1 t2 hu0 (λj h1 h2=>?_) ⟨.bl _,H,I,rfl,?_⟩
 ·have h1':j<xs.length:=by rw[l1];simpa using h1
  have h2':j<ys.length:=by rw[l2];simpa using h2
  obtain⟨u',hu1,hu2⟩:=r1.get (getElem?_eq_getElem h1');obtain⟨v',hv1,hv2⟩:=r2.get (getElem?_eq_getElem h2');have e1:us.toArray[j]=u':=by
   have:us[j]?=some us.toArray[j]:=by rw[getElem?_eq_getElem (by simpa using h1)];simp
   rw[hu1]at this;exact(Option.some.inj this).symm
  have e2:ws.toArray[j]=v':=by
   have:ws[j]?=some ws.toArray[j]:=by rw[getElem?_eq_getElem (by simpa using h2)];simp
   rw[hv1]at this;exact(Option.some.inj this).symm
  rw[e1,e2,getD_eq_getElem?_getD,getD_eq_getElem?_getD,getElem?_eq_getElem h1',getElem?_eq_getElem h2'];have f1:=fx _ (getElem_mem h1');have f2:=fy _ (getElem_mem h2');show EqAt _ _ _ _ (decide (xs[j]=ys[j]));rw[←jI f1 f2];exact iH hu2 hv2 (dk f1) (dk f2)
 ·have e:((List.range (min us.toArray.size ws.toArray.size)).all (λi=>decide (xs.getD i .non=ys.getD i .non))&&us.toArray.size==ws.toArray.size)=decide (xs=ys):=by
   simp only[size_toArray,←l1,←l2]
   by_cases hl:xs.length=ys.length
   ·rw[←hl,min_self,oS hl];simp
   ·have:(xs.length==ys.length)=false:=by simpa using hl
    rw[this,Bool.and_false];exact(decide_eq_false λe=>hl (by rw[e])).symm
  rw[e];exact q
end
end L2
namespace TW
section
variable{S:Type}
end
end TW
namespace L2
open PySem PySem.Spec PyProof.Rows
end L2
namespace TK
open PySem L2
end TK
namespace L2
open PySem PySem.Spec PyProof.Rows
section
variable{X:Cx}
abbrev Cx.within(X:Cx)(pl:List (Addr×Obj))(xe:Value→Shared→Prop):Cx:={X with pn:=pl,xe:=xe}
theorem Cx.Ok.within(ok:X.Ok)(pl:List (Addr×Obj))(xe:Value→Shared→Prop):(X.within pl xe).Ok:=⟨ok.mod,ok.kind,ok.glob,ok.blt,ok.above,ok.inj,ok.has,ok.cab,ok.hd,ok.frames,ok.stk,ok.exf,ok.bs,ok.bsz,ok.noex,ok.exfs,ok.funs,ok.frf⟩
theorem Cx.Ok.without{pl:List (Addr×Obj)}{xe:Value→Shared→Prop}(ok:(X.within pl xe).Ok):X.Ok:=⟨ok.mod,ok.kind,ok.glob,ok.blt,ok.above,ok.inj,ok.has,ok.cab,ok.hd,ok.frames,ok.stk,ok.exf,ok.bs,ok.bsz,ok.noex,ok.exfs,ok.funs,ok.frf⟩
theorem Inv.within{pins:List (Addr×Obj)}{σ:St}{H:Hp}{s:Shared}(I:Inv X pins σ H s)(xe:Value→Shared→Prop):Inv (X.within (X.pn++pins) xe) [] σ H s :=
 ⟨I.ok.within _ _,I.os,I.bare,I.base,I.loc,I.cell,I.free,I.freeC,λp hp=>I.pin p (by simpa using hp),I.hok,I.len⟩
theorem Inv.without{pins pins':List (Addr×Obj)}{σ:St}{H:Hp}{s:Shared}{xe:Value→Shared→Prop}(I:Inv (X.within (X.pn++pins) xe) pins' σ H s):Inv X pins σ H s :=
 ⟨I.ok.without,I.os,I.bare,I.base,I.loc,I.cell,I.free,I.freeC,λp hp=>I.pin p (mem_append_left _ hp),I.hok,I.len⟩
end
end L2
namespace TW
section
variable{S:Type}
theorem Und.trans{t:List (Nd S)}{a b c:Int}(h1:Und t a b)(h2:Und t b c):Und t a c:=by
 induction h2 with
 |here=>exact h1
 |up hm _ ih=>exact .up hm ih
theorem jK{t:List (Nd S)}(T:Tree1 t){z:Nd S}(hz:z∈t){k:Int}:Und t k z.num↔k=z.num∨Und t k z.par:=by
 constructor
 ·intro h
  by_cases e:z.num=k
  ·exact .inl e.symm
  ·exact .inr (h.inv T hz rfl e)
 ·rintro(rfl|h)
  ·exact .here
  ·exact .up hz h
theorem sQ{t:List (Nd S)}(T:Tree1 t){z:Nd S}(hz:z∈t):¬Und t z.num z.par:=λh=>by
 rcases dj T hz with h0|⟨m,hm,hs,e⟩
 ·have:=h.zero T h0;have:=T.pos z hz;omega
 ·rw[←e]at h
  by_cases en:m.num=z.num
  ·have:m=z:=T.inj hm hz en;subst this;exact gg T (.base hm e.symm) rfl
  ·have r:=(dR T (T.pos z hz) hm).mpr ⟨en,h⟩;have:Reach t z.num z:=.step r hs hz e.symm;exact gg T this rfl
def rk(t u:List (Nd S))(k:Int):Prop:=k≠0∧∃m∈t,aM u m.num∧Und t k m.num
def cA(t u:List (Nd S))(x:Nd S):Prop:=¬rk t u x.num∧(x.par=0∨aM u x.par)
inductive Plc(t:List (Nd S))(n:Nd S):Option (Deed S)→Prop where
 |new:¬aM t n.num→Plc t n (some (.make n.num n.par n.nm n.st))
 |mv {m:Nd S}:m∈t→m.num=n.num→¬(m.par=n.par∧m.nm=n.nm)→Plc t n (some (.move n.num n.par n.nm))
 |no {m:Nd S}:m∈t→m.num=n.num→m.par=n.par→m.nm=n.nm→Plc t n none
theorem Plc.one{t:List (Nd S)}(T:Tree1 t){n:Nd S}{a b:Option (Deed S)}(h:Plc t n a)(h':Plc t n b):a=b:=by
 cases h with
 |new h1=>cases h' with
  |new=>rfl
  |mv hm e _=>exact absurd ⟨_,hm,e⟩ h1
  |no hm e _ _=>exact absurd ⟨_,hm,e⟩ h1
 |mv hm e hn=>cases h' with
  |new h1=>exact absurd ⟨_,hm,e⟩ h1
  |mv=>rfl
  |no hm' e' h1 h2 =>
   have:=T.inj hm hm' (e.trans e'.symm);subst this;exact absurd ⟨h1,h2⟩ hn
 |no hm e h1 h2=>cases h' with
  |new h3=>exact absurd ⟨_,hm,e⟩ h3
  |mv hm' e' hn =>
   have:=T.inj hm hm' (e.trans e'.symm);subst this;exact absurd ⟨h1,h2⟩ hn
  |no=>rfl
inductive Plcs(t:List (Nd S)):List (Nd S)→List (Deed S)→Prop where
 |nil:Plcs t [] []
 |skip {n:Nd S} {u:List (Nd S)} {ds:List (Deed S)}:Plcs t u ds→Plc t n none→Plcs t (u++[n]) ds
 |take {n:Nd S} {u:List (Nd S)} {ds:List (Deed S)} {d:Deed S}:Plcs t u ds→Plc t n (some d)→Plcs t (u++[n]) (ds++[d])
end
end TW
namespace TK
open PySem L2
def gw(ms:List Int):List (Key×V):=ms.map λm=>((Sum.inl m:Key),V.bl true)
theorem jL{ms:List Int}{k:Int}:(br (gw ms) (Sum.inl k:Key)).isSome=decide (k∈ms):=by
 by_cases h:k∈ms
 ·rw[decide_eq_true h,←cP];rw[any_eq_true];exact⟨_,mem_map.mpr ⟨k,h,rfl⟩,by simp⟩
 ·rw[decide_eq_false h,lM (by
   unfold gw;rw[map_map];intro hm;obtain⟨x,hx,e⟩:=mem_map.mp hm;have:x=k:=by injection e
   exact h (this ▸ hx))]
  rfl
theorem sR{ms:List Int}{k:Int}(h:k∉ms):cx (gw ms) (Sum.inl k:Key) (V.bl true)=gw (ms++[k]):=by
 have hn:br (gw ms) (Sum.inl k:Key)=none:=by
  have:=jL (ms:=ms) (k:=k);rw[decide_eq_false h]at this;cases hv:br (gw ms) (Sum.inl k:Key)with
  |none=>rfl
  |some x=>rw[hv]at this;cases this
 rw[rW _ hn];unfold gw;rw[map_append];rfl
def inU(us:ZN)(k:Int):Bool:=us.any λy=>decide (y.2.num=k)
theorem du{us:ZN}{k:Int}:inU us k=true↔TW.aM (nds us) k:=by
 unfold inU;rw[any_eq_true];constructor
 ·rintro⟨y,hy,e⟩;exact⟨y.2,aA hy,of_decide_eq_true e⟩
 ·rintro⟨m,hm,e⟩;obtain⟨y,hy,rfl⟩:=bf hm;exact⟨y,hy,decide_eq_true e⟩
theorem gU.is{H:Hp}{d:Addr}{us:ZN}(h:gU H d us)(hn:((nds us).map (·.num)).Nodup)(k:Int):∃o,dA H d (.int k) o∧o.isSome=inU us k:=by
 cases hb:inU us k with
 |true =>
  obtain⟨m,hm,e⟩:=du.mp hb;obtain⟨y,hy,rfl⟩:=bf hm;subst e;exact⟨_,h.get hn hy,rfl⟩
 |false =>
  refine⟨none,h.not λy hy e=>?_,rfl⟩;have:inU us k=true:=du.mpr ⟨y.2,aA hy,e⟩;rw[hb]at this;cases this
section
variable{P:Program}{w:World}{K:PySem.W.Frag}{mg:Str→Option Value}{base:Heap}
def sS:Sp:=λvs H Q _=>∃t d zs us,vs=[.ref t,.ref d]∧Tre H t zs∧gU H d us∧((nds us).map (·.num)).Nodup∧∀e ks H',Same H H'→H' e=some (.dK (gw ks))→(∀k,k∈ks↔TW.rk (nds zs) (nds us) k)→Q (.ref e) H'
theorem kX:FnScope ["now","goal","nodes","needed","staying","at"] ["now","goal"] (ah db):=fsc
def eX(zs us:ZN):List Int:=(zs.filter λz=>inU us z.2.num).map (·.2.num)
theorem xC{f:Addr}{fd:FuncData}(F:Fun K "nodes_needed" "nodes_needed" db f fd)(T:Txt mg)(CB:Has P w K mg base 1 "by_number" ["tree"] fG):FnOk P w K mg base CX0 2 f fd ["now","goal"] sS:=by
 obtain⟨fB,fdB,GB,mB,kB,bB⟩:=CB;obtain⟨tt,hT⟩:=T.top;refine F.ok kX (λvs H Q E h=>?_) (λcdv A outer s H vs Q E hr h=>?_)
 ·obtain⟨t,d,zs,us,rfl,_⟩:=h;rfl
 ·obtain⟨t,d,zs,us,rfl,tr,hd,hun,q⟩:=h;have hl:=tr.len;have hnd:=aH tr.tr;refine⟨_,ae (ap (i:=2) kX.nd rfl (Or.inl rfl) (ak GB hr rfl mB kB bB .nil aI (aa (pv 0) af)))
   (ae (ap (i:=3) kX.nd rfl (Or.inl rfl) mw)
   (ae (dh PassesOwn.never rfl (ce (cY (N:=["number","goal"]) (cl:=[("goal",s.heap.objs.size+1)]) (k:=1) (js:=[1]) (g:=bg 0) rfl
     (LcOk.mk' ["goal"] rfl rfl (by decide +kernel) (by decide +kernel) ?hcl rfl (by decide +kernel)) rfl ?hj (kx (pv 2)) (λs H fp=>aG (i:=0) (show(["number","goal"]:List Str).Nodup by decide +kernel) rfl (Or.inl rfl) (Or.inr rfl))
     (λs H fp=>cc (dF (aN hr) (pv 0) (pv 1))) (λs H fp=>pv 0))) (aG (i:=4) kX.nd rfl (Or.inl rfl))
    (ae (ap (i:=5) kX.nd rfl (Or.inl rfl) (pv 4))
    (aj (dw PassesOwn.never (PW.pt (pw_and (am cU (pv 5) (cb (v:=.int 0) rfl hT ⟨_,rfl⟩) (aw _)) (pw_and1 (cc (cC (aN hr) (pv 5) (pv 3))))))
     (ae (ie (aN hr) (pv 3) (pv 5) gJ rfl)
     (aj (ap (i:=5) kX.nd rfl (Or.inl rfl) (av aq (aV (aN hr) (pv 2) (pv 5) (λ_ _=>rfl)) ai (λ_ _=>rfl)))))))))
   (aj (ax (pv 3))))),?_⟩
  case hcl =>
   intro y hy;rcases mem_cons.mp hy with e|hy
   ·rw[e];rfl
   ·cases hy
  case hj =>
   intro i j x h1 h2
   match i,h1,h2 with
   |0,h1,h2 =>
    cases h1;cases h2;exact⟨rfl,Or.inr (Or.inl rfl),(show((ah db).names.lookup ("goal":Str)≠some NameKind.local)by decide +kernel),by first|exact Or.inl rfl|exact Or.inr rfl⟩
   |i+1,h1,h2=>simp at h1
  refine⟨_,rfl,t,zs,rfl,tr.tup,tr.nod,by omega,hnd,λn H1 s1 nd1=>?_⟩;refine λe he=>?_;have s2:=ag (o:=.dK []) he;have ge:upd H1 e (.dK []) e=some (.dK (gw [])):=ac;have nd2:=nd1.same s2;generalize upd H1 e (.dK [])=H2 at s2 ge nd2⊢;obtain⟨o,ho⟩:=nd2;have hd2:=(hd.same s1).same s2;have tr2:=(tr.same s1).same s2;refine⟨_,rfl,n,o,dH zs,rfl,ho,λp hp=>?_⟩;refine cy (fr:=[some (.ref d)]) zs (λz=>V.int z.2.num) (by omega) hp (Eq.mp (congrArg (Src _ H2) (show(dH zs).map (λx=>kV x.1)=zs.map (λz=>V.int z.2.num)by unfold dH;rw[map_map];rfl)) (dC ho)) rfl (λz=>inU us z.2.num) (λz y _=>y=.int z.2.num) (λ_ _ _ _ h _=>h) (λz H' k mz s3 _ hk=>?_) (λz H' k mz _ s3 _ hk=>?_) (λys H3 s3 hp3 hys=>?_)
  ·obtain⟨ov,g,e1⟩:=(hd2.same s3).is hun z.2.num;refine⟨_,rfl,_,rfl,d,_,rfl,g,_,rfl,?_⟩;rw[e1];exact hk H' (Same.refl _)
  ·exact⟨_,rfl,hk _ H' (Same.refl _) rfl⟩
  ·have ey:ys=(eX zs us).map V.int:=by
    rw[aY (f:=λz:Addr×Nd=>V.int z.2.num) hys (λz y _ h=>h)];unfold eX;rw[map_map];rfl
   subst ey;have keep0:∀b u,b≠e→H2 b=some u→H3 b=some u:=λb u _ h=>s3 _ _ h;have nen:n≠e:=λz=>by rw[z,ge]at ho;cases ho
   have sin:∀m,m∈eX zs us→∃z∈zs,z.2.num=m∧TW.aM (nds us) m:=λm hm=>by
    unfold eX at hm;obtain⟨z,hz,e1⟩:=mem_map.mp hm;obtain⟨h1,h2⟩:=mem_filter.mp hz;exact⟨z,h1,e1,e1 ▸ du.mp h2⟩
   refine⟨p,rfl,⟨_,SqL.of hp3⟩,eS (xs:=(eX zs us).map V.int) (λi σ H'=>∃x4 x5,∃ks:List Int,σ=[some (.ref t),some (.ref d),some (.ref n),some (.ref e),x4,x5]∧H' e=some (.dK (gw ks))∧ks.Nodup∧(∀k∈ks,k∈zs.map (·.2.num))∧(∀k,k∈ks↔k≠0∧∃x∈(eX zs us).take i,TW.Und (nds zs) k x)∧∀b u,b≠e→H3 b=some u→H' b=some u)
    ⟨_,_,[],rfl,s3 _ _ ge,nodup_nil,(λk h=>nomatch h),λk=>by simp,λ_ _ _ h=>h⟩ (λi σ H' _ h=>?_) (λi x σ H' hx h=>?_) (λσ H' h=>?_)⟩
   ·obtain⟨x4,x5,ks,rfl,_,_,_,_,kp⟩:=h;exact SqL.of (kp _ _ (λz=>by rw[z]at hp;rw[ge]at hp;cases hp) hp3)
   ·obtain⟨x4,x5,ks,rfl,hks,knd,ksub,kiff,kp⟩:=h;rw[getElem?_map]at hx;obtain⟨m,hm,rfl⟩:∃m,(eX zs us)[i]?=some m∧x=V.int m:=by
     cases hg:(eX zs us)[i]? with
     |none=>rw[hg]at hx;cases hx
     |some m=>rw[hg]at hx;exact⟨m,rfl,(Option.some.inj hx).symm⟩
    obtain⟨z0,mz0,ez0,_⟩:=sin m (mem_of_getElem? hm);have et:(eX zs us).take (i+1)=(eX zs us).take i++[m]:=bG hm;have Tz:=tr.tr;obtain⟨q0,hq0⟩:=TW.PathTo.ex Tz (aA mz0);rw[ez0]at hq0;refine⟨_,rfl,?_⟩;dsimp only[bg,iY];refine eT (λσ H'=>∃at' q',∃ks:List Int,σ=[some (.ref t),some (.ref d),some (.ref n),some (.ref e),some (.int m),some (.int at')]∧TW.PathTo (nds zs) at' q'∧TW.Und (nds zs) at' m∧H' e=some (.dK (gw ks))∧ks.Nodup∧(∀k∈ks,k∈zs.map (·.2.num))∧(∀k,k∈ks↔k≠0∧((∃x∈(eX zs us).take i,TW.Und (nds zs) k x)∨(TW.Und (nds zs) k m∧¬TW.Und (nds zs) k at')))∧∀b u,b≠e→H3 b=some u→H' b=some u)
     (λσ H'=>match σ with | [_,_,_,_,_,some (.int k)]=>nF (nds zs) k | _=>0) ⟨m,q0,ks,rfl,hq0,.here,hks,knd,ksub,λk=>?_,kp⟩ (λσ H' h=>?_) ?_
    ·rw[kiff];constructor
     ·rintro⟨h1,h2⟩;exact⟨h1,.inl h2⟩
     ·rintro⟨h1,h2|⟨h2,h3⟩⟩
      ·exact⟨h1,h2⟩
      ·exact absurd h2 h3
    ·obtain⟨at',q',ks,rfl,hq',hu,hks,knd,ksub,kiff,kp⟩:=h;have fin:(∀k,k≠0→TW.Und (nds zs) k at'→k∈ks)→∃x4 x5,∃ks':List Int,[some (V.ref t),some (.ref d),some (.ref n),some (.ref e),some (.int m),some (.int at')]=[some (.ref t),some (.ref d),some (.ref n),some (.ref e),x4,x5]∧H' e=some (.dK (gw ks'))∧ks'.Nodup∧(∀k∈ks',k∈zs.map (·.2.num))∧(∀k,k∈ks'↔k≠0∧∃x∈(eX zs us).take (i+1),TW.Und (nds zs) k x)∧∀b u,b≠e→H3 b=some u→H' b=some u:=λhall=>by
      refine⟨_,_,ks,rfl,hks,knd,ksub,λk=>?_,kp⟩;rw[kiff,et];constructor
      ·rintro⟨h1,⟨x,hx,hxu⟩|⟨h2,_⟩⟩
       ·exact⟨h1,x,mem_append_left _ hx,hxu⟩
       ·exact⟨h1,m,mem_append_right _ (mem_singleton.mpr rfl),h2⟩
      ·rintro⟨h1,x,hx,hxu⟩;rcases mem_append.mp hx with hx|hx
       ·exact⟨h1,.inl ⟨x,hx,hxu⟩⟩
       ·have ex:x=m:=mem_singleton.mp hx;subst ex
        by_cases hk:TW.Und (nds zs) k at'
        ·exact(kiff k).mp (hall k h1 hk)
        ·exact⟨h1,.inr ⟨hxu,hk⟩⟩
     refine⟨_,rfl,rfl,_,rfl,?_⟩
     by_cases h0:at'=0
     ·have hne:decide (V.int at'=V.int 0)=true:=by simp[h0]
      rw[hne];exact aE (aE (fin λk hk h=>absurd (h.zero Tz h0) hk))
     ·have hne:decide (V.int at'=V.int 0)=false:=by simp[h0]
      rw[hne];refine aQ ⟨_,rfl,_,rfl,e,_,rfl,dA.k (k:=Sum.inl at') hks,_,rfl,?_⟩;rw[jL]
      by_cases hin:at'∈ks
      ·rw[decide_eq_true hin];refine aE (fin λk hk h=>(kiff k).mpr ⟨hk,?_⟩);rcases ((kiff at').mp hin).2 with⟨x,hx,hxu⟩|⟨_,h2⟩
       ·exact .inl ⟨x,hx,h.trans hxu⟩
       ·exact absurd TW.Und.here h2
      ·rw[decide_eq_false hin];refine aQ ?_;obtain⟨z,hz,e1,q'',e2,hq''⟩:=pV Tz hq' h0;subst e1;have klen:ks.length≤30:=by
        have h1:=Nodup.length_le_of_subset knd (l₂:=zs.map (·.2.num)) (λx hx=>ksub x hx);rw[length_map]at h1;omega
       refine⟨_,rfl,_,rfl,e,_,rfl,jT.k (k:=Sum.inl z.2.num) hks (aJ (by unfold gw;rw[length_map];omega)),?_⟩;rw[sR hin];have kp':∀b u,b≠e→H3 b=some u→upd H' e (.dK (gw (ks++[z.2.num]))) b=some u:=λb u hb h=>by rw[ao hb];exact kp b u hb h
       have ho':=kp' _ _ nen (s3 _ _ ho);have hz3:=kp' _ _ (λz'=>by have:=tr2.nod z hz;rw[z',ge]at this;cases this) (s3 _ _ (tr2.nod z hz));have ge':upd H' e (.dK (gw (ks++[z.2.num]))) e=some (.dK (gw (ks++[z.2.num]))):=ac;generalize upd H' e (.dK (gw (ks++[z.2.num])))=H4 at kp' ho' hz3 ge'⊢;refine⟨_,rfl,_,rfl,n,_,rfl,gU.get ⟨o,ho'⟩ hnd hz,z.1,_,_,_,rfl,rfl,SqT.of hz3,at1 z.2,?_⟩;have mz:=aA hz;refine⟨⟨z.2.par,q'',ks++[z.2.num],rfl,hq'',(TW.Und.up mz .here).trans hu,ge',?_,λk hk=>?_,λk=>?_,kp'⟩,?_⟩
       ·rw[nodup_append];exact⟨knd,by simp,λa ha b hb e'=>hin (by rw[←show b=z.2.num by simpa using hb,←e'];exact ha)⟩
       ·rcases mem_append.mp hk with hk|hk
        ·exact ksub k hk
        ·have:k=z.2.num:=mem_singleton.mp hk;rw[this];exact mem_map.mpr ⟨z,hz,rfl⟩
       ·rw[mem_append,kiff,mem_singleton];constructor
        ·rintro(⟨h1,h2|⟨h2,h3⟩⟩|rfl)
         ·exact⟨h1,.inl h2⟩
         ·exact⟨h1,.inr ⟨h2,λh=>h3 (.up mz h)⟩⟩
         ·exact⟨h0,.inr ⟨hu,TW.sQ Tz mz⟩⟩
        ·rintro⟨h1,h2|⟨h2,h3⟩⟩
         ·exact .inl ⟨h1,.inl h2⟩
         ·by_cases hk:k=z.2.num
          ·exact .inr hk
          ·refine .inl ⟨h1,.inr ⟨h2,λh=>?_⟩⟩;rcases (TW.jK Tz mz).mp h with h|h
           ·exact hk h
           ·exact h3 h
       ·show nF (nds zs) z.2.par<nF (nds zs) z.2.num;rw[jf Tz hq'',jf Tz hq',e2];simp
    ·rintro σ H1 Q1 Q2 mm ⟨v,e,h2,b,e3,q⟩;refine⟨v,e,h2,b,e3,?_⟩;cases b with
     |false=>exact mm _ _ q
     |true =>
      obtain⟨v1,f1,v2,f2,a',o',e4,g',b',e5,q'⟩:=q;exact⟨v1,f1,v2,f2,a',o',e4,g',b',e5,mm _ _ q'⟩
   ·obtain⟨x4,x5,ks,rfl,hks,_,_,kiff,kp⟩:=h;refine⟨_,rfl,q e ks _ (λb u h=>?_) hks λk=>?_⟩
    ·have h2:=s2 _ _ (s1 _ _ h)
     by_cases hb:b=e
     ·have hn:=s1 _ _ h;rw[hb,he]at hn;cases hn
     ·exact kp _ _ hb (s3 _ _ h2)
    ·rw[kiff,length_map,take_length];constructor
     ·rintro⟨h1,x,hx,hxu⟩;obtain⟨z,hz,e1,hun'⟩:=sin x hx;exact⟨h1,z.2,aA hz,by rw[e1];exact hun',by rw[e1];exact hxu⟩
     ·rintro⟨h1,m,hm,hmu,hu⟩;obtain⟨z,hz,rfl⟩:=bf hm;refine⟨h1,z.2.num,?_,hu⟩;unfold eX;exact mem_map.mpr ⟨z,mem_filter.mpr ⟨hz,du.mpr hmu⟩,rfl⟩
end
end TK
namespace L2
open PySem PySem.Spec PyProof.Rows
section
variable{X:Cx}{CX:CXT}{k:Nat}{f C:Addr}{fd:FuncData}{ps:List Str}{sp:Sp}{dvs:List V}{ds:List Value}{E:XK}{x m:Str}{p pos apos:Pos}{e o:Expr}{es:List Expr}{ta:TE}{t:TA}
abbrev Cx.hnd(X:Cx)(pl:List (Addr×Obj))(v:Option Value):Cx:={X with pn:=pl,xe:=λ_ _=>False,A:=X.A.mark v,calm:=false}
theorem Inv.hnd{pins:List (Addr×Obj)}{σ:St}{H:Hp}{s:Shared}{v:Option Value}(I:Inv X pins σ H s):Inv (X.hnd (X.pn++pins) v) [] σ H s :=
 ⟨⟨I.ok.mod,I.ok.kind,I.ok.glob,I.ok.blt,I.ok.above,I.ok.inj,I.ok.has,I.ok.cab,λh=>absurd (show false=true from h) (by decide),I.ok.frames,I.ok.stk,I.ok.exf,I.ok.bs,I.ok.bsz,I.ok.noex,I.ok.exfs,I.ok.funs,I.ok.frf⟩,I.os,I.bare,I.base,I.loc,I.cell,I.free,I.freeC,λp hp=>I.pin p (by simpa using hp),I.hok,I.len⟩
theorem Inv.unhnd{pins pins':List (Addr×Obj)}{σ σ0:St}{H H0:Hp}{s s0:Shared}{v:Option Value}(I:Inv (X.hnd (X.pn++pins) v) pins' σ H s)(I0:Inv X pins σ0 H0 s0):Inv X pins σ H s :=
 ⟨I0.ok,I.os,I.bare,I.base,I.loc,I.cell,I.free,I.freeC,λp hp=>I.pin p (mem_append_left _ hp),I.hok,I.len⟩
def wa(D:Ends)(n:Nat)(T:Addr)(K:PySem.W.Frag)(th:TS):XK:=λcl _ H'=>∃C,cl=.ref C∧subIn K (.ref C) (.ref T)=some true∧∀ea (σ':St),σ'.length=n→H' ea=none→th D σ' (upd H' ea (.ext (XI.kt ea C)))
def yN(n:Nat)(T:Addr)(K:PySem.W.Frag)(tb:XK→TS)(th:TS):TS:=λD σ H=>tb (wa D n T K th) D σ H
theorem ve(Y:TryOk X){x:Str}{T:Addr}{body:List Stmt}{b0:Stmt}{body2:List Stmt}{tb:XK→TS}{th:TS}{px p3 p4:Pos}(he:∀pl xe E,jp (CX1 X.prog X.w) (X.within pl xe) E→PassesOwn (model X.prog X.w) X.A X.env xe→PSs (X.within pl xe) body (tb E))(hb:∀pl v,PSs (X.hnd pl v) (b0::body2) th)(hg:Gl X x)(hm:X.mg x=some (.ref T))(hT:PySem.W.ktsIn X.K T "BaseException"=true)(hdx:(x==("__debug__":Str))=false:=by decide):
  PS X (.Try body [.ExceptHandler (some (.Name x px)) none (b0::body2) p3] [] [] p4) (yN X.N.length T X.K tb th):=by
 intro pins s σ H D I h;refine wpAny_Try_except ?_;refine wpAny_mono (he (X.pn++pins) _ (wa D X.N.length T X.K th) ?hp PassesOwn.looking [] s σ H D (I.within _) h) (λf s1 q=>?_) (λev s1 hx=>hx)
 ·intro pins' σ H1 s0 ev s1 I0 hx;obtain⟨ea,C,H',rfl,F,⟨C',eC,hsub,hk⟩⟩:=hx;cases eC;have I1:Inv X pins σ H1 s0:=I0.without;have hk:=hk ea σ I1.len F.new;obtain⟨B,a0,fl,hB,kp,th⟩:=id F.fly;have frm:X.A.frames=some (X.env::X.outer):=by rw[I1.ok.frames,Y.stk]
  have fl':=fl;rw[show(X.within _ _).stack=X.stack from rfl,Y.stk]at fl';refine wpAny_looks_onW frm Y.fr fl' λh4 held4 hs4=>?_;refine wpAny_landsW held4 λh5 fl5 hs5=>?_;have sm5:s1.heap.UpToSlots h5:=hs4.trans hs5;have fl5':FlyingW B X.stack ea (.ref C) a0 h5:=by rw[Y.stk];exact fl5
  have J5:=I1.caught F fl hB kp th fl5' sm5;obtain⟨ob,hob,hobc⟩:=fl5.there;obtain⟨nm,q',N,bs,bm,hdct,sn,sub,ab,col,dd,k0,k1,k2,k3,k5,newId,hTo,hbase,_⟩:=PySem.W.kts_cls J5.kIn hT;obtain⟨hp1,g1,d1,t1,os1⟩:=s1;refine wpAny_handleBy_cons (codeAny_handlers_test ?_) (by intro q;cases q);refine Name_function_global J5.ok.kind hg (Calls.loadGlobal_global (by rw[J5.ok.glob];exact J5.mod.glob.keeps J5.bk) hm ?_) hdx;refine pN hTo hbase (looks_subIn J5.kIn hsub) hob hobc ?_;refine codeAny_handlers_suite ?_;refine lands_againW (s:=⟨h5,g1,d1,t1,os1⟩) fl5 λh6 fl6 hs6=>?_;have fl6':FlyingW B X.stack ea (.ref C) a0 h6:=by rw[Y.stk];exact fl6
  have J6:=I1.caught F fl hB kp th fl6' (sm5.trans hs6);refine wpAny_mono (hb (X.pn++pins) _ [] _ _ _ _ J6.hnd hk) (λf s3 q=>?_) (λ_ _ z=>z.elim);cases f with
  |next=>obtain⟨σ',H8,I8,q'⟩:=q;exact⟨_,_,I8.unhnd J6,q'⟩
  |brk=>obtain⟨σ',H8,I8,q'⟩:=q;exact⟨_,_,I8.unhnd J6,q'⟩
  |cont=>obtain⟨σ',H8,I8,q'⟩:=q;exact⟨_,_,I8.unhnd J6,q'⟩
  |ret v=>obtain⟨x',σ',H8,I8,r',q'⟩:=q;exact⟨x',_,_,I8.unhnd J6,r',q'⟩
 ·cases f with
  |next=>obtain⟨σ',H',I',q'⟩:=q;exact wpAny_execs_nil ⟨σ',H',I'.without,q'⟩
  |brk=>obtain⟨σ',H',I',q'⟩:=q;exact⟨σ',H',I'.without,q'⟩
  |cont=>obtain⟨σ',H',I',q'⟩:=q;exact⟨σ',H',I'.without,q'⟩
  |ret v=>obtain⟨x',σ',H',I',r',q'⟩:=q;exact⟨x',σ',H',I'.without,r',q'⟩
end
end L2
namespace TK
open PySem L2
def cN(t u:List Nd):Prop:=∀m∈t,∀n∈u,m.num=n.num→(m.st=none↔n.st=none)
def iO{α:Type}(l:List α)(p:α→Prop)(x:α):Prop:=∃a b,l=a++x::b∧(∀y∈a,¬p y)∧p x
theorem lR(o:Option Int):decide (stV o=V.non)=decide (o=none):=by cases o<;>simp[stV]
section
variable{P:Program}{w:World}{K:PySem.W.Frag}{mg:Str→Option Value}{base:Heap}
def sT(CN:Addr):Sp:=λvs H Q E=>∃t u zs us,vs=[.ref t,.ref u]∧Tre H t zs∧Tre H u us∧(∀z∈zs,-1≤z.2.num∧z.2.num≤99)∧(cN (nds zs) (nds us)→∀H',Same H H'→Q .non H')∧(¬cN (nds zs) (nds us)→∀H',Same H H'→E (.ref CN) none H')
theorem qg:FnScope ["old","new","goal","node","number"] ["old","new"] (ah eN):=fsc
theorem xE{f CN:Addr}{fd:FuncData}(F:Fun K "check_kinds" "check_kinds" eN f fd)(O:nG "NoMatch" mg base CN)(CB:Has P w K mg base 1 "by_number" ["tree"] fG):FnOk P w K mg base (CX1 P w) 2 f fd ["old","new"] (sT CN):=by
 obtain⟨fB,fdB,GB,mB,kB,bB⟩:=CB;refine F.okX qg (λvs H Q E h=>?_) (λcdv A outer s H vs Q E hr h=>?_)
 ·obtain⟨t,u,zs,us,rfl,_⟩:=h;rfl
 ·obtain⟨t,u,zs,us,rfl,tr,ur,hb,qo,qE⟩:=h;have ul:=ur.len;have und:=aH ur.tr;refine⟨_,ae (ap (i:=2) qg.nd rfl (Or.inl rfl) (ak GB hr rfl mB kB bB .nil aI (aa (pv 1) af)))
   (aj (dh (xb cr) rfl (cS (pv 0)) (aG (i:=3) qg.nd rfl (Or.inl rfl))
    (ae (ap (i:=4) qg.nd rfl (Or.inl rfl) (av aq (pv 3) ai (λ_ _=>rfl)))
    (aj (aW (PW.pt (pw_and (cc (dF (aN hr) (pv 4) (pv 2))) (pw_and1 (am cU (gC eK (av aq (pv 3) ai (λ_ _=>rfl)) bJ (aw _)) (gC eK (av aq (aV (aN hr) (pv 2) (pv 4) (λ_ _=>rfl)) ai (λ_ _=>rfl)) bJ (aw _)) (aw _)))))
     (aj (dW cr O hr.hd rfl (fg (di (c:=100) (by decide +kernel) (uY (pv 4) (di (c:=100) (by decide +kernel) gS))) (by decide)))) aB))))),?_⟩
  refine⟨_,rfl,u,us,rfl,ur.tup,ur.nod,by omega,und,λd H1 s1 nd1=>?_⟩;have tr1:=tr.same s1;have ur1:=ur.same s1;refine⟨_,rfl,t,rfl,⟨_,SqT.of tr1.tup⟩,hX (xs:=ba zs) (λi σ H'=>(∃x3 x4,σ=[some (.ref t),some (.ref u),some (.ref d),x3,x4])∧H'=H1∧∀z∈zs.take i,∀n∈nds us,z.2.num=n.num→(z.2.st=none↔n.st=none)) ⟨⟨_,_,rfl⟩,rfl,by simp⟩ (λi σ H' _ h=>by rw[h.2.1];exact SqT.of tr1.tup) (λi x σ H' hx h=>?_) (λσ H' h=>?_)⟩
  ·obtain⟨⟨x3,x4,rfl⟩,rfl,hi⟩:=h;obtain⟨z,gz,rfl⟩:=cZ hx;have mz:=mem_of_getElem? gz;have az:SqT K H' z.1 (vals z.2):=SqT.of (tr1.nod z mz);have et:zs.take (i+1)=zs.take i++[z]:=bG gz;have step:(∀n∈nds us,z.2.num=n.num→(z.2.st=none↔n.st=none))→∀y∈zs.take (i+1),∀n∈nds us,y.2.num=n.num→(y.2.st=none↔n.st=none):=λh y hy=>by
    rw[et]at hy;rcases mem_append.mp hy with hy|hy
    ·exact hi y hy
    ·have e:y=z:=mem_singleton.mp hy;subst e;exact h
   refine⟨_,rfl,z.1,_,_,_,rfl,rfl,az,at0 z.2,?_⟩;obtain⟨ov,g,e1⟩:=nd1.is und z.2.num;refine⟨_,rfl,_,rfl,d,_,rfl,g,_,rfl,?_⟩;rw[e1];cases hb':inU us z.2.num with
   |false =>
    refine aE (aE ⟨⟨_,_,rfl⟩,rfl,step λn hn e=>?_⟩);have:inU us z.2.num=true:=du.mpr ⟨n,hn,e.symm⟩;rw[hb']at this;cases this
   |true =>
    obtain⟨n,hn,en⟩:=du.mp hb';obtain⟨y,hy,rfl⟩:=bf hn;have gy:=nd1.get und hy;rw[en]at gy;refine aQ ⟨_,rfl,z.1,_,_,_,rfl,rfl,az,at3 z.2,rfl,_,rfl,_,rfl,d,_,rfl,gy,y.1,_,_,_,rfl,rfl,SqT.of (ur1.nod y hy),at3 y.2,rfl,rfl,_,rfl,?_⟩;rw[lR,lR]
    by_cases hk:(z.2.st=none↔y.2.st=none)
    ·have:decide (V.bl (decide (z.2.st=none))=V.bl (decide (y.2.st=none)))=true:=by
      rw[decide_eq_true_iff]
      congr 1
      exact decide_eq_decide.mpr hk
     rw[this];refine aE ⟨⟨_,_,rfl⟩,rfl,step λn hn e=>?_⟩;have:n=y.2:=ur.tr.inj hn (aA hy) (e.symm.trans en.symm);subst this;exact hk
    ·have:decide (V.bl (decide (z.2.st=none))=V.bl (decide (y.2.st=none)))=false:=by
      rw[decide_eq_false_iff_not];intro h;injection h with h
      exact hk (decide_eq_decide.mp h)
     rw[this];refine aQ ⟨_,rfl,_,rfl,(hb z mz).1,(hb z mz).2,λy'=>⟨au (show 1≤1000 by decide),qE (λh=>hk (h _ (aA mz) _ (aA hy) en.symm)) H' s1⟩⟩
  ·obtain⟨⟨x3,x4,rfl⟩,rfl,hi⟩:=h;refine qo (λm hm n hn e=>?_) _ s1;obtain⟨z,hz,rfl⟩:=bf hm;exact hi z (by rw[cf,take_length];exact hz) n hn e
def sU:Sp:=λvs H Q _=>∃t d zs us,vs=[.ref t,.ref d]∧Tre H t zs∧gU H d us∧((nds us).map (·.num)).Nodup ∧
 (∀x,iO (nds zs) (TW.cA (nds zs) (nds us)) x→∀r H',Same H H'→H' r=some (.tup (aR (.drop x.num)))→Q (.ref r) H')∧((∀x∈nds zs,¬TW.cA (nds zs) (nds us) x)→∀H',Same H H'→Q .non H')
theorem sV:FnScope ["now","goal","needed","node"] ["now","goal"] (ah gp):=fsc
theorem xF{f:Addr}{fd:FuncData}(F:Fun K "next_drop" "next_drop" gp f fd)(T:Txt mg)(CN:Has P w K mg base 2 "nodes_needed" ["now","goal"] sS):FnOk P w K mg base CX0 3 f fd ["now","goal"] sU:=by
 obtain⟨fN,fdN,GN,mN,kN,bN⟩:=CN;obtain⟨tt,hT⟩:=T.top;refine F.ok sV (λvs H Q E h=>?_) (λcdv A outer s H vs Q E hr h=>?_)
 ·obtain⟨t,d,zs,us,rfl,_⟩:=h;rfl
 ·obtain⟨t,d,zs,us,rfl,tr,hd,hun,q1,q2⟩:=h;refine⟨_,ae (ap (i:=2) sV.nd rfl (Or.inl rfl) (ak GN hr rfl mN kN bN .nil aI (aa (pv 0) (aa (pv 1) af))))
   (ae (dh PassesOwn.never rfl (cS (pv 0)) (aG (i:=3) sV.nd rfl (Or.inl rfl))
    (aj (aW (PW.pt (pw_and (cc (cC (aN hr) (av aq (pv 3) ai (λ_ _=>rfl)) (pv 2))) (pw_and1 (PW.pt (pw_or (am cv (av aq (pv 3) ai (λ_ _=>rfl)) (cb (v:=.int 0) rfl hT ⟨_,rfl⟩) (aw _)) (pw_or1 (cc (dF (aN hr) (av aq (pv 3) ai (λ_ _=>rfl)) (pv 1)))))))))
     (aj (ax (bn (aa aC (aa (av aq (pv 3) ai (λ_ _=>rfl)) af))))) aB)))
   (aj (ax bJ))),?_⟩
  refine⟨_,rfl,_,rfl,t,d,zs,us,rfl,tr,hd,hun,λe ks H1 s1 he hk=>?_⟩;have tr1:=tr.same s1;have hd1:=hd.same s1;refine⟨_,rfl,t,rfl,⟨_,SqT.of tr1.tup⟩,hX (xs:=ba zs) (λi σ H'=>(∃x3,σ=[some (.ref t),some (.ref d),some (.ref e),x3])∧H'=H1∧∀x∈(nds zs).take i,¬TW.cA (nds zs) (nds us) x) ⟨⟨_,rfl⟩,rfl,by simp⟩ (λi σ H' _ h=>by rw[h.2.1];exact SqT.of tr1.tup) (λi x σ H' hx h=>?_) (λσ H' h=>?_)⟩
  ·obtain⟨⟨x3,rfl⟩,rfl,hi⟩:=h;obtain⟨z,gz,rfl⟩:=cZ hx;have mz:=mem_of_getElem? gz;have az:SqT K H' z.1 (vals z.2):=SqT.of (tr1.nod z mz);have gz':(nds zs)[i]?=some z.2:=by unfold nds;rw[getElem?_map,gz];rfl
   have et:(nds zs).take (i+1)=(nds zs).take i++[z.2]:=bG gz';have step:¬TW.cA (nds zs) (nds us) z.2→∀y∈(nds zs).take (i+1),¬TW.cA (nds zs) (nds us) y:=λh y hy=>by
    rw[et]at hy;rcases mem_append.mp hy with hy|hy
    ·exact hi y hy
    ·have e':y=z.2:=mem_singleton.mp hy;rw[e'];exact h
   have won:TW.cA (nds zs) (nds us) z.2→iO (nds zs) (TW.cA (nds zs) (nds us)) z.2:=λh=>by
    refine⟨(nds zs).take i,(nds zs).drop (i+1),?_,hi,h⟩;have:=take_append_drop (i+1) (nds zs);rw[et,append_assoc]at this;exact this.symm
   refine⟨_,rfl,z.1,_,_,_,rfl,rfl,az,at0 z.2,_,rfl,e,_,rfl,dA.k (k:=Sum.inl z.2.num) he,_,rfl,?_⟩;rw[jL]
   by_cases hin:z.2.num∈ks
   ·rw[decide_eq_true hin];exact aE (aE ⟨⟨_,rfl⟩,rfl,step λh=>h.1 ((hk _).mp hin)⟩)
   ·rw[decide_eq_false hin];have hnn:¬TW.rk (nds zs) (nds us) z.2.num:=λh=>hin ((hk _).mpr h);refine aQ ⟨_,rfl,z.1,_,_,_,rfl,rfl,az,at1 z.2,rfl,_,rfl,?_⟩
    by_cases hp:z.2.par=0
    ·rw[show decide (V.int z.2.par=V.int 0)=true by simp[hp]];refine aQ (aQ ⟨_,rfl,z.1,_,_,_,rfl,rfl,az,at0 z.2,le2,λr hr'=>?_⟩);exact q1 z.2 (won ⟨hnn,.inl hp⟩) r _ (s1.trans (ag hr')) ac
    ·rw[show decide (V.int z.2.par=V.int 0)=false by simp[hp]];obtain⟨ov,g,e1⟩:=hd1.is hun z.2.par;refine aE ⟨_,rfl,z.1,_,_,_,rfl,rfl,az,at1 z.2,_,rfl,d,_,rfl,g,_,rfl,?_⟩;rw[e1];cases hb':inU us z.2.par with
     |true =>
      refine aQ ⟨_,rfl,z.1,_,_,_,rfl,rfl,az,at0 z.2,le2,λr hr'=>?_⟩;exact q1 z.2 (won ⟨hnn,.inr (du.mp hb')⟩) r _ (s1.trans (ag hr')) ac
     |false =>
      refine aE ⟨⟨_,rfl⟩,rfl,step λh=>?_⟩;rcases h.2 with h|h
      ·exact hp h
      ·rw[du.mpr h]at hb';cases hb'
  ·obtain⟨⟨x3,rfl⟩,rfl,hi⟩:=h;refine q2 (λx hx=>hi x ?_) _ s1;rw[cf,show zs.length=(nds zs).length by unfold nds;rw[length_map],take_length];exact hx
structure TreR(mg:Str→Option Value)(K:PySem.W.Frag)(cls:TW.Wd→Addr)(D:Addr):Prop where
 tre:mg "TreeError"=some (.ref D)
 base:PySem.W.ktsIn K D "BaseException"=true
 sub:∀wd,subIn K (.ref (cls wd)) (.ref D)=some true
def sW:Sp:=λvs H Q _=>∃t d zs dd,vs=[.ref t,.ref d]∧Tre H t zs∧zs.length≤29∧H d=some (.tup (aR dd))∧cp dd∧(∀us,TW.Told (nds zs) dd (.inr us)→∀H',Same H H'→Q (.bl false) H')∧∀wd,TW.Told (nds zs) dd (.inl wd)→∀H',Same H H'→Q (.bl true) H'
theorem yO:FnScope ["tree","deed"] ["tree","deed"] (ah fi):=fsc
theorem xG{f D:Addr}{fd:FuncData}{cls:TW.Wd→Addr}(F:Fun K "is_refused" "is_refused" fi f fd)(L:TreR mg K cls D)(CD:eM P w K mg base 4 "done" ["tree","deed"] (lQ cls)):FnOk P w K mg base CX0 5 f fd ["tree","deed"] sW:=by
 obtain⟨fD,fdD,GD,mD,kD,bD⟩:=CD;refine F.ok yO (λvs H Q E h=>?_) (λcdv A outer s H vs Q E hr h=>?_)
 ·obtain⟨t,d,zs,dd,rfl,_⟩:=h;rfl
 ·obtain⟨t,d,zs,dd,rfl,tr,hz,hd,hok,q1,q2⟩:=h;refine⟨_,ae (ve (T:=D) ⟨λ_ _ h=>h,rfl,rfl⟩ (λpl xe E hx _=>aj (bz (ak GD hr rfl mD kD bD .nil hx (aa (pv 0) (aa (pv 1) af))))) (λpl v=>aj (ax gJ)) rfl L.tre L.base) (aj (ax gJ)),?_⟩;refine⟨_,rfl,_,rfl,t,d,dd,zs,rfl,tr,hz,hd,hok,⟨λus t' H1 s1 ht' hA told=>?_,λwd H1 s1 told=>⟨_,rfl,L.sub wd,λea σ' hσ hea=>?_⟩⟩⟩
  ·exact q1 _ told H1 s1
  ·exact q2 wd told _ (s1.trans (ag hea))
end
abbrev ZD:=List (Addr×TW.Deed Str)
abbrev aU(ds:ZD):List V:=ds.map λx=>V.ref x.1
def eD(H:Hp)(ds:ZD):Prop:=∀x∈ds,H x.1=some (.tup (aR x.2))
theorem eD.same{H H':Hp}{ds:ZD}(h:eD H ds)(s:Same H H'):eD H' ds:=λx hx=>s _ _ (h x hx)
theorem nM{t:List Nd}:∀{u:List Nd}{ds:List (TW.Deed Str)},TW.Plcs t u ds→ds.length≤u.length:=λh=>by
 induction h with
 |nil=>exact le_refl _
 |skip _ _ ih=>rw[length_append];omega
 |take _ _ ih=>rw[length_append,length_append];simp;omega
section
variable{P:Program}{w:World}{K:PySem.W.Frag}{mg:Str→Option Value}{base:Heap}
def sX:Sp:=λvs H Q _=>∃t u zs us,vs=[.ref t,.ref u]∧Tre H t zs∧Tre H u us∧∀l ds H',Same H H'→H' l=some (.lst (aU ds))→eD H' ds→TW.Plcs (nds zs) (nds us) (ds.map (·.2))→Q (.ref l) H'
theorem nN:FnScope ["now","new","nodes","deeds","node","number"] ["now","new"] (ah gW):=fsc
theorem xH{f:Addr}{fd:FuncData}(F:Fun K "placings" "placings" gW f fd)(CB:Has P w K mg base 1 "by_number" ["tree"] fG):FnOk P w K mg base CX0 2 f fd ["now","new"] sX:=by
 obtain⟨fB,fdB,GB,mB,kB,bB⟩:=CB;refine F.ok nN (λvs H Q E h=>?_) (λcdv A outer s H vs Q E hr h=>?_)
 ·obtain⟨t,u,zs,us,rfl,_⟩:=h;rfl
 ·obtain⟨t,u,zs,us,rfl,tr,ur,q⟩:=h;have hl:=tr.len;have ul:=ur.len;have hnd:=aH tr.tr;refine⟨_,ae (ap (i:=2) nN.nd rfl (Or.inl rfl) (ak GB hr rfl mB kB bB .nil aI (aa (pv 0) af)))
   (ae (ap (i:=3) nN.nd rfl (Or.inl rfl) (bx af))
   (ae (dh PassesOwn.never rfl (cS (pv 1)) (aG (i:=4) nN.nd rfl (Or.inl rfl))
    (ae (ap (i:=5) nN.nd rfl (Or.inl rfl) (av aq (pv 4) ai (λ_ _=>rfl)))
    (aj (aW (cc (cC (aN hr) (pv 5) (pv 2)))
     (aj (bz (dL plainAttrs_list PySem.F.slot_list_append PySem.F.type_list_append bA (pv 3) (aa (aK dm (bn (aa aC af)) (pv 4)) af))))
     (aj (aW (am (sP (aN hr)) (bX cT (aV (aN hr) (pv 2) (pv 5) (λ_ _=>rfl)) (bv ai) (bv ai)) (bX cT (pv 4) (bv ai) (bv ai)) (aw _))
      (aj (bz (dL plainAttrs_list PySem.F.slot_list_append PySem.F.type_list_append bA (pv 3) (aa (aK dm (bn (aa aC af)) (bX cT (pv 4) cW (bv ai))) af)))) aB))))))
   (aj (ax (pv 3))))),?_⟩
  refine⟨_,rfl,t,zs,rfl,tr.tup,tr.nod,by omega,hnd,λn H1 s1 nd1=>⟨zero_le _,λl hl0=>?_⟩⟩;have s2:=ag (o:=.lst []) hl0;have gl:upd H1 l (.lst []) l=some (.lst (aU [])):=ac;have tr1:=tr.same s1;have ur1:=ur.same s1;refine⟨_,rfl,u,rfl,⟨_,SqT.of (s2 _ _ ur1.tup)⟩,hX (xs:=ba us) (λi σ H'=>∃x4 x5,∃ds:ZD,σ=[some (.ref t),some (.ref u),some (.ref n),some (.ref l),x4,x5]∧Same H1 H'∧H' l=some (.lst (aU ds))∧eD H' ds∧(∀x∈ds,x.1≠l)∧TW.Plcs (nds zs) ((nds us).take i) (ds.map (·.2)))
   ⟨_,_,[],rfl,s2,gl,(λx h=>nomatch h),(λx h=>nomatch h),by rw[List.take_zero];exact .nil⟩ (λi σ H' _ h=>?_) (λi x σ H' hx h=>?_) (λσ H' h=>?_)⟩
  ·obtain⟨x4,x5,ds,rfl,s3,_⟩:=h;exact SqT.of (s3 _ _ ur1.tup)
  ·obtain⟨x4,x5,ds,rfl,s3,hL,hD,hne,hP⟩:=h;obtain⟨y,gy,rfl⟩:=cZ hx;have my:=mem_of_getElem? gy;have gy':(nds us)[i]?=some y.2:=by unfold nds;rw[getElem?_map,gy];rfl
   have et:(nds us).take (i+1)=(nds us).take i++[y.2]:=bG gy';have ay:=s3 _ _ (ur1.nod y my);have hdl:ds.length≤30:=by
    have h1:=nM hP;rw[length_map,length_take]at h1;have h2:(nds us).length=us.length:=by unfold nds;rw[length_map]
    omega
   have put:∀(H3:Hp)(d:TW.Deed Str)(c:Addr),Same H' H3→H3 c=some (.tup (aR d))→TW.Plc (nds zs) y.2 (some d)→∃x4 x5,∃ds':ZD,[some (V.ref t),some (.ref u),some (.ref n),some (.ref l),some (.ref y.1),some (.int y.2.num)]=[some (.ref t),some (.ref u),some (.ref n),some (.ref l),x4,x5]∧Same H1 (upd H3 l (.lst (aU ds++[.ref c])))∧(upd H3 l (.lst (aU ds++[.ref c]))) l=some (.lst (aU ds'))∧eD (upd H3 l (.lst (aU ds++[.ref c]))) ds'∧(∀x∈ds',x.1≠l)∧TW.Plcs (nds zs) ((nds us).take (i+1)) (ds'.map (·.2)):=λH3 d c s4 hc hp=>by
    have hcl:c≠l:=λz=>by rw[z,s4 _ _ hL]at hc;cases hc
    refine⟨_,_,ds++[(c,d)],rfl,λb o e=>?_,by rw[ac];unfold aU;rw[map_append];rfl,λx hx=>?_,λx hx=>?_,by rw[et,map_append];exact .take hP hp⟩
    ·rw[ao (λz=>by rw[z,hl0]at e;cases e)];exact s4 _ _ (s3 _ _ e)
    ·rcases mem_append.mp hx with hx|hx
     ·rw[ao (hne x hx)];exact s4 _ _ (hD x hx)
     ·have:x=(c,d):=mem_singleton.mp hx;rw[this,ao hcl];exact hc
    ·rcases mem_append.mp hx with hx|hx
     ·exact hne x hx
     ·have:x=(c,d):=mem_singleton.mp hx;rw[this];exact hcl
   refine⟨_,rfl,y.1,_,_,_,rfl,rfl,SqT.of ay,at0 y.2,?_⟩;obtain⟨ov,g,e1⟩:=(nd1.same s3).is hnd y.2.num;refine⟨_,rfl,_,rfl,n,_,rfl,g,_,rfl,?_⟩;rw[e1];cases hb':inU zs y.2.num with
   |false =>
    have hnew:¬TW.aM (nds zs) y.2.num:=λh=>by rw[du.mpr h]at hb';cases hb'
    refine aQ ⟨_,rfl,.inl ⟨rfl,_,SqL.of hL⟩,(show 1≤sizeLine from au (by decide)),λc1 h1=>?_⟩;have s4:=ag (o:=.tup [.str "make"]) h1;refine⟨_,rfl,c1,y.1,_,_,rfl,rfl,SqT.of ac,SqT.of (s4 _ _ ay),by simp,(show 5≤sizeLine from au (by decide)),λh=>absurd h (by unfold vals;simp),λ_ c hc=>?_⟩;have s5:=s4.trans (ag (o:=.tup (aR (.make y.2.num y.2.par y.2.nm y.2.st))) hc);refine⟨l,_,_,rfl,rfl,s5 _ _ hL,aJ (by unfold aU;rw[length_map];omega),?_⟩;exact put _ (.make y.2.num y.2.par y.2.nm y.2.st) c s5 ac (.new hnew)
   |true =>
    obtain⟨m,hm,em⟩:=du.mp hb';obtain⟨z,hz,rfl⟩:=bf hm;have gz:=(nd1.same s3).get hnd hz;rw[em]at gz;have az:=s3 _ _ (tr1.nod z hz);have ecut:∀n:Nd,dz (vals n) (some 1) (some 3)=[.int n.par,.str n.nm]:=λn=>rfl;have e3:∀n:Nd,dz (vals n) none (some 3)=[.int n.num,.int n.par,.str n.nm]:=λn=>rfl;refine aE ⟨_,rfl,_,rfl,n,_,rfl,gz,_,rfl,_,rfl,z.1,_,rfl,SqT.of az,(by intro h;exact absurd h.1 (show ¬HT.sIx 4 0 (some 1)=0 by decide)),λc1 h1=>?_⟩;rw[ecut];have s4:=ag (o:=.tup [.int z.2.par,.str z.2.nm]) h1;have k1:upd H' c1 (.tup [.int z.2.par,.str z.2.nm]) c1=some (.tup [.int z.2.par,.str z.2.nm]):=ac;generalize upd H' c1 (.tup [.int z.2.par,.str z.2.nm])=H4 at s4 k1⊢;refine⟨_,rfl,_,rfl,_,rfl,y.1,_,rfl,SqT.of (s4 _ _ ay),(by intro h;exact absurd h.1 (show ¬HT.sIx 4 0 (some 1)=0 by decide)),λc2 h2=>?_⟩;rw[ecut];have s5:=s4.trans (ag (o:=.tup [.int y.2.par,.str y.2.nm]) h2);have k2:upd H4 c2 (.tup [.int y.2.par,.str y.2.nm]) c2=some (.tup [.int y.2.par,.str y.2.nm]):=ac;have k1':=bj (o:=.tup [.int y.2.par,.str y.2.nm]) h2 k1;generalize upd H4 c2 (.tup [.int y.2.par,.str y.2.nm])=H5 at s5 k1' k2⊢;have f2:∀(a:Int)(b:Str),∀v∈[V.int a,.str b],eA v=true:=λa b v hv=>by
     rcases mem_cons.mp hv with e|hv
     ·rw[e];rfl
     ·rw[mem_singleton.mp hv];rfl
    refine⟨some [.int z.2.par,.str z.2.nm],some [.int y.2.par,.str y.2.nm],.inr ⟨c1,_,rfl,k1',rfl,f2 _ _⟩,.inr ⟨c2,_,rfl,k2,rfl,f2 _ _⟩,_,rfl,?_⟩
    by_cases hsame:z.2.par=y.2.par∧z.2.nm=y.2.nm
    ·rw[show decide ((some [V.int z.2.par,.str z.2.nm]:Option (List V))=some [.int y.2.par,.str y.2.nm])=true by rw[decide_eq_true_iff,hsame.1,hsame.2]];refine aE ⟨_,_,ds,rfl,s3.trans s5,s5 _ _ hL,hD.same s5,hne,?_⟩;rw[et];exact .skip hP (.no (aA hz) em hsame.1 hsame.2)
    ·rw[show decide ((some [V.int z.2.par,.str z.2.nm]:Option (List V))=some [.int y.2.par,.str y.2.nm])=false by
      rw[decide_eq_false_iff_not];intro h;injection h with h
      injection h with h1 h2
      injection h1 with h1
      injection h2 with h2
      injection h2 with h2
      exact hsame ⟨h1,h2⟩]
     refine aQ ⟨_,rfl,.inl ⟨rfl,_,SqL.of (s5 _ _ hL)⟩,(show 1≤sizeLine from au (by decide)),λc3 h3=>?_⟩;have s6:=s5.trans (ag (o:=.tup [.str "move"]) h3);have k3:upd H5 c3 (.tup [.str "move"]) c3=some (.tup [.str "move"]):=ac;generalize upd H5 c3 (.tup [.str "move"])=H6 at s6 k3⊢;refine⟨_,rfl,_,rfl,y.1,_,rfl,SqT.of (s6 _ _ ay),(by intro h;exact absurd h.2 (show ¬HT.sIx 4 4 (some 3)=4 by decide)),λc4 h4=>?_⟩;rw[e3];have s7:=s6.trans (ag (o:=.tup [.int y.2.num,.int y.2.par,.str y.2.nm]) h4);refine⟨c3,c4,_,_,rfl,rfl,SqT.of (bj h4 k3),SqT.of ac,by simp,(show 4≤sizeLine from au (by decide)),λh=>absurd h (by simp),λ_ c hc=>?_⟩;have s8:=s7.trans (ag (o:=.tup (aR (.move y.2.num y.2.par y.2.nm))) hc);refine⟨l,_,_,rfl,rfl,s8 _ _ hL,aJ (by unfold aU;rw[length_map];omega),?_⟩;exact put _ (.move y.2.num y.2.par y.2.nm) c s8 ac (.mv (aA hz) em hsame)
  ·obtain⟨x4,x5,ds,rfl,s3,hL,hD,_,hP⟩:=h;refine⟨_,rfl,q l ds _ (s1.trans s3) hL hD ?_⟩
   rwa [cf,show us.length=(nds us).length by unfold nds;rw[length_map],take_length]at hP
end
end TK
namespace TK
open PySem
def A26:Str:="abcdefghijklmnopqrstuvwxyz"
def ltr(i:Nat):Str:=⟨#[A26.cps.toList.getD i 0]⟩
def ix:Nat→Nat→Str
 |0,_=>""
 |_+1,0=>""
 |f+1,n+1=>ix f (n / 26)++ltr (n % 26)
def aP(n:Nat):Str:=ix 3 n
theorem oT(f:Nat):ix f 0="":=by cases f<;>rfl
theorem iy:A26.length=26:=by decide +kernel
theorem vf{i:Nat}(h:i<26):A26.cps.toList[i]?=some (A26.cps.toList.getD i 0):=by
 have:i<A26.cps.toList.length:=by
  have e:A26.cps.toList.length=26:=by decide +kernel
  rw[e];exact h
 rw[getD_eq_getElem?_getD,getElem?_eq_getElem this];rfl
theorem kY:∀(f n:Nat),(ix f n).length≤f
 |0,_=>by show("":Str).length≤0;decide +kernel
 |f+1,0=>by
  show("":Str).length≤f+1;have:("":Str).length=0:=by decide +kernel
  omega
 |f+1,n+1=>by
  have h1:=kY f (n / 26);have h2:(ix f (n / 26)++ltr (n % 26)).length=(ix f (n / 26)).length+(ltr (n % 26)).length:=strLen_append ..;have h3:(ltr (n % 26)).length=1:=rfl;show(ix f (n / 26)++ltr (n % 26)).length≤f+1;omega
theorem rl:∀j,j<70→(aP j).length≤3:=λj _=>kY 3 j
end TK
namespace L2
open PySem PySem.Spec PyProof.Rows
section
variable{X:Cx}
def bw(zs:List (Addr×Key×V)):List (Key×V):=zs.foldl (λm z=>cx m z.2.1 z.2.2) []
theorem oU{α:Type}[DecidableEq α](m:List (α×Value))(k:α)(v:Value):(stored m k v).length≤m.length+1:=by
 unfold stored
 split
 ·rw[length_map];omega
 ·rw[length_append];exact le_refl _
theorem eO{β:Type}(k:β→Key)(v:β→Value):∀(l:List β)(m:List (Key×Value)),(l.foldl (λm z=>stored m (k z) (v z)) m).length≤m.length+l.length
 |[],m=>le_refl _
 |a::l,m=>by
  rw[foldl_cons];have h1:=eO k v l (stored m (k a) (v a));have h2:=oU m (k a) (v a);rw[length_cons];omega
theorem kZ{f:Addr×Key×V→Value×Value}:∀{ys:List (Addr×Key×V)}{m:List (Key×V)}{n:List (Key×Value)},KV m n→(∀z∈ys,aX z.2.2 (f z).2)→KV (ys.foldl (λm z=>cx m z.2.1 z.2.2) m) (ys.foldl (λm z=>stored m z.2.1 (f z).2) n)
 |[],m,n,r,_=>r
 |z::ys,m,n,r,h=>by
  rw[foldl_cons,foldl_cons];exact kZ (r.put z.2.1 (h z mem_cons_self)) λy hy=>h y (mem_cons_of_mem _ hy)
theorem jM(hc:X.calm=true):dg X (.type "dict") (λxs H Q=>∃l,∃zs:List (Addr×Key×V),xs=[.ref l]∧H l=some (.lst ((zs.map (·.1)).map V.ref))∧(∀z∈zs,H z.1=some (.tup [kV z.2.1,z.2.2]))∧zs.length≤900∧∀d,H d=none→Q (.ref d) (upd H d (.dK (bw zs)))):=by
 intro pins s σ H xs us Q I r h;obtain⟨l,zs,rfl,hl,hk,hz,q⟩:=h;obtain⟨u,rfl,ru⟩:=fz r;cases ru;obtain⟨_,its,nl,rv,ho⟩:=I.hok l _ hl;have e:=dQ rv;subst e;obtain⟨f,hf⟩:=nv I (λz=>kV z.2.1) hk;have hsz:(((zs.map (·.1)).map Value.ref).toArray).size=zs.length:=by simp
 refine DL.fY (s:=s) (I.ok.hd hc) ho (λi=>(zs.getD i (0,.inl 0,.non)).1) (λi=>(f (zs.getD i (0,.inl 0,.non))).1) (λi=>(f (zs.getD i (0,.inl 0,.non))).2) (λi v hv=>ku hv) (λi hi=>?_)
  (λi h'=>h'.DictOf (bb X.prog X.w) s.heap.objs.size ((zs.take i).foldl (λm z=>stored m z.2.1 (f z).2) [])) (λh' hg _=>?_) (λi g g' hd hk=>?_) (λi s' E Q hi hd hq=>?_) λh' tk hd hkeep=>?_
 ·rw[hsz]at hi;exact(hf _ (dX hi).1).2.2
 ·exact⟨_,#[],0,hg,⟨rfl,rfl,rfl⟩,rfl,λ_ he=>by simp at he,Pairs.nil,nodup_nil⟩
 ·obtain⟨o,es,ep,ho,r⟩:=hd;exact⟨o,es,ep,hk _ o (le_refl _) ho,r⟩
 ·rw[hsz]at hi;obtain⟨hm,hg⟩:=dX (d:=((0,.inl 0,.non):Addr×Key×V)) hi;have hb:=eO (λz:Addr×Key×V=>z.2.1) (λz=>(f z).2) (zs.take i) [];rw[length_take,length_nil]at hb;have hle:((zs.take i).foldl (λm z=>stored m z.2.1 (f z).2) ([]:List (Key×Value))).length≤900:=by omega
  refine wpAny_dictSet_pairs (hsz:=by have:=aJ (n:=901) (by decide);omega) (k:=(zs.getD i (0,.inl 0,.non)).2.1) (gL (hf _ hm).1) hd λh' hd' hs=>hq h' _ (le_succ _) hs ?_;rw[bG hg,List.foldl_append];exact hd'
 ·rw[hsz,take_length]at hd;have hrel:KV (bw zs) (zs.foldl (λm z=>stored m z.2.1 (f z).2) []):=kZ .nil λz hz=>(hf z hz).2.1;have hb:=eO (λz:Addr×Key×V=>z.2.1) (λz=>(f z).2) zs [];rw[length_nil]at hb;have hlen:(bw zs).length≤900:=le_trans (le_of_eq (Paired.length hrel)) (le_trans hb (by omega));exact⟨.ref s.heap.objs.size,_,I.laid (t':=tk) (o:=.dK (bw zs)) hkeep (le_refl _) (jt (le_of_lt (aJ (by omega))) (beq_eq_false_iff_ne.mpr (symm (ne_of_lt I.big))) hrel hd),rfl,q _ (I.hok.fresh (le_refl _))⟩
end
end L2
namespace TK
open PySem L2
theorem vg(x:Str):x++("":Str)=x:=by
 apply ext';show x.cps ++ #[]=x.cps;simp
theorem vh(x:Str):("":Str)++x=x:=by
 apply ext';show #[]++x.cps=x.cps;simp
section
variable{P:Program}{w:World}{K:PySem.W.Frag}{mg:Str→Option Value}{base:Heap}
def sY:Sp:=λvs H Q _=>∃n:Nat,vs=[.int n]∧n<70∧Q (.str (aP n)) H
theorem nO:FnScope ["count","name","rest"] ["count"] (ah iM):=fsc
theorem xI{f:Addr}{fd:FuncData}(F:Fun K "name_at" "name_at" iM f fd)(T:Txt mg):FnOk P w K mg base CX0 1 f fd ["count"] sY:=by
 obtain⟨tl,hL⟩:=T.letters;refine F.ok nO (λvs H Q E h=>?_) (λcdv A outer s H vs Q E hr h=>?_)
 ·obtain⟨n,rfl,_⟩:=h;rfl
 ·obtain⟨n,rfl,hn,q⟩:=h;refine⟨_,ae (ap (i:=1) nO.nd rfl (Or.inl rfl) aC) (ae (ap (i:=2) nO.nd rfl (Or.inl rfl) (pv 0))
   (ae (dw PassesOwn.never (am vS (pv 2) ai (aw _))
    (ae (ap (i:=1) nO.nd rfl (Or.inl rfl) (aK ow (av wH (cb (v:=.str A26) rfl hL ⟨_,rfl⟩) (aK jn (aK rM (pv 2) ai) (aO ic rfl T.len boot_len (aa (cb (v:=.str A26) rfl hL ⟨_,rfl⟩) af))) (λ_ _=>rfl)) (pv 1)))
    (aj (ap (i:=2) nO.nd rfl (Or.inl rfl) (aK lw (aK rM (pv 2) ai) (aO ic rfl T.len boot_len (aa (cb (v:=.str A26) rfl hL ⟨_,rfl⟩) af)))))))
   (aj (ax (pv 1))))),?_⟩
  refine⟨_,rfl,?_⟩;dsimp only[bg,iY];refine eT (λσ H'=>∃(f r:Nat) (x:Str),σ=[some (.int n),some (.str x),some (.int r)]∧aP n=ix f r++x∧r<26 ^ f∧f≤3∧x.length≤3-f∧H'=H)
   (λσ H'=>match σ with | [_,_,some (.int k)]=>k.toNat | _=>0) ⟨3,n,"",rfl,?_,by show n<17576;omega,le_refl _,by decide +kernel,rfl⟩ (λσ H' h=>?_) ?_
  ·exact(vg _).symm
  ·obtain⟨f,r,x,rfl,e,hr',hf,hx,rfl⟩:=h;refine⟨_,rfl,_,_,rfl,rfl,_,rfl,?_⟩;cases r with
   |zero =>
    rw[show decide ((0:Int)<((0:Nat):Int))=false by decide];refine aE ⟨_,rfl,?_⟩;rw[oT]at e;have:aP n=x:=by rw[e];exact vh _
    rw[←this];exact q
   |succ m =>
    rw[show decide ((0:Int)<((m+1:Nat):Int))=true by rw[decide_eq_true_iff];omega];obtain⟨f',rfl⟩:∃f',f=f'+1:=by
     cases f with
     |zero=>rw[Nat.pow_zero]at hr';omega
     |succ f'=>exact⟨f',rfl⟩
    have ls:A26.length≤sizeLine:=by rw[iy];exact au (by decide)
    have e1:(((m+1:Nat):Int)-1) % (A26.length:Int)=((m % 26:Nat):Int):=by rw[iy];omega
    have e2:(((m+1:Nat):Int)-1) / (A26.length:Int)=((m / 26:Nat):Int):=by rw[iy];omega
    have p0:(0:Int)<(A26.length:Int):=by rw[iy];decide
    refine aQ ⟨_,rfl,_,_,rfl,rfl,_,rfl,ls,_,_,rfl,rfl,p0,A26,((m % 26:Nat):Int),_,rfl,congrArg V.int e1,ls,cX (vf (Nat.mod_lt _ (by decide))),_,rfl,_,_,rfl,rfl,?_,?_⟩
    ·have h1:(⟨#[A26.cps.toList.getD (m % 26) 0]⟩:Str).length=1:=rfl;rw[h1];exact au (by omega)
    refine⟨_,rfl,_,_,rfl,rfl,_,rfl,ls,_,_,rfl,rfl,⟨p0,by rw[iy];decide⟩,?_⟩;show bg 2 (V.int ((((m+1:Nat):Int)-1) / (A26.length:Int))) _ _ _;rw[e2];refine⟨⟨f',m / 26,_,rfl,?_,?_,by omega,?_,rfl⟩,?_⟩
    ·rw[e];show ix f' (m / 26)++ltr (m % 26)++x=_;rw[Str.append_assoc];rfl
    ·rw[Nat.pow_succ]at hr';omega
    ·have h1:((⟨#[A26.cps.toList.getD (m % 26) 0]⟩:Str)++x).length=(⟨#[A26.cps.toList.getD (m % 26) 0]⟩:Str).length+x.length:=strLen_append ..;have h2:(⟨#[A26.cps.toList.getD (m % 26) 0]⟩:Str).length=1:=rfl;omega
    ·show(((m / 26:Nat):Int)).toNat<(((m+1:Nat):Int)).toNat;omega
  ·rintro σ H1 Q1 Q2 m ⟨v,e,i,j,e1,e2,b,e3,q⟩;exact⟨v,e,i,j,e1,e2,b,e3,m _ _ q⟩
end
def dc(u:List Nd)(k:Int):Option Int:=((u.find? λy=>decide (y.num=k)).map λy=>y.st).getD none
theorem gF{u:List Nd}(hn:(u.map (·.num)).Nodup){y:Nd}(hy:y∈u):dc u y.num=y.st:=by
 unfold dc
 induction u with
 |nil=>cases hy
 |cons x r ih =>
  rw[map_cons,nodup_cons]at hn;rw[find?_cons]
  by_cases e:x.num=y.num
  ·rw[decide_eq_true e];rcases mem_cons.mp hy with h|h
   ·rw[h];rfl
   ·exact absurd (mem_map.mpr ⟨y,h,e.symm⟩) hn.1
  ·rw[decide_eq_false e];rcases mem_cons.mp hy with h|h
   ·rw[h]at e;exact absurd rfl e
   ·exact ih hn.2 h
def jX(t u:List Nd):List (TW.Deed Str):=(t.filter λn=>!decide (n.st=dc u n.num)).map λn=>.write n.num ((dc u n.num).getD 0)
theorem oV{a b:Option Int}:decide (stV a=stV b)=decide (a=b):=by
 cases a<;>cases b<;>simp[stV]
theorem qh(a b:Option Int):wC (stV a) (stV b)=true:=by cases a<;>cases b<;>rfl
section
variable{P:Program}{w:World}{K:PySem.W.Frag}{mg:Str→Option Value}{base:Heap}
def sZ:Sp:=λvs H Q _=>∃t u zs us,vs=[.ref t,.ref u]∧Tre H t zs∧Tre H u us∧(∀n∈nds zs,TW.aM (nds us) n.num)∧cN (nds zs) (nds us)∧∀l ds H',Same H H'→H' l=some (.lst (aU ds))→eD H' ds→ds.map (·.2)=jX (nds zs) (nds us)→Q (.ref l) H'
theorem wb:FnScope ["now","new","goal"] ["now","new"] (ah iw):=fsc
theorem xJ{f:Addr}{fd:FuncData}(F:Fun K "writes" "writes" iw f fd)(CB:Has P w K mg base 1 "by_number" ["tree"] fG):FnOk P w K mg base CX0 2 f fd ["now","new"] sZ:=by
 obtain⟨fB,fdB,GB,mB,kB,bB⟩:=CB;refine F.ok wb (λvs H Q E h=>?_) (λcdv A outer s H vs Q E hr h=>?_)
 ·obtain⟨t,u,zs,us,rfl,_⟩:=h;rfl
 ·obtain⟨t,u,zs,us,rfl,tr,ur,hin,sk,q⟩:=h;have hl:=tr.len;have ul:=ur.len;have und:=aH ur.tr;refine⟨_,ae (ap (i:=2) wb.nd rfl (Or.inr rfl) (ak GB hr rfl mB kB bB .nil aI (aa (pv 1) af)))
   (aj (ax (cY (N:=["node","goal"]) (cl:=[("goal",s.heap.objs.size+1)]) (k:=1) (js:=[2]) (g:=bg 0) rfl
     (LcOk.mk' ["goal"] rfl rfl (by decide +kernel) (by decide +kernel) ?hcl rfl (by decide +kernel)) rfl ?hj (cS (pv 0)) (λs H fp=>aG (i:=0) (show(["node","goal"]:List Str).Nodup by decide +kernel) rfl (Or.inl rfl) (Or.inr rfl))
     (λs H fp=>am cU (av (r:=cw K) aq (pv 0) ai (λ_ _=>rfl)) (av (r:=cw K) aq (aV (aN hr) (pv 1) (av (r:=cw K) aq (pv 0) ai (λ_ _=>rfl)) (λ_ _=>rfl)) ai (λ_ _=>rfl)) (aw _))
     (λs H fp=>bn (aa aC (aa (av (r:=cw K) aq (pv 0) ai (λ_ _=>rfl)) (aa (av (r:=cw K) aq (aV (aN hr) (pv 1) (av (r:=cw K) aq (pv 0) ai (λ_ _=>rfl)) (λ_ _=>rfl)) ai (λ_ _=>rfl)) af))))))),?_⟩
  case hcl =>
   intro y hy;rcases mem_cons.mp hy with e|hy
   ·rw[e];rfl
   ·cases hy
  case hj =>
   intro i j x h1 h2
   match i,h1,h2 with
   |0,h1,h2 =>
    cases h1;cases h2;exact⟨rfl,Or.inr (Or.inl rfl),(show((ah iw).names.lookup ("goal":Str)≠some NameKind.local)by decide +kernel),by first|exact Or.inl rfl|exact Or.inr rfl⟩
   |i+1,h1,h2=>simp at h1
  refine⟨_,rfl,u,us,rfl,ur.tup,ur.nod,by omega,und,λd H1 s1 nd1=>?_⟩;have tr1:=tr.same s1;have ur1:=ur.same s1;have goal:∀z∈zs,∃y∈us,y.2.num=z.2.num∧dc (nds us) z.2.num=y.2.st:=λz hz=>by
   obtain⟨m,hm,e⟩:=hin z.2 (aA hz);obtain⟨y,hy,rfl⟩:=bf hm;exact⟨y,hy,e,by rw[←e];exact gF und hm⟩
  refine⟨_,rfl,t,rfl,⟨_,SqT.of tr1.tup⟩,λp hp=>?_⟩;refine cy (fr:=[some (.ref d)]) zs (λz=>V.ref z.1) (by omega) hp (eG (by rw[cg];exact SqT.of tr1.tup)) rfl (λz=>!decide (z.2.st=dc (nds us) z.2.num)) (λz y H'=>∃q,y=.ref q∧q≠p∧H' q=some (.tup (aR (.write z.2.num ((dc (nds us) z.2.num).getD 0))))) (λz y H H' ⟨q,e,ne,h⟩ ex=>⟨q,e,ne,ex q _ ne h⟩) (λz H' k mz s2 _ hk=>?_) (λz H' k mz hg s2 hpl hk=>?_) (λys H2 s2 hp2 hys=>?_)
  ·obtain⟨y,hy,ey,es⟩:=goal z mz;have az:SqT K H' z.1 (vals z.2):=SqT.of (s2 _ _ (tr1.nod z mz));have gy:=(nd1.same s2).get und hy;rw[ey]at gy;refine⟨_,rfl,z.1,_,_,_,rfl,rfl,az,at3 z.2,_,rfl,_,rfl,z.1,_,_,_,rfl,rfl,az,at0 z.2,d,_,rfl,gy,y.1,_,_,_,rfl,rfl,SqT.of (s2 _ _ (ur1.nod y hy)),at3 y.2,qh _ _,_,rfl,?_⟩;rw[oV,←es];exact hk H' (Same.refl _)
  ·obtain⟨y,hy,ey,es⟩:=goal z mz;have az:SqT K H' z.1 (vals z.2):=SqT.of (s2 _ _ (tr1.nod z mz));have gy:=(nd1.same s2).get und hy;rw[ey]at gy;refine⟨_,rfl,z.1,_,_,_,rfl,rfl,az,at0 z.2,_,rfl,_,rfl,z.1,_,_,_,rfl,rfl,az,at0 z.2,d,_,rfl,gy,y.1,_,_,_,rfl,rfl,SqT.of (s2 _ _ (ur1.nod y hy)),at3 y.2,(show 3≤sizeLine from au (by decide)),λq hq=>?_⟩;refine hk _ _ (ag hq) ⟨q,rfl,dG hpl hq,?_⟩;rw[ac];have:stV y.2.st=.int ((dc (nds us) z.2.num).getD 0):=by
    rw[es];cases hs:y.2.st with
    |some i=>rfl
    |none =>
     exfalso
     have h1:=(sk _ (aA mz) _ (aA hy) ey.symm).mpr hs;rw[es,hs,h1]at hg;cases hg
   rw[this];rfl
  ·obtain⟨bs,e1,e2,e3⟩:=cM (val:=V.ref) (S:=λ(z:Addr×Nd) (q:Addr)=>H2 q=some (.tup (aR (.write z.2.num ((dc (nds us) z.2.num).getD 0))))) hys (λz y _ ⟨q,e,_,h⟩=>⟨q,e,h⟩);refine q p (bs.map λx=>(x.2,.write x.1.2.num ((dc (nds us) x.1.2.num).getD 0))) H2 (s1.trans s2) ?_ (λx hx=>?_) ?_
   ·rw[hp2,e2];unfold aU;rw[map_map];rfl
   ·obtain⟨y,hy,rfl⟩:=mem_map.mp hx;exact e3 y hy
   ·unfold jX nds;rw[map_map,filter_map,map_map];have:zs.filter ((λn:Nd=>!decide (n.st=dc (us.map (·.2)) n.num))∘λx:Addr×Nd=>x.2)=bs.map (·.1):=e1.symm;rw[this,map_map];rfl
end
theorem lg(ws:List (Addr×Key×V))(k:Key):∀m:List (Key×V),((ws.foldl (λm z=>cx m z.2.1 z.2.2) m).any λkv=>decide (kv.1=k))=((m.any λkv=>decide (kv.1=k))||ws.any λz=>decide (z.2.1=k)):=by
 induction ws with
 |nil=>intro m;simp
 |cons z r ih =>
  intro m;rw[foldl_cons,ih,any_cons];have:((cx m z.2.1 z.2.2).any λkv=>decide (kv.1=k))=((m.any λkv=>decide (kv.1=k))||decide (z.2.1=k)):=by
   rw[cP,fX,cP]
   by_cases e:k=z.2.1
   ·rw[if_pos e,decide_eq_true e.symm];simp
   ·rw[if_neg e,decide_eq_false (λh=>e h.symm)];simp
  rw[this,Bool.or_assoc]
def nP(t u:List Nd)(x:Str):Prop:=∃n,(n∈t∨n∈u)∧n.par=0∧n.nm=x
structure FreeN(t u:List Nd)(c:Nat):Prop where
 one:1≤c
 lt:c<70
 no:¬nP t u (aP c)
 all:∀j,1≤j→j<c→nP t u (aP j)
theorem qi{t u:List Nd}(hl:t.length+u.length≤60){c:Nat}(h:∀j,1≤j→j<c→nP t u (aP j)):c≤62:=by
 refine Classical.byContradiction λhc=>?_;have sub:∀x∈(List.range 61).map (λj=>aP (j+1)),x∈(t++u).map (·.nm):=λx hx=>by
  obtain⟨j,hj,rfl⟩:=mem_map.mp hx;rw[mem_range]at hj;obtain⟨n,hn,_,e⟩:=h (j+1) (by omega) (by omega);exact mem_map.mpr ⟨n,mem_append.mpr hn,e⟩
 have nd:((List.range 61).map (λj=>aP (j+1))).Nodup:=by decide +kernel
 have:=Nodup.length_le_of_subset nd sub;rw[length_map,length_range,length_map,length_append]at this;omega
def wc(K:PySem.W.Frag):R2:=λx y H Q=>(∃a b ys,x=.ref a∧y=.ref b∧SqT K H a []∧SqT K H b ys∧Q (.ref b) H)∨kh K x y H Q
theorem vi{X:Cx}:OpR X (binaryOp .Add) (wc X.K):=nc.or dm
theorem rn{K:PySem.W.Frag}{H:Hp}{t u:Addr}{zs us:ZN}(ht:H t=some (.tup (ba zs)))(hu:H u=some (.tup (ba us)))(hl:zs.length+us.length≤1000){G:VK}(h:∀c H1,Same H H1→H1 c=some (.tup (ba (zs++us)))→G (.ref c) H1):wc K (.ref t) (.ref u) H G:=by
 have er:ba (zs++us)=ba zs++ba us:=by unfold ba;rw[map_append,map_append]
 cases zs with
 |nil=>exact .inl ⟨t,u,_,rfl,rfl,SqT.of ht,SqT.of hu,h u H (Same.refl _) hu⟩
 |cons z r =>
  refine .inr ⟨t,u,_,_,rfl,rfl,SqT.of ht,SqT.of hu,by unfold ba;simp,by rw[cf,cf];exact au hl,λe=>h t H (Same.refl _) ?_,λ_ p hp=>h p _ (ag hp) ?_⟩
  ·rw[er,e,append_nil];exact ht
  ·rw[er];exact ac
section
variable{P:Program}{w:World}{K:PySem.W.Frag}{mg:Str→Option Value}{base:Heap}
def tf:Sp:=λvs H Q _=>∃t u zs us,vs=[.ref t,.ref u]∧Tre H t zs∧Tre H u us∧∀c H',Same H H'→FreeN (nds zs) (nds us) c→Q (.str (aP c)) H'
theorem qj:FnScope ["now","new","taken","count"] ["now","new"] (ah gs):=fsc
theorem xK{f:Addr}{fd:FuncData}(F:Fun K "free_name" "free_name" gs f fd)(T:Txt mg)(CN:Has P w K mg base 1 "name_at" ["count"] sY):FnOk P w K mg base CX0 2 f fd ["now","new"] tf:=by
 obtain⟨fN,fdN,GN,mN,kN,bN⟩:=CN;obtain⟨tt,hT⟩:=T.top;refine F.ok qj (λvs H Q E h=>?_) (λcdv A outer s H vs Q E hr h=>?_)
 ·obtain⟨t,u,zs,us,rfl,_⟩:=h;rfl
 ·obtain⟨t,u,zs,us,rfl,tr,ur,q⟩:=h;have hl:=tr.len;have ul:=ur.len;refine⟨_,ae (ap (i:=2) qj.nd rfl (Or.inl rfl) (bc (jM rfl) rfl T.dict boot_dict (aa (cY (N:=["node"]) (cl:=[]) (k:=1) (js:=[]) (g:=bg 0) rfl (eL rfl (by decide +kernel) (by decide +kernel) (by decide +kernel)) rfl (λi j x h=>by simp at h)
    (cS (aK vi (pv 0) (pv 1))) (λs H fp=>aG (i:=0) (show(["node"]:List Str).Nodup by decide +kernel) rfl (Or.inl rfl) (Or.inr rfl))
    (λs H fp=>am cv (av (r:=cw K) aq (pv 0) ai (λ_ _=>rfl)) (cb (v:=.int 0) rfl hT ⟨_,rfl⟩) (aw _)) (λs H fp=>bn (aa (av (r:=cw K) aq (pv 0) ai (λ_ _=>rfl)) (aa gJ af)))) af)))
   (ae (ap (i:=3) qj.nd rfl (Or.inl rfl) ai)
   (ae (dw PassesOwn.never (cc (dF (aN hr) (ak GN hr rfl mN kN bN .nil aI (aa (pv 3) af)) (pv 2))) (aj (wx (i:=3) qj.nd rfl (Or.inl rfl) ai uo)))
   (aj (ax (ak GN hr rfl mN kN bN .nil aI (aa (pv 3) af)))))),?_⟩
  have hA:At H (zs++us):=λz hz=>by
   rcases mem_append.mp hz with h|h
   ·exact tr.nod z h
   ·exact ur.nod z h
  have hlen:(zs++us).length≤60:=by rw[length_append];omega
  refine⟨_,rfl,_,rfl,rn (K:=K) tr.tup ur.tup (by rw[length_append]at hlen;omega) λc H1 s1 hc=>?_⟩;refine⟨c,rfl,⟨_,SqT.of hc⟩,λp hp=>?_⟩;refine cy (fr:=[]) (zs++us) (λz=>V.ref z.1) (by omega) hp (eG (by rw[cg];exact SqT.of hc)) rfl (λz=>decide (z.2.par=0)) (λz y H'=>∃q,y=.ref q∧q≠p∧H' q=some (.tup [.str z.2.nm,.bl true])) (λz y H H' ⟨q,e,ne,h⟩ ex=>⟨q,e,ne,ex q _ ne h⟩) (λz H' k mz s2 _ hk=>?_) (λz H' k mz hg s2 hpl hk=>?_) (λys H2 s2 hp2 hys=>?_)
  ·have az:SqT K H' z.1 (vals z.2):=SqT.of (s2 _ _ (s1 _ _ (hA z mz)));refine⟨_,rfl,z.1,_,_,_,rfl,rfl,az,at1 z.2,rfl,_,rfl,?_⟩;rw[show decide (V.int z.2.par=V.int 0)=decide (z.2.par=0)by rw[lx];rfl];exact hk H' (Same.refl _)
  ·have az:SqT K H' z.1 (vals z.2):=SqT.of (s2 _ _ (s1 _ _ (hA z mz)));exact⟨_,rfl,z.1,_,_,_,rfl,rfl,az,at2 z.2,le2,λq hq=>hk _ _ (ag hq) ⟨q,rfl,dG hpl hq,ac⟩⟩
  ·obtain⟨bs,e1,e2,e3⟩:=cM (val:=V.ref) (S:=λ(z:Addr×Nd) (q:Addr)=>H2 q=some (.tup [.str z.2.nm,.bl true])) hys (λz y _ ⟨q,e,_,h⟩=>⟨q,e,h⟩);have hbl:bs.length≤60:=by
    have h1:=congrArg length e1;rw[length_map]at h1;have h2:=length_filter_le (λz:Addr×Nd=>decide (z.2.par=0)) (zs++us);omega
   let ws:List (Addr×Key×V):=bs.map λx=>(x.2,(Sum.inr x.1.2.nm:Key),V.bl true)
   refine⟨p,ws,rfl,by rw[hp2,e2];show _=some (HO.lst (((bs.map λx=>(x.2,(Sum.inr x.1.2.nm:Key),V.bl true)).map (·.1)).map V.ref));rw[map_map,map_map];rfl,λz hz=>?_,by show(bs.map _).length≤900;rw[length_map];omega,λd hd=>?_⟩
   ·obtain⟨x,hx,rfl⟩:=mem_map.mp hz;exact e3 x hx
   have s3:=(s1.trans s2).trans (ag (o:=.dK (bw ws)) hd);have gd:upd H2 d (.dK (bw ws)) d=some (.dK (bw ws)):=ac;generalize upd H2 d (.dK (bw ws))=H3 at s3 gd⊢;have isT:∀x:Str,(br (bw ws) (Sum.inr x:Key)).isSome=true↔nP (nds zs) (nds us) x:=λx=>by
    rw[←cP];unfold bw;rw[lg,any_nil,Bool.false_or,any_eq_true];constructor
    ·rintro⟨z,hz,e⟩;obtain⟨y,hy,rfl⟩:=mem_map.mp hz;have hm:y.1∈(zs++us).filter (λz=>decide (z.2.par=0)):=by rw[←e1];exact mem_map.mpr ⟨y,hy,rfl⟩
     obtain⟨h1,h2⟩:=mem_filter.mp hm;have ex:y.1.2.nm=x:=by have:=of_decide_eq_true e;injection this
     refine⟨y.1.2,?_,of_decide_eq_true h2,ex⟩;rcases mem_append.mp h1 with h|h
     ·exact .inl (aA h)
     ·exact .inr (aA h)
    ·rintro⟨n,hn,h0,e⟩;obtain⟨z,hz,rfl⟩:∃z∈zs++us,z.2=n:=by
      rcases hn with hn|hn
      ·obtain⟨z,hz,e⟩:=bf hn;exact⟨z,mem_append_left _ hz,e⟩
      ·obtain⟨z,hz,e⟩:=bf hn;exact⟨z,mem_append_right _ hz,e⟩
     have hm:z∈bs.map (·.1):=by rw[e1];exact mem_filter.mpr ⟨hz,decide_eq_true h0⟩
     obtain⟨y,hy,rfl⟩:=mem_map.mp hm;exact⟨_,mem_map.mpr ⟨y,hy,rfl⟩,decide_eq_true (by rw[e])⟩
   have hll:(nds zs).length+(nds us).length≤60:=by unfold nds;rw[length_map,length_map];omega
   dsimp only[bg,iY];refine eT (λσ H'=>∃c:Nat,σ=[some (.ref t),some (.ref u),some (.ref d),some (.int c)]∧1≤c∧(∀j,1≤j→j<c→nP (nds zs) (nds us) (aP j))∧H'=H3)
    (λσ H'=>match σ with | [_,_,_,some (.int k)]=>70-k.toNat | _=>0) ⟨1,rfl,le_refl _,(λj h1 h2=>absurd h2 (by omega)),rfl⟩ (λσ H' h=>?_) ?_
   ·obtain⟨c,rfl,hc1,hall,rfl⟩:=h;have hc:=qi hll hall;refine⟨_,rfl,c,rfl,by omega,_,rfl,d,_,rfl,dA.k (k:=Sum.inr (aP c)) gd,_,rfl,?_⟩
    by_cases ht:nP (nds zs) (nds us) (aP c)
    ·rw[(isT _).mpr ht];refine aQ ⟨_,rfl,_,_,rfl,rfl,?_⟩;have hall':∀j,1≤j→j<c+1→nP (nds zs) (nds us) (aP j):=λj h1 h2=>by
      by_cases e:j=c
      ·rw[e];exact ht
      ·exact hall j h1 (by omega)
     refine⟨⟨c+1,by show[_,_,_,some (V.int ((c:Int)+1))]=_;rfl,by omega,hall',rfl⟩,?_⟩;have:=qi hll hall';show 70-((c:Int)+1).toNat<70-((c:Int)).toNat;omega
    ·have:(br (bw ws) (Sum.inr (aP c):Key)).isSome=false:=by
      cases h:(br (bw ws) (Sum.inr (aP c):Key)).isSome with
      |false=>rfl
      |true=>exact absurd ((isT _).mp h) ht
     rw[this];exact aE ⟨_,rfl,c,rfl,by omega,q c _ s3 ⟨hc1,by omega,ht,hall⟩⟩
   ·rintro σ H1 Q1 Q2 m ⟨v,e,n,e1,e2,v2,e3,a,o,e4,g,b,e5,q⟩;exact⟨v,e,n,e1,e2,v2,e3,a,o,e4,g,b,e5,m _ _ q⟩
end
def fk:TW.Deed Str→Bool
 |.move _ _ _=>true
 |_=>false
def ca:TW.Deed Str→Int
 |.make n _ _ _=>n
 |.write n _=>n
 |.move n _ _=>n
 |.drop n=>n
theorem tm(d:TW.Deed Str):∃x:Str,(aR d)[0]?=some (.str x)∧decide (x="move")=fk d:=by
 cases d
 ·exact⟨_,rfl,(show decide (("make":Str)="move")=false by decide +kernel)⟩
 ·exact⟨_,rfl,(show decide (("write":Str)="move")=false by decide +kernel)⟩
 ·exact⟨_,rfl,(show decide (("move":Str)="move")=true by decide +kernel)⟩
 ·exact⟨_,rfl,(show decide (("drop":Str)="move")=false by decide +kernel)⟩
theorem oW(d:TW.Deed Str):(aR d)[1]?=some (.int (ca d)):=by cases d<;>rfl
def de(ds:List (TW.Deed Str))(k:Int):Prop:=∃d∈ds,fk d=true∧ca d=k
def Okd(t:List Nd)(d:TW.Deed Str):Prop:=∃v,TW.Told t d (.inr v)
inductive Nxt(t u:List Nd)(ds:List (TW.Deed Str)):Option (TW.Deed Str)→Prop where
 |drop {x:Nd}:iO t (TW.cA t u) x→Nxt t u ds (some (.drop x.num))
 |place {ps:List (TW.Deed Str)} {d:TW.Deed Str}:(∀x∈t,¬TW.cA t u x)→TW.Plcs t u ps→iO ps (Okd t) d→Nxt t u ds (some d)
 |aside {ps:List (TW.Deed Str)} {d:TW.Deed Str} {c:Nat}:(∀x∈t,¬TW.cA t u x)→TW.Plcs t u ps→(∀d∈ps,¬Okd t d)→iO ps (λd=>fk d=true∧¬de ds (ca d)) d→FreeN t u c→Nxt t u ds (some (.move (ca d) 0 (aP c)))
 |no {ps:List (TW.Deed Str)}:(∀x∈t,¬TW.cA t u x)→TW.Plcs t u ps→(∀d∈ps,¬Okd t d)→(∀d∈ps,¬(fk d=true∧¬de ds (ca d)))→Nxt t u ds none
def cB(n:Nd):Prop:=1≤n.num∧n.num≤99∧0≤n.par∧n.par≤99∧n.nm.length≤100
theorem vj{t:List Nd}{u:List Nd}{ps:List (TW.Deed Str)}(h:TW.Plcs t u ps)(hu:∀n∈u,cB n):∀d∈ps,cp d:=by
 induction h with
 |nil=>intro d hd;cases hd
 |skip _ _ ih=>exact ih λn hn=>hu n (mem_append_left _ hn)
 |@take n u ds d _ hp ih =>
  intro e he;rcases mem_append.mp he with he|he
  ·exact ih (λn hn=>hu n (mem_append_left _ hn)) e he
  ·have:e=d:=mem_singleton.mp he;subst this;obtain⟨h1,h2,h3,h4,h5⟩:=hu n (mem_append_right _ (mem_singleton.mpr rfl));cases hp with
   |new _=>exact⟨h1,h2,h3,h4,h5⟩
   |mv _ _ _=>exact⟨h1,h2,h3,h4,h5⟩
theorem nQ{α β:Type}{ds:List (α×β)}{i:Nat}{x:α×β}{p:β→Prop}(hx:ds[i]?=some x)(hi:∀y∈ds.take i,¬p y.2)(h:p x.2):iO (ds.map (·.2)) p x.2:=by
 have et:ds.take (i+1)=ds.take i++[x]:=bG hx;refine⟨(ds.take i).map (·.2),(ds.drop (i+1)).map (·.2),?_,λy hy=>?_,h⟩
 ·have:=take_append_drop (i+1) ds;rw[et,append_assoc]at this
  conv=>lhs;rw[←this]
  rw[map_append];rfl
 ·obtain⟨z,hz,rfl⟩:=mem_map.mp hy;exact hi z hz
section
variable{P:Program}{w:World}{K:PySem.W.Frag}{mg:Str→Option Value}{base:Heap}
def we:Sp:=λvs H Q _=>∃t u l zs us ds,vs=[.ref t,.ref u,.ref l]∧Tre H t zs∧zs.length≤29∧Tre H u us∧(∀n∈nds us,cB n)∧H l=some (.lst (aU ds))∧eD H ds∧ds.length≤300 ∧
 (∀d r H',Nxt (nds zs) (nds us) (ds.map (·.2)) (some d)→Same H H'→H' r=some (.tup (aR d))→Q (.ref r) H')∧(Nxt (nds zs) (nds us) (ds.map (·.2)) none→∀H',Same H H'→Q .non H')
theorem lh:FnScope ["now","new","deeds","drop","left","deed","moved"] ["now","new","deeds"] (ah gu):=fsc
theorem xL{f:Addr}{fd:FuncData}(F:Fun K "next_deed" "next_deed" gu f fd)(T:Txt mg)(CB:Has P w K mg base 1 "by_number" ["tree"] fG)(CD:Has P w K mg base 3 "next_drop" ["now","goal"] sU)(CP:Has P w K mg base 2 "placings" ["now","new"] sX)(CR:Has P w K mg base 5 "is_refused" ["tree","deed"] sW)(CF:Has P w K mg base 2 "free_name" ["now","new"] tf):FnOk P w K mg base CX0 6 f fd ["now","new","deeds"] we:=by
 obtain⟨fB,fdB,GB,mB,kB,bB⟩:=CB;obtain⟨fD,fdD,GD,mD,kD,bD⟩:=CD;obtain⟨fP,fdP,GP,mP,kP,bP⟩:=CP;obtain⟨fR,fdR,GR,mR,kR,bR⟩:=CR;obtain⟨fF,fdF,GF,mF,kF,bF⟩:=CF;obtain⟨tt,hT⟩:=T.top;refine F.ok lh (λvs H Q E h=>?_) (λcdv A outer s H vs Q E hr h=>?_)
 ·obtain⟨t,u,l,zs,us,ds,rfl,_⟩:=h;rfl
 ·obtain⟨t,u,l,zs,us,ds,rfl,tr,hz,ur,uok,hL,hD,hdl,q1,q2⟩:=h;have hr1:Room 1 _:=hr.mono (by decide);have hr2:Room 2 _:=hr.mono (by decide);have hr3:Room 3 _:=hr.mono (by decide);have ul:=ur.len;have und:=aH ur.tr;refine⟨_,ae (ap (i:=3) lh.nd rfl (Or.inl rfl) (ak GD hr3 rfl mD kD bD .nil aI (aa (pv 0) (aa (ak GB hr1 rfl mB kB bB .nil aI (aa (pv 1) af)) af))))
   (ae (aW (am gB (pv 3) bJ (aw _)) (aj (ax (pv 3))) aB)
   (ae (ap (i:=4) lh.nd rfl (Or.inl rfl) (ak GP hr2 rfl mP kP bP .nil aI (aa (pv 0) (aa (pv 1) af))))
   (ae (dh PassesOwn.never rfl (ce (pv 4)) (aG (i:=5) lh.nd rfl (Or.inl rfl)) (aj (aW (jl (gQ (ak GR hr rfl mR kR bR .nil aI (aa (pv 0) (aa (pv 5) af))) (λ_=>rfl))) (aj (ax (pv 5))) aB)))
   (ae (ap (i:=6) lh.nd rfl (Or.inl rfl) (bc (jM rfl) rfl T.dict boot_dict (aa (cY (N:=["deed"]) (cl:=[]) (k:=1) (js:=[]) (g:=bg 0) rfl (eL rfl (by decide +kernel) (by decide +kernel) (by decide +kernel)) rfl (λi j x h=>by simp at h)
    (ce (pv 2)) (λs H fp=>aG (i:=0) (show(["deed"]:List Str).Nodup by decide +kernel) rfl (Or.inl rfl) (Or.inr rfl))
    (λs H fp=>am cv (av (r:=cw K) aq (pv 0) ai (λ_ _=>rfl)) aC (aw _)) (λs H fp=>bn (aa (av (r:=cw K) aq (pv 0) ai (λ_ _=>rfl)) (aa gJ af)))) af)))
   (ae (dh PassesOwn.never rfl (ce (pv 4)) (aG (i:=5) lh.nd rfl (Or.inl rfl)) (aj (aW (PW.pt (pw_and (am cv (av aq (pv 5) ai (λ_ _=>rfl)) aC (aw _)) (pw_and1 (cc (cC (aN hr) (av aq (pv 5) ai (λ_ _=>rfl)) (pv 6))))))
     (aj (ax (bn (aa aC (aa (av aq (pv 5) ai (λ_ _=>rfl)) (aa (cb (v:=.int 0) rfl hT ⟨_,rfl⟩) (aa (ak GF hr2 rfl mF kF bF .nil aI (aa (pv 0) (aa (pv 1) af))) af))))))) aB)))
   (aj (ax bJ))))))),?_⟩
  refine⟨_,rfl,_,rfl,u,us,rfl,ur.tup,ur.nod,by omega,und,λd H1 s1 nd1=>?_⟩;refine⟨t,d,zs,us,rfl,tr.same s1,nd1,und,λx hx r H2 s2 hr2'=>?_,λhno H2 s2=>?_⟩
  ·exact⟨_,rfl,rfl,_,rfl,aQ ⟨_,rfl,q1 _ r H2 (.drop hx) (s1.trans s2) hr2'⟩⟩
  ·have s12:=s1.trans s2;refine⟨_,rfl,rfl,_,rfl,aE ⟨_,rfl,_,rfl,t,u,zs,us,rfl,tr.same s12,ur.same s12,λk ps H3 s3 hk hA hP=>?_⟩⟩;have s13:=s12.trans s3;have pok:=vj hP uok;have pl:=nM hP;have pl2:ps.length≤30:=by
    rw[length_map]at pl;have h2:(nds us).length=us.length:=by unfold nds;rw[length_map]
    omega
   refine⟨_,rfl,k,rfl,⟨_,SqL.of hk⟩,eS (xs:=aU ps) (λi σ H'=>(∃x5,σ=[some (.ref t),some (.ref u),some (.ref l),some .non,some (.ref k),x5,none])∧Same H3 H'∧∀y∈ps.take i,¬Okd (nds zs) y.2) ⟨⟨_,rfl⟩,Same.refl _,by simp⟩ (λi σ H' _ h=>SqL.of (h.2.1 _ _ hk)) (λi x σ H' hx h=>?_) (λσ H4 h=>?_)⟩
   ·obtain⟨⟨x5,rfl⟩,s4,hi⟩:=h;obtain⟨y,gy,rfl⟩:∃y,ps[i]?=some y∧x=V.ref y.1:=by
     unfold aU at hx;rw[getElem?_map]at hx;cases hg:ps[i]? with
     |none=>rw[hg]at hx;cases hx
     |some y=>rw[hg]at hx;exact⟨y,rfl,(Option.some.inj hx).symm⟩
    have my:=mem_of_getElem? gy;have et:ps.take (i+1)=ps.take i++[y]:=bG gy;have ay:=s4 _ _ (hA y my);refine⟨_,rfl,_,rfl,t,y.1,zs,y.2,rfl,tr.same (s13.trans s4),hz,ay,pok _ (mem_map.mpr ⟨y,my,rfl⟩),λv told H5 s5=>?_,λwd told H5 s5=>?_⟩
    ·refine⟨_,rfl,aQ ⟨_,rfl,q1 y.2 y.1 H5 (.place hno hP (nQ gy hi ⟨v,told⟩)) (s13.trans (s4.trans s5)) (s5 _ _ ay)⟩⟩
    ·refine⟨_,rfl,aE ⟨⟨_,rfl⟩,s4.trans s5,λy' hy'=>?_⟩⟩;rw[et]at hy';rcases mem_append.mp hy' with h|h
     ·exact hi y' h
     ·have e:y'=y:=mem_singleton.mp h;subst e;rintro⟨v,tv⟩;have:=tv.one tr.tr told;cases this
   ·obtain⟨⟨x5,rfl⟩,s4,hi⟩:=h;have href:∀d∈ps.map (·.2),¬Okd (nds zs) d:=λd hd=>by
     obtain⟨y,hy,rfl⟩:=mem_map.mp hd;refine hi y ?_;unfold aU;rw[length_map,take_length];exact hy
    have s14:=s13.trans s4;have hL4:=s14 _ _ hL;refine⟨_,rfl,l,rfl,⟨_,SqL.of hL4⟩,λp hp=>?_⟩;refine cy (fr:=[]) ds (λx=>V.ref x.1) (by omega) hp (dq (SqL.of hL4)) rfl (λx=>fk x.2) (λx y H'=>∃q,y=.ref q∧q≠p∧H' q=some (.tup [.int (ca x.2),.bl true])) (λz y H H' ⟨q,e,ne,h⟩ ex=>⟨q,e,ne,ex q _ ne h⟩) (λx H' kk mx s5 _ hk'=>?_) (λx H' kk mx hg s5 hpl hk'=>?_) (λys H5 s5 hp5 hys=>?_)
    ·obtain⟨wd,hw,ew⟩:=tm x.2;refine⟨_,rfl,x.1,_,0,_,rfl,rfl,SqT.of (s5 _ _ (s14 _ _ (hD x mx))),cX (j:=0) hw,rfl,_,rfl,?_⟩;rw[show decide (V.str wd=V.str ("move":Str))=fk x.2 by rw[←ew,decide_eq_decide];exact⟨λh=>by injection h,λh=>by rw[h]⟩];exact hk' H' (Same.refl _)
    ·exact⟨_,rfl,x.1,_,1,_,rfl,rfl,SqT.of (s5 _ _ (s14 _ _ (hD x mx))),cX (j:=1) (oW x.2),le2,λq hq=>hk' _ _ (ag hq) ⟨q,rfl,dG hpl hq,ac⟩⟩
    ·obtain⟨bs,e1,e2,e3⟩:=cM (val:=V.ref) (S:=λ(x:Addr×TW.Deed Str) (q:Addr)=>H5 q=some (.tup [.int (ca x.2),.bl true])) hys (λz y _ ⟨q,e,_,h⟩=>⟨q,e,h⟩);have hbl:bs.length≤300:=by
      have h1:=congrArg length e1;rw[length_map]at h1;have h2:=length_filter_le (λx:Addr×TW.Deed Str=>fk x.2) ds;omega
     let ws:List (Addr×Key×V):=bs.map λx=>(x.2,(Sum.inl (ca x.1.2):Key),V.bl true)
     refine⟨p,ws,rfl,by rw[hp5,e2];show _=some (HO.lst (((bs.map λx=>(x.2,(Sum.inl (ca x.1.2):Key),V.bl true)).map (·.1)).map V.ref));rw[map_map,map_map];rfl,λz hz=>?_,by show(bs.map _).length≤900;rw[length_map];omega,λg hg=>?_⟩
     ·obtain⟨x,hx,rfl⟩:=mem_map.mp hz;exact e3 x hx
     have s6:=s5.trans (ag (o:=.dK (bw ws)) hg);have gd:upd H5 g (.dK (bw ws)) g=some (.dK (bw ws)):=ac;show iY _ _ _ _ (upd H5 g (.dK (bw ws)));generalize upd H5 g (.dK (bw ws))=H6 at s6 gd⊢;have s16:=s14.trans s6;have isM:∀n:Int,(br (bw ws) (Sum.inl n:Key)).isSome=true↔de (ds.map (·.2)) n:=λn=>by
      rw[←cP];unfold bw;rw[lg,any_nil,Bool.false_or,any_eq_true];constructor
      ·rintro⟨z,hz,e⟩;obtain⟨y,hy,rfl⟩:=mem_map.mp hz;have hm:y.1∈ds.filter (λx=>fk x.2):=by rw[←e1];exact mem_map.mpr ⟨y,hy,rfl⟩
       obtain⟨h1,h2⟩:=mem_filter.mp hm;have ex:ca y.1.2=n:=by have:=of_decide_eq_true e;injection this
       exact⟨y.1.2,mem_map.mpr ⟨_,h1,rfl⟩,h2,ex⟩
      ·rintro⟨d,hd,h0,e⟩;obtain⟨z,hz,rfl⟩:=mem_map.mp hd;have hm:z∈bs.map (·.1):=by rw[e1];exact mem_filter.mpr ⟨hz,h0⟩
       obtain⟨y,hy,rfl⟩:=mem_map.mp hm;exact⟨_,mem_map.mpr ⟨y,hy,rfl⟩,decide_eq_true (by rw[e])⟩
     have hk6:=s6 _ _ (s4 _ _ hk);refine⟨_,rfl,k,rfl,⟨_,SqL.of hk6⟩,eS (xs:=aU ps) (λi σ H'=>(∃x5,σ=[some (.ref t),some (.ref u),some (.ref l),some .non,some (.ref k),x5,some (.ref g)])∧H'=H6∧∀y∈ps.take i,¬(fk y.2=true∧¬de (ds.map (·.2)) (ca y.2))) ⟨⟨_,rfl⟩,rfl,by simp⟩ (λi σ H' _ h=>by rw[h.2.1];exact SqL.of hk6) (λi x σ H' hx h=>?_) (λσ H' h=>?_)⟩
     ·obtain⟨⟨x5,rfl⟩,rfl,hi⟩:=h;obtain⟨y,gy,rfl⟩:∃y,ps[i]?=some y∧x=V.ref y.1:=by
       unfold aU at hx;rw[getElem?_map]at hx;cases hg':ps[i]? with
       |none=>rw[hg']at hx;cases hx
       |some y=>rw[hg']at hx;exact⟨y,rfl,(Option.some.inj hx).symm⟩
      have my:=mem_of_getElem? gy;have et:ps.take (i+1)=ps.take i++[y]:=bG gy;have ay:SqT K H' y.1 (aR y.2):=SqT.of (s6 _ _ (s4 _ _ (hA y my)));have step:¬(fk y.2=true∧¬de (ds.map (·.2)) (ca y.2))→∀y'∈ps.take (i+1),¬(fk y'.2=true∧¬de (ds.map (·.2)) (ca y'.2)):=λh y' hy'=>by
       rw[et]at hy';rcases mem_append.mp hy' with h'|h'
       ·exact hi y' h'
       ·have e:y'=y:=mem_singleton.mp h';rw[e];exact h
      obtain⟨wd,hw,ew⟩:=tm y.2;refine⟨_,rfl,y.1,_,0,_,rfl,rfl,ay,cX (j:=0) hw,rfl,_,rfl,?_⟩;rw[show decide (V.str wd=V.str ("move":Str))=fk y.2 by rw[←ew,decide_eq_decide];exact⟨λh=>by injection h,λh=>by rw[h]⟩];cases hmv:fk y.2 with
      |false=>exact aE (aE ⟨⟨_,rfl⟩,rfl,step λh=>by rw[hmv]at h;cases h.1⟩)
      |true =>
       refine aQ ⟨_,rfl,y.1,_,1,_,rfl,rfl,ay,cX (j:=1) (oW y.2),_,rfl,g,_,rfl,dA.k (k:=Sum.inl (ca y.2)) gd,_,rfl,?_⟩
       by_cases hM:de (ds.map (·.2)) (ca y.2)
       ·rw[(isM _).mpr hM];exact aE ⟨⟨_,rfl⟩,rfl,step λh=>h.2 hM⟩
       ·have:(br (bw ws) (Sum.inl (ca y.2):Key)).isSome=false:=by
         cases h:(br (bw ws) (Sum.inl (ca y.2):Key)).isSome with
         |false=>rfl
         |true=>exact absurd ((isM _).mp h) hM
        rw[this];refine aQ ⟨_,rfl,y.1,_,1,_,rfl,rfl,ay,cX (j:=1) (oW y.2),_,rfl,_,rfl,t,u,zs,us,rfl,tr.same s16,ur.same s16,λc H7 s7 hc=>⟨(show 4≤sizeLine from au (by decide)),λr hr'=>?_⟩⟩;exact q1 (.move (ca y.2) 0 (aP c)) r _ (.aside hno hP href (nQ gy hi ⟨hmv,hM⟩) hc) (s16.trans (s7.trans (ag hr'))) ac
     ·obtain⟨⟨x5,rfl⟩,rfl,hi⟩:=h;refine q2 (.no hno hP href λd hd=>?_) _ s16;obtain⟨y,hy,rfl⟩:=mem_map.mp hd;refine hi y ?_;unfold aU;rw[length_map,take_length];exact hy
end
structure Sound(u:List Nd)(I:List Nd→List (TW.Deed Str)→Prop)(μ:List Nd→List (TW.Deed Str)→Nat):Prop where
 bd:∀t ds,I t ds→t.length≤29∧ds.length≤200∧cN t u
 nx:∀t ds d,I t ds→Nxt t u ds (some d)→cp d∧∃t1,TW.Told t d (.inr t1)∧I t1 (ds++[d])∧μ t1 (ds++[d])<μ t ds
 fin:∀t ds,I t ds→Nxt t u ds none→∀n∈t,TW.aM u n.num
def jY(t u:List Nd)(ds:List (TW.Deed Str))(dv:V)(H:Hp):Prop:=(dv=.non∧Nxt t u ds none)∨∃r d,dv=.ref r∧H r=some (.tup (aR d))∧Nxt t u ds (some d)
def tq:Sp:=λvs H Q _=>∃t u l zs us ds,vs=[.ref t,.ref u,.ref l]∧Tre H t zs∧zs.length≤29∧Tre H u us∧(∀n∈nds us,cB n)∧H l=some (.lst (aU ds))∧eD H ds∧ds.length≤300∧∀dv H',Same H H'→jY (nds zs) (nds us) (ds.map (·.2)) dv H'→Q dv H'
theorem vk(vs:List V)(H:Hp)(Q:VK)(E:XK)(h:tq vs H Q E):we vs H Q E:=by
 obtain⟨t,u,l,zs,us,ds,e,a1,a2,a3,a4,a5,a6,a7,q⟩:=h;exact⟨t,u,l,zs,us,ds,e,a1,a2,a3,a4,a5,a6,a7,λd r H' n s hr=>q _ H' s (.inr ⟨r,d,rfl,hr,n⟩),λn H' s=>q _ H' s (.inl ⟨rfl,n⟩)⟩
section
variable{P:Program}{w:World}{K:PySem.W.Frag}{mg:Str→Option Value}{base:Heap}
def tu(CN:Addr):Sp:=λvs H Q E=>∃t u zs us,vs=[.ref t,.ref u]∧Tre H t zs∧Tre H u us∧(∀z∈zs,-1≤z.2.num∧z.2.num≤99)∧(∀n∈nds us,cB n)∧(¬cN (nds zs) (nds us)→∀H',Same H H'→E (.ref CN) none H') ∧
 (cN (nds zs) (nds us)→∃I μ,Sound (nds us) I μ∧I (nds zs) []∧∀l ds t2 dd H',Same H H'→I t2 dd→Nxt t2 (nds us) dd none→H' l=some (.lst (aU ds))→eD H' ds→ds.map (·.2)=dd++jX t2 (nds us)→TW.Chain (nds zs) dd t2→Q (.ref l) H')
theorem li:FnScope ["old","new","deeds","now","deed"] ["old","new"] (ah gX):=fsc
theorem vm{f CN:Addr}{fd:FuncData}{cls:TW.Wd→Addr}(F:Fun K "in_steps" "in_steps" gX f fd)(CK:eM P w K mg base 2 "check_kinds" ["old","new"] (sT CN))(CX:Has P w K mg base 6 "next_deed" ["now","new","deeds"] tq)(CD:eM P w K mg base 4 "done" ["tree","deed"] (lQ cls))(CW:Has P w K mg base 2 "writes" ["now","new"] sZ):FnOk P w K mg base (CX1 P w) 7 f fd ["old","new"] (tu CN):=by
 obtain⟨fK,fdK,GK,mK,kK,bK⟩:=CK;obtain⟨fN,fdN,GN,mN,kN,bN⟩:=CX;obtain⟨fD,fdD,GD,mD,kD,bD⟩:=CD;obtain⟨fW,fdW,GW,mW,kW,bW⟩:=CW;refine F.okX li (λvs H Q E h=>?_) (λcdv A outer s H vs Q E hr h=>?_)
 ·obtain⟨t,u,zs,us,rfl,_⟩:=h;rfl
 ·obtain⟨t,u,zs,us,rfl,tr,ur,hb,uok,qE,qo⟩:=h;have hr2:Room 2 _:=hr.mono (by decide);have hr4:Room 4 _:=hr.mono (by decide);refine⟨_,ae (bz (ak (E:=E) GK hr2 rfl mK kK bK .nil (dB cr) (aa (pv 0) (aa (pv 1) af))))
   (ae (ap (i:=2) li.nd rfl (Or.inl rfl) (bx af)) (ae (ap (i:=3) li.nd rfl (Or.inl rfl) (pv 0))
   (ae (ap (i:=4) li.nd rfl (Or.inl rfl) (ak GN hr rfl mN kN bN .nil aI (aa (pv 3) (aa (pv 1) (aa (pv 2) af)))))
   (ae (dw (xb cr) (am gB (pv 4) bJ (aw _))
    (ae (bz (dL plainAttrs_list PySem.F.slot_list_append PySem.F.type_list_append bA (pv 2) (aa (pv 4) af)))
    (ae (ap (i:=3) li.nd rfl (Or.inl rfl) (ak (E:=E) GD hr4 rfl mD kD bD .nil (dB cr) (aa (pv 3) (aa (pv 4) af))))
    (aj (ap (i:=4) li.nd rfl (Or.inl rfl) (ak GN hr rfl mN kN bN .nil aI (aa (pv 3) (aa (pv 1) (aa (pv 2) af)))))))))
   (aj (ax (aK fc (pv 2) (ak GW hr2 rfl mW kW bW .nil aI (aa (pv 3) (aa (pv 1) af)))))))))),?_⟩
  refine⟨_,rfl,_,rfl,t,u,zs,us,rfl,tr,ur,hb,λsk H1 s1=>?_,λnsk H1 s1=>qE nsk H1 s1⟩;obtain⟨I,μ,So,i0,q⟩:=qo sk;refine⟨zero_le _,λl hl=>?_⟩;have s2:=s1.trans (ag (o:=.lst []) hl);have fl:H l=none:=s1.free hl;have gl:upd H1 l (.lst []) l=some (.lst (aU [])):=ac;generalize upd H1 l (.lst [])=H2 at s2 gl⊢;have b0:=So.bd _ _ i0;have zl:∀z:ZN,(nds z).length=z.length:=λz=>by unfold nds;rw[length_map]
  refine⟨_,rfl,?_⟩;refine⟨_,rfl,_,rfl,_,rfl,t,u,l,zs,us,[],rfl,tr.same s2,by have:=b0.1;rw[zl]at this;exact this,ur.same s2,uok,gl,(λx h=>nomatch h),by decide,?_⟩;intro dv H3 s3 hres;dsimp only[bg,iY];have s23:=s2.trans s3;refine⟨λm σ H'=>∃now zn ds dv,m=μ (nds zn) (ds.map (·.2))∧σ=[some (.ref t),some (.ref u),some (.ref l),some (.ref now),some dv]∧Tre H' now zn∧I (nds zn) (ds.map (·.2))∧H' l=some (.lst (aU ds))∧eD H' ds∧(∀x∈ds,x.1≠l)∧TW.Chain (nds zs) (ds.map (·.2)) (nds zn)∧jY (nds zn) (nds us) (ds.map (·.2)) dv H'∧Same H H',
   ⟨_,t,zs,[],dv,rfl,rfl,tr.same s23,i0,s3 _ _ gl,(λx h=>nomatch h),(λx h=>nomatch h),.nil,hres,s23⟩,λm σ H' h=>?_⟩
  obtain⟨now,zn,ds,dv,rfl,rfl,trn,hI,hL,hD,hne,hC,hR,sH⟩:=h;have bd:=So.bd _ _ hI;have zn29:zn.length≤29:=by have:=bd.1;rw[zl]at this;exact this
  have dl:ds.length≤200:=by have:=bd.2.1;rw[length_map]at this;exact this
  refine⟨_,rfl,rfl,_,rfl,?_⟩;rcases hR with⟨rfl,hn⟩|⟨r,d,rfl,hr',hn⟩
  ·refine aE ⟨_,rfl,_,rfl,_,rfl,now,u,zn,us,rfl,trn,ur.same sH,So.fin _ _ hI hn,bd.2.2,λl2 es H4 s4 hl2 hE e4=>?_⟩;have hlen:es.length≤30:=by
    have h1:=congrArg length e4;unfold jX at h1;rw[length_map,length_map]at h1;have h2:=length_filter_le (λn:Nd=>!decide (n.st=dc (nds us) n.num)) (nds zn);rw[zl]at h2;omega
   refine⟨l,l2,_,_,rfl,rfl,s4 _ _ hL,hl2,by unfold aU;rw[length_map,length_map];exact au (by omega),λl3 hl3=>?_⟩;have s5:=s4.trans (ag (o:=.lst (aU ds++aU es)) hl3);refine q l3 (ds++es) (nds zn) (ds.map (·.2)) _ (sH.trans s5) hI hn ?_ (λx hx=>?_) (by rw[map_append,e4]) hC
   ·rw[ac];unfold aU;rw[map_append]
   ·rcases mem_append.mp hx with hx|hx
    ·exact s5 _ _ (hD x hx)
    ·exact(ag hl3) _ _ (hE x hx)
  ·obtain⟨dok,t1,told,hI1,hμ⟩:=So.nx _ _ _ hI hn;refine aQ ⟨λσ' H''=>∃m',m'<μ (nds zn) (ds.map (·.2))∧∃now zn ds dv,m'=μ (nds zn) (ds.map (·.2))∧σ'=[some (.ref t),some (.ref u),some (.ref l),some (.ref now),some dv]∧Tre H'' now zn∧I (nds zn) (ds.map (·.2))∧H'' l=some (.lst (aU ds))∧eD H'' ds∧(∀x∈ds,x.1≠l)∧TW.Chain (nds zs) (ds.map (·.2)) (nds zn)∧jY (nds zn) (nds us) (ds.map (·.2)) dv H''∧Same H H'',λ_ _ h=>h,?_⟩;have hrl:r≠l:=λz=>by rw[z,hL]at hr';cases hr'
   refine⟨_,rfl,.inl ⟨rfl,_,SqL.of hL⟩,_,rfl,l,_,_,rfl,rfl,hL,aJ (by unfold aU;rw[length_map];omega),?_⟩;have keep:∀b o,b≠l→H' b=some o→upd H' l (.lst (aU ds++[.ref r])) b=some o:=λb o hb h=>by rw[ao hb];exact h
   have notl:∀{b:Addr}{xs:List V},H' b=some (.tup xs)→b≠l:=λh z=>by rw[z,hL]at h;cases h
   have gl4:upd H' l (.lst (aU ds++[.ref r])) l=some (.lst (aU (ds++[(r,d)]))):=by rw[ac];unfold aU;rw[map_append];rfl
   have sH4:Same H (upd H' l (.lst (aU ds++[.ref r]))):=λb o h=>keep _ _ (λz=>by rw[z,fl]at h;cases h) (sH _ _ h);generalize upd H' l (.lst (aU ds++[.ref r]))=H4 at keep gl4 sH4⊢;have trn4:Tre H4 now zn:=⟨keep _ _ (notl trn.tup) trn.tup,λz hz=>keep _ _ (notl (trn.nod z hz)) (trn.nod z hz),trn.tr,trn.len⟩;have hD4:eD H4 (ds++[(r,d)]):=λx hx=>by
    rcases mem_append.mp hx with hx|hx
    ·exact keep _ _ (hne x hx) (hD x hx)
    ·rw[mem_singleton.mp hx];exact keep _ _ hrl hr'
   have ed:(ds++[(r,d)]).map (·.2)=ds.map (·.2)++[d]:=by rw[map_append];rfl
   refine⟨_,rfl,_,rfl,now,r,d,zn,rfl,trn4,zn29,keep _ _ hrl hr',dok,⟨λws t' H5 s5 ht' hA tl=>?_,λwd H5 s5 tl=>?_⟩⟩
   ·have e5:nds ws=t1:=Sum.inr.inj (tl.one trn.tr told);have sH5:=sH4.trans s5;have bd1:=So.bd _ _ hI1;have wl:ws.length≤29:=by have:=bd1.1;rw[←e5,zl]at this;exact this
    have trw:Tre H5 t' ws:=⟨ht',hA,by rw[e5];exact told.tree trn.tr dok.pos,by omega⟩;refine⟨_,rfl,_,rfl,_,rfl,t',u,l,ws,us,ds++[(r,d)],rfl,trw,wl,ur.same sH5,uok,s5 _ _ gl4,hD4.same s5,by rw[length_append];simp;omega,λdv2 H6 s6 hres2=>?_⟩;refine⟨_,?_,t',ws,ds++[(r,d)],dv2,rfl,rfl,trw.same s6,by rw[ed,e5];exact hI1,s6 _ _ (s5 _ _ gl4),(hD4.same s5).same s6,λx hx=>?_,by rw[ed];exact hC.snoc (by rw[e5];exact told),hres2,sH5.trans s6⟩
    ·rw[ed,e5];exact hμ
    ·rcases mem_append.mp hx with hx|hx
     ·exact hne x hx
     ·rw[mem_singleton.mp hx];exact hrl
   ·have:=tl.one trn.tr told;cases this
end
def bh(t:List Nd)(n:Nd):Prop:=∃m∈t,m.num=n.num∧m.par=n.par∧m.nm=n.nm
def qk(t u:List Nd)(ds:List (TW.Deed Str)):Prop:=∀m∈t,∀n∈u,m.num=n.num→de ds m.num→¬bh t n→m.par=0∧∀x∈u,x.par=0→x.nm≠m.nm
theorem tw{t u:List Nd}{ps:List (TW.Deed Str)}(h:TW.Plcs t u ps):∀n∈u,(∃d∈ps,TW.Plc t n (some d))∨TW.Plc t n none:=by
 induction h with
 |nil=>intro n hn;cases hn
 |@skip x u ds _ hp ih =>
  intro n hn;rcases mem_append.mp hn with hn|hn
  ·exact ih n hn
  ·rw[mem_singleton.mp hn];exact .inr hp
 |@take x u ds d _ hp ih =>
  intro n hn;rcases mem_append.mp hn with hn|hn
  ·rcases ih n hn with⟨e,he,h⟩|h
   ·exact .inl ⟨e,mem_append_left _ he,h⟩
   ·exact .inr h
  ·rw[mem_singleton.mp hn];exact .inl ⟨d,mem_append_right _ (mem_singleton.mpr rfl),hp⟩
theorem fm{t u:List Nd}{ps:List (TW.Deed Str)}(h:TW.Plcs t u ps):∀d∈ps,∃n∈u,TW.Plc t n (some d):=by
 induction h with
 |nil=>intro n hn;cases hn
 |skip _ _ ih=>intro d hd;obtain⟨n,hn,h⟩:=ih d hd;exact⟨n,mem_append_left _ hn,h⟩
 |@take x u ds d _ hp ih =>
  intro e he;rcases mem_append.mp he with he|he
  ·obtain⟨n,hn,h⟩:=ih e he;exact⟨n,mem_append_left _ hn,h⟩
  ·rw[mem_singleton.mp he];exact⟨x,mem_append_right _ (mem_singleton.mpr rfl),hp⟩
theorem tz{t:List Nd}{n:Nd}(h:TW.Plc t n none):bh t n:=by
 cases h with
 |no hm e h1 h2=>exact⟨_,hm,e,h1,h2⟩
theorem tD{t u:List Nd}{ps:List (TW.Deed Str)}(h:TW.Plcs t u ps){n:Nd}(hn:n∈u)(hp:¬bh t n):∃d∈ps,TW.Plc t n (some d):=by
 rcases tw h n hn with h|h
 ·exact h
 ·exact absurd (tz h) hp
theorem xM{t u:List Nd}{ps:List (TW.Deed Str)}(h:TW.Plcs t u ps){n m:Nd}(hn:n∈u)(hp:¬bh t n)(hm:m∈t)(e:m.num=n.num):∃d∈ps,fk d=true∧ca d=n.num:=by
 obtain⟨d,hd,hpl⟩:=tD h hn hp;cases hpl with
 |new h1=>exact absurd ⟨m,hm,e⟩ h1
 |mv _ _ _=>exact⟨_,hd,rfl,rfl⟩
theorem nR{t:List Nd}(T:TW.cO t)(n:Nd)(hn:¬TW.aM t n.num):∃v:List Nd,v.Perm (n::t)∧TW.cO v:=by
 induction t with
 |nil=>exact⟨[n],List.Perm.refl _,List.pairwise_singleton _ _⟩
 |cons x r ih =>
  have T':=pairwise_cons.mp T
  by_cases h:n.num<x.num
  ·refine⟨n::x::r,List.Perm.refl _,pairwise_cons.mpr ⟨λy hy=>?_,T⟩⟩;rcases mem_cons.mp hy with e|hy
   ·rw[e];exact h
   ·exact Int.lt_trans h (T'.1 y hy)
  ·obtain⟨v,hv,hr⟩:=ih T'.2 λ⟨m,hm,e⟩=>hn ⟨m,mem_cons_of_mem _ hm,e⟩;have hx:x.num<n.num:=by
    have:x.num≠n.num:=λe=>hn ⟨x,mem_cons_self,e⟩;omega
   refine⟨x::v,(List.Perm.cons x hv).trans (List.Perm.swap _ _ _),pairwise_cons.mpr ⟨λy hy=>?_,hr⟩⟩;have:y∈n::r:=hv.mem_iff.mp hy;rcases mem_cons.mp this with e|h'
   ·rw[e];exact hx
   ·exact T'.1 y h'
theorem oX{u:List Nd}(U:TW.Tree1 u){a b:Nd}(ha:a∈u)(hb:b∈u)(e1:a.par=b.par)(e2:a.nm=b.nm):a=b:=by
 have h:(u.map λn=>(n.par,n.nm)).Nodup:=U.own;clear U
 induction u with
 |nil=>cases ha
 |cons x r ih =>
  rw[map_cons,nodup_cons]at h;have e:(a.par,a.nm)=(b.par,b.nm):=by rw[e1,e2]
  rcases mem_cons.mp ha with ea|ha'<;>rcases mem_cons.mp hb with eb|hb'
  ·rw[ea,eb]
  ·exact absurd (mem_map.mpr ⟨b,hb',by rw[←e,ea]⟩) h.1
  ·exact absurd (mem_map.mpr ⟨a,ha',by rw[e,eb]⟩) h.1
  ·exact ih ha' hb' h.2
section
variable{t u:List Nd}{ds ps:List (TW.Deed Str)}
theorem ql(T:TW.Tree1 t)(U:TW.Tree1 u){k:Int}(hk:¬TW.aM u k)(hk0:k≠0):∀{j:Int},TW.Und t k j→TW.aM u j→∃y∈t,∃n∈u,y.num=n.num∧y.par≠0∧¬bh t n:=by
 intro j h
 induction h with
 |here=>intro hj;exact absurd hj hk
 |@up y hy hu ih =>
  intro hj
  by_cases hp:TW.aM u y.par
  ·exact ih hp
  ·obtain⟨n,hn,e⟩:=hj;have hp0:y.par≠0:=λz=>hk0 (hu.zero T z);refine⟨y,hy,n,hn,e.symm,hp0,λ⟨m,hm,e1,e2,_⟩=>?_⟩;have:m=y:=T.inj hm hy (e1.trans e);subst this;rcases TW.dj U hn with h0|⟨r,hr,_,er⟩
   ·exact hp0 (e2.trans h0)
   ·exact hp ⟨r,hr,er.trans e2.symm⟩
theorem oY(T:TW.Tree1 t)(U:TW.Tree1 u)(sk:cN t u)(as:qk t u ds)(hno:∀x∈t,¬TW.cA t u x)(hP:TW.Plcs t u ps)(href:∀d∈ps,¬Okd t d)(hmv:∀d∈ps,¬(fk d=true∧¬de ds (ca d))):
  ∀{k:Int}{p:List Str},TW.PathTo u k p→(∀x∈u,TW.Und u x.num k→bh t x)∧∀a,TW.Und t a k→a=0∨TW.Und u a k:=by
 have moved:∀{m n:Nd},m∈t→n∈u→m.num=n.num→¬bh t n→de ds n.num:=λ{m n} hm hn e hp=>by
  obtain⟨d,hd,h1,h2⟩:=xM hP hn hp hm e;refine Classical.byContradiction λh=>hmv d hd ⟨h1,?_⟩;rw[h2];exact h
 have noNeed:∀{m:Nd},m∈t→¬TW.aM u m.num→¬TW.rk t u m.num:=λ{m} hm hmu ⟨h0,y,hy,hyu,hu⟩=>by
  obtain⟨y1,hy1,n1,hn1,e1,hp0,hpl⟩:=ql T U hmu h0 hu hyu;have hM:=moved hy1 hn1 e1 hpl;rw[←e1]at hM;exact hp0 (as y1 hy1 n1 hn1 e1 hM hpl).1
 intro k p h
 induction h with
 |top =>
  refine⟨λx hx hu=>?_,λa ha=>.inl (ha.zero T rfl)⟩;have:=hu.zero U rfl;have:=U.pos x hx;omega
 |@node n p hn hp ih =>
  obtain⟨ih1,ih2⟩:=ih;have hfold:TW.gT t n.par:=by
   rcases TW.dj U hn with h0|⟨r,hr,hs,er⟩
   ·exact .inl h0
   ·obtain⟨r',hr',e1,_,_⟩:=ih1 r hr (by rw[er];exact .here);exact .inr ⟨r',hr',(sk r' hr' r hr e1).mpr hs,e1.trans er⟩
  have hpl:bh t n:=Classical.byContradiction λhpl=>by
   obtain⟨d,hd,hpc⟩:=tD hP hn hpl;have free:∀m∈t,m.num≠n.num→¬(m.par=n.par∧m.nm=n.nm):=λm hm hne ⟨e1,e2⟩=>by
    by_cases hmu:TW.aM u m.num
    ·obtain⟨n',hn',en⟩:=hmu
     by_cases hp':bh t n'
     ·obtain⟨m',hm',f1,f2,f3⟩:=hp';have:m'=m:=T.inj hm' hm (f1.trans en);subst this;have:n'=n:=oX U hn' hn (f2.symm.trans e1) (f3.symm.trans e2);subst this;exact hne en.symm
     ·have hM:=moved hm hn' en.symm hp';rw[en]at hM;obtain⟨a1,a2⟩:=as m hm n' hn' en.symm hM hp';exact a2 n hn (e1.symm.trans a1) e2.symm
    ·refine hno m hm ⟨noNeed hm hmu,?_⟩;rcases TW.dj U hn with h0|⟨r,hr,_,er⟩
     ·exact .inl (e1.trans h0)
     ·exact .inr ⟨r,hr,er.trans e1.symm⟩
   refine href d hd ?_;cases hpc with
   |new h1 =>
    obtain⟨v,hv,hr⟩:=nR T.rise n h1;exact⟨v,.made h1 hfold (λm hm=>free m hm λe=>h1 ⟨m,hm,e⟩) hv hr⟩
   |@mv m hm e _ =>
    refine⟨_,.moved hm e hfold (λh0 hu=>?_) free⟩;rcases ih2 _ hu with h|h
    ·have:=U.pos n hn;omega
    ·exact TW.sQ U hn h
  refine⟨λx hx hu=>?_,λa ha=>?_⟩
  ·rcases (TW.jK U hn).mp hu with e|hu
   ·rw[U.inj hx hn e];exact hpl
   ·exact ih1 x hx hu
  ·obtain⟨m,hm,e1,e2,_⟩:=hpl;rw[←e1]at ha;rcases (TW.jK T hm).mp ha with e|ha
   ·right;rw[e,e1];exact .here
   ·rw[e2]at ha;rcases ih2 a ha with h|h
    ·exact .inl h
    ·exact .inr (.up hn h)
theorem jN(T:TW.Tree1 t)(U:TW.Tree1 u)(sk:cN t u)(as:qk t u ds)(h:Nxt t u ds none):(∀n∈u,bh t n)∧∀n∈t,TW.aM u n.num:=by
 cases h with
 |@no ps hno hP href hmv =>
  have hpl:∀n∈u,bh t n:=λn hn=>by
   obtain⟨p,hp⟩:=TW.PathTo.ex U hn;exact(oY T U sk as hno hP href hmv hp).1 n hn .here
  refine⟨hpl,?_⟩;have key:∀{k:Int}{p:List Str},TW.PathTo t k p→k=0∨TW.aM u k:=by
   intro k p h
   induction h with
   |top=>exact .inl rfl
   |@node n p hn _ ih =>
    right
    refine Classical.byContradiction λhx=>hno n hn ⟨λ⟨h0,y,hy,hyu,hu⟩=>?_,ih⟩;obtain⟨y1,_,n1,hn1,_,_,hq⟩:=ql T U hx h0 hu hyu;exact hq (hpl n1 hn1)
  intro n hn;obtain⟨p,hp⟩:=TW.PathTo.ex T hn;rcases key hp with h|h
  ·have:=T.pos n hn;omega
  ·exact h
end
section
variable{α:Type}
theorem gG{p q:α→Bool}:∀{l:List α},(∀x∈l,p x=true→q x=true)→(l.filter p).length≤(l.filter q).length
 |[],_=>le_refl _
 |a::r,h=>by
  have ih:=gG (p:=p) (q:=q) (l:=r) λx hx=>h x (mem_cons_of_mem _ hx);rw[filter_cons,filter_cons];cases hp:p a with
  |false =>
   cases hq:q a with
   |false=>simpa using ih
   |true=>simp;omega
  |true =>
   rw[h a mem_cons_self hp];simpa using ih
theorem gH{p q:α→Bool}:∀{l:List α},(∀x∈l,p x=true→q x=true)→(∃x∈l,q x=true∧p x=false)→(l.filter p).length<(l.filter q).length
 |[],_,h=>by obtain⟨x,hx,_⟩:=h;cases hx
 |a::r,h,⟨x,hx,h1,h2⟩=>by
  have hr:∀y∈r,p y=true→q y=true:=λy hy=>h y (mem_cons_of_mem _ hy);rw[filter_cons,filter_cons];rcases mem_cons.mp hx with e|hx
  ·subst e;rw[h1,h2];have:=gG (p:=p) (q:=q) hr;simp;omega
  ·have ih:=gH (p:=p) (q:=q) hr ⟨x,hx,h1,h2⟩;cases hp:p a with
   |false =>
    cases hq:q a with
    |false=>simpa using ih
    |true=>simp;omega
   |true =>
    rw[h a mem_cons_self hp];simpa using ih
end
open Classical in
def mu(u:List Nd)(t:List Nd)(ds:List (TW.Deed Str)):Nat:=(t.filter λm=>decide (¬TW.aM u m.num)).length+(u.filter λn=>decide (¬bh t n)).length+(u.filter λn=>decide (¬bh t n∧¬de ds n.num)).length
structure Iv(t0 u t:List Nd)(ds:List (TW.Deed Str)):Prop where
 tr:TW.Tree1 t
 sk:cN t u
 as:qk t u ds
 ok:∀m∈t,cB m
 sub:∀m∈t,TW.aM t0 m.num∨TW.aM u m.num
 cnt:ds.length+mu u t ds≤200
theorem cE{ds:List (TW.Deed Str)}{d:TW.Deed Str}{k:Int}:de (ds++[d]) k↔de ds k∨(fk d=true∧ca d=k):=by
 constructor
 ·rintro⟨e,he,h1,h2⟩;rcases mem_append.mp he with he|he
  ·exact .inl ⟨e,he,h1,h2⟩
  ·rw[mem_singleton.mp he]at h1 h2;exact .inr ⟨h1,h2⟩
 ·rintro(⟨e,he,h1,h2⟩|⟨h1,h2⟩)
  ·exact⟨e,mem_append_left _ he,h1,h2⟩
  ·exact⟨d,mem_append_right _ (mem_singleton.mpr rfl),h1,h2⟩
theorem oZ{ds:List (TW.Deed Str)}{d:TW.Deed Str}{a b:Nat}(h:ds.length+b≤200)(l:a<b):(ds++[d]).length+a≤200:=by
 rw[length_append];show ds.length+1+a≤200;omega
open Classical in
theorem tE{u t t1:List Nd}{ds ds1:List (TW.Deed Str)}(a:(t1.filter λm=>decide (¬TW.aM u m.num)).length≤(t.filter λm=>decide (¬TW.aM u m.num)).length)(b:∀n∈u,bh t n→bh t1 n)(c:∀k,de ds k→de ds1 k)(s:(t1.filter λm=>decide (¬TW.aM u m.num)).length<(t.filter λm=>decide (¬TW.aM u m.num)).length∨(∃n∈u,bh t1 n∧¬bh t n)∨∃n∈u,¬bh t n∧¬de ds n.num∧de ds1 n.num):mu u t1 ds1<mu u t ds:=by
 have hb:∀n∈u,decide (¬bh t1 n)=true→decide (¬bh t n)=true:=λn hn h=>decide_eq_true λh'=>of_decide_eq_true h (b n hn h');have hc:∀n∈u,decide (¬bh t1 n∧¬de ds1 n.num)=true→decide (¬bh t n∧¬de ds n.num)=true:=λn hn h=>by
  have:=of_decide_eq_true h;exact decide_eq_true ⟨λh'=>this.1 (b n hn h'),λh'=>this.2 (c _ h')⟩
 have lb:=gG hb;have lc:=gG hc;unfold mu;rcases s with s|⟨n,hn,h1,h2⟩|⟨n,hn,h1,h2,h3⟩
 ·omega
 ·have:=gH hb ⟨n,hn,decide_eq_true h2,decide_eq_false λh=>h h1⟩;omega
 ·have:=gH hc ⟨n,hn,decide_eq_true ⟨h1,h2⟩,decide_eq_false λh=>h.2 h3⟩;omega
section
variable{t0 u t:List Nd}{ds:List (TW.Deed Str)}
open Classical in
theorem tF{x:Nd}(hx:∃m∈t,m.num=x.num):((t.map (TW.put x)).filter λm=>decide (¬TW.aM u m.num)).length=(t.filter λm=>decide (¬TW.aM u m.num)).length:=by
 rw[filter_map,length_map]
 congr 1
 apply filter_congr;intro m _;show decide (¬TW.aM u (TW.put x m).num)=_;unfold TW.put
 by_cases h:m.num=x.num
 ·rw[if_pos h,h]
 ·rw[if_neg h]
theorem put_mem{x m:Nd}(h:m∈t.map (TW.put x)):(m=x∧∃y∈t,y.num=x.num)∨(m∈t∧m.num≠x.num):=by
 obtain⟨y,hy,rfl⟩:=mem_map.mp h;unfold TW.put
 by_cases e:y.num=x.num
 ·rw[if_pos e];exact .inl ⟨rfl,y,hy,e⟩
 ·rw[if_neg e];exact .inr ⟨hy,e⟩
theorem jg{x m:Nd}(h:m∈t)(e:m.num≠x.num):m∈t.map (TW.put x):=mem_map.mpr ⟨m,h,by unfold TW.put;rw[if_neg e]⟩
theorem eY{x m:Nd}(h:m∈t)(e:m.num=x.num):x∈t.map (TW.put x):=mem_map.mpr ⟨m,h,by unfold TW.put;rw[if_pos e]⟩
open Classical in
theorem vn(U:TW.Tree1 u)(I:Iv t0 u t ds){x:Nd}(hx:iO t (TW.cA t u) x):cp (.drop x.num)∧∃t1,TW.Told t (.drop x.num) (.inr t1)∧Iv t0 u t1 (ds++[.drop x.num])∧mu u t1 (ds++[.drop x.num])<mu u t ds:=by
 obtain⟨a,b,e,_,hd⟩:=hx;have mx:x∈t:=by rw[e];simp
 have ok:=I.ok x mx;have x0:x.num≠0:=by have:=ok.1;omega
 have told:TW.Told t (.drop x.num) (.inr (t.filter λm=>decide (¬TW.Und t x.num m.num))):=.dropped ⟨x,mx,rfl⟩ λm _=>by rw[decide_eq_true_iff]
 have stay:∀m∈t,TW.aM u m.num→m∈t.filter λm=>decide (¬TW.Und t x.num m.num):=λm hm hu=>mem_filter.mpr ⟨hm,decide_eq_true λh=>hd.1 ⟨x0,m,hm,hu,h⟩⟩;have sub:∀m,m∈(t.filter λm=>decide (¬TW.Und t x.num m.num))→m∈t:=λm hm=>(mem_filter.mp hm).1;have pl:∀n∈u,bh t n→bh (t.filter λm=>decide (¬TW.Und t x.num m.num)) n:=λn hn ⟨m,hm,e1,e2,e3⟩=>⟨m,stay m hm ⟨n,hn,e1.symm⟩,e1,e2,e3⟩;have mv:∀k,de ds k→de (ds++[.drop x.num]) k:=λk h=>cE.mpr (.inl h);have lt:mu u (t.filter λm=>decide (¬TW.Und t x.num m.num)) (ds++[.drop x.num])<mu u t ds:=by
  have hl:((t.filter λm=>decide (¬TW.Und t x.num m.num)).filter λm=>decide (¬TW.aM u m.num)).length<(t.filter λm=>decide (¬TW.aM u m.num)).length:=by
   rw[List.filter_filter];refine gH (λy _ h=>(and_eq_true _ _ ▸ h).1) ⟨x,mx,decide_eq_true λh=>hd.1 ⟨x0,x,mx,h,.here⟩,?_⟩;rw[show decide (¬TW.Und t x.num x.num)=false from decide_eq_false λh=>h .here,Bool.and_false]
  exact tE (le_of_lt hl) pl mv (.inl hl)
 refine⟨⟨ok.1,ok.2.1⟩,_,told,⟨told.tree I.tr trivial,λm hm=>I.sk m (sub m hm),λm hm n hn e' hM hp=>?_,λm hm=>I.ok m (sub m hm),λm hm=>I.sub m (sub m hm),?_⟩,lt⟩
 ·rcases cE.mp hM with h|⟨h,_⟩
  ·exact I.as m (sub m hm) n hn e' h λh'=>hp (pl n hn h')
  ·cases h
 ·exact oZ I.cnt lt
open Classical in
theorem vo(U:TW.Tree1 u)(I:Iv t0 u t ds)(uok:∀n∈u,cB n){n:Nd}(hn:n∈u){v:List Nd}(hv:TW.Told t (.make n.num n.par n.nm n.st) (.inr v)):Iv t0 u v (ds++[.make n.num n.par n.nm n.st])∧mu u v (ds++[.make n.num n.par n.nm n.st])<mu u t ds:=by
 have ok:=uok n hn;have T1:=hv.tree I.tr ok.1;cases hv with
 |made h1 hf hfree hp hr =>
  have hp':v.Perm (n::t):=hp;have mem:∀m,m∈v↔m=n∨m∈t:=λm=>by rw[hp'.mem_iff,mem_cons]
  have pl:∀x∈u,bh t x→bh v x:=λx _ ⟨m,hm,e⟩=>⟨m,(mem m).mpr (.inr hm),e⟩;have pn:bh v n:=⟨n,(mem n).mpr (.inl rfl),rfl,rfl,rfl⟩;have np:¬bh t n:=λ⟨m,hm,e,_⟩=>h1 ⟨m,hm,e⟩;have lt:mu u v (ds++[.make n.num n.par n.nm n.st])<mu u t ds:=by
   refine tE (le_of_eq ?_) pl (λk h=>cE.mpr (.inl h)) (.inr (.inl ⟨n,hn,pn,np⟩));rw[(hp'.filter _).length_eq,filter_cons];rw[show decide (¬TW.aM u n.num)=false from decide_eq_false λh=>h ⟨n,hn,rfl⟩];rfl
  refine⟨⟨T1,λm hm x hx e=>?_,λm hm x hx e hM hq=>?_,λm hm=>?_,λm hm=>?_,oZ I.cnt lt⟩,lt⟩
  ·rcases (mem m).mp hm with rfl|hm
   ·rw[U.inj hn hx e]
   ·exact I.sk m hm x hx e
  ·rcases cE.mp hM with h|⟨h,_⟩
   ·rcases (mem m).mp hm with rfl|hm
    ·rw[U.inj hn hx e]at pn;exact absurd pn hq
    ·exact I.as m hm x hx e h λh'=>hq (pl x hx h')
   ·cases h
  ·rcases (mem m).mp hm with rfl|hm
   ·exact ok
   ·exact I.ok m hm
  ·rcases (mem m).mp hm with rfl|hm
   ·exact .inr ⟨_,hn,rfl⟩
   ·exact I.sub m hm
theorem qm(U:TW.Tree1 u)(I:Iv t0 u t ds){n y:Nd}(hn:n∈u)(hy:y∈t)(ey:y.num=n.num)(np:¬bh t n){p:Int}{nm:Str}(h0:0≤p)(h1:p≤99)(hl:nm.length≤100)(told:TW.Told t (.move n.num p nm) (.inr (t.map (TW.put ⟨n.num,p,nm,y.st⟩))))(hw:(p=n.par∧nm=n.nm)∨(¬de ds n.num∧p=0∧∀x∈u,x.par=0→x.nm≠nm)):Iv t0 u (t.map (TW.put ⟨n.num,p,nm,y.st⟩)) (ds++[.move n.num p nm])∧mu u (t.map (TW.put ⟨n.num,p,nm,y.st⟩)) (ds++[.move n.num p nm])<mu u t ds:=by
 have T1:=told.tree I.tr trivial;have oky:=I.ok y hy;have ex:∃m∈t,m.num=(⟨n.num,p,nm,y.st⟩:Nd).num:=⟨y,hy,ey⟩;have pl:∀x∈u,bh t x→bh (t.map (TW.put ⟨n.num,p,nm,y.st⟩)) x:=λx hx ⟨m,hm,e1,e2,e3⟩=>by
  by_cases e:m.num=n.num
  ·have:x=n:=U.inj hx hn (e1.symm.trans e);subst this;exact absurd ⟨m,hm,e1,e2,e3⟩ np
  ·exact⟨m,jg hm e,e1,e2,e3⟩
 have mv:de (ds++[.move n.num p nm]) n.num:=cE.mpr (.inr ⟨rfl,rfl⟩);have lt:mu u (t.map (TW.put ⟨n.num,p,nm,y.st⟩)) (ds++[.move n.num p nm])<mu u t ds:=by
  refine tE (le_of_eq (tF ex)) pl (λk h=>cE.mpr (.inl h)) (.inr ?_);rcases hw with⟨e1,e2⟩|⟨h2,_⟩
  ·exact .inl ⟨n,hn,⟨_,eY hy ey,rfl,e1,e2⟩,np⟩
  ·exact .inr ⟨n,hn,np,h2,mv⟩
 refine⟨⟨T1,λm hm x hx e=>?_,λm hm x hx e hM hq=>?_,λm hm=>?_,λm hm=>?_,oZ I.cnt lt⟩,lt⟩
 ·rcases put_mem hm with⟨rfl,_⟩|⟨hm,_⟩
  ·exact I.sk y hy x hx (ey.trans e)
  ·exact I.sk m hm x hx e
 ·rcases put_mem hm with⟨rfl,_⟩|⟨hm,hne⟩
  ·have:n=x:=U.inj hn hx e;subst this;rcases hw with⟨e1,e2⟩|⟨_,e1,e2⟩
   ·exact absurd ⟨_,eY hy ey,rfl,e1,e2⟩ hq
   ·exact⟨e1,e2⟩
  ·rcases cE.mp hM with h|⟨_,h⟩
   ·exact I.as m hm x hx e h λh'=>hq (pl x hx h')
   ·exact absurd h.symm hne
 ·rcases put_mem hm with⟨rfl,_⟩|⟨hm,_⟩
  ·exact⟨by have:=oky.1;rw[ey]at this;exact this,by have:=oky.2.1;rw[ey]at this;exact this,h0,h1,hl⟩
  ·exact I.ok m hm
 ·rcases put_mem hm with⟨rfl,_⟩|⟨hm,_⟩
  ·exact .inr ⟨_,hn,rfl⟩
  ·exact I.sub m hm
theorem wf(U:TW.Tree1 u)(uok:∀n∈u,cB n)(hl:t0.length+u.length≤29):Sound u (Iv t0 u) (mu u):=by
 refine⟨λt ds I=>⟨?_,by have:=I.cnt;omega,I.sk⟩,λt ds d I h=>?_,λt ds I h=>(jN I.tr U I.sk I.as h).2⟩
 ·have nd:(t.map (·.num)).Nodup:=by
   have:=I.tr.rise;unfold Nodup;rw[pairwise_map];exact this.imp λh e=>by omega
  have:=Nodup.length_le_of_subset nd (l₂:=t0.map (·.num)++u.map (·.num)) λk hk=>by
   obtain⟨m,hm,rfl⟩:=mem_map.mp hk;rcases I.sub m hm with⟨x,hx,e⟩|⟨x,hx,e⟩
   ·exact mem_append_left _ (mem_map.mpr ⟨x,hx,e⟩)
   ·exact mem_append_right _ (mem_map.mpr ⟨x,hx,e⟩)
  rw[length_map,length_append,length_map,length_map]at this;omega
 ·have place:∀{n:Nd}{e:TW.Deed Str},n∈u→TW.Plc t n (some e)→Okd t e→cp e∧∃t1,TW.Told t e (.inr t1)∧Iv t0 u t1 (ds++[e])∧mu u t1 (ds++[e])<mu u t ds:=λ{n e} hn hp hok=>by
   obtain⟨v,hv⟩:=hok;obtain⟨k1,k2,k3,k4,k5⟩:=uok n hn;cases hp with
   |new h1 =>
    exact⟨⟨k1,k2,k3,k4,k5⟩,v,hv,vo U I uok hn hv⟩
   |@mv m hm em hne =>
    have np:¬bh t n:=λ⟨m',hm',e1,e2,e3⟩=>hne (by
     have:m'=m:=I.tr.inj hm' hm (e1.trans em.symm);subst this;exact⟨e2,e3⟩)
    have hv':=hv;cases hv with
    |@moved _ _ _ y hy ey hf hi ht =>
     exact⟨⟨k1,k2,k3,k4,k5⟩,_,hv',qm U I hn hy ey np k3 k4 k5 hv' (.inl ⟨rfl,rfl⟩)⟩
  cases h with
  |drop hx=>exact vn U I hx
  |place hno hP hf =>
   obtain⟨a,b,e,_,hok⟩:=hf;obtain⟨n,hn,hpc⟩:=fm hP d (by rw[e];simp);exact place hn hpc hok
  |@aside ps d0 c hno hP href hf hc =>
   obtain⟨a,b,e,_,hm1,hm2⟩:=hf;obtain⟨n,hn,hpc⟩:=fm hP d0 (by rw[e];simp);obtain⟨k1,k2,k3,k4,k5⟩:=uok n hn;cases hpc with
   |new _=>cases hm1
   |@mv m hm em hne =>
    have np:¬bh t n:=λ⟨m',hm',e1,e2,e3⟩=>hne (by
     have:m'=m:=I.tr.inj hm' hm (e1.trans em.symm);subst this;exact⟨e2,e3⟩)
    have cl:(aP c).length≤100:=by have:=rl c hc.lt;omega
    have told:TW.Told t (.move n.num 0 (aP c)) (.inr (t.map (TW.put ⟨n.num,0,aP c,m.st⟩))):=.moved hm em (.inl rfl) (λh=>absurd rfl h) λx hx _ ⟨e1,e2⟩=>hc.no ⟨x,.inl hx,e1,e2⟩;exact⟨⟨k1,k2,by decide,by decide,cl⟩,_,told,qm U I hn hm em np (by decide) (by decide) cl told (.inr ⟨hm2,rfl,λx hx h0 he=>hc.no ⟨x,.inr hx,h0,he⟩⟩)⟩
end
open Classical in
theorem nS{t0 u:List Nd}(T:TW.Tree1 t0)(sk:cN t0 u)(ok:∀n∈t0,cB n)(hl:t0.length+u.length≤29):Iv t0 u t0 []:=by
 refine⟨T,sk,λm _ n _ _ ⟨d,hd,_⟩=>(by cases hd),ok,λm hm=>.inl ⟨m,hm,rfl⟩,?_⟩;unfold mu;have h1:=length_filter_le (λm:Nd=>decide (¬TW.aM u m.num)) t0;have h2:=length_filter_le (λn:Nd=>decide (¬bh t0 n)) u;have h3:=length_filter_le (λn:Nd=>decide (¬bh t0 n∧¬de [] n.num)) u;show 0+_≤200;omega
inductive Trace(u t0:List Nd):List (TW.Deed Str)→List Nd→Prop where
 |nil:Trace u t0 [] t0
 |snoc {ds:List (TW.Deed Str)} {t t1:List Nd} {d:TW.Deed Str}:Trace u t0 ds t→Nxt t u ds (some d)→TW.Told t d (.inr t1)→Trace u t0 (ds++[d]) t1
theorem nT{t0 u:List Nd}(U:TW.Tree1 u)(uok:∀n∈u,cB n)(hl:t0.length+u.length≤29):Sound u (λt ds=>Iv t0 u t ds∧Trace u t0 ds t) (mu u):=by
 have S:=wf (t0:=t0) U uok hl;refine⟨λt ds h=>S.bd t ds h.1,λt ds d h hn=>?_,λt ds h hn=>S.fin t ds h.1 hn⟩;obtain⟨ok,t1,told,i1,lt⟩:=S.nx t ds d h.1 hn;exact⟨ok,t1,told,⟨i1,.snoc h.2 hn told⟩,lt⟩
theorem lS{α:Type}{p:α→Prop}:∀{l:List α}{x y:α},iO l p x→iO l p y→x=y:=by
 intro l
 induction l with
 |nil=>rintro x y ⟨a,b,e,_⟩;simp at e
 |cons z r ih =>
  rintro x y ⟨a,b,e,h1,h2⟩ ⟨a',b',e',h1',h2'⟩;cases a with
  |nil =>
   cases a' with
   |nil =>
    simp only[nil_append,List.cons.injEq]at e e';exact e.1.symm.trans e'.1
   |cons w s =>
    simp only[nil_append,cons_append,List.cons.injEq]at e e';exact absurd (e.1 ▸ h2:p z) (e'.1 ▸ h1' w mem_cons_self)
  |cons w s =>
   cases a' with
   |nil =>
    simp only[nil_append,cons_append,List.cons.injEq]at e e';exact absurd (e'.1 ▸ h2':p z) (e.1 ▸ h1 w mem_cons_self)
   |cons w' s' =>
    simp only[cons_append,List.cons.injEq]at e e';exact ih ⟨s,b,e.2,λy hy=>h1 y (mem_cons_of_mem _ hy),h2⟩ ⟨s',b',e'.2,λy hy=>h1' y (mem_cons_of_mem _ hy),h2'⟩
theorem cq{α:Type}{p:α→Prop}{l:List α}{x:α}(h:iO l p x):x∈l∧p x:=by
 obtain⟨a,b,e,_,h2⟩:=h;exact⟨by rw[e];simp,h2⟩
theorem eZ{α:Type}{l m:List α}{a b:α}(h:l++[a]=m++[b]):l=m∧a=b:=by
 have:=List.append_inj' h rfl;exact⟨this.1,by simpa using this.2⟩
theorem dD{t:List Nd}(T:TW.Tree1 t):∀{u:List Nd}{ps qs:List (TW.Deed Str)},TW.Plcs t u ps→TW.Plcs t u qs→ps=qs:=by
 intro u ps qs h
 induction h generalizing qs with
 |nil =>
  intro h';generalize e:([]:List Nd)=w at h';cases h' with
  |nil=>rfl
  |skip _ _=>simp at e
  |take _ _=>simp at e
 |@skip n u ds _ hp ih =>
  intro h';generalize e:u++[n]=w at h';cases h' with
  |nil=>simp at e
  |skip h1 h2=>obtain⟨rfl,rfl⟩:=eZ e;exact ih h1
  |take h1 h2=>obtain⟨rfl,rfl⟩:=eZ e;have:=hp.one T h2;cases this
 |@take n u ds d _ hp ih =>
  intro h';generalize e:u++[n]=w at h';cases h' with
  |nil=>simp at e
  |skip h1 h2=>obtain⟨rfl,rfl⟩:=eZ e;have:=hp.one T h2;cases this
  |take h1 h2 =>
   obtain⟨rfl,rfl⟩:=eZ e;have:=hp.one T h2;cases this;rw[ih h1]
theorem tG{t u:List Nd}{a b:Nat}(h:FreeN t u a)(h':FreeN t u b):a=b:=by
 rcases Nat.lt_trichotomy a b with l|l|l
 ·exact absurd (h'.all a h.one l) h.no
 ·exact l
 ·exact absurd (h.all b h'.one l) h'.no
theorem vp{t u:List Nd}(T:TW.Tree1 t){ds:List (TW.Deed Str)}{a b:Option (TW.Deed Str)}(h:Nxt t u ds a)(h':Nxt t u ds b):a=b:=by
 cases h with
 |drop hx =>
  have:=cq hx;cases h' with
  |drop hy=>rw[lS hx hy]
  |place hno _ _=>exact absurd this.2 (hno _ this.1)
  |aside hno _ _ _ _=>exact absurd this.2 (hno _ this.1)
  |no hno _ _ _=>exact absurd this.2 (hno _ this.1)
 |place hno hP hf =>
  have hm:=cq hf;cases h' with
  |drop hy=>have:=cq hy;exact absurd this.2 (hno _ this.1)
  |place _ hQ hg=>cases dD T hP hQ;rw[lS hf hg]
  |aside _ hQ href _ _=>cases dD T hP hQ;exact absurd hm.2 (href _ hm.1)
  |no _ hQ href _=>cases dD T hP hQ;exact absurd hm.2 (href _ hm.1)
 |aside hno hP href hf hc =>
  have hm:=cq hf;cases h' with
  |drop hy=>have:=cq hy;exact absurd this.2 (hno _ this.1)
  |place _ hQ hg=>cases dD T hP hQ;have:=cq hg;exact absurd this.2 (href _ this.1)
  |aside _ hQ _ hg hc'=>cases dD T hP hQ;rw[lS hf hg,tG hc hc']
  |no _ hQ _ hall=>cases dD T hP hQ;exact absurd hm.2 (hall _ hm.1)
 |no hno hP href hall =>
  cases h' with
  |drop hy=>have:=cq hy;exact absurd this.2 (hno _ this.1)
  |place _ hQ hg=>cases dD T hP hQ;have:=cq hg;exact absurd this.2 (href _ this.1)
  |aside _ hQ _ hg _=>cases dD T hP hQ;have:=cq hg;exact absurd this.2 (hall _ this.1)
  |no _ _ _ _=>rfl
theorem xN{t u:List Nd}(T:TW.Tree1 t)(U:TW.Tree1 u)(h1:∀n∈u,bh t n)(h2:∀n∈t,TW.aM u n.num):t.map (λn=>(⟨n.num,n.par,n.nm,dc u n.num⟩:Nd))=u:=by
 have und:=aH U;have memu:∀x,x∈t.map (λn=>(⟨n.num,n.par,n.nm,dc u n.num⟩:Nd))↔x∈u:=λx=>by
  constructor
  ·intro hx;obtain⟨n,hn,rfl⟩:=mem_map.mp hx;obtain⟨y,hy,e⟩:=h2 n hn;obtain⟨m,hm,e1,e2,e3⟩:=h1 y hy;have:m=n:=T.inj hm hn (e1.trans e);subst this;have es:dc u m.num=y.st:=by rw[←e];exact gF und hy
   rw[es,e1,e2,e3];exact hy
  ·intro hx;obtain⟨m,hm,e1,e2,e3⟩:=h1 x hx;refine mem_map.mpr ⟨m,hm,?_⟩;rw[e1,e2,e3,gF und hx]
 have r1:(t.map (λn=>(⟨n.num,n.par,n.nm,dc u n.num⟩:Nd))).Pairwise λa b=>a.num<b.num:=by
  rw[pairwise_map];exact T.rise
 have r2:u.Pairwise λa b=>a.num<b.num:=U.rise;generalize t.map (λn=>(⟨n.num,n.par,n.nm,dc u n.num⟩:Nd))=l at memu r1;clear h1 h2 und U T
 induction l generalizing u with
 |nil =>
  cases u with
  |nil=>rfl
  |cons b m=>exact absurd ((memu b).mpr mem_cons_self) (by simp)
 |cons a l ih =>
  cases u with
  |nil=>exact absurd ((memu a).mp mem_cons_self) (by simp)
  |cons b m =>
   obtain⟨l1,l2⟩:=pairwise_cons.mp r1;obtain⟨m1,m2⟩:=pairwise_cons.mp r2;have e:a=b:=by
    rcases mem_cons.mp ((memu a).mp mem_cons_self)with e|h1
    ·exact e
    ·rcases mem_cons.mp ((memu b).mpr mem_cons_self)with e|h2
     ·exact e.symm
     ·have:=m1 a h1;have:=l1 b h2;omega
   subst e;rw[ih (u:=m) m2 (λx=>⟨λhx=>?_,λhx=>?_⟩) l2]
   ·rcases mem_cons.mp ((memu x).mp (mem_cons_of_mem _ hx))with e|h
    ·subst e;have:=l1 x hx;omega
    ·exact h
   ·rcases mem_cons.mp ((memu x).mpr (mem_cons_of_mem _ hx))with e|h
    ·subst e;have:=m1 x hx;omega
    ·exact h
def iz:TW.Deed Str→Str
 |.make _ _ _ _=>"make"
 |.write _ _=>"write"
 |.move _ _ _=>"move"
 |.drop _=>"drop"
def wds(k:Int)(ds:List (TW.Deed Str)):List Str:=(ds.filter λd=>decide (ca d=k)).map iz
theorem fo(k:Int)(ds es:List (TW.Deed Str)):wds k (ds++es)=wds k ds++wds k es:=by unfold wds;rw[filter_append,map_append]
theorem lT{k:Int}{d:TW.Deed Str}(h:ca d=k):wds k [d]=[iz d]:=by unfold wds;rw[filter_cons,decide_eq_true h];rfl
theorem lU{k:Int}{d:TW.Deed Str}(h:ca d≠k):wds k [d]=[]:=by unfold wds;rw[filter_cons,decide_eq_false h];rfl
theorem tH{k:Int}{ds:List (TW.Deed Str)}(h:("move":Str)∈wds k ds):de ds k:=by
 unfold wds at h;obtain⟨d,hd,e⟩:=mem_map.mp h;obtain⟨h1,h2⟩:=mem_filter.mp hd;refine⟨d,h1,?_,of_decide_eq_true h2⟩;cases d with
 |make _ _ _ _=>exact absurd e (show ¬(("make":Str)="move")by decide +kernel)
 |write _ _=>exact absurd e (show ¬(("write":Str)="move")by decide +kernel)
 |move _ _ _=>rfl
 |drop _=>exact absurd e (show ¬(("drop":Str)="move")by decide +kernel)
structure Cnt(t0 u:List Nd)(ds:List (TW.Deed Str))(t:List Nd):Prop where
 out:∀k,¬TW.aM u k→wds k ds=[]∨(wds k ds=[("drop":Str)]∧¬TW.aM t k)
 new:∀n∈u,¬TW.aM t0 n.num→(wds n.num ds=[]∧¬TW.aM t n.num)∨(wds n.num ds=[("make":Str)]∧n∈t)
 old:∀n∈u,∀o∈t0,o.num=n.num→∃m∈t,m.num=n.num∧m.st=o.st∧((wds n.num ds=[]∧m.par=o.par∧m.nm=o.nm)∨(wds n.num ds=[("move":Str)]∧¬(o.par=n.par∧o.nm=n.nm))∨(wds n.num ds=[("move":Str),("move":Str)]∧¬(o.par=n.par∧o.nm=n.nm)∧bh t n))
section
variable{t0 u t:List Nd}{ds:List (TW.Deed Str)}
theorem ro:Cnt t0 u [] t0:=⟨λk _=>.inl rfl,λn hn h=>.inl ⟨rfl,h⟩,λn hn o ho e=>⟨o,ho,e,rfl,.inl ⟨rfl,rfl,rfl⟩⟩⟩
theorem tI(T:TW.Tree1 t)(C:Cnt t0 u ds t){x:Nd}(hx:iO t (TW.cA t u) x){t1:List Nd}(told:TW.Told t (.drop x.num) (.inr t1)):Cnt t0 u (ds++[.drop x.num]) t1:=by
 obtain⟨mx,hd⟩:=cq hx;have x0:x.num≠0:=by have:=T.pos x mx;omega
 have xu:¬TW.aM u x.num:=λh=>hd.1 ⟨x0,x,mx,h,.here⟩;cases told with
 |@dropped _ f _ hf =>
  have stay:∀m∈t,TW.aM u m.num→m∈t.filter f:=λm hm hu=>mem_filter.mpr ⟨hm,(hf m hm).mpr λh=>hd.1 ⟨x0,m,hm,hu,h⟩⟩;have sub:∀m,m∈t.filter f→m∈t:=λm hm=>(mem_filter.mp hm).1;have subN:∀k,TW.aM (t.filter f) k→TW.aM t k:=λk ⟨m,hm,e⟩=>⟨m,sub m hm,e⟩;have nu:∀n∈u,wds n.num (ds++[.drop x.num])=wds n.num ds:=λn hn=>by
   rw[fo,lU (show ca (TW.Deed.drop x.num:TW.Deed Str)≠n.num from λe=>xu ⟨n,hn,e.symm⟩),append_nil]
  refine⟨λk hk=>?_,λn hn h=>?_,λn hn o ho e=>?_⟩
  ·by_cases e:x.num=k
   ·right
    subst e;have h0:wds x.num ds=[]:=by
     rcases C.out x.num hk with h|⟨_,h⟩
     ·exact h
     ·exact absurd ⟨x,mx,rfl⟩ h
    refine⟨by rw[fo,h0,lT (show ca (TW.Deed.drop x.num:TW.Deed Str)=x.num from rfl)];rfl,λ⟨m,hm,em⟩=>?_⟩;obtain⟨h1,h2⟩:=mem_filter.mp hm;exact(hf m h1).mp h2 (by rw[em];exact .here)
   ·rw[fo,lU (show ca (TW.Deed.drop x.num:TW.Deed Str)≠k from e),append_nil];rcases C.out k hk with h|⟨h,h'⟩
    ·exact .inl h
    ·exact .inr ⟨h,λh2=>h' (subN k h2)⟩
  ·rw[nu n hn];rcases C.new n hn h with⟨a,b⟩|⟨a,b⟩
   ·exact .inl ⟨a,λh2=>b (subN _ h2)⟩
   ·exact .inr ⟨a,stay n b ⟨n,hn,rfl⟩⟩
  ·rw[nu n hn];obtain⟨m,hm,e1,e2,h⟩:=C.old n hn o ho e;refine⟨m,stay m hm ⟨n,hn,e1.symm⟩,e1,e2,?_⟩;rcases h with h|h|⟨a,b,m',hm',f1,f2⟩
   ·exact .inl h
   ·exact .inr (.inl h)
   ·exact .inr (.inr ⟨a,b,m',stay m' hm' ⟨n,hn,f1.symm⟩,f1,f2⟩)
theorem tJ(U:TW.Tree1 u)(C:Cnt t0 u ds t){n:Nd}(hn:n∈u)(h1:¬TW.aM t n.num){v:List Nd}(told:TW.Told t (.make n.num n.par n.nm n.st) (.inr v)):Cnt t0 u (ds++[.make n.num n.par n.nm n.st]) v:=by
 cases told with
 |made _ _ _ hp _ =>
  have hp':v.Perm (n::t):=hp;have mem:∀m,m∈v↔m=n∨m∈t:=λm=>by rw[hp'.mem_iff,mem_cons]
  have hasV:∀k,k≠n.num→TW.aM v k→TW.aM t k:=λk hk ⟨m,hm,e⟩=>by
   rcases (mem m).mp hm with rfl|hm
   ·exact absurd e.symm hk
   ·exact⟨m,hm,e⟩
  have other:∀k,k≠n.num→wds k (ds++[.make n.num n.par n.nm n.st])=wds k ds:=λk hk=>by
   rw[fo,lU (show ca (TW.Deed.make n.num n.par n.nm n.st:TW.Deed Str)≠k from symm hk),append_nil]
  refine⟨λk hk=>?_,λx hx h=>?_,λx hx o ho e=>?_⟩
  ·have ne:k≠n.num:=λe=>hk ⟨n,hn,e.symm⟩;rw[other k ne];rcases C.out k hk with h|⟨h,h'⟩
   ·exact .inl h
   ·exact .inr ⟨h,λh2=>h' (hasV k ne h2)⟩
  ·by_cases e:x.num=n.num
   ·have:x=n:=U.inj hx hn e;subst this
    right
    have h0:wds x.num ds=[]:=by
     rcases C.new x hx h with⟨a,_⟩|⟨_,b⟩
     ·exact a
     ·exact absurd ⟨x,b,rfl⟩ h1
    exact⟨by rw[fo,h0,lT (show ca (TW.Deed.make x.num x.par x.nm x.st:TW.Deed Str)=x.num from rfl)];rfl,(mem x).mpr (.inl rfl)⟩
   ·rw[other _ e];rcases C.new x hx h with⟨a,b⟩|⟨a,b⟩
    ·exact .inl ⟨a,λh2=>b (hasV _ e h2)⟩
    ·exact .inr ⟨a,(mem x).mpr (.inr b)⟩
  ·obtain⟨m,hm,e1,e2,h⟩:=C.old x hx o ho e;have ne:x.num≠n.num:=λe'=>h1 ⟨m,hm,e1.trans e'⟩;rw[other _ ne];refine⟨m,(mem m).mpr (.inr hm),e1,e2,?_⟩;rcases h with h|h|⟨a,b,m',hm',f1⟩
   ·exact .inl h
   ·exact .inr (.inl h)
   ·exact .inr (.inr ⟨a,b,m',(mem m').mpr (.inr hm'),f1⟩)
theorem nU(T:TW.Tree1 t)(U:TW.Tree1 u)(C:Cnt t0 u ds t){n y:Nd}(hn:n∈u)(hy:y∈t)(ey:y.num=n.num)(np:¬bh t n){p:Int}{nm:Str}(hw:(p=n.par∧nm=n.nm)∨¬de ds n.num):Cnt t0 u (ds++[.move n.num p nm]) (t.map (TW.put ⟨n.num,p,nm,y.st⟩)):=by
 have other:∀k,k≠n.num→wds k (ds++[.move n.num p nm])=wds k ds:=λk hk=>by
  rw[fo,lU (show ca (TW.Deed.move n.num p nm:TW.Deed Str)≠k from symm hk),append_nil]
 have hasV:∀k,TW.aM (t.map (TW.put ⟨n.num,p,nm,y.st⟩)) k→TW.aM t k:=λk ⟨m,hm,e⟩=>by
  rcases put_mem hm with⟨rfl,_⟩|⟨hm,_⟩
  ·exact⟨y,hy,ey.trans e⟩
  ·exact⟨m,hm,e⟩
 refine⟨λk hk=>?_,λx hx h=>?_,λx hx o ho e=>?_⟩
 ·have ne:k≠n.num:=λe=>hk ⟨n,hn,e.symm⟩;rw[other k ne];rcases C.out k hk with h|⟨h,h'⟩
  ·exact .inl h
  ·exact .inr ⟨h,λh2=>h' (hasV k h2)⟩
 ·by_cases e:x.num=n.num
  ·have:x=n:=U.inj hx hn e;subst this;rcases C.new x hx h with⟨_,b⟩|⟨_,b⟩
   ·exact absurd ⟨y,hy,ey⟩ b
   ·exact absurd ⟨x,b,rfl,rfl,rfl⟩ np
  ·rw[other _ e];rcases C.new x hx h with⟨a,b⟩|⟨a,b⟩
   ·exact .inl ⟨a,λh2=>b (hasV _ h2)⟩
   ·exact .inr ⟨a,jg b e⟩
 ·obtain⟨m,hm,e1,e2,h⟩:=C.old x hx o ho e
  by_cases en:x.num=n.num
  ·have:x=n:=U.inj hx hn en;subst this;have my:m=y:=T.inj hm hy (e1.trans ey.symm);subst my;refine⟨_,eY hy ey,rfl,e2,?_⟩;have hwd:wds x.num (ds++[.move x.num p nm])=wds x.num ds++[("move":Str)]:=by rw[fo,lT (show ca (TW.Deed.move x.num p nm:TW.Deed Str)=x.num from rfl)];rfl
   rw[hwd];rcases h with⟨a,b,c⟩|⟨a,b⟩|⟨_,_,b⟩
   ·exact .inr (.inl ⟨by rw[a];rfl,λ⟨f1,f2⟩=>np ⟨m,hm,e1,b.trans f1,c.trans f2⟩⟩)
   ·rcases hw with⟨g1,g2⟩|g
    ·exact .inr (.inr ⟨by rw[a];rfl,b,_,eY hy ey,rfl,g1,g2⟩)
    ·exact absurd (tH (by rw[a];exact mem_cons_self)) g
   ·exact absurd b np
  ·rw[other _ en];have mne:m.num≠n.num:=λe'=>en (e1.symm.trans e');refine⟨m,jg hm mne,e1,e2,?_⟩;rcases h with h|h|⟨a,b,m',hm',f1,f2⟩
   ·exact .inl h
   ·exact .inr (.inl h)
   ·exact .inr (.inr ⟨a,b,m',jg hm' (λe'=>en (f1.symm.trans e')),f1,f2⟩)
theorem tK(T:TW.Tree1 t)(U:TW.Tree1 u)(C:Cnt t0 u ds t){d:TW.Deed Str}(hn:Nxt t u ds (some d)){t1:List Nd}(told:TW.Told t d (.inr t1)):Cnt t0 u (ds++[d]) t1:=by
 have notp:∀{n m:Nd},m∈t→m.num=n.num→¬(m.par=n.par∧m.nm=n.nm)→¬bh t n:=λ{n m} hm em hne ⟨m',hm',e1,e2,e3⟩=>hne (by
  have:m'=m:=T.inj hm' hm (e1.trans em.symm);subst this;exact⟨e2,e3⟩)
 cases hn with
 |drop hx=>exact tI T C hx told
 |place hno hP hf =>
  obtain⟨n,hn,hpc⟩:=fm hP d (cq hf).1;cases hpc with
  |new h1=>exact tJ U C hn h1 told
  |mv hm em hne =>
   have np:=notp hm em hne;cases told with
   |moved hy ey _ _ _=>exact nU T U C hn hy ey np (.inl ⟨rfl,rfl⟩)
 |@aside ps d0 c hno hP href hf hc =>
  obtain⟨h0,hm1,hm2⟩:=cq hf;obtain⟨n,hn,hpc⟩:=fm hP d0 h0;cases hpc with
  |new _=>cases hm1
  |mv hm em hne =>
   have np:=notp hm em hne;cases told with
   |moved hy ey _ _ _=>exact nU T U C hn hy ey np (.inr hm2)
theorem vq(U:TW.Tree1 u){d:TW.Deed Str}(h:Nxt t u ds (some d)):d.pos:=by
 cases h with
 |drop _=>trivial
 |place _ hP hf =>
  obtain⟨n,hn,hpc⟩:=fm hP d (cq hf).1;cases hpc with
  |new _=>exact U.pos n hn
  |mv _ _ _=>trivial
 |aside _ _ _ _ _=>trivial
theorem lj(U:TW.Tree1 u)(T0:TW.Tree1 t0)(h:Trace u t0 ds t):TW.Tree1 t∧Cnt t0 u ds t:=by
 induction h with
 |nil=>exact⟨T0,ro⟩
 |snoc _ hn told ih=>exact⟨told.tree ih.1 (vq U hn),tK ih.1 U ih.2 hn told⟩
theorem rp{a b:List (TW.Deed Str)}(h:Trace u t0 (a++b) t):∃t',Trace u t0 a t':=by
 generalize e:a++b=ds at h
 induction h generalizing b with
 |nil =>
  obtain⟨rfl,rfl⟩:=List.append_eq_nil_iff.mp e;exact⟨_,.nil⟩
 |@snoc ds t t1 d hh hn told ih =>
  rcases List.eq_nil_or_concat b with rfl|⟨b',x,rfl⟩
  ·rw[append_nil]at e;subst e;exact⟨_,.snoc hh hn told⟩
  ·rw[List.concat_eq_append,←append_assoc]at e;exact ih (eZ e).1
end
section
variable{t0 u tt:List Nd}{dd:List (TW.Deed Str)}
theorem fq{t:List Nd}(T:TW.Tree1 t):(t.map (·.num)).Nodup:=by
 have:=T.rise;unfold Nodup;rw[pairwise_map];exact this.imp λh e=>by omega
end
section
variable{t0 u t:List Nd}{ds:List (TW.Deed Str)}
end
open Classical in
def cJ(t:List Nd)(n:Nd):Bool:=decide (¬bh t n)
open Classical in
def cV(t:List Nd)(n:Nd):TW.Deed Str:=if TW.aM t n.num then .move n.num n.par n.nm else .make n.num n.par n.nm n.st
open Classical in
theorem hJ{t:List Nd}{n:Nd}(h:¬bh t n):cJ t n=true:=by unfold cJ;rw[decide_eq_true_eq];exact h
theorem iP{t:List Nd}{n:Nd}(h:bh t n):cJ t n=false:=by unfold cJ;rw[decide_eq_false_iff_not];exact λz=>z h
theorem lV{t:List Nd}{n:Nd}(h:cJ t n=true):¬bh t n:=λz=>by rw[iP z]at h;cases h
theorem iA(t:List Nd)(n:Nd):ca (cV t n)=n.num:=by unfold cV;split<;>rfl
theorem lW(t:List Nd)(n:Nd):fk (cV t n)=true↔TW.aM t n.num:=by
 unfold cV
 split
 ·exact⟨λ_=>by assumption,λ_=>rfl⟩
 ·exact⟨λh=>absurd h (by simp[fk]),λh=>by contradiction⟩
theorem vr{t:List Nd}{n:Nd}(h:¬bh t n):TW.Plc t n (some (cV t n)):=by
 unfold cV
 split
 ·rename_i hh
  obtain⟨m,hm,e⟩:=hh;exact .mv hm e λz=>h ⟨m,hm,e,z.1,z.2⟩
 ·exact .new (by assumption)
theorem jO(t:List Nd):∀l:List Nd,TW.Plcs t l.reverse ((l.reverse.filter (cJ t)).map (cV t))
 |[]=>.nil
 |a::l=>by
  rw[List.reverse_cons,filter_append,map_append]
  by_cases h:bh t a
  ·rw[filter_cons,iP h];obtain⟨m,hm,e1,e2,e3⟩:=h;show TW.Plcs t (l.reverse++[a]) (_++[]);rw[append_nil];exact .skip (jO t l) (.no hm e1 e2 e3)
  ·rw[filter_cons,hJ h];exact .take (jO t l) (vr h)
theorem jh(t u:List Nd):TW.Plcs t u ((u.filter (cJ t)).map (cV t)):=by
 have:=jO t u.reverse
 rwa [List.reverse_reverse]at this
structure Lf(t u:List Nd)(ds:List (TW.Deed Str))(L S:List Int):Prop where
 left:L=(u.filter (cJ t)).map (·.num)
 sp:∀n∈u,¬bh t n→(n.num∈S↔de ds n.num)
section
variable{t0 t u:List Nd}{ds:List (TW.Deed Str)}{L S:List Int}
theorem tL:Lf t0 u [] ((u.filter (cJ t0)).map (·.num)) []:=⟨rfl,λn _ _=>⟨λh=>(not_mem_nil h).elim,λ⟨d,hd,_⟩=>(not_mem_nil hd).elim⟩⟩
theorem rq(hno:∀x∈t,¬TW.cA t u x)(h:u.filter (cJ t)=[]):Nxt t u ds none:=by
 have:=jh t u;rw[h]at this;exact .no hno this (λd hd=>(not_mem_nil hd).elim) (λd hd=>(not_mem_nil hd).elim)
theorem pc(hno:∀x∈t,¬TW.cA t u x){a b:List Nd}{n:Nd}(e:u.filter (cJ t)=a++n::b)(ha:∀m∈a,¬Okd t (cV t m))(hn:Okd t (cV t n)):Nxt t u ds (some (cV t n)):=by
 have:=jh t u;rw[e,map_append,map_cons]at this;exact .place hno this ⟨a.map (cV t),b.map (cV t),rfl,λy hy=>by obtain⟨m,hm,rfl⟩:=mem_map.mp hy;exact ha m hm,hn⟩
theorem ph(hno:∀x∈t,¬TW.cA t u x)(F:Lf t u ds L S)(hall:∀m∈u.filter (cJ t),¬Okd t (cV t m)){a b:List Nd}{n:Nd}(e:u.filter (cJ t)=a++n::b)(ha:∀m∈a,¬(TW.aM t m.num∧m.num∉S))(h1:TW.aM t n.num)(h2:n.num∉S){c:Nat}(hc:FreeN t u c):Nxt t u ds (some (.move n.num 0 (aP c))):=by
 have hP:=jh t u;have mem:∀m∈u.filter (cJ t),m.num∈S↔de ds m.num:=λm hm=>by
  obtain⟨g1,g2⟩:=mem_filter.mp hm;exact F.sp m g1 (lV g2)
 have key:=Nxt.aside (ds:=ds) hno hP (λd hd=>by obtain⟨m,hm,rfl⟩:=mem_map.mp hd;exact hall m hm) (d:=cV t n) ⟨a.map (cV t),b.map (cV t),by rw[e,map_append,map_cons],λy hy=>by
  obtain⟨m,hm,rfl⟩:=mem_map.mp hy;rintro⟨g1,g2⟩;rw[iA]at g2;exact ha m hm ⟨(lW t m).mp g1,λz=>g2 ((mem m (by rw[e];exact mem_append_left _ hm)).mp z)⟩,(lW t n).mpr h1,by
  rw[iA];exact λz=>h2 ((mem n (by rw[e];exact mem_append_right _ mem_cons_self)).mpr z)⟩ hc
 rwa [iA]at key
theorem vt(T:TW.Tree1 t)(U:TW.Tree1 u)(sk:cN t u)(as:qk t u ds)(hno:∀x∈t,¬TW.cA t u x)(F:Lf t u ds L S)(hall:∀m∈u.filter (cJ t),¬Okd t (cV t m))(hne:u.filter (cJ t)≠[]):∃n∈u.filter (cJ t),TW.aM t n.num∧n.num∉S:=by
 refine Classical.byContradiction λz=>hne ?_;have hN:Nxt t u ds none:=.no hno (jh t u) (λd hd=>by obtain⟨m,hm,rfl⟩:=mem_map.mp hd;exact hall m hm) (λd hd h=>by
  obtain⟨m,hm,rfl⟩:=mem_map.mp hd;rw[iA]at h;obtain⟨g1,g2⟩:=mem_filter.mp hm;exact z ⟨m,hm,(lW t m).mp h.1,λy=>h.2 ((F.sp m g1 (lV g2)).mp y)⟩)
 obtain⟨h1,_⟩:=jN T U sk as hN;exact filter_eq_nil_iff.mpr λn hn y=>lV y (h1 n hn)
theorem ft{t1:List Nd}{k:Int}(hv:∀m:Nd,m.num≠k→(m∈t1↔m∈t)){n:Nd}(hn:n.num≠k):bh t1 n↔bh t n :=
 ⟨λ⟨m,hm,e,r⟩=>⟨m,(hv m (by rw[e];exact hn)).mp hm,e,r⟩,λ⟨m,hm,e,r⟩=>⟨m,(hv m (by rw[e];exact hn)).mpr hm,e,r⟩⟩
theorem hU{t1:List Nd}{n:Nd}(h:bh t1 n↔bh t n):cJ t1 n=cJ t n:=by
 by_cases z:bh t n
 ·rw[iP z,iP (h.mpr z)]
 ·rw[hJ z,hJ λy=>z (h.mp y)]
theorem ll(U:TW.Tree1 u)(F:Lf t u ds L S){t1:List Nd}{d:TW.Deed Str}{n:Nd}(hn:n∈u)(ed:ca d=n.num)(hv:∀m:Nd,m.num≠n.num→(m∈t1↔m∈t))(hp:bh t1 n):Lf t1 u (ds++[d]) (L.filter λk=>!decide (k=n.num)) S:=by
 refine⟨?_,λm hm np=>?_⟩
 ·rw[F.left,filter_map,List.filter_filter]
  congr 1
  refine filter_congr λm hm=>?_
  by_cases e:m.num=n.num
  ·have:=U.inj hm hn e;subst this;rw[iP hp];simp
  ·rw[hU (ft hv e)];simp[e]
 ·have ne:m.num≠n.num:=λe=>np (by rw[U.inj hm hn e];exact hp);rw[F.sp m hm λz=>np ((ft hv ne).mpr z),cE];exact⟨.inl,λz=>z.resolve_right λy=>ne (y.2.symm.trans ed)⟩
theorem tN(U:TW.Tree1 u)(F:Lf t u ds L S){t1:List Nd}{d:TW.Deed Str}{n:Nd}(hn:n∈u)(ed:ca d=n.num)(em:fk d=true)(hv:∀m:Nd,m.num≠n.num→(m∈t1↔m∈t))(h0:¬bh t n)(hp:¬bh t1 n):Lf t1 u (ds++[d]) L (S++[n.num]):=by
 refine⟨?_,λm hm np=>?_⟩
 ·rw[F.left]
  congr 1
  refine filter_congr λm hm=>?_
  by_cases e:m.num=n.num
  ·have:=U.inj hm hn e;subst this;rw[hJ hp,hJ h0]
  ·rw[hU (ft hv e)]
 ·rw[cE,mem_append,mem_singleton]
  by_cases e:m.num=n.num
  ·exact⟨λ_=>.inr ⟨em,ed.trans e.symm⟩,λ_=>.inr e⟩
  ·rw[F.sp m hm λz=>np ((ft hv e).mpr z)];exact⟨λz=>.inl (z.resolve_right e),λz=>.inl (z.resolve_right λy=>e (y.2.symm.trans ed))⟩
theorem vw(T:TW.Tree1 t)(U:TW.Tree1 u)(F:Lf t u ds L S){d:TW.Deed Str}(hn:Nxt t u ds (some d)){t1:List Nd}(told:TW.Told t d (.inr t1)):
  (iz d=("drop":Str)∧Lf t1 u (ds++[d]) L S)∨(iz d≠("drop":Str)∧∃n∈u,n.num=ca d∧TW.aM t1 (ca d)∧((bh t1 n∧Lf t1 u (ds++[d]) (L.filter λk=>!decide (k=ca d)) S)∨(¬bh t1 n∧iz d=("move":Str)∧Lf t1 u (ds++[d]) L (S++[ca d])))):=by
 have mvd:∀{n y:Nd}{p:Int}{nm:Str},∀m:Nd,m.num≠n.num→(m∈t.map (TW.put ⟨n.num,p,nm,y.st⟩)↔m∈t):=λ{n y p nm} m hm=>TW.put_mem (z:=⟨n.num,p,nm,y.st⟩) hm;have notp:∀{n m:Nd},m∈t→m.num=n.num→¬(m.par=n.par∧m.nm=n.nm)→¬bh t n:=λ{n m} hm em hne ⟨m',hm',e1,e2,e3⟩=>hne (by
  have:m'=m:=T.inj hm' hm (e1.trans em.symm);subst this;exact⟨e2,e3⟩)
 cases hn with
 |drop hx =>
  rename_i x
  left
  refine⟨rfl,?_⟩;obtain⟨mx,hd⟩:=cq hx;have x0:x.num≠0:=by have:=T.pos x mx;omega
  cases told with
  |@dropped _ f _ hf =>
   have pl:∀n∈u,bh (t.filter f) n↔bh t n:=λn hn=>⟨λ⟨m,hm,r⟩=>⟨m,(mem_filter.mp hm).1,r⟩,λ⟨m,hm,e,r⟩=>⟨m,mem_filter.mpr ⟨hm,(hf m hm).mpr λh=>hd.1 ⟨x0,m,hm,⟨n,hn,e.symm⟩,h⟩⟩,e,r⟩⟩;refine⟨?_,λn hn np=>?_⟩
   ·rw[F.left]
    congr 1
    exact filter_congr λm hm=>(hU (pl m hm)).symm
   ·rw[F.sp n hn λz=>np ((pl n hn).mpr z),cE];exact⟨.inl,λz=>z.resolve_right λy=>by cases y.1⟩
 |place hno hP hf =>
  right
  obtain⟨n,hn,hpc⟩:=fm hP d (cq hf).1;cases hpc with
  |new h1 =>
   cases told with
   |made _ _ _ hp _ =>
    have mem:∀m,m∈t1↔m=n∨m∈t:=λm=>by rw[hp.mem_iff,mem_cons]
    have here:n∈t1:=(mem n).mpr (.inl rfl);refine⟨show("make":Str)≠"drop" by decide +kernel,n,hn,rfl,⟨n,here,rfl⟩,.inl ⟨⟨n,here,rfl,rfl,rfl⟩,?_⟩⟩;exact ll U F hn rfl (λm hm=>by rw[mem m];exact⟨λz=>z.resolve_left λz=>hm (by rw[z]),.inr⟩) ⟨n,here,rfl,rfl,rfl⟩
  |mv hm em hne =>
   cases told with
   |@moved _ _ _ y hy ey _ _ _ =>
    have here:=eY (x:=⟨n.num,n.par,n.nm,y.st⟩) hy ey;refine⟨show("move":Str)≠"drop" by decide +kernel,n,hn,rfl,⟨_,here,rfl⟩,.inl ⟨⟨_,here,rfl,rfl,rfl⟩,?_⟩⟩;exact ll U F hn rfl (λm hm=>mvd m hm) ⟨_,here,rfl,rfl,rfl⟩
 |@aside ps d0 c hno hP href hf hc =>
  right
  obtain⟨h0,hm1,hm2⟩:=cq hf;obtain⟨n,hn,hpc⟩:=fm hP d0 h0;cases hpc with
  |new _=>cases hm1
  |mv hm em hne =>
   cases told with
   |@moved _ _ _ y hy ey hfo hi ho =>
    have here:=eY (x:=⟨n.num,0,aP c,y.st⟩) hy ey;have np:¬bh (t.map (TW.put ⟨n.num,0,aP c,y.st⟩)) n:=λ⟨m,hm',e1,e2,e3⟩=>by
     rcases put_mem hm' with⟨rfl,_⟩|⟨_,ne⟩
     ·exact hc.no ⟨n,.inr hn,e2.symm,e3.symm⟩
     ·exact ne e1
    refine⟨show("move":Str)≠"drop" by decide +kernel,n,hn,rfl,⟨_,here,rfl⟩,.inr ⟨np,rfl,?_⟩⟩;exact tN U F hn rfl rfl (λm hm=>mvd m hm) (notp hm em hne) np
theorem xO{l:List (TW.Deed Str)}{x:List Nd}(h:Trace u t0 l x)(e:l=[]):x=t0:=by
 cases h with
 |nil=>rfl
 |snoc _ _ _=>simp at e
theorem tO{l c:List (TW.Deed Str)}{x:List Nd}{y:TW.Deed Str}(h:Trace u t0 l x)(e:l=c++[y]):∃z,Trace u t0 c z∧Nxt z u c (some y)∧TW.Told z y (.inr x):=by
 cases h with
 |nil=>simp at e
 |snoc h1 h2 h3 =>
  obtain⟨e1,e2⟩:=eZ e;subst e1 e2;exact⟨_,h1,h2,h3⟩
theorem tP(T0:TW.Tree1 t0)(U:TW.Tree1 u){l:List (TW.Deed Str)}{x y:List Nd}(hx:Trace u t0 l x):Trace u t0 l y→x=y:=by
 induction hx generalizing y with
 |nil=>intro hy;exact(xO hy rfl).symm
 |@snoc l x1 x2 d hx1 hx2 hx3 ih2 =>
  intro hy;obtain⟨z,w1,w2,w3⟩:=tO hy rfl;have:=ih2 w1;subst this;obtain⟨T1,_⟩:=lj U T0 hx1;injection hx3.one T1 w3
theorem lX(T0:TW.Tree1 t0)(U:TW.Tree1 u){a r:List (TW.Deed Str)}{d:TW.Deed Str}{ta tb:List Nd}(ha:Trace u t0 a ta)(hb:Trace u t0 (a++d::r) tb){o:Option (TW.Deed Str)}(ho:Nxt ta u a o):o=some d:=by
 obtain⟨t',htr⟩:=rp (a:=a++[d]) (b:=r) (by simpa using hb);obtain⟨z,z1,z2,_⟩:=tO htr rfl;have:=tP T0 U z1 ha;subst this;obtain⟨T1,_⟩:=lj U T0 z1;exact vp T1 ho z2
theorem tQ(T0:TW.Tree1 t0)(U:TW.Tree1 u){a b:List (TW.Deed Str)}{ta tb:List Nd}(ha:Trace u t0 a ta)(hb:Trace u t0 b tb):a.length≤b.length→∃r,b=a++r:=by
 induction ha with
 |nil=>intro _;exact⟨b,rfl⟩
 |@snoc a t1 t2 d ha hn told ih =>
  intro hl;rw[length_append,length_singleton]at hl;obtain⟨r,e⟩:=ih (by omega);subst e;cases r with
  |nil=>rw[append_nil]at hl;omega
  |cons d' r =>
   have:=lX T0 U ha hb hn;injection this with this
   subst this;exact⟨r,by simp⟩
theorem rs(T0:TW.Tree1 t0)(U:TW.Tree1 u){a b:List (TW.Deed Str)}{ta tb:List Nd}(ha:Trace u t0 a ta)(hb:Trace u t0 b tb)(na:Nxt ta u a none)(nb:Nxt tb u b none):a=b∧ta=tb:=by
 have key:a=b:=by
  rcases Nat.le_total a.length b.length with h|h
  ·obtain⟨r,e⟩:=tQ T0 U ha hb h;cases r with
   |nil=>rw[e,append_nil]
   |cons d r=>subst e;cases lX T0 U ha hb na
  ·obtain⟨r,e⟩:=tQ T0 U hb ha h;cases r with
   |nil=>rw[e,append_nil]
   |cons d r=>subst e;cases lX T0 U hb ha nb
 subst key;exact⟨rfl,tP T0 U ha hb⟩
theorem tR{tt:List Nd}(T:TW.Tree1 tt)(U:TW.Tree1 u)(h1:∀n∈u,bh tt n)(h2:∀n∈tt,TW.aM u n.num):jX tt u=(u.filter λn=>!decide (dc tt n.num=n.st)).map λn=>.write n.num (n.st.getD 0):=by
 have e:=xN T U h1 h2;have key:((tt.map λn=>(⟨n.num,n.par,n.nm,dc u n.num⟩:Nd)).filter λn=>!decide (dc tt n.num=n.st)).map (λn=>(TW.Deed.write n.num (n.st.getD 0):TW.Deed Str))=jX tt u:=by
  rw[filter_map,map_map];unfold jX;have:tt.filter ((λn:Nd=>!decide (dc tt n.num=n.st))∘λn=>(⟨n.num,n.par,n.nm,dc u n.num⟩:Nd))=tt.filter λn=>!decide (n.st=dc u n.num):=filter_congr λn hn=>by
   show(!decide (dc tt n.num=dc u n.num))=_;rw[gF (fq T) hn]
  rw[this];rfl
 rw[e]at key;exact key.symm
end
section
variable{P:Program}{w:World}{K:PySem.W.Frag}{mg:Str→Option Value}{base:Heap}
def dI:Sp:=λvs H Q _=>∃t zs,vs=[.ref t]∧Tre H t zs∧∀d as H',Same H H'→H d=none→Book H' d as zs→H' d=some (.dK (aD as))→Q (.ref d) H'
theorem xP:FnScope ["_law_tree_here"] ["_law_tree_here"] (ah sI):=fsc
theorem vx{f:Addr}{fd:FuncData}(F:Fun K "_law_book" "_law_book" sI f fd)(T:Txt mg):FnOk P w K mg base CX0 1 f fd ["_law_tree_here"] dI:=by
 refine F.ok xP (λvs H Q E h=>?_) (λcdv A outer s H vs Q E hr h=>?_)
 ·obtain⟨t,zs,rfl,_⟩:=h;rfl
 ·obtain⟨t,zs,rfl,tr,k⟩:=h;have hnd:=aH tr.tr;have hl:=tr.len;have ht:=tr.tup;have hA:=tr.nod;refine⟨_,aj (ax (bc (fZ rfl) rfl T.dict boot_dict (aa (ik (N:=["_law_node"]) (k:=1) (js:=[]) (g:=bg 0) rfl (eL rfl (by decide +kernel) (by decide +kernel) (by decide +kernel)) rfl (λi j x h=>by simp at h)
   (cS (pv 0)) (λs H fp=>aG (i:=0) (show(["_law_node"]:List Str).Nodup by decide +kernel) rfl (Or.inl rfl) (Or.inr rfl))
   (λs H fp=>bn (aa (av (r:=cw K) aq (pv 0) ai (λ_ _=>rfl)) (aa (bX (r:=jR K) cT (pv 0) (bv ai) cW) af)))) af))),?_⟩
  refine⟨_,rfl,t,rfl,⟨_,SqT.of ht⟩,λp hp=>?_⟩;refine sv (fr:=[]) zs.length (by omega) hp rfl (λi y H'=>∃q t' z,zs[i]?=some z∧y=.ref q∧q≠p∧t'≠p∧H' q=some (.tup [.int z.2.num,.ref t'])∧H' t'=some (.tup (bH z.2))) (λi y H1 H2 h ex=>?_) (λi H' hi s1=>?_) (λH' s1=>?_) ?_ (λi H' x H2 hi s1 hpl hy=>?_) (λys H' s1 hp' hlen hys=>?_)
  ·obtain⟨q,t',z,e1,e2,e3,e4,e5,e6⟩:=h;exact⟨q,t',z,e1,e2,e3,e4,ex q _ e3 e5,ex t' _ e4 e6⟩
  ·exact⟨_,_,SqT.of (s1 _ _ ht),jz (getElem?_eq_getElem hi)⟩
  ·exact⟨_,SqT.of (s1 _ _ ht),by rw[cf];exact le_refl _⟩
  ·rintro _ _ _ _ m ⟨v1,b1,p1,xs,i1,v2,c1,c2,c3,c4,v3,b3,i3,d0,a3,xs3,d1,d2,d3,q⟩;refine⟨v1,b1,p1,xs,i1,v2,c1,c2,c3,c4,v3,b3,i3,d0,a3,xs3,d1,d2,d3,λl hl=>?_⟩;obtain⟨hz',q'⟩:=q l hl;exact⟨hz',λl' hl'=>m _ _ (q' l' hl')⟩
  ·obtain⟨rfl,hx⟩:=hy;obtain⟨z,gz,rfl⟩:=cZ (hx _ (SqT.of (s1 _ _ ht)));have mz:=mem_of_getElem? gz;have hz1:=s1 _ _ (hA z mz);have ecut:dz (vals z.2) (some 1) none=bH z.2:=rfl;refine⟨rfl,_,rfl,z.1,_,_,_,rfl,rfl,SqT.of hz1,at0 z.2,_,rfl,_,rfl,z.1,_,rfl,SqT.of hz1,(by intro h;exact absurd h.1 (show ¬HT.sIx 4 0 (some 1)=0 by decide)),λt' ht'=>?_⟩;rw[ecut];have s2:=ag (o:=.tup (bH z.2)) ht';have hpl2:∃ys,upd H2 t' (.tup (bH z.2)) p=some (.lst ys):=let⟨ys,e⟩:=hpl;⟨ys,s2 _ _ e⟩;refine⟨le2,λq hq=>⟨s2.trans (ag hq),q,t',z,gz,rfl,dG hpl2 hq,dG hpl ht',ac,bj hq ac⟩⟩
  ·obtain⟨as,e1,e2,e3⟩:∃as:List ((Addr×Addr)×(Addr×Nd)),as.map (·.2)=zs∧ys=(as.map (·.1.1)).map V.ref∧∀a∈as,H' a.1.1=some (.tup [.int a.2.2.num,.ref a.1.2])∧H' a.1.2=some (.tup (bH a.2.2)):=by
    clear hp';have main:∀(ys:List V)(xs:ZN),ys.length=xs.length→(∀(i:Nat) y,ys[i]?=some y→∃q t' z,xs[i]?=some z∧y=.ref q∧q≠p∧t'≠p∧H' q=some (.tup [.int z.2.num,.ref t'])∧H' t'=some (.tup (bH z.2))) →
      ∃as:List ((Addr×Addr)×(Addr×Nd)),as.map (·.2)=xs∧ys=(as.map (·.1.1)).map V.ref∧∀a∈as,H' a.1.1=some (.tup [.int a.2.2.num,.ref a.1.2])∧H' a.1.2=some (.tup (bH a.2.2)):=by
     intro ys
     induction ys with
     |nil =>
      intro xs hl _;have:xs=[]:=List.length_eq_zero_iff.mp hl.symm;subst this;exact⟨[],rfl,rfl,by simp⟩
     |cons y ys ih =>
      intro xs hl h;cases xs with
      |nil=>simp at hl
      |cons x xs =>
       obtain⟨as,e1,e2,e3⟩:=ih xs (by simpa using hl) λi y hy=>by simpa using h (i+1) y (by simpa using hy)
       obtain⟨q,t',z,f1,f2,f3,f4,f5,f6⟩:=h 0 y rfl;have:x=z:=by simpa using f1
       subst this;refine⟨((q,t'),x)::as,by simp[e1],by simp[e2,f2],λa ha=>?_⟩;rcases mem_cons.mp ha with rfl|ha
       ·exact⟨f5,f6⟩
       ·exact e3 a ha
    exact main ys zs hlen hys
   have hal:as.length=zs.length:=by rw[←e1,length_map]
   refine⟨p,as.map λa=>(a.1.1,(Sum.inl a.2.2.num:Key),V.ref a.1.2),rfl,?_,?_,?_,?_,λd hd=>?_⟩
   ·rw[hp',e2,map_map,map_map,map_map];rfl
   ·intro z hz;obtain⟨a,ha,rfl⟩:=mem_map.mp hz;exact(e3 a ha).1
   ·rw[length_map];omega
   ·rw[map_map];have:(as.map ((λx:Addr×Key×V=>x.2.1)∘λa=>(a.1.1,(Sum.inl a.2.2.num:Key),V.ref a.1.2)))=((nds zs).map (·.num)).map (Sum.inl:Int→Key):=by
     rw[←e1];unfold nds;simp only[map_map];rfl
    rw[this];unfold Nodup at hnd⊢;rw[pairwise_map];exact hnd.imp λh e=>h (by injection e)
   ·have sd:=ag (o:=.dK ((as.map λa=>(a.1.1,(Sum.inl a.2.2.num:Key),V.ref a.1.2)).map (·.2))) hd;have ed:upd H' d (.dK ((as.map λa=>(a.1.1,(Sum.inl a.2.2.num:Key),V.ref a.1.2)).map (·.2))) d=some (.dK (aD (as.map λa=>(a.1.2,a.2)))):=by
     rw[ac];refine congrArg (λx=>some (HO.dK x)) ?_;unfold aD;simp only[map_map];rfl
    refine k d (as.map λa=>(a.1.2,a.2)) _ (s1.trans sd) (s1.free hd) ⟨.inl ed,by rw[map_map];exact e1,λa ha=>?_⟩ ed;obtain⟨b,hb,rfl⟩:=mem_map.mp ha;exact sd _ _ (e3 b hb).2
def gO:Sp:=λvs H Q _=>∃d k g as zs p,vs=[.ref d,.int k,.int g]∧Book H d as zs∧TW.Tree1 (nds zs)∧TW.PathTo (nds zs) k p∧1≤g∧∀b,(b=true↔TW.Und (nds zs) g k)→Q (.bl b) H
theorem wg:FnScope ["_law_book_here","_law_number","_law_goal"] ["_law_book_here","_law_number","_law_goal"] (ah oM):=fsc
theorem xQ{f:Addr}{fd:FuncData}(F:Fun K "_law_under" "_law_under" oM f fd):FnOk P w K mg base CX0 1 f fd ["_law_book_here","_law_number","_law_goal"] gO:=by
 refine F.ok wg (λvs H Q E h=>?_) (λcdv A outer s H vs Q E hr h=>?_)
 ·obtain⟨d,k,g,as,zs,p,rfl,_⟩:=h;rfl
 ·obtain⟨d,k,g,as,zs,p,rfl,bk,hTr,hp,hg,q⟩:=h;have hnd:=aH hTr;refine⟨_,ae (dw PassesOwn.never (PW.pt (pw_and (am cU (pv 1) ai (aw _)) (pw_and1 (am cU (pv 1) (pv 2) (aw _)))))
    (aj (ap (i:=1) wg.nd rfl (Or.inl rfl) (av aq (aV (aN hr) (pv 0) (pv 1) (λ_ _=>rfl)) ai (λ_ _=>rfl)))))
   (aj (ax (gC cv (pv 1) (pv 2) (aw _)))),?_⟩
  refine eT (λσ H'=>∃at' q',σ=[some (.ref d),some (.int at'),some (.int g)]∧TW.PathTo (nds zs) at' q'∧(TW.Und (nds zs) g k↔TW.Und (nds zs) g at')∧H'=H)
   (λσ H'=>match σ with | [_,some (.int k),_]=>nF (nds zs) k | _=>0) ⟨k,p,rfl,hp,Iff.rfl,rfl⟩ (λσ H' h=>?_) ?_
  ·obtain⟨at',q',rfl,hq',hu,rfl⟩:=h;have last:∀b:Bool,(b=true↔TW.Und (nds zs) g at')→Q (.bl b) H':=λb hb=>q b (hb.trans hu.symm);refine⟨_,rfl,rfl,_,rfl,?_⟩
   by_cases h0:at'=0
   ·have hne:decide (V.int at'=V.int 0)=true:=by simp[h0]
    rw[hne];refine aE (aE ⟨_,rfl,_,rfl,rfl,last _ ?_⟩);rw[decide_eq_true_eq];constructor
    ·intro e;injection e with e;omega
    ·intro hx;have:=hx.zero hTr h0;omega
   ·have hne:decide (V.int at'=V.int 0)=false:=by simp[h0]
    rw[hne];refine aQ ⟨_,rfl,_,rfl,rfl,_,rfl,?_⟩
    by_cases hg':at'=g
    ·have hne:decide (V.int at'=V.int g)=true:=by simp[hg']
     rw[hne];refine aE ⟨_,rfl,_,rfl,rfl,last _ ?_⟩;rw[hne];constructor
     ·intro _;rw[hg'];exact .here
     ·intro _;rfl
    ·have hne:decide (V.int at'=V.int g)=false:=by simp[hg']
     rw[hne];refine aQ ?_;obtain⟨z,hz,e1,q'',e2,hq''⟩:=pV hTr hq' h0;subst e1;obtain⟨b,hb1,hb2⟩:=bk.get hnd hz;refine⟨_,rfl,_,rfl,d,_,rfl,hb1,b,_,_,_,rfl,rfl,SqT.of hb2,rh z.2,?_⟩;have mz:z.2∈nds zs:=mem_map.mpr ⟨z,hz,rfl⟩;refine⟨⟨z.2.par,q'',rfl,hq'',hu.trans ⟨λh=>h.inv hTr mz rfl hg',λh=>.up mz h⟩,rfl⟩,?_⟩;show nF (nds zs) z.2.par<nF (nds zs) z.2.num;rw[jf hTr hq'',jf hTr hq',e2];simp
  ·rintro σ H1 Q1 Q2 m ⟨v,e,h2,b,e3,q⟩;refine⟨v,e,h2,b,e3,?_⟩;cases b with
   |false=>exact m _ _ q
   |true =>
    obtain⟨v1,f1,v2,f2,h3,b',e4,q'⟩:=q;exact⟨v1,f1,v2,f2,h3,b',e4,m _ _ q'⟩
end
end TK
namespace L2
open PySem PySem.Spec PyProof.Rows
theorem Inv.freeze{X:Cx}{pins:List (Addr×Obj)}{σ:St}{H:Hp}{s:Shared}{d:Addr}{kvs:List (Key×V)}(I:Inv X pins σ H s)(hH:H d=some (.dK kvs)):∃o,Inv X pins σ (upd H d (.frz o (.dK kvs))) s:=by
 obtain⟨hz,hsm,vs,rel,o,es,ep,ho,hx,hd,hk,hp,hn⟩:=I.hok d _ hH;exact⟨o,I.write (t':=s.toks) (x:=d) (e:=d) (by rw[hH];trivial) (.inl rfl) (λ_ _ _ q=>q) ⟨o,ho⟩ ⟨ho,hz,hsm,vs,rel,o,es,ep,ho,hx,hd,hk,hp,hn⟩⟩
def zD(t:TS):TS:=λD σ H=>∃d kvs,H d=some (.dK kvs)∧∀o,t D σ (upd H d (.frz o (.dK kvs)))
theorem iQ{X:Cx}{st:Stmt}{t:TS}(hs:PS X st t):PS X st (zD t):=λpins s σ H D I ⟨d,kvs,h,ht⟩=>by
 obtain⟨o,I2⟩:=I.freeze h;exact hs pins s σ _ D I2 (ht o)
theorem vz{x:Str}{H1:Hp}:Src (Its x) H1 (x.cps.toList.map λc=>V.str ⟨#[c]⟩) :=
 ⟨λi H' hi s=>by rw[length_map,length_toList]at hi;exact hi,λH' s=>by rw[length_map,length_toList];exact le_refl x.cps.size,λi H' v H2 hi s ⟨e,c,hc,ev⟩=>⟨e,by
  rw[getElem?_map];have hc':x.cps.toList[i]?=some c:=by simpa using hc
  rw[hc',ev];rfl⟩⟩
theorem xR{xs:List V}{k:Nat}(h:k≤xs.length):dz xs none (some (k:Int))=xs.take k:=by
 unfold dz;rw[HT.rQ,HT.uu,List.drop_zero,Nat.min_eq_left h];rfl
end L2
namespace TK
open PySem L2
theorem tS{H:Hp}{d:Addr}{as:List (Addr×(Addr×Nd))}{zs:ZN}(b:Book H d as zs):((aD as).map λp=>kV p.1)=zs.map λz=>V.int z.2.num:=by
 rw[←b.of];unfold aD;simp only[map_map];rfl
theorem xS{H:Hp}{d l:Addr}{as:List (Addr×(Addr×Nd))}{zs:ZN}(B:Book H d as zs):upd H l (.lst ((aD as).map λp=>kV p.1)) l=some (.lst (((nds zs).map (·.num)).map V.int)):=by
 rw[ac,tS B];unfold nds;rw[map_map,map_map];rfl
theorem xT{zs:ZN}(hl:zs.length<64):((nds zs).map (·.num)).length<64:=by
 unfold nds;rw[length_map,length_map];exact hl
theorem xU{H:Hp}{l p:Addr}{as:List (Addr×(Addr×Nd))}{zs:ZN}(T:TW.Tree1 (nds zs))(hl:H l=none){ms:List Int}(hpm:ms.Perm ((nds zs).map (·.num)))(hup:ms.Pairwise (λa b=>a<b))(hp:upd H l (.lst ((aD as).map λp=>kV p.1)) p=none):
  Same H (upd (upd H l (.lst ((aD as).map λp=>kV p.1))) p (.lst (ms.map V.int)))∧upd (upd H l (.lst ((aD as).map λp=>kV p.1))) p (.lst (ms.map V.int)) p=some (.lst (zs.map λz=>V.int z.2.num)):=by
 have hr:((nds zs).map (·.num)).Pairwise (λa b:Int=>a<b):=by
  rw[pairwise_map];exact T.rise.imp λh=>h
 have e:ms=(nds zs).map (·.num):=by
  refine List.Perm.eq_of_pairwise (λa b _ _ h1 h2=>?_) hup hr hpm;have h3:a<b:=h1;have h4:b<a:=h2;omega
 subst e;refine⟨(ag hl).trans (ag hp),?_⟩;rw[ac];unfold nds;rw[map_map,map_map];rfl
theorem vA(p:Str)(ms:List Str):inV (.str p) (ms.map V.str)=decide (p∈ms):=by
 unfold inV;rw[any_map,Bool.eq_iff_iff,any_eq_true,decide_eq_true_eq];constructor
 ·rintro⟨x,hx,e⟩;have:x=p:=by simpa [eqV]using e
  rw[←this];exact hx
 ·intro h;exact⟨p,h,by simp[eqV]⟩
theorem rA(ms:List Str):(ms.map V.str).all dJ=true:=by
 rw[all_eq_true];intro v hv;obtain⟨x,_,rfl⟩:=mem_map.mp hv;rfl
theorem yP:(A26.cps.toList.map λc=>(⟨#[c]⟩:Str))=(List.range 26).map λj=>aP (j+1):=by decide +kernel
def qp:Sp:=λvs H Q _=>∃m:Nat,vs=[.int m]∧m≤26∧∀l H',Same H H'→H' l=some (.lst (((List.range m).map λj=>aP (j+1)).map V.str))→Q (.ref l) H'
def nmN:List Str:=["_law_many","_law_signs","_law_row","_law_made","_law_longer","_law_name"]
theorem vB:FnScope nmN ["_law_many"] (ah gv):=fsc
section
variable{P:Program}{w:World}{K:PySem.W.Frag}{mg:Str→Option Value}{base:Heap}
theorem xV{f:Addr}{fd:FuncData}(F:Fun K "_law_names" "_law_names" gv f fd)(T:Txt mg):FnOk P w K mg base CX0 1 f fd ["_law_many"] qp:=by
 refine F.ok vB (λvs H Q E h=>?_) (λcdv A outer s H vs Q E hr h=>?_)
 ·obtain⟨m,rfl,_⟩:=h;rfl
 ·obtain⟨m,rfl,hm,q⟩:=h;refine⟨_,ae (ap (i:=1) vB.nd rfl (Or.inl rfl) aC)
   (ae (nD (ii:=2) (N:=["_law_sign"]) (cl:=[]) (k:=1) (js:=[]) (g:=bg 0) vB.nd rfl (Or.inl rfl) rfl (eL rfl (by decide +kernel) (by decide +kernel) (by decide +kernel)) rfl (λi j x h=>by simp at h) (wU (pv 1)) (λs H fp=>aG (i:=0) (show(["_law_sign"]:List Str).Nodup by decide +kernel) rfl (Or.inl rfl) (Or.inr rfl)) (λs H fp=>pv 0))
   (ae (ap (i:=3) vB.nd rfl (Or.inl rfl) (bc lB rfl T.list rfl (aa (pv 2) af)))
   (ae (dw PassesOwn.never (am pE (aO bY rfl T.len boot_len (aa (pv 3) af)) (pv 0) (aw _)) qH)
   (aj (ax (bX ux (pv 3) cW (bv (pv 0)))))))),?_⟩
  refine⟨_,rfl,A26,rfl,λp hp=>?_⟩;refine eI (fr:=[]) A26.cps.toList (λc=>V.str ⟨#[c]⟩) (show A26.cps.toList.length≤1000 by decide +kernel) hp vz rfl (λc y _=>y=.str ⟨#[c]⟩) (λz y H H' h _=>h) (λc H' k mc s1 _ hk=>⟨_,rfl,hk _ H' (Same.refl _) rfl⟩) (λys H1 s1 hp1 hys=>?_);rw[aY hys (f:=λc=>V.str ⟨#[c]⟩) λz y _ h=>h]at hp1;have e26:(A26.cps.toList.map λc=>V.str ⟨#[c]⟩)=((List.range 26).map λj=>aP (j+1)).map V.str:=by rw[←yP,map_map];rfl
  rw[e26]at hp1;refine⟨_,rfl,p,_,rfl,.inl (SqL.of hp1),λl hl=>?_⟩;have s2:=s1.trans (ag (o:=.lst (((List.range 26).map λj=>aP (j+1)).map V.str)) hl);have hl2:upd H1 l (.lst (((List.range 26).map λj=>aP (j+1)).map V.str)) l=some (.lst (((List.range 26).map λj=>aP (j+1)).map V.str)):=ac;generalize upd H1 l (.lst (((List.range 26).map λj=>aP (j+1)).map V.str))=H2 at s2 hl2⊢;dsimp only[bg,iY];refine eT (λσ H'=>σ=[some (.int m),some (.str A26),some (.ref p),some (.ref l),none,none]∧H'=H2) (λ_ _=>0) ⟨rfl,rfl⟩ (λσ H' h=>?_) (λσ H' Q Q' hQ h=>?_)
  ·obtain⟨rfl,rfl⟩:=h;refine⟨_,rfl,l,_,rfl,.inl (SqL.of hl2),_,rfl,_,_,rfl,rfl,_,rfl,?_⟩;have e0:decide ((((((List.range 26).map λj=>aP (j+1)).map V.str).length:Nat):Int)<(m:Int))=false:=decide_eq_false (by rw[length_map,length_map,length_range];omega);rw[e0];refine aE ?_;refine⟨_,rfl,_,rfl,_,rfl,l,_,rfl,SqL.of hl2,λc hc=>q c _ (s2.trans (ag hc)) ?_⟩;rw[ac,xR (by rw[length_map,length_map,length_range];omega),←List.map_take,←List.map_take,List.take_range,Nat.min_eq_left hm]
  ·obtain⟨v,e1,a,ys,e2,h1,w1,e3,i,j,e4,e5,c,e6,h2⟩:=h;exact⟨v,e1,a,ys,e2,h1,w1,e3,i,j,e4,e5,c,e6,hQ _ _ h2⟩
end
def drN:List Str:=["_law_tree_here","_law_goal","_law_book_here","_law_number","_law_under_here"]
theorem vC:FnScope drN ["_law_tree_here","_law_goal"] (ah cm):=fsc
abbrev DrX(P:Program)(w:World)(K:PySem.W.Frag)(mg:Str→Option Value)(base:Heap)(f:Addr)(cdv:Value)(A:Around)(outer:List Env)(s:Shared)(H:Hp)(E:XK):Cx:=(fJ CX0 P w K mg base drN "_law_drop" (ah cm) f cdv A outer s H E).nox
def drS(i:Nat):Stmt:=(bp cm).getD i (.Pass ⟨0,0,0,0⟩)
def drB(i:Nat):Stmt:=match drS 1 with
 |.For _ _ b _ _=>b.getD i (.Pass ⟨0,0,0,0⟩)
 |_=>.Pass ⟨0,0,0,0⟩
open Classical in
def nV(zs:ZN)(n:Int)(z:Addr×Nd):Bool:=decide (TW.Und (nds zs) n z.2.num)
section
variable{P:Program}{w:World}{K:PySem.W.Frag}{mg:Str→Option Value}{base:Heap}{f:Addr}{cdv:Value}{A:Around}{outer:List Env}{s:Shared}{H0:Hp}{E:XK}
open Classical in
theorem dr0(hr:Room 1 (A.deeper (PyProof.Rows.envOfC "_law_drop" (ah cm) s.heap.objs.size f cdv)))(CU:Has P w K mg base 1 "_law_under" ["_law_book_here","_law_number","_law_goal"] gO):
  ∃rd,PS (DrX P w K mg base f cdv A outer s H0 E) (drB 0) rd∧∀(D:Ends)(H:Hp)(x0 x1 x4:Option V)(d:Addr)(o:Obj)(n:Int)(as:List (Addr×(Addr×Nd)))(zs:ZN),Book H d as zs→H d=some (.frz o (.dK (aD as)))→TW.Tree1 (nds zs)→zs.length≤29→1≤n →
   (∀l H',Same H H'→H' l=some (.lst ((zs.filter (nV zs n)).map λz=>V.int z.2.num))→D.nx [x0,x1,some (.ref d),some (.int n),some (.ref l)] H')→rd D [x0,x1,some (.ref d),some (.int n),x4] H:=by
 obtain⟨fU,fdU,GU,mU,kU,bU⟩:=CU;refine⟨_,eV (ii:=4) (N:=["_law_one","_law_book_here","_law_number"]) (cl:=[("_law_number",s.heap.objs.size+3),("_law_book_here",s.heap.objs.size+2)]) (k:=1) (js:=[2,3]) (g:=bg 0) vC.nd rfl (Or.inl rfl) rfl
   (LcOk.mk' ["_law_number","_law_book_here"] rfl rfl (by decide +kernel) (by decide +kernel) ?hcl rfl (by decide +kernel)) rfl ?hj (kx (pv 2)) (λs H fp=>aG (i:=0) (show(["_law_one","_law_book_here","_law_number"]:List Str).Nodup by decide +kernel) rfl (Or.inl rfl) (Or.inr rfl))
   (λs H fp=>gQ (ak (X:=cQ _ _ _ _ _ _ _) GU hr rfl mU kU bU .nil aI (aa (pv 1) (aa (pv 0) (aa (pv 2) af)))) (λ_=>rfl)) (λs H fp=>pv 0),?_⟩
 case hcl =>
  intro y hy;rcases mem_cons.mp hy with e|hy
  ·rw[e];rfl
  rcases mem_cons.mp hy with e|hy
  ·rw[e];rfl
  ·cases hy
 case hj =>
  intro i j x h1 h2
  match i,h1,h2 with
  |0,h1,h2 =>
   cases h1;cases h2;exact⟨rfl,Or.inr (Or.inl rfl),(show((ah cm).names.lookup ("_law_book_here":Str)≠some NameKind.local)by decide +kernel),by first|exact Or.inl rfl|exact Or.inr rfl⟩
  |1,h1,h2 =>
   cases h1;cases h2;exact⟨rfl,Or.inr (Or.inl rfl),(show((ah cm).names.lookup ("_law_number":Str)≠some NameKind.local)by decide +kernel),by first|exact Or.inl rfl|exact Or.inr rfl⟩
  |i+2,h1,h2=>simp at h1
 intro D H x0 x1 x4 d o n as zs B ho T hl h1 q;refine⟨_,rfl,d,o,aD as,rfl,ho,λp hp=>?_⟩;rw[tS B];refine cy (fr:=[some (.ref d),some (.int n)]) zs (λz=>V.int z.2.num) (by omega) hp (dC ho) rfl (nV zs n) (λz y _=>y=V.int z.2.num) (λz y H H' h _=>h) (λz H' k mz s1 hpl hk=>?_) (λz H' k mz _ s1 _ hk=>⟨_,rfl,hk _ H' (Same.refl _) rfl⟩) (λys H' s1 hp' hys=>?_)
 ·obtain⟨pa,hpa⟩:=TW.PathTo.ex T (aA mz);refine⟨_,rfl,_,rfl,_,rfl,d,z.2.num,n,as,zs,pa,rfl,B.same s1,T,hpa,h1,λb hb=>?_⟩;have:b=nV zs n z:=by
   unfold nV;rw[Bool.eq_iff_iff,hb,decide_eq_true_eq]
  subst this;exact⟨_,rfl,hk H' (Same.refl _)⟩
 ·rw[aY hys (f:=λz=>V.int z.2.num) λz y _ h=>h]at hp';exact q p H' s1 hp'
open Classical in
theorem dr1(hr:Room 1 (A.deeper (PyProof.Rows.envOfC "_law_drop" (ah cm) s.heap.objs.size f cdv))):
  ∃rd,PS (DrX P w K mg base f cdv A outer s H0 E) (drB 1) rd∧∀(D:Ends)(H:Hp)(x0:Option V)(e d l:Addr)(as bs:List (Addr×(Addr×Nd)))(zs us:ZN)(y:Addr×Nd),Book H d as zs→Book H e bs us→TW.Tree1 (nds zs)→TW.Tree1 (nds us)→zs.length≤29→y∈zs→H l=some (.lst ((zs.filter (nV zs y.2.num)).map λz=>V.int z.2.num)) →
   (TW.cA (nds zs) (nds us) y.2→∀H',Same H H'→D.rt (.int y.2.num) H')→(¬TW.cA (nds zs) (nds us) y.2→∀H',Same H H'→D.nx [x0,some (.ref e),some (.ref d),some (.int y.2.num),some (.ref l)] H')→rd D [x0,some (.ref e),some (.ref d),some (.int y.2.num),some (.ref l)] H:=by
 refine⟨_,aW (PW.pt (pw_and (am (fe hr.units0) (cY (N:=["_law_one","_law_goal"]) (cl:=[("_law_goal",s.heap.objs.size+1)]) (k:=1) (js:=[1]) (g:=bg 0) rfl (LcOk.mk' ["_law_goal"] rfl rfl (by decide +kernel) (by decide +kernel) ?hcl rfl (by decide +kernel)) rfl ?hj (ce (pv 4)) (λs H fp=>aG (i:=0) (show(["_law_one","_law_goal"]:List Str).Nodup by decide +kernel) rfl (Or.inl rfl) (Or.inr rfl))
   (λs H fp=>cc (dF (aN hr) (pv 0) (pv 1))) (λs H fp=>pv 0)) (bx af) (aw _)) (pw_and1 (PW.pt (pw_or (am cv (av (r:=cw K) aq (aV (aN hr) (pv 2) (pv 3) (λ_ _=>rfl)) ai (λ_ _=>rfl)) ai (aw _)) (pw_or1 (cc (dF (aN hr) (av (r:=cw K) aq (aV (aN hr) (pv 2) (pv 3) (λ_ _=>rfl)) ai (λ_ _=>rfl)) (pv 1))))))))) (aj (ax (pv 3))) aB,?_⟩
 case hcl =>
  intro y hy;rcases mem_cons.mp hy with e|hy
  ·rw[e];rfl
  ·cases hy
 case hj =>
  intro i j x h1 h2
  match i,h1,h2 with
  |0,h1,h2 =>
   cases h1;cases h2;exact⟨rfl,Or.inr (Or.inl rfl),(show((ah cm).names.lookup ("_law_goal":Str)≠some NameKind.local)by decide +kernel),by first|exact Or.inl rfl|exact Or.inr rfl⟩
  |i+1,h1,h2=>simp at h1
 intro D H x0 e d l as bs zs us y B C T U hlz hy hl q1 q2;have hle:=length_filter_le (nV zs y.2.num) zs;have y0:y.2.num≠0:=by have:=T.pos y.2 (aA hy);omega
 have gn:∀{H':Hp},Same H H'→∀k:Int,(TW.aM (nds us) k∧∃v,dA H' e (.int k) (some v))∨(¬TW.aM (nds us) k∧dA H' e (.int k) none):=λs' k=>by
  by_cases h:TW.aM (nds us) k
  ·obtain⟨m,hm,em⟩:=h;obtain⟨z,hz,rfl⟩:=bf hm;obtain⟨r',g2,_⟩:=(C.same s').get (aH U) hz;rw[em]at g2;exact .inl ⟨⟨z.2,hm,em⟩,_,g2⟩
  ·exact .inr ⟨h,(C.same s').not λx hx ex=>h ⟨x.2,aA hx,ex⟩⟩
 refine⟨_,rfl,l,rfl,⟨_,SqL.of hl⟩,λp hp=>?_⟩;refine cy (fr:=[some (.ref e)]) (zs.filter (nV zs y.2.num)) (λz=>V.int z.2.num) (by omega) hp (dq (SqL.of hl)) rfl (λz=>decide (TW.aM (nds us) z.2.num)) (λz y _=>y=V.int z.2.num) (λz y H H' h _=>h) (λz H' k mz s1 hpl hk=>?_) (λz H' k mz _ s1 _ hk=>⟨_,rfl,hk _ H' (Same.refl _) rfl⟩) (λys H' s1 hp' hys=>?_)
 ·rcases gn s1 z.2.num with⟨h,v,g⟩|⟨h,g⟩
  ·rw[decide_eq_true h]at hk;exact⟨_,rfl,_,rfl,e,_,rfl,g,_,rfl,hk H' (Same.refl _)⟩
  ·rw[decide_eq_false h]at hk;exact⟨_,rfl,_,rfl,e,_,rfl,g,_,rfl,hk H' (Same.refl _)⟩
 ·rw[aY hys (f:=λz=>V.int z.2.num) λz y _ h=>h]at hp';have hneed:((zs.filter (nV zs y.2.num)).filter λz=>decide (TW.aM (nds us) z.2.num))=[]↔¬TW.rk (nds zs) (nds us) y.2.num:=by
   rw[filter_eq_nil_iff];constructor
   ·rintro h ⟨_,m,hm,h1,h2⟩;obtain⟨z,hz,rfl⟩:=bf hm;exact h z (mem_filter.mpr ⟨hz,decide_eq_true h2⟩) (decide_eq_true h1)
   ·intro h z hz hu;obtain⟨g1,g2⟩:=mem_filter.mp hz;exact h ⟨y0,z.2,aA g1,of_decide_eq_true hu,of_decide_eq_true g2⟩
  refine⟨au (by decide),λc hc=>?_⟩;have s2:=s1.trans (ag (o:=.lst []) hc);have hp2:=bj (o:=.lst []) hc hp';have hc2:upd H' c (.lst []) c=some (.lst []):=ac;generalize upd H' c (.lst [])=H2 at s2 hp2 hc2⊢;refine⟨p,c,_,rfl,rfl,SqL.of hp2,SqL.of hc2,_,rfl,?_⟩
  by_cases hN:TW.rk (nds zs) (nds us) y.2.num
  ·rw[decide_eq_false (λh=>(hneed.mp (List.map_eq_nil_iff.mp h)) hN)];exact aE (aE (q2 (λh=>h.1 hN) H2 s2))
  ·rw[decide_eq_true (by rw[hneed.mpr hN];rfl)];refine aQ ?_;obtain⟨r,g1,r1⟩:=(B.same s2).get (aH T) hy;refine⟨_,rfl,_,rfl,d,_,rfl,g1,r,_,_,_,rfl,rfl,SqT.of r1,rh _,rfl,_,rfl,?_⟩
   by_cases h0:y.2.par=0
   ·rw[h0];exact aQ (aQ ⟨_,rfl,q1 ⟨hN,.inl h0⟩ H2 s2⟩)
   ·rw[decide_eq_false (show ¬(V.int y.2.par=V.int 0)from λt=>h0 (by injection t))];refine aE ?_;rcases gn s2 y.2.par with⟨h2,v2,g3⟩|⟨h2,g3⟩
    ·exact⟨_,rfl,_,rfl,d,_,rfl,g1,r,_,_,_,rfl,rfl,SqT.of r1,rh _,_,rfl,e,_,rfl,g3,_,rfl,aQ ⟨_,rfl,q1 ⟨hN,.inr h2⟩ H2 s2⟩⟩
    ·exact⟨_,rfl,_,rfl,d,_,rfl,g1,r,_,_,_,rfl,rfl,SqT.of r1,rh _,_,rfl,e,_,rfl,g3,_,rfl,aE (q2 (λh=>h.2.elim h0 h2) H2 s2)⟩
end
section
variable{P:Program}{w:World}{K:PySem.W.Frag}{mg:Str→Option Value}{base:Heap}
def qq:Sp:=λvs H Q _=>∃t e zs us bs,vs=[.ref t,.ref e]∧Tre H t zs∧zs.length≤29∧Book H e bs us∧TW.Tree1 (nds us) ∧
 (∀x,iO (nds zs) (TW.cA (nds zs) (nds us)) x→∀H',Same H H'→Q (.int x.num) H')∧((∀x∈nds zs,¬TW.cA (nds zs) (nds us) x)→∀H',Same H H'→Q .non H')
theorem xW{f:Addr}{fd:FuncData}(F:Fun K "_law_drop" "_law_drop" cm f fd)(T:Txt mg)(CB:Has P w K mg base 1 "_law_book" ["_law_tree_here"] dI)(CU:Has P w K mg base 1 "_law_under" ["_law_book_here","_law_number","_law_goal"] gO):FnOk P w K mg base CX0 2 f fd ["_law_tree_here","_law_goal"] qq:=by
 obtain⟨fK,fdK,GK,mK,kK,bK⟩:=CB;refine F.ok vC (λvs H Q E h=>?_) (λcdv A outer s H vs Q E hr h=>?_)
 ·obtain⟨t,e,zs,us,bs,rfl,_⟩:=h;rfl
 ·obtain⟨t,e,zs,us,bs,rfl,tr,hl,C,U,q1,q2⟩:=h;obtain⟨r0,p0,h0⟩:=dr0 (outer:=outer) (H0:=H) (E:=E) hr CU;obtain⟨r1,p1,h1⟩:=dr1 (P:=P) (w:=w) (K:=K) (mg:=mg) (base:=base) (outer:=outer) (H0:=H) (E:=E) hr;refine⟨_,ae (ap (i:=2) vC.nd rfl (Or.inr rfl) (ak GK hr rfl mK kK bK .nil aI (aa (pv 0) af)))
   (ae (iQ (dh PassesOwn.never rfl (ce (aO cL rfl T.sorted boot_sorted (aa (bc (gY rfl) rfl T.list rfl (aa (pv 2) af)) af))) (aG (i:=3) vC.nd rfl (Or.inr rfl)) (ae p0 (aj p1)))) (aj (ax bJ))),?_⟩
  refine⟨_,rfl,t,zs,rfl,tr,λd as H1 s1 hd0 b1 hd=>?_⟩;refine⟨d,_,hd,λo=>?_⟩;have s2:Same H (upd H1 d (.frz o (.dK (aD as)))):=aS hd0 s1;have B:Book (upd H1 d (.frz o (.dK (aD as)))) d as zs:=⟨.inr ⟨o,ac⟩,b1.of,λx hx=>by
   have:=b1.at' x hx;rw[ao λz=>by rw[z,hd]at this;cases this];exact this⟩
  have ho:upd H1 d (.frz o (.dK (aD as))) d=some (.frz o (.dK (aD as))):=ac;generalize upd H1 d (.frz o (.dK (aD as)))=H2 at s2 B ho⊢;refine⟨_,rfl,d,_,rfl,B.dict,λl hl0=>⟨l,_,rfl,xS B,fq tr.tr,xT (by omega),λms hpm hup p hp0=>?_⟩⟩;obtain⟨s3,hp⟩:=xU tr.tr hl0 hpm hup hp0;generalize upd (upd H2 l (.lst ((aD as).map λp=>kV p.1))) p (.lst (ms.map V.int))=H3 at s3 hp⊢;refine⟨p,rfl,⟨_,SqL.of hp⟩,eS (xs:=zs.map λz=>V.int z.2.num) (λi σ H'=>∃x3 x4,σ=[some (.ref t),some (.ref e),some (.ref d),x3,x4]∧Same H3 H'∧∀x∈(nds zs).take i,¬TW.cA (nds zs) (nds us) x) ⟨_,_,rfl,Same.refl _,by simp⟩ (λi σ H' _ ⟨_,_,_,e,_⟩=>SqL.of (e _ _ hp)) (λi x σ H' hx h=>?_) (λσ H' h=>?_)⟩
  ·obtain⟨x3,x4,rfl,s4,hi⟩:=h;rw[getElem?_map]at hx;cases gx:zs[i]? with
   |none=>rw[gx]at hx;cases hx
   |some y =>
    rw[gx]at hx;cases hx;have my:=mem_of_getElem? gx;have gy:(nds zs)[i]?=some y.2:=by unfold nds;rw[getElem?_map,gx];rfl
    have s24:=s3.trans s4;refine h0 _ H' _ _ _ d o y.2.num as zs (B.same s24) (s24 _ _ ho) tr.tr hl (tr.tr.pos _ (aA my)) λl H5 s5 hl5=>?_;have s25:=s24.trans s5;refine h1 _ H5 _ e d l as bs zs us y (B.same s25) ((C.same s2).same s25) tr.tr U hl my hl5 (λhD H6 s6=>?_) (λhD H6 s6=>?_)
    ·refine q1 y.2 ⟨(nds zs).take i,(nds zs).drop (i+1),?_,hi,hD⟩ H6 ((s2.trans s25).trans s6);have:=take_append_drop i (nds zs);rw[←this,take_append_drop];rw[List.drop_eq_getElem?_toList_append,gy]at this;exact this.symm
    ·refine⟨_,_,rfl,(s4.trans s5).trans s6,λx hx=>?_⟩;rw[bG gy]at hx;rcases mem_append.mp hx with hx|hx
     ·exact hi x hx
     ·rw[mem_singleton.mp hx];exact hD
  ·obtain⟨x3,x4,rfl,s4,hi⟩:=h;have el:(zs.map λz=>V.int z.2.num).length=(nds zs).length:=by unfold nds;rw[length_map,length_map]
   rw[el,take_length]at hi;exact q2 hi H' ((s2.trans s3).trans s4)
end
def saN:List Str:=["_law_tree_here","_law_goal","_law_taken"]
theorem yQ:FnScope saN ["_law_tree_here","_law_goal"] (ah ci):=fsc
abbrev SaX(P:Program)(w:World)(K:PySem.W.Frag)(mg:Str→Option Value)(base:Heap)(f:Addr)(cdv:Value)(A:Around)(outer:List Env)(s:Shared)(H:Hp)(E:XK):Cx:=(fJ CX0 P w K mg base saN "_law_spare" (ah ci) f cdv A outer s H E).nox
def saS(i:Nat):Stmt:=(bp ci).getD i (.Pass ⟨0,0,0,0⟩)
def fu(zs us:ZN):List Str:=((zs.filter λz=>decide (z.2.par=0)).map λz=>z.2.nm)++((us.filter λz=>decide (z.2.par=0)).map λz=>z.2.nm)
theorem nW{zs us:ZN}{x:Str}:x∈fu zs us↔nP (nds zs) (nds us) x:=by
 unfold fu;rw[mem_append];constructor
 ·rintro(h|h)
  ·obtain⟨z,hz,rfl⟩:=mem_map.mp h;obtain⟨h1,h2⟩:=mem_filter.mp hz;exact⟨z.2,.inl (aA h1),of_decide_eq_true h2,rfl⟩
  ·obtain⟨z,hz,rfl⟩:=mem_map.mp h;obtain⟨h1,h2⟩:=mem_filter.mp hz;exact⟨z.2,.inr (aA h1),of_decide_eq_true h2,rfl⟩
 ·rintro⟨n,hn|hn,h1,h2⟩
  ·obtain⟨z,hz,rfl⟩:=bf hn;exact .inl (mem_map.mpr ⟨z,mem_filter.mpr ⟨hz,decide_eq_true h1⟩,h2⟩)
  ·obtain⟨z,hz,rfl⟩:=bf hn;exact .inr (mem_map.mpr ⟨z,mem_filter.mpr ⟨hz,decide_eq_true h1⟩,h2⟩)
theorem tT(zs us:ZN):(fu zs us).length≤zs.length+us.length:=by
 unfold fu;rw[length_append,length_map,length_map];have h1:=length_filter_le (λz:Addr×Nd=>decide (z.2.par=0)) zs;have h2:=length_filter_le (λz:Addr×Nd=>decide (z.2.par=0)) us;omega
theorem pi{zs us:ZN}{m:Nat}(hm:(fu zs us).length+1=m)(h26:m≤26):∃c r,(((List.range m).map λj=>aP (j+1)).filter λx=>!decide (x∈fu zs us))=aP c::r∧FreeN (nds zs) (nds us) c:=by
 cases e:(((List.range m).map λj=>aP (j+1)).filter λx=>!decide (x∈fu zs us))with
 |nil =>
  exfalso
  rw[filter_eq_nil_iff]at e;have nd26:((List.range 26).map λj=>aP (j+1)).Nodup:=by decide +kernel
  have nd:((List.range m).map λj=>aP (j+1)).Nodup:=nd26.sublist (Sublist.map _ (List.range_sublist.mpr h26));have:=Nodup.length_le_of_subset nd λx hx=>by
   have:=e x hx;simpa using this
  rw[length_map,length_range]at this;omega
 |cons x r =>
  obtain⟨l1,l2,e1,h1,h2,_⟩:=List.filter_eq_cons_iff.mp e;have hlen:l1.length<m:=by
   have:=congrArg length e1;rw[length_map,length_range,length_append,length_cons]at this;omega
  have get:∀j,j<m→((List.range m).map λj=>aP (j+1))[j]?=some (aP (j+1)):=λj hj=>by
   rw[getElem?_map,List.getElem?_range hj];rfl
  have ex:x=aP (l1.length+1):=by
   have:=get l1.length hlen;rw[e1,List.getElem?_append_right (le_refl _),Nat.sub_self]at this;exact Option.some.inj this
  subst ex;refine⟨l1.length+1,r,rfl,by omega,by omega,λh=>?_,λj j1 jc=>?_⟩
  ·have:¬(aP (l1.length+1)∈fu zs us):=by simpa using h2
   exact this (nW.mpr h)
  ·obtain⟨i,rfl⟩:∃i,j=i+1:=⟨j-1,by omega⟩;have hi:i<l1.length:=by omega
   have:=get i (by omega);rw[e1,List.getElem?_append_left hi]at this;have:=h1 _ (mem_of_getElem? this);exact nW.mp (by simpa using this)
section
variable{P:Program}{w:World}{K:PySem.W.Frag}{mg:Str→Option Value}{base:Heap}{f:Addr}{cdv:Value}{A:Around}{outer:List Env}{s:Shared}{H0:Hp}{E:XK}
theorem sa0(hr:Room 1 (A.deeper (PyProof.Rows.envOfC "_law_spare" (ah ci) s.heap.objs.size f cdv))):
  ∃rd,PS (SaX P w K mg base f cdv A outer s H0 E) (saS 0) rd∧∀(D:Ends)(H:Hp)(x2:Option V)(t e:Addr)(o:Obj)(bs:List (Addr×(Addr×Nd)))(zs us:ZN),H t=some (.tup (ba zs))→At H zs→Book H e bs us→H e=some (.frz o (.dK (aD bs)))→TW.Tree1 (nds us)→zs.length+us.length≤60 →
   (∀l H',Same H H'→H' l=some (.lst ((fu zs us).map V.str))→D.nx [some (.ref t),some (.ref e),some (.ref l)] H')→rd D [some (.ref t),some (.ref e),x2] H:=by
 refine⟨_,ap (i:=2) yQ.nd rfl (Or.inr rfl) (aK fc (cY (N:=["_law_node"]) (cl:=[]) (k:=1) (js:=[]) (g:=bg 0) rfl (eL rfl (by decide +kernel) (by decide +kernel) (by decide +kernel)) rfl (λi j x h=>by simp at h) (cS (pv 0)) (λs H fp=>aG (i:=0) (show(["_law_node"]:List Str).Nodup by decide +kernel) rfl (Or.inl rfl) (Or.inr rfl)) (λs H fp=>am cv (av (r:=cw K) aq (pv 0) ai (λ_ _=>rfl)) ai (aw _)) (λs H fp=>av (r:=cw K) aq (pv 0) ai (λ_ _=>rfl)))
   (cY (N:=["_law_one","_law_goal"]) (cl:=[("_law_goal",s.heap.objs.size+1)]) (k:=1) (js:=[1]) (g:=bg 0) rfl (LcOk.mk' ["_law_goal"] rfl rfl (by decide +kernel) (by decide +kernel) ?hcl rfl (by decide +kernel)) rfl ?hj (kx (pv 1)) (λs H fp=>aG (i:=0) (show(["_law_one","_law_goal"]:List Str).Nodup by decide +kernel) rfl (Or.inl rfl) (Or.inr rfl)) (λs H fp=>am cv (av (r:=cw K) aq (aV (aN hr) (pv 1) (pv 0) (λ_ _=>rfl)) ai (λ_ _=>rfl)) ai (aw _)) (λs H fp=>av (r:=cw K) aq (aV (aN hr) (pv 1) (pv 0) (λ_ _=>rfl)) ai (λ_ _=>rfl)))),?_⟩
 case hcl =>
  intro y hy;rcases mem_cons.mp hy with e|hy
  ·rw[e];rfl
  ·cases hy
 case hj =>
  intro i j x h1 h2
  match i,h1,h2 with
  |0,h1,h2 =>
   cases h1;cases h2;exact⟨rfl,Or.inr (Or.inl rfl),(show((ah ci).names.lookup ("_law_goal":Str)≠some NameKind.local)by decide +kernel),by first|exact Or.inl rfl|exact Or.inr rfl⟩
  |i+1,h1,h2=>simp at h1
 intro D H x2 t e o bs zs us ht hA B ho U hl q;have dec:∀i:Int,decide (V.int i=V.int 0)=decide (i=0):=λi=>decide_eq_decide.mpr ⟨λh=>by injection h,λh=>by rw[h]⟩;refine⟨_,rfl,t,rfl,⟨_,SqT.of ht⟩,λp hp=>?_⟩;refine cy (fr:=[]) zs (λz=>V.ref z.1) (by omega) hp (eG (by rw[cg];exact SqT.of ht)) rfl (λz=>decide (z.2.par=0)) (λz y _=>y=.str z.2.nm) (λz y H H' h _=>h) (λz H' k mz s1 _ hk=>?_) (λz H' k mz _ s1 _ hk=>?_) (λys H1 s1 hp1 hys=>?_)
 ·refine⟨_,rfl,z.1,_,_,_,rfl,rfl,SqT.of (s1 _ _ (hA z mz)),at1 z.2,rfl,_,rfl,?_⟩;rw[dec];exact hk H' (Same.refl _)
 ·exact⟨_,rfl,z.1,_,_,_,rfl,rfl,SqT.of (s1 _ _ (hA z mz)),at2 z.2,hk _ H' (Same.refl _) rfl⟩
 rw[aY hys (f:=λz=>V.str z.2.nm) λz y _ h=>h]at hp1;refine⟨_,rfl,e,o,aD bs,rfl,s1 _ _ ho,λp2 hp2=>?_⟩;rw[tS B];refine cy (fr:=[some (.ref e)]) us (λz=>V.int z.2.num) (by omega) hp2 (dC (s1 _ _ ho)) rfl (λz=>decide (z.2.par=0)) (λz y _=>y=.str z.2.nm) (λz y H H' h _=>h) (λz H' k mz s2 _ hk=>?_) (λz H' k mz _ s2 _ hk=>?_) (λys2 H2 s2 hp2' hys2=>?_)
 ·obtain⟨r,g1,r1⟩:=((B.same s1).same s2).get (aH U) mz;refine⟨_,rfl,_,rfl,e,_,rfl,g1,r,_,_,_,rfl,rfl,SqT.of r1,rh _,rfl,_,rfl,?_⟩;rw[dec];exact hk H' (Same.refl _)
 ·obtain⟨r,g1,r1⟩:=((B.same s1).same s2).get (aH U) mz;exact⟨_,rfl,_,rfl,e,_,rfl,g1,r,_,_,_,rfl,rfl,SqT.of r1,zB _,hk _ H' (Same.refl _) rfl⟩
 rw[aY hys2 (f:=λz=>V.str z.2.nm) λz y _ h=>h]at hp2';have h1:=length_filter_le (λz:Addr×Nd=>decide (z.2.par=0)) zs;have h2:=length_filter_le (λz:Addr×Nd=>decide (z.2.par=0)) us;refine⟨p,p2,_,_,rfl,rfl,s2 _ _ hp1,hp2',?_,λc hc=>q c _ ((s1.trans s2).trans (ag hc)) ?_⟩
 ·rw[length_map,length_map];exact au (by omega)
 ·rw[ac];unfold fu;rw[map_append,map_map,map_map];rfl
theorem sa1(T:Txt mg)(hr:Room 1 (A.deeper (PyProof.Rows.envOfC "_law_spare" (ah ci) s.heap.objs.size f cdv)))(CN:Has P w K mg base 1 "_law_names" ["_law_many"] qp):
  ∃rd,PS (SaX P w K mg base f cdv A outer s H0 E) (saS 1) rd∧∀(D:Ends)(H:Hp)(x0 x1:Option V)(l:Addr)(zs us:ZN),H l=some (.lst ((fu zs us).map V.str))→zs.length+us.length≤25 →
   (∀c H',Same H H'→FreeN (nds zs) (nds us) c→D.rt (.str (aP c)) H')→rd D [x0,x1,some (.ref l)] H:=by
 obtain⟨fN,fdN,GN,mN,kN,bN⟩:=CN;refine⟨_,ax (av (r:=wG K) cG (cY (N:=["_law_name","_law_taken"]) (cl:=[("_law_taken",s.heap.objs.size+2)]) (k:=1) (js:=[2]) (g:=bg 0) rfl (LcOk.mk' ["_law_taken"] rfl rfl (by decide +kernel) (by decide +kernel) ?hcl rfl (by decide +kernel)) rfl ?hj (ce (ak GN hr rfl mN kN bN .nil aI (aa (aK bu (aO bY rfl T.len boot_len (aa (pv 2) af)) ai) af))) (λs H fp=>aG (i:=0) (show(["_law_name","_law_taken"]:List Str).Nodup by decide +kernel) rfl (Or.inl rfl) (Or.inr rfl)) (λs H fp=>am (r:=rIn K true) ib (pv 0) (pv 1) rfl) (λs H fp=>pv 0)) ai (λ_ _=>rfl)),?_⟩
 case hcl =>
  intro y hy;rcases mem_cons.mp hy with e|hy
  ·rw[e];rfl
  ·cases hy
 case hj =>
  intro i j x h1 h2
  match i,h1,h2 with
  |0,h1,h2 =>
   cases h1;cases h2;exact⟨rfl,Or.inr (Or.inl rfl),(show((ah ci).names.lookup ("_law_taken":Str)≠some NameKind.local)by decide +kernel),by first|exact Or.inl rfl|exact Or.inr rfl⟩
  |i+1,h1,h2=>simp at h1
 intro D H x0 x1 l zs us hl hle q;have htl:=tT zs us;have em:((((fu zs us).map V.str).length:Nat):Int)+1=(((fu zs us).length+1:Nat):Int):=by rw[length_map];rfl
 refine⟨_,rfl,l,_,rfl,.inl (SqL.of hl),_,_,rfl,rfl,(fu zs us).length+1,by rw[←em];rfl,by omega,λn H1 s1 hn=>?_⟩;refine⟨n,rfl,⟨_,SqL.of hn⟩,λp hp=>?_⟩;refine cy (fr:=[some (.ref l)]) ((List.range ((fu zs us).length+1)).map λj=>aP (j+1)) V.str (by rw[length_map,length_range];omega) hp (dq (SqL.of hn)) rfl (λx=>!decide (x∈fu zs us)) (λx y _=>y=.str x) (λz y H H' h _=>h) (λx H' k mz s2 _ hk=>?_) (λx H' k mz _ s2 _ hk=>⟨_,rfl,hk _ H' (Same.refl _) rfl⟩) (λys H2 s2 hp2 hys=>?_)
 ·refine⟨_,rfl,_,rfl,l,_,rfl,.inl (SqL.of (s2 _ _ (s1 _ _ hl))),rfl,rA _,_,rfl,?_⟩;rw[show(if true=true then !inV (.str x) ((fu zs us).map V.str)else inV (.str x) ((fu zs us).map V.str)) = !decide (x∈fu zs us)by rw[if_pos rfl,vA]]
  exact hk H' (Same.refl _)
 ·rw[aY hys (f:=V.str) λz y _ h=>h]at hp2;obtain⟨c,r,e1,e2⟩:=pi (zs:=zs) (us:=us) rfl (by omega);rw[e1]at hp2;exact⟨p,_,_,_,rfl,rfl,SqL.of hp2,cX (j:=0) rfl,q c H2 (s1.trans s2) e2⟩
def qr:Sp:=λvs H Q _=>∃t e zs us bs o,vs=[.ref t,.ref e]∧H t=some (.tup (ba zs))∧At H zs∧Book H e bs us∧H e=some (.frz o (.dK (aD bs)))∧TW.Tree1 (nds us)∧zs.length+us.length≤25∧∀c H',Same H H'→FreeN (nds zs) (nds us) c→Q (.str (aP c)) H'
theorem xX{f:Addr}{fd:FuncData}(F:Fun K "_law_spare" "_law_spare" ci f fd)(T:Txt mg)(CN:Has P w K mg base 1 "_law_names" ["_law_many"] qp):FnOk P w K mg base CX0 2 f fd ["_law_tree_here","_law_goal"] qr:=by
 refine F.ok yQ (λvs H Q E h=>?_) (λcdv A outer s H vs Q E hr h=>?_)
 ·obtain⟨t,e,zs,us,bs,o,rfl,_⟩:=h;rfl
 ·obtain⟨t,e,zs,us,bs,o,rfl,ht,hA,B,ho,U,hl,q⟩:=h;obtain⟨r0,p0,h0⟩:=sa0 (P:=P) (w:=w) (K:=K) (mg:=mg) (base:=base) (outer:=outer) (H0:=H) (E:=E) hr;obtain⟨r1,p1,h1⟩:=sa1 (outer:=outer) (H0:=H) (E:=E) T hr CN;refine⟨_,ae p0 (aj p1),?_⟩;refine h0 _ H _ t e o bs zs us ht hA B ho U (by omega) λl H1 s1 hl1=>?_;exact h1 _ H1 _ _ l zs us hl1 hl λc H2 s2 hc=>q c H2 (s1.trans s2) hc
end
def ldS(i:Nat):Stmt:=(bp cF).getD i (.Pass ⟨0,0,0,0⟩)
def DN:List Str:=["_law_tree_here","_law_deed_here","_law_book_here","_law_number","_law_parent"]
theorem fw:FnScope DN ["_law_tree_here","_law_deed_here"] (ah cF):=fsc
abbrev DX(P:Program)(w:World)(K:PySem.W.Frag)(mg:Str→Option Value)(base:Heap)(f:Addr)(cdv:Value)(A:Around)(outer:List Env)(s:Shared)(H:Hp)(E:XK):Cx:=(fJ CX0 P w K mg base DN "_law_done" (ah cF) f cdv A outer s H E).nox
section
variable{P:Program}{w:World}{K:PySem.W.Frag}{mg:Str→Option Value}{base:Heap}{f:Addr}{cdv:Value}{A:Around}{outer:List Env}{s:Shared}{H0:Hp}{E:XK}
theorem tU(T:Txt mg)(hr:Room 1 (A.deeper (PyProof.Rows.envOfC "_law_done" (ah cF) s.heap.objs.size f cdv))):
  ∃t,PS (DX P w K mg base f cdv A outer s H0 E) (ldS 6) t∧∀(D:Ends)(H:Hp)(σ:St)(x0 x1 x3 x4:Option V)(d:Addr)(bs:List (Addr×Nd)),σ=[x0,x1,some (.ref d),x3,x4]→H d=some (.dK (cn bs))→(∀b∈bs,H b.1=some (.tup (bH b.2)))→(bs.map (·.2.num)).Nodup→bs.length≤60 →
   (∀o us t' H',Same (upd H d (.frz o (.dK (cn bs)))) H'→H' t'=some (.tup (ba us))→At H' us→(nds us).Perm (bs.map (·.2))→TW.cO (nds us)→D.rt (.ref t') H')→t D σ H:=by
 refine⟨_,ax (bc cj rfl T.tuple rfl (aa (aO cH rfl T.sorted boot_sorted (aa (ik (N:=["_law_one","_law_book_here"]) (cl:=[("_law_book_here",s.heap.objs.size+1)]) (k:=1) (js:=[2]) (g:=bg 0) rfl
    (LcOk.mk' ["_law_book_here"] rfl rfl (by decide +kernel) (by decide +kernel) ?hcl rfl (by decide +kernel)) rfl ?hj (vX (pv 2)) (λs H fp=>aG (i:=0) (show(["_law_one","_law_book_here"]:List Str).Nodup by decide +kernel) rfl (Or.inl rfl) (Or.inr rfl))
    (λs H fp=>aK (r:=kh K) dm (bn (aa (pv 0) af)) (aV (aN hr) (pv 1) (pv 0) (λ_ _=>rfl)))) af)) af)),?_⟩
 case hcl =>
  intro y hy;rcases mem_cons.mp hy with e|hy
  ·rw[e];rfl
  ·cases hy
 case hj =>
  intro i j x h1 h2
  match i,h1,h2 with
  |0,h1,h2 =>
   cases h1;cases h2;exact⟨rfl,Or.inr (Or.inl rfl),(show((ah cF).names.lookup ("_law_book_here":Str)≠some NameKind.local)by decide +kernel),by first|exact Or.inl rfl|exact Or.inr rfl⟩
  |i+1,h1,h2=>simp at h1
 rintro D H _ x0 x1 x3 x4 d bs rfl hd hb hnd hl q;refine⟨_,rfl,d,_,rfl,hd,λo p hp=>?_⟩;have hb1:∀b∈bs,upd H d (.frz o (.dK (cn bs))) b.1=some (.tup (bH b.2)):=λb mb=>by
  rw[ao]
  ·exact hb b mb
  ·intro e;have:=hb b mb;rw[e,hd]at this;cases this
 have hd1:upd H d (.frz o (.dK (cn bs))) d=some (.frz o (.dK (cn bs))):=ac;have sq:∀us t' H',Same (upd H d (.frz o (.dK (cn bs)))) H'→H' t'=some (.tup (ba us))→At H' us→(nds us).Perm (bs.map (·.2))→TW.cO (nds us)→D.rt (.ref t') H':=q o;generalize upd H d (.frz o (.dK (cn bs)))=H1 at hb1 hd1 sq hp⊢;rw[jC];refine eI (fr:=[some (.ref d)]) bs (λb=>V.int b.2.num) (by omega) hp (dC hd1) rfl (λb y H'=>∃q,y=.ref q∧q≠p∧H' q=some (.tup (vals b.2))) (λb y H H' ⟨q,e,ne,h⟩ ex=>⟨q,e,ne,ex q _ ne h⟩) (λb H' k mb s1 hpl hk=>?_) (λys H' s1 hp' hys=>?_)
 ·refine⟨_,rfl,(show 1≤sizeLine from au (by decide)),λc hc=>?_⟩;have s2:=ag (o:=.tup [.int b.2.num]) hc;refine⟨_,rfl,_,rfl,d,_,rfl,.inl ⟨cn bs,Sum.inl b.2.num,.inr ⟨o,s2 _ _ (s1 _ _ hd1)⟩,rfl,(kQ hnd mb).symm⟩,c,b.1,_,_,rfl,rfl,SqT.of ac,SqT.of (s2 _ _ (s1 _ _ (hb1 b mb))),by simp,(show 4≤sizeLine from au (by decide)),λh=>absurd h (cons_ne_nil _ _),λ_ q hq=>?_⟩;have hpl2:∃ys,upd H' c (.tup [.int b.2.num]) p=some (.lst ys):=let⟨ys,e⟩:=hpl;⟨ys,s2 _ _ e⟩;exact hk _ _ (s2.trans (ag hq)) ⟨q,rfl,dG hpl2 hq,ac⟩
 ·obtain⟨cs,e1,e2,e3⟩:=cM (val:=V.ref) (S:=λ(b:Addr×Nd) (q:Addr)=>H' q=some (.tup (vals b.2))) hys (λb y _ ⟨q,e,_,h⟩=>⟨q,e,h⟩);have er:ys=ba (cs.map λx=>(x.2,x.1.2)):=by rw[e2,←cg,map_map];rfl
  have en:nds (cs.map λx=>(x.2,x.1.2))=bs.map (·.2):=by rw[←e1];unfold nds;rw[map_map,map_map];rfl
  have hcl:cs.length=bs.length:=by rw[←e1,length_map]
  refine gk (zs:=cs.map λx=>(x.2,x.1.2)) (.inl (SqL.of (by rw[hp',er]))) (λz hz=>?_) ?_ (by rw[length_map];omega) (λus t' H2 s2 ht' hA' hpm hrise=>?_)
  ·obtain⟨x,hx,rfl⟩:=mem_map.mp hz;exact e3 x hx
  ·rw[en,map_map];exact hnd
  ·refine sq us t' H2 (s1.trans s2) ht' hA' ?_ hrise;have:(nds us).Perm (nds (cs.map λx=>(x.2,x.1.2))):=hpm.map _;rw[en]at this;exact this
theorem qu(T:Txt mg)(hr:Room 1 (A.deeper (PyProof.Rows.envOfC "_law_done" (ah cF) s.heap.objs.size f cdv)))(CU:Has P w K mg base 1 "_law_under" ["_law_book_here","_law_number","_law_goal"] gO):
  ∃t,PS (DX P w K mg base f cdv A outer s H0 E) (ldS 4) t∧∀(D:Ends)(H:Hp)(σ:St)(a c d:Addr)(dd:TW.Deed Str)(n:Int)(as:List (Addr×(Addr×Nd)))(zs:ZN),σ=[some (.ref a),some (.ref c),some (.ref d),some (.int n),none]→Tre H a zs→H c=some (.tup (aR dd))→Book H d as zs→1≤n →
   ((∃k,dd=.drop k)→∀us t' H' (g:Nd→Bool),Same H H'→H' t'=some (.tup (ba us))→At H' us→nds us=(nds zs).filter g→(∀m∈nds zs,g m=true↔¬TW.Und (nds zs) n m.num)→D.rt (.ref t') H')→((¬∃k,dd=.drop k)→D.nx σ H)→t D σ H:=by
 obtain⟨fU,fdU,GU,mU,kU,bU⟩:=CU;refine⟨_,aW (am cv (av aq (pv 1) ai (λ_ _=>rfl)) aC (aw _)) (aj (ax (bc cj rfl T.tuple rfl (aa (cY (N:=["_law_node","_law_book_here","_law_number"]) (cl:=[("_law_number",s.heap.objs.size+2),("_law_book_here",s.heap.objs.size+1)]) (k:=1) (js:=[2,3]) (g:=bg 0) rfl
    (LcOk.mk' ["_law_number","_law_book_here"] rfl rfl (by decide +kernel) (by decide +kernel) ?hcl rfl (by decide +kernel)) rfl ?hj (cS (pv 0)) (λs H fp=>aG (i:=0) (show(["_law_node","_law_book_here","_law_number"]:List Str).Nodup by decide +kernel) rfl (Or.inl rfl) (Or.inr rfl))
    (λs H fp=>jl (gQ (ak (X:=cQ _ _ _ _ _ _ _) GU hr rfl mU kU bU .nil aI (aa (pv 1) (aa (av (r:=cw K) aq (pv 0) ai (λ_ _=>rfl)) (aa (pv 2) af)))) (λ_=>rfl))) (λs H fp=>pv 0)) af)))) aB,?_⟩
 case hcl =>
  intro y hy;rcases mem_cons.mp hy with e|hy
  ·rw[e];rfl
  ·rcases mem_cons.mp hy with e|hy
   ·rw[e];rfl
   ·cases hy
 case hj =>
  intro i j x h1 h2
  match i,h1,h2 with
  |0,h1,h2 =>
   cases h1;cases h2;exact⟨rfl,Or.inr (Or.inl rfl),(show((ah cF).names.lookup ("_law_book_here":Str)≠some NameKind.local)by decide +kernel),by first|exact Or.inl rfl|exact Or.inr rfl⟩
  |1,h1,h2 =>
   cases h1;cases h2;exact⟨rfl,Or.inr (Or.inl rfl),(show((ah cF).names.lookup ("_law_number":Str)≠some NameKind.local)by decide +kernel),by first|exact Or.inl rfl|exact Or.inr rfl⟩
  |i+2,h1,h2=>simp at h1
 rintro D H _ a c d dd n as zs rfl tr hc bk hn q1 q2;have hT:=tr.tr;have hl:=tr.len;have sd:SqT K H c (aR dd):=SqT.of hc;cases dd with
 |make n' p nm st=>exact⟨_,rfl,c,_,_,_,rfl,rfl,sd,rfl,rfl,_,rfl,aE (q2 λ⟨k,e⟩=>by cases e)⟩
 |write n' st=>exact⟨_,rfl,c,_,_,_,rfl,rfl,sd,rfl,rfl,_,rfl,aE (q2 λ⟨k,e⟩=>by cases e)⟩
 |move n' p nm=>exact⟨_,rfl,c,_,_,_,rfl,rfl,sd,rfl,rfl,_,rfl,aE (q2 λ⟨k,e⟩=>by cases e)⟩
 |drop n' =>
  refine⟨_,rfl,c,_,_,_,rfl,rfl,sd,rfl,rfl,_,rfl,aQ ?_⟩;refine⟨_,rfl,a,rfl,⟨_,SqT.of tr.tup⟩,λp hp=>?_⟩
  classical
  refine cy (fr:=[some (.ref d),some (.int n)]) zs (λz=>V.ref z.1) (by omega) hp (eG (by rw[cg];exact SqT.of tr.tup)) rfl (λz=>!decide (TW.Und (nds zs) n z.2.num)) (λz y _=>y=.ref z.1) (λz y H H' h _=>h) (λz H' k mz s1 _ hk=>?_) (λz H' k mz _ s1 _ hk=>⟨_,rfl,hk _ H' (Same.refl _) rfl⟩) (λys H' s1 hp' hys=>?_)
  ·obtain⟨pa,hpa⟩:=TW.PathTo.ex hT (aA mz);refine⟨_,rfl,_,rfl,z.1,_,_,_,rfl,rfl,SqT.of (s1 _ _ (tr.nod z mz)),at0 z.2,_,rfl,d,z.2.num,n,as,zs,pa,rfl,bk.same s1,hT,hpa,hn,λb hb=>⟨b,rfl,?_⟩⟩;have:b=decide (TW.Und (nds zs) n z.2.num):=by rw[Bool.eq_iff_iff,hb,decide_eq_true_eq]
   rw[this];exact hk H' (Same.refl _)
  ·have ey:=aY (f:=λz:Addr×Nd=>V.ref z.1) hys (λz y _ h=>h);refine⟨p,_,rfl,.inl ⟨SqL.of hp',λl hl'=>?_⟩⟩;have s2:=s1.trans (ag (o:=.tup ys) hl');refine q1 ⟨n',rfl⟩ (zs.filter λz=>!decide (TW.Und (nds zs) n z.2.num)) l _ (λm=>!decide (TW.Und (nds zs) n m.num)) s2 (by rw[ac,ey,cg]) (λy hy=>s2 _ _ (tr.nod y (mem_filter.mp hy).1)) ?_ λm _=>?_
   ·have hfm:∀g:Nd→Bool,nds (zs.filter λz=>g z.2)=(nds zs).filter g:=λg=>by
     unfold nds;rw[filter_map];rfl
    exact hfm λm=>!decide (TW.Und (nds zs) n m.num)
   ·rw[Bool.not_eq_true',decide_eq_false_iff_not]
end
def wj:List Stmt:=match ldS 5 with
 |.If _ _ b _=>b
 |_=>[]
def elS(i:Nat):Stmt:=wj.getD i (.Pass ⟨0,0,0,0⟩)
structure LD(H0 H:Hp)(a c d:Addr)(dd:TW.Deed Str)(as:List (Addr×(Addr×Nd)))(zs:ZN):Prop where
 s0:Same H0 H
 d0:H0 d=none
 tre:Tre H a zs
 deed:H c=some (.tup (aR dd))
 book:Book H d as zs
theorem LD.same{H0 H H':Hp}{a c d:Addr}{dd:TW.Deed Str}{as:List (Addr×(Addr×Nd))}{zs:ZN}(h:LD H0 H a c d dd as zs)(s:Same H H'):LD H0 H' a c d dd as zs :=
 ⟨h.s0.trans s,h.d0,h.tre.same s,s _ _ h.deed,h.book.same s⟩
theorem tV{H:Hp}{a d:Addr}{xs:List V}{kvs:List (Key×V)}(h:H a=some (.tup xs))(hd:Rd H d (.dK kvs)):a≠d:=λe=>by
 rcases hd with hd|⟨o,hd⟩<;>rw[e,hd]at h<;>cases h
theorem LD.turn{H0 H:Hp}{a c d:Addr}{dd:TW.Deed Str}{as:List (Addr×(Addr×Nd))}{zs:ZN}(h:LD H0 H a c d dd as zs){u:HO}(hu:Rd (upd H d u) d (.dK (aD as))):LD H0 (upd H d u) a c d dd as zs:=by
 have keep:∀{b:Addr}{xs:List V},H b=some (.tup xs)→upd H d u b=some (.tup xs):=λhb=>by rw[ao (tV hb h.book.dict)];exact hb
 exact⟨aS h.d0 h.s0,h.d0,⟨keep h.tre.tup,λz hz=>keep (h.tre.nod z hz),h.tre.tr,h.tre.len⟩,keep h.deed,⟨hu,h.book.of,λa ha=>keep (h.book.at' a ha)⟩⟩
section
variable{P:Program}{w:World}{K:PySem.W.Frag}{mg:Str→Option Value}{base:Heap}{f:Addr}{cdv:Value}{A:Around}{outer:List Env}{s:Shared}{H0:Hp}{E:XK}
theorem xY(hr:Room 1 (A.deeper (PyProof.Rows.envOfC "_law_done" (ah cF) s.heap.objs.size f cdv))):
  ∃t,PS (DX P w K mg base f cdv A outer s H0 E) (elS 5) t∧∀(D:Ends)(H:Hp)(a c d:Addr)(dd:TW.Deed Str)(n p:Int)(nm:Str)(as:List (Addr×(Addr×Nd)))(zs:ZN)(x4:Option V)(o:Obj),LD H0 H a c d dd as zs→H d=some (.frz o (.dK (aD as)))→jD (nds zs) dd n p nm→TW.gT (nds zs) p→NotIn (nds zs) dd n p→(∀m∈nds zs,m.num≠n→¬(m.par=p∧m.nm=nm)) →
   (∀bs H',Same H0 H'→H' d=some (.dK (cn bs))→(∀b∈bs,H' b.1=some (.tup (bH b.2)))→(bs.map (·.2.num)).Nodup→bs.length≤zs.length+1→(∀us,us.Perm (bs.map (·.2))→TW.cO us→TW.Told (nds zs) dd (.inr us))→D.nx [some (.ref a),some (.ref c),some (.ref d),some (.int n),x4] H') →
   t D [some (.ref a),some (.ref c),some (.ref d),some (.int n),x4] H:=by
 refine⟨_,uP (ie (aN hr) (pv 2) (pv 3) (aK dm (bX cT (pv 1) (bv ai) (bv ai)) (bn (aa (jm (am cv (av aq (pv 1) ai (λ_ _=>rfl)) aC (aw _)) (av aq (pv 1) ai (λ_ _=>rfl)) (av aq (aV (aN hr) (pv 2) (pv 3) (λ_ _=>rfl)) ai (λ_ _=>rfl))) af))) rfl),?_⟩;intro D H a c d dd n p nm as zs x4 o L0 hd mm hF hi hfree qn;refine⟨d,o,aD as,L0.d0,hd,?_⟩;have L:=L0.turn (u:=.dK (aD as)) (.inl ac);have hd1:upd H d (.dK (aD as)) d=some (.dK (aD as)):=ac;generalize upd H d (.dK (aD as))=H1 at L hd1⊢;have hT:=L.tre.tr;have hnd:=aH hT;have hlen:=L.tre.len;have fin:∀(st:Option Int)(q:Addr)(H2:Hp),Same H1 H2→H2 q=some (.tup (bH ⟨n,p,nm,st⟩))→(∀us,(TW.aM (nds zs) n→us=(nds zs).map (TW.put ⟨n,p,nm,st⟩)→TW.Told (nds zs) dd (.inr us))∧(¬TW.aM (nds zs) n→us.Perm (⟨n,p,nm,st⟩::nds zs)→TW.cO us→TW.Told (nds zs) dd (.inr us))) →
   D.nx [some (.ref a),some (.ref c),some (.ref d),some (.int n),x4] (upd H2 d (.dK (cx (aD as) (Sum.inl n:Key) (.ref q)))):=by
  intro st q H2 s2 hq ht;have L2':=L.same s2;obtain⟨bs,e1,e2,e3,e4,e5⟩:=nI (new:=⟨n,p,nm,st⟩) (s2 _ _ hd1) L2'.book.of L2'.book.at' hq hnd;refine qn bs _ (aS L.d0 L2'.s0) e1 e2 e3 e4 λus hp hrise=>?_;rcases e5 with⟨h1,h2⟩|⟨h1,h2⟩
  ·rw[h2]at hp;exact(ht us).1 h1 (TW.iq hrise (TW.ip hT.rise) hp)
  ·rw[h2]at hp;exact(ht us).2 h1 (hp.trans List.perm_append_comm) hrise
 have sd:∀{H2:Hp},Same H1 H2→SqT K H2 c (aR dd):=λs2=>SqT.of (s2 _ _ L.deed);rcases mm with⟨st,rfl,hno⟩|⟨rfl,hh⟩
 ·refine⟨_,rfl,_,rfl,_,rfl,c,_,rfl,sd (Same.refl _),(λh=>absurd h.1 (show ¬HT.sIx 5 0 (some 2)=0 by decide)),λt1 ht1=>?_⟩;have s2:=ag (o:=.tup (dz (aR (.make n p nm st)) (some 2) (some 4))) ht1;refine⟨_,rfl,c,_,_,_,rfl,rfl,sd s2,rfl,rfl,_,rfl,aQ ⟨_,rfl,c,_,_,_,rfl,rfl,sd s2,rfl,(show 1≤sizeLine from au (by decide)),λt2 ht2=>?_⟩⟩;have s3:=s2.trans (ag (o:=.tup [stV st]) ht2);refine⟨t1,t2,[.int p,.str nm],[stV st],rfl,rfl,SqT.of (bj ht2 ac),SqT.of ac,by simp,(show 3≤sizeLine from au (by decide)),λh=>absurd h (cons_ne_nil _ _),λ_ q hq=>?_⟩;have s4:=s3.trans (ag (o:=.tup ([.int p,.str nm]++[stV st])) hq);refine⟨_,rfl,_,rfl,d,_,rfl,jT.k (k:=Sum.inl n) (s4 _ _ hd1) (aJ ?_),fin st q _ s4 ac λus=>⟨λh _=>absurd h hno,λ_ hp hrise=>.made hno hF (λm hm h=>hfree m hm (λe=>hno ⟨m,hm,e⟩) h) hp hrise⟩⟩;have:=congrArg length L.book.of;unfold aD;rw[length_map]at this⊢;omega
 ·refine⟨_,rfl,_,rfl,_,rfl,c,_,rfl,sd (Same.refl _),(λh=>absurd h.1 (show ¬HT.sIx 4 0 (some 2)=0 by decide)),λt1 ht1=>?_⟩;have s2:=ag (o:=.tup (dz (aR (.move n p nm)) (some 2) (some 4))) ht1;obtain⟨m,hm,em⟩:=id hh;obtain⟨z,hz,rfl⟩:=bf hm;obtain⟨b,hb1,hb2⟩:=(L.same s2).book.get hnd hz;rw[em]at hb1;refine⟨_,rfl,c,_,_,_,rfl,rfl,sd s2,rfl,rfl,_,rfl,aE ⟨_,rfl,_,rfl,d,_,rfl,hb1,b,_,_,_,rfl,rfl,SqT.of hb2,nH z.2,(show 1≤sizeLine from au (by decide)),λt2 ht2=>?_⟩⟩;have s3:=s2.trans (ag (o:=.tup [stV z.2.st]) ht2);refine⟨t1,t2,[.int p,.str nm],[stV z.2.st],rfl,rfl,SqT.of (bj ht2 ac),SqT.of ac,by simp,(show 3≤sizeLine from au (by decide)),λh=>absurd h (cons_ne_nil _ _),λ_ q hq=>?_⟩;have s4:=s3.trans (ag (o:=.tup ([.int p,.str nm]++[stV z.2.st])) hq);refine⟨_,rfl,_,rfl,d,_,rfl,jT.k (k:=Sum.inl n) (s4 _ _ hd1) (aJ ?_),fin z.2.st q _ s4 ac λus=>⟨λ_ e=>by rw[e];exact .moved hm em hF (hi ⟨_,rfl⟩) hfree,λh=>absurd hh h⟩⟩;have:=congrArg length L.book.of;unfold aD;rw[length_map]at this⊢;omega
theorem tW(hr:Room 1 (A.deeper (PyProof.Rows.envOfC "_law_done" (ah cF) s.heap.objs.size f cdv))):
  ∃t,PS (DX P w K mg base f cdv A outer s H0 E) (elS 4) t∧∀(D:Ends)(H:Hp)(a c d:Addr)(dd:TW.Deed Str)(n p:Int)(nm:Str)(as:List (Addr×(Addr×Nd)))(zs:ZN)(x4:Option V),LD H0 H a c d dd as zs→H d=some (.dK (aD as))→jD (nds zs) dd n p nm →
   (∀H',Same H0 H'→(∃m∈nds zs,m.num≠n∧m.par=p∧m.nm=nm)→D.rt (.str "taken") H') →
   (∀o H',LD H0 H' a c d dd as zs→H' d=some (.frz o (.dK (aD as)))→(∀m∈nds zs,m.num≠n→¬(m.par=p∧m.nm=nm))→D.nx [some (.ref a),some (.ref c),some (.ref d),some (.int n),x4] H') →
   t D [some (.ref a),some (.ref c),some (.ref d),some (.int n),x4] H:=by
 refine⟨_,aW (am (oI (aN hr)) (bX cT (pv 1) (bv ai) (bv ai)) (cY (N:=["_law_one","_law_book_here","_law_number"]) (cl:=[("_law_number",s.heap.objs.size+2),("_law_book_here",s.heap.objs.size+1)]) (k:=1) (js:=[2,3]) (g:=bg 0) rfl
    (LcOk.mk' ["_law_number","_law_book_here"] rfl rfl (by decide +kernel) (by decide +kernel) ?hcl rfl (by decide +kernel)) rfl ?hj (vX (pv 2)) (λs H fp=>aG (i:=0) (show(["_law_one","_law_book_here","_law_number"]:List Str).Nodup by decide +kernel) rfl (Or.inl rfl) (Or.inr rfl))
    (λs H fp=>am cU (pv 0) (pv 2) (aw _)) (λs H fp=>bX (r:=jR K) cT (aV (aN hr) (pv 1) (pv 0) (λ_ _=>rfl)) cW (bv ai))) rfl) (aj (ax aC)) aB,?_⟩
 case hcl =>
  intro y hy;rcases mem_cons.mp hy with e|hy
  ·rw[e];rfl
  ·rcases mem_cons.mp hy with e|hy
   ·rw[e];rfl
   ·cases hy
 case hj =>
  intro i j x h1 h2
  match i,h1,h2 with
  |0,h1,h2 =>
   cases h1;cases h2;exact⟨rfl,Or.inr (Or.inl rfl),(show((ah cF).names.lookup ("_law_book_here":Str)≠some NameKind.local)by decide +kernel),by first|exact Or.inl rfl|exact Or.inr rfl⟩
  |1,h1,h2 =>
   cases h1;cases h2;exact⟨rfl,Or.inr (Or.inl rfl),(show((ah cF).names.lookup ("_law_number":Str)≠some NameKind.local)by decide +kernel),by first|exact Or.inl rfl|exact Or.inr rfl⟩
  |i+2,h1,h2=>simp at h1
 intro D H a c d dd n p nm as zs x4 L hd mm qt qn;have hT:=L.tre.tr;have hnd:=aH hT;have hlen:=L.tre.len;have ecut:dz (aR dd) (some 2) (some 4)=[Sum.inl p,Sum.inr nm].map kV:=by rcases mm with⟨st,rfl,_⟩|⟨rfl,_⟩<;>rfl
 have nw:¬(HT.sIx (aR dd).length 0 (some 2)=0∧HT.sIx (aR dd).length (aR dd).length (some 4)=(aR dd).length):=by
  rcases mm with⟨st,rfl,_⟩|⟨rfl,_⟩
  ·exact λh=>absurd h.1 (show ¬HT.sIx 5 0 (some 2)=0 by decide)
  ·exact λh=>absurd h.1 (show ¬HT.sIx 4 0 (some 2)=0 by decide)
 refine⟨_,rfl,_,rfl,_,rfl,c,_,rfl,SqT.of L.deed,nw,λt1 ht1=>?_⟩;have s1:=ag (o:=.tup (dz (aR dd) (some 2) (some 4))) ht1;have g1:upd H t1 (.tup (dz (aR dd) (some 2) (some 4))) t1=some (.tup ([Sum.inl p,Sum.inr nm].map kV)):=by rw[ac,ecut]
 have L1:=L.same s1;have hd1:=s1 _ _ hd;generalize upd H t1 (.tup (dz (aR dd) (some 2) (some 4)))=H1 at L1 g1 hd1⊢;refine⟨_,rfl,d,_,rfl,hd1,λo p1 hp1=>?_⟩;have L2:=L1.turn (u:=.frz o (.dK (aD as))) (.inr ⟨o,ac⟩);have g2:upd H1 d (.frz o (.dK (aD as))) t1=some (.tup ([Sum.inl p,Sum.inr nm].map kV)):=by rw[ao (tV g1 L1.book.dict)];exact g1
 have hd2:upd H1 d (.frz o (.dK (aD as))) d=some (.frz o (.dK (aD as))):=ac;generalize upd H1 d (.frz o (.dK (aD as)))=H2 at L2 g2 hd2 hp1⊢;have eb:(as.map λa=>(a.1,a.2.2)).map (·.2)=nds zs:=by rw[←L.book.of];unfold nds;rw[map_map,map_map];rfl
 have hbl:(as.map λa=>(a.1,a.2.2)).length=zs.length:=by rw[←L.book.of,length_map,length_map]
 have hbn:((as.map λa=>(a.1,a.2.2)).map (·.2.num)).Nodup:=by
  have:(as.map λa=>(a.1,a.2.2)).map (·.2.num)=(nds zs).map (·.num):=by rw[←eb];simp only[map_map];rfl
  rw[this];exact hnd
 have hba:∀b∈as.map (λa=>(a.1,a.2.2)),H2 b.1=some (.tup (bH b.2)):=λb hb=>by
  obtain⟨x,hx,rfl⟩:=mem_map.mp hb;exact L2.book.at' x hx
 rw[lO]at hd2⊢;rw[jC];have hkeep:aD as=cn (as.map λa=>(a.1,a.2.2)):=lO as;generalize as.map (λa=>(a.1,a.2.2))=bs at eb hbl hbn hba hd2 hkeep⊢;refine cy (fr:=[some (.ref d),some (.int n)]) bs (λb=>V.int b.2.num) (by omega) hp1 (dC hd2) rfl (λb=>!decide (V.int b.2.num=V.int n)) (λb y H'=>∃q,y=.ref q∧q≠p1∧H' q=some (.tup ((plK b.2).map kV))) (λb y H H' ⟨q,e,ne,h⟩ ex=>⟨q,e,ne,ex q _ ne h⟩) (λb H' k mb s3 _ hk=>?_) (λb H' k mb _ s3 hpl hk=>?_) (λys H3 s3 hp3 hys=>?_)
 ·exact⟨_,rfl,_,rfl,rfl,_,rfl,hk H' (Same.refl _)⟩
 ·refine⟨_,rfl,_,rfl,d,_,rfl,.inl ⟨cn bs,Sum.inl b.2.num,.inr ⟨o,s3 _ _ hd2⟩,rfl,(kQ hbn mb).symm⟩,_,rfl,b.1,_,rfl,SqT.of (s3 _ _ (hba b mb)),(λh=>absurd h.2 (show ¬HT.sIx 3 3 (some 2)=3 by decide)),λq hq=>?_⟩;exact hk _ _ (ag hq) ⟨q,rfl,dG hpl hq,ac⟩
 ·obtain⟨cs,e1,e2,e3⟩:=cM (val:=V.ref) (S:=λ(b:Addr×Nd) (q:Addr)=>H3 q=some (.tup ((plK b.2).map kV))) hys (λb y _ ⟨q,e,_,h⟩=>⟨q,e,h⟩);refine⟨t1,p1,_,cs.map λx=>(x.2,plK x.1.2),rfl,s3 _ _ g2,rfl,SqL.of (by rw[hp3,e2,map_map,map_map];rfl),λy hy=>?_,_,rfl,?_⟩
  ·obtain⟨x,hx,rfl⟩:=mem_map.mp hy;exact e3 x hx
  ·have L3:=L2.same s3;cases ha:((cs.map λx=>(x.2,plK x.1.2)).any λz=>decide (z.2=[Sum.inl p,Sum.inr nm]))with
   |true =>
    refine aQ (qt H3 L3.s0 ?_);obtain⟨y,hy,e⟩:=any_eq_true.mp ha;obtain⟨x,hx,rfl⟩:=mem_map.mp hy;have mx:x.1∈bs.filter λb=>!decide (V.int b.2.num=V.int n):=by rw[←e1];exact mem_map.mpr ⟨x,hx,rfl⟩
    obtain⟨mx1,mx2⟩:=mem_filter.mp mx;have e':plK x.1.2=[Sum.inl p,Sum.inr nm]:=by simpa using e
    have hp:x.1.2.par=p∧x.1.2.nm=nm:=by
     unfold plK at e';injection e' with q1 q2
     injection q2 with q2 _
     injection q1 with q1
     injection q2 with q2
     exact⟨q1,q2⟩
    refine⟨x.1.2,by rw[←eb];exact mem_map.mpr ⟨x.1,mx1,rfl⟩,λe=>?_,hp⟩;simp[e]at mx2
   |false =>
    refine aE (qn o H3 L3 (by rw[hkeep];exact s3 _ _ hd2) λm hm hne h=>?_);rw[←eb]at hm;obtain⟨b,hb,rfl⟩:=mem_map.mp hm;have mb:b∈bs.filter λb=>!decide (V.int b.2.num=V.int n):=mem_filter.mpr ⟨hb,by simp[hne]⟩;rw[←e1]at mb;obtain⟨x,hx,ex⟩:=mem_map.mp mb;have:((cs.map λx=>(x.2,plK x.1.2)).any λz=>decide (z.2=[Sum.inl p,Sum.inr nm]))=true:=any_eq_true.mpr ⟨_,mem_map.mpr ⟨x,hx,rfl⟩,by
     rw[decide_eq_true_eq];show plK x.1.2=_;rw[ex];unfold plK;rw[h.1,h.2]⟩
    rw[ha]at this;cases this
theorem rB(hr:Room 1 (A.deeper (PyProof.Rows.envOfC "_law_done" (ah cF) s.heap.objs.size f cdv)))(CU:Has P w K mg base 1 "_law_under" ["_law_book_here","_law_number","_law_goal"] gO):
  ∃t,PS (DX P w K mg base f cdv A outer s H0 E) (elS 3) t∧∀(D:Ends)(H:Hp)(a c d:Addr)(dd:TW.Deed Str)(n p:Int)(nm:Str)(as:List (Addr×(Addr×Nd)))(zs:ZN),LD H0 H a c d dd as zs→jD (nds zs) dd n p nm→TW.gT (nds zs) p→1≤n →
   (dd=.move n p nm→p≠0→TW.Und (nds zs) n p→D.rt (.str "inside") H)→(NotIn (nds zs) dd n p→D.nx [some (.ref a),some (.ref c),some (.ref d),some (.int n),some (.int p)] H) →
   t D [some (.ref a),some (.ref c),some (.ref d),some (.int n),some (.int p)] H:=by
 obtain⟨fU,fdU,GU,mU,kU,bU⟩:=CU;refine⟨_,aW (PW.pt (pw_and (am cv (av aq (pv 1) ai (λ_ _=>rfl)) aC (aw _)) (pw_and (am cU (pv 4) ai (aw _)) (pw_and1 (gQ (ak GU hr rfl mU kU bU .nil aI (aa (pv 2) (aa (pv 4) (aa (pv 3) af)))) (λ_=>rfl)))))) (aj (ax aC)) aB,?_⟩;intro D H a c d dd n p nm as zs L mm hF hn1 q1 q2;have sd:SqT K H c (aR dd):=SqT.of L.deed;rcases mm with⟨st,rfl,hno⟩|⟨rfl,hh⟩
 ·exact⟨_,rfl,c,_,_,_,rfl,rfl,sd,rfl,rfl,_,rfl,aE (aE (q2 λ⟨_,e⟩=>by cases e))⟩
 ·refine⟨_,rfl,c,_,_,_,rfl,rfl,sd,rfl,rfl,_,rfl,aQ ⟨_,rfl,rfl,_,rfl,?_⟩⟩
  by_cases hp0:p=0
  ·have e1:(!decide (V.int p=V.int 0))=false:=by simp[hp0]
   rw[e1];exact aE (aE (q2 λ_ h=>absurd hp0 h))
  ·have e1:(!decide (V.int p=V.int 0))=true:=by simp[hp0]
   rw[e1];rcases hF with e|⟨m,hm,_,em⟩
   ·exact absurd e hp0
   ·obtain⟨pa,hpa⟩:=TW.PathTo.ex L.tre.tr hm;rw[em]at hpa;refine aQ ⟨_,rfl,_,rfl,_,rfl,d,p,n,as,zs,pa,rfl,L.book,L.tre.tr,hpa,hn1,λb hb=>⟨b,rfl,?_⟩⟩;cases b with
    |true=>exact aQ (q1 rfl hp0 (hb.mp rfl))
    |false=>exact aE (q2 λ_ _ hu=>by have:=hb.mpr hu;cases this)
theorem vD(hr:Room 1 (A.deeper (PyProof.Rows.envOfC "_law_done" (ah cF) s.heap.objs.size f cdv)))(CU:Has P w K mg base 1 "_law_under" ["_law_book_here","_law_number","_law_goal"] gO):
  ∃t,PSs (DX P w K mg base f cdv A outer s H0 E) wj t∧∀(D:Ends)(H:Hp)(a c d:Addr)(dd:TW.Deed Str)(n p:Int)(nm:Str)(as:List (Addr×(Addr×Nd)))(zs:ZN),LD H0 H a c d dd as zs→H d=some (.dK (aD as))→jD (nds zs) dd n p nm→1≤n →
   (∀wd H',Same H0 H'→TW.Told (nds zs) dd (.inl wd)→D.rt (.str (pX wd)) H') →
   (∀x4 bs H',Same H0 H'→H' d=some (.dK (cn bs))→(∀b∈bs,H' b.1=some (.tup (bH b.2)))→(bs.map (·.2.num)).Nodup→bs.length≤zs.length+1→(∀us,us.Perm (bs.map (·.2))→TW.cO us→TW.Told (nds zs) dd (.inr us))→D.nx [some (.ref a),some (.ref c),some (.ref d),some (.int n),x4] H') →
   t D [some (.ref a),some (.ref c),some (.ref d),some (.int n),none] H:=by
 obtain⟨t3,p3,h3⟩:=rB (f:=f) (cdv:=cdv) (outer:=outer) (H0:=H0) (E:=E) hr CU;obtain⟨t4,p4,h4⟩:=tW (P:=P) (w:=w) (mg:=mg) (base:=base) (K:=K) (f:=f) (cdv:=cdv) (outer:=outer) (H0:=H0) (E:=E) hr;obtain⟨t5,p5,h5⟩:=xY (P:=P) (w:=w) (mg:=mg) (base:=base) (K:=K) (f:=f) (cdv:=cdv) (outer:=outer) (H0:=H0) (E:=E) hr;refine⟨_,ae (ap (i:=4) fw.nd rfl (Or.inl rfl) (av aq (pv 1) ai (λ_ _=>rfl)))
  (ae (aW (PW.pt (pw_and (am cU (pv 4) ai (aw _)) (pw_and1 (cc (cC (aN hr) (pv 4) (pv 2)))))) (aj (ax aC)) aB)
  (ae (aW (PW.pt (pw_and (am cU (pv 4) ai (aw _)) (pw_and1 (am gB (av aq (aV (aN hr) (pv 2) (pv 4) (λ_ _=>rfl)) ai (λ_ _=>rfl)) bJ (aw _))))) (aj (ax aC)) aB)
  (ae p3 (ae p4 (aj p5))))),?_⟩
 intro D H a c d dd n p nm as zs L hd mm hn1 qw qn;have hT:=L.tre.tr;have hnd:=aH hT;have a2:atI (aR dd) 2=some (.int p):=by rcases mm with⟨st,rfl,_⟩|⟨rfl,_⟩<;>rfl
 have rest:TW.gT (nds zs) p→iY t3 (iY t4 t5) D [some (.ref a),some (.ref c),some (.ref d),some (.int n),some (.int p)] H:=λhF=>by
  refine h3 _ H a c d dd n p nm as zs L mm hF hn1 (λe h0 hu=>?_) λhi=>?_
  ·subst e;rcases mm with⟨st,e,_⟩|⟨_,hh⟩
   ·cases e
   ·exact qw .inside H L.s0 (.vIn hh hF h0 hu)
  ·refine h4 _ H a c d dd n p nm as zs _ L hd mm (λH' s' ⟨m,hm,h1,h2,h3⟩=>qw .taken H' s' (mm.taken hF hi hm h1 h2 h3)) λo H' L' hd' hfree=>?_;exact h5 _ H' a c d dd n p nm as zs _ o L' hd' mm hF hi hfree λbs H2 e1 e2 e3 e4 e5 e6=>qn _ bs H2 e1 e2 e3 e4 e5 e6
 refine⟨_,rfl,c,_,_,_,rfl,rfl,SqT.of L.deed,a2,?_⟩;refine⟨_,rfl,rfl,_,rfl,?_⟩
 by_cases hp0:p=0
 ·have e1:(!decide (V.int p=V.int 0))=false:=by simp[hp0]
  rw[e1];refine aE (aE ⟨_,rfl,rfl,_,rfl,?_⟩);rw[e1];exact aE (aE (rest (.inl hp0)))
 ·have e1:(!decide (V.int p=V.int 0))=true:=by simp[hp0]
  rw[e1]
  by_cases hh:∃z∈zs,z.2.num=p
  ·obtain⟨z,hz,ez⟩:=hh;obtain⟨b,hb1,hb2⟩:=L.book.get hnd hz;rw[ez]at hb1;refine aQ ⟨_,rfl,_,rfl,d,_,rfl,hb1,_,rfl,aE ⟨_,rfl,rfl,_,rfl,?_⟩⟩;rw[e1];refine aQ ⟨_,rfl,_,rfl,d,_,rfl,hb1,b,_,_,_,rfl,rfl,SqT.of hb2,nH z.2,rfl,_,rfl,?_⟩;rw[pW];cases hs:z.2.st with
   |none=>exact aE (rest (.inr ⟨z.2,aA hz,hs,ez⟩))
   |some i=>exact aQ (qw .notFolder H L.s0 (mm.file hp0 (aA hz) ez (by rw[hs];simp)))
  ·exact aQ ⟨_,rfl,_,rfl,d,_,rfl,L.book.not (λz hz e=>hh ⟨z,hz,e⟩),_,rfl,aQ (qw .noNode H L.s0 (mm.no hp0 (cz hh)))⟩
theorem nX(hr:Room 1 (A.deeper (PyProof.Rows.envOfC "_law_done" (ah cF) s.heap.objs.size f cdv)))(CU:Has P w K mg base 1 "_law_under" ["_law_book_here","_law_number","_law_goal"] gO):
  ∃t,PS (DX P w K mg base f cdv A outer s H0 E) (ldS 5) t∧∀(D:Ends)(H:Hp)(a c d:Addr)(dd:TW.Deed Str)(n:Int)(as:List (Addr×(Addr×Nd)))(zs:ZN),LD H0 H a c d dd as zs→H d=some (.dK (aD as))→((∃st,dd=.write n st∧TW.aM (nds zs) n)∨∃p nm,jD (nds zs) dd n p nm)→1≤n →
   (∀wd H',Same H0 H'→TW.Told (nds zs) dd (.inl wd)→D.rt (.str (pX wd)) H') →
   (∀x4 bs H',Same H0 H'→H' d=some (.dK (cn bs))→(∀b∈bs,H' b.1=some (.tup (bH b.2)))→(bs.map (·.2.num)).Nodup→bs.length≤zs.length+1→(∀us,us.Perm (bs.map (·.2))→TW.cO us→TW.Told (nds zs) dd (.inr us))→D.nx [some (.ref a),some (.ref c),some (.ref d),some (.int n),x4] H') →
   t D [some (.ref a),some (.ref c),some (.ref d),some (.int n),none] H:=by
 obtain⟨te,pe,he⟩:=vD (f:=f) (cdv:=cdv) (outer:=outer) (H0:=H0) (E:=E) hr CU;refine⟨_,aW (am cv (av aq (pv 1) ai (λ_ _=>rfl)) aC (aw _))
  (ae (aW (am eK (av aq (aV (aN hr) (pv 2) (pv 3) (λ_ _=>rfl)) ai (λ_ _=>rfl)) bJ (aw _)) (aj (ax aC)) aB)
  (aj (ie (aN hr) (pv 2) (pv 3) (aK dm (bX cT (aV (aN hr) (pv 2) (pv 3) (λ_ _=>rfl)) cW (bv ai)) (bn (aa (av aq (pv 1) ai (λ_ _=>rfl)) af))) rfl))) pe,?_⟩
 intro D H a c d dd n as zs L hd hdd hn1 qw qn;have hT:=L.tre.tr;have hnd:=aH hT;have hlen:=L.tre.len;have sd:SqT K H c (aR dd):=SqT.of L.deed;rcases hdd with⟨st,rfl,m,hm,em⟩|⟨p,nm,mm⟩
 ·obtain⟨z,hz,rfl⟩:=bf hm;obtain⟨b,hb1,hb2⟩:=L.book.get hnd hz;rw[em]at hb1;refine⟨_,rfl,c,_,_,_,rfl,rfl,sd,rfl,rfl,_,rfl,aQ ⟨_,rfl,_,rfl,d,_,rfl,hb1,b,_,_,_,rfl,rfl,SqT.of hb2,nH z.2,rfl,_,rfl,?_⟩⟩;cases hs:z.2.st with
  |none=>exact aQ (qw .notFile H L.s0 (.wFold hm em hs))
  |some i =>
   refine aE ⟨_,rfl,_,rfl,d,_,rfl,hb1,_,rfl,b,_,rfl,SqT.of hb2,(λh=>absurd h.2 (show ¬HT.sIx 3 3 (some 2)=3 by decide)),λt1 ht1=>?_⟩;have s2:=ag (o:=.tup (dz (bH z.2) none (some 2))) ht1;refine⟨_,rfl,c,_,_,_,rfl,rfl,SqT.of (s2 _ _ L.deed),rfl,(show 1≤sizeLine from au (by decide)),λt2 ht2=>?_⟩;have s3:=s2.trans (ag (o:=.tup [.int st]) ht2);refine⟨t1,t2,[.int z.2.par,.str z.2.nm],[.int st],rfl,rfl,SqT.of (bj ht2 ac),SqT.of ac,by simp,(show 3≤sizeLine from au (by decide)),λh=>absurd h (cons_ne_nil _ _),λ_ q hq=>?_⟩;have s4:=s3.trans (ag (o:=.tup ([.int z.2.par,.str z.2.nm]++[.int st])) hq);have hq4:upd (upd (upd H t1 (.tup (dz (bH z.2) none (some 2)))) t2 (.tup [.int st])) q (.tup ([.int z.2.par,.str z.2.nm]++[.int st])) q=some (.tup (bH ⟨n,z.2.par,z.2.nm,some st⟩)):=ac;have hbl:(aD as).length≤1000:=by
    have:=congrArg length L.book.of;unfold aD;rw[length_map]at this⊢;omega
   refine⟨_,rfl,_,rfl,d,_,rfl,jT.k (k:=Sum.inl n) (s4 _ _ hd) (aJ hbl),?_⟩;have L4:=L.same s4;obtain⟨bs,e1,e2,e3,e4,e5⟩:=nI (new:=⟨n,z.2.par,z.2.nm,some st⟩) (s4 _ _ hd) L4.book.of L4.book.at' hq4 hnd;refine qn _ bs _ (aS L.d0 L4.s0) e1 e2 e3 e4 λus hp hrise=>?_;rcases e5 with⟨h1,h2⟩|⟨h1,h2⟩
   ·rw[h2]at hp;rw[TW.iq hrise (TW.ip hT.rise) hp];exact .wrote hm em (by rw[hs];simp)
   ·exact absurd ⟨z.2,hm,em⟩ h1
 ·rcases id mm with⟨st,rfl,_⟩|⟨rfl,_⟩
  ·exact⟨_,rfl,c,_,_,_,rfl,rfl,sd,rfl,rfl,_,rfl,aE (he D H a c d _ n p nm as zs L hd mm hn1 qw qn)⟩
  ·exact⟨_,rfl,c,_,_,_,rfl,rfl,sd,rfl,rfl,_,rfl,aE (he D H a c d _ n p nm as zs L hd mm hn1 qw qn)⟩
def lY:Sp:=λvs H Q _=>∃a c dd zs,vs=[.ref a,.ref c]∧Tre H a zs∧zs.length≤29∧H c=some (.tup (aR dd))∧lN dd∧(∀us t' H',Same H H'→H' t'=some (.tup (ba us))→At H' us→TW.Told (nds zs) dd (.inr (nds us))→Q (.ref t') H')∧∀wd H',Same H H'→TW.Told (nds zs) dd (.inl wd)→Q (.str (pX wd)) H'
theorem tX{f:Addr}{fd:FuncData}(F:Fun K "_law_done" "_law_done" cF f fd)(T:Txt mg)(CK:Has P w K mg base 1 "_law_book" ["_law_tree_here"] dI)(CU:Has P w K mg base 1 "_law_under" ["_law_book_here","_law_number","_law_goal"] gO):
  FnOk P w K mg base CX0 2 f fd ["_law_tree_here","_law_deed_here"] lY:=by
 obtain⟨fK,fdK,GK,mK,kK,bK⟩:=CK;refine F.ok fw (λvs H Q E h=>?_) (λcdv A outer s H vs Q E hr h=>?_)
 ·obtain⟨a,c,dd,zs,rfl,_⟩:=h;rfl
 ·obtain⟨a,c,dd,zs,rfl,tr,hl,hc,hok,qo,qw⟩:=h;obtain⟨t4,p4,h4⟩:=qu (f:=f) (cdv:=cdv) (outer:=outer) (H0:=H) (E:=E) T hr CU;obtain⟨t5,p5,h5⟩:=nX (f:=f) (cdv:=cdv) (outer:=outer) (H0:=H) (E:=E) hr CU;obtain⟨t6,p6,h6⟩:=tU (P:=P) (w:=w) (K:=K) (mg:=mg) (base:=base) (f:=f) (cdv:=cdv) (outer:=outer) (H0:=H) (E:=E) T hr;refine⟨_,ae (ap (i:=2) fw.nd rfl (Or.inr rfl) (ak GK hr rfl mK kK bK .nil aI (aa (pv 0) af)))
   (ae (ap (i:=3) fw.nd rfl (Or.inr rfl) (av aq (pv 1) ai (λ_ _=>rfl)))
   (ae (aW (PW.pt (pw_and (am cv (av aq (pv 1) ai (λ_ _=>rfl)) aC (aw _)) (pw_and1 (cc (dF (aN hr) (pv 3) (pv 2)))))) (aj (ax aC)) aB)
   (ae (aW (PW.pt (pw_and (am cU (av aq (pv 1) ai (λ_ _=>rfl)) aC (aw _)) (pw_and1 (cc (cC (aN hr) (pv 3) (pv 2)))))) (aj (ax aC)) aB)
   (ae p4 (ae p5 (aj p6)))))),?_⟩
  refine⟨_,rfl,a,zs,rfl,tr,λd as H1 s1 d0 bk hd=>?_⟩;have L:LD H H1 a c d dd as zs:=⟨s1,d0,tr.same s1,s1 _ _ hc,bk⟩;have hnd:=aH tr.tr;have sd:SqT K H1 c (aR dd):=SqT.of L.deed;have last:∀x4 n bs H',Same H H'→H' d=some (.dK (cn bs))→(∀b∈bs,H' b.1=some (.tup (bH b.2)))→(bs.map (·.2.num)).Nodup→bs.length≤zs.length+1→(∀us,us.Perm (bs.map (·.2))→TW.cO us→TW.Told (nds zs) dd (.inr us)) →
    t6 {nx:=λ_ H'=>Q .non H',rt:=Q} [some (.ref a),some (.ref c),some (.ref d),some (.int n),x4] H':=λx4 n bs H' s' e1 e2 e3 e4 e5 =>
   h6 _ H' _ _ _ _ _ d bs rfl e1 e2 e3 (by omega) λo us t' H2 s2 ht' hA' hp hrise=>qo us t' H2 ((aS d0 s').trans s2) ht' hA' (e5 _ hp hrise)
  cases dd with
  |make n p nm st =>
   refine⟨_,rfl,c,_,_,_,rfl,rfl,sd,rfl,_,rfl,c,_,_,_,rfl,rfl,sd,rfl,rfl,_,rfl,aQ ?_⟩
   by_cases hh:∃z∈zs,z.2.num=n
   ·obtain⟨z,hz,ez⟩:=hh;obtain⟨b,hb1,_⟩:=L.book.get hnd hz;rw[ez]at hb1;exact⟨_,rfl,_,rfl,d,_,rfl,hb1,_,rfl,aQ (qw .known H1 s1 (.mKnown (cR hz ez)))⟩
   ·refine⟨_,rfl,_,rfl,d,_,rfl,L.book.not (λz hz e=>hh ⟨z,hz,e⟩),_,rfl,aE ?_⟩;refine⟨_,rfl,c,_,_,_,rfl,rfl,sd,rfl,rfl,_,rfl,aE (aE ?_)⟩;refine h4 _ H1 _ a c d _ n as zs rfl L.tre L.deed bk hok.1 (λ⟨k,e⟩=>by cases e) λ_=>?_;exact h5 _ H1 a c d _ n as zs L hd (.inr ⟨p,nm,.inl ⟨st,rfl,cz hh⟩⟩) hok.1 qw λx4 bs H'=>last x4 n bs H'
  |write n st =>
   refine⟨_,rfl,c,_,_,_,rfl,rfl,sd,rfl,_,rfl,c,_,_,_,rfl,rfl,sd,rfl,rfl,_,rfl,aE (aE ?_)⟩;refine⟨_,rfl,c,_,_,_,rfl,rfl,sd,rfl,rfl,_,rfl,aQ ?_⟩
   by_cases hh:∃z∈zs,z.2.num=n
   ·obtain⟨z,hz,ez⟩:=hh;obtain⟨b,hb1,_⟩:=L.book.get hnd hz;rw[ez]at hb1;refine⟨_,rfl,_,rfl,d,_,rfl,hb1,_,rfl,aE ?_⟩;refine h4 _ H1 _ a c d _ n as zs rfl L.tre L.deed bk hok.1 (λ⟨k,e⟩=>by cases e) λ_=>?_;exact h5 _ H1 a c d _ n as zs L hd (.inl ⟨st,rfl,cR hz ez⟩) hok.1 qw λx4 bs H'=>last x4 n bs H'
   ·exact⟨_,rfl,_,rfl,d,_,rfl,L.book.not (λz hz e=>hh ⟨z,hz,e⟩),_,rfl,aQ (qw .noNode H1 s1 (.wNo (cz hh)))⟩
  |move n p nm =>
   refine⟨_,rfl,c,_,_,_,rfl,rfl,sd,rfl,_,rfl,c,_,_,_,rfl,rfl,sd,rfl,rfl,_,rfl,aE (aE ?_)⟩;refine⟨_,rfl,c,_,_,_,rfl,rfl,sd,rfl,rfl,_,rfl,aQ ?_⟩
   by_cases hh:∃z∈zs,z.2.num=n
   ·obtain⟨z,hz,ez⟩:=hh;obtain⟨b,hb1,_⟩:=L.book.get hnd hz;rw[ez]at hb1;refine⟨_,rfl,_,rfl,d,_,rfl,hb1,_,rfl,aE ?_⟩;refine h4 _ H1 _ a c d _ n as zs rfl L.tre L.deed bk hok.1 (λ⟨k,e⟩=>by cases e) λ_=>?_;exact h5 _ H1 a c d _ n as zs L hd (.inr ⟨p,nm,.inr ⟨rfl,cR hz ez⟩⟩) hok.1 qw λx4 bs H'=>last x4 n bs H'
   ·exact⟨_,rfl,_,rfl,d,_,rfl,L.book.not (λz hz e=>hh ⟨z,hz,e⟩),_,rfl,aQ (qw .noNode H1 s1 (.vNo (cz hh)))⟩
  |drop n =>
   refine⟨_,rfl,c,_,_,_,rfl,rfl,sd,rfl,_,rfl,c,_,_,_,rfl,rfl,sd,rfl,rfl,_,rfl,aE (aE ?_)⟩;refine⟨_,rfl,c,_,_,_,rfl,rfl,sd,rfl,rfl,_,rfl,aQ ?_⟩
   by_cases hh:∃z∈zs,z.2.num=n
   ·obtain⟨z,hz,ez⟩:=hh;obtain⟨b,hb1,_⟩:=L.book.get hnd hz;rw[ez]at hb1;refine⟨_,rfl,_,rfl,d,_,rfl,hb1,_,rfl,aE ?_⟩;refine h4 _ H1 _ a c d _ n as zs rfl L.tre L.deed bk hok.1 (λ_ us t' H' g s2 ht' hA' e hg=>qo us t' H' (s1.trans s2) ht' hA' ?_) λh=>absurd ⟨n,rfl⟩ h;rw[e];exact .dropped (cR hz ez) hg
   ·exact⟨_,rfl,_,rfl,d,_,rfl,L.book.not (λz hz e=>hh ⟨z,hz,e⟩),_,rfl,aQ (qw .noNode H1 s1 (.dNo (cz hh)))⟩
def dE:Sp:=λvs H Q _=>∃a c dd zs,vs=[.ref a,.ref c]∧Tre H a zs∧zs.length≤29∧H c=some (.tup (aR dd))∧cp dd∧(∀us t' H',Same H H'→H' t'=some (.tup (ba us))→At H' us→TW.Told (nds zs) dd (.inr (nds us))→Q (.ref t') H')∧∀wd H',Same H H'→TW.Told (nds zs) dd (.inl wd)→Q (.str (pX wd)) H'
theorem rC{f:Addr}{fd:FuncData}(F:Fun K "_law_done" "_law_done" cF f fd)(T:Txt mg)(CK:Has P w K mg base 1 "_law_book" ["_law_tree_here"] dI)(CU:Has P w K mg base 1 "_law_under" ["_law_book_here","_law_number","_law_goal"] gO):
  FnOk P w K mg base CX0 2 f fd ["_law_tree_here","_law_deed_here"] dE:=by
 obtain⟨fK,fdK,GK,mK,kK,bK⟩:=CK;refine F.ok fw (λvs H Q E h=>?_) (λcdv A outer s H vs Q E hr h=>?_)
 ·obtain⟨a,c,dd,zs,rfl,_⟩:=h;rfl
 ·obtain⟨a,c,dd,zs,rfl,tr,hl,hc,hok,qo,qw⟩:=h;obtain⟨t4,p4,h4⟩:=qu (f:=f) (cdv:=cdv) (outer:=outer) (H0:=H) (E:=E) T hr CU;obtain⟨t5,p5,h5⟩:=nX (f:=f) (cdv:=cdv) (outer:=outer) (H0:=H) (E:=E) hr CU;obtain⟨t6,p6,h6⟩:=tU (P:=P) (w:=w) (K:=K) (mg:=mg) (base:=base) (f:=f) (cdv:=cdv) (outer:=outer) (H0:=H) (E:=E) T hr;refine⟨_,ae (ap (i:=2) fw.nd rfl (Or.inr rfl) (ak GK hr rfl mK kK bK .nil aI (aa (pv 0) af)))
   (ae (ap (i:=3) fw.nd rfl (Or.inr rfl) (av aq (pv 1) ai (λ_ _=>rfl)))
   (ae (aW (PW.pt (pw_and (am cv (av aq (pv 1) ai (λ_ _=>rfl)) aC (aw _)) (pw_and1 (cc (dF (aN hr) (pv 3) (pv 2)))))) (aj (ax aC)) aB)
   (ae (aW (PW.pt (pw_and (am cU (av aq (pv 1) ai (λ_ _=>rfl)) aC (aw _)) (pw_and1 (cc (cC (aN hr) (pv 3) (pv 2)))))) (aj (ax aC)) aB)
   (ae p4 (ae p5 (aj p6)))))),?_⟩
  refine⟨_,rfl,a,zs,rfl,tr,λd as H1 s1 d0 bk hd=>?_⟩;have L:LD H H1 a c d dd as zs:=⟨s1,d0,tr.same s1,s1 _ _ hc,bk⟩;have hnd:=aH tr.tr;have sd:SqT K H1 c (aR dd):=SqT.of L.deed;have last:∀x4 n bs H',Same H H'→H' d=some (.dK (cn bs))→(∀b∈bs,H' b.1=some (.tup (bH b.2)))→(bs.map (·.2.num)).Nodup→bs.length≤zs.length+1→(∀us,us.Perm (bs.map (·.2))→TW.cO us→TW.Told (nds zs) dd (.inr us)) →
    t6 {nx:=λ_ H'=>Q .non H',rt:=Q} [some (.ref a),some (.ref c),some (.ref d),some (.int n),x4] H':=λx4 n bs H' s' e1 e2 e3 e4 e5 =>
   h6 _ H' _ _ _ _ _ d bs rfl e1 e2 e3 (by omega) λo us t' H2 s2 ht' hA' hp hrise=>qo us t' H2 ((aS d0 s').trans s2) ht' hA' (e5 _ hp hrise)
  cases dd with
  |make n p nm st =>
   refine⟨_,rfl,c,_,_,_,rfl,rfl,sd,rfl,_,rfl,c,_,_,_,rfl,rfl,sd,rfl,rfl,_,rfl,aQ ?_⟩
   by_cases hh:∃z∈zs,z.2.num=n
   ·obtain⟨z,hz,ez⟩:=hh;obtain⟨b,hb1,_⟩:=L.book.get hnd hz;rw[ez]at hb1;exact⟨_,rfl,_,rfl,d,_,rfl,hb1,_,rfl,aQ (qw .known H1 s1 (.mKnown (cR hz ez)))⟩
   ·refine⟨_,rfl,_,rfl,d,_,rfl,L.book.not (λz hz e=>hh ⟨z,hz,e⟩),_,rfl,aE ?_⟩;refine⟨_,rfl,c,_,_,_,rfl,rfl,sd,rfl,rfl,_,rfl,aE (aE ?_)⟩;refine h4 _ H1 _ a c d _ n as zs rfl L.tre L.deed bk hok.1 (λ⟨k,e⟩=>by cases e) λ_=>?_;exact h5 _ H1 a c d _ n as zs L hd (.inr ⟨p,nm,.inl ⟨st,rfl,cz hh⟩⟩) hok.1 qw λx4 bs H'=>last x4 n bs H'
  |write n st =>
   refine⟨_,rfl,c,_,_,_,rfl,rfl,sd,rfl,_,rfl,c,_,_,_,rfl,rfl,sd,rfl,rfl,_,rfl,aE (aE ?_)⟩;refine⟨_,rfl,c,_,_,_,rfl,rfl,sd,rfl,rfl,_,rfl,aQ ?_⟩
   by_cases hh:∃z∈zs,z.2.num=n
   ·obtain⟨z,hz,ez⟩:=hh;obtain⟨b,hb1,_⟩:=L.book.get hnd hz;rw[ez]at hb1;refine⟨_,rfl,_,rfl,d,_,rfl,hb1,_,rfl,aE ?_⟩;refine h4 _ H1 _ a c d _ n as zs rfl L.tre L.deed bk hok.1 (λ⟨k,e⟩=>by cases e) λ_=>?_;exact h5 _ H1 a c d _ n as zs L hd (.inl ⟨st,rfl,cR hz ez⟩) hok.1 qw λx4 bs H'=>last x4 n bs H'
   ·exact⟨_,rfl,_,rfl,d,_,rfl,L.book.not (λz hz e=>hh ⟨z,hz,e⟩),_,rfl,aQ (qw .noNode H1 s1 (.wNo (cz hh)))⟩
  |move n p nm =>
   refine⟨_,rfl,c,_,_,_,rfl,rfl,sd,rfl,_,rfl,c,_,_,_,rfl,rfl,sd,rfl,rfl,_,rfl,aE (aE ?_)⟩;refine⟨_,rfl,c,_,_,_,rfl,rfl,sd,rfl,rfl,_,rfl,aQ ?_⟩
   by_cases hh:∃z∈zs,z.2.num=n
   ·obtain⟨z,hz,ez⟩:=hh;obtain⟨b,hb1,_⟩:=L.book.get hnd hz;rw[ez]at hb1;refine⟨_,rfl,_,rfl,d,_,rfl,hb1,_,rfl,aE ?_⟩;refine h4 _ H1 _ a c d _ n as zs rfl L.tre L.deed bk hok.1 (λ⟨k,e⟩=>by cases e) λ_=>?_;exact h5 _ H1 a c d _ n as zs L hd (.inr ⟨p,nm,.inr ⟨rfl,cR hz ez⟩⟩) hok.1 qw λx4 bs H'=>last x4 n bs H'
   ·exact⟨_,rfl,_,rfl,d,_,rfl,L.book.not (λz hz e=>hh ⟨z,hz,e⟩),_,rfl,aQ (qw .noNode H1 s1 (.vNo (cz hh)))⟩
  |drop n =>
   refine⟨_,rfl,c,_,_,_,rfl,rfl,sd,rfl,_,rfl,c,_,_,_,rfl,rfl,sd,rfl,rfl,_,rfl,aE (aE ?_)⟩;refine⟨_,rfl,c,_,_,_,rfl,rfl,sd,rfl,rfl,_,rfl,aQ ?_⟩
   by_cases hh:∃z∈zs,z.2.num=n
   ·obtain⟨z,hz,ez⟩:=hh;obtain⟨b,hb1,_⟩:=L.book.get hnd hz;rw[ez]at hb1;refine⟨_,rfl,_,rfl,d,_,rfl,hb1,_,rfl,aE ?_⟩;refine h4 _ H1 _ a c d _ n as zs rfl L.tre L.deed bk hok.1 (λ_ us t' H' g s2 ht' hA' e hg=>qo us t' H' (s1.trans s2) ht' hA' ?_) λh=>absurd ⟨n,rfl⟩ h;rw[e];exact .dropped (cR hz ez) hg
   ·exact⟨_,rfl,_,rfl,d,_,rfl,L.book.not (λz hz e=>hh ⟨z,hz,e⟩),_,rfl,aQ (qw .noNode H1 s1 (.dNo (cz hh)))⟩
end
def nxN:List Str:=["_law_tree_here","_law_goal","_law_left","_law_spared","_law_number","_law_book_here","_law_deed_here","_law_first"]
theorem pj:FnScope nxN ["_law_tree_here","_law_goal","_law_left","_law_spared"] (ah aZ):=fsc
abbrev NxX(P:Program)(w:World)(K:PySem.W.Frag)(mg:Str→Option Value)(base:Heap)(f:Addr)(cdv:Value)(A:Around)(outer:List Env)(s:Shared)(H:Hp)(E:XK):Cx:=(fJ CX0 P w K mg base nxN "_law_next" (ah aZ) f cdv A outer s H E).nox
def nxS(i:Nat):Stmt:=(bp aZ).getD i (.Pass ⟨0,0,0,0⟩)
def nxB(i:Nat):Stmt:=match nxS 3 with
 |.For _ _ b _ _=>b.getD i (.Pass ⟨0,0,0,0⟩)
 |_=>.Pass ⟨0,0,0,0⟩
theorem xZ{t:List Nd}{n:Nd}(h:TW.aM t n.num):cV t n=.move n.num n.par n.nm:=by unfold cV;rw[if_pos h]
theorem ya{t:List Nd}{n:Nd}(h:¬TW.aM t n.num):cV t n=.make n.num n.par n.nm n.st:=by unfold cV;rw[if_neg h]
theorem vE{t:List Nd}{n:Nd}(h:cB n):cp (cV t n):=by
 unfold cV
 split
 ·exact h
 ·exact h
section
variable{P:Program}{w:World}{K:PySem.W.Frag}{mg:Str→Option Value}{base:Heap}{f:Addr}{cdv:Value}{A:Around}{outer:List Env}{s:Shared}{H0:Hp}{E:XK}
theorem zE(hr:Room 3 (A.deeper (PyProof.Rows.envOfC "_law_next" (ah aZ) s.heap.objs.size f cdv))):
  ∃rd,PS (NxX P w K mg base f cdv A outer s H0 E) (nxB 0) rd∧∀(D:Ends)(H:Hp)(t e a b:Addr)(x5 x6 x7:Option V)(bs:List (Addr×(Addr×Nd)))(us:ZN)(y:Addr×Nd),Book H e bs us→TW.Tree1 (nds us)→y∈us →
   (∀c H',Same H H'→H' c=some (.tup (aR (.make y.2.num y.2.par y.2.nm y.2.st)))→D.nx [some (.ref t),some (.ref e),some (.ref a),some (.ref b),some (.int y.2.num),x5,some (.ref c),x7] H')→rd D [some (.ref t),some (.ref e),some (.ref a),some (.ref b),some (.int y.2.num),x5,x6,x7] H:=by
 refine⟨_,ap (i:=6) pj.nd rfl (Or.inl rfl) (aK (r:=kh K) dm (bn (aa aC (aa (pv 4) af))) (aV (aN hr) (pv 1) (pv 4) (λ_ _=>rfl))),?_⟩;intro D H t e a b x5 x6 x7 bs us y C U hy q;refine⟨_,rfl,le2,λc hc=>?_⟩;have s1:=ag (o:=.tup [.str "make",.int y.2.num]) hc;have k1:upd H c (.tup [.str "make",.int y.2.num]) c=some (.tup [.str "make",.int y.2.num]):=ac;generalize upd H c (.tup [.str "make",.int y.2.num])=H1 at s1 k1⊢;obtain⟨r,g1,r1⟩:=(C.same s1).get (aH U) hy;refine⟨_,rfl,_,rfl,e,_,rfl,g1,c,r,_,_,rfl,rfl,SqT.of k1,SqT.of r1,by simp,(show 5≤sizeLine from au (by decide)),λh=>absurd h (cons_ne_nil _ _),λ_ p hp=>q p _ (s1.trans (ag hp)) ?_⟩;rw[ac];rfl
theorem zF(hr:Room 3 (A.deeper (PyProof.Rows.envOfC "_law_next" (ah aZ) s.heap.objs.size f cdv))):
  ∃rd,PS (NxX P w K mg base f cdv A outer s H0 E) (nxB 1) rd∧∀(D:Ends)(H:Hp)(t e a b d c:Addr)(x7:Option V)(as bs:List (Addr×(Addr×Nd)))(zs us:ZN)(y:Addr×Nd),Book H d as zs→TW.Tree1 (nds zs)→Book H e bs us→TW.Tree1 (nds us)→y∈us→H c=some (.tup (aR (.make y.2.num y.2.par y.2.nm y.2.st))) →
   (∀c H',Same H H'→H' c=some (.tup (aR (cV (nds zs) y.2)))→D.nx [some (.ref t),some (.ref e),some (.ref a),some (.ref b),some (.int y.2.num),some (.ref d),some (.ref c),x7] H')→rd D [some (.ref t),some (.ref e),some (.ref a),some (.ref b),some (.int y.2.num),some (.ref d),some (.ref c),x7] H:=by
 refine⟨_,aW (cc (dF (aN hr) (pv 4) (pv 5))) (aj (ap (i:=6) pj.nd rfl (Or.inl rfl) (aK (r:=kh K) dm (bn (aa aC (aa (pv 4) af))) (bX (r:=jR K) cT (aV (aN hr) (pv 1) (pv 4) (λ_ _=>rfl)) cW (bv ai))))) aB,?_⟩;intro D H t e a b d c x7 as bs zs us y B T C U hy hc q
 by_cases ho:TW.aM (nds zs) y.2.num
 ·rw[xZ ho]at q;obtain⟨o1,mo,eo⟩:=ho;obtain⟨z,hz,rfl⟩:=bf mo;obtain⟨r0,g0,_⟩:=B.get (aH T) hz;rw[eo]at g0;refine⟨_,rfl,_,rfl,d,_,rfl,g0,_,rfl,aQ ?_⟩;refine⟨_,rfl,le2,λc1 hc1=>?_⟩;have s1:=ag (o:=.tup [.str "move",.int y.2.num]) hc1;have k1:upd H c1 (.tup [.str "move",.int y.2.num]) c1=some (.tup [.str "move",.int y.2.num]):=ac;generalize upd H c1 (.tup [.str "move",.int y.2.num])=H1 at s1 k1⊢;obtain⟨r,g1,r1⟩:=(C.same s1).get (aH U) hy;have ea:dz (bH y.2) none (some 2)=[.int y.2.par,.str y.2.nm]:=rfl;refine⟨_,rfl,_,rfl,e,_,rfl,g1,_,rfl,r,_,rfl,SqT.of r1,(λh=>absurd h.2 (show ¬HT.sIx 3 3 (some 2)=3 by decide)),λc2 hc2=>?_⟩;rw[ea];have s2:=s1.trans (ag (o:=.tup [.int y.2.par,.str y.2.nm]) hc2);have k2:upd H1 c2 (.tup [.int y.2.par,.str y.2.nm]) c2=some (.tup [.int y.2.par,.str y.2.nm]):=ac;have k1':=bj (o:=.tup [.int y.2.par,.str y.2.nm]) hc2 k1;generalize upd H1 c2 (.tup [.int y.2.par,.str y.2.nm])=H2 at s2 k2 k1'⊢;refine⟨c1,c2,_,_,rfl,rfl,SqT.of k1',SqT.of k2,by simp,(show 4≤sizeLine from au (by decide)),λh=>absurd h (cons_ne_nil _ _),λ_ p hp=>q p _ (s2.trans (ag hp)) ?_⟩;rw[ac];rfl
 ·rw[ya ho]at q;exact⟨_,rfl,_,rfl,d,_,rfl,B.not λx hx ex=>ho ⟨x.2,aA hx,ex⟩,_,rfl,aE (q c H (Same.refl _) hc)⟩
theorem zG(hr:Room 3 (A.deeper (PyProof.Rows.envOfC "_law_next" (ah aZ) s.heap.objs.size f cdv)))(T:Txt mg)(CL:Has P w K mg base 2 "_law_done" ["_law_tree_here","_law_deed_here"] dE):
  ∃rd,PS (NxX P w K mg base f cdv A outer s H0 E) (nxB 2) rd∧∀(D:Ends)(H:Hp)(t e a b c:Addr)(x4 x5 x7:Option V)(zs:ZN)(dd:TW.Deed Str),Tre H t zs→zs.length≤29→cp dd→H c=some (.tup (aR dd)) →
   (Okd (nds zs) dd→∀H',Same H H'→D.rt (.ref c) H')→(¬Okd (nds zs) dd→∀H',Same H H'→D.nx [some (.ref t),some (.ref e),some (.ref a),some (.ref b),x4,x5,some (.ref c),x7] H')→rd D [some (.ref t),some (.ref e),some (.ref a),some (.ref b),x4,x5,some (.ref c),x7] H:=by
 obtain⟨fL,fdL,GL,mL,kL,bL⟩:=CL;have hr2:Room 2 _:=hr.mono (by decide);refine⟨_,aW (jl (gQ (aO iT rfl T.isin boot_isinstance (aa (ak GL hr2 rfl mL kL bL .nil aI (aa (pv 0) (aa (pv 6) af))) (aa (lu (v:=.ty "str") rfl T.str boot_str rfl) af))) (λ_=>rfl))) (aj (ax (pv 6))) aB,?_⟩;intro D H t e a b c x4 x5 x7 zs dd tr hl ok hc q1 q2;refine⟨_,rfl,_,rfl,t,c,dd,zs,rfl,tr,hl,hc,ok,λws t2 H4 s4 ht2 hA2 told=>?_,λwd H4 s4 told=>?_⟩
 ·exact⟨_,_,_,_,rfl,.tup ht2,(by kernel_rfl:_=some false),_,rfl,aQ ⟨_,rfl,q1 ⟨_,told⟩ H4 s4⟩⟩
 ·exact⟨_,_,_,_,rfl,.str _,(by kernel_rfl:_=some true),_,rfl,aE (q2 (λ⟨v,hv⟩=>by cases told.one tr.tr hv) H4 s4)⟩
theorem nx0(hr:Room 3 (A.deeper (PyProof.Rows.envOfC "_law_next" (ah aZ) s.heap.objs.size f cdv)))(CD:Has P w K mg base 2 "_law_drop" ["_law_tree_here","_law_goal"] qq):
  ∃rd,PS (NxX P w K mg base f cdv A outer s H0 E) (nxS 0) rd∧∀(D:Ends)(H:Hp)(t e a b:Addr)(x4 x5 x6 x7:Option V)(bs:List (Addr×(Addr×Nd)))(zs us:ZN),Tre H t zs→zs.length≤29→Book H e bs us→TW.Tree1 (nds us) →
   (∀x H',iO (nds zs) (TW.cA (nds zs) (nds us)) x→Same H H'→D.nx [some (.ref t),some (.ref e),some (.ref a),some (.ref b),some (.int x.num),x5,x6,x7] H')→((∀x∈nds zs,¬TW.cA (nds zs) (nds us) x)→∀H',Same H H'→D.nx [some (.ref t),some (.ref e),some (.ref a),some (.ref b),some .non,x5,x6,x7] H')→rd D [some (.ref t),some (.ref e),some (.ref a),some (.ref b),x4,x5,x6,x7] H:=by
 obtain⟨fD,fdD,GD,mD,kD,bD⟩:=CD;have hr2:Room 2 _:=hr.mono (by decide);refine⟨_,ap (i:=4) pj.nd rfl (Or.inl rfl) (ak GD hr2 rfl mD kD bD .nil aI (aa (pv 0) (aa (pv 1) af))),?_⟩;intro D H t e a b x4 x5 x6 x7 bs zs us tr hl C U q1 q2;exact⟨_,rfl,_,rfl,t,e,zs,us,bs,rfl,tr,hl,C,U,λx hx H1 s1=>q1 x H1 hx s1,λhno H1 s1=>q2 hno H1 s1⟩
theorem nx1(hr:Room 3 (A.deeper (PyProof.Rows.envOfC "_law_next" (ah aZ) s.heap.objs.size f cdv))):
  ∃rd,PS (NxX P w K mg base f cdv A outer s H0 E) (nxS 1) rd∧∀(D:Ends)(H:Hp)(t e a b:Addr)(v:V)(x5 x6 x7:Option V),((∃n:Int,v=.int n∧∀c H',Same H H'→H' c=some (.tup (aR (.drop n)))→D.rt (.ref c) H')∨(v=.non∧D.nx [some (.ref t),some (.ref e),some (.ref a),some (.ref b),some .non,x5,x6,x7] H))→rd D [some (.ref t),some (.ref e),some (.ref a),some (.ref b),some v,x5,x6,x7] H:=by
 refine⟨_,aW (am gB (pv 4) bJ (aw _)) (aj (ax (bn (aa aC (aa (pv 4) af))))) aB,?_⟩;intro D H t e a b v x5 x6 x7 h;rcases h with⟨n,rfl,q⟩|⟨rfl,q⟩
 ·exact⟨_,rfl,rfl,_,rfl,aQ ⟨_,rfl,le2,λc hc=>q c _ (ag hc) ac⟩⟩
 ·exact⟨_,rfl,rfl,_,rfl,aE q⟩
theorem nx2(hr:Room 3 (A.deeper (PyProof.Rows.envOfC "_law_next" (ah aZ) s.heap.objs.size f cdv)))(CB:Has P w K mg base 1 "_law_book" ["_law_tree_here"] dI):
  ∃rd,PS (NxX P w K mg base f cdv A outer s H0 E) (nxS 2) rd∧∀(D:Ends)(H:Hp)(t e a b:Addr)(x4 x5 x6 x7:Option V)(zs:ZN),Tre H t zs→(∀d as H',Same H H'→Book H' d as zs→D.nx [some (.ref t),some (.ref e),some (.ref a),some (.ref b),x4,some (.ref d),x6,x7] H')→rd D [some (.ref t),some (.ref e),some (.ref a),some (.ref b),x4,x5,x6,x7] H:=by
 obtain⟨fK,fdK,GK,mK,kK,bK⟩:=CB;have hr1:Room 1 _:=hr.mono (by decide);refine⟨_,ap (i:=5) pj.nd rfl (Or.inr rfl) (ak GK hr1 rfl mK kK bK .nil aI (aa (pv 0) af)),?_⟩;intro D H t e a b x4 x5 x6 x7 zs tr q;exact⟨_,rfl,t,zs,rfl,tr,λd as H1 s1 _ b1 _=>q d as H1 s1 b1⟩
end
def eE(zs us:ZN):ZN:=us.filter λz=>cJ (nds zs) z.2
theorem eB(zs us:ZN):nds (eE zs us)=(nds us).filter (cJ (nds zs)):=by
 unfold nds eE;rw[filter_map];rfl
section
variable{P:Program}{w:World}{K:PySem.W.Frag}{mg:Str→Option Value}{base:Heap}{f:Addr}{cdv:Value}{A:Around}{outer:List Env}{s:Shared}{H0:Hp}{E:XK}
theorem nx3(hr:Room 3 (A.deeper (PyProof.Rows.envOfC "_law_next" (ah aZ) s.heap.objs.size f cdv)))(T:Txt mg)(CL:Has P w K mg base 2 "_law_done" ["_law_tree_here","_law_deed_here"] dE):
  ∃rd,PS (NxX P w K mg base f cdv A outer s H0 E) (nxS 3) rd∧∀(D:Ends)(H:Hp)(t e a b d:Addr)(x4 x6 x7:Option V)(as bs:List (Addr×(Addr×Nd)))(zs us:ZN),Tre H t zs→zs.length≤29→Book H d as zs→Book H e bs us→TW.Tree1 (nds us)→(∀n∈nds us,cB n)→H a=some (.lst ((eE zs us).map λz=>V.int z.2.num)) →
   (∀(l1 l2:List Nd)(n:Nd),(nds us).filter (cJ (nds zs))=l1++n::l2→(∀m∈l1,¬Okd (nds zs) (cV (nds zs) m))→Okd (nds zs) (cV (nds zs) n)→∀c H',Same H H'→H' c=some (.tup (aR (cV (nds zs) n)))→D.rt (.ref c) H')→((∀m∈(nds us).filter (cJ (nds zs)),¬Okd (nds zs) (cV (nds zs) m))→∀x4 x6 H',Same H H'→D.nx [some (.ref t),some (.ref e),some (.ref a),some (.ref b),x4,some (.ref d),x6,x7] H')→rd D [some (.ref t),some (.ref e),some (.ref a),some (.ref b),x4,some (.ref d),x6,x7] H:=by
 obtain⟨r0,p0,h0⟩:=zE (P:=P) (w:=w) (K:=K) (mg:=mg) (base:=base) (outer:=outer) (H0:=H0) (E:=E) hr;obtain⟨r1,p1,h1⟩:=zF (P:=P) (w:=w) (K:=K) (mg:=mg) (base:=base) (outer:=outer) (H0:=H0) (E:=E) hr;obtain⟨r2,p2,h2⟩:=zG (outer:=outer) (H0:=H0) (E:=E) hr T CL;refine⟨_,dh PassesOwn.never rfl (ce (pv 2)) (aG (i:=4) pj.nd rfl (Or.inl rfl)) (ae p0 (ae p1 (aj p2))),?_⟩;intro D H t e a b d x4 x6 x7 as bs zs us tr hl B C U nok ha q1 q2;refine⟨_,rfl,a,rfl,⟨_,SqL.of ha⟩,eS (xs:=(eE zs us).map λz=>V.int z.2.num) (λi σ H'=>∃x4 x6,σ=[some (.ref t),some (.ref e),some (.ref a),some (.ref b),x4,some (.ref d),x6,x7]∧Same H H'∧∀m∈(nds (eE zs us)).take i,¬Okd (nds zs) (cV (nds zs) m)) ⟨_,_,rfl,Same.refl _,by simp⟩ (λi σ H' _ ⟨_,_,_,e,_⟩=>SqL.of (e _ _ ha)) (λi x σ H' hx h=>?_) (λσ H' h=>?_)⟩
 ·obtain⟨x4,x6,rfl,s4,hi⟩:=h;rw[getElem?_map]at hx;cases gx:(eE zs us)[i]? with
  |none=>rw[gx]at hx;cases hx
  |some y =>
   rw[gx]at hx;cases hx;have my:y∈us:=(mem_filter.mp (mem_of_getElem? gx)).1;have gy:(nds (eE zs us))[i]?=some y.2:=by unfold nds;rw[getElem?_map,gx];rfl
   refine h0 _ H' t e a b _ _ _ bs us y (C.same s4) U my λc H5 s5 hc5=>?_;have s45:=s4.trans s5;refine h1 _ H5 t e a b d c _ as bs zs us y (B.same s45) tr.tr (C.same s45) U my hc5 λc2 H6 s6 hc6=>?_;have s46:=s45.trans s6;refine h2 _ H6 t e a b c2 _ _ _ zs _ (tr.same s46) hl (vE (nok _ (aA my))) hc6 (λok H7 s7=>?_) (λnk H7 s7=>?_)
   ·refine q1 ((nds (eE zs us)).take i) ((nds (eE zs us)).drop (i+1)) y.2 ?_ hi ok c2 H7 (s46.trans s7) (s7 _ _ hc6);rw[←eB];have:=take_append_drop i (nds (eE zs us));rw[List.drop_eq_getElem?_toList_append,gy]at this;exact this.symm
   ·refine⟨_,_,rfl,s46.trans s7,λx hx=>?_⟩;rw[bG gy]at hx;rcases mem_append.mp hx with hx|hx
    ·exact hi x hx
    ·rw[mem_singleton.mp hx];exact nk
 ·obtain⟨x4,x6,rfl,s4,hi⟩:=h;have el:((eE zs us).map λz=>V.int z.2.num).length=(nds (eE zs us)).length:=by unfold nds;rw[length_map,length_map]
  rw[el,take_length,eB]at hi;exact q2 hi _ _ H' s4
theorem nx4(hr:Room 3 (A.deeper (PyProof.Rows.envOfC "_law_next" (ah aZ) s.heap.objs.size f cdv))):
  ∃rd,PS (NxX P w K mg base f cdv A outer s H0 E) (nxS 4) rd∧∀(D:Ends)(H:Hp)(t e a b:Addr)(x4 x5 x6 x7:Option V)(vs:List V),H a=some (.lst vs) →
   (vs=[]→∀H',Same H H'→D.rt .non H')→(vs≠[]→∀H',Same H H'→D.nx [some (.ref t),some (.ref e),some (.ref a),some (.ref b),x4,x5,x6,x7] H')→rd D [some (.ref t),some (.ref e),some (.ref a),some (.ref b),x4,x5,x6,x7] H:=by
 refine⟨_,aW (am (fe hr.units0) (pv 2) (bx af) (aw _)) (aj (ax bJ)) aB,?_⟩;intro D H t e a b x4 x5 x6 x7 vs ha q1 q2;refine⟨_,rfl,au (by decide),λc hc=>?_⟩;have s2:=ag (o:=.lst []) hc;refine⟨a,c,_,rfl,rfl,SqL.of (s2 _ _ ha),SqL.of ac,_,rfl,?_⟩
 by_cases h:vs=[]
 ·rw[decide_eq_true h];exact aQ (q1 h _ s2)
 ·rw[decide_eq_false h];exact aE (q2 h _ s2)
open Classical in
theorem nx5(hr:Room 3 (A.deeper (PyProof.Rows.envOfC "_law_next" (ah aZ) s.heap.objs.size f cdv))):
  ∃rd,PS (NxX P w K mg base f cdv A outer s H0 E) (nxS 5) rd∧∀(D:Ends)(H:Hp)(t e a b d:Addr)(x4 x6 x7:Option V)(as:List (Addr×(Addr×Nd)))(zs fs:ZN)(S:List Int),Book H d as zs→TW.Tree1 (nds zs)→fs.length≤60→H a=some (.lst (fs.map λz=>V.int z.2.num))→H b=some (.lst (S.map V.int))→(∃n∈nds fs,TW.aM (nds zs) n.num∧n.num∉S) →
   (∀(l1 l2:List Nd)(n:Nd),nds fs=l1++n::l2→(∀m∈l1,¬(TW.aM (nds zs) m.num∧m.num∉S))→TW.aM (nds zs) n.num→n.num∉S→∀H',Same H H'→D.nx [some (.ref t),some (.ref e),some (.ref a),some (.ref b),x4,some (.ref d),x6,some (.int n.num)] H')→rd D [some (.ref t),some (.ref e),some (.ref a),some (.ref b),x4,some (.ref d),x6,x7] H:=by
 refine⟨_,ap (i:=7) pj.nd rfl (Or.inl rfl) (av (r:=wG K) cG (cY (N:=["_law_number","_law_book_here","_law_spared"]) (cl:=[("_law_spared",s.heap.objs.size+1),("_law_book_here",s.heap.objs.size+2)]) (k:=1) (js:=[5,3]) (g:=bg 0) rfl (LcOk.mk' ["_law_spared","_law_book_here"] rfl rfl (by decide +kernel) (by decide +kernel) ?hcl rfl (by decide +kernel)) rfl ?hj (ce (pv 2)) (λs H fp=>aG (i:=0) (show(["_law_number","_law_book_here","_law_spared"]:List Str).Nodup by decide +kernel) rfl (Or.inl rfl) (Or.inr rfl)) (λs H fp=>PW.pt (pw_and (cc (dF (aN hr) (pv 0) (pv 1))) (pw_and1 (am (r:=rIn K true) ib (pv 0) (pv 2) rfl)))) (λs H fp=>pv 0)) ai (λ_ _=>rfl)),?_⟩
 case hcl =>
  intro y hy;rcases mem_cons.mp hy with e|hy
  ·rw[e];rfl
  rcases mem_cons.mp hy with e|hy
  ·rw[e];rfl
  ·cases hy
 case hj =>
  intro i j x h1 h2
  match i,h1,h2 with
  |0,h1,h2 =>
   cases h1;cases h2;exact⟨rfl,Or.inr (Or.inl rfl),(show((ah aZ).names.lookup ("_law_book_here":Str)≠some NameKind.local)by decide +kernel),by first|exact Or.inl rfl|exact Or.inr rfl⟩
  |1,h1,h2 =>
   cases h1;cases h2;exact⟨rfl,Or.inr (Or.inl rfl),(show((ah aZ).names.lookup ("_law_spared":Str)≠some NameKind.local)by decide +kernel),by first|exact Or.inl rfl|exact Or.inr rfl⟩
  |i+2,h1,h2=>simp at h1
 intro D H t e a b d x4 x6 x7 as zs fs S B T hfl ha hb hex q;refine⟨_,rfl,a,rfl,⟨_,SqL.of ha⟩,λp hp=>?_⟩;refine cy (fr:=[some (.ref d),some (.ref b)]) fs (λz=>V.int z.2.num) (by omega) hp (dq (SqL.of ha)) rfl (λz=>decide (TW.aM (nds zs) z.2.num∧z.2.num∉S)) (λz y _=>y=V.int z.2.num) (λz y H H' h _=>h) (λz H' k mz s1 _ hk=>?_) (λz H' k mz _ s1 _ hk=>⟨_,rfl,hk _ H' (Same.refl _) rfl⟩) (λys H1 s1 hp1 hys=>?_)
 ·by_cases ho:TW.aM (nds zs) z.2.num
  ·obtain⟨o1,mo,eo⟩:=id ho;obtain⟨y,hy,rfl⟩:=bf mo;obtain⟨r0,g0,_⟩:=(B.same s1).get (aH T) hy;rw[eo]at g0;refine⟨_,rfl,_,rfl,d,_,rfl,g0,_,rfl,aQ ⟨_,rfl,_,rfl,b,_,rfl,.inl (SqL.of (s1 _ _ hb)),rfl,iK _,_,rfl,?_⟩⟩;rw[show(if true=true then !inV (.int z.2.num) (S.map V.int)else inV (.int z.2.num) (S.map V.int))=decide (TW.aM (nds zs) z.2.num∧z.2.num∉S)by
    rw[if_pos rfl,lK]
    by_cases hs:z.2.num∈S
    ·rw[decide_eq_true hs,decide_eq_false λh=>h.2 hs];rfl
    ·rw[decide_eq_false hs,decide_eq_true ⟨ho,hs⟩];rfl]
   exact hk H' (Same.refl _)
  ·refine⟨_,rfl,_,rfl,d,_,rfl,(B.same s1).not λx hx ex=>ho ⟨x.2,aA hx,ex⟩,_,rfl,aE ?_⟩;rw[decide_eq_false λh=>ho h.1]at hk;exact hk H' (Same.refl _)
 ·rw[aY hys (f:=λz=>V.int z.2.num) λz y _ h=>h]at hp1;cases e1:fs.filter λz=>decide (TW.aM (nds zs) z.2.num∧z.2.num∉S)with
  |nil =>
   exfalso
   obtain⟨n,hn,h1,h2⟩:=hex;obtain⟨z,hz,rfl⟩:=bf hn;exact filter_eq_nil_iff.mp e1 z hz (decide_eq_true ⟨h1,h2⟩)
  |cons y r =>
   rw[e1]at hp1;obtain⟨l1,l2,e2,h1,h2,_⟩:=List.filter_eq_cons_iff.mp e1;have h3:=of_decide_eq_true h2;refine⟨p,_,_,_,rfl,rfl,SqL.of hp1,cX (j:=0) rfl,q (nds l1) (nds l2) y.2 ?_ (λm hm=>?_) h3.1 h3.2 H1 s1⟩
   ·rw[e2];unfold nds;rw[map_append,map_cons]
   ·obtain⟨z,hz,rfl⟩:=bf hm;exact λh=>h1 z hz (decide_eq_true h)
theorem nx6(hr:Room 3 (A.deeper (PyProof.Rows.envOfC "_law_next" (ah aZ) s.heap.objs.size f cdv)))(CS:Has P w K mg base 2 "_law_spare" ["_law_tree_here","_law_goal"] qr):
  ∃rd,PS (NxX P w K mg base f cdv A outer s H0 E) (nxS 6) rd∧∀(D:Ends)(H:Hp)(t e a b:Addr)(o:Obj)(n:Int)(x4 x5 x6:Option V)(bs:List (Addr×(Addr×Nd)))(zs us:ZN),Tre H t zs→Book H e bs us→H e=some (.frz o (.dK (aD bs)))→TW.Tree1 (nds us)→zs.length+us.length≤25 →
   (∀c p H',Same H H'→FreeN (nds zs) (nds us) c→H' p=some (.tup (aR (.move n 0 (aP c))))→D.rt (.ref p) H')→rd D [some (.ref t),some (.ref e),some (.ref a),some (.ref b),x4,x5,x6,some (.int n)] H:=by
 obtain⟨fS,fdS,GS,mS,kS,bS⟩:=CS;have hr2:Room 2 _:=hr.mono (by decide);refine⟨_,ax (bn (aa aC (aa (pv 7) (aa ai (aa (ak GS hr2 rfl mS kS bS .nil aI (aa (pv 0) (aa (pv 1) af))) af))))),?_⟩;intro D H t e a b o n x4 x5 x6 bs zs us tr C ho U hl q;refine⟨_,rfl,_,rfl,_,rfl,t,e,zs,us,bs,o,rfl,tr.tup,tr.nod,C,ho,U,hl,λc H1 s1 hc=>?_⟩;exact⟨au (show 4≤1000 by decide),λp hp=>q c p _ (s1.trans (ag hp)) hc ac⟩
end
section
variable{P:Program}{w:World}{K:PySem.W.Frag}{mg:Str→Option Value}{base:Heap}
def lm:Sp:=λvs H Q _=>∃t e a b zs us bs o S t0 ds,vs=[.ref t,.ref e,.ref a,.ref b]∧Tre H t zs∧zs.length+us.length≤25∧Book H e bs us∧H e=some (.frz o (.dK (aD bs)))∧TW.Tree1 (nds us)∧(∀n∈nds us,cB n)∧H a=some (.lst ((eE zs us).map λz=>V.int z.2.num))∧H b=some (.lst (S.map V.int)) ∧
 Iv t0 (nds us) (nds zs) ds∧Lf (nds zs) (nds us) ds (((nds us).filter (cJ (nds zs))).map (·.num)) S ∧
 (∀dd c H',Same H H'→Nxt (nds zs) (nds us) ds (some dd)→H' c=some (.tup (aR dd))→Q (.ref c) H')∧∀H',Same H H'→Nxt (nds zs) (nds us) ds none→Q .non H'
theorem yR:bp aZ=[nxS 0,nxS 1,nxS 2,nxS 3,nxS 4,nxS 5,nxS 6]:=rfl
theorem yb{f:Addr}{fd:FuncData}(F:Fun K "_law_next" "_law_next" aZ f fd)(T:Txt mg)(CD:Has P w K mg base 2 "_law_drop" ["_law_tree_here","_law_goal"] qq)(CB:Has P w K mg base 1 "_law_book" ["_law_tree_here"] dI)(CL:Has P w K mg base 2 "_law_done" ["_law_tree_here","_law_deed_here"] dE)(CS:Has P w K mg base 2 "_law_spare" ["_law_tree_here","_law_goal"] qr):FnOk P w K mg base CX0 4 f fd ["_law_tree_here","_law_goal","_law_left","_law_spared"] lm:=by
 refine F.ok pj (λvs H Q E h=>?_) (λcdv A outer s H vs Q E hr h=>?_)
 ·obtain⟨t,e,a,b,zs,us,bs,o,S,t0,ds,rfl,_⟩:=h;rfl
 ·obtain⟨t,e,a,b,zs,us,bs,o,S,t0,ds,rfl,tr,hl,C,ho,U,nok,ha,hb,I,LF,q1,q2⟩:=h;obtain⟨r0,p0,h0⟩:=nx0 (outer:=outer) (H0:=H) (E:=E) hr CD;obtain⟨r1,p1,h1⟩:=nx1 (P:=P) (w:=w) (K:=K) (mg:=mg) (base:=base) (outer:=outer) (H0:=H) (E:=E) hr;obtain⟨r2,p2,h2⟩:=nx2 (outer:=outer) (H0:=H) (E:=E) hr CB;obtain⟨r3,p3,h3⟩:=nx3 (outer:=outer) (H0:=H) (E:=E) hr T CL;obtain⟨r4,p4,h4⟩:=nx4 (P:=P) (w:=w) (K:=K) (mg:=mg) (base:=base) (outer:=outer) (H0:=H) (E:=E) hr;obtain⟨r5,p5,h5⟩:=nx5 (P:=P) (w:=w) (K:=K) (mg:=mg) (base:=base) (outer:=outer) (H0:=H) (E:=E) hr;obtain⟨r6,p6,h6⟩:=nx6 (outer:=outer) (H0:=H) (E:=E) hr CS;rw[yR];generalize nxS=st at p0 p1 p2 p3 p4 p5 p6⊢;refine⟨_,ae p0 (ae p1 (ae p2 (ae p3 (ae p4 (ae p5 (aj p6)))))),?_⟩;refine h0 _ H t e a b _ _ _ _ bs zs us tr (by omega) C U (λx H1 hx s1=>?_) (λhno H1 s1=>?_)
  ·exact h1 _ H1 t e a b _ _ _ _ (.inl ⟨x.num,rfl,λc H2 s2 hc=>q1 _ c H2 (s1.trans s2) (.drop hx) hc⟩)
  ·refine h1 _ H1 t e a b _ _ _ _ (.inr ⟨rfl,?_⟩);refine h2 _ H1 t e a b _ _ _ _ zs (tr.same s1) λd as H2 s2 B=>?_;have s12:=s1.trans s2;refine h3 _ H2 t e a b d _ _ _ as bs zs us (tr.same s12) (by omega) B (C.same s12) U nok (s12 _ _ ha) (λl1 l2 n e1 e2 e3 c H3 s3 hc=>?_) (λhall x4 x6 H3 s3=>?_)
   ·exact q1 _ c H3 (s12.trans s3) (pc hno e1 e2 e3) hc
   ·have s13:=s12.trans s3;refine h4 _ H3 t e a b _ _ _ _ _ (s13 _ _ ha) (λhv H4 s4=>?_) (λhv H4 s4=>?_)
    ·refine q2 H4 (s13.trans s4) (rq hno ?_);rw[←eB];unfold nds;rw[List.map_eq_nil_iff.mp hv];rfl
    ·have s14:=s13.trans s4;have hne:(nds us).filter (cJ (nds zs))≠[]:=λz=>hv (by
      rw[←eB]at z;unfold nds at z;rw[List.map_eq_nil_iff.mp z];rfl)
     have hex:=vt I.tr U I.sk I.as hno LF hall hne;have hfl:(eE zs us).length≤60:=by
      have:=length_filter_le (λz:Addr×Nd=>cJ (nds zs) z.2) us;unfold eE;omega
     refine h5 _ H4 t e a b d _ _ _ as zs (eE zs us) S ((B.same s3).same s4) tr.tr hfl (s14 _ _ ha) (s14 _ _ hb) (by rw[eB];exact hex) λl1 l2 n e1 e2 e3 e4 H5 s5=>?_;have s15:=s14.trans s5;refine h6 _ H5 t e a b o n.num _ _ _ bs zs us (tr.same s15) (C.same s15) (s15 _ _ ho) U hl λc p H6 s6 hc hp=>?_;exact q1 _ p H6 (s15.trans s6) (ph hno LF hall (by rw[←eB];exact e1) e2 e3 e4 hc) hp
end
def lsN:List Str:=["_law_old","_law_new","_law_first","_law_goal","_law_left","_law_spared","_law_deeds","_law_tree_here","_law_deed_here","_law_book_here","_law_late"]
theorem iR:FnScope lsN ["_law_old","_law_new"] (ah aL):=fsc
abbrev LsX(P:Program)(w:World)(K:PySem.W.Frag)(mg:Str→Option Value)(base:Heap)(f:Addr)(cdv:Value)(A:Around)(outer:List Env)(s:Shared)(H:Hp)(E:XK):Cx:=(fJ CX0 P w K mg base lsN "_law_steps" (ah aL) f cdv A outer s H E).nox
def lsS(i:Nat):Stmt:=(bp aL).getD i (.Pass ⟨0,0,0,0⟩)
def lsB(i:Nat):Stmt:=match lsS 7 with
 |.While _ b _ _=>b.getD i (.Pass ⟨0,0,0,0⟩)
 |_=>.Pass ⟨0,0,0,0⟩
theorem dv0(d:TW.Deed Str):atI (aR d) 0=some (.str (iz d)):=by cases d<;>rfl
theorem dv1(d:TW.Deed Str):atI (aR d) 1=some (.int (ca d)):=by cases d<;>rfl
theorem fl2(n:Nd):∀v∈[V.int n.par,.str n.nm],eA v=true:=λv hv=>by
 simp only[mem_cons,not_mem_nil,or_false]at hv;rcases hv with rfl|rfl<;>rfl
theorem ji{y z:Nd}:[V.int y.par,V.str y.nm]=[V.int z.par,V.str z.nm]↔y.par=z.par∧y.nm=z.nm:=⟨λh=>by
  injection h with h1 h2
  injection h1 with h1
  injection h2 with h2
  injection h2 with h2
  exact⟨h1,h2⟩,λh=>by rw[h.1,h.2]⟩
theorem jj{t:List Nd}(T:TW.Tree1 t){y z:Nd}(hy:y∈t)(e:y.num=z.num):bh t z↔y.par=z.par∧y.nm=z.nm:=⟨λ⟨m,hm,e1,e2,e3⟩=>by
  have:=T.inj hm hy (e1.trans e.symm);subst this;exact⟨e2,e3⟩,λh=>⟨y,hy,e,h.1,h.2⟩⟩
section
variable{P:Program}{w:World}{K:PySem.W.Frag}{mg:Str→Option Value}{base:Heap}{f:Addr}{cdv:Value}{A:Around}{outer:List Env}{s:Shared}{H0:Hp}{E:XK}
theorem ls2(hr:Room 4 (A.deeper (PyProof.Rows.envOfC "_law_steps" (ah aL) s.heap.objs.size f cdv)))(T:Txt mg):
  ∃rd,PS (LsX P w K mg base f cdv A outer s H0 E) (lsS 2) rd∧∀(D:Ends)(H:Hp)(x0 x1 x4 x5 x6 x7 x8 x9 x10:Option V)(d e:Addr)(as bs:List (Addr×(Addr×Nd)))(zs us:ZN),Book H d as zs→TW.Tree1 (nds zs)→Book H e bs us→TW.Tree1 (nds us)→us.length≤29 →
   (∀l H',Same H H'→H' l=some (.lst ((eE zs us).map λz=>V.int z.2.num))→D.nx [x0,x1,some (.ref d),some (.ref e),some (.ref l),x5,x6,x7,x8,x9,x10] H')→rd D [x0,x1,some (.ref d),some (.ref e),x4,x5,x6,x7,x8,x9,x10] H:=by
 refine⟨_,eV (ii:=4) (N:=["_law_number","_law_first","_law_goal"]) (cl:=[("_law_goal",s.heap.objs.size+2),("_law_first",s.heap.objs.size+1)]) (k:=1) (js:=[2,3]) (g:=bg 0) iR.nd rfl (Or.inl rfl) rfl (LcOk.mk' ["_law_goal","_law_first"] rfl rfl (by decide +kernel) (by decide +kernel) ?hcl rfl (by decide +kernel)) rfl ?hj (ce (aO cL rfl T.sorted boot_sorted (aa (bc (gY rfl) rfl T.list rfl (aa (pv 3) af)) af))) (λs H fp=>aG (i:=0) (show(["_law_number","_law_first","_law_goal"]:List Str).Nodup by decide +kernel) rfl (Or.inl rfl) (Or.inr rfl))
   (λs H fp=>PW.pt (pw_or (cc (cC (aN hr) (pv 0) (pv 1))) (pw_or1 (am (sP (aN hr)) (bX (r:=jR K) cT (aV (aN hr) (pv 1) (pv 0) (λ_ _=>rfl)) cW (bv ai)) (bX (r:=jR K) cT (aV (aN hr) (pv 2) (pv 0) (λ_ _=>rfl)) cW (bv ai)) (aw _))))) (λs H fp=>pv 0),?_⟩
 case hcl =>
  intro y hy;rcases mem_cons.mp hy with e|hy
  ·rw[e];rfl
  rcases mem_cons.mp hy with e|hy
  ·rw[e];rfl
  ·cases hy
 case hj =>
  intro i j x h1 h2
  match i,h1,h2 with
  |0,h1,h2 =>
   cases h1;cases h2;exact⟨rfl,Or.inr (Or.inl rfl),(show((ah aL).names.lookup ("_law_first":Str)≠some NameKind.local)by decide +kernel),by first|exact Or.inl rfl|exact Or.inr rfl⟩
  |1,h1,h2 =>
   cases h1;cases h2;exact⟨rfl,Or.inr (Or.inl rfl),(show((ah aL).names.lookup ("_law_goal":Str)≠some NameKind.local)by decide +kernel),by first|exact Or.inl rfl|exact Or.inr rfl⟩
  |i+2,h1,h2=>simp at h1
 intro D H x0 x1 x4 x5 x6 x7 x8 x9 x10 d e as bs zs us B TZ C U hl q;refine⟨_,rfl,e,_,rfl,C.dict,λl hl0=>⟨l,_,rfl,xS C,fq U,xT (by omega),λms hpm hup p hp0=>?_⟩⟩;obtain⟨s0,hp1⟩:=xU U hl0 hpm hup hp0;generalize upd (upd H l (.lst ((aD bs).map λp=>kV p.1))) p (.lst (ms.map V.int))=H1 at s0 hp1⊢;refine⟨p,rfl,⟨_,SqL.of hp1⟩,λp2 hp2=>?_⟩;refine cy (fr:=[some (.ref d),some (.ref e)]) us (λz=>V.int z.2.num) (by omega) hp2 (dq (SqL.of hp1)) rfl (λz=>cJ (nds zs) z.2) (λz y _=>y=V.int z.2.num) (λz y H H' h _=>h) (λz H' k mz s1 _ hk=>?_) (λz H' k mz _ s1 _ hk=>⟨_,rfl,hk _ H' (Same.refl _) rfl⟩) (λys H2 s1 hp2' hys=>?_)
 ·have B1:=(B.same s0).same s1;have C1:=(C.same s0).same s1
  by_cases ho:TW.aM (nds zs) z.2.num
  ·obtain⟨o1,mo,eo⟩:=ho;obtain⟨y,hy,rfl⟩:=bf mo;obtain⟨r,g1,r1⟩:=B1.get (aH TZ) hy;rw[eo]at g1;have ea:dz (bH y.2) none (some 2)=[.int y.2.par,.str y.2.nm]:=rfl;have eb:dz (bH z.2) none (some 2)=[.int z.2.par,.str z.2.nm]:=rfl;refine⟨_,rfl,_,rfl,d,_,rfl,g1,_,rfl,aE ?_⟩;refine⟨_,rfl,_,rfl,d,_,rfl,g1,_,rfl,r,_,rfl,SqT.of r1,(λh=>absurd h.2 (show ¬HT.sIx 3 3 (some 2)=3 by decide)),λc1 hc1=>?_⟩;rw[ea];have s2:=ag (o:=.tup [.int y.2.par,.str y.2.nm]) hc1;have k1:upd H' c1 (.tup [.int y.2.par,.str y.2.nm]) c1=some (.tup [.int y.2.par,.str y.2.nm]):=ac;generalize upd H' c1 (.tup [.int y.2.par,.str y.2.nm])=H1 at s2 k1⊢;obtain⟨r',g2,r2⟩:=(C1.same s2).get (aH U) mz;refine⟨_,rfl,_,rfl,e,_,rfl,g2,_,rfl,r',_,rfl,SqT.of r2,(λh=>absurd h.2 (show ¬HT.sIx 3 3 (some 2)=3 by decide)),λc2 hc2=>?_⟩;rw[eb];have s3:=s2.trans (ag (o:=.tup [.int z.2.par,.str z.2.nm]) hc2);have k2:upd H1 c2 (.tup [.int z.2.par,.str z.2.nm]) c2=some (.tup [.int z.2.par,.str z.2.nm]):=ac;have k1':upd H1 c2 (.tup [.int z.2.par,.str z.2.nm]) c1=some (.tup [.int y.2.par,.str y.2.nm]):=bj hc2 k1;generalize upd H1 c2 (.tup [.int z.2.par,.str z.2.nm])=H2 at s3 k2 k1'⊢;refine⟨_,_,.inr ⟨c1,_,rfl,k1',rfl,fl2 y.2⟩,.inr ⟨c2,_,rfl,k2,rfl,fl2 z.2⟩,_,rfl,?_⟩;have e0:(!decide (some [V.int y.2.par,V.str y.2.nm]=some [V.int z.2.par,V.str z.2.nm]))=cJ (nds zs) z.2:=by
    by_cases hp:bh (nds zs) z.2
    ·rw[iP hp,decide_eq_true (by rw[ji.mpr ((jj TZ mo eo).mp hp)])];rfl
    ·rw[hJ hp,decide_eq_false λh=>hp ((jj TZ mo eo).mpr (ji.mp (Option.some.inj h)))];rfl
   rw[e0];exact hk H2 s3
  ·refine⟨_,rfl,_,rfl,d,_,rfl,B1.not λx hx ex=>ho ⟨x.2,aA hx,ex⟩,_,rfl,aQ ?_⟩;rw[hJ λ⟨m,hm,em,_⟩=>ho ⟨m,hm,em⟩]at hk;exact hk H' (Same.refl _)
 ·rw[aY hys (f:=λz=>V.int z.2.num) λz y _ h=>h]at hp2';exact q p2 H2 (s0.trans s1) hp2'
theorem lw0(hr:Room 4 (A.deeper (PyProof.Rows.envOfC "_law_steps" (ah aL) s.heap.objs.size f cdv))):
  ∃rd,PS (LsX P w K mg base f cdv A outer s H0 E) (lsB 0) rd∧∀(D:Ends)(H:Hp)(x0 x1 x2 x3 x4 x5 x7 x9 x10:Option V)(l c:Addr)(vs:List V),H l=some (.lst vs)→vs.length≤900→D.nx [x0,x1,x2,x3,x4,x5,some (.ref l),x7,some (.ref c),x9,x10] (upd H l (.lst (vs++[.ref c])))→rd D [x0,x1,x2,x3,x4,x5,some (.ref l),x7,some (.ref c),x9,x10] H:=by
 refine⟨_,bz (dL plainAttrs_list PySem.F.slot_list_append PySem.F.type_list_append bA (pv 6) (aa (pv 8) af)),?_⟩;intro D H x0 x1 x2 x3 x4 x5 x7 x9 x10 l c vs hl hv q;exact⟨_,rfl,.inl ⟨rfl,_,SqL.of hl⟩,_,rfl,l,_,_,rfl,rfl,hl,aJ (by omega),q⟩
theorem lw1(hr:Room 4 (A.deeper (PyProof.Rows.envOfC "_law_steps" (ah aL) s.heap.objs.size f cdv)))(CL:Has P w K mg base 2 "_law_done" ["_law_tree_here","_law_deed_here"] dE):
  ∃rd,PS (LsX P w K mg base f cdv A outer s H0 E) (lsB 1) rd∧∀(D:Ends)(H:Hp)(x0 x1 x2 x3 x4 x5 x6 x9 x10:Option V)(t c:Addr)(zs:ZN)(dd:TW.Deed Str),Tre H t zs→zs.length≤29→cp dd→H c=some (.tup (aR dd))→Okd (nds zs) dd →
   (∀t' ws H',Same H H'→H' t'=some (.tup (ba ws))→At H' ws→TW.Told (nds zs) dd (.inr (nds ws))→D.nx [x0,x1,x2,x3,x4,x5,x6,some (.ref t'),some (.ref c),x9,x10] H')→rd D [x0,x1,x2,x3,x4,x5,x6,some (.ref t),some (.ref c),x9,x10] H:=by
 obtain⟨fL,fdL,GL,mL,kL,bL⟩:=CL;have hr2:Room 2 _:=hr.mono (by decide);refine⟨_,ap (i:=7) iR.nd rfl (Or.inl rfl) (ak GL hr2 rfl mL kL bL .nil aI (aa (pv 7) (aa (pv 8) af))),?_⟩;intro D H x0 x1 x2 x3 x4 x5 x6 x9 x10 t c zs dd tr hl ok hc okd q;exact⟨_,rfl,_,rfl,t,c,dd,zs,rfl,tr,hl,hc,ok,λws t2 H4 s4 ht2 hA2 told=>q t2 ws H4 s4 ht2 hA2 told,λwd H4 s4 told=>by
  obtain⟨v,hv⟩:=okd;cases told.one tr.tr hv⟩
theorem lw2(hr:Room 4 (A.deeper (PyProof.Rows.envOfC "_law_steps" (ah aL) s.heap.objs.size f cdv)))(CB:Has P w K mg base 1 "_law_book" ["_law_tree_here"] dI):
  ∃rd,PS (LsX P w K mg base f cdv A outer s H0 E) (lsB 2) rd∧∀(D:Ends)(H:Hp)(x0 x1 x2 x6 x9 x10:Option V)(e a b t c:Addr)(bs:List (Addr×(Addr×Nd)))(zs us:ZN)(dd:TW.Deed Str)(L S:List Int),Book H e bs us→TW.Tree1 (nds us)→Tre H t zs→H c=some (.tup (aR dd))→H a=some (.lst (L.map V.int))→H b=some (.lst (S.map V.int))→L.length≤60→S.length≤900 →
   ((iz dd=("drop":Str)∧∀H',Same H H'→D.nx [x0,x1,x2,some (.ref e),some (.ref a),some (.ref b),x6,some (.ref t),some (.ref c),x9,x10] H')∨(iz dd≠("drop":Str)∧∃n∈nds us,n.num=ca dd∧TW.aM (nds zs) (ca dd) ∧
    ((bh (nds zs) n∧∀a' H',Same H H'→H a'=none→H' a'=some (.lst ((L.filter λk=>!decide (k=ca dd)).map V.int))→D.nx [x0,x1,x2,some (.ref e),some (.ref a'),some (.ref b),x6,some (.ref t),some (.ref c),x9,x10] H') ∨
    (¬bh (nds zs) n∧iz dd=("move":Str)∧∀H',Ext b H H'→H' b=some (.lst ((S++[ca dd]).map V.int))→D.nx [x0,x1,x2,some (.ref e),some (.ref a),some (.ref b),x6,some (.ref t),some (.ref c),x9,x10] H'))))→rd D [x0,x1,x2,some (.ref e),some (.ref a),some (.ref b),x6,some (.ref t),some (.ref c),x9,x10] H:=by
 obtain⟨fK,fdK,GK,mK,kK,bK⟩:=CB;have hr1:Room 1 _:=hr.mono (by decide);refine⟨_,aW (PW.pt (pw_and (am cU (av (r:=cw K) aq (pv 8) ai (λ_ _=>rfl)) aC (aw _)) (pw_and1 (am (xB (aN hr)) (bX (r:=jR K) cT (aV (aN hr) (ak GK hr1 rfl mK kK bK .nil aI (aa (pv 7) af)) (av (r:=cw K) aq (pv 8) ai (λ_ _=>rfl)) (λ_ _=>rfl)) cW (bv ai)) (bX (r:=jR K) cT (aV (aN hr) (pv 3) (av (r:=cw K) aq (pv 8) ai (λ_ _=>rfl)) (λ_ _=>rfl)) cW (bv ai)) (aw _)))))
   (aj (eV (ii:=4) (N:=["_law_number","_law_deed_here"]) (cl:=[("_law_deed_here",s.heap.objs.size+3)]) (k:=1) (js:=[8]) (g:=bg 0) iR.nd rfl (Or.inl rfl) rfl (LcOk.mk' ["_law_deed_here"] rfl rfl (by decide +kernel) (by decide +kernel) ?hcl rfl (by decide +kernel)) rfl ?hj (ce (pv 4)) (λs H fp=>aG (i:=0) (show(["_law_number","_law_deed_here"]:List Str).Nodup by decide +kernel) rfl (Or.inl rfl) (Or.inr rfl)) (λs H fp=>am cU (pv 0) (av (r:=cw K) aq (pv 1) ai (λ_ _=>rfl)) (aw _)) (λs H fp=>pv 0)))
   (aj (aW (am cv (av (r:=cw K) aq (pv 8) ai (λ_ _=>rfl)) aC (aw _)) (aj (bz (dL plainAttrs_list PySem.F.slot_list_append PySem.F.type_list_append bA (pv 5) (aa (av (r:=cw K) aq (pv 8) ai (λ_ _=>rfl)) af)))) aB)),?_⟩
 case hcl =>
  intro y hy;rcases mem_cons.mp hy with e|hy
  ·rw[e];rfl
  ·cases hy
 case hj =>
  intro i j x h1 h2
  match i,h1,h2 with
  |0,h1,h2 =>
   cases h1;cases h2;exact⟨rfl,Or.inr (Or.inl rfl),(show((ah aL).names.lookup ("_law_deed_here":Str)≠some NameKind.local)by decide +kernel),by first|exact Or.inl rfl|exact Or.inr rfl⟩
  |i+1,h1,h2=>simp at h1
 intro D H x0 x1 x2 x6 x9 x10 e a b t c bs zs us dd L S C U tr hc ha hb hL hS h;have decS:∀x y:Str,decide (V.str x=V.str y)=decide (x=y):=λx y=>decide_eq_decide.mpr ⟨λh=>by injection h,λh=>by rw[h]⟩;refine⟨_,rfl,c,_,_,_,rfl,rfl,SqT.of hc,dv0 dd,rfl,_,rfl,?_⟩;rw[decS];rcases h with⟨hw,q⟩|⟨hw,n,hn,en,hh,h⟩
 ·rw[decide_eq_true hw];refine aE (aE ⟨_,rfl,c,_,_,_,rfl,rfl,SqT.of hc,dv0 dd,rfl,_,rfl,?_⟩);rw[decS,decide_eq_false (by rw[hw];decide +kernel)];exact aE (q H (Same.refl _))
 ·rw[decide_eq_false hw];refine aQ ?_;obtain⟨m,hm,em⟩:=hh;obtain⟨y,hy,rfl⟩:=bf hm;obtain⟨z,hz,rfl⟩:=bf hn;refine⟨_,rfl,t,zs,rfl,tr,λd as H1 s1 _ b1 _=>?_⟩;obtain⟨r,g1,r1⟩:=b1.get (aH tr.tr) hy;rw[em]at g1;have ea:dz (bH y.2) none (some 2)=[.int y.2.par,.str y.2.nm]:=rfl;have eb:dz (bH z.2) none (some 2)=[.int z.2.par,.str z.2.nm]:=rfl;refine⟨_,rfl,c,_,_,_,rfl,rfl,SqT.of (s1 _ _ hc),dv1 dd,d,_,rfl,g1,_,rfl,r,_,rfl,SqT.of r1,(λh=>absurd h.2 (show ¬HT.sIx 3 3 (some 2)=3 by decide)),λc1 hc1=>?_⟩;rw[ea];have s2:=s1.trans (ag (o:=.tup [.int y.2.par,.str y.2.nm]) hc1);have k1:upd H1 c1 (.tup [.int y.2.par,.str y.2.nm]) c1=some (.tup [.int y.2.par,.str y.2.nm]):=ac;generalize upd H1 c1 (.tup [.int y.2.par,.str y.2.nm])=H2 at s2 k1⊢;obtain⟨r',g2,r2⟩:=(C.same s2).get (aH U) hz;rw[en]at g2;refine⟨_,rfl,_,rfl,c,_,_,_,rfl,rfl,SqT.of (s2 _ _ hc),dv1 dd,e,_,rfl,g2,_,rfl,r',_,rfl,SqT.of r2,(λh=>absurd h.2 (show ¬HT.sIx 3 3 (some 2)=3 by decide)),λc2 hc2=>?_⟩;rw[eb];have s3:=s2.trans (ag (o:=.tup [.int z.2.par,.str z.2.nm]) hc2);have k2:upd H2 c2 (.tup [.int z.2.par,.str z.2.nm]) c2=some (.tup [.int z.2.par,.str z.2.nm]):=ac;have k1':upd H2 c2 (.tup [.int z.2.par,.str z.2.nm]) c1=some (.tup [.int y.2.par,.str y.2.nm]):=bj hc2 k1;generalize upd H2 c2 (.tup [.int z.2.par,.str z.2.nm])=H3 at s3 k2 k1'⊢;refine⟨c1,c2,_,_,rfl,rfl,k1',k2,fl2 _,fl2 _,_,rfl,?_⟩;have eyz:y.2.num=z.2.num:=em.trans en.symm;rcases h with⟨hp,q⟩|⟨hp,hmv,q⟩
  ·rw[decide_eq_true (ji.mpr ((jj tr.tr (aA hy) eyz).mp hp))];refine aQ ?_;refine⟨_,rfl,a,rfl,⟨_,SqL.of (s3 _ _ ha)⟩,λp hp=>?_⟩;refine cy (fr:=[some (.ref c)]) L V.int (by omega) hp (dq (SqL.of (s3 _ _ ha))) rfl (λk=>!decide (k=ca dd)) (λk y _=>y=V.int k) (λz y H H' h _=>h) (λk H' kk mz s4 _ hk=>?_) (λk H' kk mz _ s4 _ hk=>⟨_,rfl,hk _ H' (Same.refl _) rfl⟩) (λys H4 s4 hp4 hys=>?_)
   ·refine⟨_,rfl,_,rfl,c,_,_,_,rfl,rfl,SqT.of (s4 _ _ (s3 _ _ hc)),dv1 dd,rfl,_,rfl,?_⟩;rw[show decide (V.int k=V.int (ca dd))=decide (k=ca dd)from decide_eq_decide.mpr ⟨λh=>by injection h,λh=>by rw[h]⟩];exact hk H' (Same.refl _)
   ·rw[aY hys (f:=V.int) λz y _ h=>h]at hp4;exact q p H4 (s3.trans s4) (s3.free hp) hp4
  ·rw[decide_eq_false λh=>hp ((jj tr.tr (aA hy) eyz).mpr (ji.mp h))];refine aE ⟨_,rfl,c,_,_,_,rfl,rfl,SqT.of (s3 _ _ hc),dv0 dd,rfl,_,rfl,?_⟩;rw[decS,decide_eq_true hmv];refine aQ ⟨_,rfl,.inl ⟨rfl,_,SqL.of (s3 _ _ hb)⟩,_,rfl,c,_,_,_,rfl,rfl,SqT.of (s3 _ _ hc),dv1 dd,b,_,_,rfl,rfl,s3 _ _ hb,aJ (by rw[length_map];omega),?_⟩;refine q _ (λx o hx eo=>by rw[ao hx];exact s3 _ _ eo) ?_;rw[ac,map_append];rfl
end
theorem gI(zs us:ZN):((eE zs us).map λz=>V.int z.2.num)=(((nds us).filter (cJ (nds zs))).map (·.num)).map V.int:=by
 rw[←eB];unfold nds;rw[map_map,map_map];rfl
theorem yc{t0 u t:List Nd}{ds:List (TW.Deed Str)}(I:Iv t0 u t ds):t.length≤t0.length+u.length:=by
 have:=Nodup.length_le_of_subset (fq I.tr) (l₂:=t0.map (·.num)++u.map (·.num)) λk hk=>by
  obtain⟨m,hm,rfl⟩:=mem_map.mp hk;rcases I.sub m hm with⟨x,hx,e⟩|⟨x,hx,e⟩
  ·exact mem_append_left _ (mem_map.mpr ⟨x,hx,e⟩)
  ·exact mem_append_right _ (mem_map.mpr ⟨x,hx,e⟩)
 rw[length_map,length_append,length_map,length_map]at this;exact this
structure LS(HB H:Hp)(a b l t:Addr)(zs0 us zs:ZN)(S:List Int)(ds:ZD):Prop where
 sm:Same HB H
 tre:Tre H t zs
 left:H a=some (.lst ((eE zs us).map λz=>V.int z.2.num))
 sp:H b=some (.lst (S.map V.int))
 dl:H l=some (.lst (aU ds))
 da:eD H ds
 ab:a≠b
 al:a≠l
 iv:Iv (nds zs0) (nds us) (nds zs) (ds.map (·.2))
 tr:Trace (nds us) (nds zs0) (ds.map (·.2)) (nds zs)
 lf:Lf (nds zs) (nds us) (ds.map (·.2)) (((nds us).filter (cJ (nds zs))).map (·.num)) S
 sl:S.length≤ds.length
theorem LS.same{HB H H':Hp}{a b l t:Addr}{zs0 us zs:ZN}{S:List Int}{ds:ZD}(h:LS HB H a b l t zs0 us zs S ds)(s:Same H H'):LS HB H' a b l t zs0 us zs S ds:=⟨h.sm.trans s,h.tre.same s,s _ _ h.left,s _ _ h.sp,s _ _ h.dl,h.da.same s,h.ab,h.al,h.iv,h.tr,h.lf,h.sl⟩
section
variable{P:Program}{w:World}{K:PySem.W.Frag}{mg:Str→Option Value}{base:Heap}{f:Addr}{cdv:Value}{A:Around}{outer:List Env}{s:Shared}{H0:Hp}{E:XK}
theorem ls6(hr:Room 4 (A.deeper (PyProof.Rows.envOfC "_law_steps" (ah aL) s.heap.objs.size f cdv)))(CN:Has P w K mg base 4 "_law_next" ["_law_tree_here","_law_goal","_law_left","_law_spared"] lm):
  ∃rd,PS (LsX P w K mg base f cdv A outer s H0 E) (lsS 6) rd∧∀(D:Ends)(H:Hp)(x0 x1 x2 x6 x8 x9 x10:Option V)(e a b t:Addr)(o:Obj)(bs:List (Addr×(Addr×Nd)))(zs us:ZN)(S:List Int)(t0:List Nd)(ds:List (TW.Deed Str)),Tre H t zs→zs.length+us.length≤25→Book H e bs us→H e=some (.frz o (.dK (aD bs)))→TW.Tree1 (nds us)→(∀n∈nds us,cB n)→H a=some (.lst ((eE zs us).map λz=>V.int z.2.num))→H b=some (.lst (S.map V.int))→Iv t0 (nds us) (nds zs) ds→Lf (nds zs) (nds us) ds (((nds us).filter (cJ (nds zs))).map (·.num)) S →
   (∀v H',Same H H'→jY (nds zs) (nds us) ds v H'→D.nx [x0,x1,x2,some (.ref e),some (.ref a),some (.ref b),x6,some (.ref t),some v,x9,x10] H')→rd D [x0,x1,x2,some (.ref e),some (.ref a),some (.ref b),x6,some (.ref t),x8,x9,x10] H:=by
 obtain⟨fN,fdN,GN,mN,kN,bN⟩:=CN;refine⟨_,ap (i:=8) iR.nd rfl (Or.inr rfl) (ak GN hr rfl mN kN bN .nil aI (aa (pv 7) (aa (pv 3) (aa (pv 4) (aa (pv 5) af))))),?_⟩;intro D H x0 x1 x2 x6 x8 x9 x10 e a b t o bs zs us S t0 ds tr hl C ho U nok ha hb I LF q;exact⟨_,rfl,_,rfl,_,rfl,_,rfl,t,e,a,b,zs,us,bs,o,S,t0,ds,rfl,tr,hl,C,ho,U,nok,ha,hb,I,LF,λdd c H1 s1 hn hc=>q _ H1 s1 (.inr ⟨c,dd,rfl,hc,hn⟩),λH1 s1 hn=>q _ H1 s1 (.inl ⟨rfl,hn⟩)⟩
theorem lw3(hr:Room 4 (A.deeper (PyProof.Rows.envOfC "_law_steps" (ah aL) s.heap.objs.size f cdv)))(CN:Has P w K mg base 4 "_law_next" ["_law_tree_here","_law_goal","_law_left","_law_spared"] lm):
  ∃rd,PS (LsX P w K mg base f cdv A outer s H0 E) (lsB 3) rd∧∀(D:Ends)(H:Hp)(x0 x1 x2 x6 x8 x9 x10:Option V)(e a b t:Addr)(o:Obj)(bs:List (Addr×(Addr×Nd)))(zs us:ZN)(S:List Int)(t0:List Nd)(ds:List (TW.Deed Str)),Tre H t zs→zs.length+us.length≤25→Book H e bs us→H e=some (.frz o (.dK (aD bs)))→TW.Tree1 (nds us)→(∀n∈nds us,cB n)→H a=some (.lst ((eE zs us).map λz=>V.int z.2.num))→H b=some (.lst (S.map V.int))→Iv t0 (nds us) (nds zs) ds→Lf (nds zs) (nds us) ds (((nds us).filter (cJ (nds zs))).map (·.num)) S →
   (∀v H',Same H H'→jY (nds zs) (nds us) ds v H'→D.nx [x0,x1,x2,some (.ref e),some (.ref a),some (.ref b),x6,some (.ref t),some v,x9,x10] H')→rd D [x0,x1,x2,some (.ref e),some (.ref a),some (.ref b),x6,some (.ref t),x8,x9,x10] H:=by
 obtain⟨fN,fdN,GN,mN,kN,bN⟩:=CN;refine⟨_,ap (i:=8) iR.nd rfl (Or.inr rfl) (ak GN hr rfl mN kN bN .nil aI (aa (pv 7) (aa (pv 3) (aa (pv 4) (aa (pv 5) af))))),?_⟩;intro D H x0 x1 x2 x6 x8 x9 x10 e a b t o bs zs us S t0 ds tr hl C ho U nok ha hb I LF q;exact⟨_,rfl,_,rfl,_,rfl,_,rfl,t,e,a,b,zs,us,bs,o,S,t0,ds,rfl,tr,hl,C,ho,U,nok,ha,hb,I,LF,λdd c H1 s1 hn hc=>q _ H1 s1 (.inr ⟨c,dd,rfl,hc,hn⟩),λH1 s1 hn=>q _ H1 s1 (.inl ⟨rfl,hn⟩)⟩
theorem ls7(hr:Room 4 (A.deeper (PyProof.Rows.envOfC "_law_steps" (ah aL) s.heap.objs.size f cdv)))(CL:Has P w K mg base 2 "_law_done" ["_law_tree_here","_law_deed_here"] dE)(CB:Has P w K mg base 1 "_law_book" ["_law_tree_here"] dI)(CN:Has P w K mg base 4 "_law_next" ["_law_tree_here","_law_goal","_law_left","_law_spared"] lm):
  ∃rd,PS (LsX P w K mg base f cdv A outer s H0 E) (lsS 7) rd∧∀(D:Ends)(HB H:Hp)(x0 x1 x2 x9 x10:Option V)(e a b l t:Addr)(v:V)(o:Obj)(bs:List (Addr×(Addr×Nd)))(zs0 us zs:ZN)(S:List Int)(ds:ZD),HB b=none→HB l=none→b≠l→Book HB e bs us→HB e=some (.frz o (.dK (aD bs)))→TW.Tree1 (nds us)→(∀n∈nds us,cB n)→zs0.length+us.length+us.length≤25→LS HB H a b l t zs0 us zs S ds→jY (nds zs) (nds us) (ds.map (·.2)) v H →
   (∀a t zs S ds H',LS HB H' a b l t zs0 us zs S ds→Nxt (nds zs) (nds us) (ds.map (·.2)) none→D.nx [x0,x1,x2,some (.ref e),some (.ref a),some (.ref b),some (.ref l),some (.ref t),some .non,x9,x10] H')→rd D [x0,x1,x2,some (.ref e),some (.ref a),some (.ref b),some (.ref l),some (.ref t),some v,x9,x10] H:=by
 obtain⟨r0,p0,h0⟩:=lw0 (P:=P) (w:=w) (K:=K) (mg:=mg) (base:=base) (outer:=outer) (H0:=H0) (E:=E) hr;obtain⟨r1,p1,h1⟩:=lw1 (outer:=outer) (H0:=H0) (E:=E) hr CL;obtain⟨r2,p2,h2⟩:=lw2 (outer:=outer) (H0:=H0) (E:=E) hr CB;obtain⟨r3,p3,h3⟩:=lw3 (outer:=outer) (H0:=H0) (E:=E) hr CN;refine⟨_,dw PassesOwn.never (am gB (pv 8) bJ (aw _)) (ae p0 (ae p1 (ae p2 (aj p3)))),?_⟩;intro D HB H x0 x1 x2 x9 x10 e a b l t v o bs zs0 us zs S ds fb fl nbl C ho U nok hl L hv q;have zl:∀z:ZN,(nds z).length=z.length:=λz=>by unfold nds;rw[length_map]
 have hln:(nds zs0).length+(nds us).length≤29:=by rw[zl,zl];omega
 have So:=nT (t0:=nds zs0) U nok hln;refine⟨λm σ H'=>∃a t zs S ds v,m=mu (nds us) (nds zs) (ds.map (·.2))∧σ=[x0,x1,x2,some (.ref e),some (.ref a),some (.ref b),some (.ref l),some (.ref t),some v,x9,x10]∧LS HB H' a b l t zs0 us zs S ds∧jY (nds zs) (nds us) (ds.map (·.2)) v H',⟨_,a,t,zs,S,ds,v,rfl,rfl,L,hv⟩,λm σ H' h=>?_⟩;obtain⟨a,t,zs,S,ds,v,rfl,rfl,L,hv⟩:=h;have bd:=So.bd _ _ ⟨L.iv,L.tr⟩;have dl:ds.length≤200:=by have:=bd.2.1;rw[length_map]at this;exact this
 have zn29:zs.length≤29:=by have:=bd.1;rw[zl]at this;exact this
 rcases hv with⟨rfl,hn⟩|⟨c,dd,rfl,hc,hn⟩
 ·exact⟨_,rfl,rfl,_,rfl,aE (q a t zs S ds H' L hn)⟩
 ·obtain⟨dok,t1,told,hI1,hμ⟩:=So.nx _ _ _ ⟨L.iv,L.tr⟩ hn;refine⟨_,rfl,rfl,_,rfl,aQ ⟨λσ' H''=>∃m',m'<mu (nds us) (nds zs) (ds.map (·.2))∧∃a t zs S ds v,m'=mu (nds us) (nds zs) (ds.map (·.2))∧σ'=[x0,x1,x2,some (.ref e),some (.ref a),some (.ref b),some (.ref l),some (.ref t),some v,x9,x10]∧LS HB H'' a b l t zs0 us zs S ds∧jY (nds zs) (nds us) (ds.map (·.2)) v H'',λ_ _ h=>h,?_⟩⟩;refine h0 _ H' _ _ _ _ _ _ _ _ _ l c _ L.dl (by unfold aU;rw[length_map];omega) ?_;have keep:∀x o,x≠l→H' x=some o→upd H' l (.lst (aU ds++[.ref c])) x=some o:=λx o hx h=>by rw[ao hx];exact h
  have notl:∀{x:Addr}{xs:List V},H' x=some (.tup xs)→x≠l:=λh z=>by rw[z,L.dl]at h;cases h
  have gl4:upd H' l (.lst (aU ds++[.ref c])) l=some (.lst (aU (ds++[(c,dd)]))):=by rw[ac];unfold aU;rw[map_append];rfl
  have sH4:Same HB (upd H' l (.lst (aU ds++[.ref c]))):=λx o h=>keep _ _ (λz=>by rw[z,fl]at h;cases h) (L.sm _ _ h);generalize upd H' l (.lst (aU ds++[.ref c]))=H4 at keep gl4 sH4⊢;have tr4:Tre H4 t zs:=⟨keep _ _ (notl L.tre.tup) L.tre.tup,λz hz=>keep _ _ (notl (L.tre.nod z hz)) (L.tre.nod z hz),L.tre.tr,L.tre.len⟩;have hc4:=keep _ _ (notl hc) hc;have hD4:eD H4 (ds++[(c,dd)]):=λx hx=>by
   rcases mem_append.mp hx with hx|hx
   ·exact keep _ _ (notl (L.da x hx)) (L.da x hx)
   ·rw[mem_singleton.mp hx];exact hc4
  have ed:(ds++[(c,dd)]).map (·.2)=ds.map (·.2)++[dd]:=by rw[map_append];rfl
  refine h1 _ H4 _ _ _ _ _ _ _ _ _ t c zs dd tr4 zn29 dok hc4 ⟨t1,told⟩ λt' ws H5 s5 ht' hA' tl=>?_;have e5:nds ws=t1:=Sum.inr.inj (tl.one L.tre.tr told);subst e5;have T5:TW.Tree1 (nds ws):=told.tree L.tre.tr dok.pos;have wl:ws.length≤zs0.length+us.length:=by have:=yc hI1.1;rw[zl,zl,zl]at this;exact this
  have tr5:Tre H5 t' ws:=⟨ht',hA',T5,by omega⟩;have C5:=(C.same sH4).same s5;have step:=vw L.tre.tr U L.lf hn told;have nbS:S.length≤900:=by have:=L.sl;omega
  have fill:(((nds us).filter (cJ (nds zs))).map (·.num)).length≤60:=by
   have:=length_filter_le (cJ (nds zs)) (nds us);rw[length_map];rw[zl]at this;omega
  have ha5:H5 a=some (.lst ((((nds us).filter (cJ (nds zs))).map (·.num)).map V.int)):=by
   rw[←gI];exact s5 _ _ (keep _ _ L.al L.left)
  have hb5:=s5 _ _ (keep _ _ nbl L.sp);have sB5:=sH4.trans s5;have fin:∀(a':Addr)(S':List Int)(H6:Hp),Same HB H6→Tre H6 t' ws→H6 a'=some (.lst ((eE ws us).map λz=>V.int z.2.num))→H6 b=some (.lst (S'.map V.int))→H6 l=some (.lst (aU (ds++[(c,dd)])))→eD H6 (ds++[(c,dd)])→a'≠b→a'≠l→Lf (nds ws) (nds us) (ds.map (·.2)++[dd]) (((nds us).filter (cJ (nds ws))).map (·.num)) S'→S'.length≤(ds++[(c,dd)]).length →
    r3 {nx:=λσ' H''=>∃m',m'<mu (nds us) (nds zs) (ds.map (·.2))∧∃a t zs S ds v,m'=mu (nds us) (nds zs) (ds.map (·.2))∧σ'=[x0,x1,x2,some (.ref e),some (.ref a),some (.ref b),some (.ref l),some (.ref t),some v,x9,x10]∧LS HB H'' a b l t zs0 us zs S ds∧jY (nds zs) (nds us) (ds.map (·.2)) v H'',rt:=D.rt,bk:=D.nx,ct:=λσ' H''=>∃m',m'<mu (nds us) (nds zs) (ds.map (·.2))∧∃a t zs S ds v,m'=mu (nds us) (nds zs) (ds.map (·.2))∧σ'=[x0,x1,x2,some (.ref e),some (.ref a),some (.ref b),some (.ref l),some (.ref t),some v,x9,x10]∧LS HB H'' a b l t zs0 us zs S ds∧jY (nds zs) (nds us) (ds.map (·.2)) v H''} [x0,x1,x2,some (.ref e),some (.ref a'),some (.ref b),some (.ref l),some (.ref t'),some (.ref c),x9,x10] H6:=λa' S' H6 s6 tr6 ha6 hb6 hl6 hd6 nab nal LF hsl=>by
   refine h3 _ H6 _ _ _ _ _ _ _ e a' b t' o bs ws us S' (nds zs0) (ds.map (·.2)++[dd]) tr6 (by omega) (C.same s6) (s6 _ _ ho) U nok ha6 hb6 hI1.1 LF λv2 H7 s7 hv2=>?_;refine⟨_,hμ,a',t',ws,S',ds++[(c,dd)],v2,by rw[ed],rfl,?_,by rw[ed];exact hv2⟩;have L6:LS HB H6 a' b l t' zs0 us ws S' (ds++[(c,dd)]):=⟨s6,tr6,ha6,hb6,hl6,hd6,nab,nal,by rw[ed];exact hI1.1,by rw[ed];exact hI1.2,by rw[ed];exact LF,hsl⟩;exact L6.same s7
  have sl':S.length≤(ds++[(c,dd)]).length:=by rw[length_append];have:=L.sl;omega
  refine h2 _ H5 _ _ _ _ _ _ e a b t' c bs ws us dd _ S C5 U tr5 (s5 _ _ hc4) ha5 hb5 fill nbS ?_;rcases step with⟨hw,LF⟩|⟨hw,n,hn',en,hh,hcase⟩
  ·refine .inl ⟨hw,λH6 s6=>?_⟩;have el:=LF.left;rw[el]at LF ha5;exact fin a S H6 (sB5.trans s6) (tr5.same s6) (by rw[gI];exact s6 _ _ ha5) (s6 _ _ hb5) (s6 _ _ (s5 _ _ gl4)) ((hD4.same s5).same s6) L.ab L.al LF sl'
  ·refine .inr ⟨hw,n,hn',en,hh,?_⟩;rcases hcase with⟨hp,LF⟩|⟨hp,hmv,LF⟩
   ·refine .inl ⟨hp,λa' H6 s6 fa ha6=>?_⟩;have el:=LF.left;rw[el]at LF ha6;have nab:a'≠b:=λz=>by rw[z,hb5]at fa;cases fa
    have nal:a'≠l:=λz=>by rw[z,s5 _ _ gl4]at fa;cases fa
    exact fin a' S H6 (sB5.trans s6) (tr5.same s6) (by rw[gI];exact ha6) (s6 _ _ hb5) (s6 _ _ (s5 _ _ gl4)) ((hD4.same s5).same s6) nab nal LF sl'
   ·refine .inr ⟨hp,hmv,λH6 ex hb6=>?_⟩;have el:=LF.left;rw[el]at LF ha5;have notb:∀{x:Addr}{xs:List V},H5 x=some (.tup xs)→x≠b:=λh z=>by rw[z,hb5]at h;cases h
    have sB6:Same HB H6:=λx o h=>ex x o (λz=>by rw[z,fb]at h;cases h) (sB5 _ _ h);have tr6:Tre H6 t' ws:=⟨ex _ _ (notb tr5.tup) tr5.tup,λz hz=>ex _ _ (notb (tr5.nod z hz)) (tr5.nod z hz),tr5.tr,tr5.len⟩;refine fin a (S++[ca dd]) H6 sB6 tr6 (by rw[gI];exact ex _ _ L.ab ha5) hb6 (ex _ _ nbl.symm (s5 _ _ gl4)) (λx hx=>ex _ _ (notb ((hD4.same s5) x hx)) ((hD4.same s5) x hx)) L.ab L.al LF ?_;rw[length_append,length_append];have:=L.sl;simp;omega
end
def tY(zs us:ZN):ZN:=us.filter λz=>!decide (dc (nds zs) z.2.num=z.2.st)
section
variable{P:Program}{w:World}{K:PySem.W.Frag}{mg:Str→Option Value}{base:Heap}{f:Addr}{cdv:Value}{A:Around}{outer:List Env}{s:Shared}{H0:Hp}{E:XK}
theorem zH(hr:Room 4 (A.deeper (PyProof.Rows.envOfC "_law_steps" (ah aL) s.heap.objs.size f cdv)))(CB:Has P w K mg base 1 "_law_book" ["_law_tree_here"] dI):
  (∃rd,PS (LsX P w K mg base f cdv A outer s H0 E) (lsS 0) rd∧∀(D:Ends)(H:Hp)(x1 x2 x3 x4 x5 x6 x7 x8 x9 x10:Option V)(t:Addr)(zs:ZN),Tre H t zs→(∀d as H',Same H H'→H d=none→Book H' d as zs→H' d=some (.dK (aD as))→D.nx [some (.ref t),x1,some (.ref d),x3,x4,x5,x6,x7,x8,x9,x10] H')→rd D [some (.ref t),x1,x2,x3,x4,x5,x6,x7,x8,x9,x10] H) ∧
  (∃rd,PS (LsX P w K mg base f cdv A outer s H0 E) (lsS 1) rd∧∀(D:Ends)(H:Hp)(x0 x2 x3 x4 x5 x6 x7 x8 x9 x10:Option V)(t:Addr)(zs:ZN),Tre H t zs→(∀d as H',Same H H'→H d=none→Book H' d as zs→H' d=some (.dK (aD as))→D.nx [x0,some (.ref t),x2,some (.ref d),x4,x5,x6,x7,x8,x9,x10] H')→rd D [x0,some (.ref t),x2,x3,x4,x5,x6,x7,x8,x9,x10] H) ∧
  (∃rd,PS (LsX P w K mg base f cdv A outer s H0 E) (lsS 8) rd∧∀(D:Ends)(H:Hp)(x0 x1 x2 x3 x4 x5 x6 x8 x9 x10:Option V)(t:Addr)(zs:ZN),Tre H t zs→(∀d as H',Same H H'→H d=none→Book H' d as zs→H' d=some (.dK (aD as))→D.nx [x0,x1,x2,x3,x4,x5,x6,some (.ref t),x8,some (.ref d),x10] H')→rd D [x0,x1,x2,x3,x4,x5,x6,some (.ref t),x8,x9,x10] H):=by
 obtain⟨fO,fdO,GO,mO,kO,bO⟩:=CB;have hr1:Room 1 _:=hr.mono (by decide);refine⟨⟨_,ap (i:=2) iR.nd rfl (Or.inr rfl) (ak GO hr1 rfl mO kO bO .nil aI (aa (pv 0) af)),?_⟩,⟨_,ap (i:=3) iR.nd rfl (Or.inr rfl) (ak GO hr1 rfl mO kO bO .nil aI (aa (pv 1) af)),?_⟩,⟨_,ap (i:=9) iR.nd rfl (Or.inr rfl) (ak GO hr1 rfl mO kO bO .nil aI (aa (pv 7) af)),?_⟩⟩
 ·intro D H x1 x2 x3 x4 x5 x6 x7 x8 x9 x10 t zs T q;exact⟨_,rfl,t,zs,rfl,T,λd as H' s' n b e=>q d as H' s' n b e⟩
 ·intro D H x0 x2 x3 x4 x5 x6 x7 x8 x9 x10 t zs T q;exact⟨_,rfl,t,zs,rfl,T,λd as H' s' n b e=>q d as H' s' n b e⟩
 ·intro D H x0 x1 x2 x3 x4 x5 x6 x8 x9 x10 t zs T q;exact⟨_,rfl,t,zs,rfl,T,λd as H' s' n b e=>q d as H' s' n b e⟩
theorem zI :
  (∃rd,PS (LsX P w K mg base f cdv A outer s H0 E) (lsS 3) rd∧∀(D:Ends)(H:Hp)(x0 x1 x2 x3 x4 x5 x6 x7 x8 x9 x10:Option V),(∀b H',Same H H'→H b=none→H' b=some (.lst [])→D.nx [x0,x1,x2,x3,x4,some (.ref b),x6,x7,x8,x9,x10] H')→rd D [x0,x1,x2,x3,x4,x5,x6,x7,x8,x9,x10] H) ∧
  (∃rd,PS (LsX P w K mg base f cdv A outer s H0 E) (lsS 4) rd∧∀(D:Ends)(H:Hp)(x0 x1 x2 x3 x4 x5 x6 x7 x8 x9 x10:Option V),(∀b H',Same H H'→H b=none→H' b=some (.lst [])→D.nx [x0,x1,x2,x3,x4,x5,some (.ref b),x7,x8,x9,x10] H')→rd D [x0,x1,x2,x3,x4,x5,x6,x7,x8,x9,x10] H) ∧
  (∃rd,PS (LsX P w K mg base f cdv A outer s H0 E) (lsS 5) rd∧∀(D:Ends)(H:Hp)(x1 x2 x3 x4 x5 x6 x7 x8 x9 x10:Option V)(v:V),D.nx [some v,x1,x2,x3,x4,x5,x6,some v,x8,x9,x10] H→rd D [some v,x1,x2,x3,x4,x5,x6,x7,x8,x9,x10] H):=by
 refine⟨⟨_,ap (i:=5) iR.nd rfl (Or.inl rfl) (bx af),?_⟩,⟨_,ap (i:=6) iR.nd rfl (Or.inl rfl) (bx af),?_⟩,⟨_,ap (i:=7) iR.nd rfl (Or.inl rfl) (pv 0),?_⟩⟩
 ·intro D H x0 x1 x2 x3 x4 x5 x6 x7 x8 x9 x10 q;exact⟨au (by decide),λa ha=>q a _ (ag ha) ha ac⟩
 ·intro D H x0 x1 x2 x3 x4 x5 x6 x7 x8 x9 x10 q;exact⟨au (by decide),λa ha=>q a _ (ag ha) ha ac⟩
 ·intro D H x1 x2 x3 x4 x5 x6 x7 x8 x9 x10 v q;exact⟨_,rfl,q⟩
theorem ls9(hr:Room 4 (A.deeper (PyProof.Rows.envOfC "_law_steps" (ah aL) s.heap.objs.size f cdv)))(T:Txt mg):
  ∃rd,PS (LsX P w K mg base f cdv A outer s H0 E) (lsS 9) rd∧∀(D:Ends)(H:Hp)(x0 x1 x2 x4 x5 x6 x7 x8 x10:Option V)(d e:Addr)(as bs:List (Addr×(Addr×Nd)))(zs us:ZN),Book H d as zs→TW.Tree1 (nds zs)→Book H e bs us→TW.Tree1 (nds us)→us.length≤29→(∀n∈nds us,TW.aM (nds zs) n.num) →
   (∀l H',Same H H'→H' l=some (.lst ((tY zs us).map λz=>V.int z.2.num))→D.nx [x0,x1,x2,some (.ref e),x4,x5,x6,x7,x8,some (.ref d),some (.ref l)] H')→rd D [x0,x1,x2,some (.ref e),x4,x5,x6,x7,x8,some (.ref d),x10] H:=by
 refine⟨_,eV (ii:=10) (N:=["_law_number","_law_book_here","_law_goal"]) (cl:=[("_law_goal",s.heap.objs.size+2),("_law_book_here",s.heap.objs.size+4)]) (k:=1) (js:=[9,3]) (g:=bg 0) iR.nd rfl (Or.inl rfl) rfl (LcOk.mk' ["_law_goal","_law_book_here"] rfl rfl (by decide +kernel) (by decide +kernel) ?hcl rfl (by decide +kernel)) rfl ?hj (ce (aO cL rfl T.sorted boot_sorted (aa (bc (gY rfl) rfl T.list rfl (aa (pv 3) af)) af))) (λs H fp=>aG (i:=0) (show(["_law_number","_law_book_here","_law_goal"]:List Str).Nodup by decide +kernel) rfl (Or.inl rfl) (Or.inr rfl))
   (λs H fp=>am cU (av (r:=cw K) aq (aV (aN hr) (pv 1) (pv 0) (λ_ _=>rfl)) ai (λ_ _=>rfl)) (av (r:=cw K) aq (aV (aN hr) (pv 2) (pv 0) (λ_ _=>rfl)) ai (λ_ _=>rfl)) (aw _)) (λs H fp=>pv 0),?_⟩
 case hcl =>
  intro y hy;rcases mem_cons.mp hy with e|hy
  ·rw[e];rfl
  rcases mem_cons.mp hy with e|hy
  ·rw[e];rfl
  ·cases hy
 case hj =>
  intro i j x h1 h2
  match i,h1,h2 with
  |0,h1,h2 =>
   cases h1;cases h2;exact⟨rfl,Or.inr (Or.inl rfl),(show((ah aL).names.lookup ("_law_book_here":Str)≠some NameKind.local)by decide +kernel),by first|exact Or.inl rfl|exact Or.inr rfl⟩
  |1,h1,h2 =>
   cases h1;cases h2;exact⟨rfl,Or.inr (Or.inl rfl),(show((ah aL).names.lookup ("_law_goal":Str)≠some NameKind.local)by decide +kernel),by first|exact Or.inl rfl|exact Or.inr rfl⟩
  |i+2,h1,h2=>simp at h1
 intro D H x0 x1 x2 x4 x5 x6 x7 x8 x10 d e as bs zs us B TZ C U hl hin q;refine⟨_,rfl,e,_,rfl,C.dict,λl hl0=>⟨l,_,rfl,xS C,fq U,xT (by omega),λms hpm hup p hp0=>?_⟩⟩;obtain⟨s0,hp1⟩:=xU U hl0 hpm hup hp0;generalize upd (upd H l (.lst ((aD bs).map λp=>kV p.1))) p (.lst (ms.map V.int))=H1 at s0 hp1⊢;refine⟨p,rfl,⟨_,SqL.of hp1⟩,λp2 hp2=>?_⟩;refine cy (fr:=[some (.ref d),some (.ref e)]) us (λz=>V.int z.2.num) (by omega) hp2 (dq (SqL.of hp1)) rfl (λz=>!decide (dc (nds zs) z.2.num=z.2.st)) (λz y _=>y=V.int z.2.num) (λz y H H' h _=>h) (λz H' k mz s1 _ hk=>?_) (λz H' k mz _ s1 _ hk=>⟨_,rfl,hk _ H' (Same.refl _) rfl⟩) (λys H2 s1 hp2' hys=>?_)
 ·have B1:=(B.same s0).same s1;have C1:=(C.same s0).same s1;obtain⟨o1,mo,eo⟩:=hin z.2 (aA mz);obtain⟨y,hy,rfl⟩:=bf mo;obtain⟨r,g1,r1⟩:=B1.get (aH TZ) hy;obtain⟨r',g2,r2⟩:=C1.get (aH U) mz;rw[eo]at g1;refine⟨_,rfl,_,rfl,d,_,rfl,g1,r,_,_,_,rfl,rfl,SqT.of r1,nH _,_,rfl,_,rfl,e,_,rfl,g2,r',_,_,_,rfl,rfl,SqT.of r2,nH _,qh _ _,_,rfl,?_⟩;rw[oV,show y.2.st=dc (nds zs) z.2.num by rw[←eo,gF (fq TZ) mo]];exact hk H' (Same.refl _)
 ·rw[aY hys (f:=λz=>V.int z.2.num) λz y _ h=>h]at hp2';exact q p2 H2 (s0.trans s1) hp2'
theorem zJ(hr:Room 4 (A.deeper (PyProof.Rows.envOfC "_law_steps" (ah aL) s.heap.objs.size f cdv))):
  ∃rd,PS (LsX P w K mg base f cdv A outer s H0 E) (lsS 10) rd∧∀(D:Ends)(H:Hp)(x0 x1 x2 x4 x5 x7 x8 x9:Option V)(e l p:Addr)(bs:List (Addr×(Addr×Nd)))(zs us:ZN)(ds:ZD),Book H e bs us→TW.Tree1 (nds us)→us.length≤29→TW.Tree1 (nds zs)→(∀n∈nds us,bh (nds zs) n)→(∀n∈nds zs,TW.aM (nds us) n.num)→cN (nds zs) (nds us)→ds.length≤300→H l=some (.lst (aU ds))→eD H ds→H p=some (.lst ((tY zs us).map λz=>V.int z.2.num)) →
   (∀l' es H',Same H H'→H' l'=some (.lst (aU es))→eD H' es→es.map (·.2)=ds.map (·.2)++jX (nds zs) (nds us)→D.rt (.ref l') H')→rd D [x0,x1,x2,some (.ref e),x4,x5,some (.ref l),x7,x8,x9,some (.ref p)] H:=by
 refine⟨_,ax (aK fc (pv 6) (ik (N:=["_law_number","_law_goal"]) (cl:=[("_law_goal",s.heap.objs.size+2)]) (k:=1) (js:=[3]) (g:=bg 0) rfl (LcOk.mk' ["_law_goal"] rfl rfl (by decide +kernel) (by decide +kernel) ?hcl rfl (by decide +kernel)) rfl ?hj (ce (pv 10)) (λs H fp=>aG (i:=0) (show(["_law_number","_law_goal"]:List Str).Nodup by decide +kernel) rfl (Or.inl rfl) (Or.inr rfl))
   (λs H fp=>bn (aa aC (aa (pv 0) (aa (av (r:=cw K) aq (aV (aN hr) (pv 1) (pv 0) (λ_ _=>rfl)) ai (λ_ _=>rfl)) af)))))),?_⟩
 case hcl =>
  intro y hy;rcases mem_cons.mp hy with e|hy
  ·rw[e];rfl
  ·cases hy
 case hj =>
  intro i j x h1 h2
  match i,h1,h2 with
  |0,h1,h2 =>
   cases h1;cases h2;exact⟨rfl,Or.inr (Or.inl rfl),(show((ah aL).names.lookup ("_law_goal":Str)≠some NameKind.local)by decide +kernel),by first|exact Or.inl rfl|exact Or.inr rfl⟩
  |i+1,h1,h2=>simp at h1
 intro D H x0 x1 x2 x4 x5 x7 x8 x9 e l p bs zs us ds C U hl TZ h1 h2 sk hdl hll hA hp q;have hle:(tY zs us).length≤us.length:=length_filter_le _ us;refine⟨_,rfl,_,rfl,p,rfl,⟨_,SqL.of hp⟩,λp2 hp2=>?_⟩;refine eI (fr:=[some (.ref e)]) (tY zs us) (λz=>V.int z.2.num) (by omega) hp2 (dq (SqL.of hp)) rfl (λz y H'=>∃q,y=.ref q∧q≠p2∧H' q=some (.tup (aR (.write z.2.num (z.2.st.getD 0))))) (λz y H H' ⟨q,e,ne,h⟩ ex=>⟨q,e,ne,ex q _ ne h⟩) (λz H' k mz s1 hpl hk=>?_) (λys H2 s2 hp2' hys=>?_)
 ·obtain⟨mu',hg⟩:=mem_filter.mp mz;obtain⟨r,g1,r1⟩:=(C.same s1).get (aH U) mu';refine⟨_,rfl,_,rfl,_,rfl,e,_,rfl,g1,r,_,_,_,rfl,rfl,SqT.of r1,nH _,(show 3≤sizeLine from au (by decide)),λc hc=>hk _ _ (ag hc) ⟨c,rfl,dG hpl hc,?_⟩⟩;rw[ac];have:stV z.2.st=.int (z.2.st.getD 0):=by
   cases hs:z.2.st with
   |some i=>rfl
   |none =>
    exfalso
    obtain⟨m,hm,em,_⟩:=h1 z.2 (aA mu');have e0:=(sk m hm z.2 (aA mu') em).mpr hs;rw[hs,←em,gF (fq TZ) hm,e0]at hg;cases hg
  rw[this];rfl
 ·obtain⟨cs,e1,e2,e3⟩:=cM (val:=V.ref) (S:=λ(z:Addr×Nd) (q:Addr)=>H2 q=some (.tup (aR (.write z.2.num (z.2.st.getD 0))))) hys (λz y _ ⟨q,e,_,h⟩=>⟨q,e,h⟩);have hcl':cs.length≤us.length:=by have:=congrArg length e1;rw[length_map]at this;omega
  refine⟨l,p2,_,_,rfl,rfl,s2 _ _ hll,hp2',?_,λl3 hl3=>?_⟩
  ·rw[e2];unfold aU;rw[length_map,length_map];exact au (by omega)
  have s3:=s2.trans (ag (o:=.lst (aU ds++ys)) hl3);refine q l3 (ds++cs.map λx=>(x.2,.write x.1.2.num (x.1.2.st.getD 0))) _ s3 ?_ (λx hx=>?_) ?_
  ·rw[ac,e2];unfold aU;rw[map_append,map_map];rfl
  ·rcases mem_append.mp hx with hx|hx
   ·exact s3 _ _ (hA x hx)
   ·obtain⟨y,hy,rfl⟩:=mem_map.mp hx;exact(ag hl3) _ _ (e3 y hy)
  ·rw[map_append,map_map,tR TZ U h1 h2]
   congr 1
   have:tY zs us=cs.map (·.1):=e1.symm;unfold nds;rw[filter_map,map_map];have e5:us.filter ((λn:Nd=>!decide (dc (zs.map (·.2)) n.num=n.st))∘λx:Addr×Nd=>x.2)=cs.map (·.1):=this;rw[e5,map_map];rfl
def qv:Sp:=λvs H Q _=>∃t u zs us,vs=[.ref t,.ref u]∧Tre H t zs∧Tre H u us∧cN (nds zs) (nds us)∧(∀n∈nds zs,cB n)∧(∀n∈nds us,cB n)∧zs.length+us.length+us.length≤25 ∧
 ∀l ds dd tt H',Same H H'→H' l=some (.lst (aU ds))→eD H' ds→ds.map (·.2)=dd++jX tt (nds us)→Trace (nds us) (nds zs) dd tt→Nxt tt (nds us) dd none→Q (.ref l) H'
theorem yS:bp aL=[lsS 0,lsS 1,lsS 2,lsS 3,lsS 4,lsS 5,lsS 6,lsS 7,lsS 8,lsS 9,lsS 10]:=rfl
theorem yd{f:Addr}{fd:FuncData}(F:Fun K "_law_steps" "_law_steps" aL f fd)(T:Txt mg)(CB:Has P w K mg base 1 "_law_book" ["_law_tree_here"] dI)(CL:Has P w K mg base 2 "_law_done" ["_law_tree_here","_law_deed_here"] dE)(CN:Has P w K mg base 4 "_law_next" ["_law_tree_here","_law_goal","_law_left","_law_spared"] lm):FnOk P w K mg base CX0 5 f fd ["_law_old","_law_new"] qv:=by
 refine F.ok iR (λvs H Q E h=>?_) (λcdv A outer s H vs Q E hr h=>?_)
 ·obtain⟨t,u,zs,us,rfl,_⟩:=h;rfl
 ·obtain⟨t,u,zs,us,rfl,tr,ur,sk,zok,uok,hl,q⟩:=h;obtain⟨⟨r0,p0,h0⟩,⟨r1,p1,h1⟩,⟨r8,p8,h8⟩⟩:=zH (outer:=outer) (H0:=H) (E:=E) hr CB;obtain⟨r2,p2,h2⟩:=ls2 (P:=P) (w:=w) (K:=K) (base:=base) (outer:=outer) (H0:=H) (E:=E) hr T;obtain⟨⟨r3,p3,h3⟩,⟨r4,p4,h4⟩,⟨r5,p5,h5⟩⟩:=zI (P:=P) (w:=w) (K:=K) (mg:=mg) (base:=base) (f:=f) (cdv:=cdv) (A:=A) (outer:=outer) (s:=s) (H0:=H) (E:=E);obtain⟨r6,p6,h6⟩:=ls6 (outer:=outer) (H0:=H) (E:=E) hr CN;obtain⟨r7,p7,h7⟩:=ls7 (outer:=outer) (H0:=H) (E:=E) hr CL CB CN;obtain⟨r9,p9,h9⟩:=ls9 (P:=P) (w:=w) (K:=K) (base:=base) (outer:=outer) (H0:=H) (E:=E) hr T;obtain⟨r10,p10,h10⟩:=zJ (P:=P) (w:=w) (K:=K) (mg:=mg) (base:=base) (outer:=outer) (H0:=H) (E:=E) hr;rw[yS];generalize lsS=st at p0 p1 p2 p3 p4 p5 p6 p7 p8 p9 p10⊢;refine⟨_,ae p0 (ae p1 (ae (iQ p2) (ae p3 (ae p4 (ae p5 (ae p6 (ae p7 (ae p8 (ae p9 (aj p10)))))))))),?_⟩;refine h0 _ H _ _ _ _ _ _ _ _ _ _ t zs tr λd as H1 s1 _ b1 _=>?_;refine h1 _ H1 _ _ _ _ _ _ _ _ _ _ u us (ur.same s1) λe bs H2 s2 he0 b2 he=>?_;refine⟨e,_,he,λo=>?_⟩;have s12:Same H1 (upd H2 e (.frz o (.dK (aD bs)))):=aS he0 s2;have C:Book (upd H2 e (.frz o (.dK (aD bs)))) e bs us:=⟨.inr ⟨o,ac⟩,b2.of,λx hx=>by
   have:=b2.at' x hx;rw[ao λz=>by rw[z,he]at this;cases this];exact this⟩
  have ho:upd H2 e (.frz o (.dK (aD bs))) e=some (.frz o (.dK (aD bs))):=ac;generalize upd H2 e (.frz o (.dK (aD bs)))=H3 at s12 C ho⊢;have s03:=s1.trans s12;refine h2 _ H3 _ _ _ _ _ _ _ _ _ d e as bs zs us (b1.same s12) tr.tr C ur.tr (by omega) λa H4 s4 ha=>?_;have fa:∀{x:Addr},H4 x=none→a≠x:=λh z=>by rw[←z,ha]at h;cases h
  refine h3 _ H4 _ _ _ _ _ _ _ _ _ _ _ λb H5 s5 fb hb=>?_;refine h4 _ H5 _ _ _ _ _ _ _ _ _ _ _ λl H6 s6 fl hl6=>?_;refine h5 _ H6 _ _ _ _ _ _ _ _ _ _ _ ?_;have s46:=s5.trans s6;have nbl:b≠l:=λz=>by rw[←z,hb]at fl;cases fl
  have nal:a≠l:=λz=>by rw[←z,s5 _ _ ha]at fl;cases fl
  have hln:(nds zs).length+(nds us).length≤29:=by unfold nds;rw[length_map,length_map];omega
  have L0:LS H4 H6 a b l t zs us zs [] []:=⟨s46,((tr.same s03).same s4).same s46,s46 _ _ ha,s6 _ _ hb,hl6,λx hx=>(not_mem_nil hx).elim,fa fb,nal,nS tr.tr sk zok hln,.nil,tL,le_refl _⟩;have C4:=C.same s4;refine h6 _ H6 _ _ _ _ _ _ _ e a b t o bs zs us [] (nds zs) [] L0.tre (by omega) (C4.same s46) (s46 _ _ (s4 _ _ ho)) ur.tr uok L0.left L0.sp L0.iv L0.lf λv H7 s7 hv=>?_;refine h7 _ H4 H7 _ _ _ _ _ e a b l t v o bs zs us zs [] [] fb (s5.free fl) nbl C4 (s4 _ _ ho) ur.tr uok hl (L0.same s7) hv λa' t' ws S ds H8 L8 hn=>?_;refine h8 _ H8 _ _ _ _ _ _ _ _ _ _ t' ws L8.tre λd2 as2 H9 s9 _ b9 _=>?_;obtain⟨n1,n2⟩:=jN L8.iv.tr ur.tr L8.iv.sk L8.iv.as hn;have C9:=(C4.same L8.sm).same s9;refine h9 _ H9 _ _ _ _ _ _ _ _ _ d2 e as2 bs ws us b9 L8.tre.tr C9 ur.tr (by omega) (λn hn'=>let⟨m,hm,em,_⟩:=n1 n hn';⟨m,hm,em⟩) λp Ha sa hp=>?_;have hdl:ds.length≤300:=by
   have:=((wf (t0:=nds zs) ur.tr uok hln).bd _ _ L8.iv).2.1;rw[length_map]at this;omega
  have s9a:=s9.trans sa;refine h10 _ Ha _ _ _ _ _ _ _ _ e l p bs ws us ds (C9.same sa) ur.tr (by omega) L8.tre.tr n1 n2 L8.iv.sk hdl (s9a _ _ L8.dl) (L8.da.same s9a) hp λl' es Hb sb hl' hds ees=>?_;exact q l' es (ds.map (·.2)) (nds ws) Hb ((((s03.trans s4).trans L8.sm).trans s9a).trans sb) hl' hds ees L8.tr hn
end
end TK
namespace TW
section
variable{S:Type}
end
end TW
namespace TW
section
variable{S:Type}
section
variable{q:S→Bool}{t:List (Nd S)}
end
end
end TW
namespace TW
section
variable{S:Type}
section
variable{t u:List (Nd S)}{k g:Int}
theorem pk{t:List (Nd S)}(T:Tree1 t){n:Nd S}(hn:n∈t):n.par=0∨∃m∈t,m.num=n.par:=by
 have:=T.down n hn;cases this with
 |base _ e=>exact .inl e
 |@step m _ hr _ _ e=>exact .inr ⟨m,hr.mem,e.symm⟩
end
def reG(g:Int→Int)(n:Nd S):Nd S:=⟨g n.num,g n.par,n.nm,n.st⟩
section
variable{t u:List (Nd S)}{g:Int→Int}
theorem vF(T:Tree1 t)(h0:g 0=0)(h1:∀n∈t,1≤g n.num)(inj:∀a∈t,∀b∈t,g a.num=g b.num→a.num=b.num)(hu:∀n,n∈u↔∃m∈t,n=reG g m)(hl:u.Perm (t.map (reG g)))(hr:cO u):Tree1 u:=by
 refine⟨⟨hr,?_,λn hn=>?_⟩,λn hn=>?_⟩
 ·unfold dY;rw[(hl.map _).nodup_iff,map_map];have own:=T.own;unfold dY Nodup at own;unfold Nodup;rw[pairwise_map]at own⊢;refine own.imp_of_mem λ{a b} ha hb hab e=>hab ?_;have e1:g a.par=g b.par:=congrArg Prod.fst e;have e2:a.nm=b.nm:=congrArg Prod.snd e;have ep:a.par=b.par:=by
   rcases pk T ha with za|⟨x,hx,ex⟩<;>rcases pk T hb with zb|⟨y,hy,ey⟩
   ·rw[za,zb]
   ·rw[za,h0,←ey]at e1;have:=h1 y hy;omega
   ·rw[zb,h0,←ex]at e1;have:=h1 x hx;omega
   ·rw[←ex,←ey]at e1⊢;exact inj x hx y hy e1
  show(a.par,a.nm)=(b.par,b.nm);rw[ep,e2]
 ·obtain⟨m,hm,rfl⟩:=(hu n).mp hn;have h:=T.down m hm;clear hn hm
  induction h with
  |@base n hm hp=>exact .base ((hu _).mpr ⟨n,hm,rfl⟩) (by show g n.par=0;rw[hp,h0])
  |@step m n hr hf hm hp ih=>exact .step ih hf ((hu _).mpr ⟨n,hm,rfl⟩) (by show g n.par=g m.num;rw[hp])
 ·obtain⟨m,hm,rfl⟩:=(hu n).mp hn;exact h1 m hm
end
end
end TW
namespace TK
open PySem L2
section
variable{t u v:List Nd}
def Unl(t u:List Nd)(k:Int):Prop:=∃m∈t,∃n∈u,m.num=k∧n.num=k∧¬(m.st=none↔n.st=none)
open Classical in
def g60(t u:List Nd)(k:Int):Int:=if Unl t u k then k+60 else k
theorem jP{k:Int}(h:Unl t u k):g60 t u k=k+60:=by unfold g60;rw[if_pos h]
theorem iB{k:Int}(h:¬Unl t u k):g60 t u k=k:=by unfold g60;rw[if_neg h]
theorem lZ(ht:∀m∈t,1≤m.num∧m.num≤30){k:Int}(h:Unl t u k):1≤k∧k≤30:=by
 obtain⟨m,hm,n,hn,e1,_,_⟩:=h;have:=ht m hm;omega
theorem wm(ht:∀m∈t,1≤m.num∧m.num≤30):g60 t u 0=0:=iB λh=>by have:=lZ ht h;omega
theorem qx(ht:∀m∈t,1≤m.num∧m.num≤30){a b:Int}(ha:a≤60)(hb:b≤60)(e:g60 t u a=g60 t u b):a=b:=by
 by_cases h1:Unl t u a<;>by_cases h2:Unl t u b
 ·rw[jP h1,jP h2]at e;omega
 ·rw[jP h1,iB h2]at e;have:=lZ ht h1;omega
 ·rw[iB h1,jP h2]at e;have:=lZ ht h2;omega
 ·rw[iB h1,iB h2]at e;exact e
theorem pq(ht:∀m∈t,1≤m.num∧m.num≤30){a:Int}(h1:0≤a)(h2:a≤60):a≤g60 t u a∧g60 t u a≤99:=by
 by_cases h:Unl t u a
 ·rw[jP h];have:=lZ ht h;omega
 ·rw[iB h];omega
theorem vG(ht:∀m∈t,1≤m.num∧m.num≤30)(U:TW.Tree1 u)(hu:∀n∈u,n.num≤60∧0≤n.par∧n.par≤60∧n.nm.length≤100)(hp:v.Perm (u.map (TW.reG (g60 t u))))(hr:TW.cO v):TW.Tree1 v∧cN t v∧(∀n∈v,cB n)∧v.length=u.length:=by
 have mem:∀n,n∈v↔∃m∈u,n=TW.reG (g60 t u) m:=λn=>by
  rw[hp.mem_iff,mem_map];exact⟨λ⟨m,h,e⟩=>⟨m,h,e.symm⟩,λ⟨m,h,e⟩=>⟨m,h,e.symm⟩⟩
 refine⟨TW.vF U (wm ht) (λn hn=>?_) (λa ha b hb e=>qx ht (hu a ha).1 (hu b hb).1 e) mem hp hr,λm hm n hn e=>?_,λn hn=>?_,by rw[hp.length_eq,length_map]⟩
 ·have h1:=U.pos n hn;have:=pq (u:=u) ht (a:=n.num) (by omega) (hu n hn).1;omega
 ·obtain⟨x,hx,rfl⟩:=(mem n).mp hn;have e':m.num=g60 t u x.num:=e;show m.st=none↔x.st=none
  by_cases h:Unl t u x.num
  ·rw[jP h]at e';have h1:=U.pos x hx;have:=ht m hm;omega
  ·rw[iB h]at e';exact Classical.byContradiction λhc=>h ⟨m,hm,x,hx,e',rfl,hc⟩
 ·obtain⟨x,hx,rfl⟩:=(mem n).mp hn;have h1:=U.pos x hx;obtain⟨a1,a2,a3,a4⟩:=hu x hx;have b1:=pq (u:=u) ht (a:=x.num) (by omega) a1;have b2:=pq (u:=u) ht (a:=x.par) a2 a3;exact⟨(show 1≤g60 t u x.num by omega),b1.2,(show 0≤g60 t u x.par by omega),b2.2,a4⟩
end
def SKN:List Str:=["_law_one","_law_other","_law_first","_law_second","_law_both","_law_unlike","_law_names_here"]
theorem rD:FnScope SKN ["_law_one","_law_other"] (ah aF):=fsc
abbrev SKX(P:Program)(w:World)(K:PySem.W.Frag)(mg:Str→Option Value)(base:Heap)(f:Addr)(cdv:Value)(A:Around)(outer:List Env)(s:Shared)(H:Hp)(E:XK):Cx:=(fJ CX0 P w K mg base SKN "_law_same_kinds" (ah aF) f cdv A outer s H E).nox
def skS(i:Nat):Stmt:=(bp aF).getD i (.Pass ⟨0,0,0,0⟩)
structure SKF(H:Hp)(d e:Addr)(as bs:List (Addr×(Addr×Nd)))(zs us:ZN):Prop where
 b1:Book H d as zs
 b2:Book H e bs us
 fr:∃o,H e=some (.frz o (.dK (aD bs)))
 t1:TW.Tree1 (nds zs)
 t2:TW.Tree1 (nds us)
 l1:zs.length≤29
 l2:us.length≤29
theorem SKF.same{H H':Hp}{d e:Addr}{as bs:List (Addr×(Addr×Nd))}{zs us:ZN}(L:SKF H d e as bs zs us)(s:Same H H'):SKF H' d e as bs zs us:=⟨L.b1.same s,L.b2.same s,(let⟨o,h⟩:=L.fr;⟨o,s _ _ h⟩),L.t1,L.t2,L.l1,L.l2⟩
theorem SKF.keys{H:Hp}{d e:Addr}{as bs:List (Addr×(Addr×Nd))}{zs us:ZN}(L:SKF H d e as bs zs us):((aD bs).map λp=>kV p.1)=us.map λz=>V.int z.2.num:=by
 rw[←L.b2.of];unfold aD;simp only[map_map];rfl
open Classical in
def inN(zs:ZN)(z:Addr×Nd):Bool:=decide (∃x∈zs,x.2.num=z.2.num)
section
variable{P:Program}{w:World}{K:PySem.W.Frag}{mg:Str→Option Value}{base:Heap}{f:Addr}{cdv:Value}{A:Around}{outer:List Env}{s:Shared}{H0:Hp}{E:XK}
theorem sk2(hr:Room 1 (A.deeper (PyProof.Rows.envOfC "_law_same_kinds" (ah aF) s.heap.objs.size f cdv))):
  ∃rd,PS (SKX P w K mg base f cdv A outer s H0 E) (skS 2) rd∧∀(D:Ends)(H:Hp)(t u d e:Addr)(as bs:List (Addr×(Addr×Nd)))(zs us:ZN),SKF H d e as bs zs us →
   (∀l H',Same H H'→H' l=some (.lst ((us.filter (inN zs)).map λz=>V.int z.2.num))→D.nx [some (.ref t),some (.ref u),some (.ref d),some (.ref e),some (.ref l),none,none] H')→rd D [some (.ref t),some (.ref u),some (.ref d),some (.ref e),none,none,none] H:=by
 refine⟨_,eV (ii:=4) (N:=["_law_number","_law_first"]) (cl:=[("_law_first",s.heap.objs.size+1)]) (k:=1) (js:=[2]) (g:=bg 0) rD.nd rfl (Or.inl rfl) rfl
   (LcOk.mk' ["_law_first"] rfl rfl (by decide +kernel) (by decide +kernel) ?hcl rfl (by decide +kernel)) rfl ?hj (kx (pv 3)) (λs H fp=>aG (i:=0) (show(["_law_number","_law_first"]:List Str).Nodup by decide +kernel) rfl (Or.inl rfl) (Or.inr rfl))
   (λs H fp=>cc (dF (aN hr) (pv 0) (pv 1))) (λs H fp=>pv 0),?_⟩
 case hcl =>
  intro y hy;rcases mem_cons.mp hy with e|hy
  ·rw[e];rfl
  ·cases hy
 case hj =>
  intro i j x h1 h2
  match i,h1,h2 with
  |0,h1,h2 =>
   cases h1;cases h2;exact⟨rfl,Or.inr (Or.inl rfl),(show((ah aF).names.lookup ("_law_first":Str)≠some NameKind.local)by decide +kernel),by first|exact Or.inl rfl|exact Or.inr rfl⟩
  |i+1,h1,h2=>simp at h1
 intro D H t u d e as bs zs us L q;obtain⟨o,ho⟩:=L.fr;have l2:=L.l2;refine⟨_,rfl,e,o,aD bs,rfl,ho,λp hp=>?_⟩;rw[L.keys];refine cy (fr:=[some (.ref d)]) us (λz=>V.int z.2.num) (by omega) hp (dC ho) rfl (inN zs) (λz y _=>y=.int z.2.num) (λz y H H' h _=>h) (λz H' k mz s1 _ hk=>?_) (λz H' k mz _ s1 _ hk=>⟨_,rfl,hk _ H' (Same.refl _) rfl⟩) (λys H' s1 hp' hys=>?_)
 ·have L1:=L.same s1
  by_cases hin:∃x∈zs,x.2.num=z.2.num
  ·obtain⟨x,hx,ex⟩:=hin;obtain⟨r,hg,_⟩:=L1.b1.get (aH L.t1) hx;rw[ex]at hg;refine⟨_,rfl,_,rfl,d,_,rfl,hg,?_⟩;have hk':=hk H' (Same.refl _);rw[show inN zs z=true from decide_eq_true ⟨x,hx,ex⟩]at hk';exact⟨_,rfl,hk'⟩
  ·refine⟨_,rfl,_,rfl,d,_,rfl,L1.b1.not λx hx ex=>hin ⟨x,hx,ex⟩,?_⟩;have hk':=hk H' (Same.refl _);rw[show inN zs z=false from decide_eq_false hin]at hk';exact⟨_,rfl,hk'⟩
 ·rw[aY hys (f:=λz=>V.int z.2.num) λz y _ h=>h]at hp';exact q p H' s1 hp'
open Classical in
def nY(zs us:ZN)(z:Addr×Nd):Bool:=decide (Unl (nds zs) (nds us) z.2.num)
theorem qy{zs:ZN}{z:Addr×Nd}:inN zs z=true↔∃x∈zs,x.2.num=z.2.num:=by unfold inN;exact decide_eq_true_iff
open Classical in
theorem ye{zs us:ZN}{x z:Addr×Nd}(T1:TW.Tree1 (nds zs))(T2:TW.Tree1 (nds us))(hx:x∈zs)(hz:z∈us)(e:x.2.num=z.2.num):(!decide (V.bl (decide (stV x.2.st=V.non))=V.bl (decide (stV z.2.st=V.non))))=nY zs us z:=by
 rw[lR,lR];have key:V.bl (decide (x.2.st=none))=V.bl (decide (z.2.st=none))↔(x.2.st=none↔z.2.st=none):=by
  constructor
  ·intro h;injection h with h
   exact decide_eq_decide.mp h
  ·intro h
   congr 1
   exact decide_eq_decide.mpr h
 unfold nY
 by_cases hk:(x.2.st=none↔z.2.st=none)
 ·rw[decide_eq_true (key.mpr hk),decide_eq_false]
  ·rfl
  ·rintro⟨m,hm,n,hn,e1,e2,h3⟩;have em:m=x.2:=T1.inj hm (aA hx) (by omega);have en:n=z.2:=T2.inj hn (aA hz) e2;subst em;subst en;exact h3 hk
 ·rw[decide_eq_false λh=>hk (key.mp h),decide_eq_true]
  ·rfl
  ·exact⟨x.2,aA hx,z.2,aA hz,e,rfl,hk⟩
theorem sk3(hr:Room 1 (A.deeper (PyProof.Rows.envOfC "_law_same_kinds" (ah aF) s.heap.objs.size f cdv))):
  ∃rd,PS (SKX P w K mg base f cdv A outer s H0 E) (skS 3) rd∧∀(D:Ends)(H:Hp)(t u d e l:Addr)(as bs:List (Addr×(Addr×Nd)))(zs us:ZN),SKF H d e as bs zs us→H l=some (.lst ((us.filter (inN zs)).map λz=>V.int z.2.num)) →
   (∀l' H',Same H H'→H' l'=some (.lst (((us.filter (inN zs)).filter (nY zs us)).map λz=>V.int z.2.num))→D.nx [some (.ref t),some (.ref u),some (.ref d),some (.ref e),some (.ref l),some (.ref l'),none] H')→rd D [some (.ref t),some (.ref u),some (.ref d),some (.ref e),some (.ref l),none,none] H:=by
 refine⟨_,ap (i:=5) rD.nd rfl (Or.inr rfl) (cY (N:=["_law_number","_law_first","_law_second"]) (cl:=[("_law_second",s.heap.objs.size+2),("_law_first",s.heap.objs.size+1)]) (k:=1) (js:=[2,3]) (g:=bg 0) rfl
   (LcOk.mk' ["_law_second","_law_first"] rfl rfl (by decide +kernel) (by decide +kernel) ?hcl rfl (by decide +kernel)) rfl ?hj (ce (pv 4)) (λs H fp=>aG (i:=0) (show(["_law_number","_law_first","_law_second"]:List Str).Nodup by decide +kernel) rfl (Or.inl rfl) (Or.inr rfl))
   (λs H fp=>am cU (gC eK (av (r:=cw K) aq (aV (aN hr) (pv 1) (pv 0) (λ_ _=>rfl)) ai (λ_ _=>rfl)) bJ (aw _)) (gC eK (av (r:=cw K) aq (aV (aN hr) (pv 2) (pv 0) (λ_ _=>rfl)) ai (λ_ _=>rfl)) bJ (aw _)) (aw _)) (λs H fp=>pv 0)),?_⟩
 case hcl =>
  intro y hy;rcases mem_cons.mp hy with e|hy
  ·rw[e];rfl
  rcases mem_cons.mp hy with e|hy
  ·rw[e];rfl
  ·cases hy
 case hj =>
  intro i j x h1 h2
  match i,h1,h2 with
  |0,h1,h2 =>
   cases h1;cases h2;exact⟨rfl,Or.inr (Or.inl rfl),(show((ah aF).names.lookup ("_law_first":Str)≠some NameKind.local)by decide +kernel),by first|exact Or.inl rfl|exact Or.inr rfl⟩
  |1,h1,h2 =>
   cases h1;cases h2;exact⟨rfl,Or.inr (Or.inl rfl),(show((ah aF).names.lookup ("_law_second":Str)≠some NameKind.local)by decide +kernel),by first|exact Or.inl rfl|exact Or.inr rfl⟩
  |i+2,h1,h2=>simp at h1
 intro D H t u d e l as bs zs us L hl q;have l2:=L.l2;have lf:=length_filter_le (inN zs) us;refine⟨_,rfl,l,rfl,⟨_,SqL.of hl⟩,λp hp=>?_⟩;refine cy (fr:=[some (.ref d),some (.ref e)]) (us.filter (inN zs)) (λz=>V.int z.2.num) (by omega) hp (dq (SqL.of hl)) rfl (nY zs us) (λz y _=>y=.int z.2.num) (λz y H H' h _=>h) (λz H' k mz s1 _ hk=>?_) (λz H' k mz _ s1 _ hk=>⟨_,rfl,hk _ H' (Same.refl _) rfl⟩) (λys H' s1 hp' hys=>?_)
 ·have L1:=L.same s1;obtain⟨hz,hin⟩:=mem_filter.mp mz;obtain⟨x,hx,ex⟩:=qy.mp hin;obtain⟨r1,g1,a1⟩:=L1.b1.get (aH L.t1) hx;rw[ex]at g1;obtain⟨r2,g2,a2⟩:=L1.b2.get (aH L.t2) hz;have hk':=hk H' (Same.refl _);rw[←ye L.t1 L.t2 hx hz ex]at hk';exact⟨_,rfl,_,rfl,d,_,rfl,g1,r1,_,_,_,rfl,rfl,SqT.of a1,nH x.2,rfl,_,rfl,_,rfl,e,_,rfl,g2,r2,_,_,_,rfl,rfl,SqT.of a2,nH z.2,rfl,rfl,_,rfl,hk'⟩
 ·rw[aY hys (f:=λz=>V.int z.2.num) λz y _ h=>h]at hp';exact q p H' s1 hp'
end
def ma(zs us:ZN):List Int:=((us.filter (inN zs)).filter (nY zs us)).map λz=>z.2.num
theorem rE(zs us:ZN):(((us.filter (inN zs)).filter (nY zs us)).map λz=>V.int z.2.num)=(ma zs us).map V.int:=by
 unfold ma;rw[map_map];rfl
open Classical in
theorem nZ{zs us:ZN}{z:Addr×Nd}:nY zs us z=true↔Unl (nds zs) (nds us) z.2.num:=by unfold nY;exact decide_eq_true_iff
theorem oa{zs us:ZN}{k:Int}:k∈ma zs us↔Unl (nds zs) (nds us) k:=by
 unfold ma;rw[mem_map];constructor
 ·rintro⟨z,hz,rfl⟩;exact nZ.mp (mem_filter.mp hz).2
 ·intro h;obtain⟨m,hm,n,hn,e1,e2,h3⟩:=id h;obtain⟨x,hx,rfl⟩:=bf hm;obtain⟨z,hz,rfl⟩:=bf hn;refine⟨z,mem_filter.mpr ⟨mem_filter.mpr ⟨hz,qy.mpr ⟨x,hx,by omega⟩⟩,nZ.mpr ?_⟩,e2⟩;rw[e2];exact h
def gK(zs us:ZN):List (Key×V):=us.map λz=>((Sum.inl z.2.num:Key),V.int (g60 (nds zs) (nds us) z.2.num))
theorem og{us:ZN}(h:((nds us).map (·.num)).Nodup):(us.map λz=>(Sum.inl z.2.num:Key)).Nodup:=by
 unfold nds at h;rw[map_map]at h;unfold Nodup at h⊢;rw[pairwise_map]at h⊢;exact h.imp λh e=>h (by injection e)
section
variable{P:Program}{w:World}{K:PySem.W.Frag}{mg:Str→Option Value}{base:Heap}{f:Addr}{cdv:Value}{A:Around}{outer:List Env}{s:Shared}{H0:Hp}{E:XK}
theorem sk4(T:Txt mg)(hr:Room 1 (A.deeper (PyProof.Rows.envOfC "_law_same_kinds" (ah aF) s.heap.objs.size f cdv))):
  ∃rd,PS (SKX P w K mg base f cdv A outer s H0 E) (skS 4) rd∧∀(D:Ends)(H:Hp)(t u d e l l':Addr)(as bs:List (Addr×(Addr×Nd)))(zs us:ZN),SKF H d e as bs zs us→H l'=some (.lst ((ma zs us).map V.int)) →
   (∀g H' H'',Same H H'→H' g=none→H''=upd H' g (.dK (gK zs us))→D.nx [some (.ref t),some (.ref u),some (.ref d),some (.ref e),some (.ref l),some (.ref l'),some (.ref g)] H'')→rd D [some (.ref t),some (.ref u),some (.ref d),some (.ref e),some (.ref l),some (.ref l'),none] H:=by
 refine⟨_,ap (i:=6) rD.nd rfl (Or.inr rfl) (bc (fZ rfl) rfl T.dict boot_dict (aa (ik (N:=["_law_number","_law_unlike"]) (cl:=[("_law_unlike",s.heap.objs.size+3)]) (k:=1) (js:=[5]) (g:=bg 0) rfl
   (LcOk.mk' ["_law_unlike"] rfl rfl (by decide +kernel) (by decide +kernel) ?hcl rfl (by decide +kernel)) rfl ?hj (kx (pv 3)) (λs H fp=>aG (i:=0) (show(["_law_number","_law_unlike"]:List Str).Nodup by decide +kernel) rfl (Or.inl rfl) (Or.inr rfl))
   (λs H fp=>bn (aa (pv 0) (aa (jm (am (r:=rIn K false) ki (pv 0) (pv 1) rfl) (wu (pv 0) ai) (pv 0)) af)))) af)),?_⟩
 case hcl =>
  intro y hy;rcases mem_cons.mp hy with e|hy
  ·rw[e];rfl
  ·cases hy
 case hj =>
  intro i j x h1 h2
  match i,h1,h2 with
  |0,h1,h2 =>
   cases h1;cases h2;exact⟨rfl,Or.inr (Or.inl rfl),(show((ah aF).names.lookup ("_law_unlike":Str)≠some NameKind.local)by decide +kernel),by first|exact Or.inl rfl|exact Or.inr rfl⟩
  |i+1,h1,h2=>simp at h1
 intro D H t u d e l l' as bs zs us L hl q;obtain⟨o,ho⟩:=L.fr;have l2:=L.l2;refine⟨_,rfl,e,o,aD bs,rfl,ho,λp hp=>?_⟩;rw[L.keys];refine eI (fr:=[some (.ref l')]) us (λz=>V.int z.2.num) (by omega) hp (dC ho) rfl (λz y H'=>∃q,y=.ref q∧q≠p∧H' q=some (.tup [.int z.2.num,.int (g60 (nds zs) (nds us) z.2.num)])) (λz y H H' ⟨q,e,ne,h⟩ ex=>⟨q,e,ne,ex q _ ne h⟩) (λz H' k mz s1 hpl hk=>?_) (λys H' s1 hp' hys=>?_)
 ·refine⟨_,rfl,_,rfl,_,rfl,l',_,rfl,.inl (SqL.of (s1 _ _ hl)),rfl,iK _,_,rfl,?_⟩;have fin:∀v,v=V.int (g60 (nds zs) (nds us) z.2.num)→2≤sizeLine∧∀c,H' c=none→k (.ref c) (upd H' c (.tup [.int z.2.num,v])):=λv ev=>by
   subst ev;exact⟨le2,λq hq=>hk _ _ (ag hq) ⟨q,rfl,dG hpl hq,ac⟩⟩
  rw[show(if false=true then !inV (.int z.2.num) ((ma zs us).map V.int)else inV (.int z.2.num) ((ma zs us).map V.int))=decide (z.2.num∈ma zs us)from lK _ _]
  by_cases hu:z.2.num∈ma zs us
  ·rw[decide_eq_true hu];have eg:=jP (oa.mp hu);exact aQ ⟨_,rfl,_,_,rfl,rfl,fin _ (by rw[eg])⟩
  ·rw[decide_eq_false hu];have eg:=iB λh=>hu (oa.mpr h);exact aE ⟨_,rfl,fin _ (by rw[eg])⟩
 ·obtain⟨cs,e1,e2,e3⟩:=cM (val:=V.ref) (S:=λ(z:Addr×Nd) (q:Addr)=>H' q=some (.tup [.int z.2.num,.int (g60 (nds zs) (nds us) z.2.num)])) hys (λz y _ ⟨q,e,_,h⟩=>⟨q,e,h⟩);have hcl:cs.length=us.length:=by rw[←e1,length_map]
  refine⟨p,cs.map λx=>(x.2,(Sum.inl x.1.2.num:Key),V.int (g60 (nds zs) (nds us) x.1.2.num)),rfl,by rw[hp',e2,map_map,map_map];rfl,λy hy=>?_,by rw[length_map];omega,?_,λg hg=>?_⟩
  ·obtain⟨x,hx,rfl⟩:=mem_map.mp hy;exact e3 x hx
  ·rw[map_map];have e4:cs.map ((λx:Addr×Key×V=>x.2.1)∘λx=>(x.2,(Sum.inl x.1.2.num:Key),V.int (g60 (nds zs) (nds us) x.1.2.num)))=us.map λz=>(Sum.inl z.2.num:Key):=by
    conv=>rhs;rw[←e1]
    rw[map_map];rfl
   rw[e4];exact og (aH L.t2)
  ·have ekv:(cs.map λx=>(x.2,(Sum.inl x.1.2.num:Key),V.int (g60 (nds zs) (nds us) x.1.2.num))).map (·.2)=gK zs us:=by
    have:gK zs us=(cs.map (·.1)).map λz=>((Sum.inl z.2.num:Key),V.int (g60 (nds zs) (nds us) z.2.num)):=by rw[e1];rfl
    rw[this,map_map,map_map];rfl
   rw[ekv];exact q g H' _ s1 hg rfl
end
def gK0(zs us:ZN):List (Key×V):=cx (gK zs us) (Sum.inl 0:Key) (.int 0)
theorem gv0{zs us:ZN}(h:∀m∈nds zs,1≤m.num∧m.num≤30):br (gK0 zs us) (Sum.inl 0:Key)=some (.int (g60 (nds zs) (nds us) 0)):=by
 unfold gK0;rw[fX,if_pos rfl,wm h]
theorem gv1{zs us:ZN}(T:TW.Tree1 (nds us)){z:Addr×Nd}(hz:z∈us):br (gK0 zs us) (Sum.inl z.2.num:Key)=some (.int (g60 (nds zs) (nds us) z.2.num)):=by
 have hp:=T.pos z.2 (aA hz);unfold gK0;rw[fX,if_neg λh=>by injection h with h;omega]
 refine iu ?_ ?_
 ·have:(gK zs us).map (·.1)=us.map λz=>(Sum.inl z.2.num:Key):=by unfold gK;rw[map_map];rfl
  rw[this];exact og (aH T)
 ·unfold gK;exact mem_map.mpr ⟨z,hz,rfl⟩
section
variable{P:Program}{w:World}{K:PySem.W.Frag}{mg:Str→Option Value}{base:Heap}{f:Addr}{cdv:Value}{A:Around}{outer:List Env}{s:Shared}{H0:Hp}{E:XK}
theorem sk6(T:Txt mg)(hr:Room 1 (A.deeper (PyProof.Rows.envOfC "_law_same_kinds" (ah aF) s.heap.objs.size f cdv))):
  ∃rd,PS (SKX P w K mg base f cdv A outer s H0 E) (skS 6) rd∧∀(D:Ends)(H:Hp)(t u d e l l' g:Addr)(as bs:List (Addr×(Addr×Nd)))(zs us:ZN),SKF H d e as bs zs us→(∀m∈nds zs,1≤m.num∧m.num≤30)→(∀n∈nds us,n.num≤60)→H g=some (.dK (gK0 zs us)) →
   (∀vs t' H',Same H H'→H' t'=some (.tup (ba vs))→At H' vs→(nds vs).Perm ((nds us).map (TW.reG (g60 (nds zs) (nds us))))→TW.cO (nds vs)→D.rt (.ref t') H')→rd D [some (.ref t),some (.ref u),some (.ref d),some (.ref e),some (.ref l),some (.ref l'),some (.ref g)] H:=by
 refine⟨_,ax (bc cj rfl T.tuple rfl (aa (aO cH rfl T.sorted boot_sorted (aa (ik (N:=["_law_number","_law_names_here","_law_second"]) (cl:=[("_law_second",s.heap.objs.size+2),("_law_names_here",s.heap.objs.size+4)]) (k:=1) (js:=[6,3]) (g:=bg 0) rfl
   (LcOk.mk' ["_law_second","_law_names_here"] rfl rfl (by decide +kernel) (by decide +kernel) ?hcl rfl (by decide +kernel)) rfl ?hj (kx (pv 3)) (λs H fp=>aG (i:=0) (show(["_law_number","_law_names_here","_law_second"]:List Str).Nodup by decide +kernel) rfl (Or.inl rfl) (Or.inr rfl))
   (λs H fp=>aK (r:=kh K) dm (bn (aa (aV (aN hr) (pv 1) (pv 0) (λ_ _=>rfl)) (aa (aV (aN hr) (pv 1) (av (r:=cw K) aq (aV (aN hr) (pv 2) (pv 0) (λ_ _=>rfl)) ai (λ_ _=>rfl)) (λ_ _=>rfl)) af))) (bX (r:=jR K) cT (aV (aN hr) (pv 2) (pv 0) (λ_ _=>rfl)) (bv ai) cW))) af)) af)),?_⟩
 case hcl =>
  intro y hy;rcases mem_cons.mp hy with e|hy
  ·rw[e];rfl
  rcases mem_cons.mp hy with e|hy
  ·rw[e];rfl
  ·cases hy
 case hj =>
  intro i j x h1 h2
  match i,h1,h2 with
  |0,h1,h2 =>
   cases h1;cases h2;exact⟨rfl,Or.inr (Or.inl rfl),(show((ah aF).names.lookup ("_law_names_here":Str)≠some NameKind.local)by decide +kernel),by first|exact Or.inl rfl|exact Or.inr rfl⟩
  |1,h1,h2 =>
   cases h1;cases h2;exact⟨rfl,Or.inr (Or.inl rfl),(show((ah aF).names.lookup ("_law_second":Str)≠some NameKind.local)by decide +kernel),by first|exact Or.inl rfl|exact Or.inr rfl⟩
  |i+2,h1,h2=>simp at h1
 intro D H t u d e l l' g as bs zs us L hz30 hu60 hg q;obtain⟨o,ho⟩:=L.fr;have l2:=L.l2;refine⟨_,rfl,e,o,aD bs,rfl,ho,λp hp=>?_⟩;rw[L.keys];refine eI (fr:=[some (.ref g),some (.ref e)]) us (λz=>V.int z.2.num) (by omega) hp (dC ho) rfl (λz y H'=>∃q,y=.ref q∧q≠p∧H' q=some (.tup (vals (TW.reG (g60 (nds zs) (nds us)) z.2)))) (λz y H H' ⟨q,e,ne,h⟩ ex=>⟨q,e,ne,ex q _ ne h⟩) (λz H' k mz s1 hpl hk=>?_) (λys H' s1 hp' hys=>?_)
 ·have L1:=L.same s1;have hg1:=s1 _ _ hg;obtain⟨r,gr,ar⟩:=L1.b2.get (aH L.t2) mz;have d1:dA H' g (.int z.2.num) (some (.int (g60 (nds zs) (nds us) z.2.num))):=by rw[←gv1 L.t2 mz];exact dA.k (k:=Sum.inl z.2.num) hg1
  have d2:dA H' g (.int z.2.par) (some (.int (g60 (nds zs) (nds us) z.2.par))):=by
   rcases TW.pk L.t2 (aA mz)with h0|⟨x,hx,ex⟩
   ·rw[h0,←gv0 hz30];exact dA.k (k:=Sum.inl 0) hg1
   ·obtain⟨y,hy,rfl⟩:=bf hx;have ex':y.2.num=z.2.par:=by first|exact ex|exact ex.symm|exact ex.1|exact ex.1.symm
    rw[←ex',←gv1 L.t2 hy];exact dA.k (k:=Sum.inl y.2.num) hg1
  refine⟨_,rfl,_,rfl,g,_,rfl,d1,?_⟩;refine⟨_,rfl,_,rfl,_,rfl,e,_,rfl,gr,r,_,_,_,rfl,rfl,SqT.of ar,rh z.2,g,_,rfl,d2,le2,λc hc=>?_⟩;have s2:=ag (o:=.tup [.int (g60 (nds zs) (nds us) z.2.num),.int (g60 (nds zs) (nds us) z.2.par)]) hc;have ecut:dz (bH z.2) (some 1) none=[.str z.2.nm,stV z.2.st]:=rfl;obtain⟨r',gr',ar'⟩:=(L1.same s2).b2.get (aH L.t2) mz;refine⟨_,rfl,_,rfl,e,_,rfl,gr',_,rfl,r',_,rfl,SqT.of ar',(by intro h;exact absurd h.1 (show ¬HT.sIx 3 0 (some 1)=0 by decide)),λt' ht'=>?_⟩;rw[ecut];have s3:=s2.trans (ag (o:=.tup [.str z.2.nm,stV z.2.st]) ht');refine⟨c,t',_,_,rfl,rfl,SqT.of (bj ht' ac),SqT.of ac,by simp,(show 4≤sizeLine from au (by decide)),λh=>absurd h (cons_ne_nil _ _),λ_ q hq=>?_⟩;have hpl3:∃ys,upd (upd H' c (.tup [.int (g60 (nds zs) (nds us) z.2.num),.int (g60 (nds zs) (nds us) z.2.par)])) t' (.tup [.str z.2.nm,stV z.2.st]) p=some (.lst ys):=let⟨ys,e⟩:=hpl;⟨ys,s3 _ _ e⟩;exact hk _ _ (s3.trans (ag hq)) ⟨q,rfl,dG hpl3 hq,ac⟩
 ·obtain⟨cs,e1,e2,e3⟩:=cM (val:=V.ref) (S:=λ(z:Addr×Nd) (q:Addr)=>H' q=some (.tup (vals (TW.reG (g60 (nds zs) (nds us)) z.2)))) hys (λz y _ ⟨q,e,_,h⟩=>⟨q,e,h⟩);have er:ys=ba (cs.map λx=>(x.2,TW.reG (g60 (nds zs) (nds us)) x.1.2)):=by rw[e2,←cg,map_map];rfl
  have en:nds (cs.map λx=>(x.2,TW.reG (g60 (nds zs) (nds us)) x.1.2))=(nds us).map (TW.reG (g60 (nds zs) (nds us))):=by
   have:(nds us).map (TW.reG (g60 (nds zs) (nds us)))=(nds (cs.map (·.1))).map (TW.reG (g60 (nds zs) (nds us))):=by rw[e1]
   rw[this];unfold nds;rw[map_map,map_map,map_map];rfl
  have hcl:cs.length=us.length:=by rw[←e1,length_map]
  have hsq:SqL K H' p (ba (cs.map λx=>(x.2,TW.reG (g60 (nds zs) (nds us)) x.1.2))):=SqL.of (by rw[hp',er]);refine gk (K:=K) (H:=H') (l:=p) (zs:=cs.map λx=>(x.2,TW.reG (g60 (nds zs) (nds us)) x.1.2)) (Q:=D.rt) (.inl hsq) (λz hz=>?_) ?_ (by rw[length_map];omega) (λvs t' H2 s2 ht' hA' hpm hrise=>?_)
  ·obtain⟨x,hx,rfl⟩:=mem_map.mp hz;exact e3 x hx
  ·rw[en,map_map];have hnd:=aH L.t2;unfold Nodup at hnd⊢;rw[pairwise_map]at hnd⊢;exact hnd.imp_of_mem λ{a b} ha hb h e=>h (qx hz30 (hu60 a ha) (hu60 b hb) e)
  ·refine q vs t' H2 (s1.trans s2) ht' hA' ?_ hrise;have:(nds vs).Perm (nds (cs.map λx=>(x.2,TW.reG (g60 (nds zs) (nds us)) x.1.2))):=hpm.map _;rw[en]at this;exact this
end
theorem vH{t u v:List Nd}(h:cN t u)(U:TW.Tree1 u)(hp:v.Perm (u.map (TW.reG (g60 t u))))(hr:TW.cO v):v=u:=by
 have g:∀k,g60 t u k=k:=λk=>iB λ⟨m,hm,n,hn,e1,e2,e3⟩=>e3 (h m hm n hn (e1.trans e2.symm));have e:u.map (TW.reG (g60 t u))=u:=by
  have:TW.reG (g60 t u)=λn:Nd=>n:=by
   funext n
   unfold TW.reG;rw[g,g]
  rw[this,List.map_id']
 rw[e]at hp;exact TW.iq hr U.rise hp
section
variable{P:Program}{w:World}{K:PySem.W.Frag}{mg:Str→Option Value}{base:Heap}
def qz:Sp:=λvs H Q _=>∃t u zs us,vs=[.ref t,.ref u]∧Tre H t zs∧Tre H u us∧zs.length≤29∧us.length≤29∧(∀m∈nds zs,1≤m.num∧m.num≤30)∧(∀n∈nds us,n.num≤60∧0≤n.par∧n.par≤60∧n.nm.length≤100) ∧
 ∀v ws H',Same H H'→Tre H' v ws→cN (nds zs) (nds ws)→(∀n∈nds ws,cB n)→ws.length=us.length→(cN (nds zs) (nds us)→nds ws=nds us)→Q (.ref v) H'
theorem yf{f:Addr}{fd:FuncData}(F:Fun K "_law_same_kinds" "_law_same_kinds" aF f fd)(T:Txt mg)(CB:Has P w K mg base 1 "_law_book" ["_law_tree_here"] dI):FnOk P w K mg base CX0 2 f fd ["_law_one","_law_other"] qz:=by
 obtain⟨fK,fdK,GK,mK,kK,bK⟩:=CB;refine F.ok rD (λvs H Q E h=>?_) (λcdv A outer s H vs Q E hr h=>?_)
 ·obtain⟨t,u,zs,us,rfl,_⟩:=h;rfl
 ·obtain⟨t,u,zs,us,rfl,tr,ur,l1,l2,hz,hu,q⟩:=h;obtain⟨r2,p2,h2⟩:=sk2 (P:=P) (w:=w) (K:=K) (mg:=mg) (base:=base) (outer:=outer) (H0:=H) (E:=E) hr;obtain⟨r3,p3,h3⟩:=sk3 (P:=P) (w:=w) (K:=K) (mg:=mg) (base:=base) (outer:=outer) (H0:=H) (E:=E) hr;obtain⟨r4,p4,h4⟩:=sk4 (P:=P) (w:=w) (K:=K) (base:=base) (outer:=outer) (H0:=H) (E:=E) T hr;obtain⟨r6,p6,h6⟩:=sk6 (P:=P) (w:=w) (K:=K) (base:=base) (outer:=outer) (H0:=H) (E:=E) T hr;refine⟨_,ae (ap (i:=2) rD.nd rfl (Or.inr rfl) (ak GK hr rfl mK kK bK .nil aI (aa (pv 0) af)))
   (ae (ap (i:=3) rD.nd rfl (Or.inr rfl) (ak GK hr rfl mK kK bK .nil aI (aa (pv 1) af)))
   (ae (iQ p2) (ae p3 (ae p4 (ae (ie (aN hr) (pv 6) ai ai rfl) (aj p6)))))),?_⟩
  refine⟨_,rfl,t,zs,rfl,tr,λd as H1 s1 hd0 b1 hd=>?_⟩;refine⟨_,rfl,u,us,rfl,ur.same s1,λe bs H2 s2 he0 b2 he=>?_⟩;refine⟨e,_,he,λo=>?_⟩;have s12:Same H1 (upd H2 e (.frz o (.dK (aD bs)))):=aS he0 s2;have s02:Same H (upd H2 e (.frz o (.dK (aD bs)))):=s1.trans s12;have b2':Book (upd H2 e (.frz o (.dK (aD bs)))) e bs us:=⟨.inr ⟨o,ac⟩,b2.of,λx hx=>by
   have:=b2.at' x hx;rw[ao λz=>by rw[z,he]at this;cases this];exact this⟩
  have L:SKF (upd H2 e (.frz o (.dK (aD bs)))) d e as bs zs us:=⟨b1.same s12,b2',⟨o,ac⟩,tr.tr,ur.tr,l1,l2⟩;generalize upd H2 e (.frz o (.dK (aD bs)))=H3 at L s02⊢;refine h2 _ H3 t u d e as bs zs us L λl H4 s4 hl=>?_;have L4:=L.same s4;refine h3 _ H4 t u d e l as bs zs us L4 hl λl' H5 s5 hl'=>?_;have L5:=L4.same s5;rw[rE]at hl';refine h4 _ H5 t u d e l l' as bs zs us L5 hl' λg H6 H7 s6 hg e7=>?_;subst e7;have hn:(gK zs us).length=us.length:=by unfold gK;rw[length_map]
  refine⟨_,rfl,g,_,rfl,jT.k (k:=Sum.inl 0) (kvs:=gK zs us) ac (aJ (by omega)),?_⟩;have s67:Same H6 (upd (upd H6 g (.dK (gK zs us))) g (.dK (cx (gK zs us) (Sum.inl 0:Key) (.int 0)))):=aS hg (ag hg);have hg7:(upd (upd H6 g (.dK (gK zs us))) g (.dK (cx (gK zs us) (Sum.inl 0:Key) (.int 0)))) g=some (.dK (gK0 zs us)):=ac;generalize upd (upd H6 g (.dK (gK zs us))) g (.dK (cx (gK zs us) (Sum.inl 0:Key) (.int 0)))=H7 at s67 hg7⊢;have L7:=(L5.same s6).same s67;refine h6 _ H7 t u d e l l' g as bs zs us L7 hz (λn hn=>(hu n hn).1) hg7 λvs t' H8 s8 ht' hA' hpm hrise=>?_;obtain⟨T8,sk,nok,hlen⟩:=vG hz ur.tr hu hpm hrise;have hlen':vs.length=us.length:=by
   have:=hlen;unfold nds at this
   rwa [length_map,length_map]at this
  exact q t' vs H8 (s02.trans (s4.trans (s5.trans (s6.trans (s67.trans s8))))) ⟨ht',hA',T8,by omega⟩ sk nok hlen' λh=>vH h ur.tr hpm hrise
end
def N9(i:Nat):Str:=(["Inside","Known","NoMark","NoMatch","NoNode","NoReader","NotFile","NotFolder","Taken"]:List Str).getD i ""
def W9:List Str:=["inside","known","no mark","no match","no node","no reader","not file","not folder","taken"]
structure Clss9(mg:Str→Option Value)(K:PySem.W.Frag)(B:Nat→Addr)(D:Addr):Prop where
 m:∀i,i<9→mg (N9 i)=some (.ref (B i))
 tre:mg "TreeError"=some (.ref D)
 base:PySem.W.ktsIn K D "BaseException"=true
structure One9(K:PySem.W.Frag)(B:Nat→Addr)(D:Addr)(i:Nat):Prop where
 lt:i<9
 xc:XI.qY K (B i)=true
 is:∀j,j<9→kitOne K (.ref (B i)) (.ref (B j))=some (decide (i=j))
 val:kitOne K (.ref (B i)) (.type "ValueError")=some true
 sub:subIn K (.ref (B i)) (.ref D)=some true
def plW:TW.Wd→Nat
 |.inside=>0
 |.known=>1
 |.noNode=>4
 |.notFile=>6
 |.notFolder=>7
 |.taken=>8
def bs9(i:Nat):List Bool:=[decide (i=0),decide (i=1),decide (i=2),decide (i=3),decide (i=4),decide (i=5),decide (i=6),decide (i=7),decide (i=8)]
theorem vI{i:Nat}(h:i<9):(bs9 i).count true=1∧(bs9 i)[i]?=some true∧∀m,m<i→(bs9 i)[m]?=some false:=by
 have:i=0∨i=1∨i=2∨i=3∨i=4∨i=5∨i=6∨i=7∨i=8:=by omega
 rcases this with rfl|rfl|rfl|rfl|rfl|rfl|rfl|rfl|rfl<;>refine⟨by decide,by decide,?_⟩<;>decide
section
variable{P:Program}{w:World}{K:PySem.W.Frag}{mg:Str→Option Value}{base:Heap}
def pr(B:Nat→Addr)(D:Addr)(K:PySem.W.Frag):Sp:=λvs H Q _=>∃ea i x,vs=[.ref ea]∧One9 K B D i∧H ea=some (.ext (XI.kt ea (B i)))∧W9[i]?=some x∧∀H',Same H H'→Q (.str x) H'
theorem pw:FnScope ["_law_kept","_law_kinds","_law_words"] ["_law_kept"] (ah sJ):=fsc
theorem vJ{f D:Addr}{B:Nat→Addr}{fd:FuncData}(F:Fun K "_law_word" "_law_word" sJ f fd)(T:Txt mg)(L:Clss9 mg K B D):FnOk P w K mg base CX0 1 f fd ["_law_kept"] (pr B D K):=by
 have m0:mg "Inside"=some (.ref (B 0)):=L.m 0 (by decide);have m1:mg "Known"=some (.ref (B 1)):=L.m 1 (by decide);have m2:mg "NoMark"=some (.ref (B 2)):=L.m 2 (by decide);have m3:mg "NoMatch"=some (.ref (B 3)):=L.m 3 (by decide);have m4:mg "NoNode"=some (.ref (B 4)):=L.m 4 (by decide);have m5:mg "NoReader"=some (.ref (B 5)):=L.m 5 (by decide);have m6:mg "NotFile"=some (.ref (B 6)):=L.m 6 (by decide);have m7:mg "NotFolder"=some (.ref (B 7)):=L.m 7 (by decide);have m8:mg "Taken"=some (.ref (B 8)):=L.m 8 (by decide);refine F.ok pw (λvs H Q E h=>?_) (λcdv A outer s H vs Q E hr h=>?_)
 ·obtain⟨ea,i,x,rfl,_⟩:=h;rfl
 ·obtain⟨ea,i,x,rfl,O,hea,hx,q⟩:=h;refine⟨_,ae (ap (i:=1) pw.nd rfl (Or.inl rfl) (bx (aa (aO ck rfl T.isin boot_isinstance (aa (pv 0) (aa (cb (v:=.ref (B 0)) rfl m0 rfl) af))) (aa (aO ck rfl T.isin boot_isinstance (aa (pv 0) (aa (cb (v:=.ref (B 1)) rfl m1 rfl) af))) (aa (aO ck rfl T.isin boot_isinstance (aa (pv 0) (aa (cb (v:=.ref (B 2)) rfl m2 rfl) af))) (aa (aO ck rfl T.isin boot_isinstance (aa (pv 0) (aa (cb (v:=.ref (B 3)) rfl m3 rfl) af))) af))))))
   (ae (bz (dL plainAttrs_list PySem.F.slot_list_extend PySem.F.type_list_extend kl (pv 1) (aa (bx (aa (aO ck rfl T.isin boot_isinstance (aa (pv 0) (aa (cb (v:=.ref (B 4)) rfl m4 rfl) af))) (aa (aO ck rfl T.isin boot_isinstance (aa (pv 0) (aa (cb (v:=.ref (B 5)) rfl m5 rfl) af))) (aa (aO ck rfl T.isin boot_isinstance (aa (pv 0) (aa (cb (v:=.ref (B 6)) rfl m6 rfl) af))) af)))) af)))
   (ae (bz (dL plainAttrs_list PySem.F.slot_list_extend PySem.F.type_list_extend kl (pv 1) (aa (bx (aa (aO ck rfl T.isin boot_isinstance (aa (pv 0) (aa (cb (v:=.ref (B 7)) rfl m7 rfl) af))) (aa (aO ck rfl T.isin boot_isinstance (aa (pv 0) (aa (cb (v:=.ref (B 8)) rfl m8 rfl) af))) af))) af)))
   (ae (ap (i:=2) pw.nd rfl (Or.inl rfl) (bx (aa aC (aa aC (aa aC (aa aC (aa aC (aa aC (aa aC (aa aC (aa aC af)))))))))))
   (ae (aW (PW.pt (pw_or (am cU (dL plainAttrs_list PySem.F.slot_list_count PySem.F.type_list_count sr (pv 1) (aa gJ af)) ai (aw _)) (pw_or1 (jl (gQ (aO ck rfl T.isin boot_isinstance (aa (pv 0) (aa (lu (v:=.ty "ValueError") rfl T.ValueError PyProof.Rows.Boot.«ValueError» rfl) af))) (λ_=>rfl)))))) (aj (ax aC)) aB)
   (aj (ax (av cG (pv 2) (dL plainAttrs_list PySem.F.slot_list_index PySem.F.type_list_index su (pv 1) (aa gJ af)) (λ_ _=>rfl)))))))) ,?_⟩
  have e:∀j,j<9→kitOne K (.ref (B i)) (.ref (B j))=some (decide (i=j)):=O.is;refine⟨_,rfl,ea,B i,_,_,rfl,hea,O.xc,.inr ⟨_,rfl,e 0 (by decide)⟩,_,rfl,ea,B i,_,_,rfl,hea,O.xc,.inr ⟨_,rfl,e 1 (by decide)⟩,_,rfl,ea,B i,_,_,rfl,hea,O.xc,.inr ⟨_,rfl,e 2 (by decide)⟩,_,rfl,ea,B i,_,_,rfl,hea,O.xc,.inr ⟨_,rfl,e 3 (by decide)⟩,au (show 4≤1000 by decide),λl1 hl1=>?_⟩;have s1:=ag (o:=.lst [.bl (decide (i=0)),.bl (decide (i=1)),.bl (decide (i=2)),.bl (decide (i=3))]) hl1;have g1:upd H l1 (.lst [.bl (decide (i=0)),.bl (decide (i=1)),.bl (decide (i=2)),.bl (decide (i=3))]) l1=some (.lst [.bl (decide (i=0)),.bl (decide (i=1)),.bl (decide (i=2)),.bl (decide (i=3))]):=ac;generalize upd H l1 (.lst [.bl (decide (i=0)),.bl (decide (i=1)),.bl (decide (i=2)),.bl (decide (i=3))])=G1 at s1 g1⊢;refine⟨_,rfl,.inl ⟨rfl,_,SqL.of g1⟩,_,rfl,ea,B i,_,_,rfl,s1 _ _ hea,O.xc,.inr ⟨_,rfl,e 4 (by decide)⟩,_,rfl,ea,B i,_,_,rfl,s1 _ _ hea,O.xc,.inr ⟨_,rfl,e 5 (by decide)⟩,_,rfl,ea,B i,_,_,rfl,s1 _ _ hea,O.xc,.inr ⟨_,rfl,e 6 (by decide)⟩,au (show 3≤1000 by decide),λl2 hl2=>?_⟩;have s2:=s1.trans (ag (o:=.lst [.bl (decide (i=4)),.bl (decide (i=5)),.bl (decide (i=6))]) hl2);refine⟨l1,l2,[.bl (decide (i=0)),.bl (decide (i=1)),.bl (decide (i=2)),.bl (decide (i=3))],_,rfl,rfl,bj hl2 g1,ac,au (show 7≤1000 by decide),?_⟩;have s3:Same H (upd (upd G1 l2 (.lst [.bl (decide (i=4)),.bl (decide (i=5)),.bl (decide (i=6))])) l1 (.lst ([.bl (decide (i=0)),.bl (decide (i=1)),.bl (decide (i=2)),.bl (decide (i=3))]++[.bl (decide (i=4)),.bl (decide (i=5)),.bl (decide (i=6))]))):=aS hl1 s2;have g3:(upd (upd G1 l2 (.lst [.bl (decide (i=4)),.bl (decide (i=5)),.bl (decide (i=6))])) l1 (.lst ([.bl (decide (i=0)),.bl (decide (i=1)),.bl (decide (i=2)),.bl (decide (i=3))]++[.bl (decide (i=4)),.bl (decide (i=5)),.bl (decide (i=6))]))) l1=some (.lst [.bl (decide (i=0)),.bl (decide (i=1)),.bl (decide (i=2)),.bl (decide (i=3)),.bl (decide (i=4)),.bl (decide (i=5)),.bl (decide (i=6))]):=ac;generalize upd (upd G1 l2 (.lst [.bl (decide (i=4)),.bl (decide (i=5)),.bl (decide (i=6))])) l1 (.lst ([.bl (decide (i=0)),.bl (decide (i=1)),.bl (decide (i=2)),.bl (decide (i=3))]++[.bl (decide (i=4)),.bl (decide (i=5)),.bl (decide (i=6))]))=G3 at s3 g3⊢;refine⟨_,rfl,.inl ⟨rfl,_,SqL.of g3⟩,_,rfl,ea,B i,_,_,rfl,s3 _ _ hea,O.xc,.inr ⟨_,rfl,e 7 (by decide)⟩,_,rfl,ea,B i,_,_,rfl,s3 _ _ hea,O.xc,.inr ⟨_,rfl,e 8 (by decide)⟩,le2,λl3 hl3=>?_⟩;have s4:=ag (o:=.lst [.bl (decide (i=7)),.bl (decide (i=8))]) hl3;refine⟨l1,l3,_,_,rfl,rfl,s4 _ _ g3,ac,au (show 9≤1000 by decide),?_⟩;have s5:Same H (upd (upd G3 l3 (.lst [.bl (decide (i=7)),.bl (decide (i=8))])) l1 (.lst ([.bl (decide (i=0)),.bl (decide (i=1)),.bl (decide (i=2)),.bl (decide (i=3)),.bl (decide (i=4)),.bl (decide (i=5)),.bl (decide (i=6))]++[.bl (decide (i=7)),.bl (decide (i=8))]))):=aS hl1 (s3.trans s4);have g5:(upd (upd G3 l3 (.lst [.bl (decide (i=7)),.bl (decide (i=8))])) l1 (.lst ([.bl (decide (i=0)),.bl (decide (i=1)),.bl (decide (i=2)),.bl (decide (i=3)),.bl (decide (i=4)),.bl (decide (i=5)),.bl (decide (i=6))]++[.bl (decide (i=7)),.bl (decide (i=8))]))) l1=some (.lst ((bs9 i).map V.bl)):=ac;generalize upd (upd G3 l3 (.lst [.bl (decide (i=7)),.bl (decide (i=8))])) l1 (.lst ([.bl (decide (i=0)),.bl (decide (i=1)),.bl (decide (i=2)),.bl (decide (i=3)),.bl (decide (i=4)),.bl (decide (i=5)),.bl (decide (i=6))]++[.bl (decide (i=7)),.bl (decide (i=8))]))=G5 at s5 g5⊢;refine⟨au (show 9≤1000 by decide),λl4 hl4=>?_⟩;have s6:=s5.trans (ag (o:=.lst (W9.map V.str)) hl4);have g6:=bj (o:=.lst (W9.map V.str)) hl4 g5;have g7:upd G5 l4 (.lst (W9.map V.str)) l4=some (.lst (W9.map V.str)):=ac;show iY _ _ _ _ (upd G5 l4 (.lst (W9.map V.str)));generalize upd G5 l4 (.lst (W9.map V.str))=G6 at s6 g6 g7⊢;obtain⟨b1,b2,b3⟩:=vI O.lt;refine⟨_,rfl,.inl ⟨rfl,_,SqL.of g6⟩,l1,bs9 i,rfl,rfl,g6,rfl,_,rfl,?_⟩;rw[b1];refine aE ⟨_,rfl,ea,B i,_,_,rfl,s6 _ _ hea,O.xc,.inl ⟨_,rfl,O.val⟩,_,rfl,aE ?_⟩;refine⟨_,rfl,_,rfl,.inl ⟨rfl,_,SqL.of g6⟩,l1,i,bs9 i,rfl,rfl,g6,(show 9≤1000 by decide),b2,b3,l4,_,_,_,rfl,rfl,SqL.of g7,cX (v:=.str x) ?_,q _ s6⟩;rw[getElem?_map,hx];rfl
def pz(K:PySem.W.Frag):Sp:=λvs H Q _=>∃a k,vs=[.ref a,.int k]∧0≤k∧ee K H a∧∀r H',Same H H'→Q (.int r) H'
theorem yg:FnScope ["_law_script","_law_k"] ["_law_script","_law_k"] (ah sF):=fsc
theorem vK{f:Addr}{fd:FuncData}(F:Fun K "_law_cell" "_law_cell" sF f fd)(T:Txt mg):FnOk P w K mg base CX0 1 f fd ["_law_script","_law_k"] (pz K):=by
 refine F.ok yg (λvs H Q E h=>?_) (λcdv A outer s H vs Q E hr h=>?_)
 ·obtain⟨a,k,rfl,_⟩:=h;rfl
 ·obtain⟨a,k,rfl,hk,⟨ns,ea⟩,q⟩:=h;refine⟨_,ae (aW (am pE (pv 1) (aO bY rfl T.len boot_len (aa (pv 0) af)) (aw _)) (aj (ax (av cG (pv 0) (pv 1) (λ_ _=>rfl)))) aB)
   (ae (aW (am (fe hr.units0) (pv 0) (bx af) (aw _)) (aj (ax ai)) aB)
   (aj (ax (aK bu (aK dS (av cG (pv 0) (aK jn (pv 1) (aO bY rfl T.len boot_len (aa (pv 0) af))) (λ_ _=>rfl)) ai) (pv 1))))),?_⟩
  refine⟨_,rfl,_,rfl,a,_,rfl,.inl (ea),_,_,rfl,rfl,_,rfl,?_⟩;rw[length_map]
  by_cases h:k<(ns.length:Int)
  ·rw[decide_eq_true h];obtain⟨j,ej⟩:=nE hk h;exact aQ ⟨_,rfl,_,rfl,a,_,_,_,rfl,rfl,ea,ej,q _ _ (Same.refl _)⟩
  ·rw[decide_eq_false h];refine aE ⟨_,rfl,zero_le _,λp hp=>⟨a,p,_,rfl,rfl,((ag hp).seq ea),SqL.of ac,_,rfl,?_⟩⟩
   by_cases h0:ns=[]
   ·subst h0;exact aQ (q _ _ (ag hp))
   ·have hne:¬ns.map V.int=[]:=by simpa using h0
    rw[decide_eq_false hne];have hpos:0<ns.length:=List.length_pos_iff.mpr h0;have hm1:0≤k % (ns.length:Int):=Int.emod_nonneg _ (by omega);have hm2:k % (ns.length:Int)<ns.length:=Int.emod_lt_of_pos _ (by omega);obtain⟨j,ej⟩:=nE hm1 hm2;have ej':atI (ns.map V.int) (k % ((ns.map V.int).length:Int))=some (.int j):=by rw[length_map];exact ej
    exact aE ⟨_,rfl,_,rfl,_,rfl,a,_,rfl,.inl (((ag hp).seq ea)),_,_,rfl,rfl,by rw[length_map];omega,a,_,_,_,rfl,rfl,((ag hp).seq ea),ej',_,_,rfl,rfl,.inr ⟨by decide,by decide⟩,_,rfl,_,_,rfl,rfl,q _ _ (ag hp)⟩
def eP(K:PySem.W.Frag):Sp:=λvs H Q _=>∃a k m,vs=[.ref a,.int k,.int m]∧0≤k∧0<m∧ee K H a∧∀r H',0≤r→r<m→Same H H'→Q (.int r) H'
theorem tZ:FnScope ["_law_script","_law_k","_law_many","_law_drawn"] ["_law_script","_law_k","_law_many"] (ah sG):=fsc
theorem vL{f:Addr}{fd:FuncData}(F:Fun K "_law_pick" "_law_pick" sG f fd)(T:Txt mg)(C:Has P w K mg base 1 "_law_cell" ["_law_script","_law_k"] (pz K)):FnOk P w K mg base CX0 2 f fd ["_law_script","_law_k","_law_many"] (eP K):=by
 obtain⟨fC,fdC,GC,mC,kC,bC⟩:=C;refine F.ok tZ (λvs H Q E h=>?_) (λcdv A outer s H vs Q E hr h=>?_)
 ·obtain⟨a,k,m,rfl,_⟩:=h;rfl
 ·obtain⟨a,k,m,rfl,hk,hm,hS,q⟩:=h;refine⟨_,(ae (ap (i:=3) tZ.nd rfl (Or.inl rfl) (aK jn (aK dS (aK bu (ak GC hr rfl mC kC bC .nil aI (aa (pv 0) (aa (pv 1) af))) (aK dS ai (aK bu (pv 1) ai))) ai) ai))
   (aj (ax (aK jn (aK jn (aK bu (aK dS (pv 3) (pv 3)) (aK lw (pv 3) ai)) ai) (pv 2))))),?_⟩
  refine⟨_,rfl,_,rfl,a,k,rfl,hk,hS,λr H1 s1=>?_⟩;refine⟨_,rfl,_,_,rfl,rfl,_,_,rfl,rfl,.inl ⟨by decide,by decide⟩,_,_,rfl,rfl,_,_,rfl,rfl,.inr ⟨by decide,by decide⟩,_,_,rfl,rfl,(by decide:(0:Int)<2147483399),?_⟩;generalize hd:(r+6151*(k+1))*40692 % 2147483399=dr;have d0:0≤dr:=by rw[←hd];exact Int.emod_nonneg _ (by decide)
  have d1:dr<2147483399:=by rw[←hd];exact Int.emod_lt_of_pos _ (by decide)
  refine⟨_,rfl,_,rfl,_,_,rfl,rfl,.inl ⟨by omega,by omega⟩,_,rfl,_,_,rfl,rfl,⟨by decide,by decide⟩,_,_,rfl,rfl,_,_,rfl,rfl,(by decide:(0:Int)<2147483629),_,rfl,_,_,rfl,rfl,hm,?_⟩;exact q _ _ (Int.emod_nonneg _ (by omega)) (Int.emod_lt_of_pos _ hm) s1
def iC(K:PySem.W.Frag):Sp:=λvs H Q _=>∃a at' m,vs=[.ref a,.int at',.int m]∧0≤at'∧0≤m∧m≤9∧ee K H a∧∀t zs H',H' t=some (.tup (ba zs))→At H' zs→(zs.length:Int)≤m→TW.Tree (nds zs)→(∀z∈zs,uS z.2)→Same H H'→Q (.ref t) H'
theorem scB:FnScope ["_law_script","_law_at","_law_most","_law_left","_law_folders","_law_nodes","_law_k","_law_number","_law_parent","_law_name","_law_stamp"] ["_law_script","_law_at","_law_most"] (ah iN):=fsc
def buS(i:Nat):Stmt:=match (bp iN).getD 3 (.Pass ⟨0,0,0,0⟩)with
 |.For _ _ b _ _=>b.getD i (.Pass ⟨0,0,0,0⟩)
 |x=>x
abbrev BX(P:Program)(w:World)(K:PySem.W.Frag)(mg:Str→Option Value)(base:Heap)(f:Addr)(cdv:Value)(A:Around)(outer:List Env)(s:Shared)(H:Hp)(E:XK):Cx:=(fJ CX0 P w K mg base ["_law_script","_law_at","_law_most","_law_left","_law_folders","_law_nodes","_law_k","_law_number","_law_parent","_law_name","_law_stamp"] "_law_tree" (ah iN) f cdv A outer s H E).nox
theorem yT{f:Addr}{cdv:Value}{A:Around}{outer:List Env}{s:Shared}{H0:Hp}{E:XK}(hr:Room 2 (A.deeper (PyProof.Rows.envOfC "_law_tree" (ah iN) s.heap.objs.size f cdv))):
  ∃t,PS (BX P w K mg base f cdv A outer s H0 E) (buS 5) t∧∀(D:Ends)(H H6:Hp)(pl pf pn:Addr)(x0 x1 x2 x6:Option V)(lf:List Int)(zs:ZN)(num par:Int)(nm:Str)(st:Option Int),Sta H pl pf pn H6 lf (0::TW.be (nds zs)) zs→zs.length≤20 →
   (∀H',Sta H pl pf pn H' lf (0::TW.be (nds zs)) zs→D.nx [x0,x1,x2,some (.ref pl),some (.ref pf),some (.ref pn),x6,some (.int num),some (.int par),some (.str nm),some (stV st)] H') →
   (∀q H',(∀z∈zs,¬(z.2.par=par∧z.2.nm=nm))→Sta H pl pf pn H' lf (0::TW.be (nds (zs++[(q,⟨num,par,nm,st⟩)]))) (zs++[(q,⟨num,par,nm,st⟩)])→D.nx [x0,x1,x2,some (.ref pl),some (.ref pf),some (.ref pn),x6,some (.int num),some (.int par),some (.str nm),some (stV st)] H') →
   t D [x0,x1,x2,some (.ref pl),some (.ref pf),some (.ref pn),x6,some (.int num),some (.int par),some (.str nm),some (stV st)] H6:=by
 refine⟨_,aW (am (jU (aN hr)) (bn (aa (pv 8) (aa (pv 9) af))) (ik (N:=["_law_node"]) (k:=1) (js:=[]) (g:=bg 0) rfl (eL rfl (by decide +kernel) (by decide +kernel) (by decide +kernel)) rfl (λi j x h=>by simp at h)
     (ce (pv 5)) (λs H fp=>aG (i:=0) (show(["_law_node"]:List Str).Nodup by decide +kernel) rfl (Or.inl rfl) (Or.inr rfl))
     (λs H fp=>bX (r:=jR K) cT (pv 0) (bv ai) (bv ai))) rfl) (ae (bz (dL plainAttrs_list PySem.F.slot_list_append PySem.F.type_list_append bA (pv 5) (aa (bn (aa (pv 7) (aa (pv 8) (aa (pv 9) (aa (pv 10) af))))) af))) (aj (aW (am eK (pv 10) bJ (aw _)) (aj (bz (dL plainAttrs_list PySem.F.slot_list_append PySem.F.type_list_append bA (pv 4) (aa (pv 7) af)))) aB))) aB,?_⟩
 intro D H H6 pl pf pn x0 x1 x2 x6 lf zs num par nm st A6 hzl qs qa;refine⟨_,rfl,_,rfl,le2,λq0 hq0=>?_⟩;have A7:=A6.grow (ag (o:=.tup [.int par,.str nm]) hq0);have eq0:(upd H6 q0 (.tup [.int par,.str nm])) q0=some (.tup ([Sum.inl par,Sum.inr nm].map kV)):=ac;refine⟨_,rfl,pn,rfl,⟨_,SqL.of A7.n⟩,λp hp=>?_⟩;generalize upd H6 q0 (.tup [.int par,.str nm])=H7 at A7 eq0 hp⊢;refine vV (k:=1) (js:=[]) (J:=Itl K pn) (p:=p) zs.length (by omega) (λi ys σ' H'=>∃kss:List (Addr×List Key),ys=(kss.map (·.1)).map V.ref∧kss.map (·.2)=((nds zs).take i).map plK∧kss.length=i∧(∀z∈kss,H' z.1=some (.tup (z.2.map kV)))∧σ'.length=1∧Same H7 H'∧H' p=some (.lst ys))
  ⟨[],rfl,rfl,rfl,by simp,rfl,ag hp,ac⟩ (λi ys σ' H' h=>?_) (λi ys σ' H' hi h=>?_) (λys σ' H' h=>?_) (λi ys σ' H' hi h v H2 hy=>?_) ?_ ?_
 ·obtain⟨kss,rfl,_,e,_⟩:=h;rw[length_map,length_map];omega
 ·obtain⟨_,_,_,_,_,_,s2,_⟩:=h;exact⟨_,_,SqL.of (s2 _ _ A7.n),jz (getElem?_eq_getElem hi)⟩
 ·obtain⟨kss,e1,e2,e3,e4,_,s2,e5⟩:=h;refine⟨⟨_,SqL.of (s2 _ _ A7.n),by rw[cf];exact le_refl _⟩,?_⟩;subst e1;refine⟨q0,p,_,kss,rfl,s2 _ _ eq0,rfl,SqL.of e5,e4,_,rfl,?_⟩;rw[List.take_of_length_le (by rw[cI];exact le_refl _)]at e2;have A8:=A7.grow s2;cases ea:(kss.any λz=>decide (z.2=[Sum.inl par,Sum.inr nm]))with
  |true=>exact aE (qs _ A8)
  |false =>
   have ho:∀z∈zs,¬(z.2.par=par∧z.2.nm=nm):=λz hz ⟨h1,h2⟩=>by
    have m1:plK z.2∈kss.map (·.2):=by rw[e2];exact mem_map.mpr ⟨z.2,mem_map.mpr ⟨z,hz,rfl⟩,rfl⟩
    obtain⟨y,hy,ey⟩:=mem_map.mp m1;have:(kss.any λz=>decide (z.2=[Sum.inl par,Sum.inr nm]))=true:=any_eq_true.mpr ⟨y,hy,by rw[decide_eq_true_eq,ey];unfold plK;rw[h1,h2]⟩;rw[ea]at this;cases this
   refine aQ ⟨_,rfl,.inl ⟨rfl,_,SqL.of A8.n⟩,_,rfl,_,rfl,_,rfl,_,rfl,(show 4≤sizeLine from au (by decide)),λq hq=>⟨pn,_,_,rfl,rfl,bj hq A8.n,aJ (by rw[cf];omega),?_⟩⟩;have A9:=(A8.grow (ag (o:=.tup (vals ⟨num,par,nm,st⟩)) hq)).node (n:=⟨num,par,nm,st⟩) ac;refine⟨_,rfl,rfl,_,rfl,?_⟩;cases st with
   |some i5 =>
    have ef:(0::TW.be (nds zs))=(0:Int)::TW.be (nds (zs++[(q,⟨num,par,nm,some i5⟩)])):=by simp[TW.be,nds]
    rw[ef]at A9;exact aE (qa q _ ho A9)
   |none =>
    refine aQ ⟨_,rfl,.inl ⟨rfl,_,SqL.of A9.f⟩,_,rfl,pf,_,_,rfl,rfl,A9.f,aJ ?_,?_⟩
    ·have:=TW.eJ (nds zs);rw[cI]at this;rw[length_map,length_cons];omega
    ·have A10:=A9.fold num;have ef:(0::TW.be (nds zs))++[num]=(0:Int)::TW.be (nds (zs++[(q,⟨num,par,nm,none⟩)])):=by simp[TW.be,nds]
     rw[ef]at A10;exact qa q _ ho A10
 ·obtain⟨kss,e1,e2,e3,e4,e0,s2,e5⟩:=h;obtain⟨o1,rfl⟩:=xg e0;obtain⟨rfl,hx⟩:=hy;have gx:=hx _ (SqL.of (s2 _ _ A7.n));obtain⟨z1,g1,rfl⟩:=cZ gx;have m1:=mem_of_getElem? g1;have ecut:dz (vals z1.2) (some 1) (some 3)=[.int z1.2.par,.str z1.2.nm]:=rfl;refine⟨_,rfl,_,rfl,_,rfl,z1.1,_,rfl,SqT.of (s2 _ _ (A7.nd z1 m1)),(λh=>by have h1:(1:Nat)=0:=h.1;cases h1),λq hq=>?_⟩;rw[ecut];refine⟨bj hq e5,kss++[(q,plK z1.2)],by rw[e1];simp,?_,by simp[e3],?_,rfl,aS hp (s2.trans (ag hq)),ac⟩
  ·rw[map_append,e2,take_succ,show(nds zs)[i]?=some z1.2 by unfold nds;rw[getElem?_map,g1];rfl,map_append];rfl
  ·intro z hz;have hqp:q≠p:=λz=>by rw[z,e5]at hq;cases hq
   rcases mem_append.mp hz with hz|hz
   ·have:=bj (o:=.tup [.int z1.2.par,.str z1.2.nm]) hq (e4 z hz);rw[ao]
    ·exact this
    ·intro e;rw[e,ao (symm hqp),e5]at this;cases this
   ·have e:z=(q,plK z1.2):=by simpa using hz
    subst e;rw[ao hqp];exact ac
 ·rintro _ _ _ _ _ m h;exact m _ _ h
 ·rintro _ _ _ _ m ⟨v1,b0,i1,b1,i2,b2,a2,x2,c1,c2,c3,q⟩;exact⟨v1,b0,i1,b1,i2,b2,a2,x2,c1,c2,c3,λp hp=>m _ _ (q p hp)⟩
theorem ua{f:Addr}{fd:FuncData}(F:Fun K "_law_tree" "_law_tree" iN f fd)(T:Txt mg)(C:Has P w K mg base 2 "_law_pick" ["_law_script","_law_k","_law_many"] (eP K)):FnOk P w K mg base CX0 3 f fd ["_law_script","_law_at","_law_most"] (iC K):=by
 obtain⟨fP,fdP,GP,mP,kP,bP⟩:=C;refine F.ok scB (λvs H Q E h=>?_) (λcdv A outer s H vs Q E hr h=>?_)
 ·obtain⟨a,at',m,rfl,_⟩:=h;rfl
 ·obtain⟨a,at',m,rfl,ha0,hm0,hm9,hS,k⟩:=h;obtain⟨t5,p5,h5⟩:=yT (P:=P) (w:=w) (mg:=mg) (base:=base) (f:=f) (cdv:=cdv) (A:=A) (outer:=outer) (s:=s) (H0:=H) (E:=E) hr;refine⟨_,(ae (ap (i:=3) scB.nd rfl (Or.inl rfl) (bc (jW rfl) rfl T.list rfl (aa (bc qW rfl T.range rfl (aa ai (aa (aK bu (pv 2) ai) af))) af)))
    (ae (ap (i:=4) scB.nd rfl (Or.inl rfl) (bx (aa ai af)))
    (ae (ap (i:=5) scB.nd rfl (Or.inl rfl) (bx af))
    (ae (dh PassesOwn.never rfl (ka rfl T.range (aa (ak GP hr rfl mP kP bP .nil aI (aa (pv 0) (aa (pv 1) (aa (aK bu (pv 2) ai) af)))) af)) (aG (i:=6) scB.nd rfl (Or.inl rfl))
    (ae (ap (i:=7) scB.nd rfl (Or.inl rfl) (dL plainAttrs_list slot_list_pop type_list_pop rV (pv 3) (aa (ak GP hr rfl mP kP bP .nil aI (aa (pv 0) (aa (aK bu (aK bu (pv 1) ai) (aK dS ai (pv 6))) (aa (aO bY rfl T.len boot_len (aa (pv 3) af)) af)))) af)))
    (ae (ap (i:=8) scB.nd rfl (Or.inl rfl) (av cG (pv 4) (ak GP hr rfl mP kP bP .nil aI (aa (pv 0) (aa (aK bu (aK bu (pv 1) ai) (aK dS ai (pv 6))) (aa (aO bY rfl T.len boot_len (aa (pv 4) af)) af)))) (λ_ _=>rfl)))
    (ae (ap (i:=9) scB.nd rfl (Or.inl rfl) (av cG (bx (aa aC (aa aC (aa aC (aa aC af))))) (ak GP hr rfl mP kP bP .nil aI (aa (pv 0) (aa (aK bu (aK bu (pv 1) ai) (aK dS ai (pv 6))) (aa ai af)))) (λ_ _=>rfl)))
    (ae (ap (i:=10) scB.nd rfl (Or.inl rfl) bJ)
    (ae (aW (am vS (ak GP hr rfl mP kP bP .nil aI (aa (pv 0) (aa (aK bu (aK bu (pv 1) ai) (aK dS ai (pv 6))) (aa ai af)))) ai (aw _)) (aj (ap (i:=10) scB.nd rfl (Or.inl rfl) (av cG (bx (aa ai (aa ai (aa ai (aa ai af))))) (ak GP hr rfl mP kP bP .nil aI (aa (pv 0) (aa (aK bu (aK bu (pv 1) ai) (aK dS ai (pv 6))) (aa ai af)))) (λ_ _=>rfl)))) aB)
    (aj p5)))))))
    (aj (ax (bc cj rfl T.tuple rfl (aa (aO iJ rfl T.sorted boot_sorted (aa (pv 5) af)) af)))))))),?_⟩
  refine⟨_,rfl,_,_,rfl,rfl,_,_,rfl,λp1 hp1=>⟨p1,_,_,rfl,ac,⟨by decide,by decide,by omega,by omega⟩,by omega,λpl hpl=>?_⟩⟩;refine⟨au (by decide),λpf hpf=>⟨zero_le _,λpn hpn=>?_⟩⟩;have s0:Same H (upd (upd (upd (upd H p1 (.rng 1 (m+4))) pl (.lst ((List.range (m+4-1:Int).toNat).map λk=>V.int (1+(k:Nat))))) pf (.lst [.int 0])) pn (.lst [])):=(((ag hp1).trans (ag hpl)).trans (ag hpf)).trans (ag hpn);have hfl:pl≠pf:=λe=>by rw[←e,ac]at hpf;cases hpf
  have hln:pl≠pn:=λe=>by rw[←e,ao hfl,ac]at hpn;cases hpn
  have hfn:pf≠pn:=λe=>by rw[←e,ac]at hpn;cases hpn
  have A0:Sta H pl pf pn (upd (upd (upd (upd H p1 (.rng 1 (m+4))) pl (.lst ((List.range (m+4-1:Int).toNat).map λk=>V.int (1+(k:Nat))))) pf (.lst [.int 0])) pn (.lst [])) (lf0 m) [0] [] :=
   ⟨s0,by rw[ao hln,ao hfl,ac,lf0,map_map];rfl,by rw[ao hfn,ac];rfl,ac,λz hz=>by simp at hz,(ag hp1).free hpl,((ag hp1).trans (ag hpl)).free hpf,(((ag hp1).trans (ag hpl)).trans (ag hpf)).free hpn,hfl,hln,hfn⟩
  have B0:Bd [] (lf0 m):=Bd.zero hm9;refine⟨_,rfl,_,rfl,_,rfl,_,_,rfl,rfl,a,_,_,rfl,ha0,by omega,hS.same s0,λr H1 r0 r1 s1=>⟨r,rfl,by omega,by omega,?_⟩⟩;refine kb (n:=r.toNat) (λi σ H'=>∃lf zs o6 o7 o8 o9 o10,σ=[some (.ref a),some (.int at'),some (.int m),some (.ref pl),some (.ref pf),some (.ref pn),o6,o7,o8,o9,o10]∧Sta H pl pf pn H' lf (0::TW.be (nds zs)) zs∧Bd zs lf∧(lf.length:Int)+i=m+3∧zs.length≤i)
   ⟨_,[],_,_,_,_,_,rfl,A0.grow s1,B0,by rw[uU hm0];omega,le_refl _⟩ (λi σ H' hi h=>?_) (λσ H' h=>?_)
  ·obtain⟨lf,zs,o6,o7,o8,o9,o10,rfl,A1,B,hlf,hzl⟩:=h;have hi8:i<10:=by omega
   have z0:(0:Int)≤at'+1+6*(0+(i:Int)):=by omega
   refine⟨_,rfl,.inl ⟨rfl,_,SqL.of A1.l⟩,_,rfl,_,rfl,_,_,rfl,rfl,_,rfl,_,_,rfl,rfl,.inl ⟨by decide,by decide⟩,_,_,rfl,rfl,_,rfl,pl,_,rfl,.inl (SqL.of A1.l),a,_,_,rfl,by omega,by rw[length_map];omega,hS.same A1.same,λj H2 j0 j1 s2=>?_⟩;rw[length_map]at j1;have A2:=A1.grow s2;obtain⟨num,gnum⟩:∃num,lf[j.toNat]?=some num:=⟨_,getElem?_eq_getElem (by omega)⟩;refine⟨pl,_,j,j.toNat,.int num,rfl,rfl,A2.l,by omega,by omega,by rw[length_map];exact xi j0 j1,by rw[getElem?_map,gnum];rfl,?_⟩;rw[kJ];have A3:=A2.pop (lf.eraseIdx j.toNat);have elen:(lf.eraseIdx j.toNat).length=lf.length-1:=List.length_eraseIdx_of_lt (by omega);generalize upd H2 pl (.lst ((lf.eraseIdx j.toNat).map V.int))=H3 at A3⊢;refine⟨_,rfl,_,rfl,_,rfl,_,_,rfl,rfl,_,rfl,_,_,rfl,rfl,.inl ⟨by decide,by decide⟩,_,_,rfl,rfl,_,rfl,pf,_,rfl,.inl (SqL.of A3.f),a,_,_,rfl,by omega,by rw[length_map,length_cons];omega,hS.same A3.same,λj2 H4 j20 j21 s4=>?_⟩;rw[length_map]at j21;obtain⟨par,mpar,gpar⟩:=pT j20 j21;have A4:=A3.grow s4;refine⟨pf,_,_,_,rfl,rfl,SqL.of A4.f,gpar,?_⟩;refine⟨au (by decide),λp3 hp3=>?_⟩;have A5:=A4.grow (ag (o:=.lst [.str "a",.str "b",.str "c",.str "abcde"]) hp3);refine⟨_,rfl,_,rfl,_,_,rfl,rfl,_,rfl,_,_,rfl,rfl,.inl ⟨by decide,by decide⟩,_,_,rfl,rfl,a,_,_,rfl,by omega,by decide,hS.same A5.same,λj3 H5 j30 j31 s5=>?_⟩;obtain⟨nm,hnm,gnm⟩:=pU j30 j31;refine⟨p3,_,_,_,rfl,rfl,SqL.of (s5 _ _ ac),gnm,?_⟩;have A6:=A5.grow s5;refine⟨_,rfl,_,rfl,_,_,rfl,rfl,_,rfl,_,_,rfl,rfl,.inl ⟨by decide,by decide⟩,_,_,rfl,rfl,a,_,_,rfl,by omega,by decide,hS.same A6.same,λj4 H6 j40 j41 s6=>⟨_,_,rfl,rfl,_,rfl,?_⟩⟩;have A6':=A6.grow s6;refine qR (λhgt=>?_) (λhgt=>?_)
   ·refine⟨au (by decide),λp5 hp5=>?_⟩;have A65:=A6'.grow (ag (o:=.lst [.int 0,.int 1,.int 2,.int 999]) hp5);refine⟨_,rfl,_,rfl,_,_,rfl,rfl,_,rfl,_,_,rfl,rfl,.inl ⟨by decide,by decide⟩,_,_,rfl,rfl,a,_,_,rfl,by omega,by decide,hS.same A65.same,λj5 H65 j50 j51 s65=>?_⟩;obtain⟨i5,hst5,gst⟩:=uT j50 j51;refine⟨p5,_,_,_,rfl,rfl,SqL.of (s65 _ _ ac),gst,?_⟩;have A66:=A65.grow s65;exact h5 _ H H65 pl pf pn _ _ _ _ (lf.eraseIdx j.toNat) zs num par nm (some i5) A66 (by omega) (λH' A8=>⟨_,zs,_,_,_,_,_,rfl,A8,B.skip _,by rw[elen];omega,by omega⟩)
     (λq H' ho A9=>⟨_,_,_,_,_,_,_,rfl,A9,B.add (q:=q) (n:=⟨num,par,nm,(some i5)⟩) gnum mpar ho hnm hst5,by rw[elen];omega,by rw[length_append,length_singleton];omega⟩)
   ·exact h5 _ H H6 pl pf pn _ _ _ _ (lf.eraseIdx j.toNat) zs num par nm none A6' (by omega) (λH' A8=>⟨_,zs,_,_,_,_,_,rfl,A8,B.skip _,by rw[elen];omega,by omega⟩)
     (λq H' ho A9=>⟨_,_,_,_,_,_,_,rfl,A9,B.add (q:=q) (n:=⟨num,par,nm,none⟩) gnum mpar ho hnm (.inl rfl),by rw[elen];omega,by rw[length_append,length_singleton];omega⟩)
  ·obtain⟨lf,zs,o6,o7,o8,o9,o10,rfl,A1,B,hlf,hzl⟩:=h;have hzl8:(zs.length:Int)≤m:=by omega
   have hnum:(zs.map tp).map (·.2.1)=(nds zs).map (·.num):=by
    unfold nds;simp only[map_map];rfl
   have hnd:((nds zs).map (·.num)).Nodup:=(nodup_append.mp B.nd).1;refine⟨_,rfl,pn,zs.map tp,rfl,SqL.of (by rw[A1.n,je]),λz hz=>?_,by rw[hnum];exact hnd,by rw[length_map];omega,λts pm up p hp=>?_⟩
   ·obtain⟨y,hy,rfl⟩:=mem_map.mp hz;exact A1.nd y hy
   ·obtain⟨pm2,eb⟩:=back pm;have er:(ts.map (·.1)).map V.ref=ba (ts.map un):=by rw[←je,eb]
    rw[er];refine⟨p,_,rfl,.inl ⟨SqL.of ac,λl hl=>?_⟩⟩;have mem:∀z,z∈ts.map un→z∈zs:=λz hz=>pm2.mem_iff.mp hz;refine k l (ts.map un) _ ac ?_ (by rw[pm2.length_eq];exact hzl8) ?_ (λz hz=>B.ok z (mem z hz)) ((A1.same.trans (ag hp)).trans (ag hl))
    ·intro z hz;exact((ag hp).trans (ag hl)) _ _ (A1.nd z (mem z hz))
    ·refine TW.uQ B.built (pm2.map _) ?_ hnd B.own;unfold nds;rw[pairwise_map];have up2:((ts.map un).map tp).Pairwise (λa b=>a.2.1<b.2.1):=by rw[eb];exact up
     rw[pairwise_map]at up2;exact up2.imp λh=>Int.le_of_lt h
end
def edS(i:Nat):Stmt:=(bp iW).getD i (.Pass ⟨0,0,0,0⟩)
def EN:List Str:=["_law_script","_law_at","_law_tree_here","_law_numbers","_law_some","_law_number","_law_folders","_law_parent","_law_name","_law_way","_law_stamp","_law_new"]
theorem eQ:FnScope EN ["_law_script","_law_at","_law_tree_here"] (ah iW):=fsc
abbrev EX(P:Program)(w:World)(K:PySem.W.Frag)(mg:Str→Option Value)(base:Heap)(f:Addr)(cdv:Value)(A:Around)(outer:List Env)(s:Shared)(H:Hp)(E:XK):Cx:=(fJ CX0 P w K mg base EN "_law_deed" (ah iW) f cdv A outer s H E).nox
def edσ(a t:Addr)(at':Int)(x3 x4 x5 x6 x7 x8 x9 x10 x11:Option V):St:=[some (.ref a),some (.int at'),some (.ref t),x3,x4,x5,x6,x7,x8,x9,x10,x11]
section
variable{P:Program}{w:World}{K:PySem.W.Frag}{mg:Str→Option Value}{base:Heap}{f:Addr}{cdv:Value}{A:Around}{outer:List Env}{s:Shared}{H0:Hp}{E:XK}
theorem ed0:∃t,PS (EX P w K mg base f cdv A outer s H0 E) (edS 0) t∧∀(D:Ends)(H:Hp)(a t':Addr)(at':Int)(zs:ZN),Tre H t' zs →
   (∀p H',Same H H'→H' p=some (.lst (((nds zs).map (·.num)).map V.int))→D.nx (edσ a t' at' (some (.ref p)) none none none none none none none none) H')→t D (edσ a t' at' none none none none none none none none none) H:=by
 refine⟨_,nD (ii:=3) (N:=["_law_node"]) (cl:=[]) (k:=1) (js:=[]) (g:=bg 0) eQ.nd rfl (Or.inl rfl) rfl (eL rfl (by decide +kernel) (by decide +kernel) (by decide +kernel)) rfl (λi j x h=>by simp at h)
  (cS (pv 2)) (λs H fp=>aG (i:=0) (show(["_law_node"]:List Str).Nodup by decide +kernel) rfl (Or.inl rfl) (Or.inr rfl)) (λs H fp=>av (r:=cw K) aq (pv 0) ai (λ_ _=>rfl)),?_⟩
 intro D H a t' at' zs tr q;have hl:=tr.len;refine⟨_,rfl,t',rfl,⟨_,SqT.of tr.tup⟩,λp hp=>?_⟩;refine eI (fr:=[]) zs (λz=>V.ref z.1) (by omega) hp (eG (by rw[cg];exact SqT.of tr.tup)) rfl (λz y _=>y=.int z.2.num) (λz y H H' h _=>h) (λz H' k mz s1 _ hk=>⟨_,rfl,z.1,_,_,_,rfl,rfl,SqT.of (s1 _ _ (tr.nod z mz)),at0 z.2,hk _ H' (Same.refl _) rfl⟩) (λys H' s1 hp' hys=>?_);have ey:=aY (f:=λz:Addr×Nd=>V.int z.2.num) hys (λz y _ h=>h);refine q p H' s1 ?_;rw[hp',ey];unfold nds;rw[map_map,map_map];rfl
theorem ed1:∃t,PS (EX P w K mg base f cdv A outer s H0 E) (edS 1) t∧∀(D:Ends)(H:Hp)(a t' p:Addr)(at':Int)(ns:List Int),H p=some (.lst (ns.map V.int))→ns.length≤60 →
   (∀q H',Same H H'→H' q=some (.lst ((ns++ns++ns++[55]).map V.int))→D.nx (edσ a t' at' (some (.ref p)) (some (.ref q)) none none none none none none none) H')→t D (edσ a t' at' (some (.ref p)) none none none none none none none none) H:=by
 refine⟨_,ap (i:=4) eQ.nd rfl (Or.inl rfl) (aK fc (aK fc (aK fc (pv 3) (pv 3)) (pv 3)) (bx (aa ai af))),?_⟩;intro D H a t' p at' ns hp hl q;refine⟨_,rfl,_,rfl,p,p,_,_,rfl,rfl,hp,hp,au (by rw[length_map];omega),λp1 h1=>?_⟩;have s1:=ag (o:=.lst (ns.map V.int++ns.map V.int)) h1;refine⟨_,rfl,p1,p,_,_,rfl,rfl,ac,s1 _ _ hp,au (by rw[length_append,length_map];omega),λp2 h2=>?_⟩;have s2:=s1.trans (ag (o:=.lst (ns.map V.int++ns.map V.int++ns.map V.int)) h2);refine⟨au (show 1≤1000 by decide),λp3 h3=>?_⟩;have s3:=s2.trans (ag (o:=.lst [.int 55]) h3);refine⟨p2,p3,_,_,rfl,rfl,bj h3 ac,ac,au (by rw[length_append,length_append,length_map];show _+1≤1000;omega),λp4 h4=>?_⟩;refine q p4 _ (s3.trans (ag h4)) ?_;rw[ac];simp only[map_append,map_cons,map_nil]
theorem ed3:∃t,PS (EX P w K mg base f cdv A outer s H0 E) (edS 3) t∧∀(D:Ends)(H:Hp)(a t':Addr)(at':Int)(zs:ZN)(x3 x4 x5:Option V),Tre H t' zs →
   (∀p H' (fs:List Int),Same H H'→H' p=some (.lst (fs.map V.int))→(∀x∈fs,x=0∨∃m∈nds zs,m.num=x)→1≤fs.length→fs.length≤31→D.nx (edσ a t' at' x3 x4 x5 (some (.ref p)) none none none none none) H')→t D (edσ a t' at' x3 x4 x5 none none none none none none) H:=by
 refine⟨_,ap (i:=6) eQ.nd rfl (Or.inl rfl) (aK fc (cY (N:=["_law_node"]) (cl:=[]) (k:=1) (js:=[]) (g:=bg 0) rfl (eL rfl (by decide +kernel) (by decide +kernel) (by decide +kernel)) rfl (λi j x h=>by simp at h)
  (cS (pv 2)) (λs H fp=>aG (i:=0) (show(["_law_node"]:List Str).Nodup by decide +kernel) rfl (Or.inl rfl) (Or.inr rfl)) (λs H fp=>am eK (av (r:=cw K) aq (pv 0) ai (λ_ _=>rfl)) bJ (aw _)) (λs H fp=>av (r:=cw K) aq (pv 0) ai (λ_ _=>rfl))) (bx (aa ai af))),?_⟩
 intro D H a t' at' zs x3 x4 x5 tr q;have hl:=tr.len;refine⟨_,rfl,t',rfl,⟨_,SqT.of tr.tup⟩,λp hp=>?_⟩;refine cy (fr:=[]) zs (λz=>V.ref z.1) (by omega) hp (eG (by rw[cg];exact SqT.of tr.tup)) rfl (λz=>decide (stV z.2.st=V.non)) (λz y _=>y=.int z.2.num) (λz y H H' h _=>h) (λz H' k mz s1 _ hk=>⟨_,rfl,z.1,_,_,_,rfl,rfl,SqT.of (s1 _ _ (tr.nod z mz)),at3 z.2,rfl,_,rfl,hk H' (Same.refl _)⟩)
  (λz H' k mz _ s1 _ hk=>⟨_,rfl,z.1,_,_,_,rfl,rfl,SqT.of (s1 _ _ (tr.nod z mz)),at0 z.2,hk _ H' (Same.refl _) rfl⟩) (λys H' s1 hp' hys=>?_)
 have ey:=aY (f:=λz:Addr×Nd=>V.int z.2.num) hys (λz y _ h=>h);have hfl:=length_filter_le (λz:Addr×Nd=>decide (stV z.2.st=V.non)) zs;have ey2:ys=((zs.filter λz:Addr×Nd=>decide (stV z.2.st=V.non)).map λz=>z.2.num).map V.int:=by rw[ey,map_map];rfl
 refine⟨au (show 1≤1000 by decide),λp2 h2=>?_⟩;refine⟨p,p2,_,_,rfl,rfl,bj h2 hp',ac,au (by rw[ey,length_map];show _+1≤1000;omega),λp3 h3=>?_⟩;refine q p3 _ (((zs.filter λz:Addr×Nd=>decide (stV z.2.st=V.non)).map λz=>z.2.num)++[0]) ((s1.trans (ag h2)).trans (ag h3)) ?_ (λx hx=>?_) (by simp) (by rw[length_append,length_map];simp;omega)
 ·rw[ac,ey2,map_append];rfl
 ·rcases mem_append.mp hx with h|h
  ·obtain⟨z,hz,rfl⟩:=mem_map.mp h;exact .inr ⟨z.2,aA (mem_filter.mp hz).1,rfl⟩
  ·exact .inl (by simpa using h)
end
def yh:List Stmt:=match edS 7 with
 |.If _ a _ _=>a
 |_=>[]
theorem uc{j:Int}(h0:0≤j)(h1:j<6):∃st,atI [V.non,.non,.int 0,.int 1,.int 2,.int 3] j=some (stV st)∧xk st:=by
 have hj:j=0∨j=1∨j=2∨j=3∨j=4∨j=5:=by omega
 rcases hj with rfl|rfl|rfl|rfl|rfl|rfl
 ·exact⟨none,rfl,λi e=>by cases e⟩
 ·exact⟨none,rfl,λi e=>by cases e⟩
 ·exact⟨some 0,rfl,λi e=>by cases e;decide⟩
 ·exact⟨some 1,rfl,λi e=>by cases e;decide⟩
 ·exact⟨some 2,rfl,λi e=>by cases e;decide⟩
 ·exact⟨some 3,rfl,λi e=>by cases e;decide⟩
theorem ud{j:Int}(h0:0≤j)(h1:j<4):∃i,atI [V.int 0,.int 1,.int 2,.int 998] j=some (.int i)∧0≤i∧i≤999:=by
 have hj:j=0∨j=1∨j=2∨j=3:=by omega
 rcases hj with rfl|rfl|rfl|rfl
 ·exact⟨0,rfl,by decide,by decide⟩
 ·exact⟨1,rfl,by decide,by decide⟩
 ·exact⟨2,rfl,by decide,by decide⟩
 ·exact⟨998,rfl,by decide,by decide⟩
theorem ue{j x y:Int}(h0:0≤j)(h1:j<5):∃z,atI [V.int x,.int y] (j / 4)=some (.int z)∧(z=x∨z=y):=by
 have hj:j / 4=0∨j / 4=1:=by omega
 rcases hj with e|e
 ·rw[e];exact⟨x,rfl,.inl rfl⟩
 ·rw[e];exact⟨y,rfl,.inr rfl⟩
section
variable{P:Program}{w:World}{K:PySem.W.Frag}{mg:Str→Option Value}{base:Heap}{f:Addr}{cdv:Value}{A:Around}{outer:List Env}{s:Shared}{H0:Hp}{E:XK}
theorem edM(hr:Room 2 (A.deeper (PyProof.Rows.envOfC "_law_deed" (ah iW) s.heap.objs.size f cdv)))(CP:Has P w K mg base 2 "_law_pick" ["_law_script","_law_k","_law_many"] (eP K)):
  ∃t,PSs (EX P w K mg base f cdv A outer s H0 E) yh t∧∀(D:Ends)(H:Hp)(a t':Addr)(at' n p:Int)(nm:Str)(x3 x4 x6 x9:Option V),ee K H a→0≤at'→1≤n→n≤60→0≤p→p≤60→nJ nm →
   (∀c dd H',Same H H'→H' c=some (.tup (aR dd))→eu dd→D.rt (.ref c) H')→t D (edσ a t' at' x3 x4 (some (.int n)) x6 (some (.int p)) (some (.str nm)) x9 none none) H:=by
 obtain⟨fP,fdP,GP,mP,kP,bP⟩:=CP;refine⟨_,ae (ap (i:=10) eQ.nd rfl (Or.inl rfl) (av cG (bx (aa bJ (aa bJ (aa ai (aa ai (aa ai (aa ai af))))))) (ak GP hr rfl mP kP bP .nil aI (aa (pv 0) (aa (aK bu (pv 1) ai) (aa ai af)))) (λ_ _=>rfl)))
  (ae (ap (i:=11) eQ.nd rfl (Or.inl rfl) (av cG (bx (aa (aK bu ai (ak GP hr rfl mP kP bP .nil aI (aa (pv 0) (aa (aK bu (pv 1) ai) (aa ai af))))) (aa (pv 5) af))) (aK lw (ak GP hr rfl mP kP bP .nil aI (aa (pv 0) (aa (aK bu (pv 1) ai) (aa ai af)))) ai) (λ_ _=>rfl)))
  (aj (ax (bn (aa aC (aa (pv 11) (aa (pv 7) (aa (pv 8) (aa (pv 10) af))))))))),?_⟩
 intro D H a t' at' n p nm x3 x4 x6 x9 hS hat hn1 hn2 hp1 hp2 hnm q;refine⟨au (show 6≤1000 by decide),λl1 hl1=>?_⟩;have s1:=ag (o:=.lst [.non,.non,.int 0,.int 1,.int 2,.int 3]) hl1;refine⟨_,rfl,_,rfl,_,_,rfl,rfl,a,_,_,rfl,by omega,by decide,hS.same s1,λj1 H1 j10 j11 s2=>?_⟩;obtain⟨st,est,hst⟩:=uc j10 j11;refine⟨l1,_,_,_,rfl,rfl,SqL.of (s2 _ _ ac),est,?_⟩;have s12:=s1.trans s2;refine⟨_,rfl,_,rfl,_,_,rfl,rfl,a,_,_,rfl,by omega,by decide,hS.same s12,λj2 H2 j20 j21 s3=>?_⟩;refine⟨_,_,rfl,rfl,_,rfl,le2,λl2 hl2=>?_⟩;have s13:=s12.trans s3;have s4:=s13.trans (ag (o:=.lst [.int (1+j2),.int n]) hl2);refine⟨_,rfl,_,rfl,_,_,rfl,rfl,a,_,_,rfl,by omega,by decide,hS.same s4,λj3 H3 j30 j31 s5=>?_⟩;obtain⟨nw,enw,hnw⟩:=ue (x:=1+j2) (y:=n) j30 j31;refine⟨_,_,rfl,rfl,⟨by decide,by decide⟩,l2,_,_,_,rfl,rfl,SqL.of (s5 _ _ ac),enw,?_⟩;refine⟨_,rfl,_,rfl,_,rfl,_,rfl,(show 5≤sizeLine from au (by decide)),λc hc=>?_⟩;refine q c (.make nw p nm st) _ ((s4.trans s5).trans (ag hc)) ac ⟨?_,?_,hp1,hp2,hnm,hst⟩
 ·rcases hnw with e|e<;>omega
 ·rcases hnw with e|e<;>omega
theorem ed7(hr:Room 2 (A.deeper (PyProof.Rows.envOfC "_law_deed" (ah iW) s.heap.objs.size f cdv)))(CP:Has P w K mg base 2 "_law_pick" ["_law_script","_law_k","_law_many"] (eP K)):
  ∃t,PS (EX P w K mg base f cdv A outer s H0 E) (edS 7) t∧∀(D:Ends)(H:Hp)(a t' pn:Addr)(at' n p wy:Int)(nm:Str)(ns:List Int)(x4 x6:Option V),ee K H a→0≤at'→1≤n→n≤60→0≤p→p≤60→nJ nm→H pn=some (.lst (ns.map V.int)) →
   (∀c dd H',Same H H'→H' c=some (.tup (aR dd))→eu dd→D.rt (.ref c) H')→(∀H',Same H H'→D.nx (edσ a t' at' (some (.ref pn)) x4 (some (.int n)) x6 (some (.int p)) (some (.str nm)) (some (.int wy)) none none) H') →
   t D (edσ a t' at' (some (.ref pn)) x4 (some (.int n)) x6 (some (.int p)) (some (.str nm)) (some (.int wy)) none none) H:=by
 obtain⟨tM,pM,hM⟩:=edM (f:=f) (cdv:=cdv) (outer:=outer) (H0:=H0) (E:=E) hr CP;refine⟨_,aW (PW.pt (pw_or (am pE (pv 9) ai (aw _)) (pw_or1 (am (fe hr.units0) (pv 3) (bx af) (aw _))))) pM aB,?_⟩;intro D H a t' pn at' n p wy nm ns x4 x6 hS hat hn1 hn2 hp1 hp2 hnm hpn q qn;refine⟨_,rfl,_,_,rfl,rfl,_,rfl,?_⟩;refine qR (λhlt=>?_) (λhlt=>?_)
 ·exact aQ (hM D H a t' at' n p nm _ _ _ _ hS hat hn1 hn2 hp1 hp2 hnm q)
 ·refine⟨_,rfl,zero_le _,λl hl=>?_⟩;have s1:=ag (o:=.lst []) hl;refine⟨pn,l,_,rfl,rfl,SqL.of (s1 _ _ hpn),SqL.of ac,_,rfl,?_⟩;refine qR (λ_=>?_) (λ_=>?_)
  ·exact hM D _ a t' at' n p nm _ _ _ _ (hS.same s1) hat hn1 hn2 hp1 hp2 hnm λc dd H' s'=>q c dd H' (s1.trans s')
  ·exact qn _ s1
theorem ed8(hr:Room 2 (A.deeper (PyProof.Rows.envOfC "_law_deed" (ah iW) s.heap.objs.size f cdv)))(CP:Has P w K mg base 2 "_law_pick" ["_law_script","_law_k","_law_many"] (eP K)):
  ∃t,PSs (EX P w K mg base f cdv A outer s H0 E) [edS 8,edS 9,edS 10] t∧∀(D:Ends)(H:Hp)(a t':Addr)(at' n p wy:Int)(nm:Str)(x3 x4 x6:Option V),ee K H a→0≤at'→1≤n→n≤60→0≤p→p≤60→nJ nm →
   (∀c dd H',Same H H'→H' c=some (.tup (aR dd))→eu dd→D.rt (.ref c) H') →
   t D (edσ a t' at' x3 x4 (some (.int n)) x6 (some (.int p)) (some (.str nm)) (some (.int wy)) none none) H:=by
 obtain⟨fP,fdP,GP,mP,kP,bP⟩:=CP;refine⟨_,ae (aW (am cv (pv 9) ai (aw _)) (aj (ax (bn (aa aC (aa (pv 5) (aa (av cG (bx (aa ai (aa ai (aa ai (aa ai af))))) (ak GP hr rfl mP kP bP .nil aI (aa (pv 0) (aa (aK bu (pv 1) ai) (aa ai af)))) (λ_ _=>rfl)) af)))))) aB)
  (ae (aW (am pE (pv 9) ai (aw _)) (aj (ax (bn (aa aC (aa (pv 5) (aa (pv 7) (aa (pv 8) af))))))) aB)
  (aj (ax (bn (aa aC (aa (pv 5) af)))))),?_⟩
 intro D H a t' at' n p wy nm x3 x4 x6 hS hat hn1 hn2 hp1 hp2 hnm q;refine⟨_,rfl,rfl,_,rfl,?_⟩;refine qR (λ_=>?_) (λ_=>?_)
 ·refine⟨_,rfl,au (show 4≤1000 by decide),λl1 hl1=>?_⟩;have s1:=ag (o:=.lst [.int 0,.int 1,.int 2,.int 998]) hl1;refine⟨_,rfl,_,rfl,_,_,rfl,rfl,a,_,_,rfl,by omega,by decide,hS.same s1,λj1 H1 j10 j11 s2=>?_⟩;obtain⟨i,ei,hi1,hi2⟩:=ud j10 j11;refine⟨l1,_,_,_,rfl,rfl,SqL.of (s2 _ _ ac),ei,(show 3≤sizeLine from au (by decide)),λc hc=>?_⟩;exact q c (.write n i) _ ((s1.trans s2).trans (ag hc)) ac ⟨hn1,hn2,hi1,hi2⟩
 ·refine⟨_,rfl,_,_,rfl,rfl,_,rfl,?_⟩;refine qR (λ_=>?_) (λ_=>?_)
  ·exact⟨_,rfl,_,rfl,_,rfl,(show 4≤sizeLine from au (by decide)),λc hc=>q c (.move n p nm) _ (ag hc) ac ⟨hn1,hn2,hp1,hp2,hnm⟩⟩
  ·exact⟨_,rfl,(show 2≤sizeLine from le2),λc hc=>q c (.drop n) _ (ag hc) ac ⟨hn1,hn2⟩⟩
def pA(K:PySem.W.Frag):Sp:=λvs H Q _=>∃a at' t zs,vs=[.ref a,.int at',.ref t]∧0≤at'∧ee K H a∧Tre H t zs∧(∀n∈nds zs,gm n)∧∀c dd H',Same H H'→H' c=some (.tup (aR dd))→eu dd→Q (.ref c) H'
theorem vM{f:Addr}{fd:FuncData}(F:Fun K "_law_deed" "_law_deed" iW f fd)(T:Txt mg)(CP:Has P w K mg base 2 "_law_pick" ["_law_script","_law_k","_law_many"] (eP K)):FnOk P w K mg base CX0 3 f fd ["_law_script","_law_at","_law_tree_here"] (pA K):=by
 obtain⟨fP,fdP,GP,mP,kP,bP⟩:=id CP;refine F.ok eQ (λvs H Q E h=>?_) (λcdv A outer s H vs Q E hr h=>?_)
 ·obtain⟨a,at',t,zs,rfl,_⟩:=h;rfl
 ·obtain⟨a,at',t,zs,rfl,hat,hS,tr,hok,q⟩:=h;obtain⟨t0,p0,h0⟩:=ed0 (P:=P) (w:=w) (K:=K) (mg:=mg) (base:=base) (f:=f) (cdv:=cdv) (A:=A) (outer:=outer) (s:=s) (H0:=H) (E:=E);obtain⟨t1,p1,h1⟩:=ed1 (P:=P) (w:=w) (K:=K) (mg:=mg) (base:=base) (f:=f) (cdv:=cdv) (A:=A) (outer:=outer) (s:=s) (H0:=H) (E:=E);obtain⟨t3,p3,h3⟩:=ed3 (P:=P) (w:=w) (K:=K) (mg:=mg) (base:=base) (f:=f) (cdv:=cdv) (A:=A) (outer:=outer) (s:=s) (H0:=H) (E:=E);obtain⟨t7,p7,h7⟩:=ed7 (f:=f) (cdv:=cdv) (outer:=outer) (H0:=H) (E:=E) hr CP;obtain⟨t8,p8,h8⟩:=ed8 (f:=f) (cdv:=cdv) (outer:=outer) (H0:=H) (E:=E) hr CP;refine⟨_,ae p0 (ae p1
   (ae (ap (i:=5) eQ.nd rfl (Or.inl rfl) (av cG (pv 4) (ak GP hr rfl mP kP bP .nil aI (aa (pv 0) (aa (pv 1) (aa (aO bY rfl T.len boot_len (aa (pv 4) af)) af)))) (λ_ _=>rfl)))
   (ae p3
   (ae (ap (i:=7) eQ.nd rfl (Or.inl rfl) (av cG (aK fc (aK fc (pv 6) (pv 6)) (pv 4)) (ak GP hr rfl mP kP bP .nil aI (aa (pv 0) (aa (aK bu (pv 1) ai) (aa (aK bu (aK dS ai (aO bY rfl T.len boot_len (aa (pv 6) af))) (aO bY rfl T.len boot_len (aa (pv 4) af))) af)))) (λ_ _=>rfl)))
   (ae (ap (i:=8) eQ.nd rfl (Or.inl rfl) (av cG (bx (aa aC (aa aC (aa aC (aa aC af))))) (ak GP hr rfl mP kP bP .nil aI (aa (pv 0) (aa (aK bu (pv 1) ai) (aa ai af)))) (λ_ _=>rfl)))
   (ae (ap (i:=9) eQ.nd rfl (Or.inl rfl) (ak GP hr rfl mP kP bP .nil aI (aa (pv 0) (aa (aK bu (pv 1) ai) (aa ai af)))))
   (ae p7 p8))))))),?_⟩
  have hl:=tr.len;have hnr:∀x∈(nds zs).map (·.num),1≤x∧x≤60:=λx hx=>by
   obtain⟨n,hn,rfl⟩:=mem_map.mp hx;exact⟨(hok n hn).1,(hok n hn).2.1⟩
  refine h0 _ H a t at' zs tr λpn H1 s1 hpn=>?_;generalize hns:(nds zs).map (·.num)=ns at hpn hnr;have hnl:ns.length=zs.length:=by rw[←hns,length_map,cI]
  refine h1 _ H1 a t pn at' ns hpn (by omega) λps H2 s2 hps=>?_;have hsr:∀x∈ns++ns++ns++[55],1≤x∧x≤60:=λx hx=>by
   rcases mem_append.mp hx with h|h
   ·rcases mem_append.mp h with h|h
    ·rcases mem_append.mp h with h|h<;>exact hnr x h
    ·exact hnr x h
   ·have:x=55:=by simpa using h
    omega
  have hsl:(ns++ns++ns++[55]).length≤100∧1≤(ns++ns++ns++[55]).length:=by simp;omega
  generalize ns++ns++ns++[55]=ss at hps hsr hsl⊢;have s12:=s1.trans s2;refine⟨_,rfl,_,rfl,_,rfl,_,rfl,ps,_,rfl,.inl (SqL.of hps),a,at',_,rfl,hat,by rw[length_map];omega,hS.same s12,λj H3 j0 j1 s3=>?_⟩;rw[length_map]at j1;obtain⟨n,en,hn1,hn2⟩:=pY j0 j1 hsr;refine⟨ps,_,_,_,rfl,rfl,SqL.of (s3 _ _ hps),en,?_⟩;have s13:=s12.trans s3;refine h3 _ H3 a t at' zs _ _ _ (tr.same s13) λpf H4 fs s4 hpf hfs hf1 hf2=>?_;have s14:=s13.trans s4;have hps4:=s4 _ _ (s3 _ _ hps);refine⟨_,rfl,_,rfl,pf,pf,_,_,rfl,rfl,hpf,hpf,au (by rw[length_map];omega),λl1 hl1=>?_⟩;have u1:=ag (o:=.lst (fs.map V.int++fs.map V.int)) hl1;refine⟨_,rfl,l1,ps,_,_,rfl,rfl,ac,u1 _ _ hps4,au (by rw[length_append,length_map,length_map];omega),λl2 hl2=>?_⟩;have u2:=u1.trans (ag (o:=.lst (fs.map V.int++fs.map V.int++ss.map V.int)) hl2);have hl2':upd (upd H4 l1 (.lst (fs.map V.int++fs.map V.int))) l2 (.lst (fs.map V.int++fs.map V.int++ss.map V.int)) l2=some (.lst ((fs++fs++ss).map V.int)):=by rw[ac];simp only[map_append]
  generalize upd (upd H4 l1 (.lst (fs.map V.int++fs.map V.int))) l2 (.lst (fs.map V.int++fs.map V.int++ss.map V.int))=H5 at u2 hl2'⊢;have s15:=s14.trans u2;refine⟨_,rfl,_,rfl,_,_,rfl,rfl,_,rfl,pf,_,rfl,.inl (SqL.of (u2 _ _ hpf)),_,_,rfl,rfl,.inl ⟨by decide,by decide⟩,_,rfl,ps,_,rfl,.inl (SqL.of (u2 _ _ hps4)),_,_,rfl,rfl,a,_,_,rfl,by omega,by rw[length_map,length_map];omega,hS.same s15,λj2 H6 j20 j21 s6=>?_⟩;rw[length_map,length_map]at j21;obtain⟨p,ep,hp1,hp2⟩:=pY (ns:=fs++fs++ss) (P:=λx=>0≤x∧x≤60) j20 (by rw[length_append,length_append];omega) (λx hx=>by
   have hf:∀x∈fs,0≤x∧x≤60:=λx hx=>by
    rcases hfs x hx with e|⟨m,hm,e⟩
    ·omega
    ·have:=hok m hm;have h1:=this.1;have h2:=this.2.1;omega
   rcases mem_append.mp hx with h|h
   ·rcases mem_append.mp h with h|h<;>exact hf x h
   ·have:=hsr x h;omega)
  refine⟨l2,_,_,_,rfl,rfl,SqL.of (s6 _ _ hl2'),ep,?_⟩;have s16:=s15.trans s6;refine⟨au (show 4≤1000 by decide),λl3 hl3=>?_⟩;have s17:=s16.trans (ag (o:=.lst [.str "a",.str "b",.str "c",.str "abcde"]) hl3);refine⟨_,rfl,_,rfl,_,_,rfl,rfl,a,_,_,rfl,by omega,by decide,hS.same s17,λj3 H7 j30 j31 s7=>?_⟩;obtain⟨nm,hnm,gnm⟩:=pU j30 j31;refine⟨l3,_,_,_,rfl,rfl,SqL.of (s7 _ _ ac),gnm,?_⟩;have s18:=s17.trans s7;refine⟨_,rfl,_,rfl,_,_,rfl,rfl,a,_,_,rfl,by omega,by decide,hS.same s18,λwy H8 _ _ s8=>?_⟩;have s19:=s18.trans s8;have s29:Same H1 H8:=((((s2.trans s3).trans s4).trans u2).trans s6).trans ((ag hl3).trans (s7.trans s8));refine h7 _ H8 a t pn at' n p wy nm ns _ _ (hS.same s19) hat hn1 hn2 hp1 hp2 hnm (s29 _ _ hpn) (λc dd H' s'=>q c dd H' (s19.trans s')) λH9 s9=>?_;exact h8 _ H9 a t at' n p wy nm _ _ _ (hS.same (s19.trans s9)) hat hn1 hn2 hp1 hp2 hnm λc dd H' s'=>q c dd H' ((s19.trans s9).trans s')
def qA(K:PySem.W.Frag):Sp:=λvs H Q _=>∃a at' t m zs,vs=[.ref a,.int at',.ref t,.int m]∧0≤at'∧0≤m∧m≤12∧ee K H a∧Tre H t zs∧(∀n∈nds zs,gm n)∧(zs.length:Int)+m≤29∧∀t' us H',Same H H'→Tre H' t' us→(∀n∈nds us,gm n)→(us.length:Int)≤zs.length+m→(∃ms:List Int,(ms.length:Int)≤m∧∀n∈nds us,n.num∈(nds zs).map (·.num)∨n.num∈ms)→Q (.ref t') H'
theorem qB:FnScope ["_law_script","_law_at","_law_tree_here","_law_many","_law_j","_law_behind"] ["_law_script","_law_at","_law_tree_here","_law_many"] (ah xr):=fsc
theorem yi{f:Addr}{fd:FuncData}(F:Fun K "_law_further" "_law_further" xr f fd)(T:Txt mg)(CE:Has P w K mg base 3 "_law_deed" ["_law_script","_law_at","_law_tree_here"] (pA K))(CL:Has P w K mg base 2 "_law_done" ["_law_tree_here","_law_deed_here"] lY):FnOk P w K mg base CX0 4 f fd ["_law_script","_law_at","_law_tree_here","_law_many"] (qA K):=by
 obtain⟨fE,fdE,GE,mE,kE,bE⟩:=CE;obtain⟨fL,fdL,GL,mL,kL,bL⟩:=CL;refine F.ok qB (λvs H Q E h=>?_) (λcdv A outer s H vs Q E hr h=>?_)
 ·obtain⟨a,at',t,m,zs,rfl,_⟩:=h;rfl
 ·obtain⟨a,at',t,m,zs,rfl,ha0,hm0,hm1,hS,tr,hok,hl,q⟩:=h;have hr2:Room 2 _:=hr.mono (by decide);refine⟨_,ae (dh PassesOwn.never rfl (ka rfl T.range (aa (pv 3) af)) (aG (i:=4) qB.nd rfl (Or.inl rfl))
    (ae (ap (i:=5) qB.nd rfl (Or.inl rfl) (ak GL hr2 rfl mL kL bL .nil aI (aa (pv 2) (aa (ak GE hr rfl mE kE bE .nil aI (aa (pv 0) (aa (aK bu (pv 1) (aK dS ai (pv 4))) (aa (pv 2) af)))) af))))
    (aj (aW (jl (gQ (aO iT rfl T.isin boot_isinstance (aa (pv 5) (aa (lu (v:=.ty "str") rfl T.str boot_str rfl) af))) (λ_=>rfl))) (aj (ap (i:=2) qB.nd rfl (Or.inl rfl) (pv 5))) aB))))
   (aj (ax (pv 2))),?_⟩
  refine⟨_,rfl,m,rfl,by omega,by omega,?_⟩;refine kb (n:=m.toNat) (λi σ H'=>∃t' us x4 x5,σ=[some (.ref a),some (.int at'),some (.ref t'),some (.int m),x4,x5]∧Same H H'∧H' t'=some (.tup (ba us))∧At H' us∧TW.Tree1 (nds us)∧(∀n∈nds us,gm n)∧us.length≤zs.length+i∧∃ms:List Int,ms.length≤i∧∀n∈nds us,n.num∈(nds zs).map (·.num)∨n.num∈ms) ⟨t,zs,none,none,rfl,Same.refl _,tr.tup,tr.nod,tr.tr,hok,le_refl _,[],le_refl _,λn hn=>.inl (mem_map.mpr ⟨n,hn,rfl⟩)⟩ (λi σ H' hi h=>?_) (λσ H' h=>?_)
  ·obtain⟨t',us,x4,x5,rfl,s1,ht',hA',hT',hok',hl',ms,hms,hmem⟩:=h;have hi':(i:Int)<m:=by omega
   have tr':Tre H' t' us:=⟨ht',hA',hT',by omega⟩;refine⟨_,rfl,_,rfl,_,rfl,_,rfl,_,_,rfl,rfl,.inl ⟨by decide,by decide⟩,_,_,rfl,rfl,_,rfl,a,_,t',us,rfl,by omega,hS.same s1,tr',hok',λc dd H3 s3 hc hf=>?_⟩;refine⟨t',c,dd,us,rfl,tr'.same s3,by omega,hc,hf.ok,λws t2 H4 s4 ht2 hA2 told=>?_,λwd H4 s4 told=>?_⟩
   ·refine⟨_,rfl,_,_,_,_,rfl,.tup ht2,(by kernel_rfl:_=some false),_,rfl,aQ ⟨_,rfl,t2,ws,_,_,rfl,(s1.trans s3).trans s4,ht2,hA2,told.tree hT' hf.ok.pos,gm.told hok' hf told,?_,dd.key::ms,by rw[length_cons];omega,λn hn=>?_⟩⟩
    ·have:=told.len;rw[cI,cI]at this;omega
    ·by_cases hk:n.num=dd.key
     ·exact .inr (by rw[hk];exact mem_cons_self)
     ·have T2:=told.tree hT' hf.ok.pos;rcases told.others hT' T2 hk with e|⟨_,_,_,hno⟩
      ·rw[TW.gZ T2 hn rfl]at e;obtain⟨h1,h2⟩:=TW.rj e.symm;rcases hmem n h1 with q|q
       ·exact .inl q
       ·exact .inr (mem_cons_of_mem _ q)
      ·exact absurd rfl (hno n hn)
   ·exact⟨_,rfl,_,_,_,_,rfl,.str _,(by kernel_rfl:_=some true),_,rfl,aE ⟨t',us,_,_,rfl,(s1.trans s3).trans s4,s4 _ _ (s3 _ _ ht'),(hA'.same s3).same s4,hT',hok',by omega,ms,by omega,hmem⟩⟩
  ·obtain⟨t',us,x4,x5,rfl,s1,ht',hA',hT',hok',hl',ms,hms,hmem⟩:=h;exact⟨_,rfl,q t' us H' s1 ⟨ht',hA',hT',by omega⟩ hok' (by omega) ⟨ms,by omega,hmem⟩⟩
end
end TK
namespace L2
open PySem PySem.Spec PyProof.Rows
section
variable{X:Cx}{tg:Expr}
end
theorem vN{A:Around}{s:Shared}{a b:Addr}{xs ys:List V}{us ws:List Value}(r1:aT xs us)(r2:aT ys ws)(t1:s.heap.IsTuple a us.toArray)(t2:s.heap.IsTuple b ws.toArray)(hu:A.units<cLine)(fx:∀v∈xs,eA v=true)(fy:∀v∈ys,eA v=true):RcAt A s (.ref a) (.ref b) (decide (xs=ys)):=by
 have l1:=r1.length;have l2:=r2.length;have e:((List.range (min us.toArray.size ws.toArray.size)).all (λi=>decide (xs.getD i .non=ys.getD i .non))&&us.toArray.size==ws.toArray.size)=decide (xs=ys):=by
  simp only[size_toArray,←l1,←l2]
  by_cases hl:xs.length=ys.length
  ·rw[←hl,min_self,oS hl];simp
  ·have:(xs.length==ys.length)=false:=by simpa using hl
   rw[this,Bool.and_false];exact(decide_eq_false λe=>hl (by rw[e])).symm
 rw[←e];refine RcAt.tuples t1 t2 hu λj h1 h2=>?_;have h1':j<xs.length:=by rw[l1];simpa using h1
 have h2':j<ys.length:=by rw[l2];simpa using h2
 obtain⟨u',hu1,hu2⟩:=r1.get (getElem?_eq_getElem h1');obtain⟨v',hv1,hv2⟩:=r2.get (getElem?_eq_getElem h2');have e1:us.toArray[j]=u':=by
  have:us[j]?=some us.toArray[j]:=by rw[getElem?_eq_getElem (by simpa using h1)];simp
  rw[hu1]at this;exact(Option.some.inj this).symm
 have e2:ws.toArray[j]=v':=by
  have:ws[j]?=some ws.toArray[j]:=by rw[getElem?_eq_getElem (by simpa using h2)];simp
  rw[hv1]at this;exact(Option.some.inj this).symm
 rw[e1,e2,getD_eq_getElem?_getD,getD_eq_getElem?_getD,getElem?_eq_getElem h1',getElem?_eq_getElem h2'];have f1:=fx _ (getElem_mem h1');have f2:=fy _ (getElem_mem h2');show EqAt _ _ _ _ (decide (xs[j]=ys[j]));rw[←jI f1 f2];exact iH hu2 hv2 (dk f1) (dk f2)
section
variable{X:Cx}
theorem vO{ps qs:List (List V)}(hl:ps.length=qs.length):((List.range ps.length).all λi=>decide (ps.getD i []=qs.getD i []))=decide (ps=qs):=by
 rw[Bool.eq_iff_iff,all_eq_true,decide_eq_true_eq];constructor
 ·intro h;apply ext_getElem?;intro i
  by_cases hi:i<ps.length
  ·have:=h i (mem_range.mpr hi);rw[decide_eq_true_eq,getD_eq_getElem?_getD,getD_eq_getElem?_getD,getElem?_eq_getElem hi,getElem?_eq_getElem (by omega)]at this;rw[getElem?_eq_getElem hi,getElem?_eq_getElem (by omega)];exact congrArg some this
  ·rw[getElem?_eq_none (by omega),getElem?_eq_none (by omega)]
 ·intro h i hi;rw[h];simp
theorem vP(hu:X.A.units+1<cLine):OpR X (compareOp .NotEq) (λx y H Q=>∃a b,∃ps qs:List (Addr×List V),x=.ref a∧y=.ref b∧H a=some (.tup (ps.map λp=>V.ref p.1))∧H b=some (.tup (qs.map λp=>V.ref p.1))∧(∀p∈ps,H p.1=some (.tup p.2)∧∀v∈p.2,eA v=true)∧(∀p∈qs,H p.1=some (.tup p.2)∧∀v∈p.2,eA v=true)∧Q (.bl (!decide (ps.map (·.2)=qs.map (·.2)))) H):=by
 intro pins s σ H x y v u Q I rx ry h;obtain⟨a,b,ps,qs,rfl,rfl,ha,hb,fx,fy,q⟩:=h;have hu0:X.A.units<cLine:=by omega
 cases rx;cases ry;obtain⟨_,us,r1,t1⟩:=I.hok a _ ha;obtain⟨_,ws,r2,t2⟩:=I.hok b _ hb;have l1:=r1.length;have l2:=r2.length;rw[length_map]at l1 l2;refine RcNeAt.tuples (e:=λi=>decide ((ps.map (·.2)).getD i []=(qs.map (·.2)).getD i [])) t1 t2 hu0 (λj h1 h2=>?_) _ _ _ _ ⟨.bl _,H,I,rfl,?_⟩
 ·have h1':j<ps.length:=by rw[l1];simpa using h1
  have h2':j<qs.length:=by rw[l2];simpa using h2
  obtain⟨u',hu1,hu2⟩:=r1.get (i:=j) (x:=V.ref ps[j].1) (by rw[getElem?_map,getElem?_eq_getElem h1'];rfl);obtain⟨v',hv1,hv2⟩:=r2.get (i:=j) (x:=V.ref qs[j].1) (by rw[getElem?_map,getElem?_eq_getElem h2'];rfl);have e1:us.toArray[j]=u':=by
   have:us[j]?=some us.toArray[j]:=by rw[getElem?_eq_getElem (by simpa using h1)];simp
   rw[hu1]at this;exact(Option.some.inj this).symm
  have e2:ws.toArray[j]=v':=by
   have:ws[j]?=some ws.toArray[j]:=by rw[getElem?_eq_getElem (by simpa using h2)];simp
   rw[hv1]at this;exact(Option.some.inj this).symm
  cases (show u'=Value.ref ps[j].1 from hu2);cases (show v'=Value.ref qs[j].1 from hv2);rw[e1,e2,getD_eq_getElem?_getD,getD_eq_getElem?_getD,getElem?_map,getElem?_map,getElem?_eq_getElem h1',getElem?_eq_getElem h2'];show EqAt _ _ _ _ (decide (ps[j].2=qs[j].2));obtain⟨g1,f1⟩:=fx _ (getElem_mem h1');obtain⟨g2,f2⟩:=fy _ (getElem_mem h2')
  by_cases e:ps[j].1=qs[j].1
  ·have e':ps[j].2=qs[j].2:=by
    rw[e,g2]at g1;injection (Option.some.inj g1)with g1
    exact g1.symm
   rw[e',e,decide_eq_true rfl];exact EqAt.same _
  ·obtain⟨_,us',r1',t1'⟩:=I.hok _ _ g1;obtain⟨_,ws',r2',t2'⟩:=I.hok _ _ g2;exact EqAt.of_refs e (vN r1' r2' t1' t2' (by simpa using hu) f1 f2)
 ·have e:((List.range (min us.toArray.size ws.toArray.size)).all (λi=>decide ((ps.map (·.2)).getD i []=(qs.map (·.2)).getD i []))&&us.toArray.size==ws.toArray.size)=decide (ps.map (·.2)=qs.map (·.2)):=by
   simp only[size_toArray,←l1,←l2]
   by_cases hl:ps.length=qs.length
   ·rw[←hl,min_self];have hl':(ps.map (·.2)).length=(qs.map (·.2)).length:=by rw[length_map,length_map,hl]
    have:=vO hl';rw[length_map]at this;rw[this];simp
   ·have:(ps.length==qs.length)=false:=by simpa using hl
    rw[this,Bool.and_false];exact(decide_eq_false λe=>hl (by have:=congrArg length e;rwa [length_map,length_map]at this)).symm
  rw[e];exact q
end
end L2
namespace TK
open PySem L2
theorem rF(n:Nd):∀v∈vals n,eA v=true:=λv hv=>by
 unfold vals at hv;simp only[mem_cons,not_mem_nil,or_false]at hv;rcases hv with rfl|rfl|rfl|rfl
 ·rfl
 ·rfl
 ·rfl
 ·cases n.st<;>rfl
theorem uf{a b:Nd}(h:vals a=vals b):a=b:=by
 cases a with
 |mk a1 a2 a3 a4 =>
 cases b with
 |mk b1 b2 b3 b4 =>
 unfold vals at h;injection h with h1 h
 injection h with h2 h
 injection h with h3 h
 injection h with h4 h
 injection h1 with h1
 injection h2 with h2
 injection h3 with h3
 have h4':a4=b4:=by
  have:=oV (a:=a4) (b:=b4);rw[decide_eq_true h4]at this;exact of_decide_eq_true this.symm
 subst h1 h2 h3 h4';rfl
def zvs(zs:ZN):List (Addr×List V):=zs.map λz=>(z.1,vals z.2)
theorem ol(zs:ZN):(zvs zs).map (λp=>V.ref p.1)=ba zs:=by unfold zvs;rw[map_map,←cg];rfl
theorem ug{H:Hp}{zs:ZN}(h:At H zs):∀p∈zvs zs,H p.1=some (.tup p.2)∧∀v∈p.2,eA v=true:=λp hp=>by
 obtain⟨z,hz,rfl⟩:=mem_map.mp hp;exact⟨h z hz,rF _⟩
theorem uh{zs us:ZN}:(zvs zs).map (·.2)=(zvs us).map (·.2)↔nds zs=nds us:=by
 have e:∀zs:ZN,(zvs zs).map (·.2)=(nds zs).map vals:=λzs=>by unfold zvs nds;rw[map_map,map_map];rfl
 rw[e,e];constructor
 ·intro h;have key:∀{a b:List Nd},a.map vals=b.map vals→a=b:=by
   intro a
   induction a with
   |nil=>intro b h;cases b with
    |nil=>rfl
    |cons _ _=>cases h
   |cons x r ih=>intro b h;cases b with
    |nil=>cases h
    |cons y q =>
     rw[map_cons,map_cons]at h;injection h with h1 h2
     rw[uf h1,ih h2]
  exact key h
 ·intro h;rw[h]
theorem pB(d:TW.Deed Str):∀v∈aR d,dJ v=true:=λv hv=>by
 cases d with
 |make n p nm st =>
  simp only[aR,mem_cons,not_mem_nil,or_false]at hv;rcases hv with rfl|rfl|rfl|rfl|rfl
  ·rfl
  ·rfl
  ·rfl
  ·rfl
  ·cases st<;>rfl
 |write n st =>
  simp only[aR,mem_cons,not_mem_nil,or_false]at hv;rcases hv with rfl|rfl|rfl<;>rfl
 |move n p nm =>
  simp only[aR,mem_cons,not_mem_nil,or_false]at hv;rcases hv with rfl|rfl|rfl|rfl<;>rfl
 |drop n =>
  simp only[aR,mem_cons,not_mem_nil,or_false]at hv;rcases hv with rfl|rfl<;>rfl
theorem ui{H:Hp}{ds es:ZD}(h:ds.map (·.2)=es.map (·.2))(hd:eD H ds)(he:eD H es):jy H (aU ds) (aU es):=by
 have hl:ds.length=es.length:=by have:=congrArg length h;rwa [length_map,length_map]at this
 refine⟨by unfold aU;rw[length_map,length_map,hl],λi x y hx hy=>?_⟩;unfold aU at hx hy;rw[getElem?_map]at hx hy;cases ga:ds[i]? with
 |none=>rw[ga]at hx;cases hx
 |some a =>
  cases gb:es[i]? with
  |none=>rw[gb]at hy;cases hy
  |some b =>
   rw[ga]at hx;rw[gb]at hy;cases hx;cases hy;have e:a.2=b.2:=by
    have h1:(ds.map (·.2))[i]?=some a.2:=by rw[getElem?_map,ga];rfl
    have h2:(es.map (·.2))[i]?=some b.2:=by rw[getElem?_map,gb];rfl
    rw[h,h2]at h1;exact(Option.some.inj h1).symm
   refine .inr ⟨a.1,b.1,_,_,rfl,rfl,hd a (mem_of_getElem? ga),he b (mem_of_getElem? gb),by rw[e],λj x y h1 h2=>?_⟩;rw[e]at h1;have exy:x=y:=Option.some.inj (h1.symm.trans h2);subst exy;exact oH ⟨rfl,pB b.2 x (mem_of_getElem? h1)⟩
section
variable{P:Program}{w:World}{K:PySem.W.Frag}{mg:Str→Option Value}{base:Heap}
def om:Sp:=λvs H Q _=>∃t u zs us,vs=[.ref t,.ref u]∧Tre H t zs∧Tre H u us∧(∀n∈nds zs,cB n)∧(∀n∈nds us,cB n)∧zs.length+us.length≤29∧(¬cN (nds zs) (nds us)→∀H',Same H H'→Q (.str "no match") H') ∧
 (cN (nds zs) (nds us)→∀l ds dd tt H',Same H H'→H' l=some (.lst (aU ds))→eD H' ds→ds.map (·.2)=dd++jX tt (nds us)→Trace (nds us) (nds zs) dd tt→Nxt tt (nds us) dd none→Q (.ref l) H')
def trN:List Str:=["_law_one","_law_other","_law_kept","_law_answer","e"]
theorem vQ:FnScope trN ["_law_one","_law_other"] (ah oN):=fsc
theorem yj{f D:Addr}{B:Nat→Addr}{fd:FuncData}(F:Fun K "_law_tried" "_law_tried" oN f fd)(L:Clss9 mg K B D)(O:One9 K B D 3)(CI:eM P w K mg base 7 "in_steps" ["old","new"] (tu (B 3)))(CW:Has P w K mg base 1 "_law_word" ["_law_kept"] (pr B D K)):
  FnOk P w K mg base CX0 8 f fd ["_law_one","_law_other"] om:=by
 obtain⟨fI,fdI,GI,mI,kI,bI⟩:=CI;obtain⟨fW,fdW,GW,mW,kW,bW⟩:=CW;refine F.ok vQ (λvs H Q E h=>?_) (λcdv A outer s H vs Q E hr h=>?_)
 ·obtain⟨t,u,zs,us,rfl,_⟩:=h;rfl
 ·obtain⟨t,u,zs,us,rfl,tr,ur,zok,uok,hl,qw,qo⟩:=h;have hr1:Room 1 _:=hr.mono (by decide);refine⟨_,ae (ap (i:=2) vQ.nd rfl (Or.inl rfl) bJ) (ae (ap (i:=3) vQ.nd rfl (Or.inl rfl) bJ)
   (ae (wX ⟨λ_ _ h=>h,rfl,rfl⟩ (i:=3) (j:=2) (l:=4) (T:=D) vQ.nd rfl rfl rfl rfl rfl rfl (uJ (λ_ _ h=>h) GI hr rfl mI kI bI (aa (pv 0) (aa (pv 1) af))) rfl L.tre L.base)
   (ae (aW (am eK (pv 2) bJ (aw _)) (aj (ax (pv 3))) aB)
   (aj (ax (ak GW hr1 rfl mW kW bW .nil aI (aa (pv 2) af))))))),?_⟩
  have zl:∀z:ZN,(nds z).length=z.length:=λz=>by unfold nds;rw[length_map]
  have hln:(nds zs).length+(nds us).length≤29:=by rw[zl,zl];exact hl
  refine⟨_,rfl,_,rfl,t,u,zs,us,rfl,tr,ur,λz hz=>?_,uok,λnsk H' s'=>⟨_,rfl,O.sub,λea hea=>?_⟩,λsk=>⟨_,_,nT ur.tr uok hln,⟨nS tr.tr sk zok hln,.nil⟩,λl ds tt dd H1 s1 hI hn hlst hds eds hch=>?_⟩⟩
  ·have:=zok z.2 (aA hz);exact⟨by have:=this.1;omega,this.2.1⟩
  ·exact⟨_,rfl,rfl,_,rfl,aE ⟨_,rfl,ea,3,"no match",rfl,O,ac,rfl,λH2 s2=>qw nsk H2 ((s'.trans (ag hea)).trans s2)⟩⟩
  ·exact⟨_,rfl,rfl,_,rfl,aQ ⟨_,rfl,qo sk l ds dd tt H1 s1 hlst hds eds hI.2 hn⟩⟩
end
theorem jQ{t:List Nd}(T:TW.Tree1 t)(h:∀n∈t,gm n):∀n∈t,cB n∧n.num≤60∧0≤n.par∧n.par≤60∧n.nm.length≤100:=λn hn=>by
 have h1:=h n hn;have hp:0≤n.par∧n.par≤60:=by
  rcases TW.dj T hn with e|⟨m,hm,_,e⟩
  ·omega
  ·have:=h m hm;have a:=this.1;have b:=this.2.1;omega
 have hl:=h1.2.2.1.len;have a:=h1.1;have b:=h1.2.1;exact⟨⟨a,by omega,hp.1,by omega,hl⟩,b,hp.1,hp.2,hl⟩
def laN:List Str:=["_law_script","_law_one","_law_other"]
theorem uk:FnScope laN ["_law_script"] (ah jE):=fsc
abbrev LaX(P:Program)(w:World)(K:PySem.W.Frag)(mg:Str→Option Value)(base:Heap)(f:Addr)(cdv:Value)(A:Around)(outer:List Env)(s:Shared)(H:Hp)(E:XK):Cx:=(fJ CX0 P w K mg base laN "law" (ah jE) f cdv A outer s H E).nox
def laS(i:Nat):Stmt:=(bp jE).getD i (.Pass ⟨0,0,0,0⟩)
section
variable{P:Program}{w:World}{K:PySem.W.Frag}{mg:Str→Option Value}{base:Heap}{f:Addr}{cdv:Value}{A:Around}{outer:List Env}{s:Shared}{H0:Hp}{E:XK}
theorem la0(hr:Room 8 (A.deeper (PyProof.Rows.envOfC "law" (ah jE) s.heap.objs.size f cdv)))(CB:Has P w K mg base 3 "_law_tree" ["_law_script","_law_at","_law_most"] (iC K)):
  ∃rd,PS (LaX P w K mg base f cdv A outer s H0 E) (laS 0) rd∧∀(D:Ends)(H:Hp)(a:Addr)(x1 x2:Option V),ee K H a→(∀t zs H',Same H H'→Tre H' t zs→zs.length≤5→(∀n∈nds zs,gm n)→(∀n∈nds zs,1≤n.num∧n.num≤30)→D.nx [some (.ref a),some (.ref t),x2] H')→rd D [some (.ref a),x1,x2] H:=by
 obtain⟨fB,fdB,GB,mB,kB,bB⟩:=CB;have hr3:Room 3 _:=hr.mono (by decide);refine⟨_,ap (i:=1) uk.nd rfl (Or.inl rfl) (ak GB hr3 rfl mB kB bB .nil aI (aa (pv 0) (aa ai (aa ai af)))),?_⟩;intro D H a x1 x2 hS q;refine⟨_,rfl,a,0,5,rfl,by decide,by decide,by decide,hS,λt z H1 ht hA hl hT hG s1=>?_⟩;have tr1:TW.Tree1 (nds z):=⟨hT,λn hn=>by obtain⟨z,hz,rfl⟩:=bf hn;exact(hG z hz).1⟩;exact q t z H1 s1 ⟨ht,hA,tr1,by omega⟩ (by omega) (λn hn=>by obtain⟨z,hz,rfl⟩:=bf hn;exact(hG z hz).ok) (λn hn=>by obtain⟨z,hz,rfl⟩:=bf hn;have:=hG z hz;exact⟨this.1,by have:=this.2.1;omega⟩)
theorem la1(hr:Room 8 (A.deeper (PyProof.Rows.envOfC "law" (ah jE) s.heap.objs.size f cdv)))(CP:Has P w K mg base 2 "_law_pick" ["_law_script","_law_k","_law_many"] (eP K))(CF:Has P w K mg base 4 "_law_further" ["_law_script","_law_at","_law_tree_here","_law_many"] (qA K)):
  ∃rd,PS (LaX P w K mg base f cdv A outer s H0 E) (laS 1) rd∧∀(D:Ends)(H:Hp)(a t:Addr)(zs:ZN)(x2:Option V),ee K H a→Tre H t zs→zs.length≤5→(∀n∈nds zs,gm n)→(∀u us H',Same H H'→Tre H' u us→us.length≤10→(∀n∈nds us,gm n)→D.nx [some (.ref a),some (.ref t),some (.ref u)] H')→rd D [some (.ref a),some (.ref t),x2] H:=by
 obtain⟨fP,fdP,GP,mP,kP,bP⟩:=CP;obtain⟨fF,fdF,GF,mF,kF,bF⟩:=CF;have hr2:Room 2 _:=hr.mono (by decide);have hr4:Room 4 _:=hr.mono (by decide);refine⟨_,ap (i:=2) uk.nd rfl (Or.inl rfl) (ak GF hr4 rfl mF kF bF .nil aI (aa (pv 0) (aa ai (aa (pv 1) (aa (ak GP hr2 rfl mP kP bP .nil aI (aa (pv 0) (aa ai (aa ai af)))) af))))),?_⟩;intro D H a t zs x2 hS T hl ok q;refine⟨_,rfl,_,rfl,_,rfl,a,_,_,rfl,by decide,by decide,hS,λr H2 r0 r1 s2=>?_⟩;exact⟨a,110,t,r,zs,rfl,by decide,r0,by omega,hS.same s2,T.same s2,ok,by omega,λt2 z2 H3 s3 T2 ok2 hl2 _=>q t2 z2 H3 (s2.trans s3) T2 (by omega) ok2⟩
theorem la2(hr:Room 8 (A.deeper (PyProof.Rows.envOfC "law" (ah jE) s.heap.objs.size f cdv)))(CB:Has P w K mg base 3 "_law_tree" ["_law_script","_law_at","_law_most"] (iC K))(CP:Has P w K mg base 2 "_law_pick" ["_law_script","_law_k","_law_many"] (eP K)):
  ∃rd,PS (LaX P w K mg base f cdv A outer s H0 E) (laS 2) rd∧∀(D:Ends)(H:Hp)(a u:Addr)(us:ZN)(x1:Option V),ee K H a→Tre H u us→us.length≤10→(∀n∈nds us,gm n)→(∀u us H',Same H H'→Tre H' u us→us.length≤10→(∀n∈nds us,gm n)→D.nx [some (.ref a),x1,some (.ref u)] H')→rd D [some (.ref a),x1,some (.ref u)] H:=by
 obtain⟨fB,fdB,GB,mB,kB,bB⟩:=CB;obtain⟨fP,fdP,GP,mP,kP,bP⟩:=CP;have hr2:Room 2 _:=hr.mono (by decide);have hr3:Room 3 _:=hr.mono (by decide);refine⟨_,aW (am cv (ak GP hr2 rfl mP kP bP .nil aI (aa (pv 0) (aa ai (aa ai af)))) ai (aw _)) (aj (ap (i:=2) uk.nd rfl (Or.inl rfl) (ak GB hr3 rfl mB kB bB .nil aI (aa (pv 0) (aa ai (aa ai af)))))) aB,?_⟩;intro D H a u us x1 hS T hl ok q;refine⟨_,rfl,a,_,_,rfl,by decide,by decide,hS,λr H2 r0 r1 s2=>⟨rfl,_,rfl,qR (λ_=>?_) (λ_=>q u us H2 s2 (T.same s2) hl ok)⟩⟩;refine⟨_,rfl,a,310,5,rfl,by decide,by decide,by decide,hS.same s2,λt z H1 ht hA hl hT hG s1=>?_⟩;have tr1:TW.Tree1 (nds z):=⟨hT,λn hn=>by obtain⟨z,hz,rfl⟩:=bf hn;exact(hG z hz).1⟩;exact q t z H1 (s2.trans s1) ⟨ht,hA,tr1,by omega⟩ (by omega) (λn hn=>by obtain⟨z,hz,rfl⟩:=bf hn;exact(hG z hz).ok)
theorem la3(hr:Room 8 (A.deeper (PyProof.Rows.envOfC "law" (ah jE) s.heap.objs.size f cdv)))(CK:Has P w K mg base 2 "_law_same_kinds" ["_law_one","_law_other"] qz)(CT:Has P w K mg base 8 "_law_tried" ["_law_one","_law_other"] om):
  ∃rd,PS (LaX P w K mg base f cdv A outer s H0 E) (laS 3) rd∧∀(D:Ends)(H:Hp)(t u:Addr)(zs us:ZN)(x0:Option V),Tre H t zs→zs.length≤5→(∀n∈nds zs,gm n)→(∀n∈nds zs,1≤n.num∧n.num≤30)→Tre H u us→us.length≤10→(∀n∈nds us,gm n)→(∀u us H',Same H H'→Tre H' u us→us.length≤10→cN (nds zs) (nds us)→(∀n∈nds us,cB n)→D.nx [x0,some (.ref t),some (.ref u)] H')→rd D [x0,some (.ref t),some (.ref u)] H:=by
 obtain⟨fK,fdK,GK,mK,kK,bK⟩:=CK;obtain⟨fT,fdT,GT,mT,kT,bT⟩:=CT;have hr2:Room 2 _:=hr.mono (by decide);refine⟨_,aW (am (vP (aN hr)) (ak GK hr2 rfl mK kK bK .nil aI (aa (pv 1) (aa (pv 2) af))) (pv 2) (aw _)) (ae (aW (am cU (ak GT hr rfl mT kT bT .nil aI (aa (pv 1) (aa (pv 2) af))) aC (aw _)) (aj (ax gJ)) aB) (aj (ap (i:=2) uk.nd rfl (Or.inl rfl) (ak GK hr2 rfl mK kK bK .nil aI (aa (pv 1) (aa (pv 2) af)))))) aB,?_⟩;intro D H t u zs us x0 T hl okz hz U hu ok q;have nu:=jQ U.tr ok;have nz:=jQ T.tr okz;refine⟨_,rfl,_,rfl,t,u,zs,us,rfl,T,U,by omega,by omega,hz,λn hn=>(nu n hn).2,λv ws H1 s1 V1 sk nok hle hsame=>?_⟩;have U1:=U.same s1;refine⟨_,rfl,v,u,zvs ws,zvs us,rfl,rfl,by rw[ol];exact V1.tup,by rw[ol];exact U1.tup,ug V1.nod,ug U1.nod,_,rfl,?_⟩
 by_cases e:nds ws=nds us
 ·rw[decide_eq_true (uh.mpr e)];exact aE (q u us H1 s1 U1 hu (by rw[←e];exact sk) (λn hn=>(nu n hn).1))
 ·rw[decide_eq_false λh=>e (uh.mp h)];have nsk:¬cN (nds zs) (nds us):=λh=>e (hsame h);refine aQ ⟨_,rfl,_,rfl,t,u,zs,us,rfl,T.same s1,U1,λn hn=>(nz n hn).1,λn hn=>(nu n hn).1,by omega,λ_ H2 s2=>?_,λh=>absurd h nsk⟩;refine⟨rfl,_,rfl,?_⟩;rw[decide_eq_true rfl];refine aE ⟨_,rfl,_,rfl,t,u,zs,us,rfl,(T.same s1).same s2,U1.same s2,by omega,by omega,hz,λn hn=>(nu n hn).2,λv ws H3 s3 V3 sk nok hle _=>?_⟩;exact q v ws H3 ((s1.trans s2).trans s3) V3 (by omega) sk nok
theorem la4(hr:Room 8 (A.deeper (PyProof.Rows.envOfC "law" (ah jE) s.heap.objs.size f cdv)))(CS:Has P w K mg base 5 "_law_steps" ["_law_old","_law_new"] qv)(CT:Has P w K mg base 8 "_law_tried" ["_law_one","_law_other"] om):
  ∃rd,PS (LaX P w K mg base f cdv A outer s H0 E) (laS 4) rd∧∀(D:Ends)(H:Hp)(t u:Addr)(zs us:ZN)(x0:Option V),Tre H t zs→zs.length≤5→(∀n∈nds zs,cB n)→Tre H u us→us.length≤10→cN (nds zs) (nds us)→(∀n∈nds us,cB n)→(∀H',D.rt (.bl true) H')→rd D [x0,some (.ref t),some (.ref u)] H:=by
 obtain⟨fS,fdS,GS,mS,kS,bS⟩:=CS;obtain⟨fT,fdT,GT,mT,kT,bT⟩:=CT;have hr5:Room 5 _:=hr.mono (by decide);refine⟨_,ax (gC (xf (xh hr)) (ak GT hr rfl mT kT bT .nil aI (aa (pv 1) (aa (pv 2) af))) (ak GS hr5 rfl mS kS bS .nil aI (aa (pv 1) (aa (pv 2) af))) (aw _)),?_⟩;intro D H t u zs us x0 T hl nz U hu sk nok q;refine⟨_,rfl,_,rfl,t,u,zs,us,rfl,T,U,nz,nok,by omega,λh=>absurd sk h,λ_ l ds dd tt H1 s1 hl1 hd1 e1 tr1 n1=>?_⟩;refine⟨_,rfl,_,rfl,t,u,zs,us,rfl,T.same s1,U.same s1,sk,nz,nok,by omega,λl2 ds2 dd2 tt2 H2 s2 hl2 hd2 e2 tr2 n2=>?_⟩;obtain⟨ea,eb⟩:=rs T.tr U.tr tr1 tr2 n1 n2;refine .inr ⟨l,l2,_,_,rfl,rfl,ui (by rw[e1,e2,ea,eb]) (hd1.same s2) hd2,.inl ⟨s2 _ _ hl1,hl2⟩,q H2⟩
def qC(K:PySem.W.Frag):Sp:=λvs H Q _=>∃(a:Addr) (ns:List Int),vs=[.ref a]∧SqL K H a (ns.map V.int)∧ns.length≤63∧∀H',Q (.bl true) H'
theorem yU:bp jE=[laS 0,laS 1,laS 2,laS 3,laS 4]:=rfl
theorem yk{f:Addr}{fd:FuncData}(F:Fun K "law" "law" jE f fd)(CB:Has P w K mg base 3 "_law_tree" ["_law_script","_law_at","_law_most"] (iC K))(CP:Has P w K mg base 2 "_law_pick" ["_law_script","_law_k","_law_many"] (eP K))(CF:Has P w K mg base 4 "_law_further" ["_law_script","_law_at","_law_tree_here","_law_many"] (qA K))(CK:Has P w K mg base 2 "_law_same_kinds" ["_law_one","_law_other"] qz)(CT:Has P w K mg base 8 "_law_tried" ["_law_one","_law_other"] om)(CS:Has P w K mg base 5 "_law_steps" ["_law_old","_law_new"] qv):FnOk P w K mg base CX0 9 f fd ["_law_script"] (qC K):=by
 refine F.ok uk (λvs H Q E h=>?_) (λcdv A outer s H vs Q E hr h=>?_)
 ·obtain⟨a,ns,rfl,_⟩:=h;rfl
 ·obtain⟨a,ns,rfl,hS0,_,q⟩:=h;have hS:ee K H a:=⟨ns,hS0⟩;obtain⟨t0,p0,h0⟩:=la0 (outer:=outer) (H0:=H) (E:=E) hr CB;obtain⟨t1,p1,h1⟩:=la1 (outer:=outer) (H0:=H) (E:=E) hr CP CF;obtain⟨t2,p2,h2⟩:=la2 (outer:=outer) (H0:=H) (E:=E) hr CB CP;obtain⟨t3,p3,h3⟩:=la3 (outer:=outer) (H0:=H) (E:=E) hr CK CT;obtain⟨t4,p4,h4⟩:=la4 (outer:=outer) (H0:=H) (E:=E) hr CS CT;rw[yU];generalize laS=st at p0 p1 p2 p3 p4⊢;refine⟨_,ae p0 (ae p1 (ae p2 (ae p3 (aj p4)))),?_⟩;refine h0 _ H a _ _ hS λt zs H1 s1 T1 l1 ok1 nz=>?_;have S1:=hS.same s1;refine h1 _ H1 a t zs _ S1 T1 l1 ok1 λu us H2 s2 U2 l2 ok2=>?_;refine h2 _ H2 a u us _ (S1.same s2) U2 l2 ok2 λu us H3 s3 U3 l3 ok3=>?_;have T3:=(T1.same s2).same s3;refine h3 _ H3 t u zs us _ T3 l1 ok1 nz U3 l3 ok3 λu us H4 s4 U4 l4 sk nok=>?_;exact h4 _ H4 t u zs us _ (T3.same s4) l1 (λn hn=>(jQ T1.tr ok1 n hn).1) U4 l4 sk nok q
end
end TK
namespace TK
open PySem PySem.W PyProof.Rows L2
theorem hV{K:PySem.W.Frag}{h:Heap}{mg:Str→Option Value}{x:Str}{C:Addr}{bB:List Value}{nid:String}(X:K.In h)(hb:mg x=some (.ref C))(q:excIn K C bB nid=true):OwnCls x C bB nid mg h:=by
 have hobj:∃bm N nm q' bs hdct sn sub ab col dd k0 k1 k2 k3 k5 mN,h.get? C=some (excClassObj nm q' C N bs bm hdct sn sub ab col dd k0 k1 k2 k3 k5 nid)∧h.Ns N mN∧mN "__init__"=none∧OwnTail h bB bm:=by
  unfold excIn at q
  split at q
  case h_2=>exact absurd q (by simp)
  case h_1 d0 c0 s0 hK =>
   split at q
   case h_2=>exact absurd q (by simp)
   case h_1 C1 b1 u0 u1 u2 u3 u4 u5 e1 e2 =>
    rw[and_eq_true,and_eq_true,and_eq_true,and_eq_true,and_eq_true]at q;obtain⟨⟨⟨⟨⟨y1,y2⟩,y3⟩,g4⟩,g5⟩,y6⟩:=q;have g1:C1=C:=beq_iff_eq.mp y1;have g2:u4=nid:=beq_iff_eq.mp y2;have g3:c0.hasDel=false:=by simpa using y3
    have g6:nsIn K c0.ns "__init__"=some none:=beq_iff_eq.mp y6;clear y1 y2 y3 y6;cases c0;cases s0;dsimp only at e1 e2 g3 g5 g6;subst g1 g2 g3 e1 e2;exact⟨_,_,_,_,_,_,_,_,_,_,_,_,_,_,_,_,_,X _ _ hK,Heap.Ns.of_isNs (PySem.W.isNs_of_in X g5),PySem.W.nsMap_none_of_in X g5 g6,PySem.W.tail_of_in X g4⟩
 exact⟨hb,hobj⟩
theorem zK{α:Type}{P:List α→Prop}{us:List α}(hl:us.length=0)(h:P []):P us:=by cases us with|nil=>exact h|cons a r=>cases hl
theorem yV{α:Type}{P:List α→Prop}{us:List α}(hl:us.length=1)(h:∀a0,P [a0]):P us:=by cases us with|nil=>cases hl|cons a r=>exact zK (P:=λr=>P (a::r)) (Nat.succ.inj hl) (h a)
theorem yW{α:Type}{P:List α→Prop}{us:List α}(hl:us.length=2)(h:∀a0 a1,P [a0,a1]):P us:=by cases us with|nil=>cases hl|cons a r=>exact yV (P:=λr=>P (a::r)) (Nat.succ.inj hl) (h a)
theorem yX{α:Type}{P:List α→Prop}{us:List α}(hl:us.length=3)(h:∀a0 a1 a2,P [a0,a1,a2]):P us:=by cases us with|nil=>cases hl|cons a r=>exact yW (P:=λr=>P (a::r)) (Nat.succ.inj hl) (h a)
theorem yY{α:Type}{P:List α→Prop}{us:List α}(hl:us.length=4)(h:∀a0 a1 a2 a3,P [a0,a1,a2,a3]):P us:=by cases us with|nil=>cases hl|cons a r=>exact yX (P:=λr=>P (a::r)) (Nat.succ.inj hl) (h a)
theorem zL{α:Type}{P:List α→Prop}{us:List α}(hl:us.length=5)(h:∀a0 a1 a2 a3 a4,P [a0,a1,a2,a3,a4]):P us:=by cases us with|nil=>cases hl|cons a r=>exact yY (P:=λr=>P (a::r)) (Nat.succ.inj hl) (h a)
abbrev gA(K:PySem.W.Frag)(x:Str)(f:Addr):Prop:=nsIn K mainGlobals x=some (some (.ref f))
abbrev gN(K:PySem.W.Frag)(x:Str):Prop:=nsIn K mainGlobals x=some none
theorem fh{P:Program}{w:World}{K:PySem.W.Frag}{mg:Str→Option Value}{base h:Heap}{k:Nat}{x q:Str}{st:Stmt}{f:Addr}{fd:FuncData}{ps:List Str}{sp:Sp}(X:K.In h)(G:h.Ns mainGlobals mg)(F:Fun K x q st f fd)(a:gA K x f)(b:dU K fd ps [])(O:FnOk P w K mg base CX0 k f fd ps sp):Has P w K mg base k x ps sp:=⟨f,fd,O,mg_of X G a,F.kp,b⟩
theorem fhX{P:Program}{w:World}{K:PySem.W.Frag}{mg:Str→Option Value}{base h:Heap}{k:Nat}{x q:Str}{st:Stmt}{f:Addr}{fd:FuncData}{ps:List Str}{sp:Sp}(X:K.In h)(G:h.Ns mainGlobals mg)(F:Fun K x q st f fd)(a:gA K x f)(b:dU K fd ps [])(O:FnOk P w K mg base (CX1 P w) k f fd ps sp):eM P w K mg base k x ps sp:=⟨f,fd,O,mg_of X G a,F.kp,b⟩
theorem fb1{K:PySem.W.Frag}{x q a0:Str}{st:Stmt}{f:Addr}{fd:FuncData}(F:Fun K x q st f fd)(h:∀(kV doc pm:Value) (an:Option Addr) (cdv ct v0:Value),bindArgs (fnOf x q (dN st) (bp st) (ah st) .none kV doc pm an cdv ct) ⟨[v0],[]⟩=pure (List.zip [a0] [v0]):=by intros;rfl):dU K fd [a0] []:=F.binds λkV doc pm an cdv ct us hl=>yV (P:=λus=>bindArgs _ ⟨us,[]⟩=pure (List.zip _ us)) hl (h kV doc pm an cdv ct)
theorem fb2{K:PySem.W.Frag}{x q a0 a1:Str}{st:Stmt}{f:Addr}{fd:FuncData}(F:Fun K x q st f fd)(h:∀(kV doc pm:Value) (an:Option Addr) (cdv ct v0 v1:Value),bindArgs (fnOf x q (dN st) (bp st) (ah st) .none kV doc pm an cdv ct) ⟨[v0,v1],[]⟩=pure (List.zip [a0,a1] [v0,v1]):=by intros;rfl):dU K fd [a0,a1] []:=F.binds λkV doc pm an cdv ct us hl=>yW (P:=λus=>bindArgs _ ⟨us,[]⟩=pure (List.zip _ us)) hl (h kV doc pm an cdv ct)
theorem fb3{K:PySem.W.Frag}{x q a0 a1 a2:Str}{st:Stmt}{f:Addr}{fd:FuncData}(F:Fun K x q st f fd)(h:∀(kV doc pm:Value) (an:Option Addr) (cdv ct v0 v1 v2:Value),bindArgs (fnOf x q (dN st) (bp st) (ah st) .none kV doc pm an cdv ct) ⟨[v0,v1,v2],[]⟩=pure (List.zip [a0,a1,a2] [v0,v1,v2]):=by intros;rfl):dU K fd [a0,a1,a2] []:=F.binds λkV doc pm an cdv ct us hl=>yX (P:=λus=>bindArgs _ ⟨us,[]⟩=pure (List.zip _ us)) hl (h kV doc pm an cdv ct)
theorem fb4{K:PySem.W.Frag}{x q a0 a1 a2 a3:Str}{st:Stmt}{f:Addr}{fd:FuncData}(F:Fun K x q st f fd)(h:∀(kV doc pm:Value) (an:Option Addr) (cdv ct v0 v1 v2 v3:Value),bindArgs (fnOf x q (dN st) (bp st) (ah st) .none kV doc pm an cdv ct) ⟨[v0,v1,v2,v3],[]⟩=pure (List.zip [a0,a1,a2,a3] [v0,v1,v2,v3]):=by intros;rfl):dU K fd [a0,a1,a2,a3] []:=F.binds λkV doc pm an cdv ct us hl=>yY (P:=λus=>bindArgs _ ⟨us,[]⟩=pure (List.zip _ us)) hl (h kV doc pm an cdv ct)
theorem fb5{K:PySem.W.Frag}{x q a0 a1 a2 a3 a4:Str}{st:Stmt}{f:Addr}{fd:FuncData}(F:Fun K x q st f fd)(h:∀(kV doc pm:Value) (an:Option Addr) (cdv ct v0 v1 v2 v3 v4:Value),bindArgs (fnOf x q (dN st) (bp st) (ah st) .none kV doc pm an cdv ct) ⟨[v0,v1,v2,v3,v4],[]⟩=pure (List.zip [a0,a1,a2,a3,a4] [v0,v1,v2,v3,v4]):=by intros;rfl):dU K fd [a0,a1,a2,a3,a4] []:=F.binds λkV doc pm an cdv ct us hl=>zL (P:=λus=>bindArgs _ ⟨us,[]⟩=pure (List.zip _ us)) hl (h kV doc pm an cdv ct)
theorem ym{l:PySem.W.OpenLaw}{w:World}{K:PySem.W.Frag}{h:Heap}{mg:Str→Option Value}{fa f1 f2 f3 f4 f5 f6 f7 f8 f9 f10 f11 f12 f13 f14 f15 f16 f17 f18 f19 f20 f21 f22 f23 f24 f25 f26 f27 f28 f29 f30 f31 f32 f33 f34 f35 f36 f37 f38 f39:Addr}(X:K.In h)(G:h.Ns mainGlobals mg)(hfa:mg "law"=some (.ref fa)){d1 d2 d3 d4 d5 d6 d7 d8 d9 d10 d11 d12 d13 d14 d15 d16 d17 d18 d19 d20 d21 d22 d23 d24 d25 d26 d27 d28 d29 d30 d31 d32 d33 d34 d35 d36 d37 d38 d39:FuncData}{t1:Tok}(a1:gA K "numbers_inside" f1)(F1:Fun K "numbers_inside" "numbers_inside" xl f1 d1)(a2:gA K "by_number" f2)(F2:Fun K "by_number" "by_number" xm f2 d2)(a3:gA K "node_of" f3)(F3:Fun K "node_of" "node_of" xn f3 d3)(a4:gA K "check_folder" f4)(F4:Fun K "check_folder" "check_folder" xo f4 d4)(a5:gA K "below" f5)(F5:Fun K "below" "below" xp f5 d5)(a6:gA K "check_place" f6)(F6:Fun K "check_place" "check_place" xq f6 d6)(a7:gA K "with_node" f7)(F7:Fun K "with_node" "with_node" pZ f7 d7)(a8:gA K "make" f8)(F8:Fun K "make" "make" sC f8 d8)(a9:gA K "write" f9)(F9:Fun K "write" "write" oK f9 d9)(a10:gA K "move" f10)(F10:Fun K "move" "move" sD f10 d10)(a11:gA K "drop" f11)(F11:Fun K "drop" "drop" qb f11 d11)(a12:gA K "done" f12)(F12:Fun K "done" "done" sE f12 d12)(a13:gA K "nodes_needed" f13)(F13:Fun K "nodes_needed" "nodes_needed" db f13 d13)(a14:gA K "check_kinds" f14)(F14:Fun K "check_kinds" "check_kinds" eN f14 d14)(a15:gA K "next_drop" f15)(F15:Fun K "next_drop" "next_drop" gp f15 d15)(a16:gA K "is_refused" f16)(F16:Fun K "is_refused" "is_refused" fi f16 d16)(a17:gA K "placings" f17)(F17:Fun K "placings" "placings" gW f17 d17)(a18:gA K "name_at" f18)(F18:Fun K "name_at" "name_at" iM f18 d18)(a19:gA K "writes" f19)(F19:Fun K "writes" "writes" iw f19 d19)(a20:gA K "free_name" f20)(F20:Fun K "free_name" "free_name" gs f20 d20)(a21:gA K "next_deed" f21)(F21:Fun K "next_deed" "next_deed" gu f21 d21)(a22:gA K "in_steps" f22)(F22:Fun K "in_steps" "in_steps" gX f22 d22)(a23:gA K "_law_cell" f23)(F23:Fun K "_law_cell" "_law_cell" sF f23 d23)(a24:gA K "_law_pick" f24)(F24:Fun K "_law_pick" "_law_pick" sG f24 d24)(a25:gA K "_law_tree" f25)(F25:Fun K "_law_tree" "_law_tree" iN f25 d25)(a26:gA K "_law_book" f26)(F26:Fun K "_law_book" "_law_book" sI f26 d26)(a27:gA K "_law_under" f27)(F27:Fun K "_law_under" "_law_under" oM f27 d27)(a28:gA K "_law_done" f28)(F28:Fun K "_law_done" "_law_done" cF f28 d28)(a29:gA K "_law_deed" f29)(F29:Fun K "_law_deed" "_law_deed" iW f29 d29)(a30:gA K "_law_further" f30)(F30:Fun K "_law_further" "_law_further" xr f30 d30)(a31:gA K "_law_same_kinds" f31)(F31:Fun K "_law_same_kinds" "_law_same_kinds" aF f31 d31)(a32:gA K "_law_word" f32)(F32:Fun K "_law_word" "_law_word" sJ f32 d32)(a33:gA K "_law_tried" f33)(F33:Fun K "_law_tried" "_law_tried" oN f33 d33)(a34:gA K "_law_names" f34)(F34:Fun K "_law_names" "_law_names" gv f34 d34)(a35:gA K "_law_drop" f35)(F35:Fun K "_law_drop" "_law_drop" cm f35 d35)(a36:gA K "_law_spare" f36)(F36:Fun K "_law_spare" "_law_spare" ci f36 d36)(a37:gA K "_law_next" f37)(F37:Fun K "_law_next" "_law_next" aZ f37 d37)(a38:gA K "_law_steps" f38)(F38:Fun K "_law_steps" "_law_steps" aL f38 d38)(a39:gA K "law" f39)(F39:Fun K "law" "law" jE f39 d39)(z1:gN K "isinstance")(z2:gN K "dict")(z3:gN K "len")(z4:gN K "tuple")(z5:gN K "list")(z6:gN K "range")(z7:gN K "sorted")(z8:gN K "reversed")(z9:gN K "ValueError")(z10:gN K "str")(z11:gN K "set")(z12:gN K "max")(z13:gN K "min")(z14:gN K "sum")(z15:gN K "zip")(z16:gN K "enumerate")(z17:gN K "all")(z18:gN K "int")(z19:gN K "bool")(v1t:nsIn K mainGlobals "TOP"=some (some (.int 0 t1))){t2:Tok}(v2t:nsIn K mainGlobals "LETTERS"=some (some (.str "abcdefghijklmnopqrstuvwxyz" t2))){DT B0 B1 B2 B3 B4 B5 B6 B7 B8:Addr}(xD:nsIn K mainGlobals "TreeError"=some (some (.ref DT)))(gD:PySem.W.ktsIn K DT "BaseException"=true)(x0:nsIn K mainGlobals "Inside"=some (some (.ref B0)))(x1:nsIn K mainGlobals "Known"=some (some (.ref B1)))(x2:nsIn K mainGlobals "NoMark"=some (some (.ref B2)))(x3:nsIn K mainGlobals "NoMatch"=some (some (.ref B3)))(x4:nsIn K mainGlobals "NoNode"=some (some (.ref B4)))(x5:nsIn K mainGlobals "NoReader"=some (some (.ref B5)))(x6:nsIn K mainGlobals "NotFile"=some (some (.ref B6)))(x7:nsIn K mainGlobals "NotFolder"=some (some (.ref B7)))(x8:nsIn K mainGlobals "Taken"=some (some (.ref B8)))(q3:excIn K B3 bmV "ValueError.__new__"=true)(e3_0:kitOne K (.ref B3) (.ref B0)=some false)(e3_1:kitOne K (.ref B3) (.ref B1)=some false)(e3_2:kitOne K (.ref B3) (.ref B2)=some false)(e3_3:kitOne K (.ref B3) (.ref B3)=some true)(e3_4:kitOne K (.ref B3) (.ref B4)=some false)(e3_5:kitOne K (.ref B3) (.ref B5)=some false)(e3_6:kitOne K (.ref B3) (.ref B6)=some false)(e3_7:kitOne K (.ref B3) (.ref B7)=some false)(e3_8:kitOne K (.ref B3) (.ref B8)=some false)(v3:kitOne K (.ref B3) (.type "ValueError")=some true)(s3:subIn K (.ref B3) (.ref DT)=some true)(g31:PySem.W.ktsIn K B3 "object"=true)(g32:PySem.W.findIn K (.ref B3) "__getattribute__"=some (some (.builtin "BaseException.__getattribute__")))(g33:PySem.W.findIn K (.ref B3) "__getattr__"=some none)(g34:PySem.W.findIn K (.ref B3) "__class__"=some (some (.builtin "object.__class__")))(q0:excIn K B0 bmV "ValueError.__new__"=true)(s0:subIn K (.ref B0) (.ref DT)=some true)(q1:excIn K B1 bmV "ValueError.__new__"=true)(s1:subIn K (.ref B1) (.ref DT)=some true)(q4:excIn K B4 bmV "ValueError.__new__"=true)(s4:subIn K (.ref B4) (.ref DT)=some true)(q6:excIn K B6 bmV "ValueError.__new__"=true)(s6:subIn K (.ref B6) (.ref DT)=some true)(q7:excIn K B7 bmV "ValueError.__new__"=true)(s7:subIn K (.ref B7) (.ref DT)=some true)(q8:excIn K B8 bmV "ValueError.__new__"=true)(s8:subIn K (.ref B8) (.ref DT)=some true):
  ∃fd:FuncData,(∀(s:Shared)(v:Value),BindsTo s fd ⟨[v],[]⟩ [("_law_script",v)])∧∀base:Heap,K.In base→base.Ns mainGlobals mg→FnOk l.prog w K mg base CX0 9 fa fd ["_law_script"] (qC K):=by
 have e:=hfa.symm.trans (mg_of X G a39);cases e;have T:Txt mg:=⟨mg_none_of X G z1,mg_none_of X G z2,mg_none_of X G z3,mg_none_of X G z4,mg_none_of X G z5,mg_none_of X G z6,mg_none_of X G z7,mg_none_of X G z8,mg_none_of X G z9,mg_none_of X G z10,mg_none_of X G z11,mg_none_of X G z12,mg_none_of X G z13,mg_none_of X G z14,mg_none_of X G z15,mg_none_of X G z16,mg_none_of X G z17,mg_none_of X G z18,mg_none_of X G z19,⟨_,mg_of X G v1t⟩,⟨_,mg_of X G v2t⟩⟩
 let B:Nat→Addr:=λi=>match i with | 0=>B0 | 1=>B1 | 2=>B2 | 3=>B3 | 4=>B4 | 5=>B5 | 6=>B6 | 7=>B7 | _=>B8
 have L:Clss9 mg K B DT:=⟨λi hi=>match i,hi with | 0,_=>mg_of X G x0 | 1,_=>mg_of X G x1 | 2,_=>mg_of X G x2 | 3,_=>mg_of X G x3 | 4,_=>mg_of X G x4 | 5,_=>mg_of X G x5 | 6,_=>mg_of X G x6 | 7,_=>mg_of X G x7 | 8,_=>mg_of X G x8,mg_of X G xD,gD⟩
 have O3:One9 K B DT 3:=⟨by decide,(by show XI.qY K B3=true;unfold XI.qY;rw[g31,g32,g33,g34];rfl),λj hj=>match j,hj with | 0,_=>e3_0 | 1,_=>e3_1 | 2,_=>e3_2 | 3,_=>e3_3 | 4,_=>e3_4 | 5,_=>e3_5 | 6,_=>e3_6 | 7,_=>e3_7 | 8,_=>e3_8,v3,s3⟩
 let cls:TW.Wd→Addr:=λwd=>B (plW wd)
 have LT:TreR mg K cls DT:=⟨mg_of X G xD,gD,λwd=>match wd with | .inside=>s0 | .known=>s1 | .noNode=>s4 | .notFile=>s6 | .notFolder=>s7 | .taken=>s8⟩
 have hb:∀(s:Shared)(v:Value),BindsTo s d39 ⟨[v],[]⟩ [("_law_script",v)]:=by
  obtain⟨_,_,_,_,_,_,_,_,_,e,_,_⟩:=F39.ex;subst e;exact λs v=>.of_eq rfl
 refine⟨d39,hb,λbase KB _=>?_⟩
 let H:=Has l.prog w K mg base
 let HX:=eM l.prog w K mg base
 have W6:uX mg base cls:=λwd=>match wd with | .inside=>hV KB (mg_of X G x0) q0 | .known=>hV KB (mg_of X G x1) q1 | .noNode=>hV KB (mg_of X G x4) q4 | .notFile=>hV KB (mg_of X G x6) q6 | .notFolder=>hV KB (mg_of X G x7) q7 | .taken=>hV KB (mg_of X G x8) q8
 have OW:nG "NoMatch" mg base (B 3):=hV KB (mg_of X G x3) q3;have C_numbers_inside:H 1 "numbers_inside" ["nodes","folder"] qc:=fh X G F1 a1 (fb2 F1) (xt F1 T);have C_by_number:H 1 "by_number" ["tree"] fG:=fh X G F2 a2 (fb1 F2) (xv F2 T);have C_node_of:HX 1 "node_of" ["nodes","number"] (jG (cls .noNode)):=fhX X G F3 a3 (fb2 F3) (xw F3 (W6 .noNode));have C_check_folder:HX 2 "check_folder" ["nodes","number"] (qe (cls .noNode) (cls .notFolder)):=fhX X G F4 a4 (fb2 F4) (xy F4 T (W6 .notFolder) C_node_of);have C_below:HX 2 "below" ["tree","number"] (qd (cls .noNode)):=fhX X G F5 a5 (fb2 F5) (xx F5 T C_by_number C_node_of C_numbers_inside);have C_check_place:HX 1 "check_place" ["tree","number","parent","name"] (nK (cls .taken)):=fhX X G F6 a6 (fb4 F6) (xz F6 (W6 .taken));have C_with_node:H 1 "with_node" ["tree","changed"] jH:=fh X G F7 a7 (fb2 F7) (uZ F7 T);have C_make:HX 3 "make" ["tree","number","parent","name","stamp"] (oO cls):=fhX X G F8 a8 (fb5 F8) (va F8 T W6 C_by_number C_check_folder C_check_place);have C_write:HX 2 "write" ["tree","number","stamp"] (lP cls):=fhX X G F9 a9 (fb3 F9) (sM F9 W6 C_by_number C_node_of C_with_node);have C_move:HX 3 "move" ["tree","number","parent","name"] (oP cls):=fhX X G F10 a10 (fb4 F10) (vb F10 W6 C_by_number C_node_of C_check_folder C_below C_check_place C_with_node);have C_drop:HX 3 "drop" ["tree","number"] (oR cls):=fhX X G F11 a11 (fb2 F11) (vc F11 T C_by_number C_node_of C_below);have C_done:HX 4 "done" ["tree","deed"] (lQ cls):=fhX X G F12 a12 (fb2 F12) (vd F12 C_make C_write C_move C_drop);have C_nodes_needed:H 2 "nodes_needed" ["now","goal"] sS:=fh X G F13 a13 (fb2 F13) (xC F13 T C_by_number);have C_check_kinds:HX 2 "check_kinds" ["old","new"] (sT (B 3)):=fhX X G F14 a14 (fb2 F14) (xE F14 OW C_by_number);have C_next_drop:H 3 "next_drop" ["now","goal"] sU:=fh X G F15 a15 (fb2 F15) (xF F15 T C_nodes_needed);have C_is_refused:H 5 "is_refused" ["tree","deed"] sW:=fh X G F16 a16 (fb2 F16) (xG F16 LT C_done);have C_placings:H 2 "placings" ["now","new"] sX:=fh X G F17 a17 (fb2 F17) (xH F17 C_by_number);have C_name_at:H 1 "name_at" ["count"] sY:=fh X G F18 a18 (fb1 F18) (xI F18 T);have C_writes:H 2 "writes" ["now","new"] sZ:=fh X G F19 a19 (fb2 F19) (xJ F19 C_by_number);have C_free_name:H 2 "free_name" ["now","new"] tf:=fh X G F20 a20 (fb2 F20) (xK F20 T C_name_at);have C_next_deed:H 6 "next_deed" ["now","new","deeds"] tq:=fh X G F21 a21 (fb3 F21) ((xL F21 T C_by_number C_next_drop C_placings C_is_refused C_free_name).imp vk);have C_in_steps:HX 7 "in_steps" ["old","new"] (tu (B 3)):=fhX X G F22 a22 (fb2 F22) (vm F22 C_check_kinds C_next_deed C_done C_writes);have C__law_cell:H 1 "_law_cell" ["_law_script","_law_k"] (pz K):=fh X G F23 a23 (fb2 F23) (vK F23 T);have C__law_pick:H 2 "_law_pick" ["_law_script","_law_k","_law_many"] (eP K):=fh X G F24 a24 (fb3 F24) (vL F24 T C__law_cell);have C__law_tree:H 3 "_law_tree" ["_law_script","_law_at","_law_most"] (iC K):=fh X G F25 a25 (fb3 F25) (ua F25 T C__law_pick);have C__law_book:H 1 "_law_book" ["_law_tree_here"] dI:=fh X G F26 a26 (fb1 F26) (vx F26 T);have C__law_under:H 1 "_law_under" ["_law_book_here","_law_number","_law_goal"] gO:=fh X G F27 a27 (fb3 F27) (xQ F27);have C__law_done:H 2 "_law_done" ["_law_tree_here","_law_deed_here"] lY:=fh X G F28 a28 (fb2 F28) (tX F28 T C__law_book C__law_under);have C__law_deed:H 3 "_law_deed" ["_law_script","_law_at","_law_tree_here"] (pA K):=fh X G F29 a29 (fb3 F29) (vM F29 T C__law_pick);have C__law_further:H 4 "_law_further" ["_law_script","_law_at","_law_tree_here","_law_many"] (qA K):=fh X G F30 a30 (fb4 F30) (yi F30 T C__law_deed C__law_done);have C__law_same_kinds:H 2 "_law_same_kinds" ["_law_one","_law_other"] qz:=fh X G F31 a31 (fb2 F31) (yf F31 T C__law_book);have C__law_done_W:H 2 "_law_done" ["_law_tree_here","_law_deed_here"] dE:=fh X G F28 a28 (fb2 F28) (rC F28 T C__law_book C__law_under);have C__law_word:H 1 "_law_word" ["_law_kept"] (pr B DT K):=fh X G F32 a32 (fb1 F32) (vJ F32 T L);have C__law_tried:H 8 "_law_tried" ["_law_one","_law_other"] om:=fh X G F33 a33 (fb2 F33) (yj F33 L O3 C_in_steps C__law_word);have C__law_names:H 1 "_law_names" ["_law_many"] qp:=fh X G F34 a34 (fb1 F34) (xV F34 T);have C__law_drop:H 2 "_law_drop" ["_law_tree_here","_law_goal"] qq:=fh X G F35 a35 (fb2 F35) (xW F35 T C__law_book C__law_under);have C__law_spare:H 2 "_law_spare" ["_law_tree_here","_law_goal"] qr:=fh X G F36 a36 (fb2 F36) (xX F36 T C__law_names);have C__law_next:H 4 "_law_next" ["_law_tree_here","_law_goal","_law_left","_law_spared"] lm:=fh X G F37 a37 (fb4 F37) (yb F37 T C__law_drop C__law_book C__law_done_W C__law_spare);have C__law_steps:H 5 "_law_steps" ["_law_old","_law_new"] qv:=fh X G F38 a38 (fb2 F38) (yd F38 T C__law_book C__law_done_W C__law_next);exact yk F39 C__law_tree C__law_pick C__law_further C__law_same_kinds C__law_tried C__law_steps
theorem walk{l:PySem.W.OpenLaw}{q:Program}{loose:List Str}{XP:(Str→Option Value)→Heap→Prop}{YP:World→Heap→Prop}{d:DefRec}{K:Params→PySem.W.Frag}(hn:l.most=some 63)(hdf:d.params.defaults=[])(hY:∀(w:World) (h:Heap),YP w h→(K w.params).In h)(F:∀(w:World) (mg:Str→Option Value) (fa:Addr) (h:Heap),(K w.params).In h→h.Ns mainGlobals mg→mg d.name=some (.ref fa) →
   ∃fd:FuncData,(∀(s:Shared) (u:Value),BindsTo s fd ⟨[u],[]⟩ [("_law_script",u)])∧∀base:Heap,(K w.params).In base→base.Ns mainGlobals mg→FnOk l.prog w (K w.params) mg base CX0 9 fa fd ["_law_script"] (qC (K w.params))):
  PySem.W.WalkO q loose XP YP l.row.toRowW d [] (λf vs=>PySem.call f vs) :=
 L2.uD (n:=63) (k:=9) (x:="_law_script") (CX:=λ_=>CX0) (sp:=λw=>qC (K w.params)) hn (by decide) hdf ⟨rfl,by decide,by decide,rfl⟩ hY F (λ_ _ a ns hl _ hS=>⟨a,ns,rfl,hS,hl,λ_=>rfl⟩) λ_ _ _ _ _ z=>z
end TK
end
open PySem PySem.W PyProof.Rows
def PySem.W.Fast.tw15522243654167702576:Unit:=()
def PySem.W.Fast.tw7459048284884658265:Unit:=()
def PySem.W.Fast.tw2566450874214500936:Unit:=()
def PySem.W.Fast.tw13259910856931738568:Unit:=()
def PySem.W.Fast.tw14874669552848420232:Unit:=()
def PySem.W.Fast.tw12295071975389885108:Unit:=()
def PySem.W.Fast.tw9237842241430523144:Unit:=()
def PySem.W.Fast.tw13773065981470108586:Unit:=()
def PySem.W.Fast.tw17839057520690914632:Unit:=()
def PySem.W.Fast.tw11744350923195943339:Unit:=()
def PySem.W.Fast.tw6224160030620058601:Unit:=()
def PySem.W.Fast.tw17160710648688505077:Unit:=()
def PySem.W.Fast.tw17565614160360572600:Unit:=()
def PySem.W.Fast.tw14016547378171100485:Unit:=()
def PySem.W.Fast.tw7554945381788222795:Unit:=()
def PySem.W.Fast.tw17728762823721039248:Unit:=()
def PySem.W.Fast.tw13199397686663588730:Unit:=()
def PySem.W.Fast.tw3434784293476348783:Unit:=()
def PySem.W.Fast.tw12330120470177080558:Unit:=()
def PySem.W.Fast.tw3388525792422665148:Unit:=()
def PySem.W.Fast.tw16762667163362502784:Unit:=()
def PySem.W.Fast.tw11374468451789577037:Unit:=()
def PySem.W.Fast.tw13393454010982414075:Unit:=()
def PySem.W.Fast.tw2481137943263099407:Unit:=()
def PySem.W.Fast.tw2890744416477522263:Unit:=()
def PySem.W.Fast.tw2329542301133200522:Unit:=()
def PySem.W.Fast.tw1665038038007831158:Unit:=()
def PySem.W.Fast.tw4686860169962602605:Unit:=()
def PySem.W.Fast.tw2847912416249782030:Unit:=()
def PySem.W.Fast.tw3679784834677731582:Unit:=()
def PySem.W.Fast.tw5426233933644636707:Unit:=()
def PySem.W.Fast.tw14149656729745914379:Unit:=()
def PySem.W.Fast.tw6144929329256082769:Unit:=()
def PySem.W.Fast.tw13105746003970472342:Unit:=()
def PySem.W.Fast.tw10208153160001903658:Unit:=()
def PySem.W.Fast.tw14773596669706867709:Unit:=()
def PySem.W.Fast.tw6122789102021355001:Unit:=()
def PySem.W.Fast.tw10724401447426417854:Unit:=()
def PySem.W.Fast.tw10139606155565119637:Unit:=()
def PySem.W.Fast.tw15140548906701778189:Unit:=()
def PySem.W.Fast.tw8210315196336476662:Unit:=()
def PySem.W.Fast.tw16961000789939237054:Unit:=()
def PySem.W.Fast.tw9135414728511980558:Unit:=()
def PySem.W.Fast.tw16610265542797417133:Unit:=()
def PySem.W.Fast.tw18205020122821073648:Unit:=()
def PySem.W.Fast.tw13789765788215131828:Unit:=()
def PySem.W.Fast.tw12552126308815026355:Unit:=()
def PySem.W.Fast.tw14500034124436161150:Unit:=()
def PySem.W.Fast.tw15128930120312546545:Unit:=()
def PySem.W.Fast.tw6772145297321559429:Unit:=()
def PySem.W.Fast.tw8905258035518867183:Unit:=()
def PySem.W.Fast.tw14943378870543496181:Unit:=()
def PySem.W.Fast.tw3625237080256550748:Unit:=()
def PySem.W.Fast.tw12788748630295043575:Unit:=()
def PySem.W.Fast.tw4754098148879464413:Unit:=()
def PySem.W.Fast.tw1519018617308114951:Unit:=()
def PySem.W.Fast.tw14357988523473069612:Unit:=()
def PySem.W.Fast.tw9180555934616656019:Unit:=()
def PySem.W.Fast.tw10947569956712531950:Unit:=()
def PySem.W.Fast.tw14046265317636094457:Unit:=()
set_option maxRecDepth 100000 in
set_option maxHeartbeats 0 in
theorem PySem.Challenge.cw_treewatch_k30_in_steps_holds : PySem.Challenge.rw_treewatch_k30_in_steps.Holds := by
 w_on; o_law; k_head; (case hw=>w_witness2)
 k_fill
 refine TK.walk (l:=PySem.Challenge.rw_treewatch_k30_in_steps) rfl rfl (λw h Y=>PySem.W.kIn_of Y) ?F
 case F =>
  intro w mg fa h KX G hmg
  refine' TK.ym KX G hmg ?a1 ?F1 ?a2 ?F2 ?a3 ?F3 ?a4 ?F4 ?a5 ?F5 ?a6 ?F6 ?a7 ?F7 ?a8 ?F8 ?a9 ?F9 ?a10 ?F10 ?a11 ?F11 ?a12 ?F12 ?a13 ?F13 ?a14 ?F14 ?a15 ?F15 ?a16 ?F16 ?a17 ?F17 ?a18 ?F18 ?a19 ?F19 ?a20 ?F20 ?a21 ?F21 ?a22 ?F22 ?a23 ?F23 ?a24 ?F24 ?a25 ?F25 ?a26 ?F26 ?a27 ?F27 ?a28 ?F28 ?a29 ?F29 ?a30 ?F30 ?a31 ?F31 ?a32 ?F32 ?a33 ?F33 ?a34 ?F34 ?a35 ?F35 ?a36 ?F36 ?a37 ?F37 ?a38 ?F38 ?a39 ?F39 ?z1 ?z2 ?z3 ?z4 ?z5 ?z6 ?z7 ?z8 ?z9 ?z10 ?z11 ?z12 ?z13 ?z14 ?z15 ?z16 ?z17 ?z18 ?z19 ?v1t ?v2t ?xD ?gD ?x0 ?x1 ?x2 ?x3 ?x4 ?x5 ?x6 ?x7 ?x8 ?q3 ?e3_0 ?e3_1 ?e3_2 ?e3_3 ?e3_4 ?e3_5 ?e3_6 ?e3_7 ?e3_8 ?v3 ?s3 ?g31 ?g32 ?g33 ?g34 ?q0 ?s0 ?q1 ?s1 ?q4 ?s4 ?q6 ?s6 ?q7 ?s7 ?q8 ?s8
  (case a1|a2|a3|a4|a5|a6|a7|a8|a9|a10|a11|a12|a13|a14|a15|a16|a17|a18|a19|a20|a21|a22|a23|a24|a25|a26|a27|a28|a29|a30|a31|a32|a33|a34|a35|a36|a37|a38|a39=>unfold TK.gA; k_is)
  (case F1|F2|F3|F4|F5|F6|F7|F8|F9|F10|F11|F12|F13|F14|F15|F16|F17|F18|F19|F20|F21|F22|F23|F24|F25|F26|F27|F28|F29|F30|F31|F32|F33|F34|F35|F36|F37|F38|F39=>apply L2.wR <;> k_is)
  (case z1|z2|z3|z4|z5|z6|z7|z8|z9|z10|z11|z12|z13|z14|z15|z16|z17|z18|z19=>unfold TK.gN; k_is)
  (case v1t|v2t|xD=>k_is)
  (case gD=>kts_isx)
  (case x0|x1|x2|x3|x4|x5|x6|x7|x8=>k_is)
  (case q3=>k_exc)
  (case e3_0|e3_1|e3_2|e3_3|e3_4|e3_5|e3_6|e3_7|e3_8|v3=>kit_is)
  (case s3=>k_is)
  (case g31=>kts_isx)
  (case g32|g33|g34=>k_is)
  (case q0=>k_exc)
  (case s0=>k_is)
  (case q1=>k_exc)
  (case s1=>k_is)
  (case q4=>k_exc)
  (case s4=>k_is)
  (case q6=>k_exc)
  (case s6=>k_is)
  (case q7=>k_exc)
  (case s7=>k_is)
  (case q8=>k_exc)
  (case s8=>k_is)
