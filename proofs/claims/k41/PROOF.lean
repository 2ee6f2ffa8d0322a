import PyProof.Rows.All
import Wide.All
import OpenK.AllK
import Wide.FinOn
import Lean
import PyProof.EqAt
import PyProof.EqKinds
import PyProof.TupleCall
import PyProof.CompFree
import PySem.SetTable
import PyProof.SetScanFacts
import PyProof.TupleKey
import PyProof.SetKind
import PyProof.IsRules
import PyProof.SetRoads
import PyProof.InstSpecial
import PyProof.Rows.SetFrom
import KE.KSortTup
import PyProof.StrWalks
import PyProof.EnumMake
import PyProof.ConsumeWalk
import PyProof.ListRange
import PyProof.NeKinds
import PyProof.ZipIter
import KE.KTryDeep
import OpenK.KOwn
import PyProof.RulesAs
import PyProof.NsDelKeeps
import PyProof.ExcArgsOwn
import PyProof.ExcAttrAll.ValueError
import KE.KIsAll
import OpenK.KNot
import PyProof.IsiH_list
import PyProof.Rows.FStr
import KE.KDictOf
import PyProof.AttrMissHeap
import PyProof.DictIter
import PyProof.DictWalks
import PyProof.Rows.DictUnroll
import KE.KRevIter
import KE.KDictList
import PyProof.CollectIter
import PyProof.TupleOfGen
import KE.KSortKey
import PyProof.FactsAll.NoneType_1
import PyProof.CompUse
import PyProof.Rows.FStrParts
import PySem.Challenge.RW_treewatch_k41_whole_readers
set_option Elab.async false
set_option linter.all false
set_option maxRecDepth 100000
set_option maxHeartbeats 8000000
open PySem.W (instObj methodObj hideAll hideAll_get of_hideAll lookIn plainGet hasDictIn handedIn plainGet_of isFn plainOver takerIn makesIn emptyDict keepIn mroIn kitOne kia_one kitx_list kitx_dict callWith_K methodCall_KW fnOf codeIn kat_cons KatTups kat_lt_int subIn KdlSrc excIn nsIn mg_of mg_none_of)
open PyProof.Rows (iadd_int boot_dict boot_sorted boot_isinstance boot_int boot_bool boot_str boot_all boot_tuple)
open PySem.F (slot_tuple_add entry_tuple_add args_tuple_add_2 slot_dict_pop slot_dict_get entry_dict_get plainAttrs_dict type_dict_get slot_dict_keyiterator_next plainAttrs_list slot_list_pop type_list_pop)
open List (mem_filter mem_range mem_cons_self mem_cons_of_mem mem_cons mem_append getElem_inj getElem?_set_self getElem?_set_ne mem_filterMap mem_append_right size_toArray length_cons map_cons length_map append_nil nodup_cons of_mem_zip length length_take getElem?_append_right getElem?_append_left getElem?_map take_sublist mem_of_getElem? length_append length_drop map_nil length_set any_cons length_singleton find?_cons length_nil filter_cons length_filter_le Pairwise mem_map any_eq_true forIn_cons forIn_nil all_eq_true pairwise_iff_getElem pairwise_cons mem_iff_getElem getElem_take filterMap_cons_none filterMap_cons_some length_range nodup_range append_assoc filter_cons_of_neg filter_cons_of_pos filter_sublist map_map getElem?_eq_getElem getElem_map map_drop perm_middle getD_eq_getElem?_getD ext_getElem? getElem?_range getElem?_eq_none getElem_mem map_congr_left nodup_nil Nodup mem_singleton not_mem_nil toArray find?_eq_none find?_some any_map range' length_eq_zero_iff take_succ map_append take_length all_map filter_congr pairwise_map filter_map Sublist nodup_append cons_ne_nil take_of_length_le getElem?_drop map_set)
open Nat (lt_of_lt_of_le lt_irrefl ne_of_lt le_trans le_of_lt ne_of_gt le_refl zero_le le_succ lt_trans lt_of_le_of_lt lt_succ_of_lt zero_add mod_lt lt_or_ge le_add_right sub_self)
open Array (length_toList toList getElem?_toList getD_eq_getD_getElem? replicate forIn_toList size_map isEmpty)
open Option (getD_none map_some isSome_map)
open Bool (and_eq_true or_eq_true false_eq_true)
open Int (toNat_natCast emod_nonneg toNat)
open PySem.Heap (lt_size SameBut get?_push_of_some get?_push_size size_push get?_update_self get?_update_ne ExtBut IsTuple FlyingW)
open PySem.Calls (Constant_str spliced_nil spliced_cons callWith_builtin evalArgs_plain)
open PySem.SeqAt (EqAt in_listAt eq_listAt RcNeAt)
open PySem.Value (bytes float builtin)
open PySem (boot_len)
open PySem.Str (empty ofString)
noncomputable section
namespace L2
open PySem PySem.Spec PyProof.Rows
abbrev Key:=Sum Int Str
def jx:Key→Value→Bool
 |.inl k,v=>Value.isInt k v
 |.inr x,v=>Value.isStrOf x v
def Bq(w:World):Key→Int
 |.inl k=>hashInt k
 |.inr x=>hashStr w x
theorem aX:∀{k:Key}{v:Value},jx k v=true→(∃i t,k=Sum.inl i∧v=Value.int i t)∨(∃x t,k=Sum.inr x∧v=Value.str x t)
 |.inl i,v,h=>by
  obtain⟨t,e⟩:=Value.isInt_shape (k:=i) (v:=v) h;exact .inl ⟨i,t,rfl,e⟩
 |.inr x,v,h=>by
  obtain⟨t,e⟩:=Value.isStrOf_shape (x:=x) (v:=v) h;exact .inr ⟨x,t,rfl,e⟩
theorem sG(i:Int)(t:Tok):jx (.inl i) (.int i t)=true:=by simp[jx,Value.isInt]
theorem sH(x:Str)(t:Tok):jx (.inr x) (.str x t)=true:=by simp[jx,Value.isStrOf]
theorem yF(a b:Int):decide ((Sum.inl a:Key)=Sum.inl b)=(a==b):=by
 by_cases e:a=b
 ·subst e;simp
 ·have h:¬(Sum.inl a:Key)=Sum.inl b:=λq=>e (Sum.inl.inj q);rw[decide_eq_false h];exact(beq_eq_false_iff_ne.mpr e).symm
theorem yG(a b:Str):decide ((Sum.inr a:Key)=Sum.inr b)=decide (a=b):=by
 by_cases e:a=b
 ·subst e;simp
 ·have h:¬(Sum.inr a:Key)=Sum.inr b:=λq=>e (Sum.inr.inj q);rw[decide_eq_false h,decide_eq_false e]
theorem yH(a:Int)(b:Str):decide ((Sum.inl a:Key)=Sum.inr b)=false:=decide_eq_false (λq=>nomatch q)
theorem yI(a:Str)(b:Int):decide ((Sum.inr a:Key)=Sum.inl b)=false:=decide_eq_false (λq=>nomatch q)
def aJ(prog:Program)(w:World):PySem.KeyKind prog w Key where
 is:=jx
 hash:=Bq w
 inj:=λv a b j g=>by
  rcases aX j with⟨i,t,rfl,rfl⟩|⟨x,t,rfl,rfl⟩
  ·rcases aX g with⟨f,u,rfl,e⟩|⟨y,u,rfl,e⟩
   ·injection e with c _;rw[c]
   ·exact nomatch e
  ·rcases aX g with⟨f,u,rfl,e⟩|⟨y,u,rfl,e⟩
   ·exact nomatch e
   ·injection e with c _;rw[c]
 byValue:=λk v h=>by
  rcases aX h with⟨i,t,rfl,rfl⟩|⟨x,t,rfl,rfl⟩<;>rfl
 pyHash:=λd h=>by
  rcases aX d with⟨i,t,rfl,rfl⟩|⟨x,t,rfl,rfl⟩
  ·exact wpAny_pyHash_int h
  ·exact wpAny_pyHash_str h
 eqBool:=λl d h=>by
  rcases aX l with⟨i,t,rfl,rfl⟩|⟨x,t,rfl,rfl⟩
  ·rcases aX d with⟨f,u,rfl,rfl⟩|⟨y,u,rfl,rfl⟩
   ·rw[yF]at h;exact wpAny_eqBool_int h
   ·rw[yH]at h;exact EqAt.int_str i t y u _ _ _ _ h
  ·rcases aX d with⟨f,u,rfl,rfl⟩|⟨y,u,rfl,rfl⟩
   ·rw[yI]at h;exact EqAt.str_int x t f u _ _ _ _ h
   ·rw[yG]at h;exact wpAny_eqBool_str h
 «strs»:=λk x t v h=>by
  rcases aX h with⟨i,u,rfl,e⟩|⟨y,u,rfl,e⟩
  ·exact nomatch e
  ·injection e with c _
   subst c;cases v<;>rfl
theorem nV(prog:Program)(w:World)(i:Int)(t:Tok):(aJ prog w).is (.inl i) (.int i t)=true:=sG i t
theorem nW(prog:Program)(w:World)(x:Str)(t:Tok):(aJ prog w).is (.inr x) (.str x t)=true:=sH x t
inductive V where
 |non|bl (b:Bool)|int (i:Int)|str (x:Str)|byt (b:Array UInt8)|flt (b:UInt64)|ref (a:Addr)|ty (n:String)
 deriving DecidableEq
def aL:V→Value→Prop
 |.non,u=>u=Value.none
 |.bl b,u=>u=Value.bool b
 |.int i,u=>∃t,u=Value.int i t
 |.str x,u=>∃t,u=Value.str x t
 |.byt b,u=>∃t,u=bytes b t
 |.flt b,u=>∃t,u=float b t
 |.ref a,u=>u=Value.ref a
 |.ty n,u=>u=Value.type n
abbrev aF:List V→List Value→Prop:=Paired aL
theorem aF.length{xs:List V}{us:List Value}(r:aF xs us):xs.length=us.length:=Paired.length r
theorem aF.get:∀{xs:List V}{us:List Value}{i:Nat}{x:V},aF xs us→xs[i]?=some x→∃u,us[i]?=some u∧aL x u
 |_,_,_,_,.nil,e=>by simp at e
 |_,_,0,_,.cons r _,e=>by simp at e;subst e;exact⟨_,rfl,r⟩
 |_,_,i+1,x,.cons _ t,e=>by
  obtain⟨u,h1,h2⟩:=aF.get (i:=i) (x:=x) t (by simpa using e);exact⟨u,by simpa using h1,h2⟩
theorem aF.set{x:V}{u:Value}(r:aL x u):∀{xs:List V}{us:List Value}(i:Nat),aF xs us→aF (xs.set i x) (us.set i u)
 |_,_,_,.nil=>.nil
 |_,_,0,.cons _ t=>.cons r t
 |_,_,i+1,.cons q t=>.cons q (aF.set r i t)
theorem aF.append:∀{xs ys:List V}{us a:List Value},aF xs us→aF ys a→aF (xs++ys) (us++a)
 |_,_,_,_,.nil,s=>s
 |_,_,_,_,.cons r t,s=>.cons r (aF.append t s)
theorem aF.take:∀{xs:List V}{us:List Value}(n:Nat),aF xs us→aF (xs.take n) (us.take n)
 |_,_,0,_=>.nil
 |_,_,_+1,.nil=>.nil
 |_,_,n+1,.cons r t=>.cons r (aF.take n t)
theorem aF.drop:∀{xs:List V}{us:List Value}(n:Nat),aF xs us→aF (xs.drop n) (us.drop n)
 |_,_,0,r=>r
 |_,_,_+1,.nil=>.nil
 |_,_,n+1,.cons _ t=>aF.drop n t
def dZ:Option V→Option Value→Prop
 |some v,some u=>aL v u
 |none,none=>True
 |_,_=>False
def KV{κ:Type}:List (κ×V)→List (κ×Value)→Prop:=Paired λ(p:κ×V) (q:κ×Value)=>p.1=q.1∧aL p.2 q.2
def kV:Key→V
 |.inl i=>.int i
 |.inr x=>.str x
inductive HO where
 |lst (xs:List V)
 |tup (xs:List V)
 |dK (kvs:List (Key×V))|dT (kvs:List (List Key×V))
 |set (S:Int→Bool) (n:Nat)
 |ins (C dx:Addr) (fs:List (Str×V))
 |own (x:Addr)
 |xd (fs:List (Str×V))
 |met (f x:Addr)
 |rng (lo hi:Int)
 |frz (o:Obj) (u:HO)
 |tbl (ps:Array Value)
 |ext (φ:Heap→Prop)
abbrev Hp:=Addr→Option HO
def upd(H:Hp)(a:Addr)(o:HO):Hp:=λb=>if b=a then some o else H b
theorem ac{H:Hp}{a:Addr}{o:HO}:upd H a o a=some o:=by unfold upd;rw[if_pos rfl]
theorem ai{H:Hp}{a b:Addr}{o:HO}(h:b≠a):upd H a o b=H b:=by unfold upd;rw[if_neg h]
theorem rj{H:Hp}{a b:Addr}{o u:HO}(h:H a=some o)(h':H b=some u)(d:o≠u):a≠b:=by
 intro e;subst e;rw[h]at h';exact d (Option.some.inj h')
theorem ao{H:Hp}{a b:Addr}{o:HO}(h:H a=some o)(h':H b=none):a≠b:=by
 intro e;subst e;rw[h]at h';cases h'
section
variable(P:Program)(w:World)
def bp(d:Hp)(b:Heap)(a:Addr):HO→Prop
 |.lst xs=>xs.length≤sizeLine∧∃(c:List Value) (n:Nat),aF xs c∧b.get? a=some {cls:=.type "list",data:=.seq c.toArray n}
 |.tup xs=>xs.length≤sizeLine∧∃c:List Value,aF xs c∧IsTup b a c.toArray
 |.dK kvs=>kvs.length≤sizeLine∧(a==sysModules)=false∧∃vs,KV kvs vs∧b.DictOf (aJ P w) a vs
 |.dT kvs=>kvs.length≤sizeLine∧(a==sysModules)=false∧∃xs:List (List Key×Addr×Value),
   Paired (λ(p:List Key×V) (q:List Key×Addr×Value)=>p.1=q.1∧d q.2.1=some (.tup (p.1.map kV))∧aL p.2 q.2.2) kvs xs ∧
   ∃o es g,b.get? a=some o∧o.ExactDict∧o.data=.dict es g∧es.toList=xs.map (entryOfKey (tupleKind (aJ P w)))∧(xs.map (·.1)).Nodup
 |.set S n=>b.SetOf (intKind P w) a S n
 |.ins C dx fs=>d dx=some (.own a)∧fs.length≤1000∧dx≠a∧b.get? a=some (instObj C dx) ∧
   ∃mA,b.Ns1 dx mA∧(∀f,dZ (fs.lookup f) (mA f))∧PySem.Within mA (fs.map (·.1))
 |.own _=>∃o,b.get? a=some o
 |.xd fs=>∃mA,b.Ns1 a mA∧∀f,dZ (fs.lookup f) (mA f)
 |.rng lo hi=>∃t u v,b.get? a=some {cls:=.type "range",data:=.fields #[.int lo t,.int hi u,.int 1 v]}
 |.frz o u=>b.get? a=some o∧bp d b a u
 |.tbl ps=>b.get? a=some {cls:=.none,data:=.fields ps}
 |.met f x=>b.get? a=some (methodObj (.ref f) (.ref x))
 |.ext e=>e b∧(∃o,b.get? a=some o)∧∀h1 h2:Heap,e h1→(∀o,h1.get? a=some o→h2.get? a=some o)→e h2
def HOk(H:Hp)(h:Heap):Prop:=∀a o,H a=some o→bp P w H h a o
end
section
variable{P:Program}{w:World}{H H':Hp}{h h':Heap}{a:Addr}{o:HO}
theorem bp.lt(x:bp P w H h a o):a<h.objs.size:=by
 cases o with
 |lst xs=>obtain⟨_,_,_,_,e⟩:=x;exact lt_size e
 |tup xs=>obtain⟨_,_,_,p⟩:=x;exact p.lt
 |dK kvs=>obtain⟨_,_,_,_,o,_,_,e,_⟩:=x;exact lt_size e
 |dT kvs=>obtain⟨_,_,_,_,o,_,_,e,_⟩:=x;exact lt_size e
 |set S n=>obtain⟨o,_,_,_,e,_⟩:=x;exact lt_size e
 |ins C dx fs=>obtain⟨_,_,_,e,_⟩:=x;exact lt_size e
 |own y=>obtain⟨_,e⟩:=x;exact lt_size e
 |xd fs=>obtain⟨_,⟨_,_,_,e,_⟩,_⟩:=x;exact lt_size e
 |rng lo hi=>obtain⟨_,_,_,e⟩:=x;exact lt_size e
 |frz b u=>obtain⟨e,_⟩:=x;exact lt_size e
 |tbl ps=>exact lt_size (show h.get? a=some _ from x)
 |met f y=>exact lt_size (show h.get? a=some _ from x)
 |ext c=>obtain⟨_,⟨_,e⟩,_⟩:=x;exact lt_size e
theorem Paired.mapP{g h:Type}{F c:g→h→Prop}:∀{d:List g}{e:List h},Paired F d e→(∀a b,F a b→c a b)→Paired c d e
 |_,_,.nil,_=>.nil
 |_,_,.cons r t,f=>.cons (f _ _ r) (Paired.mapP t f)
theorem bp.stay(x:bp P w H h a o)(k:∀b u,(b=a∨H b=some (.own a))→h.get? b=some u→h'.get? b=some u)(s:∀b,H b=some (.own a)→H' b=some (.own a))(A:∀b xs,H b=some (.tup xs)→H' b=some (.tup xs)):bp P w H' h' a o:=by
 induction o with
 |lst xs=>obtain⟨z,j,n,r,e⟩:=x;exact⟨z,j,n,r,k _ _ (.inl rfl) e⟩
 |tup xs=>obtain⟨z,j,r,g,e,c⟩:=x;exact⟨z,j,r,g,k _ _ (.inl rfl) e,c⟩
 |dK kvs=>obtain⟨z,y,vs,r,g,es,i,e,c⟩:=x;exact⟨z,y,vs,r,g,es,i,k _ _ (.inl rfl) e,c⟩
 |dT kvs =>
  obtain⟨z,y,xs,r,g,es,i,e,c⟩:=x;exact⟨z,y,xs,Paired.mapP r λp q z=>⟨z.1,A _ _ z.2.1,z.2.2⟩,g,es,i,k _ _ (.inl rfl) e,c⟩
 |set S n=>obtain⟨g,es,i,t,e,c⟩:=x;exact⟨g,es,i,t,k _ _ (.inl rfl) e,c⟩
 |ins C dx fs =>
  obtain⟨d,z,D,e,mA,⟨l,es,i,m,c⟩,r⟩:=x;exact⟨s _ d,z,D,k _ _ (.inl rfl) e,mA,⟨l,es,i,k _ _ (.inr d) m,c⟩,r⟩
 |own y=>obtain⟨g,e⟩:=x;exact⟨g,k _ _ (.inl rfl) e⟩
 |xd fs=>obtain⟨mA,⟨l,es,i,e,c⟩,r⟩:=x;exact⟨mA,⟨l,es,i,k _ _ (.inl rfl) e,c⟩,r⟩
 |rng lo hi=>obtain⟨t,u,v,e⟩:=x;exact⟨t,u,v,k _ _ (.inl rfl) e⟩
 |frz g u B=>obtain⟨e,q⟩:=x;exact⟨k _ _ (.inl rfl) e,B q⟩
 |tbl ps =>
  have e:h.get? a=some {cls:=.none,data:=.fields ps}:=x;show h'.get? a=some {cls:=.none,data:=.fields ps};exact k a _ (.inl rfl) e
 |met f y =>
  have e:h.get? a=some (methodObj (.ref f) (.ref y)):=x;show h'.get? a=some (methodObj (.ref f) (.ref y));exact k a _ (.inl rfl) e
 |ext E=>obtain⟨p,⟨o,e⟩,st⟩:=x;exact⟨st _ _ p λo q=>k _ _ (.inl rfl) q,⟨o,k _ _ (.inl rfl) e⟩,st⟩
theorem HOk.lt(x:HOk P w H h)(e:H a=some o):a<h.objs.size:=(x a o e).lt
theorem HOk.fresh(x:HOk P w H h)(e:h.objs.size≤a):H a=none:=by
 cases q:H a with
 |none=>rfl
 |some u=>exact absurd (lt_of_lt_of_le (x.lt q) e) (lt_irrefl _)
theorem HOk.kept(x:HOk P w H h)(k:∀b u,h.get? b=some u→h'.get? b=some u):HOk P w H h':=λa o e =>
 (x a o e).stay (λb u _ q=>k b u q) (λ_ q=>q) λ_ _ q=>q
theorem HOk.laid(x:HOk P w H h)(k:∀b u,h.get? b=some u→h'.get? b=some u)(g:h.objs.size≤a)(new:bp P w (upd H a o) h' a o):HOk P w (upd H a o) h':=λb u e=>by
 have f:=x.fresh g
 by_cases d:b=a
 ·subst d;rw[ac]at e;cases e;exact new
 ·rw[ai d]at e;exact(x b u e).stay (λc v _ q=>k c v q) (λc q=>by rw[ai (ao q f)];exact q) λc xs q=>by rw[ai (ao q f)];exact q
end
def Rd(H:Hp)(a:Addr)(u:HO):Prop:=H a=some u∨∃o,H a=some (.frz o u)
theorem Rd.of{H:Hp}{a:Addr}{u:HO}(h:H a=some u):Rd H a u:=.inl h
theorem Rd.ok{P:Program}{w:World}{H:Hp}{h:Heap}{a:Addr}{u:HO}(r:Rd H a u)(x:HOk P w H h):bp P w H h a u:=by
 rcases r with r|⟨o,r⟩
 ·exact x a u r
 ·obtain⟨_,q⟩:=x a _ r;exact q
def Mut:Option HO→Prop
 |some (.lst _)=>True
 |some (.dK _)=>True
 |some (.dT _)=>True
 |some (.set _ _)=>True
 |some (.ins _ _ _)=>True
 |some (.ext _)=>True
 |_=>False
section
variable{P:Program}{w:World}{H:Hp}{h h':Heap}{x e:Addr}{o':HO}
theorem HOk.write(p:HOk P w H h)(g:Mut (H x))(i:e=x∨H e=some (.own x))(k:∀b u,b≠e→h.get? b=some u→h'.get? b=some u)(m:∃u,h'.get? e=some u)(new:bp P w (upd H x o') h' x o'):HOk P w (upd H x o') h':=λb u q=>by
 have j:∀c y,H c=some (.own y)→c≠x:=λc y r z=>by subst z;rw[r]at g;exact g
 have o:∀c xs,H c=some (.tup xs)→c≠x:=λc xs r z=>by subst z;rw[r]at g;exact g
 by_cases a:b=x
 ·subst a;rw[ac]at q;cases q;exact new
 ·rw[ai a]at q
  by_cases d:b=e
  ·have l:H b=some (.own x):=by
    rcases i with z|z
    ·exact absurd (d.trans z) a
    ·rw[d];exact z
   rw[q]at l;cases l;obtain⟨v,n⟩:=m;exact⟨v,by rw[d];exact n⟩
  ·refine(p b u q).stay (λc v f r=>k c v ?_ r) (λc r=>by rw[ai (j c b r)];exact r) λc xs r=>by rw[ai (o c xs r)];exact r
   rcases f with rfl|f
   ·exact d
   ·rintro rfl;rcases i with z|z
    ·exact j c b f z
    ·rw[f]at z;cases z;exact a rfl
end
structure Un(fs ex:List Addr)(H H':Hp)(h h':Heap):Prop where
 keep:∀b o,h.get? b=some o→H b=none→b∉fs→b∉ex→h'.get? b=some o
 slot:∀b o,h.get? b=some o→H b=none→b∈fs→b∉ex→∃sl,h'.get? b=some {o with slots:=sl}
 free:∀b o,h.get? b=some o→H b=none→b∉ex→H' b=none
 there:∀b o,h.get? b=some o→b∉ex→∃o',h'.get? b=some o'
 tups:∀b xs,H b=some (.tup xs)→H' b=some (.tup xs)
 frzs:∀b o u,H b=some (.frz o u)→H' b=some (.frz o u)
 tbls:∀b ps,H b=some (.tbl ps)→∃more,H' b=some (.tbl (ps++more))
section
variable{fs fs' ex ex':List Addr}{H H1 H2:Hp}{h h1 h2 h':Heap}{a x e:Addr}{o:HO}
theorem Un.any(u:Un fs ex H H1 h h1){b:Addr}{a:Obj}(q:h.get? b=some a)(n:H b=none)(d:b∉ex):∃e,h1.get? b=some {a with slots:=e}:=by
 by_cases c:b∈fs
 ·exact u.slot b a q n c d
 ·exact⟨a.slots,u.keep b a q n c d⟩
theorem Un.kept(k:∀b u,h.get? b=some u→h'.get? b=some u):Un fs ex H H h h' :=
 ⟨λb a q _ _ _=>k b a q,λb a q _ _ _=>⟨a.slots,k b a q⟩,λ_ _ _ n _=>n,λb a q _=>⟨a,k b a q⟩,λ_ _ q=>q,λ_ _ _ q=>q,λ_ ps q=>⟨#[],by rw[q];simp⟩⟩
theorem Un.refl:Un fs ex H H h h:=Un.kept λ_ _ q=>q
theorem Un.laid(k:∀b u,h.get? b=some u→h'.get? b=some u)(d:h.objs.size≤a)(c:H a=none):Un fs ex H (upd H a o) h h' where
 keep:=λb u q _ _ _=>k b u q
 slot:=λb u q _ _ _=>⟨u.slots,k b u q⟩
 free:=λb u q n _=>by rw[ai (ne_of_lt (lt_of_lt_of_le (lt_size q) d))];exact n
 there:=λb u q _=>⟨u,k b u q⟩
 tups:=λb xs q=>by rw[ai (ao q c)];exact q
 frzs:=λb u xs q=>by rw[ai (ao q c)];exact q
 tbls:=λb ps q=>⟨#[],by rw[ai (ao q c),q];simp⟩
theorem Un.write(a:Mut (H x))(i:e=x∨H e=some (.own x))(k:∀b u,b≠e→h.get? b=some u→h'.get? b=some u)(j:∃u,h'.get? e=some u):Un fs ex H (upd H x o) h h':=by
 have g:∀b,H b=none→b≠x:=λb n z=>by subst z;rw[n]at a;exact a
 have d:∀b,H b=none→b≠e:=λb n z=>by
  subst z;rcases i with r|r
  ·exact g b n r
  ·rw[n]at r;cases r
 have c:∀b u,H b=some u→¬Mut (some u)→b≠x:=λb u q nm z=>by subst z;rw[q]at a;exact nm a
 refine⟨λb u q n _ _=>k b u (d b n) q,λb u q n _ _=>⟨u.slots,k b u (d b n) q⟩,λb u q n _=>by rw[ai (g b n)];exact n,λb u q _=>?_,
  λb xs q=>by rw[ai (c b _ q λz=>z)];exact q,λb u xs q=>by rw[ai (c b _ q λz=>z)];exact q,λb ps q=>⟨#[],by rw[ai (c b _ q λz=>z),q];simp⟩⟩
 by_cases f:b=e
 ·subst f;exact j
 ·exact⟨u,k b u f q⟩
end
def trk(h:Heap)(H:Hp):List Addr:=(List.range h.objs.size).filter λa=>(H a).isSome
def lX(h:Heap)(H:Hp):Heap:=hideAll h (trk h H)
theorem sI(h:Heap)(H:Hp):(lX h H).objs.size=h.objs.size:=PySem.W.hideAll_size _ _
theorem ue{c:Heap}{a:Hp}{b:Addr}{o:Obj}(e:c.get? b=some o)(n:a b=none):(lX c a).get? b=some o :=
 hideAll_get _ e λd=>by
  have q:(a b).isSome=true:=(mem_filter.mp d).2;rw[n]at q;simp at q
theorem wJ{a:Heap}{H:Hp}{b:Addr}{o:Obj}(e:(lX a H).get? b=some o):a.get? b=some o∧H b=none:=by
 have c:a.get? b=some o:=of_hideAll (trk a H) e;refine⟨c,?_⟩;cases q:H b with
 |none=>rfl
 |some x =>
  have d:b∈trk a H:=mem_filter.mpr ⟨mem_range.mpr (lt_size c),by simp[q]⟩;have z:(lX a H).get? b=none:=PySem.W.hideAll_none (trk a H) d;rw[z]at e;cases e
structure Mod(K:PySem.W.Frag)(mg:Str→Option Value)(base:Heap):Prop where
 kin:K.In base
 glob:base.Ns mainGlobals mg
 blt:∃mb,base.Ns builtinsNs mb∧∀x:Str,x≠"__name__"→mb x=bootBuiltins x
 nolimit:base.NoLimit
structure Cx where
 prog:Program
 w:World
 K:PySem.W.Frag
 mg:Str→Option Value
 base:Heap
 A:Around
 N:List Str
 s₀:Shared
 H₀:Hp
 env:Env
 outer:List Env
 stack:List Env
 ex:List Addr
 fn:Str→Bool
 calm:Bool
 pn:List (Addr×Obj)
 xe:Value→Shared→Prop
def frs(l:List Env):List Addr:=l.filterMap (·.frame)
abbrev Cx.fs(X:Cx):List Addr:=frs X.outer
def Vis(a:Scope)(x:Str):Prop:=a.names.lookup x=some .local∨a.names.lookup x=some .cell∨a.names.lookup x=some .free
def Loc(a:Scope)(x:Str):Prop:=a.names.lookup x=some .local∨a.names.lookup x=some .cell
def Br(env:Env)(h:Heap)(m:Str→Option Value)(x:Str)(u:Value):Prop :=
 (env.kindOf x=some .local∧m x=some u)∨((env.kindOf x=some .cell∨env.kindOf x=some .free)∧∃c,env.cells.lookup x=some c∧h.IsCell c (some u))
structure Cx.Ok(X:Cx):Prop where
 mod:Mod X.K X.mg X.base
 kind:X.env.scope.kind=.function
 glob:X.env.globals=mainGlobals
 blt:X.env.builtins=builtinsNs
 above:X.s₀.heap.objs.size≤X.env.locals
 inj:∀x y c,X.env.cells.lookup x=some c→X.env.cells.lookup y=some c→x=y
 has:∀x,(X.env.kindOf x=some .cell∨X.env.kindOf x=some .free)→∃c,X.env.cells.lookup x=some c
 cab:∀x c,X.fn x=true→X.env.cells.lookup x=some c→X.s₀.heap.objs.size≤c
 hd:X.calm=true→X.A.handled=none
 frames:X.A.frames=some X.stack
 stk:X.stack=X.outer∨(X.stack=X.env::X.outer∧X.env.frame=some X.env.locals)
 exf:∀b∈X.ex,b≠X.env.locals∧∀x c,X.env.cells.lookup x=some c→c≠b
 bs:∀b o,X.base.get? b=some o→X.s₀.heap.get? b=some o∧X.H₀ b=none
 bsz:X.base.objs.size≤X.s₀.heap.objs.size
 noex:∀b o,X.base.get? b=some o→b∉X.ex
 exfs:∀b∈X.ex,b∉X.fs
 funs:X.s₀.heap.FunFrames X.base X.outer
 frf:∀b∈X.fs,X.H₀ b=none
structure Inv(X:Cx)(pins:List (Addr×Obj))(σ:List (Option V))(H:Hp)(s:Shared):Prop where
 ok:X.Ok
 os:s.os=X.s₀.os
 bare:AllBare s.gens
 base:Un X.fs X.ex X.H₀ H X.s₀.heap s.heap
 loc:∃m,s.heap.Ns X.env.locals m∧∀(i:Nat)(x:Str)(v:V),X.N[i]?=some x→σ[i]?=some (some v)→Vis X.env.scope x→∃u,aL v u∧Br X.env s.heap m x u
 cell:∀x c,X.env.cells.lookup x=some c→∃v,s.heap.IsCell c v
 free:H X.env.locals=none
 freeC:∀x c,X.env.cells.lookup x=some c→H c=none
 pin:∀p∈X.pn++pins,s.heap.get? p.1=some p.2∧H p.1=none∧p.1≠X.env.locals∧p.1∉X.fs∧∀v,p.2.data≠.cell v
 hok:HOk X.prog X.w H s.heap
 len:σ.length=X.N.length
section
variable{X:Cx}{pins:List (Addr×Obj)}{σ:List (Option V)}{H H':Hp}{s:Shared}{h':Heap}
theorem Cx.Ok.nofr(c:X.Ok){b:Addr}{o:Obj}(e:X.base.get? b=some o):b∉X.fs:=λa=>by
 have:=(c.funs.mem a).1;rw[e]at this;cases this
theorem Inv.bs(I:Inv X pins σ H s):∀b o,X.base.get? b=some o→s.heap.get? b=some o∧H b=none:=λb o e =>
 ⟨I.base.keep b o (I.ok.bs b o e).1 (I.ok.bs b o e).2 (I.ok.nofr e) (I.ok.noex b o e),I.base.free b o (I.ok.bs b o e).1 (I.ok.bs b o e).2 (I.ok.noex b o e)⟩
theorem Inv.bk(I:Inv X pins σ H s):∀b o,X.base.get? b=some o→s.heap.get? b=some o:=λb o e=>(I.bs b o e).1
theorem Inv.mod(I:Inv X pins σ H s):Mod X.K X.mg X.base:=I.ok.mod
theorem Inv.kIn(I:Inv X pins σ H s):X.K.In s.heap:=I.ok.mod.kin.keeps I.bk
theorem Inv.lt(a:Inv X pins σ H s):X.env.locals<s.heap.objs.size:=let⟨_,b,_⟩:=a.loc;b.lt
theorem Inv.sz(I:Inv X pins σ H s):X.s₀.heap.objs.size≤s.heap.objs.size:=le_trans I.ok.above (le_of_lt I.lt)
theorem Inv.nofs(b:Inv X pins σ H s){a:Addr}(c:s.heap.objs.size≤a):a∉X.fs:=λd=>by
 obtain⟨_,o,e,_⟩:=b.ok.funs.mem d;exact absurd (lt_of_lt_of_le (lt_size e) (le_trans b.sz c)) (lt_irrefl _)
theorem Inv.cne(a:Inv X pins σ H s):∀x c,X.env.cells.lookup x=some c→c≠X.env.locals:=λx c e z=>by
 obtain⟨v,o,d,b⟩:=a.cell x c e;obtain⟨m,⟨o',es,h,g,f,_⟩,_⟩:=a.loc;rw[z,g]at d;cases d;rw[f]at b;cases b
theorem Inv.funs(c:Inv X pins σ H s):s.heap.FunFrames X.base X.outer:=by
 have all:∀(l:List Env),(∀b∈frs l,b∈X.fs)→X.s₀.heap.FunFrames X.base l→s.heap.FunFrames X.base l:=by
  intro l
  induction l with
  |nil=>intro _ _;trivial
  |cons t r q =>
   intro h k;obtain⟨j,⟨a,o,g,m,n,i⟩,p⟩:=k;have d:a∈X.fs:=h a (by unfold frs;rw[List.filterMap_cons,g];exact mem_cons_self);obtain⟨u,e⟩:=c.base.slot a o n (c.ok.frf a d) d λz=>c.ok.exfs a z d;exact⟨j,⟨a,_,g,m,e,i⟩,q (λb f=>h b (by unfold frs;rw[List.filterMap_cons,g];exact mem_cons_of_mem _ f)) p⟩
 exact all X.outer (λ_ f=>f) c.ok.funs
theorem Inv.stack(a:Inv X pins σ H s):s.heap.FunFrames X.base X.stack:=by
 rcases a.ok.stk with e|⟨e,b⟩
 ·rw[e];exact a.funs
 ·rw[e];obtain⟨m,c,_⟩:=a.loc;refine .cons (by rw[a.ok.kind];decide) b c ?_ a.funs;exact Heap.get?_none_of_le (le_trans a.ok.bsz a.ok.above)
theorem Inv.stkSub(c:Inv X pins σ H s):∀b∈frs X.stack,b∈X.env.locals::X.fs:=λb a=>by
 rcases c.ok.stk with e|⟨e,d⟩
 ·rw[e]at a;exact mem_cons_of_mem _ a
 ·rw[e]at a;unfold frs at a;rw[List.filterMap_cons,d]at a;exact a
theorem Inv.stkFree(a:Inv X pins σ H s):∀b∈frs X.stack,H b=none:=λb c=>by
 rcases mem_cons.mp (a.stkSub b c)with e|c
 ·rw[e];exact a.free
 ·obtain⟨_,o,d,_⟩:=a.ok.funs.mem c;exact a.base.free b o d (a.ok.frf b c) λz=>a.ok.exfs b z c
theorem Inv.step{g':Array GenState}{t':Nat}{d':Drawn}{ch:List Addr}(a:Inv X pins σ H s)(y:∀b∈ch,(b∈X.ex∨X.s₀.heap.objs.size≤b)∧b≠X.env.locals∧(∀x c,X.env.cells.lookup x=some c→c≠b)∧∀p∈X.pn++pins,p.1≠b)(E:∀b o,b≠X.env.locals→b∉X.fs→b∉ch→s.heap.get? b=some o→H b=none→h'.get? b=some o)(N:∀b o,b≠X.env.locals→b∈X.fs→b∉ch→s.heap.get? b=some o→H b=none→∃F,h'.get? b=some {o with slots:=F})(B:∀b o,b∉ch→s.heap.get? b=some o→H b=none→H' b=none)(Z:∀b o,b∉ch→s.heap.get? b=some o→∃o',h'.get? b=some o')(a0:∀b xs,H b=some (.tup xs)→H' b=some (.tup xs))(P:∀b o u,H b=some (.frz o u)→H' b=some (.frz o u))(Y:∀b ps,H b=some (.tbl ps)→∃more,H' b=some (.tbl (ps++more)))(ns:∀m,s.heap.Ns X.env.locals m→h'.Ns X.env.locals m)(T:HOk X.prog X.w H' h')(Q:AllBare g'):
  Inv X pins σ H' {s with heap:=h',gens:=g',drawn:=d',toks:=t'}:=by
 have L:∀b o,X.s₀.heap.get? b=some o→b≠X.env.locals:=λb o e=>ne_of_lt (lt_of_lt_of_le (lt_size e) a.ok.above);have C:∀b o,X.s₀.heap.get? b=some o→b∉X.ex→b∉ch:=λb o e f h=>by
  rcases (y b h).1 with z|z
  ·exact f z
  ·exact absurd (lt_of_lt_of_le (lt_size e) z) (lt_irrefl _)
 have G:∀x c,X.env.cells.lookup x=some c→∀v,s.heap.IsCell c v→h'.IsCell c v:=λx c e v ⟨o,j,D⟩=>by
  have A:c∉ch:=λz=>(y c z).2.2.1 x c e rfl
  by_cases I:c∈X.fs
  ·obtain⟨F,q⟩:=N c o (a.cne x c e) I A j (a.freeC x c e);exact⟨_,q,D⟩
  ·exact⟨o,E c o (a.cne x c e) I A j (a.freeC x c e),D⟩
 refine⟨a.ok,a.os,Q,⟨λb o e n h f=>?_,λb o e n h f=>?_,λb o e n f=>?_,λb o e f=>?_,λb xs e=>a0 b xs (a.base.tups b xs e),λb o xs e=>P b o xs (a.base.frzs b o xs e),λb ps e=>?_⟩,?_,λx c e=>?_,?_,λx c e=>?_,λp J=>?_,T,a.len⟩
 ·exact E b o (L b o e) h (C b o e f) (a.base.keep b o e n h f) (a.base.free b o e n f)
 ·obtain⟨F,g⟩:=a.base.slot b o e n h f;obtain⟨W,t⟩:=N b _ (L b o e) h (C b o e f) g (a.base.free b o e n f);exact⟨W,t⟩
 ·obtain⟨o',g⟩:=a.base.there b o e f;exact B b o' (C b o e f) g (a.base.free b o e n f)
 ·obtain⟨o',g⟩:=a.base.there b o e f;exact Z b o' (C b o e f) g
 ·obtain⟨U,g⟩:=a.base.tbls b ps e;obtain⟨V,t⟩:=Y b _ g;exact⟨U++V,by rw[t,Array.append_assoc]⟩
 ·obtain⟨m,S,R⟩:=a.loc;refine⟨m,ns m S,λi x v g t O=>?_⟩;obtain⟨u,r,l⟩:=R i x v g t O;refine⟨u,r,?_⟩;rcases l with l|⟨k,c,e,z⟩
  ·exact .inl l
  ·exact .inr ⟨k,c,e,G x c e _ z⟩
 ·obtain⟨v,z⟩:=a.cell x c e;exact⟨v,G x c e v z⟩
 ·obtain⟨m,⟨o,_,_,j,_⟩,_⟩:=a.loc;exact B _ o (λz=>(y _ z).2.1 rfl) j a.free
 ·obtain⟨v,o,j,D⟩:=a.cell x c e;exact B c o (λz=>(y c z).2.2.1 x c e rfl) j (a.freeC x c e)
 ·obtain⟨e,n,K,M,d⟩:=a.pin p J;have A:p.1∉ch:=λz=>(y p.1 z).2.2.2 p J rfl;exact⟨E p.1 p.2 K M A e n,B p.1 p.2 A e n,K,M,d⟩
theorem Inv.un{t':Nat}(a:Inv X pins σ H s)(u:Un X.fs [] H H' s.heap h')(k:HOk X.prog X.w H' h'):Inv X pins σ H' {s with heap:=h',toks:=t'}:=by
 obtain⟨m,⟨o,es,p,d,r⟩,_⟩:=id a.loc;obtain⟨t,i⟩:=u.any d a.free (by simp);exact a.step (g':=s.gens) (d':=s.drawn) (ch:=[]) (λ_ z=>nomatch z) (λb o _ c _ e n=>u.keep b o e n c (by simp)) (λb o _ c _ e n=>u.slot b o e n c (by simp)) (λb o _ e n=>u.free b o e n (by simp)) (λb o _ e=>u.there b o e (by simp)) u.tups u.frzs u.tbls (λq j=>by
  obtain⟨o',h,g,f,l⟩:=j;rw[d]at f;cases f;exact⟨_,h,g,i,l⟩) k a.bare
theorem Inv.call{g':Array GenState}{t':Nat}{d':Drawn}{ch:List Addr}(d:Inv X pins σ H s)(u:Un (frs X.stack) ch H H' s.heap h')(v:HOk X.prog X.w H' h')(q:AllBare g')(g:∀b∈ch,(b∈X.ex∨X.s₀.heap.objs.size≤b)∧b≠X.env.locals∧(∀x c,X.env.cells.lookup x=some c→c≠b)∧∀p∈X.pn++pins,p.1≠b):
  Inv X pins σ H' {s with heap:=h',gens:=g',drawn:=d',toks:=t'}:=by
 obtain⟨m,⟨o,es,A,h,r⟩,_⟩:=id d.loc;obtain⟨C,f⟩:=u.any h d.free λz=>(g _ z).2.1 rfl;exact d.step (ch:=ch) g (λb o f l a e n=>u.keep b o e n (λz=>(mem_cons.mp (d.stkSub b z)).elim f l) a) (λb o _ _ a e n=>u.any e n a) (λb o a e n=>u.free b o e n a) (λb o a e=>u.there b o e a) u.tups u.frzs u.tbls (λB t=>by
  obtain⟨o',k,j,i,y⟩:=t;rw[h]at i;cases i;exact⟨_,k,j,f,y⟩) v q
theorem Inv.turned{t':Nat}{it:Addr}(d:Inv X pins σ H s)(k:∀b o,b≠it→s.heap.get? b=some o→h'.get? b=some o)(y:H it=none)(f:it≠X.env.locals)(i:it∈X.ex∨X.s₀.heap.objs.size≤it)(j:∀x c,X.env.cells.lookup x=some c→c≠it)(l:∀p∈X.pn++pins,p.1≠it):Inv X pins σ H {s with heap:=h',toks:=t'}:=by
 have g:∀b u,H b=some u→b≠it:=λb u e z=>by rw[z,y]at e;cases e
 refine d.step (g':=s.gens) (d':=s.drawn) (ch:=[it]) (λb t=>?_) (λb o _ _ a e _=>k b o (λz=>a (by simp[z])) e) (λb o _ _ a e _=>⟨o.slots,k b o (λz=>a (by simp[z])) e⟩) (λ_ _ _ _ n=>n)
  (λb o a e=>⟨o,k b o (λz=>a (by simp[z])) e⟩) (λ_ _ e=>e) (λ_ _ _ e=>e) (λb ps e=>⟨#[],by rw[e];simp⟩) (λm w=>?_) (λb u e=>?_) d.bare
 ·have e:b=it:=by simpa using t
  subst e;exact⟨i,f,j,l⟩
 ·obtain⟨o,es,h,A,r⟩:=w;exact⟨o,es,h,k _ o (Ne.symm f) A,r⟩
 ·refine(d.hok b u e).stay (λc v a q=>k c v ?_ q) (λ_ q=>q) λ_ _ q=>q;rcases a with z|z
  ·rw[z];exact g b u e
  ·exact g c _ z
theorem Inv.tok(I:Inv X pins σ H s)(t:Nat):Inv X pins σ H {s with toks:=t}:=I.un (h':=s.heap) (t':=t) Un.refl I.hok
theorem Inv.kept{t':Nat}(I:Inv X pins σ H s)(k:∀b u,s.heap.get? b=some u→h'.get? b=some u):Inv X pins σ H {s with heap:=h',toks:=t'}:=I.un (Un.kept k) (I.hok.kept k)
theorem Inv.laid{a:Addr}{o:HO}{t':Nat}(c:Inv X pins σ H s)(k:∀b u,s.heap.get? b=some u→h'.get? b=some u)(d:s.heap.objs.size≤a)(new:bp X.prog X.w (upd H a o) h' a o):
  Inv X pins σ (upd H a o) {s with heap:=h',toks:=t'}:=c.un (Un.laid k d (c.hok.fresh d)) (c.hok.laid k d new)
theorem Inv.write{x e:Addr}{o:HO}{t':Nat}(a:Inv X pins σ H s)(f:Mut (H x))(c:e=x∨H e=some (.own x))(k:∀b u,b≠e→s.heap.get? b=some u→h'.get? b=some u)(d:∃u,h'.get? e=some u)(new:bp X.prog X.w (upd H x o) h' x o):Inv X pins σ (upd H x o) {s with heap:=h',toks:=t'}:=a.un (Un.write f c k d) (a.hok.write f c k d new)
theorem Inv.pins_of{b:List (Addr×Obj)}(a:Inv X pins σ H s)(c:∀p∈b,s.heap.get? p.1=some p.2∧H p.1=none∧p.1≠X.env.locals∧p.1∉X.fs∧∀v,p.2.data≠.cell v):Inv X b σ H s :=
 ⟨a.ok,a.os,a.bare,a.base,a.loc,a.cell,a.free,a.freeC,λp d=>(mem_append.mp d).elim (λz=>a.pin p (List.mem_append_left _ z)) (c p),a.hok,a.len⟩
theorem jy{N:List Str}(e:N.Nodup){i j:Nat}{x:Str}(a:N[i]?=some x)(b:N[j]?=some x):i=j:=by
 obtain⟨h1,c⟩:=List.getElem?_eq_some_iff.mp a;obtain⟨h2,d⟩:=List.getElem?_eq_some_iff.mp b;exact(getElem_inj e).mp (c.trans d.symm)
theorem lw{a9:Model}{A:Around}{E:Value→Shared→Prop}{i:Nat}{x:Str}{v:V}{u:Value}{Q:Unit→Shared→Prop}(f:Inv X pins σ H s)(a0:X.N.Nodup)(F:X.N[i]?=some x)(l:Loc X.env.scope x)(r:aL v u)(Z:∀s',Inv X pins (σ.set i (some v)) H s'→(∃a,SameBut a s.heap s'.heap∧(a=X.env.locals∨X.env.cells.lookup x=some a))→Q () s')(b2:X.fn x=true∨X.env.scope.names.lookup x=some .local:=by first|exact .inl rfl|exact .inr rfl|assumption):wpAny a9 A (storeName X.env x u) Q E s:=by
 obtain⟨m,P,a5⟩:=id f.loc;have b1:(X.env.scope.kind==.class||(X.env.scope.kind==.module&&X.env.locals != X.env.globals))=false:=by rw[f.ok.kind];rfl
 have a4:i<σ.length:=by rw[f.len];exact(List.getElem?_eq_some_iff.mp F).1
 have L:=f.cne;have a8:∀{a:Addr}{h':Heap},(∃o,s.heap.get? a=some o∧H a=none)→SameBut a s.heap h'→HOk X.prog X.w H h':=λ{a h'} b0 g b b7 e=>by
  obtain⟨_,_,a3⟩:=b0;refine(f.hok b b7 e).stay (λc K j q=>(g.2 c ?_).trans q) (λ_ q=>q) λ_ _ q=>q;rintro rfl;rcases j with rfl|j
  ·rw[a3]at e;cases e
  ·rw[a3]at j;cases j
 rcases l with B | B
 ·refine wpAny_storeName_local B P (λh' b3 g=>?_) b1;obtain⟨b6,_,_,b4,_⟩:=id P;refine Z _ ⟨f.ok,f.os,f.bare,⟨λb o e n C l=>?_,λb o e n C l=>?_,f.base.free,λb o e l=>?_,f.base.tups,f.base.frzs,f.base.tbls⟩,⟨_,b3,λG y Y h t M=>?_⟩,λy c e=>?_,f.free,f.freeC,λp R=>?_,a8 ⟨b6,b4,f.free⟩ g,by simpa using f.len⟩ ⟨_,g,.inl rfl⟩
  ·exact(g.2 b (ne_of_lt (lt_of_lt_of_le (lt_size e) f.ok.above))).trans (f.base.keep b o e n C l)
  ·obtain⟨U,h⟩:=f.base.slot b o e n C l;exact⟨U,(g.2 b (ne_of_lt (lt_of_lt_of_le (lt_size e) f.ok.above))).trans h⟩
  ·obtain⟨o',h⟩:=f.base.there b o e l;exact⟨o',(g.2 b (ne_of_lt (lt_of_lt_of_le (lt_size e) f.ok.above))).trans h⟩
  ·by_cases D:G=i
   ·subst D;rw[F]at h;cases h;rw[getElem?_set_self a4]at t;cases t;exact⟨u,r,.inl ⟨B,by simp⟩⟩
   ·rw[getElem?_set_ne (Ne.symm D)]at t;obtain⟨W,T,q⟩:=a5 G y Y h t M;refine⟨W,T,?_⟩;rcases q with⟨k,e⟩|⟨k,c,e,z⟩
    ·refine .inl ⟨k,?_⟩;have:y≠x:=λe=>D (jy a0 h (e ▸ F));simp[this,e]
    ·exact .inr ⟨k,c,e,z.sameBut g (L y c e)⟩
  ·obtain⟨K,z⟩:=f.cell y c e;exact⟨K,z.sameBut g (L y c e)⟩
  ·obtain⟨e,n,J,S,d⟩:=f.pin p R;exact⟨(g.2 p.1 J).trans e,n,J,S,d⟩
 ·have O:X.fn x=true:=by
   rcases b2 with z|z
   ·exact z
   ·rw[z]at B;cases B
  obtain⟨c,j⟩:=f.ok.has x (.inl B);obtain⟨K,z⟩:=f.cell x c j;refine wpAny_storeName_cell f.ok.kind B j z (λh' a1 g=>?_);obtain⟨a7,a6,b5⟩:=id z;refine Z {s with heap:=h'} ⟨f.ok,f.os,f.bare,⟨λb o e n C l=>?_,λb o e n C l=>?_,f.base.free,λb o e l=>?_,f.base.tups,f.base.frzs,f.base.tbls⟩,⟨m,P.sameBut g (Ne.symm (L x c j)),λG y Y h t M=>?_⟩,λy I e=>?_,f.free,f.freeC,λp R=>?_,a8 ⟨a7,a6,f.freeC x c j⟩ g,by simpa using f.len⟩ ⟨c,g,.inr j⟩
  ·exact(g.2 b (ne_of_lt (lt_of_lt_of_le (lt_size e) (f.ok.cab x c O j)))).trans (f.base.keep b o e n C l)
  ·obtain⟨U,h⟩:=f.base.slot b o e n C l;exact⟨U,(g.2 b (ne_of_lt (lt_of_lt_of_le (lt_size e) (f.ok.cab x c O j)))).trans h⟩
  ·obtain⟨o',h⟩:=f.base.there b o e l;exact⟨o',(g.2 b (ne_of_lt (lt_of_lt_of_le (lt_size e) (f.ok.cab x c O j)))).trans h⟩
  ·by_cases D:G=i
   ·subst D;rw[F]at h;cases h;rw[getElem?_set_self a4]at t;cases t;exact⟨u,r,.inr ⟨.inl B,c,j,a1⟩⟩
   ·rw[getElem?_set_ne (Ne.symm D)]at t;obtain⟨W,T,q⟩:=a5 G y Y h t M;refine⟨W,T,?_⟩;rcases q with q|⟨k,I,e,c0⟩
    ·exact .inl q
    ·refine .inr ⟨k,I,e,c0.sameBut g ?_⟩;rintro rfl;exact D (jy a0 h (f.ok.inj _ _ _ e j ▸ F))
  ·by_cases a2:I=c
   ·subst a2;exact⟨_,a1⟩
   ·obtain⟨b9,c1⟩:=f.cell y I e;exact⟨b9,c1.sameBut g a2⟩
  ·obtain⟨e,n,J,S,d⟩:=f.pin p R;refine⟨(g.2 p.1 ?_).trans e,n,J,S,d⟩;intro q;rw[q,a6]at e;have b8:a7=p.2:=Option.some.inj e;exact d K (by rw[←b8];exact b5)
theorem eY{c:Model}{A:Around}{E:Value→Shared→Prop}{i:Nat}{x:Str}{v:V}{u:Value}{Q:Unit→Shared→Prop}(a:Inv X pins σ H s)(e:X.N.Nodup)(g:X.N[i]?=some x)(h:Loc X.env.scope x)(r:aL v u)(d:∀s',Inv X pins (σ.set i (some v)) H s'→Q () s')(f:X.fn x=true∨X.env.scope.names.lookup x=some .local:=by first|exact .inl rfl|exact .inr rfl|assumption):wpAny c A (storeName X.env x u) Q E s :=
 lw a e g h r (λs' b _=>d s' b) f
theorem Inv.call'{s':Shared}{ch:List Addr}(a:Inv X pins σ H s)(g:s'.os=s.os)(u:Un (frs X.stack) ch H H' s.heap s'.heap)(h:HOk X.prog X.w H' s'.heap)(f:AllBare s'.gens)(d:∀b∈ch,(b∈X.ex∨X.s₀.heap.objs.size≤b)∧b≠X.env.locals∧(∀x c,X.env.cells.lookup x=some c→c≠b)∧∀p∈X.pn++pins,p.1≠b):Inv X pins σ H' s':=by
 obtain⟨h',g',d',t',o'⟩:=s';have e:o'=s.os:=g;subst e;exact a.call (g':=g') (t':=t') (d':=d') u h f d
end
abbrev XK:=Value→Option Addr→Hp→Prop
abbrev St:=List (Option V)
abbrev VK:=V→Hp→Prop
abbrev TE:=St→Hp→VK→Prop
abbrev TT:=St→Hp→(Bool→Hp→Prop)→Prop
abbrev TA:=St→Hp→(List V→Hp→Prop)→Prop
structure Ends where
 nx:St→Hp→Prop
 rt:VK
 bk:St→Hp→Prop:=λ_ _=>False
 ct:St→Hp→Prop:=λ_ _=>False
abbrev TS:=Ends→St→Hp→Prop
def EP(X:Cx)(a:List (Addr×Obj))(b:St)(Q:VK)(u:Value)(s':Shared):Prop:=∃v H',Inv X a b H' s'∧aL v u∧Q v H'
def TP(X:Cx)(a:List (Addr×Obj))(c:St)(Q:Bool→Hp→Prop)(b:Bool)(s':Shared):Prop:=∃H',Inv X a c H' s'∧Q b H'
def AP(X:Cx)(a:List (Addr×Obj))(b:St)(Q:List V→Hp→Prop)(us:List Value)(s':Shared):Prop:=∃vs H',Inv X a b H' s'∧aF vs us∧Q vs H'
def SP(X:Cx)(c:List (Addr×Obj))(b:Ends)(f:Flow)(s':Shared):Prop :=
 match f with
 |.next=>∃a H',Inv X c a H' s'∧b.nx a H'
 |.brk=>∃a H',Inv X c a H' s'∧b.bk a H'
 |.cont=>∃a H',Inv X c a H' s'∧b.ct a H'
 |.ret u=>∃v a H',Inv X c a H' s'∧aL v u∧b.rt v H'
def PE(X:Cx)(e:Expr)(t:TE):Prop :=
 ∀(pins:List (Addr×Obj))(s:Shared)(σ:St)(H:Hp)(Q:VK),Inv X pins σ H s→t σ H Q→wpAny (model X.prog X.w) X.A (eval e X.env) (EP X pins σ Q) X.xe s
def PT(X:Cx)(e:Expr)(t:TT):Prop :=
 ∀(pins:List (Addr×Obj))(s:Shared)(σ:St)(H:Hp)(Q:Bool→Hp→Prop),Inv X pins σ H s→t σ H Q→wpAny (model X.prog X.w) X.A (isTrue e X.env (eval e X.env)) (TP X pins σ Q) X.xe s
def PW(X:Cx)(e:Expr)(t:TT):Prop :=
 ∀(a:Sem Value)(pins:List (Addr×Obj))(s:Shared)(σ:St)(H:Hp)(Q:Bool→Hp→Prop),Inv X pins σ H s→t σ H Q→wpAny (model X.prog X.w) X.A (isTrue e X.env a) (TP X pins σ Q) X.xe s
theorem PW.pt{X:Cx}{e:Expr}{t:TT}(h:PW X e t):PT X e t:=h _
def PA(X:Cx)(a:List Expr)(t:TA):Prop :=
 ∀(pos:Pos)(pins:List (Addr×Obj))(s:Shared)(σ:St)(H:Hp)(Q:List V→Hp→Prop),Inv X pins σ H s→t σ H Q→wpAny (model X.prog X.w) X.A (spliced (backTo pos (starEach a X.env))) (AP X pins σ Q) X.xe s
def PS(X:Cx)(st:Stmt)(t:TS):Prop :=
 ∀(pins:List (Addr×Obj))(s:Shared)(σ:St)(H:Hp)(D:Ends),Inv X pins σ H s→t D σ H→wpAny (model X.prog X.w) X.A (exec st X.env) (SP X pins D) X.xe s
def PSs(X:Cx)(st:List Stmt)(t:TS):Prop :=
 ∀(pins:List (Addr×Obj))(s:Shared)(σ:St)(H:Hp)(D:Ends),Inv X pins σ H s→t D σ H→wpAny (model X.prog X.w) X.A (execs st X.env) (SP X pins D) X.xe s
theorem thn{d:Type}{t:Sem d}{Q c:d→Shared→Prop}{b:Model}{A:Around}{E:Value→Shared→Prop}{s:Shared}(e:wpAny b A t Q E s)(f:∀a s,Q a s→c a s):wpAny b A t c E s:=wpAny_mono e f λ_ _ x=>x
section
variable{X:Cx}
def dP(i:Nat):TE:=λσ H Q=>∃v,σ[i]?=some (some v)∧Q v H
def tC(v:V):TE:=λ_ H Q=>Q v H
theorem yJ{i:Nat}{x:Str}{pos:Pos}(g:X.N[i]?=some x)(p:Vis X.env.scope x)(hd:(x==("__debug__":Str))=false:=by decide)(j:(x==("__classdict__":Str))=false:=by decide):PE X (.Name x pos) (dP i):=by
 intro pins s σ H Q I h;obtain⟨v,e,h⟩:=h;obtain⟨m,o,k⟩:=I.loc;obtain⟨u,r,l⟩:=k i x v g e p;have b:EP X pins σ Q u s:=⟨v,H,I,r,h⟩;rcases l with⟨a,n⟩|⟨a,c,d,f⟩
 ·exact wpAny_Name (wpAny_loadName_local I.ok.kind a o n b) hd
 ·rcases a with a|a
  ·exact wpAny_Name (wpAny_loadName_cell I.ok.kind a d f b) hd
  ·exact wpAny_Name (wpAny_loadName_free I.ok.kind a d f b j) hd
theorem ah{i j pos}:PE X (.Constant (.int i) j pos) (tC (.int i)):=λ_ _ _ H _ I h=>wpAny_Constant_int ⟨.int i,H,I.tok _,⟨_,rfl⟩,h⟩
theorem eA{b j pos}:PE X (.Constant (.bool b) j pos) (tC (.bl b)):=λ_ _ _ H _ I h=>Constant_bool ⟨.bl b,H,I,rfl,h⟩
theorem cn{j pos}:PE X (.Constant .none j pos) (tC .non):=λ_ _ _ H _ I h=>Constant_none ⟨.non,H,I,rfl,h⟩
theorem aG{x j pos}:PE X (.Constant (.str x) j pos) (tC (.str x)):=λ_ _ _ H _ I h=>Constant_str ⟨.str x,H,I.tok _,⟨_,rfl⟩,h⟩
def Gl(X:Cx)(x:Str):Prop:=X.env.kindOf x=some .globalImplicit
theorem jg{E:Value→Shared→Prop}{f:List (Addr×Obj)}{s:Shared}{g:St}{b:Hp}{x:Str}{u:Value}{pos:Pos}{Q:Value→Shared→Prop}(a:Inv X f g b s)(d:Gl X x)(e:X.mg x=some u)(c:Q u s)(hd:(x==("__debug__":Str))=false:=by decide):wpAny (model X.prog X.w) X.A (eval (.Name x pos) X.env) Q E s :=
 Calls.Name_function_global a.ok.kind d (Calls.loadGlobal_global (by rw[a.ok.glob];exact a.mod.glob.keeps a.bk) e c) hd
theorem jz{E:Value→Shared→Prop}{h:List (Addr×Obj)}{s:Shared}{i:St}{b:Hp}{x:Str}{u:Value}{pos:Pos}{Q:Value→Shared→Prop}(a:Inv X h i b s)(d:Gl X x)(e:X.mg x=none)(g:bootBuiltins x=some u)(c:Q u s)(f:x≠"__name__":=by decide)(hd:(x==("__debug__":Str))=false:=by decide):wpAny (model X.prog X.w) X.A (eval (.Name x pos) X.env) Q E s:=by
 obtain⟨j,h1,h2⟩:=a.mod.blt;exact Calls.Name_function_global a.ok.kind d (Calls.loadGlobal_builtin (by rw[a.ok.glob];exact a.mod.glob.keeps a.bk) e (by rw[a.ok.blt];exact h1.keeps a.bk) ((h2 x f).trans g) c) hd
theorem cg{x:Str}{v:V}{u:Value}{pos:Pos}(a:Gl X x)(b:X.mg x=some u)(r:aL v u)(hd:(x==("__debug__":Str))=false:=by decide):PE X (.Name x pos) (tC v) :=
 λ_ _ _ H _ I h=>jg I a b ⟨v,H,I,r,h⟩ hd
theorem eL{x:Str}{v:V}{u:Value}{pos:Pos}(a:Gl X x)(b:X.mg x=none)(d:bootBuiltins x=some u)(r:aL v u)(c:x≠"__name__":=by decide)(hd:(x==("__debug__":Str))=false:=by decide):PE X (.Name x pos) (tC v) :=
 λ_ _ _ H _ I h=>jz I a b d ⟨v,H,I,r,h⟩ c hd
variable{a b:Expr}{ta tb:TE}{pos:Pos}
def PC(X:Cx)(c:CmpOp)(a b:Expr)(t:TE):Prop :=
 ∀(pins:List (Addr×Obj))(s:Shared)(σ:St)(H:Hp)(Q:VK),Inv X pins σ H s→t σ H Q →
  wpAny (model X.prog X.w) X.A (eval a X.env) (λv d=>wpAny (model X.prog X.w) X.A (eval b X.env) (λu e=>wpAny (model X.prog X.w) X.A (compareOp c v u) (EP X pins σ Q) X.xe e) X.xe d) X.xe s
def tB(t:TE):TT:=λσ H Q=>t σ H λx H1=>∃c,x=.bl c∧Q c H1
theorem eZ{f:CmpOp}{t:TE}(h:PC X f a b t)(e:behindInMarks f b=false:=by first|exact nobehind _ (by decide) (by decide)|rfl):PT X (.Compare a [f] [b] pos) (tB t):=by
 intro pins s σ H Q I i;refine wpAny_isTrue_Compare1 (thn (h pins s σ H _ I i) λv l e=>thn e λu m h2=>thn h2 λc n ⟨x,H1,g,k,j⟩=>?_) e;obtain⟨d,rfl,q⟩:=j;cases k;exact wpAny_truthy_bool ⟨H1,g,q⟩
theorem cZ{e:Expr}{t:TE}(c:PE X e t)(f:∀a,isTrue e X.env a=(do let v ← a;standAt e.pos;holding [v] (truthy v)):=by intro _;rfl):PT X e (tB t):=by
 intro pins s σ H Q I g;refine isTrue_plain (thn (c pins s σ H _ I g) λv j ⟨x,H1,b,i,h⟩=>?_) (f _);obtain⟨d,rfl,q⟩:=h;cases i;exact wpAny_truthy_bool ⟨H1,b,q⟩
variable{tA tB':TT}{rest:List Expr}
def Bs(t u:TT):TT:=λσ H Q=>t σ H λc H1=>if c=true then u σ H1 Q else Q false H1
def tOr(t u:TT):TT:=λσ H Q=>t σ H λc H1=>if c=true then Q true H1 else u σ H1 Q
def Ax(t:TT):TT:=λσ H Q=>t σ H λc H1=>Q (!c) H1
theorem pw_and1(b:PT X a tA):PW X (.BoolOp .And [a] pos) tA:=by
 intro f pins s σ H Q I h;refine isTrue_and (thn (b pins s σ H Q I h) λc d e=>?_);cases c with
 |true=>exact isTrue_and_nil e
 |false=>exact e
theorem pw_or1(b:PT X a tA):PW X (.BoolOp .Or [a] pos) tA:=by
 intro f pins s σ H Q I h;refine isTrue_or (thn (b pins s σ H Q I h) λc d e=>?_);cases c with
 |false=>exact isTrue_or_nil e
 |true=>exact e
theorem pw_and(f:PT X a tA)(g:PW X (.BoolOp .And (b::rest) pos) tB'):PW X (.BoolOp .And (a::b::rest) pos) (Bs tA tB'):=by
 intro k pins s σ H Q I h;refine isTrue_and (thn (f pins s σ H _ I h) λc j i=>?_);obtain⟨H1,d,e⟩:=i;cases c with
 |true=>exact g k pins j σ H1 Q d e
 |false=>exact⟨H1,d,e⟩
theorem pw_or(f:PT X a tA)(g:PW X (.BoolOp .Or (b::rest) pos) tB'):PW X (.BoolOp .Or (a::b::rest) pos) (tOr tA tB'):=by
 intro k pins s σ H Q I h;refine isTrue_or (thn (f pins s σ H _ I h) λc j i=>?_);obtain⟨H1,d,e⟩:=i;cases c with
 |true=>exact⟨H1,d,e⟩
 |false=>exact g k pins j σ H1 Q d e
theorem cN(b:PT X a tA):PT X (.UnaryOp .Not a pos) (Ax tA):=by
 intro pins s σ H Q I h;exact isTrue_not (b pins s σ H (λc H1=>Q (!c) H1) I h)
def Ay(a b:TE):TE:=λσ H Q=>a σ H λx H1=>∃c,x=.bl c∧if c=true then b σ H1 Q else Q (.bl false) H1
def Bt(a b:TE):TE:=λσ H Q=>a σ H λx H1=>∃c,x=.bl c∧if c=true then Q (.bl true) H1 else b σ H1 Q
def Az(a:TE):TE:=λσ H Q=>a σ H λx H1=>∃c,x=.bl c∧Q (.bl (!c)) H1
theorem lY{op}{t:TE}(b:PE X a t):PE X (.BoolOp op [a] pos) t:=λpins s σ H Q I c=>BoolOp_one (b pins s σ H Q I c)
theorem lZ(f:PE X a ta)(g:PE X (.BoolOp .And (b::rest) pos) tb):PE X (.BoolOp .And (a::b::rest) pos) (Ay ta tb):=by
 intro pins s σ H Q I h;refine BoolOp_and (thn (f pins s σ H _ I h) λv k i=>?_);obtain⟨x,H1,e,j,d⟩:=i;obtain⟨c,rfl,d⟩:=d;cases j;refine wpAny_truthy_bool ?_;cases c with
 |true=>exact g pins k σ H1 Q e d
 |false=>exact⟨.bl false,H1,e,rfl,d⟩
theorem AA(f:PE X a ta)(g:PE X (.BoolOp .Or (b::rest) pos) tb):PE X (.BoolOp .Or (a::b::rest) pos) (Bt ta tb):=by
 intro pins s σ H Q I h;refine BoolOp_or (thn (f pins s σ H _ I h) λv k i=>?_);obtain⟨x,H1,e,j,d⟩:=i;obtain⟨c,rfl,d⟩:=d;cases j;refine wpAny_truthy_bool ?_;cases c with
 |false=>exact g pins k σ H1 Q e d
 |true=>exact⟨.bl true,H1,e,rfl,d⟩
theorem yK(e:PE X a ta):PE X (.UnaryOp .Not a pos) (Az ta):=by
 intro pins s σ H Q I h;refine UnaryOp_ (thn (e pins s σ H _ I h) λv i f=>?_);obtain⟨x,H1,d,g,b⟩:=f;obtain⟨c,rfl,b⟩:=b;cases g;exact not_of (wpAny_truthy_bool ⟨.bl (!c),H1,d,rfl,b⟩)
def tIf(t:TT)(a b:TE):TE:=λσ H Q=>t σ H λc H1=>if c=true then a σ H1 Q else b σ H1 Q
theorem jA{c:Expr}(k:PT X c tA)(i:PE X a ta)(j:PE X b tb):PE X (.IfExp c a b pos) (tIf tA ta tb):=by
 intro pins s σ H Q I h;refine wpAny_IfExp (thn (k pins s σ H _ I h) λd g l=>?_);obtain⟨H1,e,f⟩:=l;cases d with
 |true=>exact i pins g σ H1 Q e f
 |false=>exact j pins g σ H1 Q e f
end
def SqL(K:PySem.W.Frag)(c:Hp)(a:Addr)(xs:List V):Prop :=
 Rd c a (.lst xs) ∨
  ∃(o:Obj) (b:Array Value) (n:Nat),K.lookup a=some o∧o.cls=.type "list"∧o.dict=none∧o.data=.seq b n∧b.size≤sizeLine∧aF xs b.toList
def SqT(K:PySem.W.Frag)(c:Hp)(a:Addr)(xs:List V):Prop :=
 Rd c a (.tup xs) ∨
  ∃(o:Obj) (b:Array Value) (n:Nat),K.lookup a=some o∧o.cls=.type "tuple"∧o.data=.seq b n∧b.size≤sizeLine∧aF xs b.toList
def Bu:Value→Option V
 |.none=>some .non
 |.bool b=>some (.bl b)
 |.int i _=>some (.int i)
 |.str x _=>some (.str x)
 |.bytes b _=>some (.byt b)
 |.float b _=>some (.flt b)
 |.ref a=>some (.ref a)
 |.type n=>some (.ty n)
 |_=>none
theorem aL.abs{x:V}{u:Value}(r:aL x u):Bu u=some x:=by
 cases x with
 |non=>cases r;rfl
 |bl _=>cases r;rfl
 |int _=>obtain⟨t,rfl⟩:=r;rfl
 |str _=>obtain⟨t,rfl⟩:=r;rfl
 |byt _=>obtain⟨t,rfl⟩:=r;rfl
 |flt _=>obtain⟨t,rfl⟩:=r;rfl
 |ref _=>cases r;rfl
 |ty _=>cases r;rfl
theorem aL.inj{x y:V}{u:Value}(r:aL x u)(q:aL y u):x=y:=Option.some.inj (r.abs.symm.trans q.abs)
theorem aF.inj:∀{xs ys:List V}{us:List Value},aF xs us→aF ys us→xs=ys
 |_,_,_,.nil,.nil=>rfl
 |_,_,_,.cons r t,.cons r' t'=>by rw[r.inj r',aF.inj t t']
section
variable{X:Cx}{pins:List (Addr×Obj)}{σ:St}{H:Hp}{s:Shared}{a:Addr}{xs ys:List V}
theorem SqL.of{K:PySem.W.Frag}(h:H a=some (.lst xs)):SqL K H a xs:=.inl (.inl h)
theorem SqT.of{K:PySem.W.Frag}(h:H a=some (.tup xs)):SqT K H a xs:=.inl (.inl h)
theorem Inv.list(d:Inv X pins σ H s)(c:SqL X.K H a xs):∃b:List Value,aF xs b∧PlainL s.heap a b.toArray∧xs.length≤sizeLine:=by
 rcases c with c|⟨o,b,n,h,f,g,i,j,r⟩
 ·obtain⟨z,b,n,r,e⟩:=c.ok d.hok;exact⟨b,r,⟨_,n,e,rfl,rfl,rfl⟩,z⟩
 ·refine⟨b.toList,r,⟨o,n,d.kIn a o h,f,g,by simpa using i⟩,?_⟩
  have e:=r.length;simp only[length_toList]at e;omega
theorem Inv.tuple(d:Inv X pins σ H s)(c:SqT X.K H a xs):∃b:List Value,aF xs b∧IsTup s.heap a b.toArray∧xs.length≤sizeLine:=by
 rcases c with c|⟨o,b,n,g,f,h,i,r⟩
 ·obtain⟨z,b,r,p⟩:=c.ok d.hok;exact⟨b,r,p,z⟩
 ·refine⟨b.toList,r,⟨o,d.kIn a o g,f,n,by simpa using h⟩,?_⟩
  have e:=r.length;simp only[length_toList]at e;omega
theorem Inv.list_inj(b:Inv X pins σ H s)(h:SqL X.K H a xs)(h':SqL X.K H a ys):xs=ys:=by
 obtain⟨i,r,⟨o,n,e,_,_,d⟩,_⟩:=b.list h;obtain⟨its',j,⟨o',k,f,_,_,c⟩,_⟩:=b.list h';rw[e]at f;cases f;rw[d]at c;injection c with g _
 have:i=its':=by simpa using congrArg toList g
 subst this;exact r.inj j
theorem Inv.tuple_inj(b:Inv X pins σ H s)(h:SqT X.K H a xs)(h':SqT X.K H a ys):xs=ys:=by
 obtain⟨i,r,⟨o,e,_,n,d⟩,_⟩:=b.tuple h;obtain⟨its',j,⟨o',f,_,k,c⟩,_⟩:=b.tuple h';rw[e]at f;cases f;rw[d]at c;injection c with g _
 have:i=its':=by simpa using congrArg toList g
 subst this;exact r.inj j
end
abbrev Cx.wish(X:Cx)(E:Value→Shared→Prop):Cx:={X with xe:=E}
abbrev Cx.nox(X:Cx):Cx:=X.wish λ_ _=>False
theorem Cx.Ok.wish{X:Cx}(a:X.Ok)(E:Value→Shared→Prop):(X.wish E).Ok :=
 ⟨a.mod,a.kind,a.glob,a.blt,a.above,a.inj,a.has,a.cab,a.hd,a.frames,a.stk,a.exf,a.bs,a.bsz,a.noex,a.exfs,a.funs,a.frf⟩
theorem Cx.Ok.unwish{X:Cx}{E:Value→Shared→Prop}(a:(X.wish E).Ok):X.Ok :=
 ⟨a.mod,a.kind,a.glob,a.blt,a.above,a.inj,a.has,a.cab,a.hd,a.frames,a.stk,a.exf,a.bs,a.bsz,a.noex,a.exfs,a.funs,a.frf⟩
section
variable{X:Cx}{pins:List (Addr×Obj)}{σ:St}{H:Hp}{s:Shared}{E:Value→Shared→Prop}
theorem Inv.wish(I:Inv X pins σ H s)(E:Value→Shared→Prop):Inv (X.wish E) pins σ H s:=⟨I.ok.wish E,I.os,I.bare,I.base,I.loc,I.cell,I.free,I.freeC,I.pin,I.hok,I.len⟩
theorem Inv.unwish(I:Inv (X.wish E) pins σ H s):Inv X pins σ H s:=⟨I.ok.unwish,I.os,I.bare,I.base,I.loc,I.cell,I.free,I.freeC,I.pin,I.hok,I.len⟩
theorem SP.unwish{c:Ends}{f:Flow}{s':Shared}(b:SP (X.wish E) pins c f s'):SP X pins c f s':=by
 cases f with
 |next=>obtain⟨a,H',I,q⟩:=b;exact⟨a,H',I.unwish,q⟩
 |brk=>obtain⟨a,H',I,q⟩:=b;exact⟨a,H',I.unwish,q⟩
 |cont=>obtain⟨a,H',I,q⟩:=b;exact⟨a,H',I.unwish,q⟩
 |ret u=>obtain⟨v,a,H',I,r,q⟩:=b;exact⟨v,a,H',I.unwish,r,q⟩
theorem PSs.nox{st:List Stmt}{t:TS}(b:PSs X.nox st t):PSs X st t:=λpins s σ H a I c =>
 wpAny_mono (b pins s σ H a (I.wish _) c) (λ_ _ q=>q.unwish) λ_ _ z=>False.elim z
end
section
variable{X:Cx}{st:Stmt}{rest:List Stmt}{t u:TS}{e:Expr}{te:TE}{pos:Pos}
def yr:TS:=λD σ H=>D.nx σ H
def gm(t u:TS):TS:=λD σ H=>t {D with nx:=u D} σ H
theorem aA:PSs X [] yr:=λ_ _ σ H _ I h=>wpAny_execs_nil ⟨σ,H,I,h⟩
theorem af(c:PS X st t)(d:PSs X rest u):PSs X (st::rest) (gm t u):=by
 intro pins s σ H a I h;refine wpAny_execs_cons (thn (c pins s σ H {a with nx:=u a} I h) λf e q=>?_);cases f with
 |next =>
  obtain⟨g,H',b,q⟩:=q;exact d pins e g H' a b q
 |ret v=>exact q
 |brk=>exact q
 |cont=>exact q
theorem ak(b:PS X st t):PSs X [st] t:=by
 intro pins s σ H a I h;refine wpAny_execs_cons (thn (b pins s σ H a I h) λf c q=>?_);cases f with
 |next=>exact wpAny_execs_nil q
 |ret v=>exact q
 |brk=>exact q
 |cont=>exact q
theorem Inv.quiet{c:List (Addr×Obj)}{d:St}{a:Hp}{s:Shared}(b:Inv X c d a s):interactive X.env=false:=by simp[interactive,b.ok.kind]
def yt(b:TE):TS:=λa σ H=>b σ H λ_ H1=>a.nx σ H1
theorem bg(b:PE X e te)(c:swapsWith e none pos.line X.env=pure false:=by rfl):PS X (.Expr e pos) (yt te):=by
 intro pins s σ H f I h;exact wpAny_Expr_any (thn (b pins s σ H _ I h) λv i ⟨x,H1,a,g,d⟩=>⟨σ,H1,a,d⟩) I.quiet c
def wK(b:TE):TS:=λa σ H=>b σ H a.rt
theorem aw(b:PE X e te):PS X (.Return (some e) pos) (wK te):=by
 intro pins s σ H f I h;exact wpAny_Return_some (thn (b pins s σ H _ I h) λv g ⟨x,H1,a,d,c⟩=>⟨x,σ,H1,a,d,c⟩)
def yL(c:TT)(t u:TS):TS:=λD σ H=>c σ H λb H1=>if b=true then t D σ H1 else u D σ H1
theorem aP{c:Expr}{a b:List Stmt}{j:TT}(m:PT X c j)(k:PSs X a t)(l:PSs X b u):PS X (.If c a b pos) (yL j t u):=by
 intro pins s σ H e I h;refine wpAny_If (thn (m pins s σ H _ I h) λd i n=>?_);obtain⟨H1,f,g⟩:=n;cases d with
 |true=>exact k pins i σ H1 e f g
 |false=>exact l pins i σ H1 e f g
def yM:TS:=λ_ _ _=>False
theorem nX:PS X st yM:=λ_ _ _ _ _ _ h=>h.elim
end
abbrev TG:=V→St→Hp→(St→Hp→Prop)→Prop
abbrev TGs:=List V→St→Hp→(St→Hp→Prop)→Prop
def PG(X:Cx)(b:Expr)(t:TG):Prop :=
 ∀(pins:List (Addr×Obj))(s:Shared)(σ:St)(H:Hp)(v:V)(u:Value)(Q:St→Hp→Prop),Inv X pins σ H s→aL v u→t v σ H Q →
  wpAny (model X.prog X.w) X.A (assign b X.env u) (λ_ s'=>∃a H',Inv X pins a H' s'∧Q a H') X.xe s
def PGs(X:Cx)(c:List Expr)(t:TGs):Prop :=
 ∀(pins:List (Addr×Obj))(s:Shared)(σ:St)(H:Hp)(vs:List V)(a:List Value)(Q:St→Hp→Prop),Inv X pins σ H s→aF vs a→t vs σ H Q →
  wpAny (model X.prog X.w) X.A (assignInOrder ((assignEach c X.env).map (·.2)) a) (λ_ s'=>∃b H',Inv X pins b H' s'∧Q b H') X.xe s
abbrev yN:=V→V→V→Hp→(Hp→Prop)→Prop
def AB(X:Cx)(t:yN):Prop :=
 ∀(pins:List (Addr×Obj))(s:Shared)(σ:St)(H:Hp)(o i v:V)(b a u:Value)(Q:Hp→Prop),Inv X pins σ H s→aL o b→aL i a→aL v u→t o i v H Q →
  wpAny (model X.prog X.w) X.A (setItem b a u) (λ_ s'=>∃H',Inv X pins σ H' s'∧Q H') X.xe s
section
variable{X:Cx}{pos:Pos}
def bu(i:Nat):TG:=λv σ H Q=>Q (σ.set i (some v)) H
theorem aN{i:Nat}{x:Str}(b:X.N.Nodup)(d:X.N[i]?=some x)(e:Loc X.env.scope x)(c:X.fn x=true∨X.env.scope.names.lookup x=some .local:=by first|exact .inl rfl|exact .inr rfl|assumption):PG X (.Name x pos) (bu i):=by
 intro pins s σ H v u Q I r h;exact wpAny_assign_Name (eY I b d e r (λs' a=>⟨_,H,a,h⟩) c)
def yO:TGs:=λvs σ H Q=>vs=[]∧Q σ H
def nY(t:TG)(u:TGs):TGs:=λvs σ H Q=>∃v r,vs=v::r∧t v σ H λa H'=>u r a H' Q
theorem rk:PGs X [] yO:=by
 intro pins s σ H vs a Q I r h;obtain⟨e,h⟩:=h;subst e;cases r;exact assignInOrder_nil ⟨σ,H,I,h⟩
theorem fb{e:Expr}{a:List Expr}{t:TG}{u:TGs}(d:PG X e t)(f:PGs X a u)(i:(assignEach (e::a) X.env).map (·.2)=assign e X.env::(assignEach a X.env).map (·.2):=by rfl):PGs X (e::a) (nY t u):=by
 intro pins s σ H vs n Q I r h;obtain⟨v,o,c,h⟩:=h;subst c;cases r with
 |cons r k =>
  rw[i];refine assignInOrder_cons (thn (d pins s σ H _ _ _ I r h) λ_ l g=>?_);obtain⟨m,H1,b,j⟩:=g;exact f pins l m H1 _ _ Q b k j
def yP(K:PySem.W.Frag)(n:Nat)(t:TGs):TG:=λv σ H Q=>∃a xs,v=.ref a∧SqT K H a xs∧xs.length=n∧t xs σ H Q
theorem uf{c:List Expr}{k:Nat}{t:TGs}{n:Nat}(j:X.calm=true)(i:PGs X c t)(m:(assignEach c X.env).length=n:=by rfl)(q:(assignEach c X.env).findIdx? (·.1)=none:=by rfl):PG X (.Tuple c k pos) (yP X.K n t):=by
 intro pins s σ H v u Q I r d;obtain⟨a,xs,h,p,l,d⟩:=d;subst h;cases r;obtain⟨z,f,w,y⟩:=I.tuple p;refine assign_Tuple_tuple (I.ok.hd j) w (by simp[m,←l,f.length]) q λh' x=>?_;have g:Inv X pins σ H {s with heap:=h'}:=I.kept (t':=s.toks) λb o e=>x b o (ne_of_lt (lt_size e)) e
 exact i pins _ σ H xs _ Q g (by simpa using f) d
def Bv(c b:TE)(t:yN):TG:=λv σ H Q=>c σ H λo H1=>b σ H1 λi H2=>t o i v H2 λa=>Q σ a
theorem ma{o i:Expr}{e d:TE}{t:yN}(n:PE X o e)(m:PE X i d)(p:AB X t)(l:∀v,assign (.Subscript o i pos) X.env v=(do
   let a ← holding [v] (eval o X.env)
   let c ← holding [v,a] (eval i X.env)
   standAt pos
   holding [v,a,c] (setItem a c v)
   release [v,a,c] []):=by intro _;rfl):PG X (.Subscript o i pos) (Bv e d t):=by
 intro pins s σ H v u Q I r h;rw[l];refine wpAny_bind (wpAny_holding (thn (n pins s σ H _ I h) λa C b=>?_));obtain⟨x,H1,g,A,q⟩:=b;refine wpAny_bind (wpAny_holding (thn (m pins C σ H1 _ g q) λc D b=>?_));obtain⟨y,H2,j,B,w⟩:=b;refine wpAny_bind (wpAny_standAt (wpAny_bind (wpAny_holding (thn (p pins D σ H2 x y v a c u _ j A B r w) λ_ E b=>?_))));obtain⟨f,k,z⟩:=b;exact wpAny_release ⟨σ,f,k,z⟩
def yQ(b:TE)(g:TG):TS:=λa σ H=>b σ H λx H1=>g x σ H1 a.nx
theorem md{a e:Expr}{b:TE}{g:TG}(f:PE X e b)(i:PG X a g)(j:swapsWithSole [a] e pos.line X.env=pure false:=by rfl)(k:swappedStores [a] e X.env=pure none:=by rfl)(d:(assignEach [a] X.env).map (·.2)=[assign a X.env]:=by rfl):PS X (.Assign [a] e pos) (yQ b g):=by
 intro pins s σ H o I h;refine wpAny_Assign_stores (thn (f pins s σ H _ I h) λv n ⟨x,H1,c,m,l⟩=>?_) j k;rw[d];exact thn (i pins n σ H1 x v _ c m l) λ_ p q=>q
theorem ay{i:Nat}{x:Str}{e:Expr}{b:TE}{a:Pos}(f:X.N.Nodup)(k:X.N[i]?=some x)(m:Loc X.env.scope x)(g:PE X e b)(l:swapsWith e (some (.Name x a)) pos.line X.env=pure false:=by rfl)(j:X.fn x=true∨X.env.scope.names.lookup x=some .local:=by first|exact .inl rfl|exact .inr rfl|assumption):
  PS X (.Assign [.Name x a] e pos) (yQ b (bu i)):=by
 intro pins s σ H p I h;refine wpAny_Assign_Name (thn (g pins s σ H _ I h) λv q ⟨y,H1,c,o,n⟩=>?_) l;exact eY c f k m o (λr d=>⟨_,H1,d,n⟩) j
def ug(c:TT)(f:TS):TS:=λa σ H=>∃W:Nat→St→Hp→Prop,(∃m,W m σ H)∧∀m σ H,W m σ H →
 c σ H λb H1=>if b=true then ∃N:St→Hp→Prop,(∀e H',N e H'→∃d,d<m∧W d e H')∧f {a with nx:=N,ct:=N,bk:=a.nx} σ H1 else a.nx σ H1
theorem nZ{c:Expr}{q:List Stmt}{x:TT}{u:TS}(t:PassesOwn (model X.prog X.w) X.A X.env X.xe)(C:PT X c x)(B:PSs X q u):PS X (.While c q [] pos) (ug x u):=by
 intro pins s σ H M I h;obtain⟨W,⟨E,K⟩,J⟩:=h;refine wpAny_While (codeAny_whileLoop (λn s'=>∃y H',Inv X pins y H' s'∧W n y H') ?_ E ⟨σ,H,I,K⟩);rintro n F ⟨i,H1,z,L⟩;refine wpAny_passesOwn t (thn (C pins F i H1 _ z (J n i H1 L)) λb G D=>?_);obtain⟨H2,p,e⟩:=D;cases b with
 |true =>
  obtain⟨N,r,e⟩:=e;rw[if_pos rfl];refine wpAny_passesOwn t (thn (B pins G i H2 _ p e) λf O g=>?_);cases f with
  |next =>
   obtain⟨d,a,j,m⟩:=g;obtain⟨l,k,o⟩:=r d a m;exact⟨l,k,d,a,j,o⟩
  |cont =>
   obtain⟨d,a,j,m⟩:=g;obtain⟨l,k,o⟩:=r d a m;exact⟨l,k,d,a,j,o⟩
  |brk=>exact g
  |ret v=>exact g
 |false =>
  rw[if_neg Bool.false_ne_true];exact wpAny_execs_nil ⟨i,H2,p,e⟩
end
structure It where
 go:Nat→Hp→Prop
 yld:Nat→Hp→V→Hp→Prop
 stop:Nat→Hp→Prop
def gC(X:Cx)(d:List (Addr×Obj))(a:Hp)(b:Addr):Prop :=
 a b=none∧b≠X.env.locals∧b∉X.fs∧(b∈X.ex∨X.s₀.heap.objs.size≤b)∧(∀x c,X.env.cells.lookup x=some c→c≠b)∧∀p∈X.pn++d,p.1≠b
theorem Inv.fpOk{X:Cx}{f:List (Addr×Obj)}{j:St}{g H':Hp}{s:Shared}{b:Addr}(a:Inv X f j g s)(d:s.heap.objs.size≤b)(h:H' b=none):gC X f H' b:=by
 refine⟨h,ne_of_gt (lt_of_lt_of_le a.lt d),a.nofs d,.inr (le_trans a.sz d),λx c e z=>?_,λp i z=>?_⟩
 ·obtain⟨v,q⟩:=a.cell x c e;exact absurd (lt_of_lt_of_le q.lt (by rw[z];exact d)) (lt_irrefl _)
 ·exact absurd (lt_of_lt_of_le (lt_size (a.pin p i).1) (by rw[z];exact d)) (lt_irrefl _)
structure Turn(P:Program)(w:World)(K:PySem.W.Frag)(tg:Expr)(J:It)(fp:List Addr)(it:Addr)(tn:Nat→Heap→Prop):Prop where
 mem:it∈fp
 obj:∀i h,tn i h→∀b∈fp,∃o,h.get? b=some o∧∀v,o.data≠.cell v
 keep:∀i h h',tn i h→(∀b∈fp,∀o,h.get? b=some o→h'.get? b=some o)→tn i h'
 item:∀(X:Cx),X.prog=P→X.w=w→X.K=K→X.calm=true→∀(i:Nat)(pins:List (Addr×Obj))(s:Shared)(σ:St)(H:Hp)(E:Value→Shared→Prop),Inv X pins σ H s→(∀b∈fp,gC X pins H b)→tn i s.heap→J.go i H →
  wpAny (model P w) X.A (pyNext (.ref it)) (λr s1=>∃u,r=some u ∧
   wpAny (model P w) X.A (letOwnedTupleGo tg (.ref it) u) (λ_ s2=>∃x H',Inv X pins σ H' s2∧aL x u∧J.yld i H x H'∧tn (i+1) s2.heap∧∀b∈fp,H' b=none) E s1) E s
 done:∀(X:Cx),X.prog=P→X.w=w→X.K=K→X.calm=true→∀(i:Nat)(pins:List (Addr×Obj))(s:Shared)(σ:St)(H:Hp)(E:Value→Shared→Prop),Inv X pins σ H s→(∀b∈fp,gC X pins H b)→tn i s.heap→J.stop i H →
  wpAny (model P w) X.A (pyNext (.ref it)) (λr s1=>r=none∧Inv X pins σ H s1) E s
 self:∀(A:Around)(i:Nat)(s:Shared)(Q:Value→Shared→Prop)(E:Value→Shared→Prop),tn i s.heap→Q (.ref it) s→wpAny (model P w) A (pyIter (.ref it)) Q E s
abbrev TI:=St→Hp→(It→Hp→Prop)→Prop
def PIE(X:Cx)(d:List (Addr×Obj))(i:St)(h:Expr)(R:It→Hp→Prop)(g:Value)(e:Shared):Prop :=
 ∃(c:Addr) (fp:List Addr) (f:Nat→Heap→Prop) (a:It) (H':Hp),g=.ref c∧Inv X d i H' e∧Turn X.prog X.w X.K h a fp c f∧f 0 e.heap∧(∀b∈fp,gC X d H' b)∧R a H'
def PI(X:Cx)(b iter:Expr)(c:TI):Prop :=
 ∀(pins:List (Addr×Obj))(s:Shared)(σ:St)(H:Hp)(R:It→Hp→Prop),Inv X pins σ H s→c σ H R →
  wpAny (model X.prog X.w) X.A (eval iter X.env) (λv a=>wpAny (model X.prog X.w) X.A (pyIter v) (PIE X pins σ b R) X.xe a) X.xe s
theorem og{b:Model}{A:Around}{E:Value→Shared→Prop}{s:Shared}{d:Expr}{c:Addr}{u:Value}{o:Obj}{n:String}{vs:Array Value}{Q:Unit→Shared→Prop}(g:s.heap.get? c=some o)(e:o.cls=.type n)(hd:o.data=.fields vs)(f:["enumerate","zip","dict_itemiterator","dict_reverseitemiterator","odict_iterator","itertools.zip_longest","itertools.pairwise"].contains n=false)(a:Q () s):wpAny b A (letOwnedTupleGo d (.ref c) u) Q E s:=by
 unfold letOwnedTupleGo;cases d<;>first
  |exact wpAny_pure a
  | (cases u<;>first
    |exact wpAny_pure a
    | (refine wpAny_bind (wpAny_load g ?_)
       rw[e,hd];show wpAny b A (if (["enumerate","zip","dict_itemiterator","dict_reverseitemiterator","odict_iterator","itertools.zip_longest","itertools.pairwise"].contains n&&vs[0]?==some (rawInt _))=true then _ else _) Q E s
       rw[if_neg (by intro h;rw[f,Bool.false_and]at h;cases h)];exact wpAny_pure a))
def Itl(K:PySem.W.Frag)(a:Addr):It :=
 ⟨λi H=>∃xs x,SqL K H a xs∧xs[i]?=some x,λi H x H'=>H'=H∧∀xs,SqL K H a xs→xs[i]?=some x,λi H=>∃xs,SqL K H a xs∧xs.length≤i⟩
def Itt(K:PySem.W.Frag)(a:Addr):It :=
 ⟨λi H=>∃xs x,SqT K H a xs∧xs[i]?=some x,λi H x H'=>H'=H∧∀xs,SqT K H a xs→xs[i]?=some x,λi H=>∃xs,SqT K H a xs∧xs.length≤i⟩
def Itr(lo:Int)(n:Nat):It:=⟨λi _=>i<n,λi H x H'=>H'=H∧x=.int (lo+i),λi _=>n≤i⟩
theorem sJ{P:Program}{w:World}{K:PySem.W.Frag}{U:Expr}(a it:Addr):Turn P w K U (Itl K a) [it] it (λi h=>h.IsListIter it a i) where
 mem:=by simp
 obj:=λi h st b f=>by
  have e:b=it:=by simpa using f
  subst e;obtain⟨o,e,c,d⟩:=st;exact⟨o,e,λv z=>by rw[d]at z;cases z⟩
 keep:=λi h h' st k=>st.at λo e=>k it (by simp) o e
 item:=by
  intro X y B t F i pins s σ H E I g st A;subst y B t;obtain⟨xs,x,j,C⟩:=A;obtain⟨R,D,p,Q⟩:=I.list j;obtain⟨u,N,S⟩:=D.get C;obtain⟨l,m,M,n,q,r⟩:=g it (by simp);refine wpAny_pyNext_list_item st p.isList (x:=u) (by simpa using N) λh' G T=>?_;have J:Inv X pins σ H {s with heap:=h'}:=I.turned (t':=s.toks) (λb o f e=>(T.2 b f).trans e) l m n q r
  obtain⟨o,e,c,d⟩:=id G;exact⟨u,rfl,og (s:={s with heap:=h'}) e c d (by decide) ⟨x,H,J,S,⟨rfl,λys O=>by rw[I.list_inj O j];exact C⟩,G,λb f=>(g b f).1⟩⟩
 done:=by
  intro X y B t F i pins s σ H E I g st A;subst y B t;obtain⟨xs,j,C⟩:=A;obtain⟨R,D,p,Q⟩:=I.list j;obtain⟨l,m,M,n,q,r⟩:=g it (by simp);have V:=D.length;exact wpAny_pyNext_list_end (I.ok.hd F) st p.isList (by simp;omega) λh' L=>⟨rfl,I.turned (t':=s.toks) (λb o f e=>L b o f e) l m n q r⟩
 self:=λ_ _ _ _ _ st h=>wpAny_pyIter_listiter st h
theorem pV{P:Program}{w:World}{K:PySem.W.Frag}{U:Expr}(a it:Addr):Turn P w K U (Itt K a) [it] it (λi h=>h.IsTupleIter it a i) where
 mem:=by simp
 obj:=λi h st b f=>by
  have e:b=it:=by simpa using f
  subst e;obtain⟨o,e,c,d⟩:=st;exact⟨o,e,λv z=>by rw[d]at z;cases z⟩
 keep:=λi h h' st k=>st.at λo e=>k it (by simp) o e
 item:=by
  intro X y B t G i pins s σ H E I g st A;subst y B t;obtain⟨xs,x,j,C⟩:=A;obtain⟨D,F,p,R⟩:=I.tuple j;obtain⟨u,O,S⟩:=F.get C;obtain⟨l,m,N,n,q,r⟩:=g it (by simp);refine wpAny_pyNext_tuple_item st (show s.heap.IsTuple a D.toArray from p) (x:=u) (by simpa using O) λh' J T=>?_;have L:Inv X pins σ H {s with heap:=h'}:=I.turned (t':=s.toks) (λb o f e=>(T.2 b f).trans e) l m n q r
  obtain⟨o,e,c,d⟩:=id J;exact⟨u,rfl,og (s:={s with heap:=h'}) e c d (by decide) ⟨x,H,L,S,⟨rfl,λys Q=>by rw[I.tuple_inj Q j];exact C⟩,J,λb f=>(g b f).1⟩⟩
 done:=by
  intro X y B t G i pins s σ H E I g st A;subst y B t;obtain⟨xs,j,C⟩:=A;obtain⟨D,F,p,R⟩:=I.tuple j;obtain⟨l,m,N,n,q,r⟩:=g it (by simp);have V:=F.length;exact wpAny_pyNext_tuple_end (I.ok.hd G) st (show s.heap.IsTuple a D.toArray from p) (by simp;omega) λh' M=>⟨rfl,I.turned (t':=s.toks) (λb o f e=>M b o f e) l m n q r⟩
 self:=λ_ _ _ _ _ st h=>wpAny_pyIter_tupleiter st h
theorem pW{P:Program}{w:World}{K:PySem.W.Frag}{F:Expr}(it:Addr)(lo:Int)(n:Nat):Turn P w K F (Itr lo n) [it] it (λi h=>IsRangeIter h it (lo+(i:Nat)*1) ((n:Int)-(i:Nat)) 1) where
 mem:=by simp
 obj:=λi h st b a=>by
  have e:b=it:=by simpa using a
  subst e;exact⟨_,st,λv z=>by
   have G:Data.fields _=Data.cell v:=z;cases G⟩
 keep:=λi h h' st k=>k it (by simp) _ st
 item:=by
  intro X p u m q i pins s σ H E I c st r;subst p u m;obtain⟨d,f,B,g,j,l⟩:=c it (by simp);have W:=Walks.range (prog:=X.prog) (w:=X.w) (I.ok.hd q) it lo 1 n;refine W.item i s _ _ r st λv h' tk C x D=>?_;obtain⟨t,rfl⟩:=C;have y:Inv X pins σ H {s with heap:=h',toks:=tk}:=I.turned (λb o a e=>D b o (by simpa using a) e) d f g j l
  refine⟨_,rfl,og (s:={s with heap:=h',toks:=tk}) (n:="range_iterator") x rfl rfl (by decide) ⟨.int (lo+i),H,y,⟨t,?_⟩,⟨rfl,rfl⟩,x,λb a=>(c b a).1⟩⟩;rw[Int.mul_one]
 done:=by
  intro X p u m q i pins s σ H E I c st r;subst p u m;obtain⟨d,f,B,g,j,l⟩:=c it (by simp);exact wpAny_pyNext_range_end (I.ok.hd q) st (by have:n≤i:=r;omega) λh' A=>⟨rfl,I.turned (t':=s.toks) (λb o a e=>A b o a e) d f g j l⟩
 self:=λ_ _ _ _ _ st h=>wpAny_pyIter_rangeiter st h
section
variable{X:Cx}{tg:Expr}
def AC(K:PySem.W.Frag)(b:TE):TI:=λσ H R=>b σ H λx H1=>∃a,x=.ref a∧(∃xs,SqL K H1 a xs)∧R (Itl K a) H1
def Bw(K:PySem.W.Frag)(b:TE):TI:=λσ H R=>b σ H λx H1=>∃a,x=.ref a∧(∃xs,SqT K H1 a xs)∧R (Itt K a) H1
theorem dj{l:Expr}{f:TE}(i:PE X l f):PI X tg l (AC X.K f):=by
 intro pins s σ H R I h;refine thn (i pins s σ H _ I h) λv d j=>?_;obtain⟨x,H1,c,n,m⟩:=j;obtain⟨a,e,⟨xs,k⟩,q⟩:=m;subst e;cases n;obtain⟨t,u,p,r⟩:=c.list k;refine wpAny_pyIter_list p.isList ?_;refine⟨d.heap.objs.size,[d.heap.objs.size],_,_,H1,rfl,c.kept (t':=d.toks) λb o e=>get?_push_of_some _ e,sJ a _,⟨_,get?_push_size _ rfl,rfl,rfl⟩,λb g=>?_,q⟩;have e:b=d.heap.objs.size:=by simpa using g
 subst e;exact c.fpOk (le_refl _) (c.hok.fresh (le_refl _))
theorem cE{l:Expr}{f:TE}(i:PE X l f):PI X tg l (Bw X.K f):=by
 intro pins s σ H R I h;refine thn (i pins s σ H _ I h) λv c j=>?_;obtain⟨x,H1,d,r,n⟩:=j;obtain⟨a,e,⟨xs,k⟩,q⟩:=n;subst e;cases r;obtain⟨m,u,p,t⟩:=d.tuple k;refine wpAny_pyIter_tuple (show c.heap.IsTuple a m.toArray from p) ?_;refine⟨c.heap.objs.size,[c.heap.objs.size],_,_,H1,rfl,d.kept (t':=c.toks) λb o e=>get?_push_of_some _ e,pV a _,⟨_,get?_push_size _ rfl,rfl,rfl⟩,λb g=>?_,q⟩;have e:b=c.heap.objs.size:=by simpa using g
 subst e;exact d.fpOk (le_refl _) (d.hok.fresh (le_refl _))
theorem uh{f:List (Addr×Obj)}{g:St}{c:Hp}{s:Shared}{R:It→Hp→Prop}{E:Value→Shared→Prop}{lo a:Int}{t u v:Tok}{tk:Nat}(h:Inv X f g c s)(k:-(2 ^ 62)≤lo)(l:lo<2 ^ 62)(m:-(2 ^ 62)≤a)(n:a<2 ^ 62)(q:R (Itr lo (a-lo).toNat) c):wpAny (model X.prog X.w) X.A (pyIter (.ref s.heap.objs.size)) (PIE X f g tg R) E {s with heap:=s.heap.push {cls:=.type "range",data:=.fields #[.int lo t,.int a u,.int 1 v]},toks:=tk}:=by
 refine wpAny_pyIter_range (IsRange.new ..) (small_one k l m n) ?_;have d:Inv X f g c {s with heap:=s.heap.push {cls:=.type "range",data:=.fields #[.int lo t,.int a u,.int 1 v]},toks:=tk}:=h.kept λb o e=>get?_push_of_some _ e
 refine⟨(s.heap.push {cls:=.type "range",data:=.fields #[.int lo t,.int a u,.int 1 v]}).objs.size,[(s.heap.push {cls:=.type "range",data:=.fields #[.int lo t,.int a u,.int 1 v]}).objs.size],_,_,c,rfl,
  d.kept (t':=tk) λb o e=>get?_push_of_some _ e,pW _ lo (a-lo).toNat,?_,λb p=>?_,q⟩
 ·have i:lo+((0:Nat):Int)*1=lo:=by simp
  have j:(((a-lo).toNat:Nat):Int)-((0:Nat):Int)=Builtin.Range.rangeSize lo a 1:=by rw[rangeSize_one];split<;>omega
  show IsRangeIter _ _ (lo+((0:Nat):Int)*1) ((((a-lo).toNat:Nat):Int)-((0:Nat):Int)) 1;rw[i,j];exact get?_push_size _ rfl
 ·have e:b=(s.heap.push {cls:=.type "range",data:=.fields #[.int lo t,.int a u,.int 1 v]}).objs.size:=by simpa using p
  subst e;exact d.fpOk (le_refl _) (d.hok.fresh (le_refl _))
def AD(b:TA):TI:=λσ H R=>b σ H λvs H1=>∃a:Int,vs=[.int a]∧-(2 ^ 62)≤a∧a<2 ^ 62∧R (Itr 0 a.toNat) H1
theorem lx{a:Expr}{c:TA}{p pos:Pos}(g:Gl X "range")(i:X.mg "range"=none)(f:PA X [a] c)(j:starEach [a] X.env=[(false,eval a X.env)]:=by rfl):PI X tg (.Call (.Name "range" p) [a] [] pos) (AD c):=by
 intro pins s σ H R I h;refine Call_ (jz I g i boot_range (PyProof.Rows.callWith_type1 (thn (f pos pins s σ H _ I h) λu o ⟨vs,H1,d,l,b⟩=>?_) j rfl));obtain⟨n,e,b,k,q⟩:=b;subst e;cases l with
 |cons r m =>
  cases m;obtain⟨t,rfl⟩:=r;exact call_range_1 (uh d (by omega) (by omega) b k (by simpa using q))
def Bx(f:TI)(g:TG)(e:TS):TS:=λa σ H=>f σ H λb H1=>∃W:Nat→Nat→St→Hp→Prop,(∃m,W 0 m σ H1)∧∀i m σ H,W i m σ H →
 (b.stop i H∧a.nx σ H)∨(b.go i H∧∃N:St→Hp→Prop,(∀d H',N d H'→∃c,c<m∧W (i+1) c d H')∧∀x H',b.yld i H x H'→g x σ H' λh H2=>e {a with nx:=N,ct:=N,bk:=a.nx} h H2)
def mf(a:List Addr)(c:Heap):List (Addr×Obj):=a.filterMap λb=>(c.get? b).map λo=>(b,o)
theorem bx{a:List Addr}{h:Heap}{b:Addr}{o:Obj}(c:b∈a)(e:h.get? b=some o):(b,o)∈mf a h:=mem_filterMap.mpr ⟨b,c,by rw[e];rfl⟩
theorem sK{c:List Addr}{a:Heap}{p:Addr×Obj}(g:p∈mf c a):p.1∈c∧a.get? p.1=some p.2:=by
 obtain⟨b,f,e⟩:=mem_filterMap.mp g;cases q:a.get? b with
 |none=>rw[q]at e;cases e
 |some o =>
  rw[q]at e;have d:(b,o)=p:=Option.some.inj e;subst d;exact⟨f,q⟩
theorem Inv.pinned{f:List (Addr×Obj)}{j:St}{a:Hp}{s:Shared}{c:List Addr}(g:Inv X f j a s)(n:∀b∈c,gC X f a b)(q:∀b∈c,∃o,s.heap.get? b=some o∧∀v,o.data≠.cell v):Inv X (f++mf c s.heap) j a s :=
 g.pins_of λp r=>(mem_append.mp r).elim (λz=>g.pin p (mem_append_right _ z)) λz=>by
  obtain⟨i,e⟩:=sK z;obtain⟨k,l,m,_⟩:=n p.1 i;obtain⟨o,h,d⟩:=q p.1 i;rw[e]at h;cases h;exact⟨e,k,l,m,d⟩
theorem Inv.unpinned{c pl:List (Addr×Obj)}{d:St}{a:Hp}{s:Shared}(b:Inv X (c++pl) d a s):Inv X c d a s:=b.pins_of λp e=>b.pin p (mem_append_right _ (List.mem_append_left _ e))
theorem fc{iter:Expr}{K:List Stmt}{V:TI}{g:TG}{S:TS}{pos:Pos}(q:PassesOwn (model X.prog X.w) X.A X.env X.xe)(O:X.calm=true)(a8:PI X tg iter V)(a7:PG X tg g)(j:PSs X K S)(b1:∀x,foldedSetIterable iter X.env x=pure x:=by intro _;rfl):PS X (.For tg iter K [] pos) (Bx V g S):=by
 intro pins s σ H c9 I h;refine wpAny_For (thn (a8 pins s σ H _ I h) λv d3 h1=>thn h1 λd2 d4 h2=>?_) b1;obtain⟨d1,fp,U,d0,H2,e,Z,T,c0,L,W,⟨b3,c3⟩,c2⟩:=h2;subst e;have F:∀{H':Hp},(∀b∈fp,H' b=none)→∀b∈fp,gC X pins H' b:=λb0 b j=>⟨b0 b j,(L b j).2⟩;refine codeAny_forLoop_any (λn s'=>∃i y H',Inv X pins y H' s'∧U i s'.heap∧(∀b∈fp,H' b=none)∧W i n y H') ?_ b3 ⟨0,σ,H2,Z,c0,λb j=>(L b j).1,c3⟩;rintro n P ⟨i,z,B,J,R,M,c4⟩;rcases c2 i n z B c4 with⟨c1,b5⟩|⟨go,N,a6,step⟩
 ·refine wpAny_passesOwn q (thn (T.done X rfl rfl rfl O i pins P z B X.xe J (F M) R c1) λr b8 p=>?_);obtain⟨C,a0⟩:=p;subst C;exact wpAny_execs_nil ⟨z,B,a0,b5⟩
 ·refine wpAny_passesOwn q (thn (T.item X rfl rfl rfl O i pins P z B X.xe J (F M) R go) λr b8 p=>?_);obtain⟨u,C,a5⟩:=p;subst C;refine wpAny_passesOwn q (thn a5 λ_ Q p=>?_);obtain⟨x,G,a1,b6,c7,E,a4⟩:=p;have a2:=a1.pinned (F a4) (T.obj _ _ E);refine wpAny_passesOwn q (thn (a7 _ Q z G x u _ a2 b6 (step x G c7)) λ_ b9 p=>?_);obtain⟨c8,Y,a3,b4⟩:=p;refine wpAny_passesOwn q (thn (j _ b9 c8 Y _ a3 b4) λf D l=>?_);have again:∀{k:St}{a:Hp},Inv X (pins++mf fp Q.heap) k a D→N k a→∃m,m<n∧∃i y H',Inv X pins y H' D∧U i D.heap∧(∀b∈fp,H' b=none)∧W i m y H':=λ{k a} c t=>by
   obtain⟨b2,a9,c5⟩:=a6 k a t;refine⟨b2,a9,i+1,k,a,c.unpinned,T.keep _ _ _ E λb j o e=>(c.pin (b,o) (mem_append_right _ (mem_append_right _ (bx j e)))).1,λb j=>?_,c5⟩;obtain⟨o,e,d⟩:=T.obj _ _ E b j;exact(c.pin (b,o) (mem_append_right _ (mem_append_right _ (bx j e)))).2.1
  cases f with
  |next=>obtain⟨k,a,c,t⟩:=l;exact again c t
  |cont=>obtain⟨k,a,c,t⟩:=l;exact again c t
  |brk=>obtain⟨k,a,c,l⟩:=l;exact⟨k,a,c.unpinned,l⟩
  |ret v=>obtain⟨c6,k,a,c,b7,l⟩:=l;exact⟨c6,k,a,c.unpinned,b7,l⟩
end
theorem jB{K:PySem.W.Frag}{a:Addr}{xs:List V}{g:TG}{l:TS}{d:Ends}{c:St}{b:Hp}(Pv:Nat→St→Hp→Prop)(n:Pv 0 c b)(o:∀i c b,i≤xs.length→Pv i c b→SqL K b a xs)(r:∀i x c b,xs[i]?=some x→Pv i c b→g x c b λh H2=>l {d with nx:=Pv (i+1),ct:=Pv (i+1),bk:=d.nx} h H2)(hd:∀c b,Pv xs.length c b→d.nx c b):
  ∃W:Nat→Nat→St→Hp→Prop,(∃m,W 0 m c b)∧∀i m c b,W i m c b →
   ((Itl K a).stop i b∧d.nx c b)∨((Itl K a).go i b∧∃N:St→Hp→Prop,(∀f H',N f H'→∃k,k<m∧W (i+1) k f H')∧∀x H',(Itl K a).yld i b x H'→g x c H' λh H2=>l {d with nx:=N,ct:=N,bk:=d.nx} h H2):=by
 refine⟨λi m c b=>m=xs.length-i∧i≤xs.length∧Pv i c b,⟨xs.length,by simp,zero_le _,n⟩,?_⟩;rintro i m c b ⟨rfl,hi,p⟩;have q:=o i c b hi p
 by_cases j:i<xs.length
 ·refine .inr ⟨⟨xs,xs[i],q,by simp[j]⟩,Pv (i+1),λf H' s=>⟨xs.length-(i+1),by omega,rfl,j,s⟩,λx H' y=>?_⟩;obtain⟨e,y⟩:=y;subst e;exact r i x c _ (y xs q) p
 ·have e:i=xs.length:=by omega
  subst e;exact .inl ⟨⟨xs,q,le_refl _⟩,hd c b p⟩
theorem mh{K:PySem.W.Frag}{a:Addr}{xs:List V}{g:TG}{l:TS}{d:Ends}{c:St}{b:Hp}(Pv:Nat→St→Hp→Prop)(n:Pv 0 c b)(o:∀i c b,i≤xs.length→Pv i c b→SqT K b a xs)(r:∀i x c b,xs[i]?=some x→Pv i c b→g x c b λh H2=>l {d with nx:=Pv (i+1),ct:=Pv (i+1),bk:=d.nx} h H2)(hd:∀c b,Pv xs.length c b→d.nx c b):
  ∃W:Nat→Nat→St→Hp→Prop,(∃m,W 0 m c b)∧∀i m c b,W i m c b →
   ((Itt K a).stop i b∧d.nx c b)∨((Itt K a).go i b∧∃N:St→Hp→Prop,(∀f H',N f H'→∃k,k<m∧W (i+1) k f H')∧∀x H',(Itt K a).yld i b x H'→g x c H' λh H2=>l {d with nx:=N,ct:=N,bk:=d.nx} h H2):=by
 refine⟨λi m c b=>m=xs.length-i∧i≤xs.length∧Pv i c b,⟨xs.length,by simp,zero_le _,n⟩,?_⟩;rintro i m c b ⟨rfl,hi,p⟩;have q:=o i c b hi p
 by_cases j:i<xs.length
 ·refine .inr ⟨⟨xs,xs[i],q,by simp[j]⟩,Pv (i+1),λf H' s=>⟨xs.length-(i+1),by omega,rfl,j,s⟩,λx H' y=>?_⟩;obtain⟨e,y⟩:=y;subst e;exact r i x c _ (y xs q) p
 ·have e:i=xs.length:=by omega
  subst e;exact .inl ⟨⟨xs,q,le_refl _⟩,hd c b p⟩
theorem ly{lo:Int}{n:Nat}{g:TG}{k:TS}{c:Ends}{b:St}{a:Hp}(Pv:Nat→St→Hp→Prop)(l:Pv 0 b a)(o:∀i b a,i<n→Pv i b a→g (.int (lo+i)) b a λh H2=>k {c with nx:=Pv (i+1),ct:=Pv (i+1),bk:=c.nx} h H2)(hd:∀b a,Pv n b a→c.nx b a):
  ∃W:Nat→Nat→St→Hp→Prop,(∃m,W 0 m b a)∧∀i m b a,W i m b a →
   ((Itr lo n).stop i a∧c.nx b a)∨((Itr lo n).go i a∧∃N:St→Hp→Prop,(∀f H',N f H'→∃j,j<m∧W (i+1) j f H')∧∀x H',(Itr lo n).yld i a x H'→g x b H' λh H2=>k {c with nx:=N,ct:=N,bk:=c.nx} h H2):=by
 refine⟨λi m b a=>m=n-i∧i≤n∧Pv i b a,⟨n,by simp,zero_le _,l⟩,?_⟩;rintro i m b a ⟨rfl,hi,p⟩
 by_cases d:i<n
 ·refine .inr ⟨d,Pv (i+1),λf H' q=>⟨n-(i+1),by omega,rfl,d,q⟩,λx H' y=>?_⟩;obtain⟨e,y⟩:=y;subst e y;exact o i b _ d p
 ·have e:i=n:=by omega
  subst e;exact .inl ⟨le_refl _,hd b a p⟩
theorem om{c:TT}{h:TS}{f:Ends}{a:St}{H:Hp}(Pv:St→Hp→Prop)(e:St→Hp→Nat)(i:Pv a H)(j:∀a H,Pv a H→c a H λb H1=>if b=true then h {f with nx:=λd H'=>Pv d H'∧e d H'<e a H,ct:=λd H'=>Pv d H'∧e d H'<e a H,bk:=f.nx} a H1 else f.nx a H1)(k:∀a H Q g,(∀b H1,Q b H1→g b H1)→c a H Q→c a H g):ug c h f a H:=by
 refine⟨λm a H=>m=e a H∧Pv a H,⟨_,rfl,i⟩,?_⟩;rintro m a H ⟨rfl,p⟩;refine k a H _ _ (λb H1 q=>?_) (j a H p);cases b with
 |true=>exact⟨_,λd H' ⟨n,l⟩=>⟨_,l,rfl,n⟩,q⟩
 |false=>exact q
abbrev R2:=V→V→Hp→VK→Prop
def OpR(X:Cx)(f:Value→Value→Sem Value)(r:R2):Prop :=
 ∀(pins:List (Addr×Obj))(s:Shared)(σ:St)(H:Hp)(x y:V)(v u:Value)(Q:VK),Inv X pins σ H s→aL x v→aL y u→r x y H Q →
  wpAny (model X.prog X.w) X.A (f v u) (EP X pins σ Q) X.xe s
def cx(X:Cx)(f:Value)(r:List V→Hp→VK→Prop):Prop :=
 ∀(pins:List (Addr×Obj))(s:Shared)(σ:St)(H:Hp)(xs:List V)(a:List Value)(Q:VK),Inv X pins σ H s→aF xs a→r xs H Q →
  wpAny (model X.prog X.w) X.A (call f a) (EP X pins σ Q) X.xe s
def By(X:Cx)(r:V→Hp→(Bool→Hp→Prop)→Prop):Prop :=
 ∀(pins:List (Addr×Obj))(s:Shared)(σ:St)(H:Hp)(x:V)(v:Value)(Q:Bool→Hp→Prop),Inv X pins σ H s→aL x v→r x H Q →
  wpAny (model X.prog X.w) X.A (truthy v) (TP X pins σ Q) X.xe s
def tOp(r:R2)(a b:TE):TE:=λσ H Q=>a σ H λx H1=>b σ H1 λy H2=>r x y H2 Q
def rI(C:Int→Int→Prop)(g:Int→Int→V):R2:=λx y H Q=>∃i j,x=.int i∧y=.int j∧C i j∧Q (g i j) H
def rI0(g:Int→Int→V):R2:=λx y H Q=>∃i j,x=.int i∧y=.int j∧Q (g i j) H
section
variable{X:Cx}{a b c:Expr}{ta tb tc:TE}{pos:Pos}
theorem yR(m:PE X a ta)(n:PE X b tb){d:List (Addr×Obj)}{s:Shared}{c:St}{g:Hp}{R:V→V→Hp→Prop}(i:Inv X d c g s)(l:ta c g λx H1=>tb c H1 λy H2=>R x y H2){Q:Value→Shared→Prop}{f:Value→Value→Sem Value}(o:∀v u e x y H2,Inv X d c H2 e→aL x v→aL y u→R x y H2→wpAny (model X.prog X.w) X.A (f v u) Q X.xe e):
  wpAny (model X.prog X.w) X.A (eval a X.env) (λv B=>wpAny (model X.prog X.w) X.A (eval b X.env) (λu C=>wpAny (model X.prog X.w) X.A (f v u) Q X.xe C) X.xe B) X.xe s:=by
 refine thn (m d s c g _ i l) λv z h=>?_;obtain⟨x,H1,j,r,p⟩:=h;refine thn (n d z c H1 _ j p) λu e h=>?_;obtain⟨y,H2,k,t,q⟩:=h;exact o v u e x y H2 k r t q
theorem aD{c:Operator}{r:R2}(g:OpR X (binaryOp c) r)(e:PE X a ta)(f:PE X b tb):PE X (.BinOp a c b pos) (tOp r ta tb):=by
 intro pins s σ H Q I h;exact wpAny_BinOp (yR e f I h λv u k x y H2 d i j q=>g pins k σ H2 x y v u Q d i j q)
theorem opI{f:Value→Value→Sem Value}{C:Int→Int→Prop}{g:Int→Int→Int}(rule:∀(i j:Int) (t u:Tok) (s:Shared) (Q:Value→Shared→Prop) (E:Value→Shared→Prop),C i j→Q (.int (g i j) s.toks) {s with toks:=s.toks+1}→wpAny (model X.prog X.w) X.A (f (.int i t) (.int j u)) Q E s):
  OpR X f (rI C λi j=>.int (g i j)):=by
 intro pins s σ H x y v u Q I b c h;obtain⟨i,j,rfl,rfl,a,q⟩:=h;obtain⟨t,rfl⟩:=b;obtain⟨t',rfl⟩:=c;exact rule i j t t' s _ _ a ⟨.int (g i j),H,I.tok _,⟨_,rfl⟩,q⟩
theorem AE{f:Value→Value→Sem Value}{g:Int→Int→Int}(rule:∀(i j:Int) (t u:Tok) (s:Shared) (Q:Value→Shared→Prop) (E:Value→Shared→Prop),Q (.int (g i j) s.toks) {s with toks:=s.toks+1}→wpAny (model X.prog X.w) X.A (f (.int i t) (.int j u)) Q E s):
  OpR X f (rI0 λi j=>.int (g i j)):=by
 intro pins s σ H x y v u Q I a b h;obtain⟨i,j,rfl,rfl,q⟩:=h;obtain⟨t,rfl⟩:=a;obtain⟨t',rfl⟩:=b;exact rule i j t t' s _ _ ⟨.int (g i j),H,I.tok _,⟨_,rfl⟩,q⟩
theorem wL{f:Value→Value→Sem Value}{g:Int→Int→Bool}(rule:∀(i j:Int) (t u:Tok) (s:Shared) (Q:Value→Shared→Prop) (E:Value→Shared→Prop),Q (.bool (g i j)) s→wpAny (model X.prog X.w) X.A (f (.int i t) (.int j u)) Q E s):
  OpR X f (rI0 λi j=>.bl (g i j)):=by
 intro pins s σ H x y v u Q I a b h;obtain⟨i,j,rfl,rfl,q⟩:=h;obtain⟨t,rfl⟩:=a;obtain⟨t',rfl⟩:=b;exact rule i j t t' s _ _ ⟨.bl (g i j),H,I,rfl,q⟩
def Bz(i j:Int):Prop:=0<j∧j<1073741824
def yS(i j:Int):Prop:=(-(2 ^ 64)<i∧i<2 ^ 64)∨(-(2 ^ 64)<j∧j<2 ^ 64)
theorem yS.ok{i j:Int}(h:yS i j):IntMulOk i j:=by
 rcases h with⟨h1,h2⟩|⟨h1,h2⟩
 ·exact .of_left (intBits_le_64 h1 h2)
 ·exact .of_right (intBits_le_64 h1 h2)
theorem aW:OpR X (binaryOp .Add) (rI0 λi j=>.int (i+j)):=AE λ_ _ _ _ _ _ _ q=>add_int q
theorem mn:OpR X (binaryOp .Sub) (rI0 λi j=>.int (i-j)):=AE λ_ _ _ _ _ _ _ q=>sub_int q
theorem dw:OpR X (binaryOp .Mult) (rI yS λi j=>.int (i*j)):=opI λ_ _ _ _ _ _ _ a q=>mul_int q a.ok
theorem rl:OpR X (binaryOp .FloorDiv) (rI Bz λi j=>.int (i / j)):=opI λi j _ _ _ _ _ a q=>by
 have h1:(0:Int)<j:=a.1;have h2:j<1073741824:=a.2;exact floordiv_int (by omega) (by rw[Int.fdiv_eq_ediv_of_nonneg i (by omega)];exact q) (.inl (PyProof.noPylong_small (by omega)))
theorem mq:OpR X (binaryOp .Mod) (rI (λ_ j=>0<j) λi j=>.int (i % j)):=opI λi j _ _ _ _ _ a q=>by
 have h1:(0:Int)<j:=a;exact mod_int' (by omega) (by rw[Int.fmod_eq_emod_of_nonneg i (by omega)];exact q)
end
def AF:V→V→Bool
 |.non,.non=>true | .non,.int _=>true | .int _,.non=>true | .non,.bl _=>true | .bl _,.non=>true | .non,.str _=>true | .str _,.non=>true
 |.int _,.int _=>true | .bl _,.bl _=>true | .str _,.str _=>true | .byt _,.byt _=>true
 |.int _,.str _=>true | .str _,.int _=>true | .bl _,.str _=>true | .str _,.bl _=>true
 |_,_=>false
def rEq:R2:=λx y H Q=>AF x y=true∧Q (.bl (decide (x=y))) H
def rNe:R2:=λx y H Q=>AF x y=true∧Q (.bl (!decide (x=y))) H
theorem rp{i j:Int}:decide (V.int i=V.int j)=(i==j):=by
 rw[Bool.eq_iff_iff];simp
theorem ui{i j:Bool}:decide (V.bl i=V.bl j)=(i==j):=by
 rw[Bool.eq_iff_iff];simp
theorem rq{i j:Str}:decide (V.str i=V.str j)=(i==j):=by
 rw[Bool.eq_iff_iff];simp
theorem rB{i j:Array UInt8}:decide (V.byt i=V.byt j)=(i.toList==j.toList):=by
 rw[Bool.eq_iff_iff];cases i;cases j;simp
section
variable{X:Cx}{a b c:Expr}{ta tb tc:TE}{pos:Pos}
theorem aU{c:List (Addr×Obj)}{d:St}{a:Hp}{s:Shared}{Q:VK}{k b:Bool}(f:Inv X c d a s)(q:Q (.bl k) a)(e:k=b):EP X c d Q (.bool b) s:=by
 subst e;exact⟨.bl k,a,f,rfl,q⟩
theorem cB:OpR X (compareOp .Eq) rEq:=by
 intro pins s σ H x y v u Q I d a h;obtain⟨c,q⟩:=h;cases x with
 |non =>
  cases d;cases y with
  |non=>cases a;exact PySem.EqNone.eq_none_none (aU I q (by simp))
  |bl b=>cases a;exact PySem.EqNone.eq_none_bool (aU I q (by simp))
  |int b=>obtain⟨t',rfl⟩:=a;exact PySem.EqNone.eq_none_int (aU I q (by simp))
  |str b=>obtain⟨t',rfl⟩:=a;exact PySem.EqNone.eq_none_str (aU I q (by simp))
  |_=>exact absurd (show false=true from c) Bool.false_ne_true
 |bl i =>
  cases d;cases y with
  |non=>cases a;exact PySem.EqNone.eq_bool_none (aU I q (by simp))
  |bl b=>cases a;exact eq_bool (aU I q ui)
  |str b=>obtain⟨t',rfl⟩:=a;exact PySem.EqMixed.eq_bool_str (aU I q (by simp))
  |_=>exact absurd (show false=true from c) Bool.false_ne_true
 |int i =>
  obtain⟨t,rfl⟩:=d;cases y with
  |non=>cases a;exact PySem.EqNone.eq_int_none (aU I q (by simp))
  |int b=>obtain⟨t',rfl⟩:=a;exact eq_int (aU I q rp)
  |str b=>obtain⟨t',rfl⟩:=a;exact PySem.EqMixed.eq_int_str (aU I q (by simp))
  |_=>exact absurd (show false=true from c) Bool.false_ne_true
 |str i =>
  obtain⟨t,rfl⟩:=d;cases y with
  |non=>cases a;exact PySem.EqNone.eq_str_none (aU I q (by simp))
  |bl b=>cases a;exact PySem.EqMixed.eq_str_bool (aU I q (by simp))
  |int b=>obtain⟨t',rfl⟩:=a;exact PySem.EqMixed.eq_str_int (aU I q (by simp))
  |str b=>obtain⟨t',rfl⟩:=a;exact eq_str (aU I q rq)
  |_=>exact absurd (show false=true from c) Bool.false_ne_true
 |byt i =>
  obtain⟨t,rfl⟩:=d;cases y with
  |byt b=>obtain⟨t',rfl⟩:=a;exact PySem.W.eq_bytes (aU I q rB)
  |_=>exact absurd (show false=true from c) Bool.false_ne_true
 |_=>cases y<;>exact absurd (show false=true from c) Bool.false_ne_true
theorem dg:OpR X (compareOp .NotEq) rNe:=by
 intro pins s σ H x y v u Q I d a h;obtain⟨c,q⟩:=h;cases x with
 |non =>
  cases d;cases y with
  |non=>cases a;exact PySem.EqNone.ne_none_none (aU I q (by simp))
  |bl b=>cases a;exact PySem.EqNone.ne_none_bool (aU I q (by simp))
  |int b=>obtain⟨t',rfl⟩:=a;exact PySem.EqNone.ne_none_int (aU I q (by simp))
  |str b=>obtain⟨t',rfl⟩:=a;exact PySem.EqNone.ne_none_str (aU I q (by simp))
  |_=>exact absurd (show false=true from c) Bool.false_ne_true
 |bl i =>
  cases d;cases y with
  |non=>cases a;exact PySem.EqNone.ne_bool_none (aU I q (by simp))
  |bl b=>cases a;exact ne_bool (aU I q (congrArg not ui))
  |str b=>obtain⟨t',rfl⟩:=a;exact PySem.EqMixed.ne_bool_str (aU I q (by simp))
  |_=>exact absurd (show false=true from c) Bool.false_ne_true
 |int i =>
  obtain⟨t,rfl⟩:=d;cases y with
  |non=>cases a;exact PySem.EqNone.ne_int_none (aU I q (by simp))
  |int b=>obtain⟨t',rfl⟩:=a;exact ne_int (aU I q (congrArg not rp))
  |str b=>obtain⟨t',rfl⟩:=a;exact PySem.EqMixed.ne_int_str (aU I q (by simp))
  |_=>exact absurd (show false=true from c) Bool.false_ne_true
 |str i =>
  obtain⟨t,rfl⟩:=d;cases y with
  |non=>cases a;exact PySem.EqNone.ne_str_none (aU I q (by simp))
  |bl b=>cases a;exact PySem.EqMixed.ne_str_bool (aU I q (by simp))
  |int b=>obtain⟨t',rfl⟩:=a;exact PySem.EqMixed.ne_str_int (aU I q (by simp))
  |str b=>obtain⟨t',rfl⟩:=a;exact ne_str (aU I q (congrArg not rq))
  |_=>exact absurd (show false=true from c) Bool.false_ne_true
 |byt i =>
  obtain⟨t,rfl⟩:=d;cases y with
  |byt b=>obtain⟨t',rfl⟩:=a;exact PySem.W.ne_bytes (aU I q (congrArg not rB))
  |_=>exact absurd (show false=true from c) Bool.false_ne_true
 |_=>cases y<;>exact absurd (show false=true from c) Bool.false_ne_true
theorem gn:OpR X (compareOp .Lt) (rI0 λi j=>.bl (decide (i<j))):=wL λ_ _ _ _ _ _ _ q=>lt_int q
theorem oo:OpR X (compareOp .LtE) (rI0 λi j=>.bl (decide (i≤j))):=wL λ_ _ _ _ _ _ _ q=>le_int q
theorem rC:OpR X (compareOp .Gt) (rI0 λi j=>.bl (decide (j<i))):=wL λ_ _ _ _ _ _ _ q=>gt_int q
theorem AG:OpR X (compareOp .GtE) (rI0 λi j=>.bl (decide (j≤i))):=wL λ_ _ _ _ _ _ _ q=>ge_int q
theorem sL:OpR X (compareOp .In) (λx y H Q=>∃i j,x=.str i∧y=.str j∧Q (.bl (!(Builtin.Str.occurrences j i 0 j.length 1).isEmpty)) H):=by
 intro pins s σ H x y v u Q I a b h;obtain⟨i,j,rfl,rfl,q⟩:=h;obtain⟨t,rfl⟩:=a;obtain⟨t',rfl⟩:=b;exact in_str (aU I q rfl)
theorem fe:OpR X (compareOp .Is) (λx y H Q=>y=.non∧Q (.bl (decide (x=.non))) H):=by
 intro pins s σ H x y v u Q I a b h;obtain⟨rfl,q⟩:=h;cases b;refine is_none_gen (aU I q ?_);cases x<;>first
  |(cases a;rfl)
  |(obtain⟨t,rfl⟩:=a;rfl)
theorem mr:OpR X (compareOp .IsNot) (λx y H Q=>y=.non∧Q (.bl (!decide (x=.non))) H):=by
 intro pins s σ H x y v u Q I a b h;obtain⟨rfl,q⟩:=h;cases b;refine isnot_none_gen (aU I q ?_);cases x<;>first
  |(cases a;rfl)
  |(obtain⟨t,rfl⟩:=a;rfl)
theorem OpR.or{f:Value→Value→Sem Value}{r a:R2}(d:OpR X f r)(h':OpR X f a):OpR X f (λx y H Q=>r x y H Q∨a x y H Q):=by
 intro pins s σ H x y v u Q I b c q;rcases q with q|q
 ·exact d pins s σ H x y v u Q I b c q
 ·exact h' pins s σ H x y v u Q I b c q
theorem au(b:Expr){a:CmpOp}(e:a≠.In:=by decide)(f:a≠.NotIn:=by decide):behindInMarks a b=false:=by
 have c:(a==CmpOp.In)=false:=by cases a<;>first|rfl|exact absurd rfl e
 have d:(a==CmpOp.NotIn)=false:=by cases a<;>first|rfl|exact absurd rfl f
 cases b<;>simp[behindInMarks,c,d]
theorem eM{c:CmpOp}{r:R2}(i:OpR X (compareOp c) r)(e:PE X a ta)(f:PE X b tb)(g:behindInMarks c b=false):PE X (.Compare a [c] [b] pos) (tOp r ta tb):=by
 intro pins s σ H Q I h;exact wpAny_Compare1 (yR e f I h λv u l x y H2 d j k q=>i pins l σ H2 x y v u Q d j k q) g
def rD(t:TE):TT:=λσ H Q=>t σ H λx H'=>∃k,x=.bl k∧Q k H'
theorem am{d:CmpOp}{r:R2}(o:OpR X (compareOp d) r)(l:PE X a ta)(m:PE X b tb)(n:behindInMarks d b=false):PT X (.Compare a [d] [b] pos) (rD (tOp r ta tb)):=by
 intro pins s σ H Q I h;refine wpAny_isTrue_Compare1 (thn (l pins s σ H _ I h) λv C ⟨x,H1,g,w,p⟩=>thn (m pins C σ H1 _ g p) λu D ⟨y,H2,i,A,q⟩ =>
  thn (o pins D σ H2 x y v u _ i w A q) λc E ⟨z,f,j,B,k,e,t⟩=>?_) n
 subst e;cases B;exact wpAny_truthy_bool ⟨f,j,t⟩
def pX(r c:R2)(d e f:TE):TE:=λσ H Q=>d σ H λx H1=>e σ H1 λy H2=>r x y H2 λz a=>∃k,z=.bl k ∧
 (if k=true then f σ a λg b=>c y g b Q else Q (.bl false) a)
theorem uk{f g:CmpOp}{r m:R2}(D:OpR X (compareOp f) r)(E:OpR X (compareOp g) m)(w:PE X a ta)(A:PE X b tb)(B:PE X c tc)(C:lastMarks [f,g] [b,c]=false:=by with_unfolding_all rfl):PE X (.Compare a [f,g] [b,c] pos) (pX r m ta tb tc):=by
 intro pins s σ H Q I h;refine Compare_chain (thn (w pins s σ H _ I h) λv N ⟨x,H1,p,K,F⟩=>chain_link (thn (A pins N σ H1 _ p F) λu O ⟨y,H2,q,n,G⟩ =>
  thn (D pins O σ H2 x y v u _ q K n G) λd P ⟨z,i,j,L,k,e,l⟩=>?_)) C
 subst e;cases L;refine wpAny_truthy_bool ?_;cases k with
 |false=>exact ite_ff ⟨.bl false,i,j,rfl,l⟩
 |true=>exact ite_tt (chain_last (thn (B pins P σ i _ j l) λS R ⟨T,o,t,M,J⟩=>E pins R σ o y T u S Q t n M J))
theorem oq{f g:CmpOp}{r m:R2}(J:OpR X (compareOp f) r)(K:OpR X (compareOp g) m)(D:PE X a ta)(E:PE X b tb)(F:PE X c tc)(G:lastMarks [f,g] [b,c]=false:=by with_unfolding_all rfl):PT X (.Compare a [f,g] [b,c] pos) (rD (pX r m ta tb tc)):=by
 intro pins s σ H Q I h;refine isTrue_chain (thn (D pins s σ H _ I h) λv W ⟨x,H1,q,S,N⟩=>test_link (thn (E pins W σ H1 _ q N) λu Y ⟨y,H2,t,n,O⟩ =>
  thn (J pins Y σ H2 x y v u _ t S n O) λd Z ⟨z,i,j,T,k,e,l⟩=>?_)) G
 subst e;cases T;refine wpAny_truthy_bool ?_;cases k with
 |false =>
  obtain⟨a4,B,M⟩:=l;cases B;exact ite_ff ⟨i,j,M⟩
 |true =>
  refine ite_tt (test_last (thn (F pins Z σ i _ j l) λa1 a0 ⟨a2,o,w,U,P⟩=>thn (K pins a0 σ o y a2 u a1 _ w n U P) λa3 a5 L=>?_));obtain⟨a6,p,A,V,k2,C,R⟩:=L;subst C;cases V;exact wpAny_truthy_bool ⟨p,A,R⟩
def AH(K:PySem.W.Frag)(x:V)(H:Hp)(k:Bool):Prop :=
 match x with
 |.non=>k=false
 |.bl b=>k=b
 |.int i=>k=(i != 0)
 |.str y=>y.length≤sizeLine∧k=((y.length:Int) != 0)
 |.byt y=>y.size≤sizeLine∧k=((y.size:Int) != 0)
 |.ref p=>(∃xs,SqL K H p xs∧k = !xs.isEmpty)∨(∃xs,SqT K H p xs∧k = !xs.isEmpty)∨∃kvs,H p=some (.dK kvs)∧k = !kvs.isEmpty
 |_=>False
theorem pY{κ:Type}{a:List (κ×V)}{vs:List (κ×Value)}(r:KV a vs):(!vs.isEmpty) = !a.isEmpty:=by
 cases r<;>rfl
theorem jC{xs:List V}{a:List Value}(r:aF xs a):(!a.toArray.isEmpty) = !xs.isEmpty:=by
 cases r<;>simp
theorem ix:(sizeLine:Nat)<2 ^ 63:=by rw[sizeLine_eq];decide
theorem yT:By X (λx H Q=>∃k,AH X.K x H k∧Q k H):=by
 intro pins s σ H x v Q I c h;obtain⟨k,e,q⟩:=h;have u:=ix;have z:sizeLine=16777216:=sizeLine_eq;cases x with
 |non =>
  cases c;have a:k=false:=e;subst a;exact truthy_none ⟨H,I,q⟩
 |bl b =>
  cases c;have a:k=b:=e;subst a;exact wpAny_truthy_bool ⟨H,I,q⟩
 |int i =>
  obtain⟨t,rfl⟩:=c;have a:k=(i != 0):=e;subst a;exact PySem.P.truthy_int ⟨H,I,q⟩
 |str y =>
  obtain⟨t,rfl⟩:=c;obtain⟨n,a⟩:y.length≤sizeLine∧k=((y.length:Int) != 0):=e;subst a;exact PySem.P.truthy_str (by omega) ⟨H,I.tok _,q⟩
 |byt y =>
  obtain⟨t,rfl⟩:=c;obtain⟨n,a⟩:y.size≤sizeLine∧k=((y.size:Int) != 0):=e;subst a;exact PySem.W.truthy_bytes (by omega) ⟨H,I.tok _,q⟩
 |ref p =>
  cases c;have a:(∃xs,SqL X.K H p xs∧k = !xs.isEmpty)∨(∃xs,SqT X.K H p xs∧k = !xs.isEmpty)∨∃kvs,H p=some (.dK kvs)∧k = !kvs.isEmpty:=e;rcases a with⟨xs,d,a⟩|⟨xs,d,a⟩|⟨kvs,d,a⟩
  ·subst a;obtain⟨o,r,f,j⟩:=I.list d;have g:=r.length;exact wpAny_truthy_list f.isList (by simp only[size_toArray];omega) ⟨H,I.tok _,by rw[jC r];exact q⟩
  ·subst a;obtain⟨o,r,f,j⟩:=I.tuple d;have g:=r.length;exact truthy_tuple f (by simp only[size_toArray];omega) ⟨H,I.tok _,by rw[jC r];exact q⟩
  ·subst a;obtain⟨j,l,vs,r,m⟩:kvs.length≤sizeLine∧(p==sysModules)=false∧∃vs,KV kvs vs∧s.heap.DictOf (aJ X.prog X.w) p vs:=I.hok p _ d;have g:kvs.length=vs.length:=Paired.length r;exact wpAny_truthy_dict l m (by omega) ⟨H,I.tok _,by rw[pY r];exact q⟩
 |_=>exact(show False from e).elim
theorem ul(d:PE X a ta)(e:∀b,isTrue a X.env b=(do let v ← b;standAt a.pos;holding [v] (truthy v))):
  PT X a (λσ H Q=>ta σ H λx H'=>∃k,AH X.K x H' k∧Q k H'):=by
 intro pins s σ H Q I h;exact isTrue_plain (thn (d pins s σ H _ I h) λv i ⟨x,H1,c,g,f⟩=>yT pins i σ H1 x v Q c g f) (e _)
theorem dy{x:V}{us:List Value}(r:aF [x] us):∃u,us=[u]∧aL x u:=by
 cases r with
 |cons a b=>cases b;exact⟨_,rfl,a⟩
theorem rE{x y:V}{us:List Value}(r:aF [x,y] us):∃u w',us=[u,w']∧aL x u∧aL y w':=by
 cases r with
 |cons a b =>
  cases b with
  |cons c d=>cases d;exact⟨_,_,rfl,a,c⟩
end
structure ObjM(h:Heap)(x dx C:Addr)(mA:Str→Option Value):Prop where
 obj:h.get? x=some (instObj C dx)
 ns:h.Ns1 dx mA
 ne:dx≠x
theorem sM{c:Heap}{b:Addr}{d:Str→Option Value}(n:c.Ns1 b d):∃f,c.get? b=some f∧∀name,lookIn name f=some (d name):=by
 obtain⟨o,es,p,l,h,i,_,k⟩:=n;refine⟨o,l,λname=>?_⟩;have e:=k name;unfold nsFind findBy at e;rw[←Array.find?_toList]at e;unfold lookIn;rw[h];dsimp only
 split
 ·rename_i y q
  rw[q]at e;exact congrArg some e
 ·rename_i q
  rw[q]at e;have a:es.toList.any (·.refKey)=false:=by
   rw[List.any_eq_false];intro y m;obtain⟨z,t,j⟩:=i y (Array.mem_toList_iff.mp m);simp[DictEntry.refKey,j]
  have g:¬es.toList.any (·.refKey)=true:=by rw[a];exact Bool.false_ne_true
  rw[if_neg g];exact congrArg some e
theorem ObjM.look{d:Heap}{x c C:Addr}{e:Str→Option Value}(b:ObjM d x c C e):∃a,PySem.W.InstAt d x (instObj C c) C (some a)∧∀name,lookIn name a=some (e name) :=
 let⟨a,g,f⟩:=sM b.ns
 ⟨a,⟨b.obj,rfl,rfl,g⟩,f⟩
section
variable{prog:Program}{w:World}{A:Around}{E:Value→Shared→Prop}{s:Shared}{K:PySem.W.Frag}{x dx C f:Addr}{mA:Str→Option Value}{name:Str}{v:Value}
theorem wM{c:Bool}{Q:Value→Shared→Prop}(X:K.In s.heap)(a:ObjM s.heap x dx C mA)(f:plainGet K C name=true)(g:hasDictIn K C=true)(e:PySem.W.findIn K (.ref C) name=some none)(i:mA name=some v)(j:handedIn v=true)(d:Q v {s with toks:=s.toks+1}):
  wpAny (model prog w) A (getAttr (.ref x) name c) Q E s:=by
 obtain⟨k,b,h⟩:=a.look;exact PySem.W.get_value X b (plainGet_of f).1 (PySem.W.findObj_own g e rfl (by rw[h,i])) j d
theorem um{pl:Sem Bool}{Q:Value×List Value→Shared→Prop}(X:K.In s.heap)(b:ObjM s.heap x dx C mA)(a:plainGet K C name=true)(e:PySem.W.findIn K (.ref C) name=some (some (.ref f)))(h:isFn K (.ref f)=true)(i:mA name=none)(d:Q (.ref f,[.ref x]) s):
  wpAny (model prog w) A (getMethod (.ref x) name pl) Q E s:=by
 obtain⟨j,c,g⟩:=b.look;exact PySem.W.method_fn X c (plainGet_of a).1 (plainGet_of a).2 e (beq_iff_eq.mp h) (by show(lookIn name j).map (·.isSome)=some false;rw[g,i];rfl) d
theorem wN{ns:List Str}{Q:Unit→Shared→Prop}(X:K.In s.heap)(c:ObjM s.heap x dx C mA)(o:PySem.W.findIn K (.ref C) "__setattr__"=some (some (.builtin "object.__setattr__")))(n:plainOver K C=true)(p:takerIn K C name=some none)(l:hasDictIn K C=true)(q:PySem.Within mA ns)(hsz:ns.length≤sizeLine)(g:∀h',ObjM h' x dx C (λy=>if y=name then some v else mA y)→SameBut dx s.heap h'→Q () {s with heap:=h',toks:=s.toks+2}):
  wpAny (model prog w) A (setAttr (.ref x) name v) Q E s:=by
 obtain⟨G,d,D⟩:=c.look;refine PySem.W.set_plain X d o (PySem.W.osa_open (s:={s with toks:=s.toks+1}) (r:=none) X d n p λb=>?_);obtain⟨u,h,j⟩:=PySem.W.any_some l;have t:s.heap.get? x=some ⟨.ref C,some dx,.plain,#[]⟩:=c.obj;refine wpAny_bind (wpAny_pure (wpAny_bind (wpAny_bind (wpAny_loadPart t (wpAny_bind (PySem.W.Looks.here (s:={s with toks:=s.toks+1}) (PySem.W.looks_clsIn X h) ?_))))));rw[j];refine wpAny_pure (a:=some dx) (wpAny_bind (wpAny_pure (wpAny_bind ?_)));refine wpAny_nsSet1 (s:={s with toks:=s.toks+1}) c.ns λh' e f=>?_;obtain⟨F,B,z,m,k,i⟩:=e.count (PySem.Within.cons name v q);refine wpAny_bind (wpAny_lookBehind m (by rw[k];exact pastItsLine_dict (le_trans i (by rw[length_cons];omega))) ?_);exact wpAny_pure (g _ ⟨(f.2 _ (Ne.symm c.ne)).trans c.obj,e,c.ne⟩ f)
theorem uo{R:Result→Shared→Prop}{vs:List Value}{a:List (Str×Value)}(X:K.In s.heap)(h:makesIn K C=true)(e:PySem.W.findIn K (.ref C) "__init__"=some (some (.ref f)))(c:PySem.W.typeIn K (.ref f)=some (.type "function"))(b:codeAny (model prog w) (A.under (.builtin "type.__call__" ⟨.ref C::vs,a⟩)) (.call (.ref f) ⟨.ref (s.heap.objs.size+1)::vs,a⟩) (PySem.W.InitBack (s.heap.objs.size+1) R)
   {s with heap:=(s.heap.push emptyDict).push (instObj C s.heap.objs.size)}):
  codeAny (model prog w) A (.call (.ref C) ⟨vs,a⟩) R s:=by
 obtain⟨j,g,d,t,os⟩:=s;exact PySem.W.make_core (PySem.W.makes_of X h) (PySem.W.looks_findIn X e) (λi=>PySem.W.bind_fn X i c) (.inl rfl) b
end
def bG(f:Str)(v:V):List (Str×V)→List (Str×V)
 |[]=>[(f,v)]
 |(g,x)::r=>if g=f then (g,v)::r else (g,x)::bG f v r
theorem iR(f g:Str)(v:V):∀fs:List (Str×V),(bG f v fs).lookup g=if g=f then some v else fs.lookup g
 |[]=>by
  show List.lookup g [(f,v)]=_
  by_cases h:g=f
  ·have a:(g==f)=true:=beq_iff_eq.mpr h;simp only[List.lookup,a,if_pos h]
  ·have a:(g==f)=false:=beq_eq_false_iff_ne.mpr h;simp only[List.lookup,a,if_neg h]
 |(k,x)::r=>by
  have c:=iR f g v r;rw[show bG f v ((k,x)::r)=(if k=f then (k,v)::r else (k,x)::bG f v r)from rfl]
  by_cases b:k=f
  ·rw[if_pos b]
   by_cases h:g=k
   ·have a:(g==k)=true:=beq_iff_eq.mpr h;simp only[List.lookup,a,if_pos (h.trans b)]
   ·have a:(g==k)=false:=beq_eq_false_iff_ne.mpr h;simp only[List.lookup,a,if_neg (λe:g=f=>h (e.trans b.symm))]
  ·rw[if_neg b]
   by_cases h:g=k
   ·have a:(g==k)=true:=beq_iff_eq.mpr h;simp only[List.lookup,a,if_neg (λe:g=f=>b (h.symm.trans e))]
   ·have a:(g==k)=false:=beq_eq_false_iff_ne.mpr h;simp only[List.lookup,a];exact c
theorem iy(f:Str)(v:V):∀fs:List (Str×V),f∈(bG f v fs).map (·.1)∧∀g,g∈fs.map (·.1)→g∈(bG f v fs).map (·.1)
 |[]=>⟨by simp[bG],λg h=>by simp at h⟩
 |(k,x)::r=>by
  obtain⟨b,c⟩:=iy f v r;rw[show bG f v ((k,x)::r)=(if k=f then (k,v)::r else (k,x)::bG f v r)from rfl]
  by_cases a:k=f
  ·rw[if_pos a];subst a;exact⟨by simp,λg h=>by simpa using h⟩
  ·rw[if_neg a];refine⟨?_,λg h=>?_⟩
   ·rw[map_cons];exact mem_cons_of_mem _ b
   ·rw[map_cons]at h⊢;rcases mem_cons.mp h with e|e
    ·exact mem_cons.mpr (.inl e)
    ·exact mem_cons_of_mem _ (c g e)
theorem iS(f:Str)(v:V):∀fs:List (Str×V),(bG f v fs).length≤fs.length+1
 |[]=>by simp[bG]
 |(k,x)::r=>by
  have b:=iS f v r;rw[show bG f v ((k,x)::r)=(if k=f then (k,v)::r else (k,x)::bG f v r)from rfl]
  by_cases a:k=f
  ·rw[if_pos a,length_cons,length_cons];omega
  ·rw[if_neg a,length_cons,length_cons];omega
theorem dZ.some_of{v:V}{o:Option Value}(r:dZ (some v) o):∃u,o=some u∧aL v u:=by
 cases o with
 |none=>exact(show False from r).elim
 |some u=>exact⟨u,rfl,r⟩
theorem dZ.none_of{o:Option Value}(r:dZ none o):o=none:=by
 cases o with
 |none=>rfl
 |some u=>exact(show False from r).elim
theorem sN{v:V}{u:Value}(r:aL v u):handedIn u=true:=by
 cases v with
 |non=>cases (show u=Value.none from r);rfl
 |bl b=>cases (show u=Value.bool b from r);rfl
 |int i=>obtain⟨t,e⟩:=(show ∃t,u=Value.int i t from r);cases e;rfl
 |str x=>obtain⟨t,e⟩:=(show ∃t,u=Value.str x t from r);cases e;rfl
 |byt b=>obtain⟨t,e⟩:=(show ∃t,u=bytes b t from r);cases e;rfl
 |flt b=>obtain⟨t,e⟩:=(show ∃t,u=float b t from r);cases e;rfl
 |ref a=>cases (show u=Value.ref a from r);rfl
 |ty n=>cases (show u=Value.type n from r);rfl
section
variable{P:Program}{w:World}{H H':Hp}{h h':Heap}{a C dx:Addr}{fs fs':List (Str×V)}
theorem jh(b:HOk P w H h)(e:H a=some (.ins C dx fs)):∃mA,ObjM h a dx C mA∧(∀f,dZ (fs.lookup f) (mA f))∧PySem.Within mA (fs.map (·.1))∧fs.length≤1000∧H dx=some (.own a):=by
 obtain⟨d,z,c,g,mA,n,r,q⟩:=(show bp P w H h a (.ins C dx fs)from b a _ e);exact⟨mA,⟨g,n,c⟩,r,q,z,d⟩
end
structure Cls(K:PySem.W.Frag)(C:Addr):Prop where
 pg:plainGet K C empty=true
 hd:hasDictIn K C=true
 po:plainOver K C=true
 sa:PySem.W.findIn K (.ref C) "__setattr__"=some (some (.builtin "object.__setattr__"))
theorem Cls.get{K:PySem.W.Frag}{C:Addr}(c:Cls K C)(f:Str):plainGet K C f=true:=c.pg
def db(K:PySem.W.Frag)(C:Addr)(f:Str):Prop:=PySem.W.findIn K (.ref C) f=some none
theorem db.taker{K:PySem.W.Frag}{C:Addr}{f:Str}(n:db K C f):takerIn K C f=some none:=by
 unfold takerIn;rw[show PySem.W.findIn K (.ref C) f=some none from n];rfl
structure Meth(K:PySem.W.Frag)(C:Addr)(m:Str)(f:Addr):Prop where
 at_:PySem.W.findIn K (.ref C) m=some (some (.ref f))
 fn:isFn K (.ref f)=true
 kp:keepIn K (.ref f)=true
section
variable{X:Cx}{pins:List (Addr×Obj)}{σ:St}{H:Hp}{s:Shared}{a C dx:Addr}{fs:List (Str×V)}{f:Str}{v:V}{A:Around}{E:Value→Shared→Prop}
theorem jD{b:Bool}{Q:Value→Shared→Prop}(d:Inv X pins σ H s)(e:H a=some (.ins C dx fs))(c:Cls X.K C)(n:db X.K C f)(l:fs.lookup f=some v)(i:∀u s',Inv X pins σ H s'→aL v u→Q u s'):wpAny (model X.prog X.w) A (getAttr (.ref a) f b) Q E s:=by
 obtain⟨mA,h,r,_,_,_⟩:=jh d.hok e;obtain⟨u,j,g⟩:=dZ.some_of (v:=v) (o:=mA f) (by rw[←l];exact r f);exact wM d.kIn h (c.get f) c.hd n j (sN g) (i u _ (d.tok _) g)
theorem gE{m:Str}{g:Addr}{pl:Sem Bool}{Q:Value×List Value→Shared→Prop}(b:Inv X pins σ H s)(e:H a=some (.ins C dx fs))(c:Cls X.K C)(k:Meth X.K C m g)(l:fs.lookup m=none)(f:Q (.ref g,[.ref a]) s):wpAny (model X.prog X.w) A (getMethod (.ref a) m pl) Q E s:=by
 obtain⟨mA,d,r,_,_,_⟩:=jh b.hok e;have h:mA m=none:=dZ.none_of (by rw[←l];exact r m);exact um b.kIn d (c.get m) k.at_ k.fn h f
theorem jE{y:V}{u:Value}{Q:Unit→Shared→Prop}(d:Inv X pins σ H s)(e:H a=some (.ins C dx fs))(c:Cls X.K C)(n:db X.K C f)(G:fs.length<1000)(D:aL y u)(m:∀s',Inv X pins σ (upd H a (.ins C dx (bG f y fs))) s'→Q () s'):wpAny (model X.prog X.w) A (setAttr (.ref a) f u) Q E s:=by
 obtain⟨mA,h,r,k,_,j⟩:=jh d.hok e;have B:(fs.map (·.1)).length≤sizeLine:=by rw[length_map,sizeLine_eq];omega
 refine wN d.kIn h c.sa c.po n.taker c.hd k B λh' i F=>m _ ?_;have t:∃o,h'.get? dx=some o:=let⟨o,_,_,l,_⟩:=i.ns;⟨o,l⟩;refine d.write (x:=a) (e:=dx) (by rw[e];exact True.intro) (.inr j) (λb q p z=>(F.2 b p).trans z) t ?_;refine⟨by rw[ai h.ne];exact j,?_,h.ne,i.obj,_,i.ns,λg=>?_,λg v=>?_⟩
 ·have:=iS f y fs;omega
 ·show dZ ((bG f y fs).lookup g) (if g=f then some u else mA g);rw[iR]
  by_cases q:g=f
  ·rw[if_pos q,if_pos q];exact D
  ·rw[if_neg q,if_neg q];exact r g
 ·by_cases q:g=f
  ·rw[q];exact(iy f y fs).1
  ·refine(iy f y fs).2 g (k g λz=>v ?_);show(if g=f then some u else mA g)=none;rw[if_neg q];exact z
theorem Inv.made(f:Inv X pins σ H s):Inv X pins σ (upd (upd H s.heap.objs.size (.own (s.heap.objs.size+1))) (s.heap.objs.size+1) (.ins C s.heap.objs.size []))
  {s with heap:=(s.heap.push emptyDict).push (instObj C s.heap.objs.size)}:=by
 have c:(s.heap.push emptyDict).get? s.heap.objs.size=some emptyDict:=get?_push_size s.heap rfl;have h:((s.heap.push emptyDict).push (instObj C s.heap.objs.size)).get? (s.heap.objs.size+1)=some (instObj C s.heap.objs.size):=by
  have:=get?_push_size (s.heap.push emptyDict) (o:=instObj C s.heap.objs.size) rfl
  rwa [size_push]at this
 have i:(s.heap.push emptyDict).Ns s.heap.objs.size (λ_=>none):=⟨emptyDict,#[],_,c,rfl,(λe j=>absurd j (by simp)),λ_=>rfl⟩;have g:=f.laid (a:=s.heap.objs.size) (o:=.own (s.heap.objs.size+1)) (h':=s.heap.push emptyDict) (t':=s.toks) (λb u q=>get?_push_of_some _ q) (le_refl _) ⟨_,c⟩;refine g.laid (a:=s.heap.objs.size+1) (o:=.ins C s.heap.objs.size []) (t':=s.toks) (λb u q=>get?_push_of_some _ q) (Nat.le_of_eq (size_push _ _)) ?_;have d:s.heap.objs.size≠s.heap.objs.size+1:=ne_of_lt (Nat.lt_succ_self _);refine⟨by rw[ai d,ac],zero_le _,d,h,λ_=>none,(Heap.Ns1.of_empty i).at λo q=>get?_push_of_some _ q,λ_=>True.intro,λy k=>absurd rfl k⟩
theorem wO{prog:Program}{w:World}{env:Env}{e:Expr}{f:Str}{pos:Pos}{s:Shared}{Q:Value→Shared→Prop}(b:attributeBase e f env (eval e env)=eval e env)(a:wpAny (model prog w) A (eval e env) (λo c=>wpAny (model prog w) A (getAttr o f true) Q E c) E s):wpAny (model prog w) A (eval (.Attribute e f pos) env) Q E s :=
 Attribute_any_ a (by rw[arm_eval_Attribute,b])
end
def BA(K:PySem.W.Frag)(b:TE)(f:Str):TE:=λσ H Q=>b σ H λx H1=>∃a C dx fs v,x=.ref a∧H1 a=some (.ins C dx fs)∧Cls K C∧db K C f∧fs.lookup f=some v∧Q v H1
def AI(K:PySem.W.Frag)(c d:TE)(f:Str):TS:=λb σ H=>d σ H λy H1=>c σ H1 λx H2=>∃a C dx fs,x=.ref a∧H2 a=some (.ins C dx fs)∧Cls K C∧db K C f∧fs.length<1000 ∧
 b.nx σ (upd H2 a (.ins C dx (bG f y fs)))
def AJ(X:Cx)(a:Operator)(b:V→V→Hp→VK→Prop):Prop :=
 ∀(pins:List (Addr×Obj))(s:Shared)(σ:St)(H:Hp)(x y:V)(u v:Value)(Q:VK),Inv X pins σ H s→aL x u→aL y v→b x y H Q→wpAny (model X.prog X.w) X.A (inplaceOp a u v) (EP X pins σ Q) X.xe s
def rF(K:PySem.W.Frag)(g h:TE)(e:V→V→Hp→VK→Prop)(f:Str):TS:=λd σ H=>g σ H λx H1=>∃a C dx fs v,x=.ref a∧H1 a=some (.ins C dx fs)∧Cls K C∧db K C f∧fs.lookup f=some v ∧
 h σ H1 λy H2=>e v y H2 λz b=>∃c fs',b a=some (.ins C c fs')∧fs'.length<1000∧d.nx σ (upd b a (.ins C c (bG f z fs')))
section
variable{X:Cx}{o e value:Expr}{f:Str}{pos pos' tpos:Pos}{ta tv:TE}
theorem ci(i:PE X e ta)(g:attributeBase e f X.env (eval e X.env)=eval e X.env):PE X (.Attribute e f pos) (BA X.K ta f):=by
 intro pins s σ H Q I h;refine wO g (thn (i pins s σ H _ I h) λu o j=>?_);obtain⟨x,H1,b,m,a,C,dx,fs,v,ex,ea,c,n,l,q⟩:=j;subst ex;obtain rfl:u=Value.ref a:=m;exact jD b ea c n l λr p d k=>⟨v,H1,d,k,q⟩
theorem iz(g:PE X o ta)(j:PE X value tv)(i:swapsWith value (some (.Attribute o f pos')) pos.line X.env=pure false):PS X (.Assign [.Attribute o f pos'] value pos) (AI X.K ta tv f):=by
 intro pins s σ H v I h;refine plainObj_wpAny_Assign_Attribute (thn (j pins s σ H _ I h) λu t ⟨y,H1,b,r,q⟩=>thn (g pins t σ H1 _ b q) λk w ⟨x,H2,d,p,a,C,dx,fs,ex,ea,c,n,l,m⟩=>?_) i;subst ex;obtain rfl:k=Value.ref a:=p;exact jE d ea c n l r λz e=>⟨σ,_,e,m⟩
theorem sO{d:Operator}{e:V→V→Hp→VK→Prop}(r:PE X o ta)(w:PE X value tv)(t:AJ X d e):PS X (.AugAssign (.Attribute o f tpos) d value pos) (rF X.K ta tv e f):=by
 intro pins s σ H P I h;refine wpAny_AugAssign_AttributeAny (thn (r pins s σ H _ I h) λB S b=>?_);obtain⟨x,H1,g,G,a,C,dx,fs,v,ex,ea,c,n,l,q⟩:=b;subst ex;obtain rfl:B=Value.ref a:=G;refine jD g ea c n l λu M i F=>thn (w pins M σ H1 _ i q) λO N ⟨y,H2,j,J,D⟩=>thn (t pins N σ H2 v y u O _ j F J D) λW T b=>?_;obtain⟨z,Q,k,L,R,fs',p,A,E⟩:=b;exact jE k p c n A L λU m=>⟨σ,_,m,E⟩
def AK:V→V→Hp→VK→Prop:=λx y H Q=>∃i j,x=.int i∧y=.int j∧Q (.int (i+j)) H
theorem yU:AJ X .Add AK:=by
 rintro pins s σ H x y u v Q I b c ⟨i,a,rfl,rfl,q⟩;obtain⟨t,rfl⟩:=(show ∃t,u=Value.int i t from b);obtain⟨t',rfl⟩:=(show ∃t',v=Value.int a t' from c);exact iadd_int ⟨.int (i+a),H,I.tok _,⟨_,rfl⟩,q⟩
end
section
variable{X:Cx}{pins:List (Addr×Obj)}{σ:St}{H:Hp}{s:Shared}{A:Around}{E:Value→Shared→Prop}{Q:Value→Shared→Prop}{c:Value}{b:Bool}
inductive TyOf(K:PySem.W.Frag)(H:Hp):V→Value→Prop where
 |non:TyOf K H .non (.type "NoneType")
 |bl (x:Bool):TyOf K H (.bl x) (.type "bool")
 |int (i:Int):TyOf K H (.int i) (.type "int")
 |str (x:Str):TyOf K H (.str x) (.type "str")
 |flt (x:UInt64):TyOf K H (.flt x) (.type "float")
 |lst {a:Addr} {xs:List V} (e:H a=some (.lst xs)):TyOf K H (.ref a) (.type "list")
 |frz {a:Addr} {o:Obj} {xs:List V} (e:H a=some (.frz o (.lst xs))):TyOf K H (.ref a) (.type "list")
 |tup {a:Addr} {xs:List V} (e:H a=some (.tup xs)):TyOf K H (.ref a) (.type "tuple")
 |dK {a:Addr} {kvs:List (Key×V)} (e:H a=some (.dK kvs)):TyOf K H (.ref a) (.type "dict")
 |dT {a:Addr} {kvs:List (List Key×V)} (e:H a=some (.dT kvs)):TyOf K H (.ref a) (.type "dict")
 |ins {a C dx:Addr} {fs:List (Str×V)} (e:H a=some (.ins C dx fs)) (cl:Cls K C) (ha:PySem.W.findIn K (.ref C) "__class__"=some (some (.builtin "object.__class__")))
   (hn:PySem.W.specialIn K (.builtin "object.__class__") "__get__"=some (some (.builtin "getset_descriptor.__get__"))) (htk:PySem.W.takesIn K (.builtin "object.__class__")=some true)
   (hm:mroIn K C (.type "object")=some true):TyOf K H (.ref a) (.ref C)
theorem sP{x:V}{u t:Value}(d:Inv X pins σ H s)(g:aL x u)(l:TyOf X.K H x t)(e:kitOne X.K t c=some b)(f:∀tk,Q (.bool b) {s with toks:=tk}):
  wpAny (model X.prog X.w) A (call (.builtin "isinstance") [u,c]) Q E s:=by
 cases l with
 |non=>cases (show u=Value.none from g);exact kia_one PySem.W.kitx_none d.kIn True.intro e (λz=>nomatch z) f
 |bl y=>cases (show u=Value.bool y from g);exact kia_one PySem.W.kitx_bool d.kIn True.intro e (λz=>nomatch z) f
 |int i=>obtain⟨t,q⟩:=(show ∃t,u=Value.int i t from g);cases q;exact kia_one PySem.W.kitx_int d.kIn True.intro e (λz=>nomatch z) f
 |str y=>obtain⟨t,q⟩:=(show ∃t,u=Value.str y t from g);cases q;exact kia_one PySem.W.kitx_str d.kIn True.intro e (λz=>nomatch z) f
 |flt y=>obtain⟨t,q⟩:=(show ∃t,u=float y t from g);cases q;exact kia_one PySem.W.kitx_float d.kIn True.intro e (λz=>nomatch z) f
 |@lst a xs ea =>
  cases (show u=Value.ref a from g);obtain⟨_,_,n,_,h1⟩:=(show bp X.prog X.w H s.heap a (.lst xs)from d.hok a _ ea);exact kia_one kitx_list d.kIn ⟨_,h1,rfl⟩ e (λz=>nomatch z) f
 |@frz a ob xs ea =>
  cases (show u=Value.ref a from g);obtain⟨_,_,_,n,_,h1⟩:=(show bp X.prog X.w H s.heap a (.frz ob (.lst xs))from d.hok a _ ea);exact kia_one kitx_list d.kIn ⟨_,h1,rfl⟩ e (λz=>nomatch z) f
 |@tup a xs ea =>
  cases (show u=Value.ref a from g);obtain⟨_,_,_,p⟩:=(show bp X.prog X.w H s.heap a (.tup xs)from d.hok a _ ea);obtain⟨o,h1,h2,_⟩:=p;exact kia_one PySem.W.kitx_tuple d.kIn ⟨o,h1,h2⟩ e (λz=>nomatch z) f
 |@dK a kvs ea =>
  cases (show u=Value.ref a from g);obtain⟨_,_,vs,_,p⟩:=(show bp X.prog X.w H s.heap a (.dK kvs)from d.hok a _ ea);obtain⟨o,es,k,h1,h2,_⟩:=p;exact kia_one kitx_dict d.kIn ⟨o,h1,h2.1⟩ e (λz=>nomatch z) f
 |@dT a kvs ea =>
  cases (show u=Value.ref a from g);obtain⟨_,_,xs,_,o,es,k,h1,h2,_⟩:=(show bp X.prog X.w H s.heap a (.dT kvs)from d.hok a _ ea);exact kia_one kitx_dict d.kIn ⟨o,h1,h2.1⟩ e (λz=>nomatch z) f
 |@ins a C dx fs ea cl ha hn htk hm =>
  cases (show u=Value.ref a from g);obtain⟨mA,j,_⟩:=jh d.hok ea;obtain⟨m,h,_⟩:=j.look;exact kia_one (PySem.W.kitx_own (cl.get _) cl.hd ha hn htk hm) d.kIn h e (λz=>nomatch z) f
end
structure Room(k:Nat)(A:Around):Prop where
 hd:A.handled=none
 dp:A.depth+3*k+5<recursionLimit
 un:A.units+16*k+200<cLine
theorem Room.mono{j k:Nat}{A:Around}(r:Room k A)(h:j≤k):Room j A:=⟨r.hd,by have:=r.dp;omega,by have:=r.un;omega⟩
theorem Room.deeper{k:Nat}{A:Around}(r:Room (k+1) A)(env:Env):Room k (A.deeper env) :=
 ⟨r.hd,by have:=r.dp;show A.depth+1+3*k+5<_;omega,by have:=r.un;show A.units+3+16*k+200<_;omega⟩
theorem pZ{A:Around}{C:Addr}{us:List Value}{a:List (Str×Value)}:(A.under (.builtin "type.__call__" ⟨.ref C::us,a⟩)).depth=A.depth+1:=by
 first|rfl|simp[Around.under,Code.weight,Code.isCreation,Code.isGuard,Code.isCaller,Code.frames,Code.isFrame,guardIds]
theorem qb{A:Around}{C:Addr}{us:List Value}{a:List (Str×Value)}:(A.under (.builtin "type.__call__" ⟨.ref C::us,a⟩)).units=A.units+1:=by
 first|rfl|simp[Around.under,Code.cUnits,Code.frames,Code.isFrame]
theorem Room.make{k:Nat}{A:Around}(r:Room (k+1) A)(C:Addr)(us:List Value)(a:List (Str×Value)):Room k (A.under (.builtin "type.__call__" ⟨.ref C::us,a⟩)) :=
 ⟨r.hd,by have:=r.dp;rw[pZ];omega,by have:=r.un;rw[qb];omega⟩
theorem Room.depth{k:Nat}{A:Around}(r:Room k A):A.depth<recursionLimit:=by have:=r.dp;omega
theorem Room.units{k:Nat}{A:Around}(r:Room k A):A.units+64<cLine:=by have:=r.un;omega
theorem Room.units0{k:Nat}{A:Around}(r:Room k A):A.units<cLine:=by have:=r.un;omega
def jF:TA:=λ_ H Q=>Q [] H
def cM(a:TE)(b:TA):TA:=λσ H Q=>a σ H λx H1=>b σ H1 λxs H2=>Q (x::xs) H2
section
variable{X:Cx}{e:Expr}{es:List Expr}{te:TE}{t:TA}{pos:Pos}
theorem ae:PA X [] jF:=λ_ _ _ _ H Q I h=>spliced_nil ⟨[],H,I,.nil,h⟩
theorem aa(c:PE X e te)(f:PA X es t)(g:starEach (e::es) X.env=(false,eval e X.env)::starEach es X.env:=by rfl):PA X (e::es) (cM te t):=by
 intro pos pins s σ H Q I h;rw[g];show wpAny _ _ (spliced ((false,eval e X.env)::backTo pos (starEach es X.env))) _ _ s;refine spliced_cons (thn (c pins s σ H _ I h) λu m d=>?_);obtain⟨x,H1,a,k,i⟩:=d;exact thn (f pos pins m σ H1 _ a i) λo n ⟨xs,H2,b,l,j⟩=>⟨x::xs,H2,b,.cons k l,j⟩
def AL(t:TA):TE:=λσ H Q=>t σ H λxs H1=>xs.length≤sizeLine∧∀p,H1 p=none→Q (.ref p) (upd H1 p (.tup xs))
def BB(t:TA):TE:=λσ H Q=>t σ H λxs H1=>xs.length≤sizeLine∧∀p,H1 p=none→Q (.ref p) (upd H1 p (.lst xs))
theorem be{x1}(d:PA X es t):PE X (.Tuple es x1 pos) (AL t):=by
 intro pins s σ H Q I g;refine wpAny_Tuple_spliced (thn (d pos pins s σ H _ I g) λh a ⟨xs,H1,c,r,z,q⟩=>⟨by rw[←r.length];exact z,?_⟩);have f:H1 a.heap.objs.size=none:=c.hok.fresh (le_refl _);refine⟨.ref a.heap.objs.size,upd H1 a.heap.objs.size (.tup xs),c.laid (t':=a.toks) (λb u e=>get?_push_of_some _ e) (le_refl _) ?_,rfl,q _ f⟩;exact⟨z,h,r,⟨_,get?_push_size _ rfl,rfl,_,rfl⟩⟩
theorem bi(d:PA X es t):PE X (.List es pos) (BB t):=by
 intro pins s σ H Q I g;refine wpAny_List_spliced (thn (d pos pins s σ H _ I g) λh a ⟨xs,H1,c,r,z,q⟩=>⟨by rw[←r.length];exact z,?_⟩);have f:H1 a.heap.objs.size=none:=c.hok.fresh (le_refl _);refine⟨.ref a.heap.objs.size,upd H1 a.heap.objs.size (.lst xs),c.laid (t':=a.toks) (λb u e=>get?_push_of_some _ e) (le_refl _) ?_,rfl,q _ f⟩;exact⟨z,h,0,r,get?_push_size _ rfl⟩
end
abbrev Sp:=List V→Hp→VK→XK→Prop
abbrev CXT:=List Env→Hp→Shared→XK→Value→Shared→Prop
structure Env0(P:Program)(w:World)(K:PySem.W.Frag)(mg:Str→Option Value)(base:Heap)(A:Around)(outer:List Env)(s:Shared)(H:Hp):Prop where
 frames:A.frames=some outer
 mod:Mod K mg base
 bs:∀b o,base.get? b=some o→s.heap.get? b=some o∧H b=none
 bsz:base.objs.size≤s.heap.objs.size
 funs:s.heap.FunFrames base outer
 frf:∀b∈frs outer,H b=none
 hok:HOk P w H s.heap
 bare:AllBare s.gens
def CE(outer:List Env)(P:Program)(w:World)(H:Hp)(s:Shared)(Q:VK)(u:Value)(s':Shared):Prop :=
 ∃v H',s'.os=s.os∧AllBare s'.gens∧Un (frs outer) [] H H' s.heap s'.heap∧HOk P w H' s'.heap∧aL v u∧Q v H'
def CR(CX:CXT)(outer:List Env)(P:Program)(w:World)(H:Hp)(s:Shared)(Q:VK)(E:XK)(r:Result)(s':Shared):Prop :=
 match r with
 |.ok (.ret u)=>CE outer P w H s Q u s'
 |.ok _=>False
 |.error e=>CX outer H s E e s'
structure FnOk(P:Program)(w:World)(K:PySem.W.Frag)(mg:Str→Option Value)(base:Heap)(CX:CXT)(k:Nat)(f:Addr)(fd:FuncData)(ps:List Str)(sp:Sp):Prop where
 len:∀vs H Q E,sp vs H Q E→vs.length=ps.length
 run:∀(A:Around)(outer:List Env)(s:Shared)(H:Hp)(args:Args)(us:List Value)(vs:List V)(Q:VK)(E:XK),Room k A→Env0 P w K mg base A outer s H→BindsTo s fd args (ps.zip us)→aF vs us→sp vs H Q E →
  codeAny (model P w) A (.call (.ref f) args) (CR CX outer P w H s Q E) s
theorem Env0.make{P:Program}{w:World}{K:PySem.W.Frag}{mg:Str→Option Value}{base:Heap}{A:Around}{outer:List Env}{s:Shared}{H:Hp}(e:Env0 P w K mg base A outer s H)(C:Addr)(us:List Value)(a:List (Str×Value)):
  Env0 P w K mg base (A.under (.builtin "type.__call__" ⟨.ref C::us,a⟩)) outer s H:=⟨by first|exact e.frames|(simpa [Around.under,Code.envs,Code.isFrame,pushEnvs]using e.frames),e.mod,e.bs,e.bsz,e.funs,e.frf,e.hok,e.bare⟩
section
variable{X:Cx}{pins:List (Addr×Obj)}{σ:St}{H:Hp}{s s':Shared}
theorem Inv.env0(I:Inv X pins σ H s):Env0 X.prog X.w X.K X.mg X.base X.A X.stack s H :=
 ⟨I.ok.frames,I.ok.mod,I.bs,le_trans I.ok.bsz I.sz,I.stack,I.stkFree,I.hok,I.bare⟩
theorem Inv.after{Q:VK}{u:Value}(a:Inv X pins σ H s)(e:CE X.stack X.prog X.w H s Q u s'):EP X pins σ Q u s':=by
 obtain⟨v,H',os,c,un,h,r,q⟩:=e;obtain⟨f,g,d,t,i⟩:=s';obtain rfl:i=s.os:=os;exact⟨v,H',a.call (h':=f) (g':=g) (d':=d) (t':=t) (ch:=[]) un h c (λb z=>absurd z (by simp)),r,q⟩
end
def rG(sp:Sp)(a:List V)(E:XK)(t:TA):TE:=λσ H Q=>t σ H λvs H1=>sp (vs++a) H1 Q E
def yu(C:Addr)(m:Str)(sp:Sp)(b:List V)(E:XK)(c:TE)(t:TA):TE:=λσ H Q=>c σ H λx H1=>∃a dx fs,x=.ref a∧H1 a=some (.ins C dx fs)∧fs.lookup m=none ∧
 t σ H1 λvs H2=>sp (x::(vs++b)) H2 Q E
def AM(C:Addr)(sp:Sp)(a:List V)(E:XK)(t:TA):TE:=λσ H Q=>t σ H λvs H1=>∀x dx,H1 x=none→H1 dx=none→dx≠x →
 sp (.ref x::(vs++a)) (upd (upd H1 dx (.own x)) x (.ins C dx [])) (λv H2=>v=.non∧Q (.ref x) H2) E
def bf(K:PySem.W.Frag)(d:FuncData)(c:List Str)(b:List Value):Prop :=
 ∀(s:Shared)(a:List Value),K.In s.heap→(a++b).length=c.length→BindsTo s d ⟨a,[]⟩ (c.zip (a++b))
theorem bf.all{K:PySem.W.Frag}{b:FuncData}{a:List Str}(d:∀us:List Value,us.length=a.length→bindArgs b ⟨us,[]⟩=pure (a.zip us)):bf K b a []:=λs us _ c=>by
 rw[append_nil]at c⊢;exact .of_eq (d us c)
def eN(CX:CXT)(X:Cx)(E:XK):Prop:=∀(pins:List (Addr×Obj))(σ:St)(H:Hp)(s:Shared)(e:Value)(s':Shared),Inv X pins σ H s→CX X.stack H s E e s'→X.xe e s'
section
variable{X:Cx}{CX:CXT}{k:Nat}{f C:Addr}{fd:FuncData}{ps:List Str}{sp:Sp}{dvs:List V}{ds:List Value}{E:XK}{x m:Str}{p pos apos:Pos}{e o:Expr}{es:List Expr}{ta:TE}{t:TA}
theorem qc{d:List (Addr×Obj)}{g:St}{b:Hp}{s:Shared}{Q:VK}{us:List Value}{vs:List V}(F:FnOk X.prog X.w X.K X.mg X.base CX k f fd ps sp)(n:Room k X.A)(l:bf X.K fd ps ds)(hd:aF dvs ds)(o:eN CX X E)(c:Inv X d g b s)(r:aF vs us)(h:sp (vs++dvs) b Q E):wpAny (model X.prog X.w) X.A (call (.ref f) us) (EP X d g Q) X.xe s:=by
 have i:aF (vs++dvs) (us++ds):=r.append hd;have m:(us++ds).length=ps.length:=by rw[←i.length];exact F.len _ _ _ _ h
 refine wpAny_call (codeAny_mono (F.run X.A X.stack s b ⟨us,[]⟩ (us++ds) (vs++dvs) Q E n c.env0 (l s us c.kIn m) i h) λr s' a=>?_);cases r with
 |error e=>exact o d g b s e s' c a
 |ok j =>
  cases j with
  |ret u=>exact c.after a
  |next=>exact False.elim a
  |brk=>exact False.elim a
  |cont=>exact False.elim a
theorem al(F:FnOk X.prog X.w X.K X.mg X.base CX k f fd ps sp)(n:Room k X.A)(i:Gl X x)(l:X.mg x=some (.ref f))(j:keepIn X.K (.ref f)=true)(c:bf X.K fd ps ds)(hd:aF dvs ds)(o:eN CX X E)(b:PA X (e::es) t)(d:(x==("__debug__":Str))=false:=by decide)(g:starEach (e::es) X.env=(false,eval e X.env)::starEach es X.env:=by rfl)(m:(backTo pos (starEach es X.env)).any (·.1)=false:=by rfl):
  PE X (.Call (.Name x p) (e::es) [] pos) (rG sp dvs E t):=by
 intro pins s σ H Q I h;refine wpAny_Call_Name_kw (jg I i l ?_ d);refine callWith_K (h₀:=X.base) I.ok.mod.kin j (thn (b pos pins s σ H _ I h) λv u ⟨vs,H1,a,r,q⟩=>⟨a.kIn,?_⟩) g m;exact qc F n c hd o a r q
theorem mt{pl:Sem Bool}(p:PE X o ta)(c:Cls X.K C)(g:Meth X.K C m f)(F:FnOk X.prog X.w X.K X.mg X.base CX k f fd ps sp)(y:Room k X.A)(n:bf X.K fd ps ds)(hd:aF dvs ds)(D:eN CX X E)(j:PA X (e::es) t)(z:starEach (e::es) X.env=(false,eval e X.env)::starEach es X.env:=by rfl)(v:(backTo pos (starEach es X.env)).any (·.1)=false:=by rfl)(B:eval (.Call (.Attribute o m apos) (e::es) [] pos) X.env=(do
   let i ← eval o X.env
   standAt apos.atName
   let(f,first) ← holding [i] (getMethod i m pl)
   callWith pos f first (backTo pos (starEach (e::es) X.env)) (backToKw pos (keywordEach [] X.env))):=by rfl):
  PE X (.Call (.Attribute o m apos) (e::es) [] pos) (yu C m sp dvs E ta t):=by
 intro pins s σ H Q I h;refine methodCall_KW (pl:=pl) (thn (p pins s σ H _ I h) λu L ⟨x,H1,b,J,a,dx,fs,ex,ea,l,q⟩=>?_) B;subst ex;obtain rfl:u=Value.ref a:=J;refine gE b ea c g l ?_;refine callWith_K (first:=[.ref a]) (h₀:=X.base) I.ok.mod.kin g.kp (thn (j pos pins L σ H1 _ b q) λus M ⟨vs,H2,d,r,G⟩=>⟨d.kIn,?_⟩) z v;exact qc (us:=.ref a::us) (vs:=.ref a::vs) F y n hd D d (.cons rfl r) G
theorem ou{pl:Sem Bool}(i:PE X o ta)(c:Cls X.K C)(d:Meth X.K C m f)(F:FnOk X.prog X.w X.K X.mg X.base CX k f fd ps sp)(j:Room k X.A)(g:bf X.K fd ps ds)(hd:aF dvs ds)(p:eN CX X E)(n:eval (.Call (.Attribute o m apos) [] [] pos) X.env=(do
   let e ← eval o X.env
   standAt apos.atName
   let(f,first) ← holding [e] (getMethod e m pl)
   callWith pos f first (backTo pos (starEach [] X.env)) (backToKw pos (keywordEach [] X.env))):=by rfl):
  PE X (.Call (.Attribute o m apos) [] [] pos) (yu C m sp dvs E ta jF):=by
 intro pins s σ H Q I h;refine methodCall_KW (pl:=pl) (thn (i pins s σ H _ I h) λu t ⟨x,H1,b,r,a,dx,fs,ex,ea,l,q⟩=>?_) n;subst ex;obtain rfl:u=Value.ref a:=r;refine gE b ea c d l ?_;exact PySem.W.callWith_K0 (first:=[.ref a]) b.kIn d.kp (qc (us:=[.ref a]) (vs:=[.ref a]) F j g hd p b (.cons rfl .nil) q)
structure Mk(K:PySem.W.Frag)(C f:Addr):Prop where
 makes:makesIn K C=true
 init:PySem.W.findIn K (.ref C) "__init__"=some (some (.ref f))
 fn:isFn K (.ref f)=true
 kp:keepIn K (.ref C)=true
theorem uq{h:List (Addr×Obj)}{i:St}{b:Hp}{s:Shared}{Q:VK}{us:List Value}{vs:List V}(g:Mk X.K C f)(F:FnOk X.prog X.w X.K X.mg X.base CX k f fd ps sp)(y:Room (k+1) X.A)(q:bf X.K fd ps ds)(hd:aF dvs ds)(z:eN CX X E)(c:Inv X h i b s)(r:aF vs us)(p:∀x dx,b x=none→b dx=none→dx≠x→sp (.ref x::(vs++dvs)) (upd (upd b dx (.own x)) x (.ins C dx [])) (λv H2=>v=.non∧Q (.ref x) H2) E):
  wpAny (model X.prog X.w) X.A (call (.ref C) us) (EP X h i Q) X.xe s:=by
 have j:=p (s.heap.objs.size+1) s.heap.objs.size (c.hok.fresh (le_succ _)) (c.hok.fresh (le_refl _)) (ne_of_lt (Nat.lt_succ_self _));have d:=Inv.made (C:=C) c;have l:aF (V.ref (s.heap.objs.size+1)::(vs++dvs)) (Value.ref (s.heap.objs.size+1)::(us++ds)):=.cons rfl (r.append hd);have t:(Value.ref (s.heap.objs.size+1)::us++ds).length=ps.length:=by
  have e:=l.length;rw[F.len _ _ _ _ j]at e;exact e.symm
 refine wpAny_call (uo (f:=f) c.kIn g.makes g.init (beq_iff_eq.mp g.fn) (codeAny_mono (F.run _ X.stack _ _ ⟨Value.ref (s.heap.objs.size+1)::us,[]⟩ (Value.ref (s.heap.objs.size+1)::(us++ds)) _ _ E (y.make C us [])
  (d.env0.make C us []) (q _ (Value.ref (s.heap.objs.size+1)::us) d.kIn t) l j) λr s' a=>?_))
 cases r with
 |error e=>exact z h i _ _ e s' d a
 |ok o =>
  cases o with
  |ret u =>
   obtain⟨v,H',m,D,n,B⟩:=d.after a;subst n;exact⟨D,⟨V.ref (s.heap.objs.size+1),H',m,rfl,B⟩⟩
  |next=>exact False.elim a
  |brk=>exact False.elim a
  |cont=>exact False.elim a
theorem wP(b:Mk X.K C f)(F:FnOk X.prog X.w X.K X.mg X.base CX k f fd ps sp)(n:Room (k+1) X.A)(j:Gl X x)(l:X.mg x=some (.ref C))(d:bf X.K fd ps ds)(hd:aF dvs ds)(o:eN CX X E)(c:PA X (e::es) t)(g:(x==("__debug__":Str))=false:=by decide)(i:starEach (e::es) X.env=(false,eval e X.env)::starEach es X.env:=by rfl)(m:(backTo pos (starEach es X.env)).any (·.1)=false:=by rfl):
  PE X (.Call (.Name x p) (e::es) [] pos) (AM C sp dvs E t):=by
 intro pins s σ H Q I h;refine wpAny_Call_Name_kw (jg I j l ?_ g);refine callWith_K (h₀:=X.base) I.ok.mod.kin b.kp (thn (c pos pins s σ H _ I h) λv u ⟨vs,H1,a,r,q⟩=>⟨a.kIn,?_⟩) i m;exact uq b F n d hd o a r q
end
section
variable{X:Cx}{CX:CXT}{k:Nat}{f C:Addr}{fd:FuncData}{ps ks:List Str}{sp:Sp}{E:XK}{x m:Str}{p pos apos kpos:Pos}{e o:Expr}{es:List Expr}{kws:List Keyword}{te ta:TE}{t tk:TA}{nm:Option Str}
variable{g:List Value→List Value→List Value}{gV:List V→List V→List V}
end
structure FnScope(N P:List Str)(sc:Scope):Prop where
 kind:sc.kind=.function
 co:sc.isCoroutine=false
 gen:sc.isGenerator=false
 nd:N.Nodup
 pre:N.take P.length=P
 par:∀x∈P,sc.names.lookup x=some .local∨sc.names.lookup x=some .cell
 nofree:∀y∈sc.names,y.2≠.free
theorem fsc{N P:List Str}{c:Scope}(a:c.kind=.function:=by rfl)(b:c.isCoroutine=false:=by rfl)(d:c.isGenerator=false:=by rfl)(e:N.Nodup:=by decide +kernel)(f:N.take P.length=P:=by rfl)(g:∀x∈P,c.names.lookup x=some .local∨c.names.lookup x=some .cell:=by decide +kernel)(h:∀y∈c.names,y.2≠.free:=by decide +kernel):FnScope N P c:=⟨a,b,d,e,f,g,h⟩
theorem lz{kindOf:Str→Option NameKind}{x:Str}:∀{a:List (Str×Value)}{m:Str→Option Value},(∀v,(x,v)∉a)→bindL kindOf a m x=m x
 |[],_,_=>rfl
 |(n,v)::r,m,h=>by
  unfold bindL;rw[lz λw b=>h w (mem_cons_of_mem _ b)]
  split
  ·have:x≠n:=by rintro rfl;exact h v mem_cons_self
   simp[this]
  ·rfl
theorem lA{kindOf:Str→Option NameKind}{x:Str}:∀{a:List (Str×Value)}{m:Str→Option Value},(∀v,(x,v)∉a)→bindC kindOf a m x=m x
 |[],_,_=>rfl
 |(n,v)::r,m,h=>by
  unfold bindC;rw[lA λw b=>h w (mem_cons_of_mem _ b)]
  split
  ·rfl
  ·have:x≠n:=by rintro rfl;exact h v mem_cons_self
   simp[this]
theorem lB{kindOf:Str→Option NameKind}{x:Str}{v:Value}:∀{P:List Str}{vs:List Value}{i:Nat}{m:Str→Option Value},P.Nodup→P[i]?=some x→vs[i]?=some v→kindOf x=some .local →
  bindL kindOf (P.zip vs) m x=some v
 |[],_,_,_,_,h,_,_=>by simp at h
 |_::_,[],_,_,_,_,h,_=>by simp at h
 |p::P,w::vs,0,m,nd,h1,h2,hk=>by
  simp at h1 h2;subst h1;subst h2;show bindL kindOf ((p,w)::P.zip vs) m p=_;unfold bindL;rw[lz λv a=>(nodup_cons.mp nd).1 (of_mem_zip a).1,if_pos hk];simp
 |p::P,w::vs,i+1,m,nd,h1,h2,hk=>by
  show bindL kindOf ((p,w)::P.zip vs) m x=_;unfold bindL;exact lB (i:=i) (nodup_cons.mp nd).2 (by simpa using h1) (by simpa using h2) hk
theorem lC{kindOf:Str→Option NameKind}{x:Str}{v:Value}:∀{P:List Str}{vs:List Value}{i:Nat}{m:Str→Option Value},P.Nodup→P[i]?=some x→vs[i]?=some v→kindOf x≠some .local →
  bindC kindOf (P.zip vs) m x=some v
 |[],_,_,_,_,h,_,_=>by simp at h
 |_::_,[],_,_,_,_,h,_=>by simp at h
 |p::P,w::vs,0,m,nd,h1,h2,hk=>by
  simp at h1 h2;subst h1;subst h2;show bindC kindOf ((p,w)::P.zip vs) m p=_;unfold bindC;rw[lA λv a=>(nodup_cons.mp nd).1 (of_mem_zip a).1,if_neg hk];simp
 |p::P,w::vs,i+1,m,nd,h1,h2,hk=>by
  show bindC kindOf ((p,w)::P.zip vs) m x=_;unfold bindC;exact lC (i:=i) (nodup_cons.mp nd).2 (by simpa using h1) (by simpa using h2) hk
def start(N:List Str)(vs:List V):St:=vs.map some++List.replicate (N.length-vs.length) none
def gF(CX:CXT)(P:Program)(w:World)(K:PySem.W.Frag)(mg:Str→Option Value)(base:Heap)(N:List Str)(b:Str)(c:Scope)(f:Addr)(a:Value)(A:Around)(outer:List Env)(s:Shared)(d:Hp)(E:XK):Cx where
 prog:=P
 w:=w
 K:=K
 mg:=mg
 base:=base
 A:=A.deeper (envOfC b c s.heap.objs.size f a)
 N:=N
 s₀:=s
 H₀:=d
 env:=envOfC b c s.heap.objs.size f a
 outer:=outer
 stack:=envOfC b c s.heap.objs.size f a::outer
 ex:=[]
 calm:=true
 fn:=λ_=>true
 pn:=[]
 xe:=λe s'=>wpAny (model P w) (A.deeper (envOfC b c s.heap.objs.size f a)) (leaving (envOfC b c s.heap.objs.size f a) e) (λ_ g=>CX outer d s E e g) (λh g=>CX outer d s E h g) s'
theorem ow{a:Scope}{n:Nat}{x:Str}(b:a.names.lookup x=some .cell):∃c,(cellsFrom n a.names []).lookup x=some c:=by
 have q:=PySem.W.cellsFrom_some a.names n [] (.inl b);exact Option.isSome_iff_exists.mp q
theorem sQ{CX:CXT}{P:Program}{w:World}{K:PySem.W.Frag}{mg:Str→Option Value}{base:Heap}{N l:List Str}{B:Str}{g:Scope}{f:Addr}{t:Value}{A:Around}{outer:List Env}{s s1:Shared}{o:Hp}{E:XK}{us:List Value}{vs:List V}(S:FnScope N l g)(hd:A.handled=none)(d:Env0 P w K mg base A outer s o)(J:vs.length=l.length)(r:aF vs us)(x:InCallC s s.heap.objs.size (bindL (envOfC B g s.heap.objs.size f t).kindOf (l.zip us) λ_=>none) (cellsFrom (s.heap.objs.size+1) g.names []) (bindC (envOfC B g s.heap.objs.size f t).kindOf (l.zip us) λ_=>none) s1):
  Inv (gF CX P w K mg base N B g f t A outer s o E) [] (start N vs) o s1:=by
 have L:l.length≤N.length:=by have:=congrArg length S.pre;rw[length_take]at this;omega
 obtain⟨h1,tk,rfl,D⟩:=x.done;have C:∀b:Addr,b∉(gF CX P w K mg base N B g f t A outer s o E).ex:=λb z=>absurd (show b∈([]:List Addr)from z) (by simp);refine⟨⟨d.mod,S.kind,rfl,rfl,le_refl _,λy z c h1 h2=>?_,λy j=>?_,λy c _ h=>?_,λ_=>hd,Around.frames_deeper d.frames,.inr ⟨rfl,rfl⟩,λb z=>absurd z (C b),d.bs,d.bsz,λb _ _=>C b,λb z=>absurd z (C b),d.funs,d.frf⟩,
  rfl,d.bare,Un.kept D,⟨_,x.toInCall.ns,λi y v h1 h2 h3=>?_⟩,λy c h=>⟨_,x.cell y c h⟩,d.hok.fresh (le_refl _),λy c h=>?_,λp m=>absurd (show p∈([]:List (Addr×Obj))from m) (by simp),d.hok.kept D,?_⟩
 ·exact name_of_addr x.apart (PySem.mem_of_lookup h1) (PySem.mem_of_lookup h2)
 ·have j:g.names.lookup y=some .cell∨g.names.lookup y=some .free:=j;rcases j with j|j
  ·exact ow j
  ·exact absurd rfl (S.nofree _ (PySem.mem_of_lookup j))
 ·exact le_of_lt (x.above y c (PySem.mem_of_lookup h))
 ·have hi:i<vs.length:=by
   unfold start at h2
   by_cases hi:i<vs.length
   ·exact hi
   ·rw[getElem?_append_right (by simpa using hi)]at h2;rw[List.getElem?_replicate]at h2
    split at h2<;>cases h2
  have H:vs[i]?=some v:=by
   unfold start at h2;rw[getElem?_append_left (by simpa using hi),getElem?_map]at h2;cases e:vs[i]? with
   |none=>rw[e]at h2;cases h2
   |some a=>rw[e]at h2;cases h2;rfl
  obtain⟨u,F,I⟩:=r.get H;have m:l[i]?=some y:=by
   rw[←S.pre,List.getElem?_take_of_lt (by omega)];exact h1
  have G:l.Nodup:=by rw[←S.pre];exact S.nd.sublist (take_sublist _ _)
  refine⟨u,I,?_⟩;rcases S.par y (mem_of_getElem? m)with k|k
  ·exact .inl ⟨k,lB G m F k⟩
  ·obtain⟨c,e⟩:=ow (n:=s.heap.objs.size+1) k;refine .inr ⟨.inl k,c,e,?_⟩;have q:=x.cell y c e;rw[lC G m F (by show g.names.lookup y≠_;rw[k];decide)]at q;exact q
 ·exact d.hok.fresh (le_of_lt (x.above y c (PySem.mem_of_lookup h)))
 ·unfold start;show _=N.length;rw[length_append,length_map,List.length_replicate];omega
theorem yv{CX:CXT}{P:Program}{w:World}{K:PySem.W.Frag}{mg:Str→Option Value}{base:Heap}{k:Nat}{f:Addr}{name d:Str}{L:Arguments}{l:List Stmt}{a:Scope}{C kV D M cdv ct a5:Value}{B a6:Option Addr}{a7:Array (Option Value)}{N i:List Str}{sp:Sp}(a4:K.lookup f=some ⟨a5,a6,.func (fnOf name d L l a C kV D M B cdv ct),a7⟩)(U:codeIn K cdv d=true)(S:FnScope N i a)(J:∀vs H Q E,sp vs H Q E→vs.length=i.length)(T:∀(A:Around) (outer:List Env) (s:Shared) (H:Hp) (vs:List V) (Q:VK) (E:XK),Room k (A.deeper (envOfC d a s.heap.objs.size f cdv))→sp vs H Q E →
   ∃t,PSs (gF CX P w K mg base N d a f cdv A outer s H E) l t∧t {nx:=λ_ H'=>Q .non H',rt:=Q} (start N vs) H):
  FnOk P w K mg base CX (k+1) f (fnOf name d L l a C kV D M B cdv ct) i sp:=by
 refine⟨J,λA outer s H a9 a8 vs Q E m h R r G=>?_⟩;have Z:=J _ _ _ _ G;have z:K.In s.heap:=h.mod.kin.keeps λb o e=>(h.bs b o e).1;have a3:s.heap.NoLimit:=h.mod.nolimit.keeps λb o e=>(h.bs b o e).1;have Y:∀y∈i.zip a8,a.names.lookup y.1=some .local∨(a.names.lookup y.1=some .cell∧((cellsFrom (s.heap.objs.size+1) a.names []).lookup y.1).isSome=true):=λ⟨n,v⟩ a2=>by
  rcases S.par n (of_mem_zip a2).1 with q|q
  ·exact .inl q
  ·exact .inr ⟨q,PySem.W.cellsFrom_some _ _ _ (.inl q)⟩
 refine codeAny_call_function m.depth (z _ _ a4) rfl S.co S.gen rfl (PySem.W.codeRec_of z U) (R _ _ _ _ ?_);refine wpAny_newFunctionEnv_cells S.kind Y λb0 X s1 x=>?_;subst X;refine⟨a3.keeps x.toInCall.keep,codeAny_func ?_⟩;obtain⟨t,a1,a0⟩:=T A outer s H vs Q E (m.deeper _) G;have I:Inv (gF CX P w K mg base N d a f cdv A outer s H E) [] (start N vs) H s1:=sQ S m.hd h Z r x;refine wpAny_mono (a1 [] s1 (start N vs) H _ I a0) (λO s' g=>?_) λe s' g=>g;have F:∀{j:St}{H':Hp}{v:V}{u:Value},Inv (gF CX P w K mg base N d a f cdv A outer s H E) [] j H' s'→aL v u→Q v H'→CE outer P w H s Q u s' :=
  λ{j H' v u} c p q=>⟨v,H',c.os,c.bare,c.base,c.hok,p,q⟩
 cases O with
 |ret u =>
  obtain⟨v,j,H',c,p,q⟩:=g;exact F c p q
 |next =>
  obtain⟨j,H',c,q⟩:=g;exact F (v:=V.non) (u:=Value.none) c rfl q
 |brk =>
  obtain⟨_,_,_,q⟩:=g;exact False.elim q
 |cont =>
  obtain⟨_,_,_,q⟩:=g;exact False.elim q
section
variable{X:Cx}{x:Str}{p pos:Pos}{e:Expr}{es:List Expr}{t:TA}{id T:String}{r:List V→Hp→VK→Prop}
def tCB(r:List V→Hp→VK→Prop)(t:TA):TE:=λσ H Q=>t σ H λvs H1=>r vs H1 Q
theorem ar(c:cx X (.builtin id) r)(g:Gl X x)(i:X.mg x=none)(l:bootBuiltins x=some (.builtin id))(b:PA X (e::es) t)(j:x≠"__name__":=by decide)(d:(x==("__debug__":Str))=false:=by decide)(f:starEach (e::es) X.env=(false,eval e X.env)::starEach es X.env:=by rfl)(k:(backTo pos (starEach es X.env)).any (·.1)=false:=by rfl):PE X (.Call (.Name x p) (e::es) [] pos) (tCB r t):=by
 intro pins s σ H Q I h;refine wpAny_Call_Name_kw (jz I g i l ?_ j d);exact PyProof.Rows.callWith_builtin1 (thn (b pos pins s σ H _ I h) λq o ⟨vs,H1,a,n,m⟩=>c pins o σ H1 vs q Q a n m) f k
theorem aR(c:cx X (.type T) r)(g:Gl X x)(i:X.mg x=none)(l:bootBuiltins x=some (.type T))(b:PA X (e::es) t)(j:x≠"__name__":=by decide)(d:(x==("__debug__":Str))=false:=by decide)(f:starEach (e::es) X.env=(false,eval e X.env)::starEach es X.env:=by rfl)(k:(backTo pos (starEach es X.env)).any (·.1)=false:=by rfl):PE X (.Call (.Name x p) (e::es) [] pos) (tCB r t):=by
 intro pins s σ H Q I h;refine wpAny_Call_Name_kw (jz I g i l ?_ j d);exact PyProof.Rows.callWith_type1 (thn (b pos pins s σ H _ I h) λq o ⟨vs,H1,a,n,m⟩=>c pins o σ H1 vs q Q a n m) f k
end
end L2
namespace HT
open PySem PyProof.Rows
section
open PySem.SeqAt
open PySem.AutoSeq1 (wpAny_loadPart')
open PySem.MeetsSeq PySem.MeetsSeq2 PySem.MeetsSeq3
end
section
variable{prog:Program}{w:World}{A:Around}{E:Value→Shared→Prop}{s:Shared}
theorem wQ{t b:Addr}{vs a:List Value}{Q:Value→Shared→Prop}(v:IsTup s.heap t vs.toArray)(u:IsTup s.heap b a.toArray)(l:vs≠[])(q:a=[]→Q (.ref t) s)(r:a≠[]→Q (.ref s.heap.objs.size) {s with heap:=s.heap.push {cls:=.type "tuple",data:=.seq (vs++a).toArray}})(hsz:vs.length+a.length≤sizeLine):wpAny (model prog w) A (binaryOp .Add (.ref t) (.ref b)) Q E s:=by
 obtain⟨⟨cls,dd,data,o⟩,c,h,n,j⟩:=id v;obtain⟨⟨x,g,data2,p⟩,d,i,m,k⟩:=id u;simp only at h j i k;subst h j i k;have e:vs.toArray++a.toArray=(vs++a).toArray:=by simp
 by_cases f:a=[]
 ·exact concat_meets ⟨_,c,rfl⟩ ⟨_,d,rfl⟩ noFill_tuple_add seq_tuple_add slot_tuple_add entry_tuple_add (args_tuple_add_2 _ _)
   (tuple_addW1 t b vs.toArray a.toArray n m dd g o p (by simpa using l) (by simp[f])) ⟨c,d,q f⟩
 ·refine concat_meets ⟨_,c,rfl⟩ ⟨_,d,rfl⟩ noFill_tuple_add seq_tuple_add slot_tuple_add entry_tuple_add (args_tuple_add_2 _ _)
   (tuple_addW2 t b vs.toArray a.toArray n m dd g o p (by simpa using l) (by simpa using f) (by rw[size_toArray,size_toArray];exact hsz)) ⟨c,d,?_⟩
  rw[e];exact r f
def sIx(n d:Nat):Option Int→Nat
 |none=>d
 |some v=>if v<0 then (v+(n:Int)).toNat else min v.toNat n
theorem oz(n d:Nat):sIx n d none=d:=rfl
theorem mv(n d k:Nat):sIx n d (some (k:Int))=min k n:=by
 show(if (k:Int)<0 then ((k:Int)+(n:Int)).toNat else min (k:Int).toNat n)=min k n
 rw[if_neg (by omega),toNat_natCast]
theorem yV(n d:Nat)(hd:d≤n)(o:Option Int):sIx n d o≤n:=by
 cases o with
 |none=>exact hd
 |some v =>
  show(if v<0 then (v+(n:Int)).toNat else min v.toNat n)≤n
  by_cases a:v<0
  ·rw[if_pos a];omega
  ·rw[if_neg a];exact Nat.min_le_right _ _
theorem rH(v:Int)(n d:Nat):(if v<0 then max (v+(n:Int)) 0 else min v (n:Int))=((sIx n d (some v):Nat):Int):=by
 show(if v<0 then max (v+(n:Int)) 0 else min v (n:Int))=(((if v<0 then (v+(n:Int)).toNat else min v.toNat n):Nat):Int)
 by_cases a:v<0
 ·simp only[if_pos a];omega
 ·simp only[if_neg a];omega
theorem qd(lo a:Option Int)(n:Nat):Builtin.Slice.sliceAdjust lo a 1 (n:Int)=(((sIx n 0 lo:Nat):Int),((sIx n n a:Nat):Int)):=by
 have h1:¬((1:Int)<0):=by omega
 unfold Builtin.Slice.sliceAdjust;simp only[h1,if_false];refine Prod.ext ?_ ?_
 ·cases lo with
  |none=>rfl
  |some v=>exact rH v n 0
 ·cases a with
  |none=>rfl
  |some v=>exact rH v n n
theorem qe(i j:Nat):Builtin.Slice.slicePlaces (i:Int) (j:Int) 1=j-i:=by
 unfold Builtin.Slice.slicePlaces;have h1:(1:Int)>0:=by omega
 simp only[h1,if_true,Int.ediv_one]
 split<;>omega
theorem jG{v:Value}{o:Option Int}{Q:Option Int→Shared→Prop}(p:IsPart v o)(h:Q o s):wpAny (model prog w) A (Builtin.Slice.slicePartIndex v) Q E s:=by
 cases p with
 |none=>exact slicePart_none h
 |int i t=>exact slicePart_int h
theorem eB{f:Addr}{d e:Value}{lo a:Option Int}{n:Nat}{Q:Int×Int×Nat→Shared→Prop}(h:s.heap.IsSliceOf f d e .none)(pl:IsPart d lo)(i:IsPart e a)(g:Q (((sIx n 0 lo:Nat):Int),1,sIx n n a-sIx n 0 lo) s):wpAny (model prog w) A (Builtin.Slice.sliceApplied (.ref f) (pure (n:Int))) Q E s:=by
 obtain⟨os,c,j,b⟩:=id h;unfold Builtin.Slice.sliceApplied Builtin.Slice.sliceFields;refine wpAny_bind (wpAny_bind (wpAny_field c b (x:=d) rfl (wpAny_bind (wpAny_field c b (x:=e) rfl (wpAny_bind (wpAny_field c b (x:=.none) rfl (wpAny_pure ?_)))))));refine wpAny_bind (slicePart_none ?_);show wpAny _ _ (if ((1:Int)==0)=true then _ else _) _ _ s
 rw[if_neg (by decide)];refine wpAny_bind (jG pl (wpAny_bind (jG i (wpAny_bind (wpAny_pure ?_)))));show wpAny _ _ (match Builtin.Slice.sliceAdjust lo a 1 (n:Int)with|(lo,a)=>pure (lo,(1:Int),Builtin.Slice.slicePlaces lo a 1)) _ _ s
 rw[qd lo a n];show wpAny _ _ (pure (((sIx n 0 lo:Nat):Int),(1:Int),Builtin.Slice.slicePlaces ((sIx n 0 lo:Nat):Int) ((sIx n n a:Nat):Int) 1)) _ _ s;rw[qe];exact wpAny_pure g
theorem ut(xs:Array Value)(i k:Nat):((List.range k).filterMap λ(m:Nat)=>xs[((i:Int)+(m:Int)*1).toNat]?).toArray=((xs.toList.drop i).take k).toArray:=by
 have e:(λ(m:Nat)=>xs[((i:Int)+(m:Int)*1).toNat]?)=λm=>xs[i+m]?:=by
  funext m
  have:((i:Int)+(m:Int)*1).toNat=i+m:=by omega
  rw[this]
 rw[e];have:=pick_run xs i k;rw[List.filterMap_map]at this;have a:((λx=>xs[x]?)∘λx=>i+x)=λm=>xs[i+m]?:=rfl;rw[a]at this;rw[this]
theorem gS{t f:Addr}{a:Array Value}{h i:Value}{lo b:Option Int}{Q:Value→Shared→Prop}(d:IsTup s.heap t a)(g:s.heap.IsSliceOf f h i .none)(pl:IsPart h lo)(p:IsPart i b)(o:¬(sIx a.size 0 lo=0∧sIx a.size a.size b=a.size))(c:Q (.ref s.heap.objs.size) {s with heap:=s.heap.push {cls:=.type "tuple",data:=.seq ((a.toList.drop (sIx a.size 0 lo)).take (sIx a.size a.size b-sIx a.size 0 lo)).toArray}})(hsz:a.size≤sizeLine):wpAny (model prog w) A (getItem (.ref t) (.ref f)) Q E s:=by
 have e:sizeOk (.seq ((a.toList.drop (sIx a.size 0 lo)).take (sIx a.size a.size b-sIx a.size 0 lo)).toArray):=by
  show((a.toList.drop (sIx a.size 0 lo)).take (sIx a.size a.size b-sIx a.size 0 lo)).toArray.size≤sizeLine;rw[size_toArray,length_take,length_drop,length_toList];omega
 have u:sIx a.size a.size b≤a.size:=yV _ _ (le_refl _) b;obtain⟨os,n,k,r⟩:=id g;have j:s.TypeIs (.ref f) "slice":=⟨os,n,k⟩;unfold getItem
 try with_reducible refine wpAny_holding ?_
 first|refine wpAny_bind (wpAny_pure ?_)|skip
 refine wpAny_bind (wpAny_sequenceKey d.typeIs (by decide) ?_);refine wpAny_bind (wpAny_callSpecial?_slot (name:=ofString "__getitem__") d.typeIs PyProof.Rows.slot_tuple_getitem
  (wpAny_call_entry PyProof.Rows.slot_tuple_getitem d.typeIs entry_tuple_getitem ?_ (args_tuple_getitem _ _)))
 show wpAny _ _ (Builtin.Tuple.tupleItemsOf (.ref t) >>= _) _ _ s;refine wpAny_bind (tupleItemsOf_ d ?_);refine wpAny_bind (wpAny_typeOf j ?_);rw[if_pos (by decide)];refine wpAny_bind (eB g pl p ?_);have l:¬((((sIx a.size 0 lo:Nat):Int)==0&&(1:Int)==1&&(sIx a.size a.size b-sIx a.size 0 lo)==a.size)=true):=by
  intro q;rw[and_eq_true,and_eq_true]at q;have v:((sIx a.size 0 lo:Nat):Int)=0:=eq_of_beq q.1.1;have x:sIx a.size a.size b-sIx a.size 0 lo=a.size:=eq_of_beq q.2;exact o ⟨by omega,by omega⟩
 show wpAny _ _ (if (((sIx a.size 0 lo:Nat):Int)==0&&(1:Int)==1&&(sIx a.size a.size b-sIx a.size 0 lo)==a.size)=true then _ else _) _ _ s
 rw[if_neg l,ut]
 first
  |exact wpAny_bind (m:=Builtin.Tuple.tupleExact _) (wpAny_newObj_type (wpAny_pure ⟨_,rfl,wpAny_pure c⟩) e)
  |exact wpAny_bind (m:=Builtin.Tuple.tupleExact _) (wpAny_newObj_type (wpAny_bind (wpAny_pure (wpAny_pure ⟨_,rfl,wpAny_pure c⟩))) e)
  |exact wpAny_bind (wpAny_bind (m:=Builtin.Tuple.tupleExact _) (wpAny_newObj_type (wpAny_pure (wpAny_pure ⟨_,rfl,wpAny_pure c⟩)) e))
  |exact wpAny_bind (wpAny_bind (m:=Builtin.Tuple.tupleExact _) (wpAny_newObj_type (wpAny_pure ⟨_,rfl,wpAny_pure c⟩) e))
end
end HT
namespace L2
open PySem PySem.Spec PyProof.Rows
abbrev TO:=St→Hp→(Option Int→Hp→Prop)→Prop
def PO(X:Cx)(e:Option Expr)(t:TO):Prop :=
 ∀(pins:List (Addr×Obj))(s:Shared)(σ:St)(H:Hp)(Q:Option Int→Hp→Prop),Inv X pins σ H s→t σ H Q →
  wpAny (model X.prog X.w) X.A (evalPart e X.env) (λu s'=>∃o H',Inv X pins σ H' s'∧IsPart u o∧Q o H') X.xe s
def wR:TO:=λ_ H Q=>Q none H
def AO(t:TE):TO:=λσ H Q=>t σ H λx H1=>∃i,x=.int i∧Q (some i) H1
theorem qf{ns:List Int}:∀{us:List Value},aF (ns.map V.int) us→IntsAre us ns:=by
 induction ns with
 |nil=>intro us r;rw[map_nil]at r;cases r;exact .nil
 |cons n ns a =>
  intro us r;rw[map_cons]at r;cases r with
  |cons b c =>
   obtain⟨t,e⟩:=b;subst e;exact .cons n t (a c)
section
variable{X:Cx}{e:Expr}{te:TE}{lo hi:Option Expr}{tl th:TO}{pos p2:Pos}
theorem fX:PO X none wR:=by
 intro pins s σ H Q I h;rw[evalPart_none];exact wpAny_pure ⟨none,H,I,.none,h⟩
theorem cz(b:PE X e te):PO X (some e) (AO te):=by
 intro pins s σ H Q I d;rw[evalPart_some];refine thn (b pins s σ H _ I d) λu h c=>?_;obtain⟨x,H1,a,g,f⟩:=c;obtain⟨i,rfl,q⟩:=f;obtain⟨t,rfl⟩:=g;exact⟨some i,H1,a,.int i t,q⟩
def SlR(X:Cx)(r:V→Option Int→Option Int→Hp→VK→Prop):Prop :=
 ∀(pins:List (Addr×Obj))(s:Shared)(σ:St)(H:Hp)(x:V)(v b c:Value)(lo hi:Option Int)(a:Addr)(Q:VK),Inv X pins σ H s→aL x v→s.heap.IsSliceOf a b c .none→IsPart b lo→IsPart c hi→r x lo hi H Q →
  ∃T id,typeLookup (.type T) "__getitem__"=pure (some (.builtin id))∧s.TypeIs v T∧wpAny (model X.prog X.w) X.A (getItem v (.ref a)) (EP X pins σ Q) X.xe s
theorem SlR.or{r d:V→Option Int→Option Int→Hp→VK→Prop}(i:SlR X r)(h':SlR X d):SlR X (λx lo hi H Q=>r x lo hi H Q∨d x lo hi H Q):=by
 intro pins s σ H x v g h lo hi f Q I e a b c q;rcases q with q|q
 ·exact i pins s σ H x v g h lo hi f Q I e a b c q
 ·exact h' pins s σ H x v g h lo hi f Q I e a b c q
def tSl(r:V→Option Int→Option Int→Hp→VK→Prop)(b:TE)(d c:TO):TE:=λσ H Q=>b σ H λx H1=>d σ H1 λl H2=>c σ H2 λu a=>r x l u a Q
theorem cF{r:V→Option Int→Option Int→Hp→VK→Prop}(y:SlR X r)(o:PE X e te)(t:PO X lo tl)(B:PO X hi th):PE X (.Subscript e (.Slice lo hi none p2) pos) (tSl r te tl th):=by
 intro pins s σ H Q I h;refine Subscript_ (thn (o pins s σ H _ I h) λv K f=>?_);obtain⟨x,H1,i,J,E⟩:=f;refine wpAny_Slice (thn (t pins K σ H1 _ i E) λc L ⟨l,H2,j,C,F⟩=>thn (B pins L σ H2 _ j F) λd a f=>?_);obtain⟨u,g,k,D,G⟩:=f;rw[evalPart_none];refine wpAny_pure ?_;have m:Inv X pins σ g {a with heap:=a.heap.push {cls:=.type "slice",data:=.fields #[c,d,.none]}}:=k.kept (t':=a.toks) λb M q=>get?_push_of_some _ q
 obtain⟨T,id,n,z,p⟩:=y pins {a with heap:=a.heap.push {cls:=.type "slice",data:=.fields #[c,d,.none]}} σ g x v c d l u a.heap.objs.size Q m J (Heap.IsSliceOf.new ..) C D G
 show wpAny (model X.prog X.w) X.A (subscriptTail e (.Slice lo hi none p2) v (.ref a.heap.objs.size)) (EP X pins σ Q) X.xe {a with heap:=a.heap.push {cls:=.type "slice",data:=.fields #[c,d,.none]}}
 exact tail_any (ops:=[.ref a.heap.objs.size,v]) z n p (by with_unfolding_all rfl)
def dQ(xs:List V)(lo a:Option Int):List V:=(xs.drop (HT.sIx xs.length 0 lo)).take (HT.sIx xs.length xs.length a-HT.sIx xs.length 0 lo)
theorem iT(xs:List V)(lo a:Option Int):(dQ xs lo a).length≤xs.length:=by
 unfold dQ;rw[length_take,length_drop];omega
def uu(K:PySem.W.Frag):V→Option Int→Option Int→Hp→VK→Prop:=λx lo hi H Q=>∃a xs,x=.ref a∧SqT K H a xs ∧
 ¬(HT.sIx xs.length 0 lo=0∧HT.sIx xs.length xs.length hi=xs.length)∧∀p,H p=none→Q (.ref p) (upd H p (.tup (dQ xs lo hi)))
theorem ff:SlR X (uu X.K):=by
 intro pins s σ H x v t u lo hi p Q I m f k l h;obtain⟨a,xs,rfl,i,g,q⟩:=h;cases m;obtain⟨j,r,d,e⟩:=I.tuple i;have c:j.toArray.size=xs.length:=by rw[size_toArray];exact r.length.symm
 refine⟨"tuple",_,PyProof.Rows.slot_tuple_getitem.lookup,d.typeIs,?_⟩;refine HT.gS d f k l (by rw[c];exact g) ?_ (by rw[c];exact e);rw[c];refine⟨.ref s.heap.objs.size,_,I.laid (t':=s.toks) (o:=.tup (dQ xs lo hi)) (λb n q=>get?_push_of_some _ q) (le_refl _) ?_,rfl,q _ (I.hok.fresh (le_refl _))⟩;exact⟨le_trans (iT xs lo hi) e,_,(r.drop (HT.sIx xs.length 0 lo)).take (HT.sIx xs.length xs.length hi-HT.sIx xs.length 0 lo),IsTup.new _ _⟩
def uv(K:PySem.W.Frag):R2:=λx y H Q=>∃a b xs ys,x=.ref a∧y=.ref b∧SqT K H a xs∧SqT K H b ys∧xs≠[]∧xs.length+ys.length≤sizeLine ∧
 (ys=[]→Q (.ref a) H)∧(ys≠[]→∀p,H p=none→Q (.ref p) (upd H p (.tup (xs++ys))))
theorem aF.nil_iff{xs:List V}{us:List Value}(r:aF xs us):us=[]↔xs=[]:=by
 cases r with
 |nil=>simp
 |cons _ _=>simp
theorem gT:OpR X (binaryOp .Add) (uv X.K):=by
 intro pins s σ H x y v u Q I m n h;obtain⟨a,b,xs,ys,rfl,rfl,f,g,i,e,k,l⟩:=h;cases m;cases n;obtain⟨p,d,j,_⟩:=I.tuple f;obtain⟨r,c,p2,_⟩:=I.tuple g;refine HT.wQ j p2 (λz=>i (d.nil_iff.mp z)) (λz=>⟨.ref a,H,I,rfl,k (c.nil_iff.mp z)⟩) (λz=>?_) (by rw[←d.length,←c.length];exact e);refine⟨.ref s.heap.objs.size,_,I.laid (t':=s.toks) (o:=.tup (xs++ys)) (λb t q=>get?_push_of_some _ q) (le_refl _) ?_,rfl,l (λw=>z (c.nil_iff.mpr w)) _ (I.hok.fresh (le_refl _))⟩;exact⟨by rw[length_append];exact e,_,d.append c,IsTup.new _ _⟩
end
def ixN(n:Nat)(i:Int):Option Nat:=if 0≤i then (if i<n then some i.toNat else none)else if -(n:Int)≤i then some (i+n).toNat else none
def atI{α:Type}(xs:List α)(i:Int):Option α:=(ixN xs.length i).bind λj=>xs[j]?
theorem mw{n:Nat}{i:Int}{j:Nat}(a:ixN n i=some j):seqIndex? i n=some j∧j<n∧-(n:Int)≤i∧i<n:=by
 unfold ixN at a
 by_cases b:0≤i
 ·rw[if_pos b]at a
  by_cases h1:i<n
  ·rw[if_pos h1]at a;have e:i.toNat=j:=Option.some.inj a;exact⟨by rw[seqIndex_of b h1,e],by omega,by omega,h1⟩
  ·rw[if_neg h1]at a;cases a
 ·rw[if_neg b]at a
  by_cases h1:-(n:Int)≤i
  ·rw[if_pos h1]at a;have e:(i+n).toNat=j:=Option.some.inj a;exact⟨by rw[seqIndex_neg (by omega) h1,e],by omega,h1,by omega⟩
  ·rw[if_neg h1]at a;cases a
theorem rJ{b:Type}{xs:List b}{i:Int}{v:b}(a:atI xs i=some v):∃j,seqIndex? i xs.length=some j∧xs[j]?=some v∧j<xs.length∧-(xs.length:Int)≤i∧i<xs.length:=by
 unfold atI at a;cases e:ixN xs.length i with
 |none=>rw[e]at a;cases a
 |some j =>
  rw[e]at a;obtain⟨h1,h2,h3,c⟩:=mw e;exact⟨j,h1,a,h2,h3,c⟩
theorem eO{b:Type}{xs:List b}{j:Nat}{v:b}(a:xs[j]?=some v):atI xs (j:Int)=some v:=by
 have c:j<xs.length:=(List.getElem?_eq_some_iff.mp a).1;have e:ixN xs.length (j:Int)=some j:=by
  unfold ixN;rw[if_pos (by omega),if_pos (by omega)];simp
 unfold atI;rw[e];exact a
def wS(b:Expr):Prop:=∀o i,subscripted b false o i=operate [o,i] (getItem o i)
def IxR(X:Cx)(r:R2):Prop :=
 ∀(value a:Expr)(pins:List (Addr×Obj))(s:Shared)(σ:St)(H:Hp)(x y:V)(v u:Value)(Q:VK),Inv X pins σ H s→aL x v→aL y u→r x y H Q →
  subscripted a false v u=operate [v,u] (getItem v u)→wpAny (model X.prog X.w) X.A (subscriptTail value a v u) (EP X pins σ Q) X.xe s
def MtR(X:Cx)(id:String)(r:V→List V→Hp→VK→Prop):Prop :=
 ∀(pins:List (Addr×Obj))(s:Shared)(σ:St)(H:Hp)(x:V)(xs:List V)(v:Value)(a:List Value)(Q:VK),Inv X pins σ H s→aL x v→aF xs a→r x xs H Q →
  wpAny (model X.prog X.w) X.A (call (.builtin id) (v::a)) (EP X pins σ Q) X.xe s
section
variable{X:Cx}{a b:Expr}{ta tb:TE}{pos:Pos}
theorem ax{r:R2}(f:IxR X r)(d:PE X a ta)(e:PE X b tb)(g:wS b):PE X (.Subscript a b pos) (tOp r ta tb):=by
 intro pins s σ H Q I h;exact Subscript_ (yR d e I h λv u k x y H2 c i j q=>f a b pins k σ H2 x y v u Q c i j q (g _ _))
def BC(K:PySem.W.Frag):R2:=λx y H Q=>∃p xs i v,x=.ref p∧y=.int i∧SqL K H p xs∧atI xs i=some v∧Q v H
def dR(K:PySem.W.Frag):R2:=λx y H Q=>∃p xs i v,x=.ref p∧y=.int i∧SqT K H p xs∧atI xs i=some v∧Q v H
theorem bX:IxR X (BC X.K):=by
 intro value F pins s σ H x y v u Q I B C h f;obtain⟨p,xs,i,z,rfl,rfl,n,l,q⟩:=h;cases B;obtain⟨t,rfl⟩:=C;obtain⟨o,r,b,E⟩:=I.list n;obtain⟨j,h1,h2,h3,g,k⟩:=rJ l;obtain⟨w,c,A⟩:=r.get h2;have m:=r.length;have D:=ix;have d:EP X pins σ Q w s:=⟨z,H,I,A,q⟩
 by_cases e:0≤i
 ·have a:i.toNat=j:=by
   rw[seqIndex_of e k]at h1;exact Option.some.inj h1
  exact item_listR b.isList e (by omega) (by rw[a];simpa using c) d f
 ·have a:(i+(o.toArray.size:Int)).toNat=j:=by
   rw[seqIndex_neg (by omega) g]at h1;rw[size_toArray,←m];exact Option.some.inj h1
  exact subscriptTail_builtinR (x:=w) b.isList.typeIs slot_list_getitem.lookup
   (wpAny_getItem_list_neg (Q:=λr s'=>r=w∧EP X pins σ Q r s') b.isList (by omega) (by rw[size_toArray]<;>omega) (by omega) (by rw[a];simpa using c) ⟨rfl,d⟩) f
theorem av:IxR X (dR X.K):=by
 intro value D pins s σ H x y v u Q I l m h g;obtain⟨p,xs,i,z,rfl,rfl,f,d,q⟩:=h;cases l;obtain⟨t,rfl⟩:=m;obtain⟨C,r,a,B⟩:=I.tuple f;obtain⟨j,h1,h2,h3,n,o⟩:=rJ d;obtain⟨w,b,k⟩:=r.get h2;have e:=r.length;have A:=ix;have c:EP X pins σ Q w s:=⟨z,H,I,k,q⟩;exact subscriptTail_builtinR (x:=w) a.typeIs slot_tuple_getitem.lookup
  (getItem_tuple (j:=j) (Q:=λr s'=>r=w∧EP X pins σ Q r s') a (by omega) (by omega) (by rw[size_toArray,←e];exact h1) (by simpa using b) ⟨rfl,c⟩) g
theorem qg(a:List Value)(n j:Nat)(u:Value):Obj.mapSeq (·.setIfInBounds j u) {cls:=.type "list",data:=.seq a.toArray n}={cls:=.type "list",data:=.seq (a.set j u).toArray n}:=by
 simp[Obj.mapSeq]
theorem Inv.lst{f:List (Addr×Obj)}{g:St}{b:Hp}{s:Shared}{p:Addr}{xs:List V}(c:Inv X f g b s)(d:b p=some (.lst xs)):
  ∃(a:List Value) (n:Nat),aF xs a∧s.heap.get? p=some {cls:=.type "list",data:=.seq a.toArray n}∧xs.length≤sizeLine:=by
 obtain⟨z,a,n,r,e⟩:=c.hok p _ d;exact⟨a,n,r,e,z⟩
theorem Inv.lstUpd{h:List (Addr×Obj)}{i:St}{a:Hp}{s:Shared}{p:Addr}{xs ys:List V}{g its':List Value}{n c:Nat}{f:Obj→Obj}(j:Inv X h i a s)(k:a p=some (.lst xs))(m:s.heap.get? p=some {cls:=.type "list",data:=.seq g.toArray n})(d:f {cls:=.type "list",data:=.seq g.toArray n}={cls:=.type "list",data:=.seq its'.toArray c})(r:aF ys its')(o:ys.length≤sizeLine)(t:Nat):
  Inv X h i (upd a p (.lst ys)) {s with heap:=s.heap.update p f,toks:=t}:=by
 have e:(s.heap.update p f).get? p=some {cls:=.type "list",data:=.seq its'.toArray c}:=by
  rw[get?_update_self f m (by rw[d]<;>rfl),d]
 refine j.write (x:=p) (e:=p) (by rw[k];trivial) (.inl rfl) (λb u l q=>(Heap.get?_update_other _ _ (Ne.symm l)).trans q) ⟨_,e⟩ ?_;exact⟨o,its',c,r,e⟩
def AQ:V→V→V→Hp→(Hp→Prop)→Prop:=λo i v H Q=>∃p xs k j,o=.ref p∧i=.int k∧H p=some (.lst xs)∧ixN xs.length k=some j∧Q (upd H p (.lst (xs.set j v)))
theorem gU:AB X AQ:=by
 intro pins s σ H o i v C B u Q I y x z h;obtain⟨p,xs,k,j,rfl,rfl,g,m,q⟩:=h;cases y;obtain⟨t,rfl⟩:=x;obtain⟨l,n,r,c,w⟩:=I.lst g;obtain⟨h1,h2,h3,f⟩:=mw m;have b:=r.length;have A:=ix;have d:Inv X pins σ (upd H p (.lst (xs.set j v))) {s with heap:=s.heap.update p (Obj.mapSeq (·.setIfInBounds j u))} :=
  I.lstUpd g c (qg l n j u) (r.set z j) (by rw[length_set];exact w) s.toks
 by_cases e:0≤k
 ·have a:k.toNat=j:=by
   rw[seqIndex_of e f]at h1;exact Option.some.inj h1
  exact PySem.W.ki_setAt c e (by omega) (by rw[size_toArray,←b];exact f) (by rw[a];exact⟨_,d,q⟩)
 ·have a:(k+(l.toArray.size:Int)).toNat=j:=by
   rw[seqIndex_neg (by omega) h3]at h1;rw[size_toArray,←b];exact Option.some.inj h1
  exact PySem.W.ki_setBack c (by omega) (by rw[size_toArray,←b];exact h3) (by omega) (by rw[a];exact⟨_,d,q⟩)
theorem my(lo a:Option Int)(n:Nat):(sliceBounds lo a none n).1=((HT.sIx n 0 lo:Nat):Int)∧(sliceBounds lo a none n).2.1=((HT.sIx n n a:Nat):Int)∧(sliceBounds lo a none n).2.2=1:=by
 refine⟨?_,?_,rfl⟩
 ·cases lo with
  |none=>simp[sliceBounds,HT.sIx]
  |some i =>
   simp only[sliceBounds,HT.sIx,getD_none,show(1:Int)>0 by decide,if_true]
   by_cases h:i<0
   ·simp only[h,if_true]<;>omega
   ·simp only[h,if_false]<;>omega
 ·cases a with
  |none=>simp[sliceBounds,HT.sIx]
  |some i =>
   simp only[sliceBounds,HT.sIx,getD_none,show(1:Int)>0 by decide,if_true]
   by_cases h:i<0
   ·simp only[h,if_true]<;>omega
   ·simp only[h,if_false]<;>omega
theorem kZ(a:List Value)(lo b:Option Int):slicePick a.toArray lo b none=((a.drop (HT.sIx a.length 0 lo)).take (HT.sIx a.length a.length b-HT.sIx a.length 0 lo)).toArray:=by
 obtain⟨h1,h2,h3⟩:=my lo b a.toArray.size;unfold slicePick;rw[h1,h2,h3];simp only[sliceRange_one,pick_run,size_toArray]<;>rfl
def BD(K:PySem.W.Frag):V→Option Int→Option Int→Hp→VK→Prop:=λx lo hi H Q=>∃a xs,x=.ref a∧SqL K H a xs∧∀p,H p=none→Q (.ref p) (upd H p (.lst (dQ xs lo hi)))
theorem wT:SlR X (BD X.K):=by
 intro pins s σ H x v p t lo hi n Q I k e i j h;obtain⟨a,xs,rfl,f,q⟩:=h;cases k;obtain⟨l,r,c,g⟩:=I.list f;have d:=r.length;refine⟨"list",_,slot_list_getitem.lookup,c.isList.typeIs,?_⟩;refine wpAny_getItem_list_slice c.isList e i j .none (by simp) ?_ (by rw[size_toArray]<;>omega);rw[kZ,←d];refine⟨.ref s.heap.objs.size,_,I.laid (t':=s.toks) (o:=.lst (dQ xs lo hi)) (λb m q=>get?_push_of_some _ q) (le_refl _) ?_,rfl,q _ (I.hok.fresh (le_refl _))⟩;exact⟨le_trans (iT xs lo hi) g,_,0,(r.drop (HT.sIx xs.length 0 lo)).take (HT.sIx xs.length xs.length hi-HT.sIx xs.length 0 lo),get?_push_size _ rfl⟩
def dz:V→Bool
 |.non=>true
 |.bl _=>true
 |.int _=>true
 |.str _=>true
 |_=>false
def eqV:V→V→Bool
 |.non,.non=>true
 |.bl a,.bl b=>a==b
 |.bl a,.int b=>(if a then 1 else 0)==b
 |.int a,.bl b=>a==(if b then 1 else 0)
 |.int a,.int b=>a==b
 |.str a,.str b=>a==b
 |_,_=>false
theorem mG{A:Around}{s:Shared}{y x:V}{u v:Value}(e:aL y u)(c:aL x v)(f:dz y=true)(d:dz x=true):EqAt A s u v (eqV y x):=by
 cases y with
 |non =>
  cases e;cases x with
  |non=>cases c;exact EqAt.same _
  |bl b=>cases c;exact EqAt.none_bool b
  |int b=>obtain⟨t,rfl⟩:=c;exact EqAt.none_int b t
  |str b=>obtain⟨t,rfl⟩:=c;exact EqAt.none_str b t
  |_=>exact absurd (show false=true from d) Bool.false_ne_true
 |bl a =>
  cases e;cases x with
  |non=>cases c;exact EqAt.bool_none a
  |bl b=>cases c;exact EqAt.bool_bool a b
  |int b=>obtain⟨t,rfl⟩:=c;exact EqAt.bool_int a b t
  |str b=>obtain⟨t,rfl⟩:=c;exact EqAt.bool_str a b t
  |_=>exact absurd (show false=true from d) Bool.false_ne_true
 |int a =>
  obtain⟨t',rfl⟩:=e;cases x with
  |non=>cases c;exact EqAt.int_none a t'
  |bl b=>cases c;exact EqAt.int_bool a t' b
  |int b=>obtain⟨t,rfl⟩:=c;exact EqAt.int_int a t' b t
  |str b=>obtain⟨t,rfl⟩:=c;exact EqAt.int_str a t' b t
  |_=>exact absurd (show false=true from d) Bool.false_ne_true
 |str a =>
  obtain⟨t',rfl⟩:=e;cases x with
  |non=>cases c;exact EqAt.str_none a t'
  |bl b=>cases c;exact EqAt.str_bool a t' b
  |int b=>obtain⟨t,rfl⟩:=c;exact EqAt.str_int a t' b t
  |str b=>obtain⟨t,rfl⟩:=c;exact EqAt.str_str a t' b t
  |_=>exact absurd (show false=true from d) Bool.false_ne_true
 |_=>exact absurd (show false=true from f) Bool.false_ne_true
def eqU(x:V)(u:Value):Bool:=match u with
 |.none=>eqV .non x
 |.bool b=>eqV (.bl b) x
 |.int i _=>eqV (.int i) x
 |.str z _=>eqV (.str z) x
 |_=>false
theorem uw{x y:V}{u:Value}(r:aL y u)(f:dz y=true):eqU x u=eqV y x:=by
 cases y with
 |non=>cases r;rfl
 |bl b=>cases r;rfl
 |int i=>obtain⟨t,rfl⟩:=r;rfl
 |str z=>obtain⟨t,rfl⟩:=r;rfl
 |_=>exact absurd (show false=true from f) Bool.false_ne_true
theorem mH{x:V}:∀{xs:List V}{us:List Value},aF xs us→xs.all dz=true→us.any (eqU x)=xs.any λy=>eqV y x
 |_,_,.nil,_=>rfl
 |y::xs,u::us,.cons r t,f=>by
  rw[List.all_cons,and_eq_true]at f;rw[any_cons,any_cons,uw r f.1,mH t f.2]
theorem jH{A:Around}{s:Shared}{x:V}{v:Value}(c:aL x v)(b:dz x=true):∀{xs:List V}{us:List Value},aF xs us→xs.all dz=true→∀u∈us,EqAt A s u v (eqU x u)
 |_,_,.nil,_=>λu a=>by cases a
 |y::xs,u::us,.cons r t,f=>λd a=>by
  rw[List.all_cons,and_eq_true]at f;rcases mem_cons.mp a with rfl|a
  ·rw[uw r f.1];exact mG r c f.1 b
  ·exact jH c b t f.2 d a
def inV(x:V)(xs:List V):Bool:=xs.any λy=>eqV y x
def rIn(K:PySem.W.Frag)(neg:Bool):R2:=λx y H Q=>∃p xs,y=.ref p∧(SqL K H p xs∨SqT K H p xs)∧dz x=true∧xs.all dz=true∧Q (.bl (if neg then !inV x xs else inV x xs)) H
theorem sR:OpR X (compareOp .In) (rIn X.K false):=by
 intro pins s σ H x y v u Q I f i h;obtain⟨p,xs,rfl,a,e,fs,q⟩:=h;cases i;rcases a with a|a
 ·obtain⟨b,r,d,g⟩:=I.list a;refine in_listAt (eqU x) d.isList (λw c=>jH f e r fs w (by simpa using c)) ⟨.bl _,H,I,rfl,?_⟩;rw[show b.toArray.any (eqU x)=b.any (eqU x)by simp,mH r fs];exact q
 ·obtain⟨b,r,d,g⟩:=I.tuple a;refine SeqAt.in_tupleAt (eqU x) d (λw c=>jH f e r fs w (by simpa using c)) ⟨.bl _,H,I,rfl,?_⟩;rw[show b.toArray.any (eqU x)=b.any (eqU x)by simp,mH r fs];exact q
theorem aH:cx X (.builtin "len") (λxs H Q=>∃p ys,xs=[.ref p]∧(SqL X.K H p ys∨SqT X.K H p ys)∧Q (.int ys.length) H):=by
 intro pins s σ H xs j Q I r h;obtain⟨p,ys,rfl,a,q⟩:=h;obtain⟨u,rfl,g⟩:=dy r;cases g;have i:=ix;rcases a with a|a
 ·obtain⟨f,d,c,e⟩:=I.list a;have b:=d.length;exact Calls.call_len_list c.isList (by simp only[size_toArray]<;>omega) ⟨.int ys.length,H,I.tok _,⟨s.toks+1,by rw[size_toArray,b]⟩,q⟩
 ·obtain⟨f,d,c,e⟩:=I.tuple a;have b:=d.length;exact len_tuple c (by simp only[size_toArray]<;>omega) ⟨.int ys.length,H,I.tok _,⟨s.toks+1,by rw[size_toArray,b]⟩,q⟩
theorem mQ:cx X (.builtin "len") (λxs H Q=>∃z,xs=[.str z]∧z.length≤sizeLine∧Q (.int z.length) H):=by
 intro pins s σ H xs c Q I r h;obtain⟨z,rfl,b,q⟩:=h;obtain⟨u,rfl,t,rfl⟩:=dy r;have a:=ix;exact len_str (by omega) ⟨.int z.length,H,I.tok _,⟨_,rfl⟩,q⟩
theorem bj:cx X (.type "tuple") (λxs H Q=>∃p ys,xs=[.ref p]∧((SqL X.K H p ys∧∀l,H l=none→Q (.ref l) (upd H l (.tup ys)))∨(SqT X.K H p ys∧Q (.ref p) H))):=by
 intro pins s σ H xs t Q I r h;obtain⟨p,ys,rfl,h⟩:=h;obtain⟨u,rfl,m⟩:=dy r;cases m;rcases h with⟨a,q⟩|⟨a,q⟩
 ·obtain⟨c,f,d,i⟩:=I.list a;have n:=f.length;refine call_tuple_list d.isList (λh' k=>?_) (by simp only[size_toArray]<;>omega);have g:Inv X pins σ H {s with heap:=h'}:=I.kept (t':=s.toks) k
  have j:Inv X pins σ (upd H h'.objs.size (.tup ys)) {s with heap:=h'.push {cls:=.type "tuple",data:=.seq c.toArray}} :=
   g.laid (t':=s.toks) (λb o e=>get?_push_of_some _ e) (le_refl _) (show bp X.prog X.w _ _ _ (.tup ys)from⟨i,c,f,IsTup.new _ _⟩)
  exact⟨.ref h'.objs.size,_,j,rfl,q _ (g.hok.fresh (le_refl _))⟩
 ·obtain⟨c,f,d,i⟩:=I.tuple a;exact call_tuple_same d ⟨.ref p,H,I,rfl,q⟩
def tyV(K:PySem.W.Frag)(T:String)(x:V)(H:Hp):Prop:=match x with
 |.str _=>T="str"
 |.int _=>T="int"
 |.ref p=>(T="list"∧∃xs,SqL K H p xs)∨(T="tuple"∧∃o,K.lookup p=some o∧o.cls=.type "tuple"∧o.dict=none) ∨
   (T="dict"∧((∃kvs,H p=some (.dK kvs))∨∃kvs,H p=some (.dT kvs)))∨(T="set"∧∃S n,H p=some (.set S n))
 |_=>False
theorem ux{u:List (Addr×Obj)}{w:St}{j:Hp}{s:Shared}{T:String}{x:V}{v:Value}(d:Inv X u w j s)(r:aL x v)(f:tyV X.K T x j):
  s.TypeIs v T∧∀a,v=.ref a→∃k,s.heap.get? a=some k∧k.dict=none:=by
 cases x with
 |str z =>
  obtain⟨t,rfl⟩:=r;cases (show T="str" from f);exact⟨typeIs_str s z t,λ_ e=>nomatch e⟩
 |int i =>
  obtain⟨t,rfl⟩:=r;cases (show T="int" from f);exact⟨typeIs_int s i t,λ_ e=>nomatch e⟩
 |ref p =>
  cases r;rcases f with⟨rfl,xs,q⟩|⟨rfl,o,b,m,h⟩|⟨rfl,b⟩|⟨rfl,S,n,b⟩
  ·obtain⟨y,_,l,_⟩:=d.list q;refine⟨l.isList.typeIs,λa e=>?_⟩;cases e;obtain⟨o,n,e,c,h,_⟩:=l;exact⟨o,e,h⟩
  ·refine⟨⟨o,d.kIn p o b,m⟩,λa e=>?_⟩;cases e;exact⟨o,d.kIn _ o b,h⟩
  ·have z:∃o,s.heap.get? p=some o∧o.ExactDict:=by
    rcases b with⟨kvs,b⟩|⟨kvs,b⟩
    ·obtain⟨_,_,_,_,o,_,_,e,ex,_⟩:=d.hok p _ b;exact⟨o,e,ex⟩
    ·obtain⟨_,_,_,_,o,_,_,e,ex,_⟩:=d.hok p _ b;exact⟨o,e,ex⟩
   obtain⟨o,e,ex⟩:=z;refine⟨⟨o,e,ex.1⟩,λa g=>?_⟩;cases g;exact⟨o,e,ex.2.1⟩
  ·obtain⟨o,_,_,_,e,ex,_⟩:=d.hok p _ b;refine⟨⟨o,e,ex.1⟩,λa g=>?_⟩;cases g;exact⟨o,e,ex.2.1⟩
 |_=>exact False.elim f
def BE(K:PySem.W.Frag)(T:String)(r:V→List V→Hp→VK→Prop)(a:TE):TE:=λσ H Q=>a σ H λx H1=>tyV K T x H1∧r x [] H1 Q
def tBM(K:PySem.W.Frag)(T:String)(r:V→List V→Hp→VK→Prop)(a:TE)(t:TA):TE:=λσ H Q=>a σ H λx H1=>tyV K T x H1∧t σ H1 λxs H2=>r x xs H2 Q
variable{o e:Expr}{es:List Expr}{to:TE}{t:TA}{name:Str}{apos cpos:Pos}{T id:String}{r:V→List V→Hp→VK→Prop}
theorem yW(j:PlainAttrs T)(m:Slot T name id)(i:typeOf (.builtin id)=pure (.type "method_descriptor"))(e:MtR X id r)(f:PE X o to)(c:attributeBase o name X.env (eval o X.env)=eval o X.env:=by rfl)(d:(apos.endLine==cpos.line)=true:=by rfl):PE X (.Call (.Attribute o name apos) [] [] cpos) (BE X.K T r to):=by
 intro pins s σ H Q I h;refine wpAny_Call_method0_late c d (thn (f pins s σ H _ I h) λv l g=>?_);obtain⟨x,H1,a,b,ty,k⟩:=g;obtain⟨h1,h2⟩:=ux a b ty;exact⟨T,id,j,m,i,h1,h2,callWith_builtin rfl (PySem.evalArgs_none (e pins l σ H1 x [] v [] Q a b .nil k))⟩
theorem cU(u:PlainAttrs T)(C:Slot T name id)(q:typeOf (.builtin id)=pure (.type "method_descriptor"))(k:MtR X id r)(l:PE X o to)(f:PA X (e::es) t)(g:attributeBase o name X.env (eval o X.env)=eval o X.env:=by rfl)(i:((backTo cpos (starEach (e::es) X.env)).all (λx=>!x.1)&&(backToKw cpos (keywordEach [] X.env)).all (λx=>x.1.isSome)
   && decide ((e::es).length+([]:List Keyword).length+(if ([]:List Keyword).isEmpty then 0 else 1)<30))=true:=by rfl)(j:(apos.endLine==cpos.line)=true:=by rfl)(p:starEach (e::es) X.env=(false,eval e X.env)::starEach es X.env:=by rfl)(m:(backTo cpos (starEach es X.env)).any (·.1)=false:=by rfl):
  PE X (.Call (.Attribute o name apos) (e::es) [] cpos) (tBM X.K T r to t):=by
 intro pins s σ H Q I h;refine wpAny_Call_method_late g i j rfl (thn (l pins s σ H _ I h) λv A n=>?_);obtain⟨x,H1,a,c,ty,w⟩:=n;obtain⟨h1,h2⟩:=ux a c ty;refine⟨T,id,u,C,q,h1,h2,?_⟩;have b:=f cpos pins A σ H1 _ a w;rw[p]at b⊢;refine callWith_builtin (by show(false||(backTo cpos (starEach es X.env)).any (·.1))=false;rw[m]<;>rfl) (evalArgs_plain ?_);exact thn b λD B ⟨vs,H2,d,z,y⟩=>k pins B σ H2 x vs v D Q d c z y
end
def MtM(X:Cx)(id:String)(r:V→List V→Hp→VK→Prop):Prop :=
 ∀(pins:List (Addr×Obj))(s:Shared)(σ:St)(H:Hp)(x:V)(xs:List V)(v:Value)(a:List Value)(Q:VK),Inv X pins σ H s→aL x v→aF xs a→r x xs H Q →
  wpAny (model X.prog X.w) X.A (call (.builtin id) (v::a)) (EP X pins σ Q) X.xe s
theorem aF.one:∀{x:V}{us:List Value},aF [x] us→∃u,us=[u]∧aL x u
 |_,_,.cons r .nil=>⟨_,rfl,r⟩
theorem aF.two:∀{x y:V}{us:List Value},aF [x,y] us→∃u v,us=[u,v]∧aL x u∧aL y v
 |_,_,_,.cons r (.cons q .nil)=>⟨_,_,rfl,r,q⟩
theorem aF.zero:∀{us:List Value},aF [] us→us=[]
 |_,.nil=>rfl
theorem aF.dropLast{xs:List V}{us:List Value}(a:aF xs us):aF xs.dropLast us.dropLast:=by
 induction a with
 |nil=>exact .nil
 |cons r t b =>
  cases t with
  |nil=>exact .nil
  |cons q t'=>exact .cons r b
theorem aF.eraseIdx:∀{xs:List V}{us:List Value}(i:Nat),aF xs us→aF (xs.eraseIdx i) (us.eraseIdx i)
 |_,_,_,.nil=>.nil
 |_,_,0,.cons _ t=>t
 |_,_,i+1,.cons r t=>.cons r (aF.eraseIdx i t)
theorem qh{d:Type}(l:List d):l.eraseIdx (l.length-1)=l.dropLast:=by
 induction l with
 |nil=>rfl
 |cons a r c =>
  cases r with
  |nil=>rfl
  |cons b r =>
   have e:(a::b::r).length-1=((b::r).length-1)+1:=by
    have h1:(a::b::r).length=r.length+2:=rfl;have h2:(b::r).length=r.length+1:=rfl;omega
   rw[e,List.eraseIdx_cons_succ,c]
   all_goals rfl
theorem lD{a:Type}:∀(l:List a)(i:Nat),(l.eraseIdx i).length≤l.length
 |[],_=>le_refl _
 |_::_,0=>le_succ _
 |_::r,i+1=>Nat.succ_le_succ (lD r i)
section
variable{X:Cx}{pins:List (Addr×Obj)}{σ:St}{H:Hp}{s:Shared}{l b:Addr}{xs ys zs:List V}
theorem Inv.lset{a its':List Value}{n:Nat}{f:Array Value→Array Value}{t':Nat}(b:Inv X pins σ H s)(c:H l=some (.lst xs))(e:s.heap.get? l=some {cls:=.type "list",data:=.seq a.toArray n})(g:f a.toArray=its'.toArray)(i:aF ys its')(j:ys.length≤sizeLine):
  Inv X pins σ (upd H l (.lst ys)) {s with heap:=s.heap.update l (Obj.mapSeq f),toks:=t'}:=by
 have q:=PySem.IsL.update e f;rw[g]at q;refine b.write (x:=l) (e:=l) (by rw[c];exact trivial) (.inl rfl) (λk u d h=>(Heap.get?_update_other s.heap (Obj.mapSeq f) (Ne.symm d)).trans h) ⟨_,q⟩ ?_;exact⟨j,its',_,i,q⟩
theorem Inv.lnew{a:List Value}{t':Nat}(b:Inv X pins σ H s)(c:aF ys a)(d:ys.length≤sizeLine):
  Inv X pins σ (upd H s.heap.objs.size (.lst ys)) {s with heap:=s.heap.push {cls:=.type "list",data:=.seq a.toArray},toks:=t'} :=
 b.laid (λ_ _ q=>get?_push_of_some _ q) (le_refl _) ⟨d,a,0,c,get?_push_size _ rfl⟩
theorem Inv.fresh(I:Inv X pins σ H s):H s.heap.objs.size=none:=I.hok.fresh (le_refl _)
theorem Inv.lstM(b:Inv X pins σ H s)(c:H l=some (.lst xs)):xs.length≤sizeLine∧∃(a:List Value) (n:Nat),aF xs a∧xs.length=a.length∧s.heap.get? l=some {cls:=.type "list",data:=.seq a.toArray n}:=by
 obtain⟨z,a,n,r,e⟩:=b.hok l _ c;exact⟨z,a,n,r,r.length,e⟩
theorem uy{n:Nat}(h:n≤sizeLine):Builtin.List.listTooLong n=false:=by
 unfold Builtin.List.listTooLong;exact decide_eq_false (by omega)
def wU:V→List V→Hp→VK→Prop:=λx vs H Q=>∃l xs y,x=.ref l∧vs=[y]∧H l=some (.lst xs)∧xs.length<sizeLine∧Q .non (upd H l (.lst (xs++[y])))
theorem bn:MtM X "list.append" wU:=by
 intro pins s σ H x vs v j Q I f d h;obtain⟨l,xs,y,rfl,rfl,a,i,q⟩:=h;cases f;obtain⟨u,rfl,c⟩:=d.one;obtain⟨z,b,n,r,g,e⟩:=I.lstM a;refine call_meets F.slot_list_append ⟨_,e,rfl⟩ F.entry_list_append (F.args_list_append_2 _ _) (PySem.list_append l b.toArray n u (by rw[size_toArray];omega)) ⟨e,?_⟩;refine⟨.non,_,I.lset (its':=b++[u]) a e (by simp) (r.append (.cons c .nil)) ?_,rfl,q⟩;rw[length_append,length_singleton];omega
def wV:V→List V→Hp→VK→Prop:=λx vs H Q=>∃l b xs zs,x=.ref l∧vs=[.ref b]∧H l=some (.lst xs)∧H b=some (.lst zs)∧xs.length+zs.length≤sizeLine∧Q .non (upd H l (.lst (xs++zs)))
theorem lE:MtM X "list.extend" wV:=by
 intro pins s σ H x vs v B Q I t p h;obtain⟨l,b,xs,zs,rfl,rfl,d,g,A,q⟩:=h;cases t;obtain⟨u,rfl,o⟩:=p.one;cases o;obtain⟨z,a,n,r,w,e⟩:=I.lstM d;obtain⟨C,c,k,m,y,f⟩:=I.lstM g;have j:a.toArray.size+c.toArray.size≤sizeLine:=by rw[size_toArray,size_toArray];omega
 have i:¬(!a.toArray.isEmpty&&Builtin.List.listTooLong (a.toArray.size+c.toArray.size))=true:=by
  rw[uy j,Bool.and_false];exact Bool.false_ne_true
 refine call_meets F.slot_list_extend ⟨_,e,rfl⟩ F.entry_list_extend (F.args_list_extend_2 _ _)
  (AutoSeq1.list_extend_list_list_0 l a.toArray n b c.toArray k i (by rw[size_toArray];omega) (by omega)) ⟨e,f,?_⟩
 refine⟨.non,_,I.lset (its':=a++c) d e (by simp) (r.append m) ?_,rfl,q⟩;rw[length_append];omega
def BF:V→List V→Hp→VK→Prop:=λx vs H Q=>∃l xs y,x=.ref l∧vs=[]∧H l=some (.lst xs)∧xs[xs.length-1]?=some y∧Q y (upd H l (.lst xs.dropLast))
theorem yX:MtM X "list.pop" BF:=by
 intro pins s σ H x vs v o Q I m k h;obtain⟨l,xs,y,rfl,rfl,b,g,q⟩:=h;cases m;have f:=k.zero;subst f;obtain⟨z,a,n,r,c,e⟩:=I.lstM b;obtain⟨u,d,j⟩:=r.get g;have i:a.toArray[a.toArray.size-1]?=some u:=by
  show a.toArray[a.length-1]?=some u;rw[←getElem?_toList,←c];exact d
 refine call_meets F.slot_list_pop ⟨_,e,rfl⟩ F.entry_list_pop (F.args_list_pop_1 _) (MeetsSeq.list_pop_last l a.toArray n u i (by rw[size_toArray];omega)) ⟨e,?_⟩;refine⟨y,_,I.lset (its':=a.dropLast) b e ?_ r.dropLast ?_,j,q⟩
 ·show a.toArray.eraseIdxIfInBounds (a.toArray.size-1)=a.dropLast.toArray;rw[size_toArray,List.eraseIdxIfInBounds_toArray,qh]
 ·rw[List.length_dropLast];omega
def yY:V→List V→Hp→VK→Prop:=λx vs H Q=>∃l xs i k y,x=.ref l∧vs=[.int i]∧H l=some (.lst xs)∧-(2 ^ 63)≤i∧i<2 ^ 63∧seqIndex? i xs.length=some k∧xs[k]?=some y∧Q y (upd H l (.lst (xs.eraseIdx k)))
theorem oA:MtM X "list.pop" yY:=by
 intro pins s σ H x vs v A Q I p m h;obtain⟨l,xs,i,k,y,rfl,rfl,b,h1,h2,c,g,q⟩:=h;cases p;obtain⟨u,rfl,j⟩:=m.one;obtain⟨t,rfl⟩:=j;obtain⟨z,a,n,r,d,e⟩:=I.lstM b;obtain⟨w,f,o⟩:=r.get g;refine call_meets F.slot_list_pop ⟨_,e,rfl⟩ F.entry_list_pop (F.args_list_pop_2 _ _)
  (MeetsSeq.list_pop_at l a.toArray n i t k w (fitsIndex_both h1 h2) (by rw[size_toArray,←d];exact c) (by rw[←getElem?_toList];exact f) (by rw[size_toArray];omega)) ⟨e,?_⟩
 refine⟨y,_,I.lset (its':=a.eraseIdx k) b e ?_ (r.eraseIdx k) ?_,o,q⟩
 ·show a.toArray.eraseIdxIfInBounds k=(a.eraseIdx k).toArray;rw[List.eraseIdxIfInBounds_toArray]
 ·have:=lD xs k;omega
def BG:R2:=λx y H Q=>∃l b xs zs,x=.ref l∧y=.ref b∧H l=some (.lst xs)∧H b=some (.lst zs)∧xs.length+zs.length≤sizeLine∧∀p,H p=none→Q (.ref p) (upd H p (.lst (xs++zs)))
theorem iA:OpR X (binaryOp .Add) BG:=by
 intro pins s σ H x y v u Q I j k h;obtain⟨l,b,xs,zs,rfl,rfl,g,f,p,q⟩:=h;cases j;cases k;obtain⟨z,a,n,r,m,e⟩:=I.lstM g;obtain⟨w,c,t,i,o,d⟩:=I.lstM f;refine PySem.P.add_list e d ?_ (by rw[size_toArray,size_toArray];omega);have ea:a.toArray++c.toArray=(a++c).toArray:=by simp
 rw[ea];exact⟨.ref _,_,I.lnew (t':=s.toks) (r.append i) (by rw[length_append];omega),rfl,q _ I.fresh⟩
end
section
variable{prog:Program}{w:World}{A:Around}{E:Value→Shared→Prop}{s:Shared}
end
section
variable{X:Cx}
end
section
variable{κ:Type}[DecidableEq κ]
def ba(b:List (κ×V))(k:κ):Option V:=(b.find? λa=>decide (a.1=k)).map (·.2)
def cp(b:List (κ×V))(k:κ)(v:V):List (κ×V) :=
 if (b.any λa=>decide (a.1=k))=true then b.map (λa=>if a.1=k then (a.1,v)else a)else b++[(k,v)]
def dh(b:List (κ×V))(k:κ):List (κ×V):=b.filter λa=>decide (a.1≠k)
theorem bq{p:κ×V}{r:List (κ×V)}{k:κ}(e:p.1=k):ba (p::r) k=some p.2:=by simp[ba,find?_cons,e]
theorem bc{p:κ×V}{r:List (κ×V)}{k:κ}(e:¬p.1=k):ba (p::r) k=ba r k:=by simp[ba,find?_cons,e]
theorem cV(k:κ):∀kvs:List (κ×V),(kvs.any λa=>decide (a.1=k))=(ba kvs k).isSome
 |[]=>rfl
 |p::r=>by
  rw[any_cons]
  by_cases e:p.1=k
  ·simp only[bq e,decide_eq_true e,Bool.true_or,Option.isSome_some]
  ·rw[bc e,decide_eq_false e,Bool.false_or];exact cV k r
theorem oB(k j:κ)(y:V):∀kvs:List (κ×V),ba (kvs.map λa=>if a.1=k then (a.1,y)else a) j=(ba kvs j).map λx=>if j=k then y else x
 |[]=>rfl
 |p::r=>by
  have b:=oB k j y r;rw[map_cons]
  by_cases h:p.1=k
  ·rw[if_pos h]
   by_cases e:p.1=j
   ·rw[bq (p:=(p.1,y)) e,bq e,map_some,if_pos (e.symm.trans h)]
   ·rw[bc (p:=(p.1,y)) e,bc e,b]
  ·rw[if_neg h]
   by_cases e:p.1=j
   ·rw[bq (p:=p) e,bq e,map_some,if_neg (λz=>h (e.trans z))]
   ·rw[bc (p:=p) e,bc e,b]
theorem lF(k j:κ)(y:V):∀kvs:List (κ×V),ba kvs k=none→ba (kvs++[(k,y)]) j=if j=k then some y else ba kvs j
 |[],_=>by
  by_cases e:k=j
  ·rw[if_pos e.symm];exact bq (p:=(k,y)) e
  ·rw[if_neg (λz=>e z.symm)];exact bc (p:=(k,y)) e
 |p::r,hn=>by
  rw[List.cons_append];have a:¬p.1=k:=λz=>by rw[bq z]at hn;cases hn
  rw[bc a]at hn;have b:=lF k j y r hn
  by_cases e:p.1=j
  ·rw[bq e,bq e,if_neg (λz=>a (e.trans z))]
  ·rw[bc e,bc e,b]
theorem jI(b:List (κ×V))(k j:κ)(y:V):ba (cp b k y) j=if j=k then some y else ba b j:=by
 unfold cp
 by_cases a:(b.any λd=>decide (d.1=k))=true
 ·rw[if_pos a,oB];rw[cV]at a
  by_cases e:j=k
  ·obtain⟨x,c⟩:=Option.isSome_iff_exists.mp a;rw[if_pos e,e,c,map_some,if_pos rfl]
  ·rw[if_neg e];cases ba b j with
   |none=>rfl
   |some x=>rw[map_some,if_neg e]
 ·rw[if_neg a];refine lF k j y b ?_;rw[cV]at a;cases q:ba b k with
  |none=>rfl
  |some x=>rw[q]at a;exact(a rfl).elim
theorem dH(a:List (κ×V))(k:κ)(v:V):(cp a k v).length≤a.length+1:=by
 unfold cp
 split
 ·rw[length_map];omega
 ·rw[length_append,length_cons,length_nil];omega
theorem uz{a:List (κ×V)}{k:κ}(v:V)(b:ba a k=none):cp a k v=a++[(k,v)]:=by
 unfold cp;rw[cV,b];exact if_neg (by decide)
theorem dZ.isSome_eq{o:Option V}{u:Option Value}(r:dZ o u):o.isSome=u.isSome:=by
 cases o with
 |none=>cases u with
  |none=>rfl
  |some _=>exact(show False from r).elim
 |some _=>cases u with
  |none=>exact(show False from r).elim
  |some _=>rfl
theorem dZ.getD{o:Option V}{u:Option Value}{d:V}{d':Value}(r:dZ o u)(a:aL d d'):aL (o.getD d) (u.getD d'):=by
 cases o with
 |none=>cases u with
  |none=>exact a
  |some _=>exact(show False from r).elim
 |some _=>cases u with
  |none=>exact(show False from r).elim
  |some _=>exact r
theorem KV.val{c:List (κ×V)}{vs:List (κ×Value)}(r:KV c vs)(k:κ):dZ (ba c k) (valueAt vs k):=by
 unfold KV at r
 induction r with
 |nil=>exact True.intro
 |@cons p q ps qs h t ih =>
  obtain⟨h1,h2⟩:=h
  by_cases e:p.1=k
  ·have a:q.1=k:=h1.symm.trans e;have b:valueAt (q::qs) k=some q.2:=by simp[valueAt,find?_cons,a]
   rw[bq e,b];exact h2
  ·have a:¬q.1=k:=λz=>e (h1.trans z);have b:valueAt (q::qs) k=valueAt qs k:=by simp[valueAt,find?_cons,a]
   rw[bc e,b];exact ih
theorem KV.any{b:List (κ×V)}{vs:List (κ×Value)}(r:KV b vs)(k:κ):(b.any λa=>decide (a.1=k))=vs.any λa=>decide (a.1=k):=by
 unfold KV at r
 induction r with
 |nil=>rfl
 |cons h t c=>rw[any_cons,any_cons,c,h.1]
theorem KV.repl{b:List (κ×V)}{vs:List (κ×Value)}(r:KV b vs)(k:κ){y:V}{u:Value}(c:aL y u):
  KV (b.map λa=>if a.1=k then (a.1,y)else a) (vs.map λa=>if a.1=k then (a.1,u)else a):=by
 unfold KV at r⊢
 induction r with
 |nil=>exact .nil
 |@cons p q ps qs h t ih =>
  rw[map_cons,map_cons];refine .cons ?_ ih;obtain⟨h1,h2⟩:=h
  by_cases e:p.1=k
  ·rw[if_pos e,if_pos (h1.symm.trans e)];exact⟨h1,c⟩
  ·rw[if_neg e,if_neg (λz=>e (h1.trans z))];exact⟨h1,h2⟩
theorem KV.put{a:List (κ×V)}{vs:List (κ×Value)}(r:KV a vs)(k:κ){y:V}{u:Value}(b:aL y u):KV (cp a k y) (stored vs k u):=by
 unfold cp stored;rw[r.any k]
 by_cases e:(vs.any λc=>decide (c.1=k))=true
 ·rw[if_pos e,if_pos e];exact r.repl k b
 ·rw[if_neg e,if_neg e];exact Paired.snoc r ⟨rfl,b⟩
theorem KV.drop{c:List (κ×V)}{vs:List (κ×Value)}(r:KV c vs)(k:κ):KV (dh c k) (without vs k):=by
 unfold KV at r⊢;unfold dh without
 induction r with
 |nil=>exact .nil
 |@cons p q ps qs h t ih =>
  obtain⟨h1,h2⟩:=h;rw[filter_cons,filter_cons]
  by_cases e:p.1=k
  ·have a:¬decide (p.1≠k)=true:=by simp[e]
   have b:¬decide (q.1≠k)=true:=by simp[h1.symm.trans e]
   rw[if_neg a,if_neg b];exact ih
  ·have d:¬q.1=k:=λz=>e (h1.trans z);have a:decide (p.1≠k)=true:=by simp[e]
   have b:decide (q.1≠k)=true:=by simp[d]
   rw[if_pos a,if_pos b];exact .cons ⟨h1,h2⟩ ih
theorem KV.length{a:List (κ×V)}{vs:List (κ×Value)}(r:KV a vs):a.length=vs.length:=Paired.length r
theorem oC(a:List (κ×V))(k:κ):(dh a k).length≤a.length:=length_filter_le _ _
end
theorem fg{P:Program}{w:World}{k:Key}{u:Value}(r:aL (kV k) u):(aJ P w).is k u=true:=by
 cases k with
 |inl i=>obtain⟨t,e⟩:=(show ∃t,u=Value.int i t from r);subst e;exact nV P w i t
 |inr x=>obtain⟨t,e⟩:=(show ∃t,u=Value.str x t from r);subst e;exact nW P w x t
theorem yZ{a b:Key}(e:kV a=kV b):a=b:=by
 cases a with
 |inl i=>cases b with
  |inl j=>have c:V.int i=V.int j:=e;injection c with c;rw[c]
  |inr y=>exact nomatch (show V.int i=V.str y from e)
 |inr x=>cases b with
  |inl j=>exact nomatch (show V.str x=V.int j from e)
  |inr y=>have c:V.str x=V.str y:=e;injection c with c;rw[c]
theorem mX:∀{a b:List Key},a.map kV=b.map kV→a=b
 |[],[],_=>rfl
 |[],_::_,e=>by simp at e
 |_::_,[],e=>by simp at e
 |x::xs,y::ys,e=>by
  rw[map_cons,map_cons]at e;injection e with c d
  rw[yZ c,mX d]
theorem iB{P:Program}{w:World}:∀{ks:List Key}{us:List Value},aF (ks.map kV) us→ItemsAre (aJ P w) ks us
 |[],_,r=>by rw[map_nil]at r;cases r;exact .nil
 |k::ks,_,r=>by
  rw[map_cons]at r;cases r with
  |cons h t=>exact .cons (fg h) (iB t)
abbrev KT(H:Hp):List (List Key×V)→List (List Key×Addr×Value)→Prop:=Paired λp q=>p.1=q.1∧H q.2.1=some (.tup (p.1.map kV))∧aL p.2 q.2.2
theorem KT.val{d:Hp}{c:List (List Key×V)}{xs:List (List Key×Addr×Value)}(r:KT d c xs)(k:List Key):dZ (ba c k) ((atKey xs k).map (·.2)):=by
 induction r with
 |nil=>exact True.intro
 |@cons p q ps qs h t ih =>
  obtain⟨h1,_,h2⟩:=h
  by_cases e:p.1=k
  ·have a:q.1=k:=h1.symm.trans e;have b:atKey (q::qs) k=some q.2:=by simp[atKey,find?_cons,a]
   rw[bq e,b];exact h2
  ·have a:¬q.1=k:=λz=>e (h1.trans z);have b:atKey (q::qs) k=atKey qs k:=by simp[atKey,find?_cons,a]
   rw[bc e,b];exact ih
theorem KT.repl{b:Hp}{c:List (List Key×V)}{xs:List (List Key×Addr×Value)}(r:KT b c xs)(k:List Key){y:V}{u:Value}(d:aL y u):
  KT b (c.map λa=>if a.1=k then (a.1,y)else a) (xs.map (putAt k u)):=by
 induction r with
 |nil=>exact .nil
 |@cons p q ps qs h t ih =>
  rw[map_cons,map_cons];refine .cons ?_ ih;obtain⟨h1,h2,h3⟩:=h;unfold putAt
  by_cases e:p.1=k
  ·rw[if_pos e,if_pos (h1.symm.trans e)];exact⟨h1,h2,d⟩
  ·rw[if_neg e,if_neg (λz=>e (h1.trans z))];exact⟨h1,h2,h3⟩
theorem KT.put{a:Hp}{c:List (List Key×V)}{xs:List (List Key×Addr×Value)}(r:KT a c xs)(k:List Key){b:Addr}{y:V}{u:Value}(f:a b=some (.tup (k.map kV)))(d:aL y u):
  KT a (cp c k y) (storedH xs k b u):=by
 have e:(c.any λg=>decide (g.1=k))=(atKey xs k).isSome:=by
  rw[cV,(r.val k).isSome_eq,isSome_map]
 unfold cp storedH;rw[e]
 by_cases q:(atKey xs k).isSome=true
 ·rw[if_pos q,if_pos q];exact r.repl k d
 ·rw[if_neg q,if_neg q];exact Paired.snoc r ⟨rfl,f,d⟩
theorem KT.keeps{a H':Hp}{c:List (List Key×V)}{xs:List (List Key×Addr×Value)}(r:KT a c xs)(d:∀b ys,a b=some (.tup ys)→H' b=some (.tup ys)):KT H' c xs :=
 Paired.mapP r λ_ _ z=>⟨z.1,d _ _ z.2.1,z.2.2⟩
section
variable{P:Program}{w:World}{H:Hp}{h:Heap}{a:Addr}
theorem yw{u:HO}(b:HOk P w H h)(e:Rd H a u):bp P w H h a u:=e.ok b
theorem iU{b:List (Key×V)}(c:HOk P w H h)(e:Rd H a (.dK b)):b.length≤sizeLine∧(a==sysModules)=false∧∃vs,KV b vs∧h.DictOf (aJ P w) a vs :=
 show bp P w H h a (.dK b)from yw c e
theorem rK{b:List (Key×V)}(c:HOk P w H h)(e:H a=some (.dK b)):b.length≤sizeLine∧(a==sysModules)=false∧∃vs,KV b vs∧h.DictOf (aJ P w) a vs:=iU c (.inl e)
theorem gG{ks:List Key}(c:HOk P w H h)(e:H a=some (.tup (ks.map kV))):(tupleKind (aJ P w)).is h ks a:=by
 obtain⟨_,b,r,o,h1,h2,n,h3⟩:=(show bp P w H h a (.tup (ks.map kV))from c a _ e);exact⟨o,b.toArray,n,h1,h2,h3,by simpa using iB r⟩
theorem iV{c:List (List Key×V)}(d:HOk P w H h)(e:Rd H a (.dT c)):c.length≤sizeLine∧(a==sysModules)=false ∧
  ∃xs,KT H c xs∧h.DictOfH (tupleKind (aJ P w)) a xs:=by
 obtain⟨z,y,xs,r,o,es,f,h1,h2,h3,g,i⟩:=(show bp P w H h a (.dT c)from yw d e);refine⟨z,y,xs,r,o,es,f,h1,h2,h3,g,λx b=>?_,i⟩;have all:∀{l:List (List Key×V)}{m:List (List Key×Addr×Value)},KT H l m→∀x∈m,(tupleKind (aJ P w)).is h x.1 x.2.1:=by
  intro l m q
  induction q with
  |nil=>intro x b;exact nomatch b
  |@cons p q ps qs hq t ih =>
   intro x b;rcases mem_cons.mp b with e|b
   ·subst e;exact gG d (by rw[←hq.1];exact hq.2.1)
   ·exact ih x b
 exact all r x b
theorem AR{b:List (List Key×V)}(c:HOk P w H h)(e:H a=some (.dT b)):b.length≤sizeLine∧(a==sysModules)=false ∧
  ∃xs,KT H b xs∧h.DictOfH (tupleKind (aJ P w)) a xs:=iV c (.inl e)
end
def cO(H:Hp)(a:Addr)(y:V)(r:Option V):Prop :=
 (∃kvs k,Rd H a (.dK kvs)∧y=kV k∧r=ba kvs k)∨∃kvs k b,Rd H a (.dT kvs)∧y=.ref b∧H b=some (.tup (k.map kV))∧r=ba kvs k
def mY(H:Hp)(a:Addr)(y v:V)(H':Hp):Prop :=
 (∃kvs k,H a=some (.dK kvs)∧y=kV k∧kvs.length<sizeLine∧H'=upd H a (.dK (cp kvs k v))) ∨
 ∃kvs k b,H a=some (.dT kvs)∧y=.ref b∧H b=some (.tup (k.map kV))∧kvs.length<sizeLine∧H'=upd H a (.dT (cp kvs k v))
theorem cO.k{c:Hp}{a:Addr}{b:List (Key×V)}{k:Key}(e:c a=some (.dK b)):cO c a (kV k) (ba b k):=.inl ⟨b,k,.inl e,rfl,rfl⟩
theorem mY.k{c:Hp}{a:Addr}{b:List (Key×V)}{k:Key}{v:V}(e:c a=some (.dK b))(d:b.length<sizeLine):mY c a (kV k) v (upd c a (.dK (cp b k v))):=.inl ⟨b,k,e,rfl,d,rfl⟩
section
variable{X:Cx}{pins:List (Addr×Obj)}{σ:St}{H:Hp}{s:Shared}{a:Addr}{y v:V}{u r:Value}{o:Option V}{A:Around}{E:Value→Shared→Prop}
theorem Inv.big(I:Inv X pins σ H s):sysModules<s.heap.objs.size:=by
 have h:mainGlobals<s.heap.objs.size:=(I.mod.glob.keeps I.bk).lt;exact lt_trans (by decide) h
theorem sS{Q:Value→Shared→Prop}(B:A.units+1<cLine)(d:Inv X pins σ H s)(g:cO H a y (some v))(n:aL y u)(m:∀c s',Inv X pins σ H s'→aL v c→Q c s'):
  wpAny (model X.prog X.w) A (getItem (.ref a) u) Q E s:=by
 rcases g with⟨kvs,k,e,f,l⟩|⟨kvs,k,b,e,f,q,l⟩
 ·subst f;obtain⟨z,r,vs,i,dd⟩:=iU d.hok e;obtain⟨c,h,j⟩:=dZ.some_of (v:=v) (o:=valueAt vs k) (by rw[l];exact i.val k);exact wpAny_getItem_of (fg n) dd.mapOf h (m c _ (d.tok _) j)
 ·subst f;cases (show u=Value.ref b from n);obtain⟨z,r,xs,i,dd⟩:=iV d.hok e;obtain⟨c,h,j⟩:=dZ.some_of (v:=v) (o:=(atKey xs k).map (·.2)) (by rw[l];exact i.val k);obtain⟨p,t,x⟩:=Option.map_eq_some_iff.mp h;refine wpAny_getItem_heap (tupleKind_room_in1 B) (gG d.hok q) dd t ?_;rw[x];exact m c _ (d.tok _) j
theorem BH{Q:Value→Shared→Prop}(n:A.units+1<cLine)(c:Inv X pins σ H s)(g:cO H a y o)(j:aL y u)(i:∀s',Inv X pins σ H s'→Q (.bool o.isSome) s'):
  wpAny (model X.prog X.w) A (compareOp .In u (.ref a)) Q E s:=by
 rcases g with⟨kvs,k,e,d,l⟩|⟨kvs,k,b,e,d,m,l⟩
 ·subst d;obtain⟨z,f,vs,h,dd⟩:=iU c.hok e;refine wpAny_in_of (fg j) f dd.mapOf ?_;rw[←(h.val k).isSome_eq,←l];exact i _ (c.tok _)
 ·subst d;cases (show u=Value.ref b from j);obtain⟨z,f,xs,h,dd⟩:=iV c.hok e;refine wpAny_in_heap (tupleKind_room_in1 n) (gG c.hok m) f dd ?_;have q:=(h.val k).isSome_eq;rw[isSome_map]at q;rw[←q,←l];exact i _ (c.tok _)
theorem wW{Q:Value→Shared→Prop}(n:A.units+1<cLine)(c:Inv X pins σ H s)(g:cO H a y o)(j:aL y u)(i:∀s',Inv X pins σ H s'→Q (.bool (!o.isSome)) s'):
  wpAny (model X.prog X.w) A (compareOp .NotIn u (.ref a)) Q E s:=by
 rcases g with⟨kvs,k,e,d,l⟩|⟨kvs,k,b,e,d,m,l⟩
 ·subst d;obtain⟨z,f,vs,h,dd⟩:=iU c.hok e;refine wpAny_notIn_of (fg j) f dd.mapOf ?_;rw[←(h.val k).isSome_eq,←l];exact i _ (c.tok _)
 ·subst d;cases (show u=Value.ref b from j);obtain⟨z,f,xs,h,dd⟩:=iV c.hok e;refine wpAny_notIn_heap (tupleKind_room_in1 n) (gG c.hok m) f dd ?_;have q:=(h.val k).isSome_eq;rw[isSome_map]at q;rw[←q,←l];exact i _ (c.tok _)
theorem ji{h':Heap}{t':Nat}{c:HO}(d:Inv X pins σ H s)(i:Mut (H a))(h:SameBut a s.heap h')(g:∃q,h'.get? a=some q)(new:bp X.prog X.w (upd H a c) h' a c):
  Inv X pins σ (upd H a c) {s with heap:=h',toks:=t'} :=
 d.write (x:=a) (e:=a) i (.inl rfl) (λb q f z=>(h.2 b f).trans z) g new
theorem mZ{P:Program}{w:World}{H':Hp}{h':Heap}{b:List (Key×V)}{vs:List (Key×Value)}(z:b.length≤sizeLine)(hd:(a==sysModules)=false)(c:KV b vs)(dd:h'.DictOf (aJ P w) a vs):
  bp P w H' h' a (.dK b):=⟨z,hd,vs,c,dd⟩
theorem sT{H':Hp}{Q:Unit→Shared→Prop}(L:A.units+1<cLine)(d:Inv X pins σ H s)(g:mY H a y v H')(F:aL y u)(D:aL v r)(C:∀s',Inv X pins σ H' s'→Q () s'):
  wpAny (model X.prog X.w) A (setItem (.ref a) u r) Q E s:=by
 rcases g with⟨kvs,k,e,m,l,j⟩|⟨kvs,k,b,e,m,x,l,j⟩
 ·subst m j;obtain⟨z,n,vs,f,dd⟩:=rK d.hok e;have t:vs.length≤sizeLine:=by rw[←f.length];exact z
  have o:(cp kvs k v).length≤sizeLine:=by have:=dH kvs k v;omega
  refine wpAny_setItem_pairs (hsz:=t) (fg F) dd λh' h p=>C _ ?_;have K:∃q,h'.get? a=some q:=let⟨q,_,_,i,_⟩:=h;⟨q,i⟩;exact ji d (by rw[e];exact True.intro) p K (mZ o n (f.put k D) h)
 ·subst m j;cases (show u=Value.ref b from F);obtain⟨z,n,xs,f,dd⟩:=AR d.hok e;have t:xs.length≤sizeLine:=by rw[←Paired.length f];exact z
  have o:(cp kvs k v).length≤sizeLine:=by have:=dH kvs k v;omega
  refine wpAny_setItem_heap (hsz:=t) (tupleKind_room_in1 L) (gG d.hok x) dd λh' h p=>C _ ?_;obtain⟨q,es,G,i,h2,h3,I,_,J⟩:=h;refine ji d (by rw[e];exact True.intro) p ⟨q,i⟩ ⟨o,n,_,(f.put k x D).keeps λc ys B=>?_,q,es,G,i,h2,h3,I,J⟩;rw[ai (rj B e (λz=>nomatch z))];exact B
end
section
variable{X:Cx}{pins:List (Addr×Obj)}{σ:St}{H:Hp}{s:Shared}{a:Addr}{kvs:List (Key×V)}{k:Key}{u:Value}{A:Around}{E:Value→Shared→Prop}
theorem AS{v:V}{more:List Value}{Q:Value→Shared→Prop}(f:Inv X pins σ H s)(e:H a=some (.dK kvs))(d:aL (kV k) u)(l:ba kvs k=some v)(h:more=[]∨∃x,more=[x])(j:∀b s',Inv X pins σ (upd H a (.dK (dh kvs k))) s'→aL v b→Q b s'):wpAny (model X.prog X.w) A (call (.builtin "dict.pop") (.ref a::u::more)) Q E s:=by
 obtain⟨z,n,vs,c,dd⟩:=rK f.hok e;obtain⟨b,C,D⟩:=dZ.some_of (v:=v) (o:=valueAt vs k) (by rw[←l];exact c.val k);have r:(keyPart u).isSome=true:=by
  cases k with
  |inl i=>obtain⟨t,q⟩:=(show ∃t,u=Value.int i t from d);subst q;rfl
  |inr x=>obtain⟨t,q⟩:=(show ∃t,u=Value.str x t from d);subst q;rfl
 have m:argsOk "dict.pop" ⟨.ref a::u::more,[]⟩:=by
  rcases h with q|⟨x,q⟩
  ·subst q;exact PySem.F.args_dict_pop_2 _ _
  ·subst q;exact PySem.F.args_dict_pop_3 _ _ _
 refine call_meetsIn slot_dict_pop dd.typeIs PySem.F.entry_dict_pop m (meets_dict_pop_there (aJ X.prog X.w) a (fg d) more h r)
  ⟨vs,b,dd,by rw[←c.length];exact z,C,λh' g B=>j b _ ?_ D⟩
 have p:∃q,h'.get? a=some q:=let⟨q,_,_,y,_⟩:=g;⟨q,y⟩;exact ji f (by rw[e];exact True.intro) B p (mZ (le_trans (oC kvs k) z) n (c.drop k) g)
theorem za{r:Value}{Q:Value→Shared→Prop}(c:Inv X pins σ H s)(e:H a=some (.dK kvs))(b:aL (kV k) u)(l:ba kvs k=none)(d:∀s',Inv X pins σ H s'→Q r s'):
  wpAny (model X.prog X.w) A (call (.builtin "dict.pop") [.ref a,u,r]) Q E s:=by
 obtain⟨z,f,vs,j,dd⟩:=rK c.hok e;have g:valueAt vs k=none:=dZ.none_of (by rw[←l];exact j.val k);have h:(keyPart u).isSome=true:=by
  cases k with
  |inl i=>obtain⟨t,q⟩:=(show ∃t,u=Value.int i t from b);subst q;rfl
  |inr x=>obtain⟨t,q⟩:=(show ∃t,u=Value.str x t from b);subst q;rfl
 exact call_meetsIn slot_dict_pop dd.typeIs PySem.F.entry_dict_pop (PySem.F.args_dict_pop_3 _ _ _) (meets_dict_pop_default (aJ X.prog X.w) a (fg b) f h r) ⟨vs,dd,g,d _ (c.tok _)⟩
end
def AT(i:Expr):Prop:=∀b a,subscripted i false b a=operate [b,a] (getItem b a)
theorem wX{prog:Program}{w:World}{A:Around}{E:Value→Shared→Prop}{s:Shared}{env:Env}{d a:Expr}{pos:Pos}{T id:String}{Q:Value→Shared→Prop}(j:typeLookup (.type T) "__getitem__"=pure (some (.builtin id)))(k:AT a)(h:wpAny (model prog w) A (eval d env) (λo f=>wpAny (model prog w) A (eval a env) (λi s₂=>s₂.TypeIs o T∧wpAny (model prog w) A (getItem o i) Q E s₂) E f) E s):
  wpAny (model prog w) A (eval (.Subscript d a pos) env) Q E s:=by
 refine Subscript_ (wpAny_mono h (λo f l=>wpAny_mono l (λi s₂ c=>?_) λ_ _ x=>x) λ_ _ x=>x);obtain⟨e,c⟩:=c;unfold subscriptTail;refine wpAny_bind ?_;rw[getitemInPython_of_ne e.not_modules];refine wpAny_bind (wpAny_specialOf e j ?_);have b:wpAny (model prog w) A (subscripted a false o i) (λr g=>wpAny (model prog w) A (letTemporaryGo d o r >>= λ_=>pure r) Q E g) E s₂:=by
  rw[k o i];exact wpAny_operating (wpAny_mono c (λr g m=>wpAny_bind (wpAny_letTemporaryGo (wpAny_pure m))) λ_ _ x=>x)
 first
  |exact wpAny_pure (wpAny_bind b)
  |exact wpAny_bind (wpAny_pure (wpAny_bind b))
  |exact wpAny_bind b
theorem oE{X:Cx}{f:List (Addr×Obj)}{h:St}{c:Hp}{s:Shared}{a:Addr}{y:V}{o:Option V}(d:Inv X f h c s)(g:cO c a y o):s.TypeIs (.ref a) "dict":=by
 rcases g with⟨kvs,k,e,_,_⟩|⟨kvs,k,b,e,_,_,_⟩
 ·obtain⟨_,_,vs,_,dd⟩:=iU d.hok e;exact dd.typeIs
 ·obtain⟨_,_,xs,_,dd⟩:=iV d.hok e;exact dd.typeIs
def AU(b c:TE):TE:=λσ H Q=>b σ H λx H1=>c σ H1 λy H2=>∃a v,x=.ref a∧cO H2 a y (some v)∧Q v H2
def BI(c b:TE):TE:=λσ H Q=>c σ H λy H1=>b σ H1 λx H2=>∃a o,x=.ref a∧cO H2 a y o∧Q (.bl o.isSome) H2
def wY(c b:TE):TE:=λσ H Q=>c σ H λy H1=>b σ H1 λx H2=>∃a o,x=.ref a∧cO H2 a y o∧Q (.bl (!o.isSome)) H2
def AV(e g f:TE):TS:=λc σ H=>f σ H λv H1=>e σ H1 λx H2=>g σ H2 λy d=>∃a b,x=.ref a∧mY d a y v b∧c.nx σ b
section
variable{X:Cx}{o i e value:Expr}{pos pos' tpos:Pos}{td ty tv:TE}
theorem cS(l:X.A.units+1<cLine)(f:PE X o td)(e:PE X i ty)(k:AT i):PE X (.Subscript o i pos) (AU td ty):=by
 intro pins s σ H Q I h;refine wX PySem.F.slot_dict_getitem.lookup k (thn (f pins s σ H _ I h) λu t ⟨x,H1,c,q,m⟩=>thn (e pins t σ H1 _ c m) λw z j=>?_);obtain⟨y,H2,b,r,a,v,ex,g,n⟩:=j;subst ex;obtain rfl:u=Value.ref a:=q;exact⟨oE b g,sS l b g r λC B d p=>⟨v,H2,d,p,n⟩⟩
theorem na(k:X.A.units+1<cLine)(e:PE X i ty)(f:PE X o td):PC X .In i o (BI ty td):=by
 intro pins s σ H Q I h;refine thn (e pins s σ H _ I h) λt r ⟨y,H1,b,q,m⟩=>thn (f pins r σ H1 _ b m) λu v j=>?_;obtain⟨x,H2,c,p,a,l,ex,g,n⟩:=j;subst ex;obtain rfl:u=Value.ref a:=p;exact BH k c g q λw d=>⟨.bl l.isSome,H2,d,rfl,n⟩
theorem fY(k:X.A.units+1<cLine)(e:PE X i ty)(f:PE X o td):PC X .NotIn i o (wY ty td):=by
 intro pins s σ H Q I h;refine thn (e pins s σ H _ I h) λt r ⟨y,H1,b,q,m⟩=>thn (f pins r σ H1 _ b m) λu v j=>?_;obtain⟨x,H2,c,p,a,l,ex,g,n⟩:=j;subst ex;obtain rfl:u=Value.ref a:=p;exact wW k c g q λw d=>⟨.bl (!l.isSome),H2,d,rfl,n⟩
theorem jk(m:X.A.units+1<cLine)(k:PE X o td)(j:PE X i ty)(n:PE X value tv)(l:swapsWith value (some (.Subscript o i pos')) pos.line X.env=pure false):
  PS X (.Assign [.Subscript o i pos'] value pos) (AV td ty tv):=by
 intro pins s σ H E I h;refine wpAny_Assign_Subscript (thn (n pins s σ H _ I h) λr C ⟨v,H1,c,w,p⟩=>thn (k pins C σ H1 _ c p) λu D ⟨x,H2,d,z,q⟩=>thn (j pins D σ H2 _ d q) λG J ⟨y,F,e,B,a,b,ex,g,t⟩=>?_) l;subst ex;obtain rfl:u=Value.ref a:=z;exact sT m e g B w λK f=>⟨σ,b,f,t⟩
end
theorem uA{P:Program}{w:World}{b:Hp}(a:Heap)(c:sysModules<a.objs.size):bp P w b (a.push {cls:=.type "dict",data:=.dict #[]}) a.objs.size (.dK []) :=
 ⟨zero_le _,beq_eq_false_iff_ne.mpr (Ne.symm (ne_of_lt c)),[],.nil,Heap.DictOf.new a⟩
def zb:TE:=λ_ H Q=>∀p,H p=none→Q (.ref p) (upd H p (.dK []))
section
variable{X:Cx}{pos:Pos}
theorem uB:PE X (.Dict [] [] pos) zb:=λpins s σ H Q I h =>
 wpAny_Dict_empty ⟨.ref s.heap.objs.size,_,I.laid (a:=s.heap.objs.size) (o:=.dK []) (t':=s.toks) (λ_ _ q=>get?_push_of_some _ q) (le_refl _) (uA s.heap I.big),rfl,h _ (I.hok.fresh (le_refl _))⟩
end
structure M1(X:Cx)(o:Expr)(m:Str)(apos:Pos)(e:Expr)(cpos:Pos):Prop where
 base:attributeBase o m X.env (eval o X.env)=eval o X.env
 few:((backTo cpos (starEach [e] X.env)).all (λx=>!x.1)&&(backToKw cpos (keywordEach [] X.env)).all (λx=>x.1.isSome)
  && decide (([e]:List Expr).length+([]:List Keyword).length+(if ([]:List Keyword).isEmpty then 0 else 1)<30))=true
 line:(apos.endLine==cpos.line)=true
 trees:backTo cpos (starEach [e] X.env)=[(false,eval e X.env)]
structure M2(X:Cx)(o:Expr)(m:Str)(apos:Pos)(e f:Expr)(cpos:Pos):Prop where
 base:attributeBase o m X.env (eval o X.env)=eval o X.env
 few:((backTo cpos (starEach [e,f] X.env)).all (λx=>!x.1)&&(backToKw cpos (keywordEach [] X.env)).all (λx=>x.1.isSome)
  && decide (([e,f]:List Expr).length+([]:List Keyword).length+(if ([]:List Keyword).isEmpty then 0 else 1)<30))=true
 line:(apos.endLine==cpos.line)=true
 trees:backTo cpos (starEach [e,f] X.env)=[(false,eval e X.env),(false,eval f X.env)]
def IsD(H:Hp)(a:Addr):Prop:=(∃kvs,Rd H a (.dK kvs))∨∃kvs,Rd H a (.dT kvs)
theorem qi{X:Cx}{i:List (Addr×Obj)}{j:St}{g:Hp}{s:Shared}{a:Addr}(h:Inv X i j g s)(d:IsD g a):
  s.TypeIs (.ref a) "dict"∧(∀b,Value.ref a=.ref b→∃c,s.heap.get? b=some c∧c.dict=none)∧(a==sysModules)=false:=by
 rcases d with⟨kvs,e⟩|⟨kvs,e⟩
 ·obtain⟨_,f,vs,_,dd⟩:=iU h.hok e;refine⟨dd.typeIs,λb q=>?_,f⟩;cases q;obtain⟨c,_,_,h1,h2,_⟩:=dd;exact⟨c,h1,h2.2.1⟩
 ·obtain⟨_,f,xs,_,dd⟩:=iV h.hok e;refine⟨dd.typeIs,λb q=>?_,f⟩;cases q;obtain⟨c,_,_,h1,h2,_⟩:=dd;exact⟨c,h1,h2.2.1⟩
section
variable{X:Cx}{pins:List (Addr×Obj)}{σ:St}{H:Hp}{s:Shared}{a:Addr}{y d:V}{u r:Value}{o:Option V}{A:Around}{E:Value→Shared→Prop}
theorem zd{Q:Value→Shared→Prop}(p:A.units+1<cLine)(c:Inv X pins σ H s)(g:cO H a y o)(j:aL y u)(i:∀m s',Inv X pins σ H s'→aL (o.getD .non) m→Q m s'):
  wpAny (model X.prog X.w) A (call (.builtin "dict.get") [.ref a,u]) Q E s:=by
 rcases g with⟨kvs,k,e,d,l⟩|⟨kvs,k,b,e,d,n,l⟩
 ·subst d;obtain⟨z,f,vs,h,dd⟩:=iU c.hok e;refine call_meetsIn slot_dict_get dd.typeIs entry_dict_get (PySem.F.args_dict_get_2 _ _) (meets_dict_get (aJ X.prog X.w) a (fg j) f) ⟨_,dd.mapOf,i _ _ (c.tok _) ?_⟩;rw[l];exact(h.val k).getD rfl
 ·subst d;cases (show u=Value.ref b from j);obtain⟨z,f,xs,h,dd⟩:=iV c.hok e;refine call_meetsIn slot_dict_get dd.typeIs entry_dict_get (PySem.F.args_dict_get_2 _ _) (meetsH_dict_get (tupleKind (aJ X.prog X.w)) a b f) ⟨tupleKind_room_in1 p,k,xs,gG c.hok n,dd,i _ _ (c.tok _) ?_⟩;rw[l];exact(h.val k).getD rfl
theorem ze{Q:Value→Shared→Prop}(t:A.units+1<cLine)(c:Inv X pins σ H s)(g:cO H a y o)(n:aL y u)(m:aL d r)(j:∀p s',Inv X pins σ H s'→aL (o.getD d) p→Q p s'):
  wpAny (model X.prog X.w) A (call (.builtin "dict.get") [.ref a,u,r]) Q E s:=by
 rcases g with⟨kvs,k,e,f,l⟩|⟨kvs,k,b,e,f,q,l⟩
 ·subst f;obtain⟨z,h,vs,i,dd⟩:=iU c.hok e;refine call_meetsIn slot_dict_get dd.typeIs entry_dict_get (PySem.F.args_dict_get_3 _ _ _) (meets_dict_get_default (aJ X.prog X.w) a (fg n) h r) ⟨_,dd.mapOf,j _ _ (c.tok _) ?_⟩;rw[l];exact(i.val k).getD m
 ·subst f;cases (show u=Value.ref b from n);obtain⟨z,h,xs,i,dd⟩:=iV c.hok e;refine call_meetsIn slot_dict_get dd.typeIs entry_dict_get (PySem.F.args_dict_get_3 _ _ _) (meetsH_dict_get_default (tupleKind (aJ X.prog X.w)) a b h r) ⟨tupleKind_room_in1 t,k,xs,gG c.hok q,dd,j _ _ (c.tok _) ?_⟩;rw[l];exact(i.val k).getD m
end
def zf(b c:TE):TE:=λσ H Q=>b σ H λx H1=>∃a,x=.ref a∧IsD H1 a∧c σ H1 λy H2=>∃o,cO H2 a y o∧Q (o.getD .non) H2
def zg(c e d:TE):TE:=λσ H Q=>c σ H λx H1=>∃a,x=.ref a∧IsD H1 a∧e σ H1 λy H2=>d σ H2 λz b=>∃o,cO b a y o∧Q (o.getD z) b
def zh(c e d:TE):TE:=λσ H Q=>c σ H λx H1=>∃a,x=.ref a∧IsD H1 a∧e σ H1 λy H2=>d σ H2 λz b=>∃kvs k,b a=some (.dK kvs)∧y=kV k ∧
 (∀v,ba kvs k=some v→Q v (upd b a (.dK (dh kvs k))))∧(ba kvs k=none→Q z b)
section
variable{X:Cx}{o e f:Expr}{apos cpos:Pos}{td ty tx:TE}
theorem fi(l:X.A.units+1<cLine)(j:PE X o td)(i:PE X e ty)(m:M1 X o "get" apos e cpos):PE X (.Call (.Attribute o "get" apos) [e] [] cpos) (zf td ty):=by
 intro pins s σ H Q I h;refine wpAny_Call_method m.base m.few m.line plainAttrs_dict slot_dict_get type_dict_get (thn (j pins s σ H _ I h) λu v k=>?_);obtain⟨x,H1,b,r,a,ex,d,n⟩:=k;subst ex;obtain rfl:u=Value.ref a:=r;obtain⟨w,z,_⟩:=qi b d;refine⟨w,z,?_⟩;rw[m.trees];refine callWith_builtin rfl (evalArgs_plain (spliced_cons (thn (i pins v σ H1 _ b n) λB D ⟨y,H2,c,t,C,g,p⟩=>spliced_nil ?_)));exact zd l c g t λG E f q=>⟨_,H2,f,q,p⟩
theorem oF(r:X.A.units+1<cLine)(p:PE X o td)(l:PE X e ty)(n:PE X f tx)(m:M2 X o "get" apos e f cpos):PE X (.Call (.Attribute o "get" apos) [e,f] [] cpos) (zg td ty tx):=by
 intro pins s σ H Q I h;refine wpAny_Call_method m.base m.few m.line plainAttrs_dict slot_dict_get type_dict_get (thn (p pins s σ H _ I h) λu G q=>?_);obtain⟨x,H1,b,C,a,ex,d,t⟩:=q;subst ex;obtain rfl:u=Value.ref a:=C;obtain⟨K,L,_⟩:=qi b d;refine⟨K,L,?_⟩;rw[m.trees];refine callWith_builtin rfl (evalArgs_plain (spliced_cons (thn (l pins G σ H1 _ b t) λN J ⟨y,H2,i,D,v⟩ =>
  spliced_cons (thn (n pins J σ H2 _ i v) λM P ⟨z,c,j,E,O,g,w⟩=>spliced_nil ?_))))
 exact ze r j g D E λS R k B=>⟨_,c,k,B,w⟩
theorem uC(w:PE X o td)(r:PE X e ty)(t:PE X f tx)(m:M2 X o "pop" apos e f cpos):PE X (.Call (.Attribute o "pop" apos) [e,f] [] cpos) (zh td ty tx):=by
 intro pins s σ H Q I h;refine wpAny_Call_method m.base m.few m.line plainAttrs_dict slot_dict_pop PySem.F.type_dict_pop (thn (w pins s σ H _ I h) λu L A=>?_);obtain⟨x,H1,c,J,a,ex,d,B⟩:=A;subst ex;obtain rfl:u=Value.ref a:=J;obtain⟨O,P,_⟩:=qi c d;refine⟨O,P,?_⟩;rw[m.trees];refine callWith_builtin rfl (evalArgs_plain (spliced_cons (thn (r pins L σ H1 _ c B) λR M ⟨y,H2,n,i,C⟩ =>
  spliced_cons (thn (t pins M σ H2 _ n C) λq S ⟨z,j,g,K,kvs,k,ea,p,D,E⟩=>spliced_nil ?_))))
 subst p;cases l:ba kvs k with
 |some v=>exact AS g ea i l (.inr ⟨q,rfl⟩) λT N b G=>⟨v,_,b,G,D v l⟩
 |none=>exact za g ea i l λN b=>⟨z,j,b,K,E l⟩
end
section
variable{X:Cx}{pins:List (Addr×Obj)}{σ:St}{H:Hp}{s:Shared}{a:Addr}{kvs:List (Key×V)}{A:Around}{E:Value→Shared→Prop}
end
section
variable{X:Cx}{pins:List (Addr×Obj)}{σ:St}{H:Hp}{s:Shared}{a:Addr}{y:V}{u:Value}{A:Around}{E:Value→Shared→Prop}
end
end L2
namespace Att
open PySem PySem.W PySem.Calls PyProof.Rows
theorem jd{P:Params}{c:Heap}:∀(ns:List Int)(vs:List Value),WellAll P c vs (ns.map WData.int)→IntsAre vs ns:=by
 intro ns
 induction ns with
 |nil =>
  intro vs w;rw[map_nil]at w;cases w;exact .nil
 |cons n ns d =>
  intro vs w;rw[map_cons]at w;cases w with
  |cons a b =>
   cases a;exact .cons _ _ (d _ b)
theorem sU{l:OpenLaw}{n:Nat}(j:l.most=some n){P:Params}{e:Heap}{args:List WData}{vals:List Value}(g:l.row.toRowW.claim.pre args=true)(o:WellAll P e vals args):
  ∃a vs ns,vals=[Value.ref a]∧args=[WData.list (ns.map WData.int)]∧e.get? a=some {cls:=.type "list",data:=.seq vs.toArray}∧IntsAre vs ns∧ns.length≤n:=by
 have m:WShape.hasAll [] args [.list .int]=true:=(pre_splitW g).1;have f:l.pre.holds [] {args:=args}=true:=(pre_splitW g).2;obtain⟨d,r,rfl,h1,h2⟩:=hasAllW_cons m;obtain rfl:=hasAllW_nil h2;obtain⟨xs,rfl,h3⟩:=hasW_list h1;obtain⟨ns,rfl⟩:=items_int h3;have i:ns.length≤n:=by
  unfold OpenLaw.pre at f;have b:(WTm.not (.lt (.lit (.int (n:Int))) (.len (.arg 0)))).holds [] {args:=[.list (ns.map .int)]}=true:=by
   have b:=(holds_andW f).1;rw[j]at b;exact b
  have c:=condW_of b (w_not (w_lt w_lit (w_len_list (w_arg rfl))));rw[length_map]at c;refine Nat.le_of_not_lt λq=>?_;have p:(n:Int)<((ns.length:Nat):Int):=by omega
  first
   |(rw[decide_eq_true p]at c;exact absurd c (by decide))
   |(simp at c;omega)
 cases o with
 |cons s t =>
  cases t;cases s with
  |list k h=>exact⟨_,_,ns,rfl,rfl,k,jd ns _ h,i⟩
theorem sV(l:OpenLaw)(args:List WData):l.row.toRowW.claim.post args (.bool true) args=true :=
 postW_of (r:=l.row.toRowW) (X:=(true==true))
  (show WShape.has [] (.bool true) .bool=true by first|rfl|decide|simp[WShape.has,WShape.arms,WShape.armsAll])
  (show(WTm.eq .res (.lit (.bool true))).value [] {args:=args,res:=some (.bool true),after:=args}=some (.bool (true==true))from w_eq_bool (w_res rfl) w_lit) rfl
theorem oG{l:OpenLaw}{n:Nat}{q:Program}{m:List Str}{XP:(Str→Option Value)→Heap→Prop}{j:World→Heap→Prop}{d:DefRec}(D:l.most=some n)(x:d.params.defaults=[])(call:∀(w:World) (s₀ b:Shared) (mg h:Str→Option Value) (c:Addr) (o:Obj) (i e g:Value) (a:Addr) (vs:List Value) (ns:List Int),
   Ground q m [] XP w s₀ mg h b.heap→j w b.heap →
   b.heap.get? c=some o→o.data=.func (docDef d.name d.params d.body d.scope i e g)→b.heap.CodeRec e d.name→mg d.name=some (.ref c) →
   b.heap.get? a=some {cls:=.type "list",data:=.seq vs.toArray}→IntsAre vs ns→ns.length≤n→b.gens=#[] →
   codeAny (model l.prog w) callerA (.call (.ref c) ⟨[.ref a],[]⟩) (λr s'=>r=.ok (.ret (.bool true))∧OldK b.heap s'.heap∧s'.os=b.os∧AllBare s'.gens) b):
  WalkO q m XP j l.row.toRowW d [] (λf vs=>PySem.call f vs):=by
 intro w s₀ b mg h G p c o i e g s kV E v u k C y K vals L H M O J N;obtain rfl:s=.none:=Dflts.none k x;obtain rfl:kV=.none:=Dflts.noKw k;obtain⟨a,vs,ns,rfl,rfl,F,z,A⟩:=sU D H J;refine enter_call (codeAny_mono (call w s₀ b mg h c o i e g a vs ns G p E (fd_plain v) u C F z A y) λr s' I=>?_);obtain⟨rfl,h2,h3,t⟩:=I;exact⟨.inl ⟨.bool true,.bool true,[],rfl,λ_=>rfl,.bool true,sV l _,λ_=>⟨Pairwise.nil,λ_ B=>(nomatch B)⟩⟩,h2,h3,t⟩
section
variable{prog:Program}{w:World}{A:Around}{E:Value→Shared→Prop}{s:Shared}{K:Frag}
end
end Att
namespace L2
open PySem PySem.Spec PyProof.Rows
theorem lG:∀{vs:List Value}{ns:List Int},IntsAre vs ns→aF (ns.map V.int) vs
 |_,_,.nil=>.nil
 |_,_,.cons n t h=>.cons ⟨t,rfl⟩ (lG h)
def zj(H:Hp):Prop:=∀b,H b=none∨∃o xs,H b=some (.frz o (.lst xs))
theorem uD{P:Program}{w:World}{K:PySem.W.Frag}{mg t:Str→Option Value}{CX:CXT}{k:Nat}{l a:Addr}{D:FuncData}{x:Str}{sp:Sp}{s₁:Shared}{vs:List Value}{ns:List Int}(y:K.In s₁.heap)(M:s₁.heap.Ns mainGlobals mg)(c:s₁.heap.Ns builtinsNs t)(a1:∀x:Str,x≠"__name__"→t x=bootBuiltins x)(a4:s₁.heap.NoLimit)(a3:s₁.gens=#[])(g:s₁.heap.get? a=some {cls:=.type "list",data:=.seq vs.toArray})(J:IntsAre vs ns)(L:ns.length≤sizeLine)(a6:Room k callerA)(F:∀base:Heap,K.In base→base.Ns mainGlobals mg→FnOk P w K mg base CX k l D [x] sp)(a2:∀(s:Shared) (u:Value),BindsTo s D ⟨[u],[]⟩ [(x,u)])(a7:∀H:Hp,zj H→SqL K H a (ns.map V.int)→sp [.ref a] H (λv _=>v=.bl true) λ_ _ _=>False)(X:∀H e s',CX [] H s₁ (λ_ _ _=>False) e s'→False):
  codeAny (model P w) callerA (.call (.ref l) ⟨[.ref a],[]⟩) (λr s'=>r=.ok (.ret (.bool true))∧OldK s₁.heap s'.heap∧s'.os=s₁.os∧AllBare s'.gens) s₁:=by
 have O:=lG J;have a8:=J.length;have B:∀H:Hp,zj H→SqL K H a (ns.map V.int)→HOk P w H s₁.heap→(∀b,H b≠none→b=a)→(H a≠none→K.lookup a=none) →
   codeAny (model P w) callerA (.call (.ref l) ⟨[.ref a],[]⟩) (λr s'=>r=.ok (.ret (.bool true))∧OldK s₁.heap s'.heap∧s'.os=s₁.os∧AllBare s'.gens) s₁:=by
  intro H I a0 N E Y;have A:∀{b:Addr}{o:Obj},s₁.heap.get? b=some o→H b=none→(lX s₁.heap H).get? b=some o:=λe n=>ue e n;have b0:∀{b:Addr}{o:Obj}{es:Array DictEntry}{ep:Nat},s₁.heap.get? b=some o→o.data=.dict es ep→H b=none:=λ{b o es ep} e d=>by
   cases q:H b with
   |none=>rfl
   |some u =>
    have j:b=a:=E b (by rw[q];simp);subst j;rw[g]at e;cases e;have R:Data.seq vs.toArray _=Data.dict es ep:=d;cases R
  have i:∀{b:Addr}{m:Str→Option Value},s₁.heap.Ns b m→(lX s₁.heap H).Ns b m:=λ{b m} ⟨o,es,ep,e,d,r⟩=>⟨o,es,ep,A e (b0 e d),d,r⟩;have G:K.In (lX s₁.heap H):=λb o e=>A (y b o e) (by
   cases q:H b with
   |none=>rfl
   |some u =>
    have j:b=a:=E b (by rw[q];simp);subst j;rw[Y (by rw[q];simp)]at e;cases e)
  have Z:Mod K mg (lX s₁.heap H):=⟨G,i M,⟨t,i c,a1⟩,let⟨a9,h1,h2⟩:=a4;⟨a9,i h1,h2⟩⟩;have S:Env0 P w K mg (lX s₁.heap H) callerA [] s₁ H:=⟨rfl,Z,λb o e=>wJ e,Nat.le_of_eq (sI _ _),trivial,λb c=>absurd (show b∈([]:List Addr)from c) (by simp),N,.of_eq a3⟩;refine codeAny_mono ((F _ G (i M)).run callerA [] s₁ H ⟨[.ref a],[]⟩ [.ref a] [.ref a] _ _ a6 S (a2 s₁ (.ref a)) (.cons rfl .nil) (a7 H I a0)) λr s' h=>?_;cases r with
  |error e=>exact(X H e s' h).elim
  |ok U =>
   cases U with
   |next=>exact False.elim h
   |brk=>exact False.elim h
   |cont=>exact False.elim h
   |ret u =>
    obtain⟨v,H',os,Q,un,a5,b3,q⟩:=h;have b2:v=.bl true:=q;subst b2;obtain rfl:u=Value.bool true:=b3;refine⟨rfl,OldK.of_keep λb o e=>?_,os,Q⟩;cases q:H b with
    |none=>exact un.keep b o e q (by intro z;exact absurd (show b∈([]:List Addr)from z) (by simp)) (by simp)
    |some u =>
     rcases I b with z|⟨b1,xs,z⟩
     ·rw[q]at z;cases z
     ·have b4:=un.frzs b b1 _ z;obtain⟨C,_⟩:=N b _ z;obtain⟨T,_⟩:=a5 b _ b4;rw[e]at C;cases C;exact T
 cases p:K.lookup a with
 |some o =>
  have e:=y a o p;rw[g]at e;cases e;refine B (λ_=>none) (λ_=>.inl rfl) (.inr ⟨_,vs.toArray,_,p,rfl,rfl,rfl,by rw[size_toArray,a8];exact L,by simpa using O⟩) (λb u z=>by have f:(none:Option HO)=some u:=z;cases f) (λb z=>absurd rfl z) λz=>absurd rfl z
 |none =>
  refine B (λb=>if b=a then some (.frz {cls:=.type "list",data:=.seq vs.toArray} (.lst (ns.map V.int)))else none) (λb=>?_) (.inl (.inr ⟨{cls:=.type "list",data:=.seq vs.toArray},if_pos rfl⟩)) (λb u z=>?_) (λb z=>?_) λ_=>p
  ·by_cases c:b=a
   ·exact .inr ⟨_,_,if_pos c⟩
   ·exact .inl (if_neg c)
  ·by_cases c:b=a
   ·have f:=(if_pos c).symm.trans z;cases f;subst c;exact⟨g,by rw[length_map];exact L,vs,_,O,g⟩
   ·have f:=(if_neg c).symm.trans z;cases f
  ·by_cases c:b=a
   ·exact c
   ·exact absurd (if_neg c) z
theorem wZ{l:PySem.W.OpenLaw}{n k:Nat}{q:Program}{P:List Str}{XP:(Str→Option Value)→Heap→Prop}{j:World→Heap→Prop}{d:DefRec}{K:Params→PySem.W.Frag}{CX:World→CXT}{sp:World→Sp}{x:Str}(J:l.most=some n)(L:n≤sizeLine)(C:d.params.defaults=[])(N:Room k callerA)(A:∀(w:World) (h:Heap),j w h→(K w.params).In h)(F:∀(w:World) (mg:Str→Option Value) (c:Addr) (h:Heap),(K w.params).In h→h.Ns mainGlobals mg→mg d.name=some (.ref c) →
   ∃fd:FuncData,(∀(s:Shared) (u:Value),BindsTo s fd ⟨[u],[]⟩ [(x,u)]) ∧
    ∀base:Heap,(K w.params).In base→base.Ns mainGlobals mg→FnOk l.prog w (K w.params) mg base (CX w) k c fd [x] (sp w))(O:∀(w:World) (H:Hp) (a:Addr) (ns:List Int),ns.length≤n→zj H→SqL (K w.params) H a (ns.map V.int)→sp w [.ref a] H (λv _=>v=.bl true) λ_ _ _=>False)(r:∀(w:World) (H:Hp) (s:Shared) (e:Value) (s':Shared),CX w [] H s (λ_ _ _=>False) e s'→False):
  PySem.W.WalkO q P XP j l.row.toRowW d [] (λf vs=>PySem.call f vs):=by
 refine Att.oG J C λw a1 Q mg Z c o a0 R S a vs ns G p Y X U I M E m D=>?_;have i:=A w _ p;obtain⟨fd,B,t⟩:=F w mg c _ i G.T.g I;exact uD i G.T.g G.T.b G.T.builtins G.T.nolimit D M E (le_trans m L) N t B (λH y z=>O w H a ns m y z) λH e s'=>r w H Q e s'
def fZ(s:Stmt)(j:Nat):Stmt:=match s with
 |.ClassDef _ _ _ a _ _ _ _ _ _ _=>a.getD j (.Pass ⟨0,0,0,0⟩)
 |_=>.Pass ⟨0,0,0,0⟩
def dk(s:Stmt):Arguments:=match s with
 |.FunctionDef _ a _ _ _ _ _ _ _ _=>a
 |_=>{posonlyargs:=[],args:=[],vararg:=none,kwonlyargs:=[],kw_defaults:=[],kwarg:=none,defaults:=[]}
def br(s:Stmt):List Stmt:=match s with
 |.FunctionDef _ _ b _ _ _ _ _ _ _=>b
 |_=>[]
def aj(s:Stmt):Scope:=match s with
 |.FunctionDef _ _ _ _ _ _ a _ _ _=>a
 |_=>{kind:=.function,names:=[],isGenerator:=false,isCoroutine:=false}
abbrev CX0:CXT:=λ_ _ _ _ _ _=>False
abbrev E0:XK:=λ_ _ _=>False
theorem aM{X:Cx}:eN CX0 X E0:=λ_ _ _ _ _ _ _ h=>h.elim
structure Fun(K:PySem.W.Frag)(x qual:Str)(st:Stmt)(f:Addr)(fd:FuncData):Prop where
 ex:∃(oc:Value) (od:Option Addr) (kV doc pm:Value) (an:Option Addr) (cdv ct:Value) (osl:Array (Option Value)),
  fd=fnOf x qual (dk st) (br st) (aj st) .none kV doc pm an cdv ct∧K.lookup f=some ⟨oc,od,.func fd,osl⟩∧codeIn K cdv qual=true
 kp:keepIn K (.ref f)=true
section
variable{P:Program}{w:World}{K:PySem.W.Frag}{mg:Str→Option Value}{base:Heap}
theorem Fun.ok{x b:Str}{st:Stmt}{f:Addr}{c:FuncData}{N a:List Str}{k:Nat}{sp:Sp}(F:Fun K x b st f c)(S:FnScope N a (aj st))(j:∀vs H Q E,sp vs H Q E→vs.length=a.length)(d:∀(cdv:Value) (A:Around) (outer:List Env) (s:Shared) (H:Hp) (vs:List V) (Q:VK) (E:XK),Room k (A.deeper (envOfC b (aj st) s.heap.objs.size f cdv))→sp vs H Q E →
   ∃t,PSs (gF CX0 P w K mg base N b (aj st) f cdv A outer s H E).nox (br st) t∧t {nx:=λ_ H'=>Q .non H',rt:=Q} (start N vs) H):FnOk P w K mg base CX0 (k+1) f c a sp:=by
 obtain⟨p,r,kV,o,v,m,cdv,n,u,rfl,l,e⟩:=F.ex;refine yv l e S j λA outer s H vs Q E g i=>?_;obtain⟨t,h,q⟩:=d cdv A outer s H vs Q E g i;exact⟨t,h.nox,q⟩
theorem Fun.binds{x g:Str}{st:Stmt}{f:Addr}{e:FuncData}{d:List Str}(F:Fun K x g st f e)(h:∀(kV b c:Value) (a:Option Addr) (cdv ct:Value) (us:List Value),us.length=d.length→bindArgs (fnOf x g (dk st) (br st) (aj st) .none kV b c a cdv ct) ⟨us,[]⟩=pure (d.zip us)):bf K e d []:=by
 obtain⟨k,l,kV,b,c,a,cdv,ct,m,rfl,j,i⟩:=F.ex;exact .all (h kV b c a cdv ct)
theorem gH{x a:Str}{st:Stmt}{f:Addr}{g:Value}{h b:Option Addr}{i:Array (Option Value)}{kV d e cdv ct:Value}(l:K.lookup f=some ⟨g,h,.func (fnOf x a (dk st) (br st) (aj st) .none kV d e b cdv ct),i⟩)(c:codeIn K cdv a=true)(k:keepIn K (.ref f)=true):Fun K x a st f (fnOf x a (dk st) (br st) (aj st) .none kV d e b cdv ct):=⟨⟨g,h,kV,d,e,b,cdv,ct,i,rfl,l,c⟩,k⟩
end
theorem bh{A:Around}{k:Nat}(a:Room k A):A.units+1<cLine:=lt_of_le_of_lt (Nat.add_le_add_left (by decide:1≤64) _) a.units
theorem aB{n:Nat}(h:n≤1000):n<sizeLine:=lt_of_le_of_lt h (by decide)
section
variable{X:Cx}
theorem pv(i:Nat){x:Str}{pos:Pos}(a:X.N[i]?=some x:=by rfl)(c:Vis X.env.scope x:=by first|exact Or.inl rfl|exact Or.inr (Or.inl rfl)|exact Or.inr (Or.inr rfl))(hd:(x==("__debug__":Str))=false:=by decide)(b:(x==("__classdict__":Str))=false:=by decide):PE X (.Name x pos) (dP i):=yJ a c hd b
end
theorem aC{A B:Prop}(h:B):if false=true then A else B:=by
 rw[if_neg Bool.false_ne_true];exact h
theorem aQ{A B:Prop}(h:A):if true=true then A else B:=by
 rw[if_pos rfl];exact h
theorem qj{c A B:Prop}[Decidable c](a:c→A)(b:¬c→B):if c then A else B:=by
 by_cases h:c
 ·rw[if_pos h];exact a h
 ·rw[if_neg h];exact b h
theorem AW{c A B:Prop}[Decidable c](b:c)(a:B):if (!decide c)=true then A else B:=by
 rw[decide_eq_true b];exact aC a
def Same(H H':Hp):Prop:=∀b o,H b=some o→H' b=some o
theorem Same.refl(H:Hp):Same H H:=λ_ _ h=>h
theorem Same.trans{d e H2:Hp}(a:Same d e)(b:Same e H2):Same d H2:=λc o h=>b c o (a c o h)
theorem Same.free{H H':Hp}(e:Same H H'){l:Addr}(h:H' l=Option.none):H l=Option.none:=by
 cases q:H l with
 |none=>rfl
 |some o =>
  rw[e l o q]at h;cases h
theorem Same.seq{K:PySem.W.Frag}{H H':Hp}{a:Addr}{xs:List V}(e:Same H H')(h:SqL K H a xs):SqL K H' a xs:=by
 rcases h with (h|⟨o,h⟩)|h
 ·exact .inl (.inl (e _ _ h))
 ·exact .inl (.inr ⟨o,e _ _ h⟩)
 ·exact .inr h
section
variable{κ:Type}[DecidableEq κ]
theorem uE{a:List (κ×V)}{k:κ}(b:ba a k=none):¬k∈a.map (·.1):=by
 intro m;obtain⟨p,c,e⟩:=mem_map.mp m;have q:(a.any λd=>decide (d.1=k))=true:=any_eq_true.mpr ⟨p,c,decide_eq_true e⟩;rw[cV,b]at q;exact absurd q (by simp)
theorem rL{a:List (κ×V)}{k:κ}{v:V}(b:ba a k=some v):k∈a.map (·.1):=by
 have q:(a.any λd=>decide (d.1=k))=true:=by
  rw[cV,b]
  all_goals rfl
 obtain⟨p,c,e⟩:=any_eq_true.mp q;exact mem_map.mpr ⟨p,c,of_decide_eq_true e⟩
theorem sW{p:κ×V}{r:List (κ×V)}{k:κ}(e:p.1=k):dh (p::r) k=dh r k:=by
 unfold dh;rw[filter_cons,if_neg (by simp[e])]
theorem sX{p:κ×V}{r:List (κ×V)}{k:κ}(e:¬p.1=k):dh (p::r) k=p::dh r k:=by
 unfold dh;rw[filter_cons,if_pos (by simp[e])]
end
structure LcOk(X:Cx)(scope:Scope)(cl:List (Str×Addr)):Prop where
 kind:scope.kind=.function
 clos:closureFor scope X.env=pure cl
 names:∀x∈scope.names,x.2=.local→scope.names.lookup x.1=some .local
 nocell:∀x∈scope.names,x.2≠.cell
 cells:∀x c,cl.lookup x=some c→X.env.cells.lookup x=some c
 has:∀x,((relabel scope X.env).names.lookup x=some .cell∨(relabel scope X.env).names.lookup x=some .free)→∃c,cl.lookup x=some c
abbrev dc(X:Cx)(N:List Str)(b:Scope)(cl:List (Str×Addr))(s:Shared)(a:Hp)(ex:List Addr):Cx :=
 {X with N:=N,s₀:=s,H₀:=a,env:=compEnvC b cl s.heap.objs.size X.env,outer:=X.stack,stack:=X.stack,ex:=ex,fn:=λ_=>false,pn:=[],xe:=λ_ _=>False}
section
variable{X:Cx}{pins:List (Addr×Obj)}{σ:St}{H:Hp}{s:Shared}{N:List Str}{scope:Scope}{cl:List (Str×Addr)}{fp:List Addr}
theorem rM(a:Inv X pins σ H s)(f:LcOk X scope cl)(g:∀b∈fp,gC X pins H b)(i:∀b∈fp,b<s.heap.objs.size):(dc X N scope cl s H fp).Ok where
 mod:=a.ok.mod
 kind:=f.kind
 glob:=a.ok.glob
 blt:=a.ok.blt
 above:=le_refl _
 inj:=λx y c h1 h2=>a.ok.inj x y c (f.cells x c h1) (f.cells y c h2)
 has:=λx k=>f.has x k
 cab:=λx c h _=>absurd h (by simp)
 hd:=a.ok.hd
 frames:=a.ok.frames
 stk:=.inl rfl
 exf:=λb d=>⟨ne_of_lt (i b d),λx c h=>(g b d).2.2.2.2.1 x c (f.cells x c h)⟩
 bs:=a.bs
 bsz:=le_trans a.ok.bsz a.sz
 noex:=λb o e d=>by
  rcases (g b d).2.2.2.1 with z|z
  ·exact a.ok.noex b o e z
  ·exact absurd (lt_of_lt_of_le (lt_size e) (le_trans a.ok.bsz z)) (lt_irrefl _)
 exfs:=λb d j=>by
  rcases mem_cons.mp (a.stkSub b j)with z|z
  ·exact(g b d).2.1 z
  ·exact(g b d).2.2.1 z
 funs:=a.stack
 frf:=a.stkFree
def dl(k:Nat)(js:List Nat)(b:St):St:=List.replicate k none++js.map λa=>(b[a]?).getD none
theorem jJ{n:Heap}{tk:Nat}{k:Nat}{js:List Nat}(f:Inv X pins σ H s)(g:LcOk X scope cl)(I:∀b∈fp,gC X pins H b)(O:∀b∈fp,b<s.heap.objs.size)(M:∃m,n.Ns s.heap.objs.size m)(z:∀b o,s.heap.get? b=some o→n.get? b=some o)(G:N.length=k+js.length)(J:∀(i j:Nat) x,js[i]?=some j→N[k+i]?=some x→X.N[j]?=some x∧Vis X.env.scope x∧X.env.scope.names.lookup x≠some .local∧((relabel scope X.env).names.lookup x=some .cell∨(relabel scope X.env).names.lookup x=some .free)):
  Inv (dc X N scope cl s H fp) [] (dl k js σ) H {s with heap:=n,toks:=tk}:=by
 obtain⟨m,L⟩:=M;have A:∀c v,s.heap.IsCell c v→n.IsCell c v:=λc v ⟨o,e,d⟩=>⟨o,z c o e,d⟩;refine⟨rM f g I O,rfl,f.bare,Un.kept z,⟨m,L,λi x v t a R=>?_⟩,λx c e=>?_,f.hok.fresh (le_refl _),λx c e=>f.freeC x c (g.cells x c e),λp P=>absurd (show p∈([]:List (Addr×Obj))from P) (by simp),f.hok.kept z,?_⟩
 ·unfold dl at a
  by_cases hi:i<k
  ·rw[getElem?_append_left (by simpa using hi),List.getElem?_replicate]at a
   split at a<;>cases a
  ·obtain⟨i',rfl⟩:∃i',i=k+i':=⟨i-k,by omega⟩;rw[getElem?_append_right (by simp),List.length_replicate,Nat.add_sub_cancel_left,getElem?_map]at a;cases w:js[i']? with
   |none=>rw[w]at a;cases a
   |some j =>
    rw[w]at a;have l:(σ[j]?).getD none=some v:=Option.some.inj a;obtain⟨h1,h2,h3,C⟩:=J i' j x w t;have D:σ[j]?=some (some v):=by
     cases q:σ[j]? with
     |none=>rw[q]at l;cases l
     |some y=>rw[q]at l;exact congrArg some l
    obtain⟨S,_,K⟩:=f.loc;obtain⟨u,r,Q⟩:=K j x v h1 D h2;refine⟨u,r,.inr ⟨C,?_⟩⟩;rcases Q with⟨q,_⟩|⟨_,c,E,F⟩
    ·exact absurd q h3
    ·obtain⟨h,B⟩:=g.has x C;have:h=c:=Option.some.inj ((g.cells x h B).symm.trans E);subst this;exact⟨h,B,A h _ F⟩
 ·obtain⟨v,t⟩:=f.cell x c (g.cells x c e);exact⟨v,A c v t⟩
 ·unfold dl;rw[length_append,List.length_replicate,length_map];exact G.symm
theorem qk{H':Hp}{x:St}{s':Shared}{h':Heap}(i:Inv X pins σ H s)(r:∀b∈fp,gC X pins H b)(J:Inv (dc X N scope cl s H fp) [] x H' s')(f:SameBut s.heap.objs.size s'.heap h'):Inv X pins σ H' {s' with heap:=h'}:=by
 have g:∀b o,s.heap.get? b=some o→b≠s.heap.objs.size:=λb o e=>ne_of_lt (lt_size e);have u:=J.base;have w:Un (frs X.stack) fp H H' s.heap h' :=
  ⟨λb o e n a d=>(f.2 b (g b o e)).trans (u.keep b o e n a d),λb o e n a d=>by
   obtain⟨t,q⟩:=u.slot b o e n a d;exact⟨t,(f.2 b (g b o e)).trans q⟩,u.free,λb o e d=>by
   obtain⟨o',q⟩:=u.there b o e d;exact⟨o',(f.2 b (g b o e)).trans q⟩,u.tups,u.frzs,u.tbls⟩
 have h:∀b o,H' b=some o→b≠s.heap.objs.size:=λb o e z=>by
  have:=J.free;rw[show(dc X N scope cl s H fp).env.locals=s.heap.objs.size from rfl,←z,e]at this;cases this
 refine i.call' (s':={s' with heap:=h'}) J.os w (λb o e=>?_) J.bare λb a=>?_
 ·refine(J.hok b o e).stay (λc v p q=>(f.2 c ?_).trans q) (λ_ q=>q) λ_ _ q=>q;rcases p with z|z
  ·rw[z];exact h b o e
  ·exact h c _ z
 ·obtain⟨y,j,A,k,l,m⟩:=r b a;exact⟨k,j,l,m⟩
end
section
variable{prog:Program}{w:World}{A:Around}{R:Result→Shared→Prop}{s:Shared}
theorem rO{e c iter:Expr}{j:Scope}{pos:Pos}{b d:Value}{env:Env}(a:Nat→Shared→Prop)(y:∀n s,a n s→wpAny (model prog w) A (pyNext b) (λr g=>match r with
   |none=>R (.ok .next) g
   | some v=>wpAny (model prog w) A (letOwnedTupleGo c b v) (λ_ h=>wpAny (model prog w) A (assign c env v) (λ_ k=>wpAny (model prog w) A (eval e env) (λx l =>
     wpAny (model prog w) A (call (.builtin "list.append") [d,x]) (λ_ u=>∃m,m<n∧a m u) (λ_ _=>False) l) (λ_ _=>False) k) (λ_ _=>False) h) (λ_ _=>False) g) (λ_ _=>False) s)(n:Nat)(o:a n s):codeAny (model prog w) A (.compLoop (.ListComp e [⟨c,iter,[],0⟩] j pos) 0 b d env) R s:=by
 refine codeAny_loop rfl a (λn s p=>?_) n o;show wpAny _ _ ((compTurn (.ListComp e [⟨c,iter,[],0⟩] j pos) 0 b d env).onRaise (λx=>do noteFrame x env;theTreesLotGoes x)) _ _ s;refine wpAny_noted ?_;rw[compTurn_list1];refine wpAny_bind (wpAny_standAt (wpAny_bind (wpAny_mono (y n s p) (λr g i=>?_) λ_ _ h'=>h'.elim)));cases r with
 |none=>exact wpAny_pure i
 |some v =>
  refine wpAny_bind (wpAny_mono i (λ_ h f=>?_) λ_ _ h'=>h'.elim);exact wpAny_bind (wpAny_mono f (λ_ h f=>wpAny_bind (wpAny_bind (wpAny_mono f (λx k q=>wpAny_bind (wpAny_mono q
   (λ_ l t=>wpAny_pure (wpAny_pure ⟨rfl,t⟩)) λ_ _ h'=>h'.elim)) λ_ _ h'=>h'.elim))) λ_ _ h'=>h'.elim)
theorem jK(e b iter c:Expr)(g:Scope)(pos:Pos)(a d:Value)(env:Env):
  compTurn (.ListComp e [⟨b,iter,[c],0⟩] g pos) 0 a d env=(standAt iter.pos >>= λ_=>pyNext a >>= λr=>match r with
   |none=>pure (.done .next)
   |some v=>letOwnedTupleGo b a v >>= λ_=>assign b env v >>= λ_ =>
    (forIn [c] true λc r=>if r=true then do let f ← isTrue c env (eval c env);pure (ForInStep.yield f)else pure (ForInStep.yield r)) >>= λf =>
    if f=true then (eval e env >>= λx=>call (.builtin "list.append") [d,x] >>= λ_=>pure ()) >>= λ_ =>
     again (.compLoop (.ListComp e [⟨b,iter,[c],0⟩] g pos) 0 a d env)
    else again (.compLoop (.ListComp e [⟨b,iter,[c],0⟩] g pos) 0 a d env)):=by rfl
theorem uF{h f iter c:Expr}{p:Scope}{pos:Pos}{e g:Value}{env:Env}(d:Nat→Shared→Prop)(B:∀n s,d n s→wpAny (model prog w) A (pyNext e) (λr k=>match r with
   |none=>R (.ok .next) k
   | some v=>wpAny (model prog w) A (letOwnedTupleGo f e v) (λ_ q=>wpAny (model prog w) A (assign f env v) (λ_ b=>wpAny (model prog w) A (isTrue c env (eval c env)) (λj b =>
     if j=true then wpAny (model prog w) A (eval h env) (λx l =>
      wpAny (model prog w) A (call (.builtin "list.append") [g,x]) (λ_ z=>∃m,m<n∧d m z) (λ_ _=>False) l) (λ_ _=>False) b
     else ∃m,m<n∧d m b) (λ_ _=>False) b) (λ_ _=>False) q) (λ_ _=>False) k) (λ_ _=>False) s)(n:Nat)(t:d n s):codeAny (model prog w) A (.compLoop (.ListComp h [⟨f,iter,[c],0⟩] p pos) 0 e g env) R s:=by
 refine codeAny_loop rfl d (λn s u=>?_) n t;show wpAny _ _ ((compTurn (.ListComp h [⟨f,iter,[c],0⟩] p pos) 0 e g env).onRaise (λx=>do noteFrame x env;theTreesLotGoes x)) _ _ s;refine wpAny_noted ?_;rw[jK];refine wpAny_bind (wpAny_standAt (wpAny_bind (wpAny_mono (B n s u) (λr k o=>?_) λ_ _ h'=>h'.elim)));cases r with
 |none=>exact wpAny_pure o
 |some v =>
  refine wpAny_bind (wpAny_mono o (λ_ q y=>?_) λ_ _ h'=>h'.elim);refine wpAny_bind (wpAny_mono y (λ_ b i=>?_) λ_ _ h'=>h'.elim);rw[forIn_cons];simp only[if_true];refine wpAny_bind (wpAny_bind (wpAny_bind (wpAny_mono i (λj l a=>wpAny_pure ?_) λ_ _ h'=>h'.elim)));simp only[forIn_nil];refine wpAny_pure ?_;cases j with
  |true =>
   rw[if_pos rfl]at a⊢;exact wpAny_bind (wpAny_bind (wpAny_mono a (λx b i=>wpAny_bind (wpAny_mono i (λ_ l a=>wpAny_pure (wpAny_pure ⟨rfl,a⟩)) λ_ _ h'=>h'.elim)) λ_ _ h'=>h'.elim))
  |false =>
   rw[if_neg (by simp)]at a⊢;exact wpAny_pure ⟨rfl,a⟩
end
def LcW(k:Nat)(js:List Nat)(g:TG)(h:TE)(j:St)(Q:VK)(J:It)(e:Hp)(p:Addr):Prop:=∃W:Nat→Nat→List V→St→Hp→Prop,
 (∃m,W 0 m [] (dl k js j) (upd e p (.lst [])))∧∀i m ys c H',W i m ys c H'→(J.stop i H'∧Q (.ref p) H') ∨
  (J.go i H'∧ys.length<sizeLine∧∀x H2,J.yld i H' x H2→g x c H2 λd f=>h d f λy a=>a p=some (.lst ys)∧∃b,b<m∧W (i+1) b (ys++[y]) d (upd a p (.lst (ys++[y]))))
def tLc(k:Nat)(js:List Nat)(c:TI)(g:TG)(b:TE):TE:=λσ H Q=>c σ H λa H1=>∀p,H1 p=none→LcW k js g b σ Q a H1 p
def AX(k:Nat)(js:List Nat)(g:TG)(l:TT)(n:TE)(o:St)(Q:VK)(J:It)(h:Hp)(p:Addr):Prop:=∃W:Nat→Nat→List V→St→Hp→Prop,
 (∃m,W 0 m [] (dl k js o) (upd h p (.lst [])))∧∀i m ys f H',W i m ys f H'→(J.stop i H'∧Q (.ref p) H') ∨
  (J.go i H'∧ys.length<sizeLine∧∀x H2,J.yld i H' x H2→g x f H2 λc j=>l c j λb d=>if b=true then n c d λy e=>e p=some (.lst ys)∧∃a,a<m∧W (i+1) a (ys++[y]) c (upd e p (.lst (ys++[y])))
   else ∃a,a<m∧W (i+1) a ys c d)
def BJ(k:Nat)(js:List Nat)(d:TI)(g:TG)(b:TT)(c:TE):TE:=λσ H Q=>d σ H λa H1=>∀p,H1 p=none→AX k js g b c σ Q a H1 p
section
variable{X:Cx}{N:List Str}{scope:Scope}{cl:List (Str×Addr)}{k:Nat}{js:List Nat}
theorem eD{J D iter:Expr}{pos:Pos}{b5:TI}{g:TG}{b3:TE}(a5:X.calm=true)(t:LcOk X scope cl)(c6:N.length=k+js.length)(d1:∀(i j:Nat) x,js[i]?=some j→N[k+i]?=some x→X.N[j]?=some x∧Vis X.env.scope x∧X.env.scope.names.lookup x≠some .local∧((relabel scope X.env).names.lookup x=some .cell∨(relabel scope X.env).names.lookup x=some .free))(d0:PI X D iter b5)(c9:∀s H fp,PG (dc X N scope cl s H fp) D g)(c8:∀s H fp,PE (dc X N scope cl s H fp) J b3)(d7:∀x,foldedSetIterable iter X.env x=pure x:=by intro _;rfl):PE X (.ListComp J [⟨D,iter,[],0⟩] scope pos) (tLc k js b5 g b3):=by
 intro pins s σ H Q I h;rw[eval_ListComp];refine wpAny_comprehension_free (use:=none) rfl d7 t.clos t.kind t.names ?_;refine thn (d0 pins s σ H _ I h) λv g2 h1=>thn h1 λg1 a h2=>?_;obtain⟨e1,fp,b4,g0,H2,e,Z,T,b1,a2,c7⟩:=h2;subst e;have a6:∀b∈fp,b<a.heap.objs.size:=λb f=>by
  obtain⟨o,e,_⟩:=T.obj _ _ b1 b f;exact lt_size e
 refine wpAny_newObj_type (wpAny_newFunctionEnv t.nocell (by intro y e0;simp at e0) (λh₁ L O=>?_) t.kind);dsimp only at L O⊢;obtain⟨W,⟨e4,f6⟩,f5⟩:=c7 a.heap.objs.size (Z.hok.fresh (le_refl _));have C:Inv X pins σ (upd H2 a.heap.objs.size (.lst [])) {a with heap:=a.heap.push {cls:=.type "list",dict:=none,data:=.seq ([]:List Value).toArray}}:=Z.lnew (t':=a.toks) .nil (zero_le _)
 generalize a4:a.heap.push {cls:=.type "list",dict:=none,data:=.seq ([]:List Value).toArray}=q at L O C⊢;have d9:q.objs.size=a.heap.objs.size+1:=by rw[←a4,size_push]
 have e2:∀b o,a.heap.get? b=some o→q.get? b=some o:=λb o e=>by rw[←a4];exact get?_push_of_some _ e
 have z:∀b∈fp,gC X pins (upd H2 a.heap.objs.size (.lst [])) b:=λb f=>⟨by rw[ai (ne_of_lt (a6 b f))];exact(a2 b f).1,(a2 b f).2⟩;have K:∀b∈fp,b<q.objs.size:=λb f=>by rw[d9];exact lt_succ_of_lt (a6 b f)
 have a7:∀b o,q.get? b=some o→h₁.get? b=some o:=λb o e=>O.extBut b o (ne_of_lt (lt_size e)) (get?_push_of_some _ e);have b8:=jJ (N:=N) (k:=k) (js:=js) (tk:=a.toks+([]:List (Str×Value)).length) C t z K ⟨_,L⟩ a7 c6 d1;have b0:b4 0 h₁:=T.keep _ _ _ b1 λb f o e=>a7 b o (e2 b o e);have R:∀{H':Hp},(∀b∈fp,H' b=none)→∀b∈fp,gC (dc X N scope cl {a with heap:=q} (upd H2 a.heap.objs.size (.lst [])) fp) [] H' b:=λd5 b f =>
  ⟨d5 b f,ne_of_lt (K b f),(rM (N:=N) C t z K).exfs b f,.inl f,λx c h=>(z b f).2.2.2.2.1 x c (t.cells x c h),λp d6=>absurd (show p∈([]:List (Addr×Obj))from d6) (by simp)⟩
 have a8:codeAny (model X.prog X.w) X.A (.compLoop (.ListComp J [⟨D,iter,[],0⟩] scope pos) 0 (.ref e1) (.ref a.heap.objs.size) (compEnvC scope cl q.objs.size X.env))
   (compPost (model X.prog X.w) X.A X.xe none (EP X pins σ Q) (.ref a.heap.objs.size) q.objs.size) {a with heap:=h₁,toks:=a.toks+([]:List (Str×Value)).length}:=by
  refine rO (λn s'=>∃i ys b6 H',Inv (dc X N scope cl {a with heap:=q} (upd H2 a.heap.objs.size (.lst [])) fp) [] b6 H' s'∧b4 i s'.heap∧(∀b∈fp,H' b=none)∧W i n ys b6 H') ?_ e4 ⟨0,[],_,_,b8,b0,λb f=>(z b f).1,f6⟩
  rintro n a9 ⟨i,ys,F,B,a0,b2,a3,f7⟩;rcases f5 i n ys F B f7 with⟨f4,e7⟩|⟨go,d2,step⟩
  ·refine thn (T.done (dc X N scope cl {a with heap:=q} (upd H2 a.heap.objs.size (.lst [])) fp) rfl rfl rfl a5 i [] a9 F B (λ_ _=>False) a0 (R a3) b2 f4) λr f0 l=>?_
   obtain⟨M,a1⟩:=l;subst M;obtain⟨m,d3,_⟩:=a1.loc;exact⟨m,d3,λh' d8=>⟨.ref a.heap.objs.size,B,qk C z a1 d8,rfl,e7⟩⟩
  ·refine thn (T.item (dc X N scope cl {a with heap:=q} (upd H2 a.heap.objs.size (.lst [])) fp) rfl rfl rfl a5 i [] a9 F B (λ_ _=>False) a0 (R a3) b2 go) λr f0 l=>?_
   obtain⟨u,M,c5⟩:=l;subst M;refine thn c5 λ_ f1 l=>?_;obtain⟨x,U,b9,e8,f9,P,c4⟩:=l;have c0:=b9.pinned (R c4) (T.obj _ _ P);refine thn (c9 _ _ _ _ f1 F U x u _ c0 e8 (step x U f9)) λ_ f2 l=>?_;obtain⟨S,b7,c1,e5⟩:=l;refine thn (c8 _ _ _ _ f2 S b7 _ c1 e5) λy f3 l=>?_;obtain⟨E,V,c2,e9,e6,e3,d4,f8⟩:=l;refine thn (bn _ f3 S V (.ref a.heap.objs.size) [E] _ _ (λ_ Y=>Y=upd V a.heap.objs.size (.lst (ys++[E]))) c2 rfl (.cons e9 .nil) ⟨_,ys,E,rfl,rfl,e6,d2,rfl⟩) λ_ g3 l=>?_;obtain⟨_,Y,G,_,c3⟩:=l;subst c3;refine⟨e3,d4,i+1,ys++[E],S,_,G.unpinned,T.keep _ _ _ P λb f o e=>(G.pin (b,o) (mem_append_right _ (mem_append_right _ (bx f e)))).1,λb f=>?_,f8⟩;obtain⟨o,e,d⟩:=T.obj _ _ P b f;exact(G.pin (b,o) (mem_append_right _ (mem_append_right _ (bx f e)))).2.1
 exact codeAny_compStart_list a8 (T.self _ 0 _ _ _ b0 a8)
theorem iC{P J iter c:Expr}{pos:Pos}{c3:TI}{g:TG}{c0:TT}{c1:TE}(b2:X.calm=true)(t:LcOk X scope cl)(d2:N.length=k+js.length)(d7:∀(i j:Nat) x,js[i]?=some j→N[k+i]?=some x→X.N[j]?=some x∧Vis X.env.scope x∧X.env.scope.names.lookup x≠some .local∧((relabel scope X.env).names.lookup x=some .cell∨(relabel scope X.env).names.lookup x=some .free))(d6:PI X J iter c3)(d5:∀s H fp,PG (dc X N scope cl s H fp) J g)(e5:∀s H fp,PT (dc X N scope cl s H fp) c c0)(d4:∀s H fp,PE (dc X N scope cl s H fp) P c1)(e2:∀x,foldedSetIterable iter X.env x=pure x:=by intro _;rfl):PE X (.ListComp P [⟨J,iter,[c],0⟩] scope pos) (BJ k js c3 g c0 c1):=by
 intro pins s σ H Q I h;rw[eval_ListComp];refine wpAny_comprehension_free (use:=none) rfl e2 t.clos t.kind t.names ?_;refine thn (d6 pins s σ H _ I h) λv g4 h1=>thn h1 λg3 f h2=>?_;obtain⟨e7,fp,c2,g2,H2,e,a6,T,b8,a9,d3⟩:=h2;subst e;have b3:∀b∈fp,b<f.heap.objs.size:=λb a=>by
  obtain⟨o,e,_⟩:=T.obj _ _ b8 b a;exact lt_size e
 refine wpAny_newObj_type (wpAny_newFunctionEnv t.nocell (by intro y e6;simp at e6) (λh₁ U Y=>?_) t.kind);dsimp only at U Y⊢;obtain⟨W,⟨e9,f9⟩,f8⟩:=d3 f.heap.objs.size (a6.hok.fresh (le_refl _));have G:Inv X pins σ (upd H2 f.heap.objs.size (.lst [])) {f with heap:=f.heap.push {cls:=.type "list",dict:=none,data:=.seq ([]:List Value).toArray}}:=a6.lnew (t':=f.toks) .nil (zero_le _)
 generalize b1:f.heap.push {cls:=.type "list",dict:=none,data:=.seq ([]:List Value).toArray}=q at U Y G⊢;have e4:q.objs.size=f.heap.objs.size+1:=by rw[←b1,size_push]
 have e8:∀b o,f.heap.get? b=some o→q.get? b=some o:=λb o e=>by rw[←b1];exact get?_push_of_some _ e
 have C:∀b∈fp,gC X pins (upd H2 f.heap.objs.size (.lst [])) b:=λb a=>⟨by rw[ai (ne_of_lt (b3 b a))];exact(a9 b a).1,(a9 b a).2⟩;have R:∀b∈fp,b<q.objs.size:=λb a=>by rw[e4];exact lt_succ_of_lt (b3 b a)
 have b4:∀b o,q.get? b=some o→h₁.get? b=some o:=λb o e=>Y.extBut b o (ne_of_lt (lt_size e)) (get?_push_of_some _ e);have c5:=jJ (N:=N) (k:=k) (js:=js) (tk:=f.toks+([]:List (Str×Value)).length) G t C R ⟨_,U⟩ b4 d2 d7;have b7:c2 0 h₁:=T.keep _ _ _ b8 λb a o e=>b4 b o (e8 b o e);have a1:∀{H':Hp},(∀b∈fp,H' b=none)→∀b∈fp,gC (dc X N scope cl {f with heap:=q} (upd H2 f.heap.objs.size (.lst [])) fp) [] H' b:=λe0 b a =>
  ⟨e0 b a,ne_of_lt (R b a),(rM (N:=N) G t C R).exfs b a,.inl a,λx c h=>(C b a).2.2.2.2.1 x c (t.cells x c h),λp e1=>absurd (show p∈([]:List (Addr×Obj))from e1) (by simp)⟩
 have b5:codeAny (model X.prog X.w) X.A (.compLoop (.ListComp P [⟨J,iter,[c],0⟩] scope pos) 0 (.ref e7) (.ref f.heap.objs.size) (compEnvC scope cl q.objs.size X.env))
   (compPost (model X.prog X.w) X.A X.xe none (EP X pins σ Q) (.ref f.heap.objs.size) q.objs.size) {f with heap:=h₁,toks:=f.toks+([]:List (Str×Value)).length}:=by
  refine uF (λn s'=>∃i ys c4 H',Inv (dc X N scope cl {f with heap:=q} (upd H2 f.heap.objs.size (.lst [])) fp) [] c4 H' s'∧c2 i s'.heap∧(∀b∈fp,H' b=none)∧W i n ys c4 H') ?_ e9 ⟨0,[],_,_,c5,b7,λb a=>(C b a).1,f9⟩
  rintro n b6 ⟨i,ys,L,F,a7,b9,b0,g0⟩;rcases f8 i n ys L F g0 with⟨f7,f1⟩|⟨go,d8,step⟩
  ·refine thn (T.done (dc X N scope cl {f with heap:=q} (upd H2 f.heap.objs.size (.lst [])) fp) rfl rfl rfl b2 i [] b6 L F (λ_ _=>False) a7 (a1 b0) b9 f7) λr f4 l=>?_
   obtain⟨V,a8⟩:=l;subst V;obtain⟨m,d9,_⟩:=a8.loc;exact⟨m,d9,λh' e3=>⟨.ref f.heap.objs.size,F,qk G C a8 e3,rfl,f1⟩⟩
  ·refine thn (T.item (dc X N scope cl {f with heap:=q} (upd H2 f.heap.objs.size (.lst [])) fp) rfl rfl rfl b2 i [] b6 L F (λ_ _=>False) a7 (a1 b0) b9 go) λr f4 l=>?_
   obtain⟨u,V,d1⟩:=l;subst V;refine thn d1 λ_ f5 l=>?_;obtain⟨x,a3,c6,f2,g1,D,d0⟩:=l;have c7:=c6.pinned (a1 d0) (T.obj _ _ D);refine thn (d5 _ _ _ _ f5 L a3 x u _ c7 f2 (step x a3 g1)) λ_ a0 l=>?_;obtain⟨E,M,z,B⟩:=l;refine thn (e5 _ _ _ _ a0 E M _ z B) λb a0 l=>?_;obtain⟨M,z,B⟩:=l;cases b with
   |true =>
    rw[if_pos rfl]at B⊢;refine thn (d4 _ _ _ _ a0 E M _ z B) λy f6 l=>?_;obtain⟨K,a4,c8,f3,f0,Z,S,a2⟩:=l;refine thn (bn _ f6 E a4 (.ref f.heap.objs.size) [K] _ _ (λ_ a5=>a5=upd a4 f.heap.objs.size (.lst (ys++[K]))) c8 rfl (.cons f3 .nil) ⟨_,ys,K,rfl,rfl,f0,d8,rfl⟩) λ_ g5 l=>?_;obtain⟨_,a5,O,_,c9⟩:=l;subst c9;refine⟨Z,S,i+1,ys++[K],E,_,O.unpinned,T.keep _ _ _ D λb a o e=>(O.pin (b,o) (mem_append_right _ (mem_append_right _ (bx a e)))).1,λb a=>?_,a2⟩;obtain⟨o,e,d⟩:=T.obj _ _ D b a;exact(O.pin (b,o) (mem_append_right _ (mem_append_right _ (bx a e)))).2.1
   |false =>
    rw[if_neg (by simp)]at B⊢;obtain⟨Z,S,a2⟩:=B;refine⟨Z,S,i+1,ys,E,_,z.unpinned,T.keep _ _ _ D λb a o e=>(z.pin (b,o) (mem_append_right _ (mem_append_right _ (bx a e)))).1,λb a=>?_,a2⟩;obtain⟨o,e,d⟩:=T.obj _ _ D b a;exact(z.pin (b,o) (mem_append_right _ (mem_append_right _ (bx a e)))).2.1
 exact codeAny_compStart_list b5 (T.self _ 0 _ _ _ b7 b5)
end
end L2
namespace TB
open PySem PySem.SetTable
def adv(mask:Nat)(p:Probe):Probe :=
 if p.more>0 then {p with j:=p.j+1,more:=p.more-1} else
 {p with j:=(leap mask p.i p.perturb).1,more:=runEnd mask (leap mask p.i p.perturb).1-(leap mask p.i p.perturb).1,i:=(leap mask p.i p.perturb).1,perturb:=(leap mask p.i p.perturb).2}
theorem gI(t:SetTable)(p:Probe):advance t p=adv t.mask p:=rfl
def lvP(mask:Nat)(x:Nat×Nat):Probe:={j:=x.1,more:=runEnd mask x.1-x.1,i:=x.1,perturb:=x.2,dummy:=none}
def st(mask:Nat)(h:Int):Probe:=lvP mask (bits h % (mask+1),bits h)
def nth(mask:Nat):Probe→Nat→Probe
 |p,0=>p
 |p,n+1=>nth mask (adv mask p) n
theorem eP(mask:Nat):∀(a b:Nat)(p:Probe),nth mask p (a+b)=nth mask (nth mask p a) b
 |0,b,p=>by rw[zero_add];rfl
 |a+1,b,p=>by
  rw[show a+1+b=(a+b)+1 by omega];show nth mask (adv mask p) (a+b)=nth mask (nth mask (adv mask p) a) b;exact eP mask a b _
theorem uG(mask:Nat)(p:Probe)(n:Nat):nth mask p (n+1)=adv mask (nth mask p n):=by
 rw[eP];rfl
def pos(mask:Nat)(h:Int)(n:Nat):Nat:=(nth mask (st mask h) n).j
theorem lH(mask:Nat):∀(m:Nat)(p:Probe),p.more=m→nth mask p m={p with j:=p.j+m,more:=0}
 |0,p,h=>by
  show p=_;cases p;simp at h;subst h;rfl
 |m+1,p,h=>by
  show nth mask (adv mask p) m=_;have e:adv mask p={p with j:=p.j+1,more:=m}:=by
   unfold adv;rw[if_pos (by omega),h];rfl
  rw[e,lH mask m _ rfl];simp only[Probe.mk.injEq,and_true];omega
theorem oH(mask:Nat):∀(m:Nat)(p:Probe),m≤p.more→nth mask p m={p with j:=p.j+m,more:=p.more-m}
 |0,p,h=>by
  show p=_;cases p;rfl
 |m+1,p,h=>by
  show nth mask (adv mask p) m=_;have e:adv mask p={p with j:=p.j+1,more:=p.more-1}:=by
   unfold adv;rw[if_pos (by omega)]
  rw[e,oH mask m _ (by show m≤p.more-1;omega)];simp only[Probe.mk.injEq,and_true];omega
theorem gJ(mask:Nat)(x:Nat×Nat):nth mask (lvP mask x) (runEnd mask x.1-x.1+1)=lvP mask (leap mask x.1 x.2):=by
 have e:=lH mask (runEnd mask x.1-x.1) (lvP mask x) rfl;rw[uG,e];unfold adv;rw[if_neg (by simp)];rfl
theorem zk(mask i:Nat):runEnd mask i-i≤9:=by unfold runEnd;split<;>omega
def lv(mask:Nat):Nat→Nat×Nat→Nat×Nat
 |0,x=>x
 |k+1,x=>lv mask k (leap mask x.1 x.2)
theorem ql(mask:Nat):∀(a b:Nat)(x:Nat×Nat),lv mask (a+b) x=lv mask b (lv mask a x)
 |0,b,x=>by rw[zero_add];rfl
 |a+1,b,x=>by
  rw[show a+1+b=(a+b)+1 by omega];exact ql mask a b _
theorem oI(mask:Nat):∀(k:Nat)(x:Nat×Nat),∃n,n≤10*k∧nth mask (lvP mask x) n=lvP mask (lv mask k x)
 |0,x=>⟨0,by omega,rfl⟩
 |k+1,x=>by
  obtain⟨n,a,e⟩:=oI mask k (leap mask x.1 x.2);refine⟨(runEnd mask x.1-x.1+1)+n,?_,?_⟩
  ·have:=zk mask x.1;omega
  ·rw[eP,gJ];exact e
theorem gK(mask:Nat):∀(k:Nat)(x:Nat×Nat),(lv mask k x).2=x.2 / 32 ^ k
 |0,x=>by simp[lv]
 |k+1,x=>by
  show(lv mask k (leap mask x.1 x.2)).2=_;rw[gK mask k];show x.2 / 32 / 32 ^ k=_;rw[Nat.div_div_eq_div_mul,Nat.pow_succ,Nat.mul_comm 32]
theorem rP(mask:Nat):∀(k:Nat)(x:Nat×Nat),x.1≤mask→(lv mask k x).1≤mask
 |0,x,h=>h
 |k+1,x,h=>rP mask k _ (by show(x.1*5+1+x.2 / 32) % (mask+1)≤mask;have:=mod_lt (x.1*5+1+x.2 / 32) (show 0<mask+1 by omega);omega)
theorem rQ(h:Int):bits h<2 ^ 64:=by
 unfold bits;have h1:=emod_nonneg h (b:=2 ^ 64) (by decide);have h2:=Int.emod_lt_of_pos h (b:=2 ^ 64) (by decide);omega
def gW(mask:Nat):Nat→Nat→Nat
 |0,i=>i
 |k+1,i=>gW mask k ((i*5+1) % (mask+1))
theorem jL(mask:Nat):∀(k i:Nat),lv mask k (i,0)=(gW mask k i,0)
 |0,i=>rfl
 |k+1,i=>by
  show lv mask k ((i*5+1+0 / 32) % (mask+1),0 / 32)=_;simp only[Nat.zero_div,Nat.add_zero];exact jL mask k _
def Cyc(mask:Nat):Prop:=∀i,i≤mask→∀j,j≤mask→∃k,k≤mask∧gW mask k i=j
theorem gf(mask:Nat):∀(a b i:Nat),gW mask (a+b) i=gW mask b (gW mask a i)
 |0,b,i=>by rw[zero_add];rfl
 |a+1,b,i=>by
  rw[show a+1+b=(a+b)+1 by omega];exact gf mask a b _
def xa(mask:Nat):Nat→Nat→List Nat
 |0,_=>[]
 |n+1,i=>i::xa mask n ((i*5+1) % (mask+1))
theorem oJ{mask j:Nat}:∀{n i:Nat},j∈xa mask n i→∃k,k<n∧gW mask k i=j
 |0,_,h=>by simp[xa]at h
 |n+1,i,h=>by
  rcases mem_cons.mp h with e|e
  ·exact⟨0,by omega,e.symm⟩
  ·obtain⟨k,b,a⟩:=oJ e;exact⟨k+1,by omega,a⟩
theorem uH{mask:Nat}(g:gW mask (mask+1) 0=0)(d:(List.range (mask+1)).all (λj=>(xa mask (mask+1) 0).contains j)=true):Cyc mask:=by
 have all:∀j,j≤mask→∃k,k≤mask∧gW mask k 0=j:=λj f=>by
  rw[all_eq_true]at d;have h1:=d j (mem_range.mpr (by omega));rw[List.contains_iff_mem]at h1;obtain⟨k,n,e⟩:=oJ h1;exact⟨k,by omega,e⟩
 intro i hi j f;obtain⟨a,h,ea⟩:=all i hi;obtain⟨b,m,c⟩:=all j f
 by_cases l:a≤b
 ·refine⟨b-a,by omega,?_⟩;rw[←ea,←gf,show a+(b-a)=b by omega];exact c
 ·refine⟨mask+1-a+b,by omega,?_⟩;rw[←ea,←gf,show a+(mask+1-a+b)=(mask+1)+b by omega,gf,g];exact c
def Mk(m:Nat):Prop:=m=7∨m=15∨m=31∨m=63∨m=127∨m=255
theorem Mk.cyc{m:Nat}(h:Mk m):Cyc m:=by
 rcases h with e|e|e|e|e|e<;>subst e<;>exact uH (by decide +kernel) (by decide +kernel)
theorem Mk.ge{m:Nat}(h:Mk m):7≤m∧m≤255:=by rcases h with e|e|e|e|e|e<;>subst e<;>omega
theorem Mk.odd{m:Nat}(h:Mk m):m % 2=1:=by rcases h with e|e|e|e|e|e<;>subst e<;>rfl
def mkB(m:Nat):Bool:=m==7||m==15||m==31||m==63||m==127||m==255
theorem zl:(List.range 256).all (λw=>mkB (sizeAbove w-1)&&decide (w≤sizeAbove w-1)&&decide (sizeAbove w≤256))=true:=by decide +kernel
theorem gX{w:Nat}(h:w≤255):Mk (sizeAbove w-1)∧w≤sizeAbove w-1∧sizeAbove w≤256:=by
 have h1:=(all_eq_true.mp zl) w (mem_range.mpr (by omega));rw[and_eq_true,and_eq_true,decide_eq_true_eq,decide_eq_true_eq]at h1;refine⟨?_,h1.1.2,h1.2⟩;have h2:=h1.1.1;unfold mkB at h2;rw[or_eq_true,or_eq_true,or_eq_true,or_eq_true,or_eq_true,beq_iff_eq,beq_iff_eq,beq_iff_eq,beq_iff_eq,beq_iff_eq,beq_iff_eq]at h2;rcases h2 with ((((h|h)|h)|h)|h)|h
 ·exact .inl h
 ·exact .inr (.inl h)
 ·exact .inr (.inr (.inl h))
 ·exact .inr (.inr (.inr (.inl h)))
 ·exact .inr (.inr (.inr (.inr (.inl h))))
 ·exact .inr (.inr (.inr (.inr (.inr h))))
theorem cover{mask:Nat}(c:Cyc mask)(a:Int){j:Nat}(f:j≤mask):∃n,n<10*turns mask∧pos mask a n=j:=by
 have d:(lv mask 13 (bits a % (mask+1),bits a)).2=0:=by
  rw[gK];have:=rQ a;exact Nat.div_eq_of_lt (by have e:(32:Nat) ^ 13=36893488147419103232:=(by decide);rw[e];show bits a<_;omega)
 have h1:(lv mask 13 (bits a % (mask+1),bits a)).1≤mask:=rP mask _ _ (by have:=mod_lt (bits a) (show 0<mask+1 by omega);show bits a % (mask+1)≤mask;omega);obtain⟨k,g,e⟩:=c _ h1 j f;obtain⟨n,h,b⟩:=oI mask (13+k) (bits a % (mask+1),bits a);refine⟨n,by unfold turns;omega,?_⟩;unfold pos st;rw[b,ql];have ex:lv mask 13 (bits a % (mask+1),bits a)=((lv mask 13 (bits a % (mask+1),bits a)).1,0):=by rw[←d]
 rw[ex,jL];exact e
def InT(mask:Nat)(p:Probe):Prop:=p.j+p.more≤mask
theorem iD{mask i:Nat}(h:i≤mask):runEnd mask i≤mask∧i≤runEnd mask i:=by unfold runEnd;split<;>omega
theorem xb{mask:Nat}{p:Probe}(b:InT mask p):InT mask (adv mask p):=by
 unfold adv InT at *
 split
 ·show p.j+1+(p.more-1)≤mask;omega
 ·have a:(leap mask p.i p.perturb).1≤mask:=by
   show(p.i*5+1+p.perturb / 32) % (mask+1)≤mask;have:=mod_lt (p.i*5+1+p.perturb / 32) (show 0<mask+1 by omega);omega
  have:=iD a;show(leap mask p.i p.perturb).1+(runEnd mask (leap mask p.i p.perturb).1-(leap mask p.i p.perturb).1)≤mask;omega
theorem rS{mask:Nat}:∀(n:Nat){p:Probe},InT mask p→InT mask (nth mask p n)
 |0,_,h=>h
 |n+1,_,h=>rS n (xb h)
theorem zm{mask:Nat}{x:Nat×Nat}(h:x.1≤mask):InT mask (lvP mask x):=by
 have:=iD h;show x.1+(runEnd mask x.1-x.1)≤mask;omega
theorem iE(mask:Nat)(h:Int)(n:Nat):pos mask h n≤mask:=by
 have:InT mask (nth mask (st mask h) n):=rS n (zm (by have:=mod_lt (bits h) (show 0<mask+1 by omega);show bits h % (mask+1)≤mask;omega));unfold InT at this;unfold pos;omega
theorem jM(E:Nat→Prop):∀N,E N→∃n,n≤N∧E n∧∀m,m<n→¬E m
 |N,h=>by
  induction N using Nat.strongRecOn with
  |_ N c =>
   by_cases z:∃m,m<N∧E m
   ·obtain⟨m,a,e⟩:=z;obtain⟨n,f,b,d⟩:=c m a e;exact⟨n,by omega,b,d⟩
   ·exact⟨N,le_refl _,h,λm a e=>z ⟨m,a,e⟩⟩
theorem iF(mask:Nat):∀(n:Nat)(p:Probe),(nth mask p n).dummy=p.dummy
 |0,_=>rfl
 |n+1,p=>by
  show(nth mask (adv mask p) n).dummy=_;rw[iF mask n];unfold adv
  split<;>rfl
theorem jN(t:SetTable)(c:Nat→Int)(b:Int):∀(n:Nat)(p:Probe)(a:Nat),n<a →
  (∀m,m<n→∃i,t.slot (nth t.mask p m).j=.live i∧(c i==b)=false)→t.slot (nth t.mask p n).j=.empty →
  probe.go t c b a p=some (.empty (nth t.mask p n).j p.dummy)
 |0,p,a+1,_,_,e=>by
  have d:t.slot p.j=.empty:=e;unfold probe.go;rw[d];rfl
 |n+1,p,a+1,hf,hl,e=>by
  obtain⟨i,h1,h2⟩:=hl 0 (by omega);have f:t.slot p.j=.live i:=h1;unfold probe.go;rw[f];simp only[h2,false_eq_true,if_false,gI];rw[jN t c b n (adv t.mask p) a (by omega) (λm g=>hl (m+1) (by omega)) e]
  congr 2
  exact iF t.mask 1 p
theorem rT(t:SetTable)(c:Nat→Int)(b:Int)(i:Nat):∀(n:Nat)(p:Probe)(a:Nat),n<a →
  (∀m,m<n→∃i,t.slot (nth t.mask p m).j=.live i∧(c i==b)=false)→t.slot (nth t.mask p n).j=.live i→(c i==b)=true →
  probe.go t c b a p=some (.candidate (nth t.mask p n).j i (nth t.mask p (n+1)))
 |0,p,a+1,_,_,e,hh=>by
  have d:t.slot p.j=.live i:=e;unfold probe.go;rw[d];simp only[hh,if_true,gI];rfl
 |n+1,p,a+1,hf,hl,e,hh=>by
  obtain⟨i',h1,h2⟩:=hl 0 (by omega);have f:t.slot p.j=.live i':=h1;unfold probe.go;rw[f];simp only[h2,false_eq_true,if_false,gI];rw[rT t c b i n (adv t.mask p) a (by omega) (λm g=>hl (m+1) (by omega)) e hh];rfl
theorem jO(xs:Array Nat)(j:Nat)(d:∀a b,a<b→b<xs.size→xs.getD a 0<xs.getD b 0):∀(c lo hi:Nat),hi-lo≤c→lo≤hi→hi≤xs.size →
  (∀k,k<lo→xs.getD k 0<j)→(∀k,hi≤k→k<xs.size→j≤xs.getD k 0) →
  below.go xs j c lo hi≤xs.size∧(∀k,k<below.go xs j c lo hi→xs.getD k 0<j)∧(∀k,below.go xs j c lo hi≤k→k<xs.size→j≤xs.getD k 0)
 |0,lo,hi,hf,hl,hh,h1,h2=>by
  have e:lo=hi:=by omega
  subst e;exact⟨hh,h1,h2⟩
 |c+1,lo,hi,hf,hl,hh,h1,h2=>by
  unfold below.go
  by_cases g:lo<hi
  ·rw[if_pos g];have m:(lo+hi) / 2<hi:=by omega
   have n:lo≤(lo+hi) / 2:=by omega
   have h:xs.getD ((lo+hi) / 2) j=xs.getD ((lo+hi) / 2) 0:=by
    rw[getD_eq_getD_getElem?,getD_eq_getD_getElem?,Array.getElem?_eq_getElem (by omega)];rfl
   simp only[h]
   split
   ·rename_i f
    refine jO xs j d c _ hi (by omega) (by omega) hh (λk i=>?_) h2
    by_cases e:k=(lo+hi) / 2
    ·rw[e];exact f
    ·have:=d k ((lo+hi) / 2) (by omega) (by omega);omega
   ·rename_i f
    refine jO xs j d c lo _ (by omega) (by omega) (by omega) h1 (λk i l=>?_)
    by_cases e:k=(lo+hi) / 2
    ·rw[e];omega
    ·have:=d ((lo+hi) / 2) k (by omega) l;omega
  ·rw[if_neg g];have e:lo=hi:=by omega
   subst e;exact⟨hh,h1,h2⟩
def Up(l:List Nat):Prop:=l.Pairwise (· < ·)
theorem zn{l:List Nat}(c:Up l){a b:Nat}(e:a<b)(d:b<l.length):l.toArray.getD a 0<l.toArray.getD b 0:=by
 unfold Up at c;have:=pairwise_iff_getElem.mp c a b (by omega) d e;simp[getD_eq_getD_getElem?,show a<l.length by omega,d];exact this
theorem cP{l:List Nat}(d:Up l)(j:Nat):below l.toArray j≤l.length∧(∀k (c:k<l.length),k<below l.toArray j→l[k]<j)∧(∀k (c:k<l.length),below l.toArray j≤k→j≤l[k]):=by
 have:=jO l.toArray j (λa b e f=>zn d e (by simpa using f)) l.toArray.size 0 l.toArray.size (by omega) (by omega) (le_refl _) (by intro k c;omega) (by intro k c g;omega);unfold below;refine⟨by simpa using this.1,λk c h1=>?_,λk c h1=>?_⟩
 ·have:=this.2.1 k h1;simpa [getD_eq_getD_getElem?,c]using this
 ·have:=this.2.2 k h1 (by simpa using c);simpa [getD_eq_getD_getElem?,c]using this
structure Tb(t:SetTable)(l:List Nat):Prop where
 pl:t.place=l.toArray
 nd:t.dummies=#[]
 up:Up l
 le:∀j∈l,j≤t.mask
theorem rU(j:Nat):has #[] j=false:=by
 unfold has;simp
theorem jl{t:SetTable}{l:List Nat}(T:Tb t l){i j:Nat}(a:l[i]?=some j):t.slot j=.live i:=by
 obtain⟨hi,e⟩:=List.getElem?_eq_some_iff.mp a;obtain⟨f,b,c⟩:=cP T.up j;have d:below l.toArray j=i:=by
  rcases Nat.lt_trichotomy (below l.toArray j) i with z|z|z
  ·have:=c (below l.toArray j) (by omega) (le_refl _);have:=pairwise_iff_getElem.mp T.up (below l.toArray j) i (by omega) hi z;omega
  ·exact z
  ·have:=b i hi z;omega
 unfold SetTable.slot;rw[T.pl,d];simp[a]
theorem oK{t:SetTable}{l:List Nat}(T:Tb t l){j:Nat}(a:j∉l):t.slot j=.empty:=by
 unfold SetTable.slot;rw[T.pl,T.nd,rU];have:¬(l.toArray[below l.toArray j]?==some j)=true:=by
  intro z;have b:l[below l.toArray j]?=some j:=by simpa using z
  exact a (mem_of_getElem? b)
 simp only[this,false_eq_true,if_false]
theorem sY{l:List Nat}(d:Up l){j:Nat}(m:j∉l):Up (l.take (below l.toArray j)++j::l.drop (below l.toArray j)):=by
 obtain⟨p,h,i⟩:=cP d j;unfold Up;rw[List.pairwise_append,pairwise_cons];have n:(l.take (below l.toArray j)).Pairwise (· < ·):=Pairwise.sublist (take_sublist _ _) d;have o:(l.drop (below l.toArray j)).Pairwise (· < ·):=Pairwise.sublist (List.drop_sublist _ _) d;have h1:∀a∈l.take (below l.toArray j),a<j:=by
  intro a c;obtain⟨k,g,e⟩:=mem_iff_getElem.mp c;rw[length_take]at g;rw[getElem_take]at e;rw[←e];exact h k (by omega) (by omega)
 have h2:∀a∈l.drop (below l.toArray j),j<a:=by
  intro a c;have q:a≠j:=λe=>m (e ▸ List.mem_of_mem_drop c);obtain⟨k,g,e⟩:=mem_iff_getElem.mp c;rw[length_drop]at g;rw[List.getElem_drop]at e;have:=i (below l.toArray j+k) (by omega) (by omega);omega
 refine⟨n,⟨h2,o⟩,λa c b f=>?_⟩;rcases mem_cons.mp f with rfl|f
 ·exact h1 a c
 ·have:=h1 a c;have:=h2 b f;omega
theorem uI{t:SetTable}{l:List Nat}(T:Tb t l){j:Nat}(c:j∉l)(d:j≤t.mask):Tb (t.put j).1 (l.take (below l.toArray j)++j::l.drop (below l.toArray j))∧(t.put j).2=below l.toArray j∧(t.put j).1.mask=t.mask:=by
 refine⟨⟨?_,?_,sY T.up c,?_⟩,?_,rfl⟩
 ·show insertAt t.place (below t.place j) j=_;rw[T.pl];apply Array.toList_inj.mp;rw[SetTable.toList_insertAt]
 ·show(if has t.dummies j=true then _ else t.dummies)=#[];rw[T.nd,rU];rfl
 ·intro a b;rcases mem_append.mp b with h|h
  ·exact T.le a (List.mem_of_mem_take h)
  ·rcases mem_cons.mp h with rfl|h
   ·exact d
   ·exact T.le a (List.mem_of_mem_drop h)
 ·show below t.place j=_;rw[T.pl]
def gp(mask:Nat)(zs:List (Nat×Int)):Prop:=∀z∈zs,∃n,pos mask z.2 n=z.1∧∀m,m<n→pos mask z.2 m∈zs.map (·.1)
theorem gp.nil(mask:Nat):gp mask []:=by intro z a;simp at a
theorem gp.mono{mask:Nat}{zs ys:List (Nat×Int)}(d:gp mask zs)(new:Nat×Int)(a:∀z∈ys,z∈zs∨z=new)(h:∀z∈zs,z∈ys)(g:∃n,pos mask new.2 n=new.1∧∀m,m<n→pos mask new.2 m∈zs.map (·.1)):gp mask ys:=by
 intro z j;have c:∀b,b∈zs.map (·.1)→b∈ys.map (·.1):=λb f=>by
  obtain⟨y,i,e⟩:=mem_map.mp f;exact mem_map.mpr ⟨y,h y i,e⟩
 rcases a z j with h1|h1
 ·obtain⟨n,e,p⟩:=d z h1;exact⟨n,e,λm a=>c _ (p m a)⟩
 ·subst h1;obtain⟨n,e,p⟩:=g;exact⟨n,e,λm a=>c _ (p m a)⟩
def emp(owner:Array (Option Nat))(j:Nat):Bool:=(owner.getD j (some 0)).isNone
theorem lI(mask:Nat)(owner:Array (Option Nat)):∀(a:Nat)(x:Nat×Nat),x.1≤mask→(∃k,k<a∧emp owner (lv mask k x).1=true) →
  ∃j n,layClean.free mask owner a x.1 x.2=some j∧(nth mask (lvP mask x) n).j=j∧emp owner j=true∧∀m,m<n→emp owner (nth mask (lvP mask x) m).j=false
 |0,x,_,h=>by obtain⟨k,c,_⟩:=h;omega
 |a+1,x,hx,h=>by
  unfold layClean.free;have w:=iD hx;have d:∀m,m≤runEnd mask x.1-x.1→(nth mask (lvP mask x) m).j=x.1+m:=λm b=>by
   rw[oH mask m (lvP mask x) b];rfl
  cases e:(List.range (runEnd mask x.1+1-x.1)).find? (λk=>(owner.getD (x.1+k) (some 0)).isNone)with
  |some k =>
   rw[List.find?_range_eq_some]at e;obtain⟨g,i,l⟩:=e;have c:k≤runEnd mask x.1-x.1:=by have:=mem_range.mp i;omega
   refine⟨x.1+k,k,rfl,d k c,g,λm b=>?_⟩;rw[d m (by omega)];have:=l m b;simpa [emp]using this
  |none =>
   rw[List.find?_range_eq_none]at e;obtain⟨k,c,h1⟩:=h;have v:k≠0:=by
    rintro rfl;have:=e 0 (by omega);have s:(owner.getD x.1 (some 0)).isNone=true:=h1;rw[Nat.add_zero,s]at this;simp at this
   obtain⟨f,rfl⟩:∃f,k=f+1:=⟨k-1,by omega⟩;have t:(leap mask x.1 x.2).1≤mask:=rP mask 1 x hx;obtain⟨j,n,o,p,q,r⟩:=lI mask owner a (leap mask x.1 x.2) t ⟨f,by omega,h1⟩;refine⟨j,(runEnd mask x.1-x.1+1)+n,o,?_,q,λm b=>?_⟩
   ·rw[eP,gJ];exact p
   ·by_cases u:m≤runEnd mask x.1-x.1
    ·rw[d m u];have:=e m (by omega);simpa [emp]using this
    ·obtain⟨m',rfl⟩:∃m',m=(runEnd mask x.1-x.1+1)+m':=⟨m-(runEnd mask x.1-x.1+1),by omega⟩;rw[eP,gJ];exact r m' (by omega)
theorem xf{mask:Nat}(c:Cyc mask)(owner:Array (Option Nat))(a:Int){b:Nat}(h:b≤mask)(g:emp owner b=true):
  ∃j n,layClean.free mask owner (turns mask) (bits a % (mask+1)) (bits a)=some j∧pos mask a n=j∧emp owner j=true∧∀m,m<n→emp owner (pos mask a m)=false:=by
 have f:(lv mask 13 (bits a % (mask+1),bits a)).2=0:=by
  rw[gK];have:=rQ a;exact Nat.div_eq_of_lt (by have e:(32:Nat) ^ 13=36893488147419103232:=(by decide);rw[e];show bits a<_;omega)
 have d:bits a % (mask+1)≤mask:=by have:=mod_lt (bits a) (show 0<mask+1 by omega);omega
 have h1:(lv mask 13 (bits a % (mask+1),bits a)).1≤mask:=rP mask _ _ d;obtain⟨k,i,e⟩:=c _ h1 b h;refine lI mask owner (turns mask) (bits a % (mask+1),bits a) d ⟨13+k,by unfold turns;omega,?_⟩;rw[ql];have ex:lv mask 13 (bits a % (mask+1),bits a)=((lv mask 13 (bits a % (mask+1),bits a)).1,0):=by rw[←f]
 rw[ex,jL,e];exact g
def live(mask:Nat)(owner:Array (Option Nat)):List (Nat×Nat):=(List.range (mask+1)).filterMap λj=>(owner.getD j none).map (j,·)
theorem fj{d j:Type}{f g:d→Option j}:∀{l:List d},(∀x∈l,g x=f x)→l.filterMap g=l.filterMap f
 |[],_=>rfl
 |x::l,h=>by
  have c:=fj (l:=l) λy i=>h y (mem_cons_of_mem _ i);have a:=h x mem_cons_self;cases e:f x with
  |none=>rw[filterMap_cons_none e,filterMap_cons_none (a.trans e),c]
  |some b=>rw[filterMap_cons_some e,filterMap_cons_some (a.trans e),c]
theorem gr{i n:Type}(f g:i→Option n)(a:i)(v:n)(j:f a=none)(k:g a=some v)(d:∀x,x≠a→g x=f x):∀(l:List i),l.Nodup→a∈l →
  (l.filterMap g).Perm (v::l.filterMap f)
 |[],_,h=>by simp at h
 |x::l,hn,h=>by
  obtain⟨h1,h2⟩:=nodup_cons.mp hn
  by_cases e:x=a
  ·subst e;rw[filterMap_cons_some k,filterMap_cons_none j];have:l.filterMap g=l.filterMap f:=fj λy p=>d y (λe=>h1 (e ▸ p));rw[this]
  ·have o:a∈l:=by
    rcases mem_cons.mp h with z|z
    ·exact absurd z.symm e
    ·exact z
   have m:=gr f g a v j k d l h2 o;cases c:f x with
   |none =>
    rw[filterMap_cons_none c,filterMap_cons_none (by rw[d x e,c])];exact m
   |some b =>
    rw[filterMap_cons_some c,filterMap_cons_some (by rw[d x e,c])];exact(m.cons b).trans (List.Perm.swap _ _ _)
structure Lay(mask:Nat)(owner:Array (Option Nat))(hs:List Int):Prop where
 size:owner.size=mask+1
 perm:((live mask owner).map (·.2)).Perm (List.range hs.length)
 path:∀j i,owner.getD j none=some i→∃h,hs[i]?=some h∧∃n,pos mask h n=j∧∀m,m<n→emp owner (pos mask h m)=false
theorem gY{mask:Nat}{owner:Array (Option Nat)}(b:owner.size=mask+1){j:Nat}(a:j≤mask):emp owner j=(owner.getD j none).isNone:=by
 unfold emp;rw[getD_eq_getD_getElem?,getD_eq_getD_getElem?,Array.getElem?_eq_getElem (by omega)];rfl
theorem xg(mask:Nat):Lay mask (replicate (mask+1) none) []:=by
 have e:∀j,(replicate (mask+1) (none:Option Nat)).getD j none=none:=λj=>by
  rw[getD_eq_getD_getElem?,Array.getElem?_replicate]
  split<;>rfl
 refine⟨by simp,?_,λj i h=>?_⟩
 ·have:live mask (replicate (mask+1) none)=[]:=by
   unfold live;rw[List.filterMap_eq_nil_iff];intro j _;rw[e];rfl
  rw[this];simp
 ·rw[e]at h;cases h
theorem uJ{mask:Nat}{owner:Array (Option Nat)}{d:List Int}(c:Lay mask owner d)(b:d.length≤mask):∃j,j≤mask∧emp owner j=true:=by
 by_cases h:∃j,j≤mask∧emp owner j=true
 ·exact h
 ·exfalso
  have all:∀j,j≤mask→∃i,owner.getD j none=some i:=λj a=>by
   cases e:owner.getD j none with
   |some i=>exact⟨i,rfl⟩
   |none=>exact(h ⟨j,a,by rw[gY c.size a,e];rfl⟩).elim
  have k:(live mask owner).length=mask+1:=by
   have g:∀l:List Nat,(∀j∈l,j≤mask)→(l.filterMap λj=>(owner.getD j none).map (j,·)).length=l.length:=by
    intro l
    induction l with
    |nil=>intro _;rfl
    |cons x l f =>
     intro b;obtain⟨i,e⟩:=all x (b x (by simp));rw[filterMap_cons_some (by rw[e];rfl),length_cons,length_cons,f λj a=>b j (by simp[a])]
   unfold live;rw[g _ (λj a=>by have:=mem_range.mp a;omega),length_range]
  have:=c.perm.length_eq;rw[length_map,length_range,k]at this;omega
theorem gZ{owner:Array (Option Nat)}{j k:Nat}{v:Option Nat}(a:j<owner.size):(owner.setIfInBounds j v).getD k none=if k=j then v else owner.getD k none:=by
 rw[getD_eq_getD_getElem?,getD_eq_getD_getElem?,Array.getElem?_setIfInBounds]
 by_cases e:j=k
 ·subst e;simp[a]
 ·rw[if_neg e,if_neg (λz=>e z.symm)]
theorem rV{mask:Nat}{owner:Array (Option Nat)}{j k i:Nat}(c:owner.size=mask+1)(d:j≤mask)(b:k≤mask)(a:emp owner k=false):emp (owner.setIfInBounds j (some i)) k=false:=by
 rw[gY (by simpa using c) b,gZ (by omega)];rw[gY c b]at a
 split
 ·rfl
 ·exact a
theorem uK{mask:Nat}(c:Cyc mask){owner:Array (Option Nat)}{a:List Int}(b:Lay mask owner a)(z:a.length≤mask)(d:Int):
  ∃j,layClean.free mask owner (turns mask) (bits d % (mask+1)) (bits d)=some j∧Lay mask (owner.setIfInBounds j (some a.length)) (a++[d]):=by
 obtain⟨C,y,v⟩:=uJ b z;obtain⟨j,n,t,o,q,u⟩:=xf c owner d y v;have g:j≤mask:=by rw[←o];exact iE mask d n
 have w:owner.getD j none=none:=by
  rw[gY b.size g]at q;exact Option.isNone_iff_eq_none.mp q
 refine⟨j,t,by simpa using b.size,?_,λk i f=>?_⟩
 ·have p:=gr (λk=>(owner.getD k none).map (k,·)) (λk=>((owner.setIfInBounds j (some a.length)).getD k none).map (k,·)) j (j,a.length) (by simp[w])
   (by show((owner.setIfInBounds j (some a.length)).getD j none).map (j,·)=_;rw[gZ (by rw[b.size];omega),if_pos rfl];rfl) (λx A=>by show((owner.setIfInBounds j (some a.length)).getD x none).map (x,·)=(owner.getD x none).map (x,·);rw[gZ (by rw[b.size];omega),if_neg A]) (List.range (mask+1)) nodup_range (mem_range.mpr (by omega))
  have p2:((live mask (owner.setIfInBounds j (some a.length))).map (·.2)).Perm (a.length::(live mask owner).map (·.2)):=p.map (·.2);rw[length_append,length_singleton,List.range_succ];exact p2.trans ((b.perm.cons _).trans (List.perm_append_singleton _ _).symm)
 ·rw[gZ (by rw[b.size];omega)]at f
  by_cases e:k=j
  ·subst e;rw[if_pos rfl]at f;cases f;exact⟨d,by simp,n,o,λm h=>rV b.size g (iE _ _ _) (u m h)⟩
  ·rw[if_neg e]at f;obtain⟨h',l,B,r,s⟩:=b.path k i f;have hi:i<a.length:=(List.getElem?_eq_some_iff.mp l).1;exact⟨h',by rw[getElem?_append_left hi];exact l,B,r,λm h=>rV b.size g (iE _ _ _) (s m h)⟩
theorem iW{mask:Nat}(c:Cyc mask)(hashes:Array Int)(o:hashes.size≤mask+1):∃owner,layClean mask hashes=some owner∧Lay mask owner hashes.toList:=by
 have s:∀(r a:List Int)(owner:Array (Option Nat)),Lay mask owner a→a.length+r.length≤mask+1 →
   ∃b,r.foldl (λl h=>do
    let(owner,k) ← l
    let f ← layClean.free mask owner (turns mask) (bits h % (mask+1)) (bits h)
    pure (owner.setIfInBounds f (some k),k+1)) (some (owner,a.length))=some (b,a.length+r.length)∧Lay mask b (a++r):=by
  intro r
  induction r with
  |nil=>intro a owner d _;exact⟨owner,rfl,by simpa using d⟩
  |cons h r q =>
   intro a owner d p;rw[length_cons]at p;obtain⟨f,e,j⟩:=uK c d (by omega) h;obtain⟨b,i,g⟩:=q (a++[h]) _ j (by rw[length_append,length_singleton];omega);refine⟨b,?_,by rw[append_assoc]at g;exact g⟩;rw[List.foldl_cons];have n:(do
    let(owner,k) ← some (owner,a.length)
    let f ← layClean.free mask owner (turns mask) (bits h % (mask+1)) (bits h)
    pure (owner.setIfInBounds f (some k),k+1))=some (owner.setIfInBounds f (some a.length),a.length+1):=by
    show(layClean.free mask owner (turns mask) (bits h % (mask+1)) (bits h)).bind _=_;rw[e];rfl
   rw[n];rw[length_append,length_singleton]at i;rw[i,length_cons]
   congr 2
   omega
 obtain⟨b,e,d⟩:=s hashes.toList [] _ (xg mask) (by simpa using o);refine⟨b,?_,by simpa using d⟩
 unfold layClean;rw[←Array.foldl_toList];have m:(0:Nat)=([]:List Int).length:=rfl;rw[m,e];rfl
theorem iG{t:SetTable}{hashes:Array Int}{wanted:Nat}(c:Cyc (sizeAbove wanted-1))(D:hashes.size≤sizeAbove wanted-1+1):
  ∃(t':SetTable) (zs:List (Nat×Nat)),t.relaid hashes wanted=some (t',(zs.map (·.2)).toArray)∧t'.mask=sizeAbove wanted-1∧t'.led=t.led∧t'.plain=t.plain ∧
   Tb t' (zs.map (·.1))∧(zs.map (·.2)).Perm (List.range hashes.size)∧gp t'.mask (zs.map λz=>(z.1,hashes.getD z.2 0)):=by
 obtain⟨d,e,j⟩:=iW c hashes D;refine⟨{mask:=sizeAbove wanted-1,place:=((live (sizeAbove wanted-1) d).map (·.1)).toArray,dummies:=#[],finger:=t.finger,led:=t.led,moves:=t.movedTo (sizeAbove wanted-1),plain:=t.plain},live (sizeAbove wanted-1) d,?_,rfl,rfl,rfl,⟨rfl,rfl,?_,?_⟩,?_,?_⟩
 ·unfold relaid laid;rw[e];rfl
 ·unfold Up live;rw[List.map_filterMap];have a:((List.range (sizeAbove wanted-1+1)).filterMap λf=>((d.getD f none).map (f,·)).map (·.1))=(List.range (sizeAbove wanted-1+1)).filter λf=>(d.getD f none).isSome:=by
   generalize List.range (sizeAbove wanted-1+1)=l
   induction l with
   |nil=>rfl
   |cons x l s =>
    cases ex:d.getD x none with
    |none=>rw[filterMap_cons_none (by rw[ex];rfl),filter_cons_of_neg (by simp[ex])];exact s
    |some i=>rw[filterMap_cons_some (b:=x) (by rw[ex];rfl),filter_cons_of_pos (by simp[ex]),s]
  rw[a];exact Pairwise.sublist filter_sublist List.pairwise_lt_range
 ·intro f C;obtain⟨z,g,rfl⟩:=mem_map.mp C;unfold live at g;obtain⟨k,p,a⟩:=mem_filterMap.mp g;cases ex:d.getD k none with
  |none=>rw[ex]at a;cases a
  |some i =>
   rw[ex]at a;have o:(k,i)=z:=Option.some.inj a;subst o;have:=mem_range.mp p;show k≤sizeAbove wanted-1;omega
 ·have:=j.perm;rw[length_toList]at this;exact this
 ·intro y F;obtain⟨z,g,rfl⟩:=mem_map.mp F;have u:∀z:Nat×Nat,z∈live (sizeAbove wanted-1) d↔z.1≤sizeAbove wanted-1∧d.getD z.1 none=some z.2:=by
   intro z;unfold live;rw[mem_filterMap];constructor
   ·rintro⟨k,p,a⟩;cases ex:d.getD k none with
    |none=>rw[ex]at a;cases a
    |some i =>
     rw[ex]at a;have o:(k,i)=z:=Option.some.inj a;subst o;have:=mem_range.mp p;exact⟨by omega,ex⟩
   ·rintro⟨h1,h2⟩;exact⟨z.1,mem_range.mpr (by omega),by rw[h2];rfl⟩
  obtain⟨H,G⟩:=(u z).mp g;obtain⟨h,v,n,A,B⟩:=j.path _ _ G;have q:hashes.getD z.2 0=h:=by
   have w:hashes[z.2]?=some h:=by simpa using v
   rw[getD_eq_getD_getElem?,w];rfl
  refine⟨n,by rw[q];exact A,λm E=>?_⟩;have:=B m E;have r:=iE (sizeAbove wanted-1) h m;rw[gY j.size r]at this;cases ex:d.getD (pos (sizeAbove wanted-1) h m) none with
  |none=>rw[ex]at this;cases this
  |some i =>
   rw[map_map];show pos (sizeAbove wanted-1) (hashes.getD z.2 0) m∈_;rw[q];exact mem_map.mpr ⟨(pos (sizeAbove wanted-1) h m,i),(u _).mpr ⟨r,ex⟩,rfl⟩
section
variable{prog:Program}{w:World}{K:Type}[DecidableEq K]{knd:KeyKind prog w K}{A:Around}{E:Value→Shared→Prop}{s:Shared}
theorem je(n:Nat){v:Value}(h:carriedByValue v=true):ofAClassStatement n v=pure false:=by
 cases v with
 |ref a=>simp[carriedByValue]at h
 |_=>cases n<;>rfl
theorem gu{ks:List K}{a:Addr}{Q:Bool→Shared→Prop}(d:IsTupleKey knd s.heap ks a)(e:Q false s):wpAny (model prog w) A (ofAClassStatement 8 (.ref a)) Q E s:=by
 have f:=d.typeIs;obtain⟨o,j,n,h,_,g,hi⟩:=d;unfold ofAClassStatement;refine wpAny_bind (wpAny_typeOf f ?_);dsimp only;rw[if_pos (by decide)];refine wpAny_bind (wpAny_pure ?_);simp only[Bool.not_true,false_eq_true,if_false];refine wpAny_bind (wpAny_seqItems h g ?_);dsimp only;refine wpAny_bind ?_;rw[←forIn_toList];refine wpAny_forIn_list _ (λrest r s'=>r.1=none∧s'=s∧∀v∈rest,carriedByValue v=true) _ ?_ ?_ _ _ ⟨rfl,rfl,hi.byValue⟩
 ·rintro v rest r s' ⟨b,rfl,c⟩;rw[je _ (c v mem_cons_self)];refine wpAny_bind (wpAny_pure ?_);simp only[false_eq_true,if_false];exact wpAny_pure ⟨rfl,rfl,λu i=>c u (mem_cons_of_mem _ i)⟩
 ·rintro⟨k,l⟩ s' ⟨b,rfl,_⟩;simp only at b;subst b;exact wpAny_pure e
theorem uL(n:Nat){x:Value}(a:x.scannable=true):∃b,hashByValue n x=pure b:=⟨_,hashByValue_scannable n a⟩
theorem sZ{ks:List K}{a:Addr}{Q:Bool→Shared→Prop}(i:IsTupleKey knd s.heap ks a)(q:∀k v,knd.is k v=true→v.scannable=true)(h:∀b,Q b s):wpAny (model prog w) A (hashByValue 8 (.ref a)) Q E s:=by
 have j:=i.typeIs;obtain⟨o,g,n,p,_,m,hi⟩:=i;have d:∀v∈g.toList,v.scannable=true:=by
  generalize g.toList=l at hi
  induction hi with
  |nil=>intro v c;simp at c
  |cons h1 _ x =>
   intro v c;rcases mem_cons.mp c with rfl|c
   ·exact q _ _ h1
   ·exact x v c
 unfold hashByValue;refine wpAny_bind (wpAny_specialOf j F.slot_tuple_hash.lookup ?_);show wpAny _ _ (seqItems? (.ref a) >>= _) _ _ s;refine wpAny_bind (wpAny_seqItems p m ?_);refine wpAny_bind ?_;show wpAny _ _ (forIn g _ _) _ _ s;rw[←forIn_toList];refine wpAny_forIn_list _ (λrest r s'=>r.1=none∧s'=s∧∀v∈rest,v.scannable=true) _ ?_ ?_ _ _ ⟨rfl,rfl,d⟩
 ·rintro v rest r s' ⟨f,rfl,d⟩;obtain⟨b,e⟩:=uL 7 (d v mem_cons_self);rw[e];refine wpAny_bind (wpAny_pure ?_);cases b with
  |true =>
   simp only[Bool.not_true,false_eq_true,if_false];exact wpAny_pure ⟨rfl,rfl,λu t=>d u (mem_cons_of_mem _ t)⟩
  |false =>
   simp only[Bool.not_false,if_true];exact wpAny_pure (wpAny_pure (h false))
 ·rintro⟨y,z⟩ s' ⟨f,rfl,_⟩;simp only at f;subst f;exact wpAny_pure (h true)
theorem xh{k:List K}{b:Addr}(g:IsTupleKey knd s.heap k b)(stored:List Value)(m:∀v∈stored,∃c a,v=.ref a∧IsTupleKey knd s.heap c a){Q:Bool→Shared→Prop}(j:Q false s):
  wpAny (model prog w) A (searchCouldBeSeen (.ref b) stored) Q E s:=by
 unfold searchCouldBeSeen;refine wpAny_bind ?_;refine wpAny_forIn_list _ (λrest r s'=>r.1=none∧s'=s∧∀v∈rest,∃c a,v=.ref a∧IsTupleKey knd s.heap c a) _ ?_ ?_ _ _ ⟨rfl,rfl,m⟩
 ·rintro v rest r s' ⟨d,rfl,e⟩;obtain⟨c,a,rfl,h⟩:=e v mem_cons_self;have f:=λu n=>e u (mem_cons_of_mem _ n)
  by_cases i:(b==a)=true
  ·simp only[i,Bool.true_or,if_true];exact wpAny_pure ⟨rfl,rfl,f⟩
  ·have o:(b==a)=false:=by simpa using i
   have l:carriedByValue (.ref b)=false:=rfl;simp only[o,l,Bool.false_and,Bool.or_false,false_eq_true,if_false];refine wpAny_bind (wpAny_eqIsQuiet_tuple g ?_);simp only[Bool.not_true,false_eq_true,if_false];refine wpAny_bind (wpAny_eqIsQuiet_tuple h ?_);simp only[Bool.not_true,false_eq_true,if_false];refine wpAny_bind (gu g ?_);simp only[false_eq_true,if_false];refine wpAny_bind (gu h ?_);simp only[false_eq_true,if_false];exact wpAny_pure ⟨rfl,rfl,f⟩
 ·rintro⟨p,q⟩ s' ⟨d,rfl,_⟩;simp only at d;subst d;exact wpAny_pure j
end
section
variable{prog:Program}{w:World}{K:Type}[DecidableEq K](knd:KeyKind prog w K)
abbrev Ent(K:Type):=Nat×Addr×List K
def ent(z:Ent K):Int×Value:=(tupleKeyHash knd z.2.2,.ref z.2.1)
def pth(z:Ent K):Nat×Int:=(z.1,tupleKeyHash knd z.2.2)
structure TS(h:Heap)(a:Addr)(zs:List (Ent K)):Prop where
 ob:∃o es ep t,h.get? a=some o∧o.ExactSet∧o.data=.set es ep t∧es.toList=zs.map (ent knd)∧Tb t (zs.map (·.1))∧Mk t.mask∧zs.length*5<t.mask*3∧gp t.mask (zs.map (pth knd))
 keys:∀z∈zs,IsTupleKey knd h z.2.2 z.2.1
 nd:(zs.map (·.2.2)).Nodup
variable{knd}
variable{A:Around}{E:Value→Shared→Prop}{s:Shared}
theorem gg{t:SetTable}{l:List Nat}(T:Tb t l):t.fill=l.length:=by
 unfold SetTable.fill;rw[T.pl,T.nd];simp
theorem gh{t:SetTable}{l:List Nat}(T:Tb t l){n:Nat}(b:l.length=n)(a:n≤t.mask):t.fits n=true:=by
 unfold SetTable.fits;rw[gg T,T.pl];simp[b,a]
theorem jP{mask:Nat}{a:Int}(b m:Nat):(nth mask (nth mask (st mask a) b) m).j=pos mask a (b+m):=by
 unfold pos;rw[eP]
theorem oM{a b:Addr}{o:Obj}{q:Array (Int×Value)}{b1:Nat}{t:SetTable}{zs:List (Ent K)}{k:List K}{Q:SetFound→Shared→Prop}(c4:A.units<cLine)(a7:s.heap.get? a=some o)(hd:o.data=.set q b1 t)(a2:q.toList=zs.map (ent knd))(T:Tb t (zs.map (·.1)))(a3:t.fits q.size=true)(c1:t.gaveWay=false)(a4:∀z∈zs,IsTupleKey knd s.heap z.2.2 z.2.1)(a0:IsTupleKey knd s.heap k b){N:Nat}(Z:pos t.mask (tupleKeyHash knd k) N∉zs.map (·.1))(d1:N<10*turns t.mask)(b4:∀m,m<N→pos t.mask (tupleKeyHash knd k) m∈zs.map (·.1))(c8:(∃z∈zs,z.2.2=k)→Q (.there none) s)(c9:(∀m,m<N→∀z∈zs,z.1=pos t.mask (tupleKeyHash knd k) m→z.2.2≠k)→Q (.free (pos t.mask (tupleKeyHash knd k) N) false) s):
  ∀(d c l:Nat)(V:Option SetTable.Probe),N-c=d→c≤N→d<l→V.getD (t.probeStart (tupleKeyHash knd k))=nth t.mask (st t.mask (tupleKeyHash knd k)) c →
   (∀m,m<c→∀z∈zs,z.1=pos t.mask (tupleKeyHash knd k) m→z.2.2≠k) →
   wpAny (model prog w) A (setSearchFrom a (.ref b) (tupleKeyHash knd k) true l V) Q E s:=by
 intro d
 induction d using Nat.strongRecOn with
 |_ d c7 =>
  intro c l V d2 d8 d3 c3 a8;obtain⟨l,rfl⟩:∃f,l=f+1:=⟨l-1,by omega⟩;unfold setSearchFrom;refine wpAny_bind (wpAny_setState_of a7 hd a3 ?_);dsimp only;rw[c1];simp only[false_eq_true,if_false];rw[c3];have I:∀{i:Nat}{z:Ent K},zs[i]?=some z→q[i]?=some (ent knd z):=λ{i z} e=>by
   rw[←getElem?_toList,a2,getElem?_map,e];rfl
  obtain⟨n,d7,b8,L⟩:=jM (λm=>pos t.mask (tupleKeyHash knd k) (c+m)∉zs.map (·.1)∨∃z∈zs,z.1=pos t.mask (tupleKeyHash knd k) (c+m)∧tupleKeyHash knd z.2.2=tupleKeyHash knd k) (N-c)
   (.inl (by rw[show c+(N-c)=N by omega];exact Z))
  have a5:∀m,pos t.mask (tupleKeyHash knd k) m∈zs.map (·.1)→∃i z,t.slot (pos t.mask (tupleKeyHash knd k) m)=.live i∧zs[i]?=some z∧z.1=pos t.mask (tupleKeyHash knd k) m:=λm B=>by
   obtain⟨i,hi,e⟩:=mem_iff_getElem.mp B;have x:i<zs.length:=by simpa using hi
   have p:(zs.map (·.1))[i]?=some (pos t.mask (tupleKeyHash knd k) m):=by rw[getElem?_eq_getElem hi,e]
   refine⟨i,zs[i],jl T p,by simp[x],?_⟩;rw[getElem_map]at e;exact e
  have a9:∀m,m<n→∃i,t.slot (nth t.mask (nth t.mask (st t.mask (tupleKeyHash knd k)) c) m).j=.live i∧((q[i]?.map (·.1)).getD 0==tupleKeyHash knd k)=false:=λm B=>by
   have h1:pos t.mask (tupleKeyHash knd k) (c+m)∈zs.map (·.1):=by
    by_cases z:pos t.mask (tupleKeyHash knd k) (c+m)∈zs.map (·.1)
    ·exact z
    ·exact(L m B (.inl z)).elim
   obtain⟨i,z,p,h,X⟩:=a5 _ h1;refine⟨i,by rw[jP];exact p,?_⟩;rw[I h];show(tupleKeyHash knd z.2.2==tupleKeyHash knd k)=false;rw[beq_eq_false_iff_ne];intro b0;exact L m B (.inr ⟨z,mem_of_getElem? h,X,b0⟩)
  by_cases C:pos t.mask (tupleKeyHash knd k) (c+n)∈zs.map (·.1)
  ·
   have b5:∃z∈zs,z.1=pos t.mask (tupleKeyHash knd k) (c+n)∧tupleKeyHash knd z.2.2=tupleKeyHash knd k:=by
    rcases b8 with e|e
    ·exact(e C).elim
    ·exact e
   obtain⟨i,z,p,h,X⟩:=a5 _ C;have G:z∈zs:=mem_of_getElem? h;have c6:tupleKeyHash knd z.2.2=tupleKeyHash knd k:=by
    obtain⟨g,r,b2,b3⟩:=b5;have b9:g=z:=by
     obtain⟨u,x,D⟩:=mem_iff_getElem.mp r;have M:(zs.map (·.1))[u]?=some (pos t.mask (tupleKeyHash knd k) (c+n)):=by rw[getElem?_map,getElem?_eq_getElem x,D,←b2];rfl
     have F:=jl T M;rw[p]at F;cases F;rw[getElem?_eq_getElem x,D]at h;exact Option.some.inj h
    rw[←b9];exact b3
   have a6:c+n<N:=by
    rcases lt_or_ge (c+n) N with g|g
    ·exact g
    ·have:c+n=N:=by omega
     rw[this]at C;exact(Z C).elim
   have S:=rT t (λi=>(q[i]?.map (·.1)).getD 0) (tupleKeyHash knd k) i n (nth t.mask (st t.mask (tupleKeyHash knd k)) c) (10*turns t.mask) (by omega) a9 (by rw[jP];exact p)
    (by rw[I h];show(tupleKeyHash knd z.2.2==tupleKeyHash knd k)=true;rw[c6];simp)
   generalize O:SetTable.probe t _ (tupleKeyHash knd k) (nth t.mask (st t.mask (tupleKeyHash knd k)) c)=U;have R:U=some (.candidate (nth t.mask (nth t.mask (st t.mask (tupleKeyHash knd k)) c) n).j i (nth t.mask (nth t.mask (st t.mask (tupleKeyHash knd k)) c) (n+1))):=O.symm.trans S;subst R;dsimp only;have W:wpAny (model prog w) A (match q[i]? with
      |some (_,y)=>do
       let Y ← holding [y] (eqBool y (.ref b))
       let(es',_,t') ← setState a
       if (true&&Y)=true then return SetFound.there none
       let some same:=t'.sameMemory t.moves t.mask|unsupported "set.changed-during-lookup:is-the-new-block-at-the-old-address"
       let d0 ← match (if same then t'.slot (nth t.mask (nth t.mask (st t.mask (tupleKeyHash knd k)) c) n).j else .empty)with
        |.live u=>match es'[u]? with
         |some (_,y')=>do pure (if ← isSame y' y then some u else none)
         |none=>pure none
        |_=>pure none
       match d0 with
       |none=>rule "set.search.anew";setSearchFrom a (.ref b) (tupleKeyHash knd k) true l none
       |some u=>if Y then return SetFound.there (some u)else setSearchFrom a (.ref b) (tupleKeyHash knd k) true l (some (nth t.mask (nth t.mask (st t.mask (tupleKeyHash knd k)) c) (n+1)))
      | _=>unsupported "internal:set-entry") Q E s:=by
    rw[I h];show wpAny _ _ (holding [Value.ref z.2.1] (eqBool (.ref z.2.1) (.ref b)) >>= _) _ _ _;refine wpAny_bind (wpAny_holding (wpAny_eqBool_tuple c4 (a4 z G) a0 ?_));refine wpAny_bind (wpAny_setState_of a7 hd a3 ?_);dsimp only
    by_cases J:z.2.2=k
    ·rw[decide_eq_true J];simp only[Bool.and_self,if_true];exact wpAny_pure (c8 ⟨z,G,J⟩)
    ·rw[decide_eq_false J];simp only[Bool.and_false,false_eq_true,if_false];have c2:t.sameMemory t.moves t.mask=some true:=by unfold SetTable.sameMemory;simp
     rw[c2];simp only[if_true];rw[jP,p];dsimp only;rw[I h];dsimp only;refine wpAny_bind (wpAny_isSame_ref_self ?_);simp only[if_true];refine wpAny_bind (wpAny_pure ?_);dsimp only;refine c7 (N-(c+n+1)) (by omega) (c+n+1) l _ rfl (by omega) (by omega) ?_ ?_
     ·show nth t.mask (nth t.mask (st t.mask (tupleKeyHash knd k)) c) (n+1)=_;rw[←eP];rfl
     ·intro m B g r e
      by_cases P:m<c
      ·exact a8 m P g r e
      ·intro H;have d6:pos t.mask (tupleKeyHash knd k) m∈zs.map (·.1):=mem_map.mpr ⟨g,r,e⟩;obtain⟨m',rfl⟩:∃m',m=c+m':=⟨m-c,by omega⟩;rcases lt_or_ge m' n with c0|d4
       ·exact L m' c0 (.inr ⟨g,r,e,by rw[H]⟩)
       ·have:m'=n:=by omega
        subst this;obtain⟨u,x,D⟩:=mem_iff_getElem.mp r;have M:(zs.map (·.1))[u]?=some (pos t.mask (tupleKeyHash knd k) (c+m')):=by rw[getElem?_map,getElem?_eq_getElem x,D,←e];rfl
        have F:=jl T M;rw[p]at F;cases F;rw[getElem?_eq_getElem x,D]at h;have:g=z:=Option.some.inj h;exact J (this ▸ H)
   cases d5:t.led with
   |true =>
    simp only[Bool.not_true,false_eq_true,if_false];exact W
   |false =>
    simp only[Bool.not_false,if_true];refine wpAny_bind (xh a0 _ ?_ ?_)
    ·intro v c5;obtain⟨e,a1,rfl⟩:=mem_map.mp c5;rw[Array.toList_filter,a2]at a1;obtain⟨b7,_⟩:=mem_filter.mp a1;obtain⟨g,r,rfl⟩:=mem_map.mp b7;exact⟨g.2.2,g.2.1,rfl,a4 g r⟩
    ·simp only[false_eq_true,if_false];exact W
  ·
   have a6:c+n=N:=by
    rcases lt_or_ge (c+n) N with z|z
    ·exact(C (b4 _ z)).elim
    ·omega
   have S:=jN t (λi=>(q[i]?.map (·.1)).getD 0) (tupleKeyHash knd k) n (nth t.mask (st t.mask (tupleKeyHash knd k)) c) (10*turns t.mask) (by omega) a9 (by rw[jP];exact oK T C);generalize O:SetTable.probe t _ (tupleKeyHash knd k) (nth t.mask (st t.mask (tupleKeyHash knd k)) c)=U;have R:U=some (.empty (nth t.mask (nth t.mask (st t.mask (tupleKeyHash knd k)) c) n).j (nth t.mask (st t.mask (tupleKeyHash knd k)) c).dummy):=O.symm.trans S;subst R;have b6:(nth t.mask (st t.mask (tupleKeyHash knd k)) c).dummy=none:=iF _ _ _;rw[b6];dsimp only;rw[jP,a6];refine wpAny_pure (c9 λm B z G e H=>?_)
   by_cases P:m<c
   ·exact a8 m P z G e H
   ·obtain⟨m',rfl⟩:∃m',m=c+m':=⟨m-c,by omega⟩;exact L m' (by omega) (.inr ⟨z,G,e,by rw[H]⟩)
end
theorem rW:∀(n:Nat)(l:List Nat),(∀j,j<n→j∈l)→n≤l.length
 |0,_,_=>zero_le _
 |n+1,l,h=>by
  have a:=h n (by omega);have b:=rW n (l.erase n) λj c=>(List.mem_erase_of_ne (by omega)).mpr (h j (by omega));rw[List.length_erase_of_mem a]at b;have:0<l.length:=List.length_pos_of_mem a;omega
theorem jQ(n:Nat)(l:List Nat)(a:l.length≤n):∃j,j≤n∧j∉l:=by
 by_cases z:∃j,j≤n∧j∉l
 ·exact z
 ·exfalso
  have:=rW (n+1) l λj b=>by
   by_cases e:j∈l
   ·exact e
   ·exact(z ⟨j,by omega,e⟩).elim
  omega
section
variable{prog:Program}{w:World}{K:Type}[DecidableEq K]{knd:KeyKind prog w K}{A:Around}{E:Value→Shared→Prop}{s:Shared}
theorem IsTupleKey.same{b h':Heap}{ks:List K}{a d:Addr}{o:Obj}{es ep t}(x:IsTupleKey knd b ks a)(h:b.get? d=some o)(hd:o.data=.set es ep t)(i:SameBut d b h'):IsTupleKey knd h' ks a:=by
 obtain⟨o',j,n,e,f,c,hi⟩:=x;have g:a≠d:=by
  rintro rfl;obtain rfl:o'=o:=Option.some.inj (e.symm.trans h);rw[hd]at c;exact nomatch c
 exact⟨o',j,n,(i.2 a g).trans e,f,c,hi⟩
theorem uM{t:SetTable}{l:List Nat}(T:Tb t l)(b:Bool):Tb {t with plain:=b} l:=⟨T.pl,T.nd,T.up,T.le⟩
theorem stored{a:Addr}{o:Obj}{c:Array (Int×Value)}{b:Nat}{t:SetTable}(d:s.heap.get? a=some o)(hd:o.data=.set c b t)(es':Array (Int×Value))(t':SetTable):
  (s.heap.update a (Obj.putSet es' t')).get? a=some {o with data:=.set es' (b+1) t'}:=by
 have:=get?_update_self (Obj.putSet es' t') d (by rw[putSet_of es' t' hd];rfl);rw[putSet_of es' t' hd]at this;exact this
theorem nb{n:Nat}(h:n≤64):n≤sizeLine:=by rw[sizeLine_eq];omega
theorem tf{a b:Addr}{zs:List (Ent K)}{k:List K}{Q:Bool→Shared→Prop}(g3:A.units<cLine)(g2:∀k v,knd.is k v=true→v.scannable=true)(b4:TS knd s.heap a zs)(X:IsTupleKey knd s.heap k b)(h6:zs.length<60)(W:∀r h' b1,SameBut a s.heap h'→TS knd h' a b1→((k∈zs.map (·.2.2)∧b1=zs)∨(k∉zs.map (·.2.2)∧(b1.map (·.2)).Perm ((b,k)::zs.map (·.2))))→Q r {s with heap:=h'}):
  wpAny (model prog w) A (setAddHashed a (.ref b) (tupleKeyHash knd k)) Q E s:=by
 obtain⟨⟨o,es,g7,t,B,b6,u,Y,T,M,g9,d0⟩,c0,f3⟩:=id b4;have a3:es.size=zs.length:=by rw[←length_toList,Y,length_map]
 have h0:=M.ge;have c6:zs.length≤t.mask:=by omega
 have a0:t.fits es.size=true:=gh T (by rw[length_map,a3]) (by rw[a3];exact c6);have f6:t.gaveWay=false:=by unfold SetTable.gaveWay;rw[M.odd];rfl
 have d7:=M.cyc;obtain⟨i0,e7,e8⟩:=jQ t.mask (zs.map (·.1)) (by rw[length_map];exact c6);obtain⟨g6,h2,e0⟩:=cover d7 (tupleKeyHash knd k) e7;obtain⟨N,g8,L,e1⟩:=jM (λm=>pos t.mask (tupleKeyHash knd k) m∉zs.map (·.1)) g6 (by rw[e0];exact e8);have b3:∀m,m<N→pos t.mask (tupleKeyHash knd k) m∈zs.map (·.1):=λm j=>by
  by_cases z:pos t.mask (tupleKeyHash knd k) m∈zs.map (·.1)
  ·exact z
  ·exact(e1 m j z).elim
 have h9:10*turns t.mask<100000:=by unfold turns;omega
 unfold setAddHashed setAddHashedIn;refine wpAny_holding (wpAny_bind (wpAny_setState_of B u a0 ?_));dsimp only;have e3:byScan (.ref b) es=false:=rfl;rw[e3];simp only[false_eq_true,if_false];refine wpAny_bind ?_;unfold setSearch;refine oM g3 B u Y T a0 f6 c0 X L (by omega) b3 ?_ ?_ N 0 100000 none rfl (by omega) (by omega) rfl (λm j=>by omega)
 ·intro e4;dsimp only;have e:s={s with heap:=s.heap}:=by cases s;rfl
  have g0:=W false s.heap zs (SameBut.refl a s.heap) b4 (.inl ⟨by
   obtain⟨z,d,e⟩:=e4;exact mem_map.mpr ⟨z,d,e⟩,rfl⟩)
  rw[e];exact wpAny_pure g0
 ·intro f4;have a2:k∉zs.map (·.2.2):=by
   intro j;obtain⟨z,d,V⟩:=mem_map.mp j;obtain⟨n,q,U⟩:=d0 (pth knd z) (mem_map.mpr ⟨z,d,rfl⟩);have b2:pos t.mask (tupleKeyHash knd k) n=z.1:=by rw[←V];exact q
   have d8:∀m,m<n→pos t.mask (tupleKeyHash knd k) m∈zs.map (·.1):=λm j=>by
    have:=U m j;rw[map_map]at this;rw[←V];exact this
   have f2:n<N:=by
    rcases lt_or_ge n N with d3|d3
    ·exact d3
    ·exfalso
     rcases lt_or_ge N n with d4|d4
     ·exact L (d8 N d4)
     ·have:n=N:=by omega
      subst this;exact L (by rw[b2];exact mem_map.mpr ⟨z,d,rfl⟩)
   exact f4 n f2 z d b2.symm V
  dsimp only;refine wpAny_bind (wpAny_setState_of B u a0 ?_);dsimp only;have f9:pos t.mask (tupleKeyHash knd k) N≤t.mask:=iE _ _ _;obtain⟨D,a6,I⟩:=uI T L f9;generalize h5:t.put (pos t.mask (tupleKeyHash knd k) N)=tp at D a6 I⊢;obtain⟨a9,p⟩:=tp;dsimp only at D a6 I⊢;obtain⟨c,a8⟩:∃c,c=zs.take p++(pos t.mask (tupleKeyHash knd k) N,b,k)::zs.drop p:=⟨_,rfl⟩;have e2:c.map (·.1)=(zs.map (·.1)).take (below (zs.map (·.1)).toArray (pos t.mask (tupleKeyHash knd k) N))++(pos t.mask (tupleKeyHash knd k) N)::(zs.map (·.1)).drop (below (zs.map (·.1)).toArray (pos t.mask (tupleKeyHash knd k) N)):=by
   rw[a8,←a6];simp[List.map_take,map_drop]
  rw[←e2]at D;have F:c.Perm ((pos t.mask (tupleKeyHash knd k) N,b,k)::zs):=by
   rw[a8];refine perm_middle.trans ?_;rw[List.take_append_drop]
  have H:c.length=zs.length+1:=by rw[F.length_eq,length_cons]
  have Z:(insertAt es p (tupleKeyHash knd k,Value.ref b)).toList=c.map (ent knd):=by
   rw[SetTable.toList_insertAt,Y,a8];simp[List.map_take,map_drop,ent]
  have f7:gp t.mask (c.map (pth knd)):=by
   refine gp.mono d0 (pos t.mask (tupleKeyHash knd k) N,tupleKeyHash knd k) (λz d=>?_) (λz d=>?_) ⟨N,rfl,λm j=>by rw[map_map];exact b3 m j⟩
   ·obtain⟨y,C,rfl⟩:=mem_map.mp d;rcases mem_cons.mp (F.mem_iff.mp C)with e|e
    ·right;rw[e];rfl
    ·left;exact mem_map.mpr ⟨y,e,rfl⟩
   ·obtain⟨y,C,rfl⟩:=mem_map.mp d;exact mem_map.mpr ⟨y,F.mem_iff.mpr (mem_cons_of_mem _ C),rfl⟩
  have c1:∀z∈c,IsTupleKey knd s.heap z.2.2 z.2.1:=λz d=>by
   rcases mem_cons.mp (F.mem_iff.mp d)with e|e
   ·rw[e];exact X
   ·exact c0 z e
  have e9:(c.map (·.2.2)).Perm (k::zs.map (·.2.2)):=F.map _;have c3:(c.map (·.2)).Perm ((b,k)::zs.map (·.2)):=F.map _;have c9:(c.map (·.2.2)).Nodup:=e9.nodup_iff.mpr (nodup_cons.mpr ⟨a2,f3⟩);have J:(insertAt es p (tupleKeyHash knd k,Value.ref b)).size=zs.length+1:=by rw[←length_toList,Z,length_map,H]
  have tail:∀f:SetTable,Tb f (c.map (·.1))→f.mask=t.mask→wpAny (model prog w) A (do
    storeSet a (insertAt es p (tupleKeyHash knd k,Value.ref b)) f
    if (!false&&f.tooFull)=true then do
      setRelay a (SetTable.grown (es.size+1))
      pure true
     else pure true) Q E s:=by
   intro f S a4;refine wpAny_bind (wpAny_storeSet_of B u ?_ (by rw[J];exact nb (by omega)));have P:=stored B u (insertAt es p (tupleKeyHash knd k,Value.ref b)) f;have a7:=SameBut.update s.heap a (Obj.putSet (insertAt es p (tupleKeyHash knd k,Value.ref b)) f);have e6:f.fill=zs.length+1:=by rw[gg S,length_map,H]
   by_cases b7:f.tooFull=true
   ·rw[b7];simp only[Bool.not_false,Bool.and_self,if_true];refine wpAny_bind ?_;unfold setRelay;have e5:f.fits (insertAt es p (tupleKeyHash knd k,Value.ref b)).size=true:=gh S (by rw[length_map,H,J]) (by rw[J,a4];omega);refine wpAny_bind (wpAny_setState_of P rfl e5 ?_);dsimp only;obtain⟨nn,O⟩:∃nn,nn=zs.length+1:=⟨_,rfl⟩;have g4:SetTable.grown (es.size+1)=nn*4:=by rw[a3,O];unfold SetTable.grown;rw[if_neg (by omega)]
    obtain⟨c8,h7,h8⟩:=gX (w:=nn*4) (by omega);rw[g4];rw[if_neg (by rw[sizeLine_eq];omega)];have b9:((insertAt es p (tupleKeyHash knd k,Value.ref b)).map (·.1)).size=nn:=by rw[size_map,J,O]
    obtain⟨b0,g,g1,c7,h1,h3,d5,R,f8⟩:=iG (t:=f) (hashes:=(insertAt es p (tupleKeyHash knd k,Value.ref b)).map (·.1)) (wanted:=nn*4) c8.cyc (by rw[b9];omega);rw[b9]at R;have a1:∀z∈g,z.2<nn:=λz d=>mem_range.mp (R.mem_iff.mp (mem_map.mpr ⟨z,d,rfl⟩));have f0:c.length=nn:=by rw[H,O]
    obtain⟨h,G⟩:∃h:List (Ent K),h=g.map λz=>(z.1,(c.getD z.2 (0,0,[])).2):=⟨_,rfl⟩;have b8:∀i,i<nn→(insertAt es p (tupleKeyHash knd k,Value.ref b))[i]?=some (ent knd (c.getD i (0,0,[]))):=λi hi=>by
     rw[←getElem?_toList,Z,getElem?_map,getD_eq_getElem?_getD,getElem?_eq_getElem (by omega)];rfl
    have b5:(((g.map (·.2)).toArray).filterMap (λi=>(insertAt es p (tupleKeyHash knd k,Value.ref b))[i]?)).toList=h.map (ent knd):=by
     rw[Array.toList_filterMap,G];show(g.map (·.2)).filterMap _=_;rw[List.filterMap_map,map_map];have:∀l:List (Nat×Nat),(∀z∈l,z.2<nn)→l.filterMap ((λi=>(insertAt es p (tupleKeyHash knd k,Value.ref b))[i]?)∘λx=>x.2)=l.map (ent knd∘λz=>(z.1,(c.getD z.2 (0,0,[])).2)):=by
      intro l
      induction l with
      |nil=>intro _;rfl
      |cons x l g5 =>
       intro c5;rw[filterMap_cons_some (b:=ent knd (c.getD x.2 (0,0,[]))) (by show(insertAt es p (tupleKeyHash knd k,Value.ref b))[x.2]?=_;exact b8 _ (c5 x (by simp))),map_cons,g5 λz d=>c5 z (by simp[d])];rfl
     exact this g a1
    have d2:(((g.map (·.2)).toArray).filterMap (λi=>(insertAt es p (tupleKeyHash knd k,Value.ref b))[i]?)).size=nn:=by
     rw[←length_toList,b5,length_map,G,length_map];have:=R.length_eq;rw[length_map,length_range]at this;exact this
    refine wpAny_bind ?_;rw[g1];show wpAny _ _ (@ite _ _ _ _ _) _ _ _;rw[if_neg (by rw[d2,J,O];simp)];refine wpAny_pure ?_;dsimp only;refine wpAny_storeSet_of P rfl ?_ (by rw[d2];exact nb (by omega));have f5:=stored (s:={s with heap:=s.heap.update a (Obj.putSet (insertAt es p (tupleKeyHash knd k,Value.ref b)) f)}) P rfl (((g.map (·.2)).toArray).filterMap (λi=>(insertAt es p (tupleKeyHash knd k,Value.ref b))[i]?)) b0
    have d1:=a7.trans (SameBut.update (s.heap.update a (Obj.putSet (insertAt es p (tupleKeyHash knd k,Value.ref b)) f)) a (Obj.putSet (((g.map (·.2)).toArray).filterMap (λi=>(insertAt es p (tupleKeyHash knd k,Value.ref b))[i]?)) b0));have c4:(h.map (·.2)).Perm (c.map (·.2)):=by
     rw[G,map_map];have q:g.map ((λz:Ent K=>z.2)∘λz=>(z.1,(c.getD z.2 (0,0,[])).2))=(g.map (·.2)).map λi=>(c.getD i (0,0,[])).2:=by rw[map_map];rfl
     have U:c.map (·.2)=(List.range nn).map λi=>(c.getD i (0,0,[])).2:=by
      apply ext_getElem?;intro i;rw[getElem?_map,getElem?_map]
      by_cases hi:i<nn
      ·rw[getElem?_eq_getElem (by omega),getElem?_range hi];have d9:c.getD i (0,0,[])=c[i]'(by omega):=by rw[getD_eq_getElem?_getD,getElem?_eq_getElem (by omega)];rfl
       show some (c[i]'(by omega)).2=some (c.getD i (0,0,[])).2;rw[d9]
      ·rw[getElem?_eq_none (by omega),getElem?_eq_none (by rw[length_range];omega)];rfl
     rw[q,U];exact R.map _
    have c2:(h.map (·.2.2)).Perm (c.map (·.2.2)):=by
     have:=c4.map (·.2);rw[map_map,map_map]at this;exact this
    have f1:∀z∈h,∃y∈c,y.2=z.2:=λz d=>by
     rw[G]at d;obtain⟨y,C,rfl⟩:=mem_map.mp d;have:=a1 y C;refine⟨c[y.2]'(by omega),getElem_mem _,?_⟩;rw[getD_eq_getElem?_getD,getElem?_eq_getElem (by omega)];rfl
    refine wpAny_pure (W true _ h d1 ⟨⟨_,_,_,b0,f5,b6,rfl,b5,?_,by rw[c7];exact c8,?_,?_⟩,λz d=>?_,c2.nodup_iff.mpr c9⟩ (.inr ⟨a2,c4.trans c3⟩))
    ·have q:h.map (·.1)=g.map (·.1):=by rw[G,map_map];rfl
     rw[q];exact d5
    ·have:h.length=nn:=by
      have:=c2.length_eq;rw[length_map,length_map,f0]at this;exact this
     rw[this,c7];omega
    ·have q:h.map (pth knd)=g.map λz=>(z.1,((insertAt es p (tupleKeyHash knd k,Value.ref b)).map (·.1)).getD z.2 0):=by
      rw[G,map_map];apply map_congr_left;intro z d;show(z.1,tupleKeyHash knd (c.getD z.2 (0,0,[])).2.2)=_
      congr 1
      rw[getD_eq_getD_getElem?,Array.getElem?_map,b8 _ (a1 z d)];rfl
     rw[q];exact f8
    ·obtain⟨y,C,e⟩:=f1 z d;rw[←e];exact IsTupleKey.same (c1 y C) B u d1
   ·have a5:f.tooFull=false:=by simpa using b7
    rw[a5];simp only[Bool.and_false,false_eq_true,if_false];refine wpAny_pure (W true _ c a7 ⟨⟨_,_,_,f,P,b6,rfl,Z,S,by rw[a4];exact M,?_,by rw[a4];exact f7⟩,λz d=>IsTupleKey.same (c1 z d) B u a7,c9⟩ (.inr ⟨a2,c3⟩));unfold SetTable.tooFull at a5;rw[decide_eq_false_iff_not,e6]at a5;rw[H];omega
  cases h4:a9.plain with
  |true =>
   simp only[if_true];refine wpAny_bind (sZ X g2 λd6=>?_);cases d6 with
   |true =>
    simp only[if_true];exact tail a9 D I
   |false =>
    simp only[false_eq_true,if_false];exact tail _ (uM D false) I
  |false =>
   simp only[false_eq_true,if_false];refine wpAny_bind (wpAny_pure ?_);simp only[if_true];exact tail a9 D I
end
theorem lJ{c:Type}[DecidableEq c]:∀l:List c,¬l.Nodup→∃f:List c,f.length+1=l.length∧∀x∈l,x∈f
 |[],h=>(h nodup_nil).elim
 |x::r,h=>by
  by_cases d:x∈r
  ·refine⟨r,rfl,λy b=>?_⟩;rcases mem_cons.mp b with e|e
   ·rw[e];exact d
   ·exact e
  ·have g:¬r.Nodup:=λz=>h (nodup_cons.mpr ⟨d,z⟩);obtain⟨i,e,s⟩:=lJ r g;refine⟨x::i,by simp[←e],λy b=>?_⟩;rcases mem_cons.mp b with a|a
   ·rw[a];simp
   ·exact mem_cons_of_mem _ (s y a)
theorem oN{d:Type}[DecidableEq d]{z l:List d}(c:z.Nodup)(b:∀x,x∈z↔x∈l):z.length=l.length↔l.Nodup:=by
 constructor
 ·intro e
  by_cases a:l.Nodup
  ·exact a
  ·obtain⟨h,g,s⟩:=lJ l a;have:=Nodup.length_le_of_subset c (λx f=>s x ((b x).mp f));omega
 ·intro a;exact((List.perm_ext_iff_of_nodup c a).mpr b).length_eq
section
variable{prog:Program}{w:World}{K:Type}[DecidableEq K]{knd:KeyKind prog w K}{A:Around}{R:Result→Shared→Prop}{I:Addr}{fp wr:List Addr}{G:Array GenState→Array GenState→Prop}{n:Nat}{P:Nat→Value→Prop}{St:Nat→Shared→Prop}
theorem jR{a:List Addr}{s s':Shared}{k:List K}{b:Addr}(m:Moved a G s s')(d:b∉a)(c:IsTupleKey knd s.heap k b):IsTupleKey knd s'.heap k b:=by
 obtain⟨o,f,n,e,r⟩:=c;exact⟨o,f,n,m.heap b o d e,r⟩
theorem oO{a:List Addr}{s s':Shared}{S:Addr}{zs:List (Ent K)}(m:Moved a G s s')(e:S∉a)(i:∀z∈zs,z.2.1∉a)(d:TS knd s.heap S zs):TS knd s'.heap S zs:=by
 obtain⟨⟨o,es,c,t,h,r⟩,f,g⟩:=d;exact⟨⟨o,es,c,t,m.heap S o e h,r⟩,λz b=>jR m (i z b) (f z b),g⟩
theorem dS(W:WalksS prog w A.in1 I fp wr G n P St)(S:Addr)(M:S∉fp)(V:A.in1.units<cLine)(b4:∀k v,knd.is k v=true→v.scannable=true)(key:Nat→List K)(ad:Nat→Addr)(b7:∀i v,P i v→v=.ref (ad i))(O:∀i,i<n→ad i∉S::fp)(c6:n≤60):
  ∀(k i:Nat)(s:Shared)(zs:List (Ent K)),n-i=k→i≤n→St i s→TS knd s.heap S zs→zs.length≤i→(∀z∈zs,∃j,j<n∧z.2.1=ad j)→(∀k',k'∈zs.map (·.2.2)↔∃j,j<i∧key j=k')→(∀j,j<n→IsTupleKey knd s.heap (key j) (ad j)) →
   (∀s' d,Moved (S::wr) G s s'→TS knd s'.heap S d→d.length≤n→(∀k',k'∈d.map (·.2.2)↔∃j,j<n∧key j=k')→R (.ok (.ret .none)) s') →
   codeAny (model prog w) A (.builtin "set.update.loop" ⟨[.ref S,.ref I],[]⟩) R s:=by
 have N:S∉wr:=λh=>M (W.sub _ h);have U:∀b∈wr,b∈S::wr:=λb f=>mem_cons_of_mem _ f;have C:∀i,i<n→ad i∉wr:=λi hi h=>O i hi (mem_cons_of_mem _ (W.sub _ h));have a3:∀i,i<n→ad i≠S:=λi hi h=>O i hi (by rw[h];exact mem_cons_self);intro k
 induction k with
 |zero =>
  intro i s zs a4 hi L B T t p Q x;have D:i=n:=by omega
  subst D;refine codeAny_builtin PyProof.Rows.F.entry_set_update_loop ?_;rw[Around.under_plainId PyProof.Rows.F.plain_set_update_loop _];show wpAny _ A.in1 (pyNext (.ref I) >>= _) _ _ s;refine wpAny_bind (W.done s _ _ L λs' g=>?_);show wpAny _ A.in1 (ret Value.none) _ _ s';exact wpAny_pure (x s' zs (g.mono U) (oO g N (λz q=>by obtain⟨j,c,e⟩:=t z q;rw[e];exact C j c) B) T p)
 |succ k c1 =>
  intro i s zs a4 hi L B T t p Q x;have l:i<n:=by omega
  refine codeAny_builtin PyProof.Rows.F.entry_set_update_loop ?_;rw[Around.under_plainId PyProof.Rows.F.plain_set_update_loop _];show wpAny _ A.in1 (pyNext (.ref I) >>= _) _ _ s;refine wpAny_bind (W.item i s _ _ l L λv s' Z b5 g=>?_);have b6:=b7 i v Z;subst b6;have a0:TS knd s'.heap S zs:=oO g N (λz q=>by obtain⟨j,c,e⟩:=t z q;rw[e];exact C j c) B;have H:∀j,j<n→IsTupleKey knd s'.heap (key j) (ad j):=λj c=>jR g (C j c) (Q j c);show wpAny _ A.in1 (holding [Value.ref (ad i)] (setAdd S (.ref (ad i))) >>= _) _ _ s';refine wpAny_bind (wpAny_holding ?_);unfold setAdd;refine wpAny_holding ?_;refine wpAny_bind (wpAny_pyHash_tuple V (H i l) ?_);refine tf (s:={s' with toks:=s'.toks+((key i).length+1)}) V b4 a0 (H i l) (by omega) λr h' d b3 a2 J=>?_
  have u:SameBut S s'.heap h':=b3;have a7:d.length≤i+1:=by
   rcases J with⟨_,e⟩|⟨_,e⟩
   ·rw[e];omega
   ·have:=e.length_eq;rw[length_map,length_cons,length_map]at this;omega
  have b2:(key i∈zs.map (·.2.2)∧d=zs)∨(d.map (·.2.2)).Perm (key i::zs.map (·.2.2)):=by
   rcases J with e|⟨_,e⟩
   ·exact .inl e
   ·have:=e.map (·.2);rw[map_map,map_cons,map_map]at this;exact .inr this
  have a9:∀k',k'∈d.map (·.2.2)↔∃j,j<i+1∧key j=k':=λk'=>by
   rcases b2 with⟨D,e⟩|e
   ·rw[e,p k'];constructor
    ·rintro⟨j,c,a⟩;exact⟨j,by omega,a⟩
    ·rintro⟨j,c,a⟩
     by_cases E:j=i
     ·rw[←a,E];exact(p _).mp D
     ·exact⟨j,by omega,a⟩
   ·rw[e.mem_iff,mem_cons,p k'];constructor
    ·rintro(a|⟨j,c,a⟩)
     ·exact⟨i,by omega,a.symm⟩
     ·exact⟨j,by omega,a⟩
    ·rintro⟨j,c,a⟩
     by_cases E:j=i
     ·left;rw[←a,E]
     ·exact .inr ⟨j,by omega,a⟩
  have c5:∀b o,b∉S::wr→s'.heap.get? b=some o→h'.get? b=some o:=λb o f e=>by
   rw[u.2 b (λz:b=S=>f (by rw[z];exact mem_cons_self))];exact e
  have a5:∀j,j<n→IsTupleKey knd h' (key j) (ad j):=λj c=>by
   obtain⟨o,c2,m,b1,r⟩:=H j c;exact⟨o,c2,m,(u.2 _ (a3 j c)).trans b1,r⟩
  have c0:∀z∈d,∃j,j<n∧z.2.1=ad j:=by
   rcases J with⟨_,e⟩|⟨_,e⟩
   ·rw[e];exact t
   ·intro z q;have b9:z.2∈d.map (·.2):=mem_map.mpr ⟨z,q,rfl⟩;rcases mem_cons.mp (e.mem_iff.mp b9)with a|a
    ·exact⟨i,l,by rw[a]⟩
    ·obtain⟨y,b8,Y⟩:=mem_map.mp a;obtain⟨j,c,X⟩:=t y b8;exact⟨j,c,by rw[←Y];exact X⟩
  refine wpAny_pure ⟨plainId_quiet PyProof.Rows.F.plain_set_update_loop _,c1 (i+1) _ d (by omega) l (W.frame _ s' _ _ b5 (le_add_right _ _) λb f o e=>?_) a2 a7 c0 a9 a5 λc3 c4 a8 a1 a6 b0=>?_⟩
  ·rw[u.2 b (λh:b=S=>M (by rw[←h];exact f))];exact e
  ·refine x c3 c4 (Moved.trans W.gtrans ((g.mono U).then_heap (le_add_right _ _) λb o f e=>?_) a8) a1 a6 b0;rw[u.2 b (λh:b=S=>f (by rw[h];exact mem_cons_self))];exact e
end
section
variable{prog:Program}{w:World}{K:Type}[DecidableEq K]{knd:KeyKind prog w K}{A:Around}{E:Value→Shared→Prop}{s:Shared}
theorem uN{b:Heap}{a:Addr}(led:Bool)(c:b.get? a=some {cls:=.type "set",dict:=none,data:=.set #[] 0 (.fresh 0 0 led)}):TS knd b a [] :=
 ⟨⟨_,#[],0,_,c,⟨rfl,rfl,rfl⟩,rfl,rfl,⟨rfl,rfl,Pairwise.nil,λ_ b=>by simp at b⟩,Or.inl rfl,(by show 0<21;decide),gp.nil _⟩,λ_ b=>by simp at b,nodup_nil⟩
set_option maxRecDepth 100000 in
set_option maxHeartbeats 3200000 in
theorem jf{l:Addr}{items:Array Value}{key:Nat→List K}{ad:Nat→Addr}{Q:Value→Shared→Prop}(a8:A.handled=none)(d3:A.units+4<cLine)(b5:∀k v,knd.is k v=true→v.scannable=true)(b2:s.heap.IsList l items)(b0:∀(i:Nat) (v:Value),items[i]?=some v→v=Value.ref (ad i))(t:∀i,i<items.size→IsTupleKey knd s.heap (key i) (ad i))(n:items.size≤60)(h:∀(h':Heap) (tk:Nat) (zs:List (Ent K)),TS knd h' s.heap.objs.size zs→zs.length≤items.size→(∀g,g∈zs.map (·.2.2)↔∃j,j<items.size∧key j=g) →
   (∀b o,b<s.heap.objs.size→s.heap.get? b=some o→h'.get? b=some o)→Q (.ref s.heap.objs.size) {s with heap:=h',toks:=tk}):
  wpAny (model prog w) A (call (.type "set") [.ref l]) Q E s:=by
 obtain⟨c,tl,c8⟩:=F.called_set.mro;have c7:=F.called_set.made;have d2:=F.called_set.sub;refine wpAny_call (codeAny_of_tree ?_);show wpAny _ _ (callAny (.type "set") _) _ _ _;refine wpAny_pure ⟨Code.quiet_builtin _ (by decide +kernel),codeAny_builtin F.entry_type_call ?_⟩;rw[Around.under_plain (weight_type_call_type "set" [.ref l] []) rfl];have h1:=F.called_set.notType;have h2:=F.called_set.canCreate;have c5:=F.typeCall_set_1 (.ref l)
 repeat (any_goals (first|assumption|wp_step))
 refine codeAny_mono (code_set_new_1 (.ref l) (E:=E) (Q₁:=λM O=>∃a:Bool,M=.ref s.heap.objs.size∧O={s with heap:=s.heap.push {cls:=.type "set",dict:=none,data:=.set #[] 0 (.fresh 0 0 a)}}) λa=>⟨a,rfl,rfl⟩) λr O z=>?_
 cases r with
 |error e=>exact z
 |ok W =>
  cases W with
  |ret M =>
   obtain⟨a,rfl,rfl⟩:=z;have C:(s.heap.push {cls:=.type "set",dict:=none,data:=.set #[] 0 (.fresh 0 0 a)}).get? s.heap.objs.size=some {cls:=.type "set",dict:=none,data:=.set #[] 0 (.fresh 0 0 a)}:=get?_push_size _ rfl;have a1:Shared.TypeIs {s with heap:=s.heap.push {cls:=.type "set",dict:=none,data:=.set #[] 0 (.fresh 0 0 a)}} (.ref s.heap.objs.size) "set":=⟨_,C,rfl⟩
   have c6:=F.called_set.init.lookup;have c4:=F.called_set.init.bind (.ref s.heap.objs.size)
   repeat (any_goals (first|assumption|wp_step))
   refine codeAny_mono (codeAny_call_builtin (R:=wants (λr P=>r=.none∧∃h' tk zs,P={s with heap:=h',toks:=tk}∧TS knd h' s.heap.objs.size zs∧zs.length≤items.size∧(∀g,g∈zs.map (·.2.2)↔∃j,j<items.size∧key j=g) ∧
     (∀b o,b<s.heap.objs.size→s.heap.get? b=some o→h'.get? b=some o)) E) F.called_set.init.plain F.entry_set_init (check_set_init_1 a1 ?_)) λc2 P B=>?_
   ·obtain⟨b8,y,D,L,G⟩:=b2;obtain⟨d4,b7,d5,c0⟩:=b8;simp only at D G;subst D;subst G;have b4:(s.heap.push {cls:=.type "set",dict:=none,data:=.set #[] 0 (.fresh 0 0 a)}).get? l=some {cls:=.type "list",dict:=b7,data:=.seq items L,slots:=c0}:=get?_push_of_some _ y;have d1:=F.sub_list_set;have d0:=F.sub_list_frozenset;have c9:(Value.type "list"==Value.type "dict")=false:=by decide
    have I:(s.heap.push {cls:=.type "set",dict:=none,data:=.set #[] 0 (.fresh 0 0 a)}).IsList l items:=⟨_,b4,rfl,L,rfl⟩;unfold Builtin.«set.__init__» noKeywords Builtin.Frozenset.updateFrom;generalize Z:pyIter=PI
    wp_walk
    subst Z;refine wpAny_pyIter_list I ?_;refine wpAny_bind (wpAny_runValue ?_);have J:l<s.heap.objs.size:=lt_size y;have a9:A.in1.in1.in1.handled=none:=by simp[a8]
    have b3:l≠(s.heap.push {cls:=.type "set",dict:=none,data:=.set #[] 0 (.fresh 0 0 a)}).objs.size:=by
     rw[size_push];exact ne_of_lt (lt_succ_of_lt J)
    have a0:s.heap.objs.size∉[(s.heap.push {cls:=.type "set",dict:=none,data:=.set #[] 0 (.fresh 0 0 a)}).objs.size,l]:=by
     rw[size_push];simp only[mem_cons,mem_singleton,not_mem_nil,or_false,not_or];exact⟨ne_of_lt (Nat.lt_succ_self _),ne_of_gt J⟩
    have a4:∀i,i<items.size→ad i<s.heap.objs.size:=λi d=>by
     obtain⟨o,_,_,f,_⟩:=t i d;exact lt_size f
    have a3:∀i,i<items.size→ad i≠l:=λi d e=>by
     obtain⟨o,_,_,f,a7,_⟩:=t i d;rw[e,y]at f;cases f;have h':Value.type "list"=Value.type "tuple":=a7;injection h' with h'
     exact absurd h' (by decide)
    have a2:∀i,i<items.size→ad i∉s.heap.objs.size::[(s.heap.push {cls:=.type "set",dict:=none,data:=.set #[] 0 (.fresh 0 0 a)}).objs.size,l]:=λi d=>by
     rw[size_push];have N:ad i<s.heap.objs.size:=a4 i d;have c1:=a3 i d;simp only[mem_cons,mem_singleton,not_mem_nil,or_false,not_or];exact⟨ne_of_lt N,ne_of_lt (lt_succ_of_lt N),c1⟩
    refine dS (knd:=knd) ((Walks.list a9 _ l b3 items).toS) s.heap.objs.size
     a0 (by simp[Around.in1_units];omega) b5 key ad b0 a2 n (items.size-0) 0 _ [] (by omega) (zero_le _)
     ⟨⟨_,get?_push_size _ rfl,rfl,rfl⟩,(I.push _)⟩ ?hS0 (zero_le _) (λ_ h=>by simp at h) (λg=>⟨λh=>by simp at h,λ⟨j,H,_⟩=>by omega⟩) ?hks ?hR
    case hS0 =>
     exact uN a (get?_push_of_some _ C)
    case hks =>
     intro j H;obtain⟨o,b6,m,f,r⟩:=t j H;exact⟨o,b6,m,get?_push_of_some _ (get?_push_of_some _ f),r⟩
    case hR =>
     intro s' zs p q u x;obtain⟨h',Y,S,c3,b9⟩:=s';have U:Y=s.gens:=p.gens;have T:S=s.drawn:=p.drawn;have V:b9=s.os:=p.os;subst U;subst T;subst V;show wpAny _ _ _ _ _ _;refine wpAny_pure ?_;show wpAny _ _ (ret Value.none) _ _ _;refine wpAny_pure ⟨rfl,h',c3,zs,rfl,q,u,x,λb o n e=>?_⟩;have a5:b≠s.heap.objs.size:=ne_of_lt n;have a6:b≠(s.heap.push {cls:=.type "set",dict:=none,data:=.set #[] 0 (.fresh 0 0 a)}).objs.size:=by
      rw[size_push];exact ne_of_lt (lt_succ_of_lt n)
     exact p.heap b o (by simp only[mem_cons,mem_singleton,not_mem_nil,or_false,not_or];exact⟨a5,a6⟩) (get?_push_of_some _ (get?_push_of_some _ e))
   ·cases c2 with
    |error e=>exact B
    |ok X =>
     cases X with
     |ret r =>
      obtain⟨rfl,h',tk,zs,rfl,q,u,x,b1⟩:=B
      repeat (any_goals (first|assumption|wp_step))
      exact h _ _ zs q u x b1
     |_=>exact B.elim
  |_=>exact z.elim
end
end TB
namespace SRT
open PySem PySem.W PyProof.Rows
def run{b:Type}(f:Nat→Nat→Bool):KasT b→b
 |.ret a=>a
 |.ask i j k=>run f (k (f i j))
theorem eE{b c:Type}(f:Nat→Nat→Bool)(g:b→KasT c):∀t:KasT b,run f (t.bind g)=run f (g (run f t))
 |.ret a=>rfl
 |.ask i j k=>eE f g (k (f i j))
def path{a:Type}(f:Nat→Nat→Bool)(n:Nat):KasT a→Prop
 |.ret _=>True
 |.ask i j k=>i<n∧j<n∧path f n (k (f i j))
theorem dm{b c:Type}{f:Nat→Nat→Bool}{n:Nat}{g:b→KasT c}:∀{t:KasT b},path f n t→path f n (g (run f t))→path f n (t.bind g)
 |.ret a,_,h=>h
 |.ask i j k,h,h'=>⟨h.1,h.2.1,dm (t:=k (f i j)) h.2.2 h'⟩
theorem rX{d:Type}{f:Nat→Nat→Bool}{n:Nat}{b:Nat→Nat→(Bool→Shared→Prop)→Shared→Prop}{s:Shared}(c:∀i j C,i<n→j<n→C (f i j) s→b i j C s)(Q:d→Shared→Prop):∀t:KasT d,path f n t→Q (run f t) s→t.kasWp b Q s
 |.ret a,_,h=>h
 |.ask i j k,p,h=>c i j _ p.1 p.2.1 (rX c Q (k (f i j)) p.2.2 h)
structure Ord(f:Nat→Nat→Bool)(n:Nat):Prop where
 irr:∀i,i<n→f i i=false
 tr:∀i j k,i<n→j<n→k<n→f i j=true→f j k=true→f i k=true
 tot:∀i j,i<n→j<n→i≠j→f i j=true∨f j i=true
section
variable{f:Nat→Nat→Bool}{n:Nat}
structure Row(n:Nat)(p:Array Nat):Prop where
 perm:p.toList.Perm (List.range n)
theorem Row.size{p:Array Nat}(r:Row n p):p.size=n:=by have:=r.perm.length_eq;simpa using this
theorem Row.lt{p:Array Nat}(r:Row n p){i:Nat}(a:i<n):p.getD i 0<n:=by
 have b:=r.size;have:p.getD i 0∈p.toList:=by
  rw[getD_eq_getD_getElem?,Array.getElem?_eq_getElem (by omega)];exact Array.getElem_mem_toList (by omega)
 exact mem_range.mp (r.perm.mem_iff.mp this)
theorem Row.ne{p:Array Nat}(r:Row n p){i j:Nat}(d:i<n)(f:j<n)(b:i≠j):p.getD i 0≠p.getD j 0:=by
 have g:=r.size;have c:p.toList.Nodup:=r.perm.nodup_iff.mpr nodup_range;rw[getD_eq_getD_getElem?,getD_eq_getD_getElem?,Array.getElem?_eq_getElem (by omega),Array.getElem?_eq_getElem (by omega)];intro e;have a:p.toList[i]'(by simpa using (by omega:i<p.size))=p.toList[j]'(by simpa using (by omega:j<p.size)):=by simpa using e
 exact b ((getElem_inj c).mp a)
theorem Row.rev{p:Array Nat}(r:Row n p)(i j:Nat):Row n (kas_rev p i j):=⟨(Array.perm_iff_toList_perm.mp (mirror_perm p i j _)).trans r.perm⟩
theorem Row.bub{p:Array Nat}(r:Row n p)(i j:Nat):Row n (bubble p i j):=⟨(Array.perm_iff_toList_perm.mp (bubble_perm p i j)).trans r.perm⟩
def Up(f:Nat→Nat→Bool)(p:Array Nat)(m:Nat):Prop:=∀i j,i<j→j<m→f (p.getD i 0) (p.getD j 0)=true
theorem xi(c:Ord f n){p:Array Nat}(r:Row n p){m:Nat}(b:m<n)(k:1≤m)(u:Up f p m)(h:f (p.getD m 0) (p.getD (m-1) 0)=false):Up f p (m+1):=by
 have d:f (p.getD (m-1) 0) (p.getD m 0)=true:=by
  rcases c.tot _ _ (r.lt (i:=m) b) (r.lt (i:=m-1) (by omega)) (r.ne b (by omega) (by omega))with z|z
  ·rw[h]at z;cases z
  ·exact z
 intro i a j l
 by_cases e:a=m
 ·subst e
  by_cases g:i=a-1
  ·rw[g];exact d
  ·exact c.tr _ _ _ (r.lt (by omega)) (r.lt (by omega)) (r.lt b) (u i (a-1) (by omega) (by omega)) d
 ·exact u i a j (by omega)
theorem nc(c:Ord f n){p:Array Nat}(r:Row n p):∀(a m:Nat),1≤m→m+a≤n→Up f p m →
  m≤run f (kas_asc p a m)∧run f (kas_asc p a m)≤m+a∧Up f p (run f (kas_asc p a m))∧(run f (kas_asc p a m)<m+a→f (p.getD (run f (kas_asc p a m)) 0) (p.getD (run f (kas_asc p a m)-1) 0)=true)
 |0,m,_,_,u=>⟨le_refl _,le_refl _,u,λh=>absurd h (by simp[kas_asc,run])⟩
 |a+1,m,h1,hm,u=>by
  cases e:f (p.getD m 0) (p.getD (m-1) 0)with
  |true =>
   have b:run f (kas_asc p (a+1) m)=m:=by
    show run f (if f (p.getD m 0) (p.getD (m-1) 0)=true then KasT.ret m else kas_asc p a (m+1))=m
    rw[e,if_pos rfl];rfl
   rw[b];exact⟨le_refl _,by omega,u,λ_=>e⟩
  |false =>
   have b:run f (kas_asc p (a+1) m)=run f (kas_asc p a (m+1)):=by
    show run f (if f (p.getD m 0) (p.getD (m-1) 0)=true then KasT.ret m else kas_asc p a (m+1))=_
    rw[e,if_neg (by simp)]
   rw[b];obtain⟨i,j,d,g⟩:=nc c r a (m+1) (by omega) (by omega) (xi c r (by omega) h1 u e);exact⟨by omega,by omega,d,λh=>g (by omega)⟩
def zo(f:Nat→Nat→Bool)(p:Array Nat)(m:Nat):Prop:=∀i j,i<j→j<m→f (p.getD j 0) (p.getD i 0)=true
theorem ng(g:Ord f n){p:Array Nat}(r:Row n p):∀(a m:Nat),1≤m→m+a≤n→zo f p m →
  ∃b,run f (kas_desc a p m 0)=(p,b,0)∧m≤b∧b≤m+a∧zo f p b
 |0,m,_,_,u=>⟨m,rfl,le_refl _,le_refl _,u⟩
 |a+1,m,h1,hm,u=>by
  cases e:f (p.getD m 0) (p.getD (m-1) 0)with
  |true =>
   have j:run f (kas_desc (a+1) p m 0)=run f (kas_desc a p (m+1) 0):=by
    show run f (if f (p.getD m 0) (p.getD (m-1) 0)=true then (if 0>0 then _ else kas_desc a p (m+1) 0)else _)=_
    rw[e,if_pos rfl,if_neg (by omega)]
   rw[j];obtain⟨b,k,s,t,l⟩:=ng g r a (m+1) (by omega) (by omega) (by
    intro i c q v
    by_cases o:c=m
    ·subst o
     by_cases h:i=c-1
     ·rw[h];exact e
     ·exact g.tr _ _ _ (r.lt (by omega)) (r.lt (i:=c-1) (by omega)) (r.lt (by omega)) e (u i (c-1) (by omega) (by omega))
    ·exact u i c q (by omega))
   exact⟨b,k,by omega,by omega,l⟩
  |false =>
   have h:f (p.getD (m-1) 0) (p.getD m 0)=true:=by
    rcases g.tot _ _ (r.lt (i:=m) (by omega)) (r.lt (i:=m-1) (by omega)) (r.ne (by omega) (by omega) (by omega))with z|z
    ·rw[e]at z;cases z
    ·exact z
   have j:run f (kas_desc (a+1) p m 0)=(p,m,0):=by
    show run f (if f (p.getD m 0) (p.getD (m-1) 0)=true then _ else KasT.ask (p.getD (m-1) 0) (p.getD m 0) λd=>if d=true then .ret (p,m,0)else kas_desc a p (m+1) (0+1))=_
    rw[e,if_neg (by simp)];show run f (if f (p.getD (m-1) 0) (p.getD m 0)=true then KasT.ret (p,m,0)else kas_desc a p (m+1) (0+1))=_
    rw[h,if_pos rfl];rfl
   exact⟨m,j,le_refl _,by omega,u⟩
theorem rY{p:Array Nat}{m:Nat}(b:m≤p.size)(k:Nat)(a:k<m):(kas_rev p 0 m).getD k 0=p.getD (m-1-k) 0:=by
 unfold kas_rev;rw[getD_eq_getD_getElem?,getElem?_mirror_all b k,if_pos ⟨by omega,a⟩,getD_eq_getD_getElem?]
 congr 2
 omega
theorem zp{p:Array Nat}{m:Nat}(a:m≤p.size)(d:zo f p m):Up f (kas_rev p 0 m) m:=by
 intro i c e b;rw[rY a i (by omega),rY a c b];exact d _ _ (by omega) (by omega)
theorem oP(d:Ord f n){p:Array Nat}(r:Row n p)(F:1≤n):∃m h,run f (kas_count n p)=(m,h)∧1≤m∧m≤n∧Row n h∧Up f h m:=by
 obtain⟨g,o,b,j⟩:=nc d r (n-1) 1 (by omega) (by omega) (by intro i l x y;omega);have v:run f (kas_count n p)=run f (if (run f (kas_asc p (n-1) 1)==n)=true then KasT.ret (run f (kas_asc p (n-1) 1),p)else if run f (kas_asc p (n-1) 1)>1 then .ask (p.getD 0 0) (p.getD (run f (kas_asc p (n-1) 1)-1) 0) λc=>if c=true then .ret (run f (kas_asc p (n-1) 1),p)else kas_descPart (run f (kas_asc p (n-1) 1)) n (kas_rev p 0 (run f (kas_asc p (n-1) 1)))
  else kas_descPart (run f (kas_asc p (n-1) 1)) n p):=by
  unfold kas_count;rw[eE]
 rw[v];generalize run f (kas_asc p (n-1) 1)=m at g o b j⊢
 by_cases e:m=n
 ·rw[if_pos (by simp[e])];exact⟨m,p,rfl,g,by omega,r,b⟩
 ·rw[if_neg (by simpa using e)]
  by_cases k:m>1
  ·rw[if_pos k];refine⟨m,p,?_,g,by omega,r,b⟩;show run f (if f (p.getD 0 0) (p.getD (m-1) 0)=true then KasT.ret (m,p)else _)=_
   rw[b 0 (m-1) (by omega) (by omega),if_pos rfl];rfl
  ·rw[if_neg k];have u:m=1:=by omega
   subst u;have w:=j (by omega);unfold kas_descPart;obtain⟨a,q,A,B,s⟩:=ng d r (n-(1+1)) (1+1) (by omega) (by omega) (by
    intro i l x y;have:i=0∧l=1:=by omega
    rw[this.1,this.2];exact w)
   rw[eE,q];dsimp only;rw[if_neg (by omega)];unfold kas_tail3;have G:=r.size;have z:=zp (f:=f) (by omega:a≤p.size) s;obtain⟨C,D,t,E⟩:=nc d (r.rev 0 a) (n-a) a (by omega) (by omega) z;rw[eE];exact⟨_,_,rfl,by omega,by omega,r.rev 0 a,t⟩
theorem hJ(d:Ord f n){p:Array Nat}(r:Row n p){k:Nat}(b:k<n)(u:Up f p k):∀(a l r':Nat),r'-l≤a→l≤r'→r'≤k →
  (∀i,i<l→f (p.getD i 0) (p.getD k 0)=true)→(∀i,r'≤i→i<k→f (p.getD k 0) (p.getD i 0)=true) →
  run f (kas_place p k a l r')≤k∧(∀i,i<run f (kas_place p k a l r')→f (p.getD i 0) (p.getD k 0)=true)∧(∀i,run f (kas_place p k a l r')≤i→i<k→f (p.getD k 0) (p.getD i 0)=true)
 |0,l,r',h1,h2,h3,h4,h5=>by
  have:l=r':=by omega
  subst this;exact⟨h3,h4,h5⟩
 |a+1,l,r',h1,h2,h3,h4,h5=>by
  unfold kas_place
  by_cases e:l≥r'
  ·rw[if_pos e];have:l=r':=by omega
   subst this;exact⟨h3,h4,h5⟩
  ·rw[if_neg e];have o:(l+r') / 2<k:=by omega
   cases c:f (p.getD k 0) (p.getD ((l+r') / 2) 0)with
   |true =>
    have h:run f (KasT.ask (p.getD k 0) (p.getD ((l+r') / 2) 0) λc=>if c=true then kas_place p k a l ((l+r') / 2)else kas_place p k a ((l+r') / 2+1) r')=run f (kas_place p k a l ((l+r') / 2)):=by
     show run f (if f (p.getD k 0) (p.getD ((l+r') / 2) 0)=true then _ else _)=_
     rw[c,if_pos rfl]
    rw[h];refine hJ d r b u a l _ (by omega) (by omega) (by omega) h4 (λi hi m=>?_)
    by_cases g:i=(l+r') / 2
    ·rw[g];exact c
    ·exact d.tr _ _ _ (r.lt b) (r.lt (i:=(l+r') / 2) (by omega)) (r.lt (by omega)) c (u _ _ (by omega) m)
   |false =>
    have h:run f (KasT.ask (p.getD k 0) (p.getD ((l+r') / 2) 0) λc=>if c=true then kas_place p k a l ((l+r') / 2)else kas_place p k a ((l+r') / 2+1) r')=run f (kas_place p k a ((l+r') / 2+1) r'):=by
     show run f (if f (p.getD k 0) (p.getD ((l+r') / 2) 0)=true then _ else _)=_
     rw[c,if_neg (by simp)]
    rw[h];have j:f (p.getD ((l+r') / 2) 0) (p.getD k 0)=true:=by
     rcases d.tot _ _ (r.lt (i:=k) b) (r.lt (i:=(l+r') / 2) (by omega)) (r.ne b (by omega) (by omega))with z|z
     ·rw[c]at z;cases z
     ·exact z
    refine hJ d r b u a _ r' (by omega) (by omega) h3 (λi hi=>?_) h5
    by_cases g:i=(l+r') / 2
    ·rw[g];exact j
    ·exact d.tr _ _ _ (r.lt (by omega)) (r.lt (i:=(l+r') / 2) (by omega)) (r.lt b) (u i _ (by omega) (by omega)) j
theorem jm{p:Array Nat}{k l:Nat}(a:k<p.size)(b:l≤k)(i:Nat):(bubble p k (k-l)).getD i 0=if i=l then p.getD k 0 else if l<i∧i≤k then p.getD (i-1) 0 else p.getD i 0:=by
 simp only[getD_eq_getD_getElem?];rw[getElem?_bubble a (k-l) (by omega) i];have e:k-(k-l)=l:=by omega
 rw[e]
 by_cases h1:i=l
 ·rw[if_pos h1,if_pos h1]
 ·rw[if_neg h1,if_neg h1]
  by_cases h2:l<i∧i≤k
  ·rw[if_pos h2,if_pos h2]
  ·rw[if_neg h2,if_neg h2]
theorem uO(d:Ord f n):∀(a:Nat)(p:Array Nat)(k:Nat),Row n p→k+a=n→Up f p k→Row n (run f (kas_bin a p k))∧Up f (run f (kas_bin a p k)) n
 |0,p,k,r,hk,u=>by
  have:k=n:=by omega
  subst this;exact⟨r,u⟩
 |a+1,p,k,r,hk,u=>by
  have t:k<n:=by omega
  obtain⟨c,e,g⟩:=hJ d r t u k 0 k (by omega) (by omega) (le_refl _) (λi hi=>by omega) (λi h1 h2=>by omega);have q:run f (kas_bin (a+1) p k)=run f (kas_bin a (bubble p k (k-run f (kas_place p k k 0 k))) (k+1)):=by
   show run f ((kas_place p k k 0 k).bind λl=>kas_bin a (bubble p k (k-l)) (k+1))=_;rw[eE]
  rw[q];generalize run f (kas_place p k k 0 k)=l at c e g⊢;have x:=r.size;refine uO d a _ (k+1) (r.bub _ _) (by omega) ?_;intro i b s w;rw[jm (by omega) c i,jm (by omega) c b]
  by_cases h:i=l
  ·rw[if_pos h,if_neg (by omega),if_pos ⟨by omega,by omega⟩];exact g (b-1) (by omega) (by omega)
  ·rw[if_neg h]
   by_cases j:b=l
   ·rw[if_pos j,if_neg (by omega)];exact e i (by omega)
   ·rw[if_neg j]
    by_cases m:l<i∧i≤k
    ·rw[if_pos m,if_pos ⟨by omega,by omega⟩];exact u _ _ (by omega) (by omega)
    ·rw[if_neg m]
     by_cases o:l<b∧b≤k
     ·rw[if_pos o]
      by_cases v:i=b-1
      ·omega
      ·exact u i (b-1) (by omega) (by omega)
     ·rw[if_neg o];exact u i b s (by omega)
theorem jS{p:Array Nat}(r:Row n p):∀(a m:Nat),1≤m→m+a≤n→path f n (kas_asc p a m)
 |0,m,_,_=>trivial
 |a+1,m,h1,hm=>by
  refine⟨r.lt (by omega),r.lt (by omega),?_⟩;show path f n (if f (p.getD m 0) (p.getD (m-1) 0)=true then KasT.ret m else kas_asc p a (m+1))
  split
  ·exact trivial
  ·exact jS r a (m+1) (by omega) (by omega)
theorem lK(b:Ord f n){p:Array Nat}(r:Row n p):∀(a m:Nat),1≤m→m+a≤n→path f n (kas_desc a p m 0)
 |0,m,_,_=>trivial
 |a+1,m,h1,hm=>by
  refine⟨r.lt (by omega),r.lt (by omega),?_⟩;show path f n (if f (p.getD m 0) (p.getD (m-1) 0)=true then (if 0>0 then _ else kas_desc a p (m+1) 0)else KasT.ask (p.getD (m-1) 0) (p.getD m 0) λd=>if d=true then .ret (p,m,0)else kas_desc a p (m+1) (0+1))
  cases e:f (p.getD m 0) (p.getD (m-1) 0)with
  |true =>
   rw[if_pos rfl,if_neg (by omega)];exact lK b r a (m+1) (by omega) (by omega)
  |false =>
   rw[if_neg (by simp)];have c:f (p.getD (m-1) 0) (p.getD m 0)=true:=by
    rcases b.tot _ _ (r.lt (i:=m) (by omega)) (r.lt (i:=m-1) (by omega)) (r.ne (by omega) (by omega) (by omega))with z|z
    ·rw[e]at z;cases z
    ·exact z
   refine⟨r.lt (by omega),r.lt (by omega),?_⟩;dsimp only;rw[c,if_pos rfl];exact trivial
theorem qm(a:Ord f n){p:Array Nat}(r:Row n p)(x:1≤n):path f n (kas_count n p):=by
 obtain⟨h,j,b,c⟩:=nc a r (n-1) 1 (by omega) (by omega) (by intro i g q s;omega);unfold kas_count;refine dm (jS r _ _ (by omega) (by omega)) ?_;generalize run f (kas_asc p (n-1) 1)=m at h j b c⊢
 by_cases e:m=n
 ·rw[if_pos (by simp[e])];exact trivial
 ·rw[if_neg (by simpa using e)]
  by_cases d:m>1
  ·rw[if_pos d];refine⟨r.lt (by omega),r.lt (by omega),?_⟩;dsimp only;rw[b 0 (m-1) (by omega) (by omega),if_pos rfl];exact trivial
  ·rw[if_neg d];have l:m=1:=by omega
   subst l;have o:=c (by omega);unfold kas_descPart;refine dm (lK a r _ _ (by omega) (by omega)) ?_;obtain⟨t,k,u,v,w⟩:=ng a r (n-(1+1)) (1+1) (by omega) (by omega) (by
    intro i g q s;have:i=0∧g=1:=by omega
    rw[this.1,this.2];exact o)
   rw[k];dsimp only;rw[if_neg (by omega)];unfold kas_tail3;exact dm (jS (r.rev 0 t) _ _ (by omega) (by omega)) trivial
theorem gL{p:Array Nat}(r:Row n p){k:Nat}(c:k<n):∀(b l a:Nat),a≤k→path f n (kas_place p k b l a)
 |0,l,a,_=>trivial
 |b+1,l,a,h=>by
  unfold kas_place
  by_cases e:l≥a
  ·rw[if_pos e];exact trivial
  ·rw[if_neg e];refine⟨r.lt c,r.lt (by omega),?_⟩;dsimp only
   split
   ·exact gL r c b _ _ (by omega)
   ·exact gL r c b _ _ h
theorem oQ(d:Ord f n):∀(b:Nat)(p:Array Nat)(k:Nat),Row n p→k+b=n→Up f p k→path f n (kas_bin b p k)
 |0,p,k,r,hk,u=>trivial
 |b+1,p,k,r,hk,u=>by
  have q:k<n:=by omega
  show path f n ((kas_place p k k 0 k).bind λl=>kas_bin b (bubble p k (k-l)) (k+1));refine dm (gL r q _ _ _ (le_refl _)) ?_;obtain⟨c,e,g⟩:=hJ d r q u k 0 k (by omega) (by omega) (le_refl _) (λi hi=>by omega) (λi h1 h2=>by omega);generalize run f (kas_place p k k 0 k)=l at c e g⊢;have w:=r.size;refine oQ d b _ (k+1) (r.bub _ _) (by omega) ?_;intro i a s v;rw[jm (by omega) c i,jm (by omega) c a]
  by_cases h:i=l
  ·rw[if_pos h,if_neg (by omega),if_pos ⟨by omega,by omega⟩];exact g (a-1) (by omega) (by omega)
  ·rw[if_neg h]
   by_cases j:a=l
   ·rw[if_pos j,if_neg (by omega)];exact e i (by omega)
   ·rw[if_neg j]
    by_cases m:l<i∧i≤k
    ·rw[if_pos m,if_pos ⟨by omega,by omega⟩];exact u _ _ (by omega) (by omega)
    ·rw[if_neg m]
     by_cases o:l<a∧a≤k
     ·rw[if_pos o]
      by_cases t:i=a-1
      ·omega
      ·exact u i (a-1) (by omega) (by omega)
     ·rw[if_neg o];exact u i a s (by omega)
theorem tm(a:Ord f n)(b:1≤n):path f n (kas_sort n):=by
 have d:Row n (toArray (List.range n)):=⟨by simp⟩;obtain⟨m,g,e,h1,h2,r,u⟩:=oP a d b;unfold kas_sort;refine dm (qm a d b) ?_;rw[e];dsimp only
 by_cases c:m<n
 ·rw[if_pos c];have:max m 1=m:=by omega
  rw[this];exact oQ a (n-m) g m r (by omega) u
 ·rw[if_neg c];exact trivial
theorem xj(a:Ord f n)(c:1≤n):Row n (run f (kas_sort n))∧Up f (run f (kas_sort n)) n:=by
 have g:Row n (toArray (List.range n)):=⟨by simp⟩;obtain⟨m,d,e,h1,h2,r,u⟩:=oP a g c;unfold kas_sort;rw[eE,e];dsimp only
 by_cases b:m<n
 ·rw[if_pos b];have:max m 1=m:=by omega
  rw[this];exact uO a (n-m) d m r (by omega) u
 ·rw[if_neg b];have:m=n:=by omega
  subst this;exact⟨r,u⟩
end
section
variable{prog:Program}{w:World}{A:Around}{E:Value→Shared→Prop}{s:Shared}
theorem xk{vs:List Value}(h:vs.length<2):((vs.toArray.zip vs.toArray).map (·.2)).toList=(toArray ((toArray (List.range vs.length)).toList.map λi=>vs.getD i Value.none)).toList:=by
 cases vs with
 |nil=>simp
 |cons v r =>
  cases r with
  |nil=>simp
  |cons u r=>exact absurd h (by simp)
theorem hV{f:Nat→Nat→Bool}{a:Addr}{vs:List Value}{n:Nat}{κ:SortKind}{P:PySem.Fin→Shared→Prop}(m:Ord f vs.length)(h:s.heap.get? a=some (seqObj "list" vs.toArray n))(I:vs.length<64)(O:∀s':Shared,(∀b o,b≠a→s.heap.get? b=some o→s'.heap.get? b=some o)→∀Q:SortKind→Shared→Prop,2≤vs.length→Q κ s'→wpAny (model prog w) A (keyKind' vs.toArray) Q (λ_ _=>False) s')(R:∀s':Shared,(∀b o,b≠a→s.heap.get? b=some o→s'.heap.get? b=some o)→∀(i j:Nat) (C:Bool→Shared→Prop),i<vs.length→j<vs.length→C (f i j) s'→wpAny (model prog w) A (keyLt' κ (vs.getD i Value.none) (vs.getD j Value.none)) C (λ_ _=>False) s')(q:∀p:Array Nat,Row vs.length p→Up f p vs.length→P (.done (.ret .none)) {s with heap:=sortedHeap s.heap a vs (toArray (p.toList.map λi=>vs.getD i Value.none))}):
  wpAny (model prog w) A (Builtin.«list.sort» ⟨[.ref a],[]⟩) P E s:=by
 have a0:a<s.heap.objs.size:=lt_size h;have Z:=SameBut.update s.heap a (Obj.mapSeq λ_=>(#[]:Array Value));obtain⟨d,t⟩:∃d,(s.heap.update a (Obj.mapSeq λ_=>(#[]:Array Value))).get? a=some (seqObj "list" #[] d):=⟨_,get?_update_seq h λ_=>#[]⟩;rw[list_sort_plain];refine wpAny_bind (listItems_at h rfl ?_);refine wpAny_bind (listUpdate_at h rfl ?_ (by rw[size_toArray,sizeLine_eq];omega) (zero_le _));refine wpAny_bind (seqEpoch_at t rfl ?_);refine wpAny_bind (wpAny_newTuple ?_ (by show vs.length≤_;rw[sizeLine_eq];omega));refine wpAny_bind (wpAny_newList ?_ (zero_le _));refine wpAny_holding ?_;have k:(((s.heap.update a (Obj.mapSeq λ_=>(#[]:Array Value))).push (seqObj "tuple" vs.toArray 0)).push (seqObj "list" #[] 0)).get? a=some (seqObj "list" #[] d):=get?_push_of_some _ (get?_push_of_some _ t);have v:∀b o,b≠a→s.heap.get? b=some o→(((s.heap.update a (Obj.mapSeq λ_=>(#[]:Array Value))).push (seqObj "tuple" vs.toArray 0)).push (seqObj "list" #[] 0)).get? b=some o:=λb o L e =>
  get?_push_of_some _ (get?_push_of_some _ ((Z.2 b L).trans e))
 show wpAny (model prog w) A _ P E {s with heap:=((s.heap.update a (Obj.mapSeq λ_=>(#[]:Array Value))).push (seqObj "tuple" vs.toArray 0)).push (seqObj "list" #[] 0)}
 dsimp only
 by_cases c:vs.toArray.size<2
 ·rw[if_pos c,if_pos c];refine wpAny_bind (wpAny_pure ?_);rw[StateT.run_pure];refine wpAny_bind (wpAny_pure ?_);dsimp only;have g:vs.length<2:=by simpa using c
  have u:Row vs.length (toArray (List.range vs.length)):=⟨by simp⟩;have V:Up f (toArray (List.range vs.length)) vs.length:=λi j a1 r=>by omega
  have F:(arrOf (SortSt.mk' general' (vs.toArray.zip vs.toArray) #[] 7 none)).map (·.2)=toArray ((toArray (List.range vs.length)).toList.map λi=>vs.getD i Value.none):=by
   show(vs.toArray.zip vs.toArray).map (·.2)=_;apply Array.toList_inj.mp;exact xk g
  refine wpAny_bind (seqEpoch_at k rfl ?_);rw[F];refine wpAny_bind (listUpdate_at k rfl ?_ (zero_le _) (by rw[size_toArray,length_map,length_toList,u.size,sizeLine_eq];omega));show wpAny _ _ (if (d != d)=true then _ else _) _ _ _
  simp only[bne_self_eq_false,false_eq_true,if_false];exact wpAny_pure (q _ u V)
 ·have g:2≤vs.length:=by rw[size_toArray]at c;omega
  rw[if_neg c,if_neg c];refine wpAny_bind (wpAny_mono (O {s with heap:=((s.heap.update a (Obj.mapSeq λ_=>(#[]:Array Value))).push (seqObj "tuple" vs.toArray 0)).push (seqObj "list" #[] 0)} v (λX s'=>X=κ∧s'={s with heap:=((s.heap.update a (Obj.mapSeq λ_=>(#[]:Array Value))).push (seqObj "tuple" vs.toArray 0)).push (seqObj "list" #[] 0)}) g ⟨rfl,rfl⟩) (λa3 a2 M=>?_) λ_ _ x=>x.elim)
  obtain⟨G,es⟩:=M;subst G es;obtain⟨U,W⟩:=xj m (by omega:1≤vs.length);refine wpAny_bind (wpAny_mono (kat_run (Q:=λl s'=>∃p:Array Nat,p.size=vs.length∧arrOf l=p.map (kas_item (vs.toArray.zip vs.toArray))∧failedOf l=none∧p=run f (kas_sort vs.length)∧s'={s with heap:=((s.heap.update a (Obj.mapSeq λ_=>(#[]:Array Value))).push (seqObj "tuple" vs.toArray 0)).push (seqObj "list" #[] 0)})
   rfl g I (λY l s' y z B D=>⟨Y,y,z,B,D⟩) (rX (n:=vs.length) (λi j C hi r J=>R _ v i j C hi r J) (λp s'=>p=run f (kas_sort vs.length)∧s'={s with heap:=((s.heap.update a (Obj.mapSeq λ_=>(#[]:Array Value))).push (seqObj "tuple" vs.toArray 0)).push (seqObj "list" #[] 0)}) _ (tm m (by omega)) ⟨rfl,rfl⟩)) ?_ λ_ _ e=>e)
  rintro⟨⟨⟩,l⟩ s' ⟨p,T,K,N,H,es⟩;subst es;dsimp only;have S:=kat_snds (ks:=vs) rfl K;refine wpAny_bind (seqEpoch_at k rfl ?_);rw[S];refine wpAny_bind (listUpdate_at k rfl ?_ (zero_le _) (by rw[size_toArray,length_map,length_toList,T,sizeLine_eq];omega));rw[N];simp only[bne_self_eq_false,false_eq_true,if_false];rw[H];exact wpAny_pure (q _ U W)
theorem oR{l:Addr}{vs:List Value}{Q:List Value→Shared→Prop}(e:IsTup s.heap l vs.toArray)(b:Q vs {s with heap:=(s.heap.push (seqObj "list" #[] 0)).update s.heap.objs.size (Obj.mapSeq (· ++ vs.toArray))})(hsz:vs.length≤sizeLine):
  wpAny (model prog w) A (collect (.ref l)) Q E s:=by
 obtain⟨o,f,c,n,d⟩:=id e;unfold collect;refine wpAny_bind (wpAny_runValue (codeAny_builtin entry_proto_collect' ?_));show wpAny _ _ (do again (.builtin "list.__iadd__" ⟨[←newList [],.ref l],[]⟩)) _ _ s
 refine wpAny_bind (wpAny_newList (wpAny_pure ⟨Code.quiet_builtin _ (by decide +kernel),codeAny_builtin entry_list_iadd' ?_⟩));show wpAny _ _ (Builtin.List.listExtendWith (.ref s.heap.objs.size) (.ref l) (.ref s.heap.objs.size)) _ _ {s with heap:=s.heap.push (seqObj "list" #[] 0)}
 unfold Builtin.List.listExtendWith;have a:(s.heap.push (seqObj "list" #[] 0)).get? l=some o:=get?_push_of_some _ f;refine wpAny_bind (wpAny_typeOf (T:="tuple") ⟨o,a,c⟩ ?_);have g:(Value.type "tuple"==Value.type "tuple")=true:=by rfl
 rw[if_pos (by rw[g];simp)];refine wpAny_bind (listItems_at a d ?_);refine wpAny_bind (listItems_at (xs:=#[]) (n:=0) (get?_push_size _ rfl) rfl ?_);rw[if_neg (by simp)];refine wpAny_bind (listUpdate_at (xs:=#[]) (n:=0) (get?_push_size _ rfl) rfl ?_ (zero_le _) (by show(#[]++vs.toArray).size≤sizeLine+1;simp only[Array.size_append,size_toArray,length_nil];omega));refine wpAny_pure ?_;show wpAny (model prog w) A (do
   let o ← load s.heap.objs.size
   match o.data with
   |.seq xs _=>pure xs.toList
   | _=>unsupported "internal:collect") Q E {s with heap:=(s.heap.push (seqObj "list" #[] 0)).update s.heap.objs.size (Obj.mapSeq (· ++ vs.toArray))}
 refine wpAny_bind (wpAny_load (get?_update_seq (get?_push_size _ rfl) _) ?_);show wpAny _ _ (pure ((#[]:Array Value)++vs.toArray).toList) Q E _;rw[show((#[]:Array Value)++vs.toArray).toList=vs by simp];exact wpAny_pure b
theorem oS{l:Addr}{vs:List Value}{Q:List Value→Shared→Prop}(a:s.heap.IsList l vs.toArray∨IsTup s.heap l vs.toArray)(b:Q vs {s with heap:=(s.heap.push (seqObj "list" #[] 0)).update s.heap.objs.size (Obj.mapSeq (· ++ vs.toArray))})(hsz:vs.length≤sizeLine):
  wpAny (model prog w) A (collect (.ref l)) Q E s:=by
 rcases a with a|a
 ·exact collect_list a b hsz
 ·exact oR a b hsz
theorem jT{f:Nat→Nat→Bool}{l:Addr}{vs:List Value}{κ:SortKind}{Q:Value→Shared→Prop}(u:Ord f vs.length)(F:s.heap.IsList l vs.toArray∨IsTup s.heap l vs.toArray)(y:vs.length<64)(D:∀(a:Around) (s':Shared),a.units≤A.units+2→(∀b o,s.heap.get? b=some o→s'.heap.get? b=some o)→∀Q:SortKind→Shared→Prop,2≤vs.length→Q κ s'→wpAny (model prog w) a (keyKind' vs.toArray) Q (λ_ _=>False) s')(c:∀(a:Around) (s':Shared),a.units≤A.units+2→(∀b o,s.heap.get? b=some o→s'.heap.get? b=some o)→∀(i j:Nat) (C:Bool→Shared→Prop),i<vs.length→j<vs.length→C (f i j) s'→wpAny (model prog w) a (keyLt' κ (vs.getD i Value.none) (vs.getD j Value.none)) C (λ_ _=>False) s')(x:∀(p:Array Nat) (h':Heap),Row vs.length p→Up f p vs.length→(∀b o,s.heap.get? b=some o→h'.get? b=some o)→s.heap.objs.size≤s.heap.objs.size+1→(∃k,h'.get? (s.heap.objs.size+1)=some (seqObj "list" (toArray (p.toList.map λi=>vs.getD i Value.none)) k))→Q (.ref (s.heap.objs.size+1)) {s with heap:=h'}):
  wpAny (model prog w) A (call (.builtin "sorted") [.ref l]) Q E s:=by
 refine Calls.call_function_entry kind_sorted plain_sorted entry_sorted (args_sorted1 _) ?_;unfold Builtin.«sorted»;refine wpAny_bind (m:=checkCount "sorted" 1 1 _) (wpAny_pure ?_);refine wpAny_bind (oS F ?_ (by rw[sizeLine_eq];omega));refine wpAny_bind (wpAny_newList ?_ (by rw[sizeLine_eq];omega));have n:((s.heap.push (seqObj "list" #[] 0)).update s.heap.objs.size (Obj.mapSeq (· ++ vs.toArray))).objs.size=s.heap.objs.size+1:=by
  rw[Heap.size_update,size_push']
 have g:(((s.heap.push (seqObj "list" #[] 0)).update s.heap.objs.size (Obj.mapSeq (· ++ vs.toArray))).push (seqObj "list" vs.toArray 0)).get? (s.heap.objs.size+1)=some (seqObj "list" vs.toArray 0):=by
  rw[←n];exact get?_push_size _ rfl
 have r:∀b o,s.heap.get? b=some o→(((s.heap.push (seqObj "list" #[] 0)).update s.heap.objs.size (Obj.mapSeq (· ++ vs.toArray))).push (seqObj "list" vs.toArray 0)).get? b=some o:=λb o q=>by
  have c:b<s.heap.objs.size:=lt_size q;rw[Heap.get?_push_ne _ _ _ (by rw[n];exact ne_of_lt (lt_succ_of_lt c)),get?_update_ne _ _ _ _ (ne_of_lt c),Heap.get?_push_ne _ _ _ (ne_of_lt c)];exact q
 have d:∀b o,s.heap.get? b=some o→b≠s.heap.objs.size+1:=λb o q=>ne_of_lt (lt_succ_of_lt (lt_size q));show wpAny _ _ _ _ _ {s with heap:=((s.heap.push (seqObj "list" #[] 0)).update s.heap.objs.size (Obj.mapSeq (· ++ vs.toArray))).push (seqObj "list" vs.toArray 0)}
 rw[n];refine wpAny_bind (wpAny_holding (wpAny_call_entry slot_list_sort ⟨_,g,rfl⟩ entry_list_sort (hV (κ:=κ) (s:={s with heap:=((s.heap.push (seqObj "list" #[] 0)).update s.heap.objs.size (Obj.mapSeq (· ++ vs.toArray))).push (seqObj "list" vs.toArray 0)}) u g y ?_ ?_ λp I J=>⟨_,rfl,?_⟩) (args_list_sort _)))
 ·intro s' h v h2 H;exact D _ s' (by simp[Around.in1_units]) (λb o e=>h b o (d b o e) (r b o e)) v h2 H
 ·intro s' h i j C hi B z;exact c _ s' (by simp[Around.in1_units]) (λb o e=>h b o (d b o e) (r b o e)) i j C hi B z
 ·refine wpAny_pure ⟨_,rfl,x p _ I J (λb o e=>?_) (le_succ _) ?_⟩
  ·unfold sortedHeap;rw[get?_update_ne _ _ _ _ (d b o e)];refine get?_push_of_some _ (get?_push_of_some _ ?_);rw[get?_update_ne _ _ _ _ (d b o e)];exact r b o e
  ·unfold sortedHeap;obtain⟨t,G⟩:∃t,((((s.heap.push (seqObj "list" #[] 0)).update s.heap.objs.size (Obj.mapSeq (· ++ vs.toArray))).push (seqObj "list" vs.toArray 0)).update (s.heap.objs.size+1) (Obj.mapSeq λ_=>(#[]:Array Value))).get? (s.heap.objs.size+1)=some (seqObj "list" #[] t):=⟨_,get?_update_seq g λ_=>#[]⟩;exact⟨_,get?_update_seq (get?_push_of_some _ (get?_push_of_some _ G)) _⟩
theorem tq{f:Nat→Nat→Bool}{l:Addr}{vs:List Value}{κ:SortKind}{Q:Value→Shared→Prop}(c:Ord f vs.length)(h:s.heap.IsList l vs.toArray)(e:vs.length<64)(g:∀(a:Around) (s':Shared),a.units≤A.units+2→(∀b o,s.heap.get? b=some o→s'.heap.get? b=some o)→∀Q:SortKind→Shared→Prop,2≤vs.length→Q κ s'→wpAny (model prog w) a (keyKind' vs.toArray) Q (λ_ _=>False) s')(m:∀(a:Around) (s':Shared),a.units≤A.units+2→(∀b o,s.heap.get? b=some o→s'.heap.get? b=some o)→∀(i j:Nat) (C:Bool→Shared→Prop),i<vs.length→j<vs.length→C (f i j) s'→wpAny (model prog w) a (keyLt' κ (vs.getD i Value.none) (vs.getD j Value.none)) C (λ_ _=>False) s')(d:∀(p:Array Nat) (h':Heap),Row vs.length p→Up f p vs.length→(∀b o,s.heap.get? b=some o→h'.get? b=some o)→s.heap.objs.size≤s.heap.objs.size+1→(∃k,h'.get? (s.heap.objs.size+1)=some (seqObj "list" (toArray (p.toList.map λi=>vs.getD i Value.none)) k))→Q (.ref (s.heap.objs.size+1)) {s with heap:=h'}):
  wpAny (model prog w) A (call (.builtin "sorted") [.ref l]) Q E s:=jT c (.inl h) e g m d
end
end SRT
namespace L2
open PySem PySem.Spec PyProof.Rows
section
variable{X:Cx}{tg:Expr}
theorem jn:∀{bs:List Bool}{us:List Value},aF (bs.map V.bl) us→us=bs.map Value.bool
 |[],_,.nil=>rfl
 |b::bs,_,.cons r t=>by
  have e:_=Value.bool b:=r;rw[e,jn t];rfl
theorem jU(w:X.calm=true):cx X (.builtin "all") (λxs H Q=>∃a,∃bs:List Bool,xs=[.ref a]∧SqL X.K H a (bs.map V.bl)∧Q (.bl (bs.all id)) H):=by
 intro pins s σ H xs L Q I r h;obtain⟨a,bs,rfl,B,q⟩:=h;obtain⟨u,rfl,D⟩:=dy r;cases D;obtain⟨J,E,g,G⟩:=I.list B;have e:=jn E;subst e;refine call_all_walk (wpAny_pyIter_list g.isList ?_);have z:a<s.heap.objs.size:=by obtain⟨o,e,_⟩:=g.isList;exact lt_size e
 have A:a≠s.heap.objs.size:=ne_of_lt z;refine⟨s.heap.objs.size,_,_,_,_,_,λi=>bs.getD i false,rfl,Walks.list (by simp[I.ok.hd w]) s.heap.objs.size a A (bs.map Value.bool).toArray,⟨⟨_,get?_push_size _ rfl,rfl,rfl⟩,g.isList.push _⟩,?_,?_⟩
 ·intro i v s' l F p t;have c:(bs.map Value.bool)[i]?=some v:=by simpa using p
  rw[getElem?_map]at c;cases d:bs[i]? with
  |none=>rw[d]at c;cases c
  |some b =>
   rw[d]at c;have n:Value.bool b=v:=Option.some.inj c;subst n;refine wpAny_truthy_bool ?_;have j:l (bs.getD i false) s':=t;rw[getD_eq_getElem?_getD,d]at j;exact j
 ·intro h' tk y;refine⟨.bl (bs.all id),H,I.kept (t':=tk) (λb o e=>y b o (by simp only[mem_singleton];exact ne_of_lt (lt_size e)) (get?_push_of_some _ e)),?_,q⟩;have m:((List.range (bs.map Value.bool).toArray.size).all λi=>bs.getD i false)=bs.all id:=by
   rw[size_toArray,length_map];rw[Bool.eq_iff_iff,all_eq_true,all_eq_true];constructor
   ·intro f x C;obtain⟨i,hi,e⟩:=mem_iff_getElem.mp C;have:=f i (mem_range.mpr hi);rw[getD_eq_getElem?_getD,getElem?_eq_getElem hi,e]at this;exact this
   ·intro f i hi;have k:=mem_range.mp hi;rw[getD_eq_getElem?_getD,getElem?_eq_getElem k];exact f _ (getElem_mem k)
  show _=Value.bool _;rw[m]
theorem cC:cx X (.builtin "isinstance") (λxs H Q=>∃x n t b,xs=[x,.ty n]∧TyOf X.K H x t∧kitOne X.K t (.type n)=some b∧Q (.bl b) H):=by
 intro pins s σ H xs f Q I r h;obtain⟨x,n,t,b,rfl,ty,e,q⟩:=h;obtain⟨u,d,rfl,a,c⟩:=rE r;cases (show d=Value.type n from c);exact sP I a ty e λtk=>⟨.bl b,H,I.tok tk,rfl,q⟩
def Its(x:Str):It:=⟨λi _=>i<x.cps.size,λi H v H'=>H'=H∧∃c,x.cps[i]?=some c∧v=.str ⟨#[c]⟩,λi _=>x.cps.size≤i⟩
theorem uP{P:Program}{w:World}{K:PySem.W.Frag}(x:Str)(t:Tok)(it:Addr):Turn P w K tg (Its x) [it] it (λi h=>h.IsStrIter it (strIterType x) x t i) where
 mem:=by simp
 obj:=λi h st b f=>by
  have e:b=it:=by simpa using f
  subst e;obtain⟨o,e,c,d⟩:=st;exact⟨o,e,λv z=>by rw[d]at z;cases z⟩
 keep:=λi h h' st k=>by
  obtain⟨o,e,r⟩:=st;exact⟨o,k it (by simp) o e,r⟩
 item:=by
  intro X J N G L i pins s σ H E I D st M;subst J N G;obtain⟨n,p,T,q,u,B⟩:=D it (by simp);have j:i<x.cps.size:=M;have C:∀(h':Heap)(tk:Nat),h'.IsStrIter it (strIterType x) x t (i+1)→SameBut it s.heap h'→∃O,some (Value.str ⟨#[x.cps[i]]⟩ s.toks)=some O∧wpAny (model X.prog X.w) X.A (letOwnedTupleGo tg (.ref it) O) (λ_ R=>∃y H',Inv X pins σ H' R∧aL y O∧(Its x).yld i H y H'∧R.heap.IsStrIter it (strIterType x) x t (i+1)∧∀b∈[it],H' b=none) E {s with heap:=h',toks:=tk}:=λh' tk l m=>by
   have S:Inv X pins σ H {s with heap:=h',toks:=tk}:=I.turned (t':=tk) (λb o f e=>(m.2 b f).trans e) n p q u B
   obtain⟨o,e,c,d⟩:=id l;refine⟨_,rfl,og (s:={s with heap:=h',toks:=tk}) e c d ?_ ⟨.str ⟨#[x.cps[i]]⟩,H,S,⟨_,rfl⟩,⟨rfl,x.cps[i],by simp[j],rfl⟩,l,λb f=>(D b f).1⟩⟩;unfold strIterType
   split<;>decide
  cases g:x.cps.all (· < 128)with
  |true =>
   have a:strIterType x="str_ascii_iterator":=by simp[strIterType,g]
   rw[a]at st C⊢;exact wpAny_pyNext_ascii_item st (c:=x.cps[i]) (by simp[j]) λh' l m=>C h' _ l m
  |false =>
   have a:strIterType x="str_iterator":=by simp[strIterType,g]
   rw[a]at st C⊢;exact wpAny_pyNext_wide_item st (c:=x.cps[i]) (by simp[j]) λh' l m=>C h' _ l m
 done:=by
  intro X J N G L i pins s σ H E I D st M;subst J N G;obtain⟨n,p,T,q,u,B⟩:=D it (by simp);have j:x.cps.size≤i:=M;cases g:x.cps.all (· < 128)with
  |true =>
   have a:strIterType x="str_ascii_iterator":=by simp[strIterType,g]
   rw[a]at st;exact wpAny_pyNext_ascii_end (I.ok.hd L) st (by simp[j]) λh' F=>⟨rfl,I.turned (t':=s.toks) (λb o f e=>F b o f e) n p q u B⟩
  |false =>
   have a:strIterType x="str_iterator":=by simp[strIterType,g]
   rw[a]at st;exact wpAny_pyNext_wide_end (I.ok.hd L) st (by simp[j]) λh' F=>⟨rfl,I.turned (t':=s.toks) (λb o f e=>F b o f e) n p q u B⟩
 self:=λA i s Q E st h=>by
  cases g:x.cps.all (· < 128)with
  |true =>
   have a:strIterType x="str_ascii_iterator":=by simp[strIterType,g]
   rw[a]at st;exact wpAny_pyIter_striter_ascii st h
  |false =>
   have a:strIterType x="str_iterator":=by simp[strIterType,g]
   rw[a]at st;exact wpAny_pyIter_striter_wide st h
def BK(a:TE):TI:=λσ H R=>a σ H λv H1=>∃x,v=.str x∧R (Its x) H1
theorem zq{l:Expr}{d:TE}(g:PE X l d):PI X tg l (BK d):=by
 intro pins s σ H R I h;refine thn (g pins s σ H _ I h) λv a i=>?_;obtain⟨y,H1,c,k,j⟩:=i;obtain⟨x,e,q⟩:=j;subst e;obtain⟨t,rfl⟩:=k;refine wpAny_pyIter_strU ?_;refine⟨a.heap.objs.size,[a.heap.objs.size],_,_,H1,rfl,c.kept (t':=a.toks) λb o e=>get?_push_of_some _ e,uP x t _,⟨_,get?_push_size _ rfl,rfl,rfl⟩,λb f=>?_,q⟩;have e:b=a.heap.objs.size:=by simpa using f
 subst e;exact c.fpOk (le_refl _) (c.hok.fresh (le_refl _))
theorem uQ{i:List (Addr×Obj)}{j:St}{b:Hp}{s:Shared}{a:Addr}{ks:List Key}(f:Inv X i j b s)(g:b a=some (.tup (ks.map kV)))(P:Program)(w:World):IsTupleKey (aJ P w) s.heap ks a:=by
 obtain⟨_,h,r,o,e,c,n,d⟩:=f.hok a _ g;exact⟨o,h.toArray,n,e,c,d,by simpa using iB r⟩
theorem dq:∀{a:List Addr}{us:List Value},aF (a.map V.ref) us→us=a.map Value.ref
 |[],_,.nil=>rfl
 |b::bs,_,.cons r t=>by
  have e:_=Value.ref b:=r;rw[e,dq t];rfl
theorem lg(t:X.A.units+1<cLine):OpR X (compareOp .NotIn) (λx y H Q=>∃a p ks,∃d:List (Addr×List Key),x=.ref a∧H a=some (.tup (ks.map kV))∧y=.ref p∧SqL X.K H p ((d.map (·.1)).map V.ref) ∧
  (∀z∈d,H z.1=some (.tup (z.2.map kV)))∧Q (.bl (!(d.any λz=>decide (z.2=ks)))) H):=by
 intro pins s σ H x y v u Q I F G h;obtain⟨a,p,ks,d,rfl,n,rfl,r,j,q⟩:=h;cases F;cases G;obtain⟨N,E,D,M⟩:=I.list r;have e:=dq E;subst e
 let e:Value→Bool:=λv=>match v with | .ref b=>((d.find? λz=>z.1==b).map λz=>decide (z.2=ks)).getD false | _=>false
 have i:∀z∈d,e (.ref z.1)=decide (z.2=ks):=λz c=>by
  show((d.find? λy=>y.1==z.1).map λz=>decide (z.2=ks)).getD false=_;cases g:d.find? λy=>y.1==z.1 with
  |none=>have:=find?_eq_none.mp g z c;simp at this
  |some y =>
   have h1:=find?_some g;have h2:=List.mem_of_find?_eq_some g;have f:y.1=z.1:=by simpa using h1
   have k:=j y h2;rw[f,j z c]at k;have l:z.2.map kV=y.2.map kV:=by injection (Option.some.inj k)
   rw[mX l];rfl
 refine SeqAt.notIn_listAt e D.isList (λy B=>?_) ⟨.bl _,H,I,rfl,?_⟩
 ·have C:y∈(d.map (·.1)).map Value.ref:=by simpa using B
  obtain⟨b,o,rfl⟩:=mem_map.mp C;obtain⟨z,c,rfl⟩:=mem_map.mp o;rw[i z c];intro prog w J L m;exact wpAny_eqBool_tuple (knd:=aJ prog w) (by simp;exact t) (uQ I (j z c) prog w) (uQ I n prog w) m
 ·have f:(((d.map (·.1)).map Value.ref).toArray.any e)=d.any λz=>decide (z.2=ks):=by
   rw[List.any_toArray,any_map,any_map];apply Bool.eq_iff_iff.mpr;rw[any_eq_true,any_eq_true];constructor
   ·rintro⟨z,c,h1⟩;exact⟨z,c,by rw[←i z c];exact h1⟩
   ·rintro⟨z,c,h1⟩;exact⟨z,c,by show e (.ref z.1)=true;rw[i z c];exact h1⟩
  rw[f];exact q
def nh(a:Addr)(n:Nat)(c:Heap):Prop:=∃o es b t,c.get? a=some o∧o.ExactSet∧o.data=.set es b t∧t.fits es.size=true∧es.size=n
theorem uR(P:Program)(w:World):∀k v,(aJ P w).is k v=true→v.scannable=true:=λk v h=>by
 rcases aX h with⟨i,t,_,rfl⟩|⟨x,t,_,rfl⟩<;>rfl
theorem lh(G:X.calm=true)(Y:X.A.units+4<cLine):cx X (.type "set") (λxs H Q=>∃p,∃kss:List (Addr×List Key),xs=[.ref p]∧SqL X.K H p ((kss.map (·.1)).map V.ref)∧(∀z∈kss,H z.1=some (.tup (z.2.map kV)))∧kss.length≤60 ∧
  ∀n,n≤kss.length→(n=kss.length↔(kss.map (·.2)).Nodup)→∀q,H q=none→Q (.ref q) (upd H q (.ext (nh q n)))):=by
 intro pins s σ H xs b0 Q I r h;obtain⟨p,kss,rfl,W,R,U,q⟩:=h;obtain⟨u,rfl,a3⟩:=dy r;cases a3;obtain⟨a9,a4,a2,a8⟩:=I.list W;have e:=dq a4;subst e;have B:(((kss.map (·.1)).map Value.ref).toArray).size=kss.length:=by simp
 have m:∀i,i<kss.length→kss.getD i (0,[])∈kss:=λi hi=>by
  rw[getD_eq_getElem?_getD,getElem?_eq_getElem hi];exact getElem_mem hi
 refine TB.jf (knd:=aJ X.prog X.w) (key:=λi=>(kss.getD i (0,[])).2) (ad:=λi=>(kss.getD i (0,[])).1) (I.ok.hd G) Y (uR _ _) a2.isList (λi v Z=>?_) (λi hi=>?_) (by rw[B];exact U) λh' tk zs k C x S=>?_
 ·have a:((kss.map (·.1)).map Value.ref)[i]?=some v:=by simpa using Z
  rw[getElem?_map,getElem?_map]at a;rw[getD_eq_getElem?_getD];cases j:kss[i]? with
  |none=>rw[j]at a;cases a
  |some z=>rw[j]at a;exact(Option.some.inj a).symm
 ·exact uQ I (R _ (m i (by omega))) _ _
 ·rw[B]at x C;have J:zs.length=kss.length↔(kss.map (·.2)).Nodup:=by
   have:=TB.oN (z:=zs.map (·.2.2)) (l:=kss.map (·.2)) k.nd λa1=>by
    rw[x a1];constructor
    ·rintro⟨g,c,e⟩;rw[←e];exact mem_map.mpr ⟨_,m g c,rfl⟩
    ·intro h1;obtain⟨z,a0,e⟩:=mem_map.mp h1;obtain⟨g,c,F⟩:=mem_iff_getElem.mp a0;exact⟨g,c,by rw[getD_eq_getElem?_getD,getElem?_eq_getElem c,F];exact e⟩
   rw[length_map,length_map]at this;exact this
  obtain⟨⟨o,es,d,t,y,N,L,M,T,a6,a5,a7⟩,_,_⟩:=k;have f:es.size=zs.length:=by rw[←length_toList,M,length_map]
  have O:t.fits es.size=true:=TB.gh T (by rw[length_map,f]) (by rw[f];omega);refine⟨.ref s.heap.objs.size,_,I.laid (t':=tk) (o:=.ext (nh s.heap.objs.size zs.length)) (λb o e=>S b o (lt_size e) e) (le_refl _) ⟨⟨o,es,d,t,y,N,L,O,f⟩,⟨o,y⟩,?_⟩,rfl,q zs.length C J _ (I.hok.fresh (le_refl _))⟩;rintro h1 h2 ⟨o,es,d,t,D,E⟩ P;exact⟨o,es,d,t,P o D,E⟩
theorem oT:cx X (.builtin "len") (λxs H Q=>∃p n,xs=[.ref p]∧H p=some (.ext (nh p n))∧n≤60∧Q (.int n) H):=by
 intro pins s σ H xs k Q I r h;obtain⟨p,n,rfl,f,j,q⟩:=h;obtain⟨u,rfl,g⟩:=dy r;cases g;obtain⟨⟨o,es,i,t,e,c,b,d,a⟩,_,_⟩:=I.hok p _ f;refine call_len_set e c b d (by rw[a];omega) ⟨.int n,H,I.tok _,?_,q⟩;rw[a];exact⟨_,rfl⟩
def xl:V→List V→Hp→VK→Prop:=λx vs H Q=>∃d kvs k y,x=.ref d∧vs=[kV k,y]∧H d=some (.dK kvs)∧kvs.length<sizeLine∧(∀v,ba kvs k=some v→Q v H)∧(ba kvs k=none→Q y (upd H d (.dK (cp kvs k y))))
theorem li:MtM X "dict.setdefault" xl:=by
 intro pins s σ H x vs v G Q I B A h;obtain⟨d,kvs,k,y,rfl,rfl,f,E,p,r⟩:=h;cases B;obtain⟨u,D,rfl,t,i⟩:=A.two;obtain⟨z,g,j,a,dd⟩:=rK I.hok f;have o:j.length≤sizeLine:=by rw[←a.length];exact z
 refine call_meetsIn F.slot_dict_setdefault dd.typeIs F.entry_dict_setdefault (F.args_dict_setdefault_3 _ _ _) (kt_meets_setdefault (aJ X.prog X.w) d (fg t) g D) ⟨j,dd,o,λJ b=>?_,λb h' c C=>?_⟩
 ·have:=a.val k;rw[b]at this;cases e:ba kvs k with
  |none=>rw[e]at this;cases this
  |some v =>
   rw[e]at this;exact⟨v,H,I.tok _,this,p v e⟩
 ·have:=a.val k;rw[b]at this;cases e:ba kvs k with
  |some v=>rw[e]at this;cases this
  |none =>
   have l:∃q,h'.get? d=some q:=let⟨q,_,_,n,_⟩:=c;⟨q,n⟩;have m:(cp kvs k y).length≤sizeLine:=by have:=dH kvs k y;omega
   exact⟨y,_,ji I (by rw[f];exact True.intro) C l (mZ m g (a.put k i) c),i,r e⟩
theorem tu:cx X (.type "range") (λxs H Q=>∃i j,xs=[.int i,.int j]∧∀p,H p=none→Q (.ref p) (upd H p (.rng i j))):=by
 intro pins s σ H xs d Q I r h;obtain⟨i,j,rfl,q⟩:=h;obtain⟨u,c,rfl,⟨t,rfl⟩,⟨t',rfl⟩⟩:=rE r;refine call_range_2 ⟨.ref s.heap.objs.size,_,I.laid (t':=s.toks+1) (o:=.rng i j) (λb a q=>get?_push_of_some _ q) (le_refl _) ?_,rfl,q _ (I.hok.fresh (le_refl _))⟩;exact⟨t,t',_,get?_push_size _ rfl⟩
theorem qp{lo:Int}{n:Nat}{a:Array Value}(c:ItemsOf (λi v=>∃t,v=.int (lo+i*1) t) a n):aF ((List.range n).map λk=>V.int (lo+(k:Nat))) a.toList:=by
 obtain⟨h1,h2⟩:=c;have j:∀(l:List Value)(k:Nat),(∀(i:Nat)(v:Value),l[i]?=some v→∃t,v=Value.int (lo+(k+i:Nat)) t)→aF ((range' k l.length).map λk=>V.int (lo+(k:Nat))) l:=by
  intro l
  induction l with
  |nil=>intro k _;exact .nil
  |cons v l h =>
   intro k b;rw[length_cons,List.range'_succ,map_cons];refine .cons ?_ (h (k+1) λi w g=>?_)
   ·obtain⟨t,e⟩:=b 0 v rfl;exact⟨t,e⟩
   ·obtain⟨t,e⟩:=b (i+1) w g;exact⟨t,by rw[e,show k+(i+1)=k+1+i by omega]⟩
 have d:a.toList.length=n:=by simpa using h1
 have:=j a.toList 0 λi v b=>by
  have f:a[i]?=some v:=by simpa using b
  obtain⟨t,e⟩:=h2 i v f;exact⟨t,by rw[e,Int.mul_one,zero_add]⟩
 rw[d]at this;rw[List.range_eq_range'];exact this
theorem lj(m:X.calm=true):cx X (.type "list") (λxs H Q=>∃p i j,xs=[.ref p]∧H p=some (.rng i j)∧(-(2 ^ 62)≤i∧i<2 ^ 62∧-(2 ^ 62)≤j∧j<2 ^ 62)∧(j-i).toNat≤1000 ∧
  ∀l,H l=none→Q (.ref l) (upd H l (.lst ((List.range (j-i).toNat).map λk=>V.int (i+(k:Nat)))))):=by
 intro pins s σ H xs C Q I r h;obtain⟨p,i,j,rfl,v,⟨b,c,d,f⟩,A,q⟩:=h;obtain⟨u,rfl,z⟩:=dy r;cases z;obtain⟨t,t',B,e⟩:=(show bp X.prog X.w H s.heap p (.rng i j)from I.hok p _ v);have x:Builtin.Range.rangeSize i j 1=((j-i).toNat:Nat):=by rw[rangeSize_one];split<;>omega
 refine call_list_range (n:=(j-i).toNat) (I.ok.hd m) e (small_one b c d f) x (by omega) λh' tk a g y o hi=>?_;refine⟨.ref s.heap.objs.size,_,I.laid (t':=tk) y (le_refl _) (show bp X.prog X.w _ h' _ (.lst _)from⟨?_,a.toList,g,qp hi,by simpa using o⟩),rfl,q _ (I.hok.fresh (le_refl _))⟩
 rw[length_map,length_range,sizeLine_eq];omega
theorem uS:OpR X (binaryOp .Add) (λx y H Q=>∃a b ys,x=.ref a∧y=.ref b∧SqT X.K H a []∧SqT X.K H b ys∧Q (.ref b) H):=by
 intro pins s σ H x y v u Q I w z h;obtain⟨a,b,ys,rfl,rfl,k,l,q⟩:=h;cases w;cases z;obtain⟨E,t,o,_⟩:=I.tuple k;obtain⟨p,G,m,_⟩:=I.tuple l;cases t;obtain⟨⟨cls,dd,D,A⟩,g,c,n,e⟩:=id o;obtain⟨⟨C,j,data2,B⟩,i,d,r,f⟩:=id m;simp only at c e d f;subst c e d f;exact concat_meets ⟨_,g,rfl⟩ ⟨_,i,rfl⟩ noFill_tuple_add seq_tuple_add slot_tuple_add entry_tuple_add (args_tuple_add_2 _ _)
  (tuple_addW0 a b _ p.toArray n r dd j A B (by rfl)) ⟨g,i,⟨.ref b,H,I,rfl,q⟩⟩
theorem hX{prog:Program}{w:World}{A:Around}{E:Value→Shared→Prop}{s:Shared}{t d:Addr}{a:Array Value}{g h:Value}{lo c:Option Int}{Q:Value→Shared→Prop}(b:IsTup s.heap t a)(e:s.heap.IsSliceOf d g h .none)(pl:IsPart g lo)(n:IsPart h c)(f:HT.sIx a.size 0 lo=0∧HT.sIx a.size a.size c=a.size)(i:Q (.ref t) s):wpAny (model prog w) A (getItem (.ref t) (.ref d)) Q E s:=by
 obtain⟨os,l,k,o⟩:=id e;have j:s.TypeIs (.ref d) "slice":=⟨os,l,k⟩;unfold getItem
 try with_reducible refine wpAny_holding ?_
 first|refine wpAny_bind (wpAny_pure ?_)|skip
 refine wpAny_bind (wpAny_sequenceKey b.typeIs (by decide) ?_);refine wpAny_bind (wpAny_callSpecial?_slot (name:=ofString "__getitem__") b.typeIs PyProof.Rows.slot_tuple_getitem
  (wpAny_call_entry PyProof.Rows.slot_tuple_getitem b.typeIs entry_tuple_getitem ?_ (args_tuple_getitem _ _)))
 show wpAny _ _ (Builtin.Tuple.tupleItemsOf (.ref t) >>= _) _ _ s;refine wpAny_bind (tupleItemsOf_ b ?_);refine wpAny_bind (wpAny_typeOf j ?_);rw[if_pos (by decide)];refine wpAny_bind (HT.eB e pl n ?_);have m:((((HT.sIx a.size 0 lo:Nat):Int)==0&&(1:Int)==1&&(HT.sIx a.size a.size c-HT.sIx a.size 0 lo)==a.size)=true):=by
  rw[f.1,f.2];simp
 show wpAny _ _ (if (((HT.sIx a.size 0 lo:Nat):Int)==0&&(1:Int)==1&&(HT.sIx a.size a.size c-HT.sIx a.size 0 lo)==a.size)=true then _ else _) _ _ s
 rw[if_pos m];refine wpAny_bind ?_;unfold Builtin.Tuple.tupleIsExact;refine wpAny_bind (wpAny_typeOf b.typeIs (wpAny_pure ?_));rw[if_pos (by decide)];exact wpAny_bind (wpAny_rule (wpAny_pure ⟨_,rfl,wpAny_pure i⟩))
theorem qq:SlR X (λx lo hi H Q=>∃a xs,x=.ref a∧SqT X.K H a xs∧HT.sIx xs.length 0 lo=0∧HT.sIx xs.length xs.length hi=xs.length∧Q (.ref a) H):=by
 intro pins s σ H x v m n lo hi l Q I j d g i h;obtain⟨a,xs,rfl,e,h1,h2,q⟩:=h;cases j;obtain⟨f,r,b,k⟩:=I.tuple e;have c:f.toArray.size=xs.length:=by rw[size_toArray];exact r.length.symm
 exact⟨"tuple",_,PyProof.Rows.slot_tuple_getitem.lookup,b.typeIs,hX b d g i (by rw[c];exact⟨h1,h2⟩) ⟨.ref a,H,I,rfl,q⟩⟩
theorem jV(f:X.A.units<cLine):OpR X (compareOp .Eq) (λx y H Q=>∃a b xs,x=.ref a∧y=.ref b∧SqL X.K H a xs∧SqL X.K H b []∧Q (.bl (decide (xs=[]))) H):=by
 intro pins s σ H x y v u Q I o p h;obtain⟨a,b,xs,rfl,rfl,l,m,q⟩:=h;cases o;cases p;obtain⟨g,i,d,_⟩:=I.list l;obtain⟨r,n,c,_⟩:=I.list m;cases n
 by_cases e:xs=[]
 ·subst e;cases i;refine eq_listAt (e:=λ_=>true) d.isList c.isList rfl f (λt h1 h2=>absurd h2 (by simp)) ⟨.bl _,H,I,?_,q⟩;rfl
 ·have j:g≠[]:=λz=>e (i.nil_iff.mp z);have k:g.length≠0:=λz=>j (length_eq_zero_iff.mp z);refine SeqAt.eq_list_lengthsAt d.isList c.isList (by simp[k]) f ⟨.bl _,H,I,?_,q⟩;show _=Value.bool _;simp[e]
end
end L2
namespace ZT
open PySem PySem.SeqAt
section
variable{prog:Program}{w:World}{A:Around}{E:Value→Shared→Prop}{s:Shared}
theorem gM{a t:Addr}{i:Nat}{e:Array Value}{x:Value}{Q:Value→Shared→Prop}(d:s.heap.IsTupleIter a t i)(l:s.heap.IsTuple t e)(n:e[i]?=some x)(q:∀g,g.IsTupleIter a t (i+1)→SameBut a s.heap g→Q x {s with heap:=g}):wpAny (model prog w) A (Builtin.SmallTypes.nextOf (.ref a)) Q E s:=by
 obtain⟨o,c,f,b⟩:=id d;obtain⟨r,h,_,k,j⟩:=l;unfold Builtin.SmallTypes.nextOf;refine wpAny_bind (wpAny_callSpecial?_slot (name:=ofString "__next__") d.typeIs F.slot_tuple_iterator_next (wpAny_call_entry F.slot_tuple_iterator_next d.typeIs F.entry_tuple_iterator_next ?body (F.args_tuple_iterator_next_1 _)))
 case body =>
  refine wpAny_bind (m:=field (.ref a) 0) (wpAny_field c b (x:=.ref t) rfl ?_);rw[if_neg (show ¬((Value.ref t==Value.none)=true)by simp)];refine wpAny_bind (m:=field (.ref a) 1) (wpAny_field c b (x:=.int i 0) rfl ?_);refine wpAny_bind (m:=seqItems? (.ref t)) (wpAny_seqItems h j ?_);simp only[toNat_natCast,n];have p:(Obj.mapFields (·.setIfInBounds 1 (rawInt ((i:Int)+1))) o).data=.fields #[.ref t,.int ((i+1:Nat):Int) 0]:=by rw[Obj.data_mapFields b];simp[rawInt]
  exact wpAny_bind (wpAny_setField c b (by simp) (wpAny_pure ⟨x,rfl,wpAny_pure (q _ ⟨_,get?_update_self _ c (Obj.isFreed_of_fields (Obj.data_mapFields b _)),(Obj.cls_mapFields ..).trans f,p⟩ (SameBut.update ..))⟩))
theorem lL{b t:Addr}{i:Nat}{j:Array Value}{Q:Value→Shared→Prop}(h:A.handled=none)(f:s.heap.IsTupleIter b t i)(p:s.heap.IsTuple t j)(r:j[i]?=none)(q:∀g e,ExtBut b s.heap g→(∃o,g.get? e=some o∧o.cls=.type "StopIteration")→E (.ref e) {s with heap:=g}):wpAny (model prog w) A (Builtin.SmallTypes.nextOf (.ref b)) Q E s:=by
 obtain⟨v,c,u,d⟩:=id f;obtain⟨y,l,_,k,n⟩:=p;unfold Builtin.SmallTypes.nextOf;refine wpAny_bind (wpAny_callSpecial?_slot (name:=ofString "__next__") f.typeIs F.slot_tuple_iterator_next (wpAny_call_entry F.slot_tuple_iterator_next f.typeIs F.entry_tuple_iterator_next ?body (F.args_tuple_iterator_next_1 _)))
 case body =>
  refine wpAny_bind (m:=field (.ref b) 0) (wpAny_field c d (x:=.ref t) rfl ?_);rw[if_neg (show ¬((Value.ref t==Value.none)=true)by simp)];refine wpAny_bind (m:=field (.ref b) 1) (wpAny_field c d (x:=.int i 0) rfl ?_);refine wpAny_bind (m:=seqItems? (.ref t)) (wpAny_seqItems l n ?_);simp only[toNat_natCast,r];refine wpAny_bind (wpAny_rule (wpAny_bind (wpAny_setField c d (by simp) ?_)));refine wpAny_bind (m:=newExc (.type "StopIteration") []) ?_;unfold newExc newTuple;refine wpAny_bind (wpAny_newObj_type (hd:=by size_fits) ?_);refine wpAny_bind (m:=firstArgMember _ _) (wpAny_of_eq (a:=Value.none) (by first|rfl|(unfold firstArgMember;rfl)) (wpAny_newObj_type (hd:=by size_fits) ?_))
  unfold raiseNew;refine wpAny_bind (wpAny_handled ?_)
  first|rw[show A.in1.handled=none from h]|rw[h]
  exact wpAny_bind (wpAny_pure (wpAny_throw (q _ _ (((SameBut.update ..).extBut.push _).push _) ⟨_,get?_push_size _ rfl,rfl⟩)))
structure Rec(h:Heap)(z a b i1 i2 t1 t2:Addr)(out:Value)(k:Nat):Prop where
 zz:IsZip h z a b out
 ti:IsPair h a (.ref i1) (.ref i2)
 to:∃u v,IsPair h b u v
 n1:h.IsTupleIter i1 t1 k
 n2:h.IsTupleIter i2 t2 k
structure Apart(z a b i1 i2 t1 t2:Nat):Prop where
 az:a≠z
 bz:b≠z
 z1:i1≠z
 z2:i2≠z
 ab:a≠b
 a1:a≠i1
 a2:a≠i2
 b1:b≠i1
 b2:b≠i2
 d12:i1≠i2
 tz:t1≠z∧t2≠z
 tb:t1≠b∧t2≠b
 t1n:t1≠i1∧t2≠i1
 t2n:t1≠i2∧t2≠i2
theorem uT(n a t2:Nat)(b:a<n)(c:t2<n):Apart (n+4) (n+2) (n+3) n (n+1) a t2 :=
 ⟨by omega,by omega,by omega,by omega,by omega,by omega,by omega,by omega,by omega,by omega,⟨by omega,by omega⟩,⟨by omega,by omega⟩,⟨by omega,by omega⟩,⟨by omega,by omega⟩⟩
theorem tw{z a b h i D F:Addr}{k:Nat}{xs ys:Array Value}{x y:Value}{Q:Value→Shared→Prop}(d:Apart z a b h i D F)(R:Rec s.heap z a b h i D F .none k)(a7:s.heap.IsTuple D xs)(a8:s.heap.IsTuple F ys)(b0:xs[k]?=some x)(b3:ys[k]?=some y)(q:∀g,Rec g z a b h i D F (rawInt s.heap.objs.size) (k+1)→IsPair g s.heap.objs.size x y→(∀c o,c≠z→c≠b→c≠h→c≠i→s.heap.get? c=some o→g.get? c=some o)→Q (.ref s.heap.objs.size) {s with heap:=g}):
  wpAny (model prog w) A (Builtin.«zip.__next__» ⟨[.ref z],[]⟩) (λZ s'=>∃v,Z=.done (.ret v)∧Q v s') E s:=by
 obtain⟨t,L,⟨u,v,a9⟩,b8,b9⟩:=R;refine wpAny_bind (m:=field (.ref z) 2) (wpAny_field t rfl (x:=.bool false) rfl ?_);refine wpAny_bind (m:=field (.ref z) 3) (wpAny_field t rfl (x:=.ref a) rfl ?_);refine wpAny_bind (m:=seqItems? (.ref a)) (wpAny_seqItems L rfl ?_);refine wpAny_bind (m:=Builtin.SmallTypes.ownedTupleIsFree (.ref z)) ?_;unfold Builtin.SmallTypes.ownedTupleIsFree;refine wpAny_bind (wpAny_field t rfl (x:=.none) rfl (wpAny_pure ?_));simp only[if_true];refine wpAny_bind (wpAny_rule (wpAny_bind (wpAny_field t rfl (x:=.ref b) rfl (wpAny_bind (wpAny_setField_rec t (by simp) λa0 c4 l=>?_)))));have c5:IsZip a0 z a b .ellipsis:=c4;refine wpAny_bind ?_;simp only[List.zipIdx_cons,List.zipIdx_nil,forIn_cons,forIn_nil];refine wpAny_bind (wpAny_bind (wpAny_onRaise (wpAny_bind (m:=Builtin.SmallTypes.nextOf (.ref h)) (gM (b8.extBut l.extBut d.z1) (a7.extBut l.extBut d.tz.1) b0 λa3 b4 n=>wpAny_pure ?_))));have U:IsPair a3 b u v:=n.extBut _ _ d.b1 (l.extBut _ _ d.bz a9);refine wpAny_bind (wpAny_seqItems U rfl (wpAny_bind (wpAny_updateSeq_pair U λa4 c1 p=>wpAny_bind (wpAny_letGo (wpAny_pure ?_)))));have c2:IsPair a4 b x v:=c1;refine wpAny_bind (wpAny_bind (wpAny_onRaise (wpAny_bind (m:=Builtin.SmallTypes.nextOf (.ref i)) (gM (((b9.extBut l.extBut d.z2).extBut n.extBut d.d12.symm).extBut p.extBut d.b2.symm)
  (((a8.extBut l.extBut d.tz.2).extBut n.extBut d.t1n.2).extBut p.extBut d.tb.2) b3 λa5 b6 B=>wpAny_pure ?_))))
 have V:IsPair a5 b x v:=B.extBut _ _ d.b2 c2;refine wpAny_bind (wpAny_seqItems V rfl (wpAny_bind (wpAny_updateSeq_pair V λf c3 C=>wpAny_bind (wpAny_letGo (wpAny_pure (wpAny_pure ?_))))));have W:IsPair f b x y:=c3;refine wpAny_bind (wpAny_seqItems W rfl (wpAny_bind (wpAny_newTuple ?_)));have T:f.objs.size=s.heap.objs.size:=by rw[C.1,B.1,p.1,n.1,l.1]
 have M:∀c o,c≠z→c≠b→c≠h→c≠i→s.heap.get? c=some o→f.get? c=some o:=λc o j H J K e=>C.extBut _ _ H (B.extBut _ _ K (p.extBut _ _ H (n.extBut _ _ J (l.extBut _ _ j e))));have X:IsZip f z a b .ellipsis:=C.extBut _ _ d.bz.symm (B.extBut _ _ d.z2.symm (p.extBut _ _ d.bz.symm (n.extBut _ _ d.z1.symm c5)));have b5:f.IsTupleIter h D (k+1):=((b4.extBut p.extBut d.b1.symm).extBut B.extBut d.d12).extBut C.extBut d.b1.symm;have b7:f.IsTupleIter i F (k+1):=b6.extBut C.extBut d.b2.symm;have c0:IsPair f a (.ref h) (.ref i):=M _ _ d.az d.ab d.a1 d.a2 L;refine wpAny_bind (m:=Builtin.SmallTypes.ownedTupleHandOut (.ref z) (.ref f.objs.size)) ?_;unfold Builtin.SmallTypes.ownedTupleHandOut;have c6:IsZip (f.push {cls:=.type "tuple",data:=.seq #[x,y]}) z a b .ellipsis:=get?_push_of_some _ X;refine wpAny_bind (wpAny_setField_rec c6 (by simp) λa6 c7 P=>?_);have c8:IsZip a6 z a b (rawInt f.objs.size):=c7;refine wpAny_setField_rec c8 (by simp) λI c9 S=>?_;have Y:IsZip I z a b (rawInt f.objs.size):=c9;have G:∀c o,c≠z→f.get? c=some o→I.get? c=some o:=λc o j e=>S.extBut _ _ j (P.extBut _ _ j (get?_push_of_some _ e));have O:f.objs.size≠z:=ne_of_gt (lt_size X);have N:IsPair I f.objs.size x y:=S.extBut _ _ O (P.extBut _ _ O (get?_push_size _ rfl));rw[T]at Y N;refine wpAny_pure ⟨_,rfl,?_⟩;show Q (.ref f.objs.size) _;rw[T];exact q I ⟨Y,G _ _ d.az c0,⟨_,_,G _ _ d.bz W⟩,(let⟨o,e,r⟩:=b5;⟨o,G _ o d.z1 e,r⟩),(let⟨o,e,r⟩:=b7;⟨o,G _ o d.z2 e,r⟩)⟩ N λc o j H J K e=>G c o j (M c o j H J K e)
theorem uU{z a b t y I J:Addr}{k:Nat}{xs ys:Array Value}{Q:PySem.Fin→Shared→Prop}(M:A.handled=none)(d:Apart z a b t y I J)(R:Rec s.heap z a b t y I J .none k)(L:s.heap.IsTuple I xs)(a1:s.heap.IsTuple J ys)(a2:xs[k]?=none∨ys[k]?=none)(q:∀g e,(∀c o,c≠z→c≠b→c≠t→c≠y→s.heap.get? c=some o→g.get? c=some o)→(∃o,g.get? e=some o∧o.cls=.type "StopIteration")→E (.ref e) {s with heap:=g}):
  wpAny (model prog w) A (Builtin.«zip.__next__» ⟨[.ref z],[]⟩) Q E s:=by
 obtain⟨r,a3,⟨u,v,a4⟩,N,a6⟩:=R;refine wpAny_bind (m:=field (.ref z) 2) (wpAny_field r rfl (x:=.bool false) rfl ?_);refine wpAny_bind (m:=field (.ref z) 3) (wpAny_field r rfl (x:=.ref a) rfl ?_);refine wpAny_bind (m:=seqItems? (.ref a)) (wpAny_seqItems a3 rfl ?_);refine wpAny_bind (m:=Builtin.SmallTypes.ownedTupleIsFree (.ref z)) ?_;unfold Builtin.SmallTypes.ownedTupleIsFree;refine wpAny_bind (wpAny_field r rfl (x:=.none) rfl (wpAny_pure ?_));simp only[if_true];refine wpAny_bind (wpAny_rule (wpAny_bind (wpAny_field r rfl (x:=.ref b) rfl (wpAny_bind (wpAny_setField_rec r (by simp) λY a7 f=>?_)))));have T:IsZip Y z a b .ellipsis:=a7;refine wpAny_bind ?_;simp only[List.zipIdx_cons,List.zipIdx_nil,forIn_cons,forIn_nil];refine wpAny_bind (wpAny_bind (wpAny_onRaise ?_));refine wpAny_bind (m:=Builtin.SmallTypes.nextOf (.ref t)) ?_;cases F:xs[k]? with
 |none =>
  refine lL M (N.extBut f.extBut d.z1) (L.extBut f.extBut d.tz.1) F λC e i D=>?_;obtain⟨H,j,p⟩:=D;have U:IsZip C z a b .ellipsis:=i _ _ d.z1.symm T;have G:e≠z:=λc=>by rw[c,U]at j;cases j;simp at p
  exact wpAny_setField_rec U (by simp) λK _ l=>q K e (λc o n _ B _ h=>l.extBut _ _ n (i _ _ B (f.extBut _ _ n h))) ⟨H,l.extBut _ _ G j,p⟩
 |some x =>
  have a5:ys[k]?=none:=a2.resolve_left (by rw[F];simp);refine gM (N.extBut f.extBut d.z1) (L.extBut f.extBut d.tz.1) F λC a8 i=>wpAny_pure ?_;have S:IsPair C b u v:=i.extBut _ _ d.b1 (f.extBut _ _ d.bz a4);refine wpAny_bind (wpAny_seqItems S rfl (wpAny_bind (wpAny_updateSeq_pair S λK a9 l=>wpAny_bind (wpAny_letGo (wpAny_pure ?_)))));refine wpAny_bind (wpAny_bind (wpAny_onRaise (wpAny_bind (m:=Builtin.SmallTypes.nextOf (.ref y)) (lL M (((a6.extBut f.extBut d.z2).extBut i.extBut d.d12.symm).extBut l.extBut d.b2.symm)
   (((a1.extBut f.extBut d.tz.2).extBut i.extBut d.t1n.2).extBut l.extBut d.tb.2) a5 λZ e O D=>?_))))
  obtain⟨H,j,p⟩:=D;have V:IsZip Z z a b .ellipsis:=O _ _ d.z2.symm (l.extBut _ _ d.bz.symm (i.extBut _ _ d.z1.symm T));have G:e≠z:=λc=>by rw[c,V]at j;cases j;simp at p
  exact wpAny_setField_rec V (by simp) λa0 _ P=>q a0 e (λc o n W B X h=>P.extBut _ _ n (O _ _ X (l.extBut _ _ W (i.extBut _ _ B (f.extBut _ _ n h))))) ⟨H,P.extBut _ _ G j,p⟩
theorem qr{z a b d e f h:Addr}{k:Nat}{xs ys:Array Value}{x y:Value}{Q:Option Value→Shared→Prop}(j:Apart z a b d e f h)(R:Rec s.heap z a b d e f h .none k)(l:s.heap.IsTuple f xs)(m:s.heap.IsTuple h ys)(p:xs[k]?=some x)(t:ys[k]?=some y)(q:∀g,Rec g z a b d e f h (rawInt s.heap.objs.size) (k+1)→IsPair g s.heap.objs.size x y→(∀c o,c≠z→c≠b→c≠d→c≠e→s.heap.get? c=some o→g.get? c=some o)→Q (some (.ref s.heap.objs.size)) {s with heap:=g}):
  wpAny (model prog w) A (pyNext (.ref z)) Q E s:=by
 have i:s.TypeIs (.ref z) "zip":=⟨_,R.zz,rfl⟩;unfold pyNext;exact wpAny_bind (wpAny_attempt (wpAny_callSpecial?_slot (name:=ofString "__next__") i F.slot_zip_next (wpAny_call_entry F.slot_zip_next i F.entry_zip_next (tw j R l m p t λg r n k=>wpAny_pure (q g r n k)) (F.args_zip_next_1 _))))
theorem tD{z a b d f h i:Addr}{k:Nat}{xs ys:Array Value}{Q:Option Value→Shared→Prop}(v:A.handled=none)(l:Apart z a b d f h i)(R:Rec s.heap z a b d f h i .none k)(p:s.heap.IsTuple h xs)(r:s.heap.IsTuple i ys)(u:xs[k]?=none∨ys[k]?=none)(q:∀g,(∀c o,c≠z→c≠b→c≠d→c≠f→s.heap.get? c=some o→g.get? c=some o)→Q none {s with heap:=g}):wpAny (model prog w) A (pyNext (.ref z)) Q E s:=by
 have j:s.TypeIs (.ref z) "zip":=⟨_,R.zz,rfl⟩;unfold pyNext;refine wpAny_bind (wpAny_attempt (wpAny_callSpecial?_slot (name:=ofString "__next__") j F.slot_zip_next (wpAny_call_entry F.slot_zip_next j F.entry_zip_next (uU v l R p r u λg e k t=>?_) (F.args_zip_next_1 _))));obtain⟨o,m,n⟩:=t;exact wpAny_bind (wpAny_isInstance (T:="StopIteration") (b:=true) ⟨o,m,n⟩ isSubtype_stop (wpAny_pure (q g k)))
def made(a:Heap)(b c:Addr):Heap :=
 ((((a.push {cls:=.type "tuple_iterator",data:=.fields #[.ref b,.int 0 0]}).push {cls:=.type "tuple_iterator",data:=.fields #[.ref c,.int 0 0]}).push {cls:=.type "tuple",data:=.seq #[.ref a.objs.size,.ref (a.objs.size+1)]}).push
  {cls:=.type "tuple",data:=.seq #[.none,.none]}).push {cls:=.type "zip",data:=.fields #[.none,.bool false,.bool false,.ref (a.objs.size+2),.ref (a.objs.size+3)]}
theorem xm(a b:Addr)(xs ys:Array Value):Meets (Builtin.«zip.__new__» ⟨[.type "zip",.ref a,.ref b],[]⟩) (λ_ R s=>s.heap.IsTuple a xs∧s.heap.IsTuple b ys∧R (.ok (.ret (.ref (s.heap.objs.size+4)))) {s with heap:=made s.heap a b}) :=
 .of_wp λprog w A R s h=>by
  obtain⟨c,g,d,tk,os⟩:=s;obtain⟨k1,k2,h⟩:=h;have i:=sub_zip;have e:IsTuple (Shared.heap ⟨c,g,d,tk,os⟩) a xs:=k1;have f:IsTuple (Shared.heap ⟨c.push {cls:=.type "tuple_iterator",data:=.fields #[.ref a,.int 0 0]},g,d,tk,os⟩) b ys:=IsTuple.push k2 _
  wp_walk using wpAny_pyIter_tuple e,wpAny_pyIter_tuple f
  refine⟨_,rfl,?_⟩;unfold made at h;simp only[size_push];exact h
theorem uV{a b:Addr}{xs ys:Array Value}{Q:Value→Shared→Prop}(c:s.heap.IsTuple a xs)(d:s.heap.IsTuple b ys)(q:Q (.ref (s.heap.objs.size+4)) {s with heap:=made s.heap a b}):wpAny (model prog w) A (call (.type "zip") [.ref a,.ref b]) Q E s:=by
 refine callType_new F.called_zip (by decide) (F.typeCall_zip_2 _ _) (F.newCall_zip_2 _ _) (λf=>F.args_object_init_3 f _ _) F.entry_zip_new (xm a b xs ys) ⟨c,d,?_⟩;have e:(made s.heap a b).get? (s.heap.objs.size+4)=some {cls:=.type "zip",data:=.fields #[.none,.bool false,.bool false,.ref (s.heap.objs.size+2),.ref (s.heap.objs.size+3)]}:=by
  unfold made;have:=get?_push_size ((((s.heap.push {cls:=.type "tuple_iterator",data:=.fields #[.ref a,.int 0 0]}).push {cls:=.type "tuple_iterator",data:=.fields #[.ref b,.int 0 0]}).push {cls:=.type "tuple",data:=.seq #[.ref s.heap.objs.size,.ref (s.heap.objs.size+1)]}).push {cls:=.type "tuple",data:=.seq #[.none,.none]})
   (o:={cls:=.type "zip",data:=.fields #[.none,.bool false,.bool false,.ref (s.heap.objs.size+2),.ref (s.heap.objs.size+3)]}) rfl
  simpa only [size_push]using this
 exact⟨⟨_,e,rfl⟩,q⟩
end
end ZT
namespace L2
open PySem PySem.Spec PyProof.Rows
section
variable{X:Cx}{tg:Expr}
def Itz(K:PySem.W.Frag)(a b:Addr):It :=
 ⟨λi H=>∃xs ys x y,SqT K H a xs∧SqT K H b ys∧xs[i]?=some x∧ys[i]?=some y,λi H v H'=>∃p x y,H p=none∧v=.ref p∧(∀xs,SqT K H a xs→xs[i]?=some x)∧(∀ys,SqT K H b ys→ys[i]?=some y)∧H'=upd H p (.tup [x,y]),
  λi H=>∃xs ys,SqT K H a xs∧SqT K H b ys∧(xs.length≤i∨ys.length≤i)⟩
theorem uW{P:Program}{w:World}{K:PySem.W.Frag}{d2:List Expr}{k:Nat}{e6:Pos}(z a b j l a1 a2:Addr)(N:ZT.Apart z a b j l a1 a2):
  Turn P w K (.Tuple d2 k e6) (Itz K a1 a2) [z,a,b,j,l] z (λi h=>ZT.Rec h z a b j l a1 a2 .none i) where
 mem:=by simp
 obj:=λi h R c S=>by
  obtain⟨Y,G,⟨u,v,J⟩,⟨U,L,_,f0⟩,⟨V,M,_,f1⟩⟩:=R;simp only[mem_cons,not_mem_nil,or_false]at S;rcases S with rfl|rfl|rfl|rfl|rfl
  ·exact⟨_,Y,λv z=>nomatch z⟩
  ·exact⟨_,G,λv z=>nomatch z⟩
  ·exact⟨_,J,λv z=>nomatch z⟩
  ·exact⟨_,L,λv z=>by rw[f0]at z;cases z⟩
  ·exact⟨_,M,λv z=>by rw[f1]at z;cases z⟩
 keep:=λi h h' R t=>by
  obtain⟨Y,G,⟨u,v,J⟩,⟨U,L,b6⟩,⟨V,M,b7⟩⟩:=R;exact⟨t _ (by simp) _ Y,t _ (by simp) _ G,⟨u,v,t _ (by simp) _ J⟩,⟨U,t _ (by simp) _ L,b6⟩,⟨V,t _ (by simp) _ M,b7⟩⟩
 item:=by
  intro X b0 b4 a9 S i pins s σ H E I B st b1;subst b0 b4 a9;obtain⟨xs,ys,x,y,Z,a0,c5,c6⟩:=b1;obtain⟨d9,b8,k1,_⟩:=I.tuple Z;obtain⟨e0,b9,k2,_⟩:=I.tuple a0;obtain⟨c0,d7,e7⟩:=b8.get c5;obtain⟨c1,d8,e8⟩:=b9.get c6;refine ZT.qr N st k1 k2 (x:=c0) (y:=c1) (by simpa using d7) (by simpa using d8) λg c2 e2 t=>⟨_,rfl,?_⟩;refine wpAny_letOwnedTupleGo_zip c2.zz λg' e9 O=>?_;have e4:s.heap.objs.size≠z:=ne_of_gt (lt_size st.zz);have e1:∀c o,c≠z→c≠b→c≠j→c≠l→s.heap.get? c=some o→g'.get? c=some o:=λc o c3 c9 d0 d1 e=>(O.2 c c3).trans (t c o c3 c9 d0 d1 e);have p:∀c o,c∉[z,a,b,j,l]→s.heap.get? c=some o→g'.get? c=some o:=λc o f e=>e1 c o (λq=>f (by simp[q])) (λq=>f (by simp[q])) (λq=>f (by simp[q])) (λq=>f (by simp[q])) e;have T:∀c o,H c=some o→c∉[z,a,b,j,l]:=λc o e F=>by rw[(B c F).1]at e;cases e
  have c7:∀c o,s.heap.get? c=some o→c≠s.heap.objs.size:=λc o e=>ne_of_lt (lt_size e);have trk:∀c o,H c=some o→c≠s.heap.objs.size:=λc o e=>ne_of_lt (I.hok.lt e);have e3:g'.get? s.heap.objs.size=some {cls:=.type "tuple",data:=.seq #[c0,c1]}:=(O.2 _ e4).trans e2;have R2:ZT.Rec g' z a b j l a1 a2 .none (i+1):=by
   obtain⟨_,G,⟨u,v,J⟩,⟨U,L,b6⟩,⟨V,M,b7⟩⟩:=c2;exact⟨e9,(O.2 _ N.az).trans G,⟨u,v,(O.2 _ N.bz).trans J⟩,⟨U,(O.2 _ N.z1).trans L,b6⟩,⟨V,(O.2 _ N.z2).trans M,b7⟩⟩
  have e5:HOk X.prog X.w (upd H s.heap.objs.size (.tup [x,y])) g':=λc o e=>by
   by_cases c4:c=s.heap.objs.size
   ·subst c4;rw[ac]at e;cases e;exact⟨by show 2≤sizeLine;rw[sizeLine_eq];decide,[c0,c1],.cons e7 (.cons e8 .nil),⟨_,e3,rfl,0,rfl⟩⟩
   ·rw[ai c4]at e;refine(I.hok c o e).stay (λd v D q=>p d v ?_ q) (λd q=>by rw[ai (trk d _ q)];exact q) λd zs q=>by rw[ai (trk d _ q)];exact q
    rcases D with rfl | D
    ·exact T _ _ e
    ·exact T _ _ D
  have c8:Inv X pins σ (upd H s.heap.objs.size (.tup [x,y])) {s with heap:=g'}:=by
   refine I.step (g':=s.gens) (t':=s.toks) (d':=s.drawn) (ch:=[z,a,b,j,l]) (λc C=>?_) (λc o _ _ f e _=>p c o f e) (λc o _ _ f e _=>⟨o.slots,p c o f e⟩) (λc o _ e n=>by rw[ai (c7 c o e)];exact n) (λc o f e=>⟨o,p c o f e⟩)
    (λc zs q=>by rw[ai (trk c _ q)];exact q) (λc o u q=>by rw[ai (trk c _ q)];exact q) (λc ps q=>⟨#[],by rw[ai (trk c _ q),q];simp⟩) (λm F=>?_) e5 I.bare
   ·obtain⟨d3,a5,d4,a6,a7,a8⟩:=B c C;exact⟨a6,a5,a7,a8⟩
   ·obtain⟨o,a4,a3,b3,r⟩:=F;exact⟨o,a4,a3,p _ o (λb2=>(B _ b2).2.1 rfl) b3,r⟩
  refine⟨.ref s.heap.objs.size,_,c8,rfl,⟨s.heap.objs.size,x,y,I.hok.fresh (le_refl _),rfl,λzs b5=>?_,λzs b5=>?_,rfl⟩,R2,λc C=>?_⟩
  ·rw[I.tuple_inj b5 Z];exact c5
  ·rw[I.tuple_inj b5 a0];exact c6
  ·obtain⟨o,e,_⟩:∃o,s.heap.get? c=some o∧True:=by
    obtain⟨Y,G,⟨u,v,J⟩,⟨U,L,_⟩,⟨V,M,_⟩⟩:=st;simp only[mem_cons,not_mem_nil,or_false]at C;rcases C with rfl|rfl|rfl|rfl|rfl
    ·exact⟨_,Y,trivial⟩
    ·exact⟨_,G,trivial⟩
    ·exact⟨_,J,trivial⟩
    ·exact⟨_,L,trivial⟩
    ·exact⟨_,M,trivial⟩
   rw[ai (c7 c o e)];exact(B c C).1
 done:=by
  intro X b0 b4 a9 S i pins s σ H E I B st b1;subst b0 b4 a9;obtain⟨xs,ys,Z,a0,d5⟩:=b1;obtain⟨d9,b8,k1,_⟩:=I.tuple Z;obtain⟨e0,b9,k2,_⟩:=I.tuple a0;have f2:=b8.length;have f3:=b9.length;refine ZT.tD (I.ok.hd S) N st k1 k2 (by rcases d5 with h|h;left;simp;omega;right;simp;omega) λg t=>⟨rfl,?_⟩;have p:∀c o,c∉[z,a,b,j,l]→s.heap.get? c=some o→g.get? c=some o:=λc o f e=>t c o (λq=>f (by simp[q])) (λq=>f (by simp[q])) (λq=>f (by simp[q])) (λq=>f (by simp[q])) e;have T:∀c o,H c=some o→c∉[z,a,b,j,l]:=λc o e F=>by rw[(B c F).1]at e;cases e
  refine I.step (g':=s.gens) (t':=s.toks) (d':=s.drawn) (ch:=[z,a,b,j,l]) (λc C=>?_) (λc o _ _ f e _=>p c o f e) (λc o _ _ f e _=>⟨o.slots,p c o f e⟩) (λc o _ e n=>n) (λc o f e=>⟨o,p c o f e⟩)
   (λc zs q=>q) (λc o u q=>q) (λc ps q=>⟨#[],by rw[q];simp⟩) (λm F=>?_) (λc o e=>?_) I.bare
  ·obtain⟨d3,a5,d4,a6,a7,a8⟩:=B c C;exact⟨a6,a5,a7,a8⟩
  ·obtain⟨o,a4,a3,b3,r⟩:=F;exact⟨o,a4,a3,p _ o (λb2=>(B _ b2).2.1 rfl) b3,r⟩
  ·refine(I.hok c o e).stay (λd v D q=>p d v ?_ q) (λd q=>q) λd zs q=>q;rcases D with rfl | D
   ·exact T _ _ e
   ·exact T _ _ D
 self:=λA i s Q E st d6=>wpAny_pyIter_zip st.zz d6
theorem zr{y:List Expr}{k:Nat}{G:Pos}{a b:Expr}{w:TA}{p pos:Pos}(A:Gl X "zip")(B:X.mg "zip"=none)(z:PA X [a,b] w)(C:starEach [a,b] X.env=[(false,eval a X.env),(false,eval b X.env)]:=by rfl)(r:starEach [b] X.env=[(false,eval b X.env)]:=by rfl):
  PI X (.Tuple y k G) (.Call (.Name "zip" p) [a,b] [] pos) (λσ H R=>w σ H λvs H1=>∃f g xs ys,vs=[.ref f,.ref g]∧H1 f=some (.tup xs)∧H1 g=some (.tup ys)∧R (Itz X.K f g) H1):=by
 intro pins s σ H R I h;refine Call_ (jz I A B boot_zip (PyProof.Rows.callWith_type1 (thn (z pos pins s σ H _ I h) λY d ⟨vs,H1,i,L,J⟩=>?_) (by rw[C,r]) (by rw[r];rfl)));obtain⟨f,g,xs,ys,e,t,u,q⟩:=J;subst e;obtain⟨V,W,rfl,M,N⟩:=rE L;cases M;cases N;obtain⟨Q,T,k1,O⟩:=i.tuple (SqT.of t);obtain⟨S,U,k2,P⟩:=i.tuple (SqT.of u);refine ZT.uV k1 k2 ?_;generalize j:d.heap.objs.size=n;have D:∀c o,d.heap.get? c=some o→(ZT.made d.heap f g).get? c=some o:=λc o e=>by
  unfold ZT.made;exact get?_push_of_some _ (get?_push_of_some _ (get?_push_of_some _ (get?_push_of_some _ (get?_push_of_some _ e))))
 have v:ZT.Rec (ZT.made d.heap f g) (n+4) (n+2) (n+3) n (n+1) f g .none 0:=by
  subst j;unfold ZT.made;refine⟨?_,?_,⟨.none,.none,?_⟩,⟨{cls:=.type "tuple_iterator",data:=.fields #[.ref f,.int 0 0]},?_,rfl,rfl⟩,⟨{cls:=.type "tuple_iterator",data:=.fields #[.ref g,.int 0 0]},?_,rfl,rfl⟩⟩
  ·have:=get?_push_size ((((d.heap.push {cls:=.type "tuple_iterator",data:=.fields #[.ref f,.int 0 0]}).push {cls:=.type "tuple_iterator",data:=.fields #[.ref g,.int 0 0]}).push {cls:=.type "tuple",data:=.seq #[.ref d.heap.objs.size,.ref (d.heap.objs.size+1)]}).push {cls:=.type "tuple",data:=.seq #[.none,.none]})
    (o:={cls:=.type "zip",data:=.fields #[.none,.bool false,.bool false,.ref (d.heap.objs.size+2),.ref (d.heap.objs.size+3)]}) rfl
   simpa only [size_push]using this
  ·refine get?_push_of_some _ (get?_push_of_some _ ?_);have:=get?_push_size ((d.heap.push {cls:=.type "tuple_iterator",data:=.fields #[.ref f,.int 0 0]}).push {cls:=.type "tuple_iterator",data:=.fields #[.ref g,.int 0 0]}) (o:={cls:=.type "tuple",data:=.seq #[.ref d.heap.objs.size,.ref (d.heap.objs.size+1)]}) rfl;simpa only [size_push]using this
  ·refine get?_push_of_some _ ?_;have:=get?_push_size (((d.heap.push {cls:=.type "tuple_iterator",data:=.fields #[.ref f,.int 0 0]}).push {cls:=.type "tuple_iterator",data:=.fields #[.ref g,.int 0 0]}).push {cls:=.type "tuple",data:=.seq #[.ref d.heap.objs.size,.ref (d.heap.objs.size+1)]}) (o:={cls:=.type "tuple",data:=.seq #[.none,.none]}) rfl;simpa only [size_push]using this
  ·exact get?_push_of_some _ (get?_push_of_some _ (get?_push_of_some _ (get?_push_of_some _ (get?_push_size _ rfl))))
  ·refine get?_push_of_some _ (get?_push_of_some _ (get?_push_of_some _ ?_));have:=get?_push_size (d.heap.push {cls:=.type "tuple_iterator",data:=.fields #[.ref f,.int 0 0]}) (o:={cls:=.type "tuple_iterator",data:=.fields #[.ref g,.int 0 0]}) rfl;simpa only [size_push]using this
 have E:f<n:=by rw[←j];exact i.hok.lt t
 have F:g<n:=by rw[←j];exact i.hok.lt u
 have x:=ZT.uT n f g E F;refine wpAny_pyIter_zip v.zz ?_;refine⟨n+4,[n+4,n+2,n+3,n,n+1],_,Itz X.K f g,H1,rfl,i.kept (t':=d.toks) D,uW _ _ _ _ _ _ _ x,v,λc l=>?_,q⟩;have m:d.heap.objs.size≤c:=by
  rw[j];simp only[mem_cons,not_mem_nil,or_false]at l;rcases l with rfl|rfl|rfl|rfl|rfl
  ·exact le_add_right _ _
  ·exact le_add_right _ _
  ·exact le_add_right _ _
  ·exact le_refl _
  ·exact le_add_right _ _
 exact i.fpOk m (i.hok.fresh m)
abbrev hZ:=Addr×Int×List V
def gv(zs:List hZ)(i:Nat):Int:=(zs.getD i (0,0,[])).2.1
theorem uX{zs:List hZ}(c:(zs.map (·.2.1)).Nodup):SRT.Ord (λi j=>decide (gv zs i<gv zs j)) zs.length:=by
 refine⟨λi _=>by simp,λi j k _ _ _ h1 h2=>?_,λi j hi a d=>?_⟩
 ·simp only[decide_eq_true_eq]at *;omega
 ·simp only[decide_eq_true_eq];have:gv zs i≠gv zs j:=by
   unfold gv;rw[getD_eq_getElem?_getD,getD_eq_getElem?_getD,getElem?_eq_getElem hi,getElem?_eq_getElem a];intro e;have b:(zs.map (·.2.1))[i]'(by simpa using hi)=(zs.map (·.2.1))[j]'(by simpa using a):=by simpa using e
   exact d ((getElem_inj c).mp b)
  omega
theorem oU{prog:Program}{w:World}{A:Around}{s:Shared}{b:Bool}{Q:Bool→Shared→Prop}(h:Q false s):∀(l:List Value)(i:Nat),PySem.W.KatLex prog w A b false Q (l.zip l) i s
 |[],i=>h
 |v::l,i=>kat_cons (EqAt.same v prog w _ _ (PySem.W.kat_yes (oU h l (i+1))))
theorem cG:cx X (.builtin "sorted") (λxs H Q=>∃l,∃zs:List hZ,xs=[.ref l]∧(SqL X.K H l ((zs.map (·.1)).map V.ref)∨SqT X.K H l ((zs.map (·.1)).map V.ref))∧(∀z∈zs,H z.1=some (.tup (.int z.2.1::z.2.2)))∧(zs.map (·.2.1)).Nodup∧zs.length<64 ∧
  ∀g:List hZ,g.Perm zs→g.Pairwise (λa b=>a.2.1<b.2.1)→∀p,H p=none→Q (.ref p) (upd H p (.lst ((g.map (·.1)).map V.ref)))):=by
 intro pins s σ H xs e3 Q I r h;obtain⟨l,zs,rfl,B,b9,a6,b6,q⟩:=h;obtain⟨u,rfl,d0⟩:=dy r;cases d0;obtain⟨d,F,E⟩:∃d,aF ((zs.map (·.1)).map V.ref) d∧(s.heap.IsList l d.toArray∨IsTup s.heap l d.toArray):=by
  rcases B with B | B
  ·obtain⟨d,F,E,c4⟩:=I.list B;exact⟨d,F,.inl E.isList⟩
  ·obtain⟨d,F,E,c4⟩:=I.tuple B;exact⟨d,F,.inr E⟩
 have e:=dq F;subst e;have A:((zs.map (·.1)).map Value.ref).length=zs.length:=by simp
 have Y:∀z∈zs,∃o d n t,s.heap.get? z.1=some o∧o.cls=.type "tuple"∧o.data=.seq d n∧d.toList=.int z.2.1 t::d.toList.drop 1:=λz Z=>by
  obtain⟨_,d,c9,o,O,m,n,P⟩:=I.hok z.1 _ (b9 z Z);cases c9 with
  |cons c8 e0 =>
   obtain⟨t,rfl⟩:=c8;exact⟨o,_,n,t,O,m,P,by simp⟩
 have S:∀i,i<zs.length→((zs.map (·.1)).map Value.ref).getD i Value.none=.ref (zs.getD i (0,0,[])).1∧zs.getD i (0,0,[])∈zs:=λi hi=>by
  rw[getD_eq_getElem?_getD,getD_eq_getElem?_getD,getElem?_map,getElem?_map,getElem?_eq_getElem hi];exact⟨rfl,getElem_mem hi⟩
 refine SRT.jT (κ:=tuples' true) (f:=λi j=>decide (gv zs i<gv zs j)) (by rw[A];exact uX a6) E (by rw[A];exact b6) ?kind ?less ?fin
 case kind =>
  intro b0 s' _ x d1 h2 b7;have c5:∀ys:List hZ,(∀z∈ys,z∈zs)→∃fs:List Value,KatTups s'.heap ((ys.map (·.1)).map Value.ref) fs∧fs.length=ys.length∧∀v∈fs,∃i t,v=Value.int i t:=by
   intro ys
   induction ys with
   |nil=>intro _;exact⟨[],KatTups.nil,rfl,λv k=>by simp at k⟩
   |cons z ys a0 =>
    intro a5;obtain⟨fs,h1,R,h3⟩:=a0 λy c3=>a5 y (by simp[c3]);obtain⟨o,d,n,t,O,m,P,b3⟩:=Y z (a5 z (by simp));refine⟨.int z.2.1 t::fs,KatTups.cons (x _ _ O) m P ?_ h1,by simp[R],λv k=>?_⟩
    ·rw[←getElem?_toList,b3];rfl
    ·rcases mem_cons.mp k with rfl|k
     ·exact⟨_,_,rfl⟩
     ·exact h3 v k
  obtain⟨fs,h1,R,h3⟩:=c5 zs λz Z=>Z;refine PySem.W.kat_kind (T:=.type "int") h1 (by rw[R];rw[A]at h2;omega) (λv k=>?_) (by rfl) b7;obtain⟨i,t,rfl⟩:=h3 v k;exact .now
 case less =>
  intro b0 s' _ x i j C hi w a4;rw[A]at hi w;obtain⟨b4,c6⟩:=S i hi;obtain⟨b5,c7⟩:=S j w;rw[b4,b5];obtain⟨d8,a9,d6,e1,a1,d2,a2,b1⟩:=Y _ c6;obtain⟨d9,d5,d7,e2,M,d3,N,b2⟩:=Y _ c7;refine PySem.W.kat_lt (x _ _ a1) a2 (x _ _ M) N ?_
  by_cases J:i=j
  ·subst J;rw[a1]at M;cases M;rw[a2]at N;cases N;have:C false s':=by simpa using a4
   have m:decide (a9.size<a9.size)=false:=by simp
   rw[m];exact oU this _ _
  ·have c0:gv zs i≠gv zs j:=by
    rcases (uX a6).tot i j hi w J with h1|h1<;>simp only[decide_eq_true_eq]at h1<;>omega
   rw[b1,b2];refine kat_cons (wpAny_eqBool_int ?_);have m:((zs.getD i (0,0,[])).2.1==(zs.getD j (0,0,[])).2.1)=false:=beq_eq_false_iff_ne.mpr c0;rw[m];refine PySem.W.kat_no ?_;exact kat_lt_int a4
 case fin =>
  intro p h' L a8 x _ G;obtain⟨c,G⟩:=G;rw[A]at L a8;obtain⟨g,D⟩:∃g,g=p.toList.map λi=>zs.getD i (0,0,[]):=⟨_,rfl⟩;have a7:g.Perm zs:=by
   rw[D];refine(L.perm.map _).trans ?_;have:(List.range zs.length).map (λi=>zs.getD i (0,0,[]))=zs:=by
    apply ext_getElem?;intro i;rw[getElem?_map]
    by_cases hi:i<zs.length
    ·rw[getElem?_range hi,getElem?_eq_getElem hi];show some (zs.getD i (0,0,[]))=_;rw[getD_eq_getElem?_getD,getElem?_eq_getElem hi];rfl
    ·rw[getElem?_eq_none (by rw[length_range];omega),getElem?_eq_none (by omega)];rfl
   rw[this]
  have d4:p.size=zs.length:=L.size;have c2:g.Pairwise (λa b=>a.2.1<b.2.1):=by
   rw[pairwise_iff_getElem];intro i j hi w J;have U:i<p.size:=by rw[D,length_map,length_toList]at hi;exact hi
   have b8:j<p.size:=by rw[D,length_map,length_toList]at w;exact w
   have:=a8 i j J (by omega);simp only[decide_eq_true_eq,gv]at this;rw[getD_eq_getD_getElem?,getD_eq_getD_getElem?,Array.getElem?_eq_getElem U,Array.getElem?_eq_getElem b8]at this;simpa [D]using this
  have c1:(toArray (p.toList.map λi=>((zs.map (·.1)).map Value.ref).getD i Value.none))=((g.map (·.1)).map Value.ref).toArray:=by
   congr 1
   rw[D];simp only[map_map];apply map_congr_left;intro i hi;have U:i<zs.length:=mem_range.mp (L.perm.mem_iff.mp hi);have:=(S i U).1;simp only[map_map]at this;exact this
  rw[c1]at G;have k:aF ((g.map (·.1)).map V.ref) ((g.map (·.1)).map Value.ref):=by
   generalize g.map (·.1)=a3
   induction a3 with
   |nil=>exact .nil
   |cons a a3 a0=>exact .cons rfl a0
  refine⟨.ref (s.heap.objs.size+1),_,I.laid (t':=s.toks) (o:=.lst ((g.map (·.1)).map V.ref)) x (le_succ _) ⟨?_,_,c,k,G⟩,rfl,q g a7 c2 _ (I.hok.fresh (le_succ _))⟩;rw[length_map,length_map,a7.length_eq,sizeLine_eq];omega
theorem iH:cx X (.builtin "sorted") (λxs H Q=>∃l,∃zs:List hZ,xs=[.ref l]∧SqL X.K H l ((zs.map (·.1)).map V.ref)∧(∀z∈zs,H z.1=some (.tup (.int z.2.1::z.2.2)))∧(zs.map (·.2.1)).Nodup∧zs.length<64 ∧
  ∀c:List hZ,c.Perm zs→c.Pairwise (λa b=>a.2.1<b.2.1)→∀p,H p=none→Q (.ref p) (upd H p (.lst ((c.map (·.1)).map V.ref)))) :=
 λpins s σ H xs f Q I r ⟨l,zs,e,d,h⟩=>cG pins s σ H xs f Q I r ⟨l,zs,e,.inl d,h⟩
end
theorem nq{scope:Scope}{env:Env}(a:∀y∈scope.names,y.2≠.free):relabel scope env=scope:=by
 unfold relabel;rw[map_eq_self (l:=scope.names) (λx b=>by
  obtain⟨n,k⟩:=x;have:(k==NameKind.free)=false:=by simpa using a _ b
  simp[this])]
theorem cH{X:Cx}{a:Scope}(e:a.kind=.function)(b:∀y∈a.names,y.2≠.free)(d:∀y∈a.names,y.2≠.cell)(f:∀x∈a.names,x.2=.local→a.names.lookup x.1=some .local):LcOk X a [] :=
 ⟨e,closureFor_none b,f,d,λx c h=>by simp at h,λx h=>by
  rw[nq b]at h;rcases h with h|h
  ·exact absurd rfl (d _ (PySem.mem_of_lookup h))
  ·exact absurd rfl (b _ (PySem.mem_of_lookup h))⟩
theorem oV{k:Nat}{js:List Nat}{J:It}{g:TG}{f:TE}{b:St}{o:Hp}{Q:VK}{p:Addr}(n:Nat)(w:n≤1000)(Pv:Nat→List V→St→Hp→Prop)(s:Pv 0 [] (dl k js b) (upd o p (.lst [])))(t:∀i ys a H',Pv i ys a H'→ys.length≤i)(go:∀i ys a H',i<n→Pv i ys a H'→J.go i H')(v:∀ys a H',Pv n ys a H'→J.stop n H'∧Q (.ref p) H')(step:∀i ys a H',i<n→Pv i ys a H'→∀x H2,J.yld i H' x H2→g x a H2 λl q=>f l q λy h=>h p=some (.lst ys)∧Pv (i+1) (ys++[y]) l (upd h p (.lst (ys++[y]))))(mg:∀x b H (Q c:St→Hp→Prop),(∀b H,Q b H→c b H)→g x b H Q→g x b H c)(u:∀b H (Q c:VK),(∀y H,Q y H→c y H)→f b H Q→f b H c):
  LcW k js g f b Q J o p:=by
 refine⟨λi m ys a H'=>m=n-i∧i≤n∧Pv i ys a H',⟨n,by simp,zero_le _,s⟩,?_⟩;rintro i m ys a H' ⟨rfl,hi,d⟩
 by_cases j:i<n
 ·refine .inr ⟨go i ys a H' j d,?_,λx H2 y=>?_⟩
  ·have:=t i ys a H' d;exact lt_of_le_of_lt this (aB (by omega))
  ·refine mg _ _ _ _ _ (λl q h3=>u _ _ _ _ (λz h r=>⟨r.1,n-(i+1),by omega,rfl,j,r.2⟩) h3) (step i ys a H' j d x H2 y)
 ·have e:i=n:=by omega
  subst e;exact .inl (v ys a H' d)
theorem ag{H:Hp}{p:Addr}{o:HO}(h:H p=none):Same H (upd H p o):=λb u e=>by rw[ai (ao e h)];exact e
theorem aS{H:Hp}{p a:Addr}{o u:HO}(h:H p=none)(e:H a=some u):upd H p o a=some u:=by rw[ai (ao e h)];exact e
theorem aK{H0 a:Hp}{p:Addr}{o:HO}(c:H0 p=none)(s:Same H0 a):Same H0 (upd a p o):=λb u e=>by
 rw[ai (ao e c)];exact s b u e
structure Fly(P:Program)(w:World)(outer:List Env)(H:Hp)(s:Shared)(H':Hp)(ea C:Addr)(s':Shared):Prop where
 os:s'.os=s.os
 bare:AllBare s'.gens
 un:Un (frs outer) [] H H' s.heap s'.heap
 new:H' ea=none
 fly:∃B a0,FlyingW B outer ea (.ref C) a0 s'.heap∧HOk P w H' B∧(∀b o,s.heap.get? b=some o→H b=none→b∉frs outer→B.get? b=some o) ∧
  ∀b o,s.heap.get? b=some o→b∉frs outer→∃o',B.get? b=some o'
def CX1(P:Program)(w:World):CXT:=λouter H s E e s'=>∃ea C H',e=.ref ea∧Fly P w outer H s H' ea C s'∧E (.ref C) none H'
theorem bp.ex{P:Program}{w:World}{c:Hp}{b:Heap}{a:Addr}{o:HO}(x:bp P w c b a o):∃ob,b.get? a=some ob:=by
 cases o with
 |lst xs=>obtain⟨_,_,_,_,e⟩:=x;exact⟨_,e⟩
 |tup xs=>obtain⟨_,_,_,ob,e,_⟩:=x;exact⟨ob,e⟩
 |dK kvs=>obtain⟨_,_,_,_,o,_,_,e,_⟩:=x;exact⟨_,e⟩
 |dT kvs=>obtain⟨_,_,_,_,o,_,_,e,_⟩:=x;exact⟨_,e⟩
 |set S n=>obtain⟨o,_,_,_,e,_⟩:=x;exact⟨_,e⟩
 |ins C dx fs=>obtain⟨_,_,_,e,_⟩:=x;exact⟨_,e⟩
 |own y=>obtain⟨_,e⟩:=x;exact⟨_,e⟩
 |xd fs=>obtain⟨_,⟨_,_,_,e,_⟩,_⟩:=x;exact⟨_,e⟩
 |rng lo hi=>obtain⟨_,_,_,e⟩:=x;exact⟨_,e⟩
 |frz ob u=>obtain⟨e,_⟩:=x;exact⟨_,e⟩
 |tbl ps=>exact⟨_,(show b.get? a=some _ from x)⟩
 |met f y=>exact⟨_,(show b.get? a=some _ from x)⟩
 |ext d=>obtain⟨_,⟨_,e⟩,_⟩:=x;exact⟨_,e⟩
theorem uY{P:Program}{w:World}{d:Hp}{f:Heap}{l:List Addr}(x:HOk P w d f)(g:∀b∈l,d b=none):HOk P w d (hideAll f l):=λa o e =>
 (x a o e).stay (λb u c q=>hideAll_get l q λz=>by
  have:=g b z;rcases c with c|c
  ·rw[c,e]at this;cases this
  ·rw[c]at this;cases this) (λ_ q=>q) λ_ _ q=>q
section
variable{P:Program}{w:World}{l:List Env}{H H':Hp}{h1 h2 h3 B:Heap}{ea:Addr}{cls a0:Value}
theorem oW(un:Un (frs l) [] H H' h1 h2)(g:FlyingW B l ea cls a0 h2)(j:HOk P w H' B)(m:∀b o,h1.get? b=some o→H b=none→b∉frs l→B.get? b=some o)(p:∀b o,h1.get? b=some o→b∉frs l→∃o',B.get? b=some o')(st:B.StaysIn h3)(h:h2.UpToSlots h3):Un (frs l) [] H H' h1 h3∧HOk P w H' h3:=by
 refine⟨⟨λb o e n a _=>st b o (m b o e n a),λb o e n a k=>?_,un.free,λb o e _=>?_,un.tups,un.frzs,un.tbls⟩,j.kept st⟩
 ·obtain⟨r,q⟩:=un.slot b o e n a k;obtain⟨_,o',c,d⟩:=g.2.2.1.mem a;rw[q]at c;cases c;obtain⟨i,f⟩:=h b _ q d;exact⟨i,f⟩
 ·by_cases a:b∈frs l
  ·obtain⟨_,o',c,d⟩:=g.2.2.1.mem a;obtain⟨i,f⟩:=h b _ c d;exact⟨_,f⟩
  ·obtain⟨o',q⟩:=p b o e a;exact⟨o',st b o' q⟩
end
section
variable{X:Cx}{pins:List (Addr×Obj)}{σ:St}{H H':Hp}{s s':Shared}{ea C:Addr}{E:XK}
theorem Inv.fly_up(f:Inv X pins σ H s)(h:X.ex=[])(J:Inv X pins σ H' s')(new:H' ea=none){c:Heap}{g:Value}(k:FlyingW c X.outer ea (.ref C) g s'.heap)(l:HOk X.prog X.w H' c)(m:∀b o,s.heap.get? b=some o→H b=none→b∉frs X.stack→c.get? b=some o)(p:∀b o,s.heap.get? b=some o→b∉frs X.stack→∃o',c.get? b=some o'):Fly X.prog X.w X.outer X.H₀ X.s₀ H' ea C s':=by
 have d:=f.base;rw[h]at d;have j:=J.base;rw[h]at j;have i:∀b o,X.s₀.heap.get? b=some o→b∉frs X.outer→b∉frs X.stack:=λb o e n a=>by
  rcases mem_cons.mp (f.stkSub b a)with z|z
  ·have:=lt_size e;rw[z]at this;exact absurd (lt_of_lt_of_le this f.ok.above) (lt_irrefl _)
  ·exact n z
 refine⟨J.os,J.bare,j,new,c,g,k,l,λb o e n a=>?_,λb o e a=>?_⟩
 ·exact m b o (d.keep b o e n a (by simp)) (d.free b o e n (by simp)) (i b o e a)
 ·obtain⟨o',q⟩:=d.there b o e (by simp);exact p b o' q (i b o e a)
structure Lv(X:Cx)(E:XK):Prop where
 ex:X.ex=[]
 stk:X.stack=X.env::X.outer
 fr:X.env.frame=some X.env.locals
 xe:X.xe=λe s'=>wpAny (model X.prog X.w) X.A (leaving X.env e) (λ_ s''=>CX1 X.prog X.w X.outer X.H₀ X.s₀ E e s'') (λe' s''=>CX1 X.prog X.w X.outer X.H₀ X.s₀ E e' s'') s'
theorem bv{P:Program}{w:World}{K:PySem.W.Frag}{mg:Str→Option Value}{base:Heap}{N:List Str}{c:Str}{d:Scope}{f:Addr}{b:Value}{A:Around}{outer:List Env}{s:Shared}{a:Hp}{E:XK} :
  Lv (gF (CX1 P w) P w K mg base N c d f b A outer s a E) E:=⟨rfl,rfl,rfl,rfl⟩
theorem cW(a:Lv X E):eN (CX1 X.prog X.w) X E:=by
 intro pins σ H s e s' I h;obtain⟨ea,C,H',rfl,F,j⟩:=h;rw[a.xe];obtain⟨B,a0,c,f,g,th⟩:=id F.fly;have d:=c;rw[a.stk]at d;refine wpAny_leaves_onW (by rw[I.ok.frames,a.stk]) a.fr d λh' fl2 k=>?_;obtain⟨u,l⟩:=oW F.un c f g th fl2.1 k;have i:Inv X pins σ H' {s' with heap:=h'}:=I.call' (s':={s' with heap:=h'}) F.os u l F.bare λb z=>absurd z (by simp)
 exact⟨ea,C,H',rfl,I.fly_up a.ex i F.new fl2 f g th,j⟩
theorem Inv.ground(a:Inv X pins σ H s):(hideAll s.heap (frs X.stack)).StaysIn s.heap∧s.heap.FunFrames (hideAll s.heap (frs X.stack)) X.stack∧HOk X.prog X.w H (hideAll s.heap (frs X.stack)) :=
 ⟨λb o q=>of_hideAll _ q,PySem.W.funFrames_hide a.stack λc e b d=>mem_filterMap.mpr ⟨c,e,d⟩,uY a.hok a.stkFree⟩
theorem AY(L:Lv X E)(I:Inv X pins σ H s){h':Heap}{vs:List Value}(hx:Heap.MadeExcOf s.heap h' ea (.ref C) vs)(hE:E (.ref C) none H):X.xe (.ref ea) {s with heap:=h'}:=by
 rw[L.xe];obtain⟨g1,g2,g3⟩:=I.ground;have g2':s.heap.FunFrames (hideAll s.heap (frs X.stack)) (X.env::X.outer):=L.stk ▸ g2;refine wpAny_leaves_madeW (s:={s with heap:=h'}) (by rw[I.ok.frames,L.stk]) L.fr g1 g2' hx λh'' t fl _ _ hs=>?_;have hs':s.heap.UpToSlots h'':=(Heap.UpToSlots.of_keeps hx.keeps).trans hs;have u:Un (frs X.stack) [] H H s.heap h'':=⟨λb o e n hb _=>fl.1 b o (hideAll_get _ e hb),λb o e n hb _=>by
   obtain⟨_,o',ho',hd⟩:=g2.mem hb;rw[e]at ho';cases ho';exact hs' b o e hd,λb o e n _=>n,λb o e _=>by
   by_cases hb:b∈frs X.stack
   ·obtain⟨_,o',ho',hd⟩:=g2.mem hb;obtain⟨sl,q⟩:=hs' b o' ho' hd;exact⟨_,q⟩
   ·exact⟨o,fl.1 b o (hideAll_get _ e hb)⟩,λ_ _ q=>q,λ_ _ _ q=>q,λb ps q=>⟨#[],by simpa using q⟩⟩
 have J:Inv X pins σ H {s with heap:=h''}:=I.call' (s':={s with heap:=h''}) rfl u (g3.kept fl.1) I.bare λb z=>absurd z (by simp)
 have new:H ea=none:=by
  cases q:H ea with
  |none=>rfl
  |some o =>
   obtain⟨ob,e⟩:=(I.hok ea o q).ex;have h2:=hx.new;rw[e]at h2;cases h2
 exact⟨ea,C,H,rfl,I.fly_up L.ex J new fl g3 (λb o e _ hb=>hideAll_get _ e hb) λb o e hb=>⟨o,hideAll_get _ e hb⟩,hE⟩
end
end L2
namespace XI
open PySem PySem.Spec PySem.W
section
variable{prog:Program}{w:World}{A:Around}{E:Value→Shared→Prop}{h:Heap}{g:Array GenState}{d:Drawn}{t:Nat}{os:OsState}{a:Addr}{o:Obj}{vs:Array Value}{nm q:Str}{C N:Addr}{bs bm:List Value}{hdct:Bool}{sn:List Str}{sub:List Value}{ab:Bool}{col:Option Bool}{dd:Option Addr}{k0 k1 k2 k3 k5:Option Value}{newId:String}
theorem tE{R:Result→Shared→Prop}(hC:h.get? C=some (excClassObj nm q C N bs bm hdct sn sub ab col dd k0 k1 k2 k3 k5 newId))(hb:bm.contains (.type "object")=true)(hx:h.get? a=some o)(hc:o.cls=.ref C)(hq:R (.ok (.ret (.ref C))) ⟨h,g,d,t,os⟩):
  codeAny (model prog w) A (.call (.builtin "getset_descriptor.__get__") ⟨[.builtin "object.__class__",.ref a,.ref C],[]⟩) R ⟨h,g,d,t,os⟩:=by
 have hT5:(⟨h,g,d,t,os⟩:Shared).TypeIs (.builtin "object.__class__") "getset_descriptor":=F.typeOf_object_class;have hcB:(Value.ref C::bm).contains (.type (".".intercalate ("object.__class__".cutAt '.').dropLast))=true:=by
  rw[F.owner_object_class,List.contains_cons,hb];rfl
 refine codeAny_call_builtin F.slot_gs_get.plain F.entry_gs_get (F.slot_gs_get.check _ _ _ _ _ _ _ _ hT5 (F.args_gs_get _ _ _) ?_)
 repeat (any_goals (first|assumption|(with_reducible refine wpAny_loadPart_at hx ?_;rw[hc]) | (with_reducible refine wpAny_isSubtype_exc hC ?_;rw[hcB])|wp_step))
 refine⟨Code.quiet_builtin _ (by decide +kernel),codeAny_builtin F.entry_object_class ?_⟩
 repeat (any_goals (first|assumption|(with_reducible refine wpAny_loadPart_at hx ?_;rw[hc])|wp_step))
theorem uZ{M:Model}{nameV:Value}{Q:Unit→Shared→Prop}(hC:h.get? C=some (excClassObj nm q C N bs bm hdct sn sub ab col dd k0 k1 k2 k3 k5 newId))(hb:bm.contains (.type "BaseException")=true)(hx:h.get? a=some o)(hc:o.cls=.ref C)(hq:Q () ⟨h,g,d,t,os⟩):wpAny M A (checkBuiltinCall "BaseException.__getattribute__" ⟨[.ref a,nameV],[]⟩) Q E ⟨h,g,d,t,os⟩:=by
 have hk:builtinKind "BaseException.__getattribute__"=some .slot:=by decide +kernel
 have hsplit:splitId "BaseException.__getattribute__"=some ("BaseException","__getattribute__"):=by decide +kernel
 have hcB:(Value.ref C::bm).contains (.type "BaseException")=true:=by rw[List.contains_cons,hb];rfl
 have ha:=F.args_bexc_ga (.ref a) nameV;simp only[checkBuiltinCall,hk,hsplit];refine wpAny_bind ?_
 ·unfold isInstance
  repeat (first|(with_reducible refine wpAny_loadPart_at hx ?_;rw[hc]) | (with_reducible refine wpAny_isSubtype_exc hC ?_;rw[hcB])|wp_step)
  exact hq
theorem oX{tk:Tok}{Q:Fin→Shared→Prop}(hC:h.get? C=some (excClassObj nm q C N bs bm hdct sn sub ab col dd k0 k1 k2 k3 k5 newId))(hb:bm.contains (.type "object")=true)(LC:Looks (model prog w) h (typeLookup (.ref C) "__class__") (some (.builtin "object.__class__")))(hx:h.get? a=some o)(hc:o.cls=.ref C)(hq:Q (.done (.ret (.ref C))) ⟨h,g,d,t,os⟩):
  wpAny (model prog w) A (Builtin.«object.__getattribute__» ⟨[.ref a,.str "__class__" tk],[]⟩) Q E ⟨h,g,d,t,os⟩:=by
 have hT5:(⟨h,g,d,t,os⟩:Shared).TypeIs (.builtin "object.__class__") "getset_descriptor":=F.typeOf_object_class;have f5:=F.typeOf_object_class;have f6:=F.slot_gs_get.lookup;have f7:=F.slot_gs_set.lookup
 repeat (any_goals (first|assumption|(with_reducible refine wpAny_loadPart_at hx ?_;rw[hc])|with_reducible refine LC.at ?_|wp_step))
 refine tE hC hb hx hc ?_
 repeat (any_goals (first|assumption|wp_step))
theorem qu{Q:Option Value→Shared→Prop}(hC:h.get? C=some (excClassObj nm q C N bs bm hdct sn sub ab col dd k0 k1 k2 k3 k5 newId))(hb:bm.contains (.type "object")=true)(hbb:bm.contains (.type "BaseException")=true)(LG:Looks (model prog w) h (typeLookup (.ref C) "__getattribute__") (some (.builtin "BaseException.__getattribute__")))(LA:Looks (model prog w) h (typeLookup (.ref C) "__getattr__") none)(LC:Looks (model prog w) h (typeLookup (.ref C) "__class__") (some (.builtin "object.__class__")))(hx:h.get? a=some o)(hc:o.cls=.ref C)(hq:Q (some (.ref C)) ⟨h,g,d,t+1,os⟩):
  wpAny (model prog w) A (getAttr? (.ref a) "__class__") Q E ⟨h,g,d,t,os⟩:=by
 have f3:=F.attr_ValueError.ga.bind (.ref a);have hx0:(false&&onTheHeap (builtin "BaseException.__getattribute__"))=false:=rfl;have hx2:(builtin "BaseException.__getattribute__"==builtin "object.__getattribute__")=false:=by decide +kernel
 have hx1:(onTheHeap (Value.ref C)&&builtin "BaseException.__getattribute__"==builtin "object.__getattribute__")=false:=by rw[hx2];rfl
 unfold getAttr? getAttrBy?
 repeat (any_goals (first|assumption|(with_reducible refine wpAny_loadPart_at hx ?_;rw[hc])|with_reducible refine LG.at ?_|with_reducible refine LA.at ?_|wp_step))
 refine codeAny_call_builtin F.attr_ValueError.ga.plain F.entry_bexc_ga (uZ hC hbb hx hc (oX hC hb LC hx hc ?_))
 repeat (any_goals (first|assumption|wp_step))
end
def tF(K:Frag)(C:Addr):Bool:=ktsIn K C "object"&&findIn K (.ref C) "__getattribute__"==some (some (.builtin "BaseException.__getattribute__"))&&findIn K (.ref C) "__getattr__"==some none&&findIn K (.ref C) "__class__"==some (some (.builtin "object.__class__"))
def oY(e C:Addr)(h:Heap):Prop:=∃o vs,h.get? e=some o∧o.cls=.ref C∧o.data=.fields vs
theorem oZ{K:Frag}{e C:Addr}(q:tF K C=true):KitX K (.ref e) (.ref C) (oY e C):=by
 unfold tF at q;simp only[and_eq_true,beq_iff_eq]at q;obtain⟨⟨⟨q1,q2⟩,q3⟩,q4⟩:=q;refine⟨λM h X p=>?_,λM h X p=>?_,λh tp dd its n sl X htp=>?_,λ{prog w A E Q s} X p hq=>?_⟩
 ·obtain⟨o,vs,h1,h2,_⟩:=p;exact h2 ▸ (Looks.ld h1).andThen .now
 ·obtain⟨nm,q',N,bs,bm,hdct,sn,sub,ab,col,dd,k0,k1,k2,k3,k5,newId,hC,_,_⟩:=kts_cls X q1;intro A' Q' E' s' k q;unfold isType loadHead;exact wpAny_bind (wpAny_loadPart (k _ _ hC) (wpAny_pure q))
 ·obtain⟨nm,q',N,bs,bm,hdct,sn,sub,ab,col,dd',k0,k1,k2,k3,k5,newId,hC,_,_⟩:=kts_cls X q1;refine Bool.eq_false_iff.mpr λz=>?_;have e:C=tp:=Value.ref.inj (beq_iff_eq.mp z);subst e;have z2:Value.type "type"=Value.type "tuple":=congrArg Obj.cls (Option.some.inj (hC.symm.trans htp));injection z2 with z3
  exact absurd z3 (by decide)
 ·obtain⟨h0,g,d,t,os⟩:=s;obtain⟨o,vs,h1,h2,_⟩:=p;obtain⟨nm,q',N,bs,bm,hdct,sn,sub,ab,col,dd,k0,k1,k2,k3,k5,newId,hC,hb1,hb2⟩:=kts_cls X q1;exact qu hC hb2 hb1 (looks_findIn X q2) (looks_findIn X q3) (looks_findIn X q4) h1 h2 hq
end XI
namespace L2
open PySem PySem.Spec PyProof.Rows
section
variable{X:Cx}{pins:List (Addr×Obj)}{σ:St}{H:Hp}{s:Shared}
def tF2(te:TE):TE:=λσ H Q=>te σ H λv H1=>∃i:Int,v=.int i∧0≤i∧i≤60∧∀y,Q (.str y) H1
theorem jW(i:Int)(h0:0≤i)(h1:i≤60):(ofString (toString i)).length≤100:=by
 have key:∀n:Fin 61,(ofString (toString ((n.val:Nat):Int))).length≤100:=by decide +kernel
 have:=key ⟨i.toNat,by omega⟩;have e:((i.toNat:Nat):Int)=i:=by omega
 rw[e]at this;exact this
theorem yx{x:Str}{j:Nat}{p1 p2 p3:Pos}{e:Expr}{te:TE}(he:PE X e te)(hx:x.length≤800):PE X (.JoinedStr [.Constant (.str x) j p1,.FormattedValue e (-1) none p2] p3) (tF2 te):=by
 intro pins s σ H Q I h;have hl:(empty++x).length≤800:=by rw[strLen_append];show 0+x.length≤800;omega
 refine JoinedStr_many (joinParts_cons (Constant_str ?_));refine⟨le_of_lt (aB (by omega)),?_⟩;refine joinParts_cons (FormattedValue_plain (thn (he pins _ σ H _ (I.tok _) h) λv s1 hpt=>?_));obtain⟨y,H1,I1,r1,q1⟩:=hpt;obtain⟨i,rfl,h0,h1,q⟩:=q1;obtain⟨t,rfl⟩:=r1;have h2:=jW i h0 h1;have h3:((empty++x)++ofString (toString i)).length≤1000:=by rw[strLen_append];omega
 refine formatField_int_small (lt_of_le_of_lt (Nat.log2_le_self _) (by omega)) ⟨le_of_lt (aB h3),?_⟩;exact joinParts_nil ⟨.str _,H1,(I1.tok _).tok _,⟨_,rfl⟩,q _⟩ (le_of_lt (aB h3))
abbrev bmV:List Value:=[.type "ValueError",.type "Exception",.type "BaseException",.type "object"]
abbrev AZ(X:Cx)(x:Str)(C:Addr):Prop:=OwnCls x C bmV "ValueError.__new__" X.mg X.base
def zt(C:Addr)(E:XK)(ta:TE):TS:=λ_ σ H=>cM ta jF σ H λvs H1=>vs.length≤sizeLine∧E (.ref C) none H1
theorem cy{E:XK}(L:Lv X E){x:Str}{C:Addr}{np cpos pos:Pos}{a:Expr}{ta:TE}(O:AZ X x C)(hh:X.A.handled=none)(hg:Gl X x)(ha:PE X a ta)(hs:starEach [a] X.env=[(false,eval a X.env)]:=by rfl)(hd:(x==("__debug__":Str))=false:=by decide):PS X (.Raise (some (.Call (.Name x np) [a] [] cpos)) none pos) (zt C E ta):=by
 intro pins s σ H D I h;obtain⟨tl,N,nm,q,bs,hdct,sn,sub,ab,col,dd,k0,k1,k2,k3,k5,mN,hC,hN,hni,T⟩:=O.obj;refine wpAny_Raise_call_subT (C:=C) (nm:=nm) (q:=q) (N:=N) (bs:=bs) (bm:=tl) (hdct:=hdct) (sn:=sn) (sub:=sub) (ab:=ab) (col:=col) (dd:=dd) (k0:=k0) (k1:=k1) (k2:=k2) (k3:=k3) (k5:=k5)
  PySem.F.excBase_ValueError (mN:=mN) (T.hasType PySem.F.excBase_ValueError.hasBase) hh (by rw[hs];rfl) hni (jg I hg O.bound ⟨rfl,?_⟩ hd)
 have hA:PA X [a] (cM ta jF):=aa ha ae hs;have h':=hA cpos pins s σ H (λvs H1=>vs.length≤sizeLine∧E (.ref C) none H1) I h;rw[hs]at h'⊢;refine evalArgs_plain (thn h' λus s2 hpt=>?_);obtain⟨vs,H2,I2,r2,q2⟩:=hpt;exact⟨rfl,by rw[←r2.length];exact q2.1,I2.bk _ _ hC,hN.keeps I2.bk,T.keeps I2.bk,λh' e hx=>AY L I2 hx q2.2⟩
abbrev TX:=St→Hp→VK→XK→Prop
def XP(X:Cx)(pins:List (Addr×Obj))(σ:St)(E:XK)(e:Value)(s':Shared):Prop:=∃ea C H' H1 s1,e=.ref ea∧Inv X pins σ H1 s1∧Fly X.prog X.w X.stack H1 s1 H' ea C s'∧E (.ref C) none H'
def PX(X:Cx)(e:Expr)(t:TX):Prop :=
 ∀(pins:List (Addr×Obj))(s:Shared)(σ:St)(H:Hp)(Q:VK)(E:XK),Inv X pins σ H s→t σ H Q E→wpAny (model X.prog X.w) X.A (eval e X.env) (EP X pins σ Q) (XP X pins σ E) s
theorem xn{M:Model}{A:Around}{E:Value→Shared→Prop}{nm q:Str}{C N:Addr}{bs bm:List Value}{hdct:Bool}{sn:List Str}{sub:List Value}{ab:Bool}{col:Option Bool}{dd:Option Addr}{k0 k1 k2 k3 k5:Option Value}{newId:String}{h:Heap}{g:Array GenState}{d:Drawn}{t:Nat}{os:OsState}{e T:Addr}{oe:Obj}{Q:Bool→Shared→Prop}(hT:h.get? T=some (excClassObj nm q T N bs bm hdct sn sub ab col dd k0 k1 k2 k3 k5 newId))(hbase:bm.contains (.type "BaseException")=true)(LCT:PySem.W.Looks M h (isSubtype (.ref C) (.ref T)) true)(he:h.get? e=some oe)(hcls:oe.cls=.ref C)(hq:Q true ⟨h,g,d,t,os⟩):wpAny M A (excMatches (.ref e) (.ref T)) Q E ⟨h,g,d,t,os⟩:=by
 have hcB:(Value.ref T::bm).contains (.type "BaseException")=true:=by rw[List.contains_cons,hbase,Bool.or_true]
 have f:=tc_notTuple;unfold excMatches
 repeat (first|(with_reducible refine wpAny_loadPart_at he ?_;rw[hcls])|with_reducible refine LCT.at ?_|with_reducible refine wpAny_loadPart_at hT ?_|(with_reducible refine wpAny_isSubtype_exc hT ?_;rw[hcB])|wp_step)
 exact hq
theorem Inv.forget(I:Inv X pins σ H s){l:Nat}{n:Str}{h':Heap}{m:Str→Option Value}{v:Option Value}{tk:Nat}(hN:X.N.Nodup)(hl:X.N[l]?=some n)(hm:s.heap.Ns X.env.locals m)(hn':h'.Ns X.env.locals (λx=>if x=n then v else m x))(hs:SameBut X.env.locals s.heap h'):Inv X pins (σ.set l none) H {s with heap:=h',toks:=tk}:=by
 obtain⟨m0,hn,hlk⟩:=id I.loc;have em:∀x,m0 x=m x:=λx=>by
  obtain⟨o,es,ep,e1,e2,e3,e4⟩:=hn;obtain⟨o',es',ep',f1,f2,f3,f4⟩:=hm;rw[e1]at f1;cases f1;rw[e2]at f2;cases f2;rw[←e4,←f4]
 have hlσ:l<σ.length:=by rw[I.len];exact(List.getElem?_eq_some_iff.mp hl).1
 have cne:=I.cne;have ne:∀b o,X.s₀.heap.get? b=some o→b≠X.env.locals:=λb o e=>ne_of_lt (lt_of_lt_of_le (lt_size e) I.ok.above);refine⟨I.ok,I.os,I.bare,⟨λb o e n hb hx=>(hs.2 b (ne b o e)).trans (I.base.keep b o e n hb hx),λb o e n hb hx=>?_,I.base.free,λb o e hx=>?_,I.base.tups,I.base.frzs,I.base.tbls⟩,⟨_,hn',λj y v' e1 e2 e3=>?_⟩,λy c e=>?_,I.free,I.freeC,λp hp=>?_,λb ob e=>?_,by simpa using I.len⟩
 ·obtain⟨sl,e1⟩:=I.base.slot b o e n hb hx;exact⟨sl,(hs.2 b (ne b o e)).trans e1⟩
 ·obtain⟨o',e1⟩:=I.base.there b o e hx;exact⟨o',(hs.2 b (ne b o e)).trans e1⟩
 ·by_cases hj:j=l
  ·subst hj;rw[getElem?_set_self hlσ]at e2;cases e2
  ·rw[getElem?_set_ne (Ne.symm hj)]at e2;obtain⟨u',r',q⟩:=hlk j y v' e1 e2 e3;refine⟨u',r',?_⟩;rcases q with⟨k,e⟩|⟨k,c,e,z⟩
   ·refine .inl ⟨k,?_⟩;have hy:y≠n:=λe=>hj (jy hN e1 (e ▸ hl));show(if y=n then v else m y)=some u';rw[if_neg hy,←em];exact e
   ·exact .inr ⟨k,c,e,z.sameBut hs (cne y c e)⟩
 ·obtain⟨w',z⟩:=I.cell y c e;exact⟨w',z.sameBut hs (cne y c e)⟩
 ·obtain⟨p1,p2,p3,p4,p5⟩:=I.pin p hp;exact⟨(hs.2 p.1 p3).trans p1,p2,p3,p4,p5⟩
 ·refine(I.hok b ob e).stay (λc w' hc q=>(hs.2 c ?_).trans q) (λ_ q=>q) λ_ _ q=>q;rintro rfl;rcases hc with hc|hc
  ·rw[←hc,I.free]at e;cases e
  ·rw[I.free]at hc;cases hc
theorem Inv.caught{H':Hp}{ea C:Addr}{s':Shared}{B h6:Heap}{a0:Value}(I:Inv X pins σ H s)(F:Fly X.prog X.w X.stack H s H' ea C s')(fl:FlyingW B X.stack ea (.ref C) a0 s'.heap)(hB:HOk X.prog X.w H' B)(kp:∀b o,s.heap.get? b=some o→H b=none→b∉frs X.stack→B.get? b=some o)(th:∀b o,s.heap.get? b=some o→b∉frs X.stack→∃o',B.get? b=some o')(f6:FlyingW B X.stack ea (.ref C) a0 h6)(hs:s'.heap.UpToSlots h6):
  Inv X pins σ (upd H' ea (.ext (XI.oY ea C))) {s' with heap:=h6}:=by
 obtain⟨u,ok⟩:=oW F.un fl hB kp th f6.1 hs;obtain⟨oe,vs,g1,g2,g3,_⟩:=f6.first;have ne:∀b o,s.heap.get? b=some o→b≠ea:=λb o e z=>by
  by_cases hb:b∈frs X.stack
  ·obtain⟨_,o',ho',hd⟩:=f6.2.2.1.mem hb;rw[z,g1]at ho';cases ho';exact hd _ g3
  ·obtain⟨o',q⟩:=th b o e hb;rw[z,f6.2.1]at q;cases q
 have ner:∀b u,H' b=some u→b≠ea:=λb u e z=>by rw[z,F.new]at e;cases e
 refine I.call' (s':={s' with heap:=h6}) F.os ⟨u.keep,u.slot,λb o e n hx=>?_,u.there,λb xs e=>?_,λb o v e=>?_,λb ps e=>?_⟩ (λb ob e=>?_) F.bare λb z=>absurd z (by simp)
 ·rw[ai (ne b o e)];exact u.free b o e n hx
 ·have:=u.tups b xs e;rw[ai (ner b _ this)];exact this
 ·have:=u.frzs b o v e;rw[ai (ner b _ this)];exact this
 ·obtain⟨more,this⟩:=u.tbls b ps e;exact⟨more,by rw[ai (ner b _ this)];exact this⟩
 ·by_cases hb:b=ea
  ·subst hb;rw[ac]at e;cases e;refine⟨⟨oe,vs,g1,g2,g3⟩,⟨oe,g1⟩,λh1 h2 ⟨o,vs,a1,a2,a3⟩ k=>⟨o,vs,k o a1,a2,a3⟩⟩
  ·rw[ai hb]at e;exact(ok b ob e).stay (λ_ _ _ q=>q) (λc q=>by rw[ai (ner c _ q)];exact q) λc xs q=>by rw[ai (ner c _ q)];exact q
structure TryOk(X:Cx):Prop where
 no:∀e s,¬X.xe e s
 stk:X.stack=X.env::X.outer
 fr:X.env.frame=some X.env.locals
def BL(i j l:Nat)(T:Addr)(K:PySem.W.Frag)(te:TX):TS:=λD σ H=>te σ H (λv H1=>D.nx (σ.set i (some v)) H1)
 (λcl _ H'=>∃C,cl=.ref C∧subIn K (.ref C) (.ref T)=some true∧∀ea,H' ea=none→D.nx (((σ.set l (some (.ref ea))).set j (some (.ref ea))).set l none) (upd H' ea (.ext (XI.oY ea C))))
theorem zu(Y:TryOk X){i j l:Nat}{a b n x:Str}{T:Addr}{e:Expr}{te:TX}{pa pb pn px p1 p2 p3 p4:Pos}(hN:X.N.Nodup)(hi:X.N[i]?=some a)(hj:X.N[j]?=some b)(hl:X.N[l]?=some n)(la:X.env.scope.names.lookup a=some .local)(lb:X.env.scope.names.lookup b=some .local)(ln:X.env.scope.names.lookup n=some .local)(he:PX X e te)(hg:Gl X x)(hm:X.mg x=some (.ref T))(hT:PySem.W.ktsIn X.K T "BaseException"=true)(hs:swapsWith e (some (.Name a pa)) p1.line X.env=pure false:=by rfl)(hs2:swapsWith (.Name n pn) (some (.Name b pb)) p2.line X.env=pure false:=by rfl)(hdx:(x==("__debug__":Str))=false:=by decide)(hdn:(n==("__debug__":Str))=false:=by decide):
  PS X (.Try [.Assign [.Name a pa] e p1] [.ExceptHandler (some (.Name x px)) (some n) [.Assign [.Name b pb] (.Name n pn) p2] p3] [] [] p4) (BL i j l T X.K te):=by
 intro pins s σ H D I h;refine wpAny_Try_except ?_;refine wpAny_execs_cons (wpAny_Assign_Name (wpAny_mono (he pins s σ H _ _ I h) (λv s1 ⟨y,H1,I1,r1,q1⟩=>?_) λev s1 hx=>?_) hs)
 ·exact eY I1 hN hi (.inl la) r1 (λs2 I2=>wpAny_execs_nil (wpAny_execs_nil ⟨_,H1,I2,q1⟩)) (.inr la)
 ·obtain⟨ea,C,H',H1,s0,rfl,I1,F,⟨C',eC,hsub,hk⟩⟩:=hx;cases eC;obtain⟨B,a0,fl,hB,kp,th⟩:=id F.fly;have frm:X.A.frames=some (X.env::X.outer):=by rw[I1.ok.frames,Y.stk]
  have fl':=fl;rw[Y.stk]at fl';refine wpAny_looks_onW frm Y.fr fl' λh4 held4 hs4=>?_;refine wpAny_landsW held4 λh5 fl5 hs5=>?_;have sm5:s1.heap.UpToSlots h5:=hs4.trans hs5;have fl5':FlyingW B X.stack ea (.ref C) a0 h5:=by rw[Y.stk];exact fl5
  have J5:=I1.caught F fl hB kp th fl5' sm5;obtain⟨ob,hob,hobc⟩:=fl5.there;obtain⟨nm,q',N,bs,bm,hdct,sn,sub,ab,col,dd,k0,k1,k2,k3,k5,newId,hTo,hbase,_⟩:=PySem.W.kts_cls J5.kIn hT;obtain⟨hp1,g1,d1,t1,os1⟩:=s1;refine wpAny_handleBy_cons (codeAny_handlers_test ?_) (by intro q;cases q);refine Calls.Name_function_global J5.ok.kind hg (Calls.loadGlobal_global (by rw[J5.ok.glob];exact J5.mod.glob.keeps J5.bk) hm ?_) hdx;refine xn hTo hbase (PySem.W.looks_subIn J5.kIn hsub) hob hobc ?_;refine codeAny_handlers_suite_as ?_;refine lands_againW (s:=⟨h5,g1,d1,t1,os1⟩) fl5 λh6 fl6 hs6=>?_;have fl6':FlyingW B X.stack ea (.ref C) a0 h6:=by rw[Y.stk];exact fl6
  have J6:=I1.caught F fl hB kp th fl6' (sm5.trans hs6);refine eY J6 hN hl (.inl ln) (v:=.ref ea) rfl (λs2 J7=>?_) (.inr ln);obtain⟨m7,hn7,lk7⟩:=id J7.loc;have hlσ:l<σ.length:=by rw[I.len];exact(List.getElem?_eq_some_iff.mp hl).1
  obtain⟨u7,r7,q7⟩:=lk7 l n (.ref ea) hl (getElem?_set_self hlσ) (.inl ln);cases (show u7=Value.ref ea from r7);have hm7:X.env.kindOf n=some .local∧m7 n=some (.ref ea):=by
   rcases q7 with z|⟨z,_⟩
   ·exact z
   ·exfalso
    have z':X.env.scope.names.lookup n=some .cell∨X.env.scope.names.lookup n=some .free:=z;rw[ln]at z';rcases z' with z'|z'<;>cases z'
  refine wpAny_execs_cons (wpAny_Assign_Name (wpAny_Name (wpAny_loadName_local J7.ok.kind hm7.1 hn7 hm7.2 ?_) hdn) hs2);refine eY J7 hN hj (.inl lb) (v:=.ref ea) rfl (λs3 J8=>wpAny_execs_nil ?_) (.inr lb);obtain⟨m8,hn8,_⟩:=id J8.loc;have hcls:(X.env.scope.kind==.class||(X.env.scope.kind==.module&&X.env.locals != X.env.globals))=false:=by rw[J8.ok.kind];rfl
  refine wpAny_nameGoes_keeps hm7.1 hn8 hcls λh9 v9 hn9 hs9=>?_;exact⟨_,_,J8.forget hN hl hn8 hn9 hs9,hk ea F.new⟩
end
end L2
namespace DL
open PySem PySem.Spec PyProof.Rows
theorem jX:entryFor table "dict.update.loop"=some Builtin.«dict.update.loop»:=entryFor_of_tree (by kernel_rfl)
theorem eQ:plainId "dict.update.loop"=true:=by decide +kernel
theorem nr:typeLookup (.type "list") "keys"=pure none:=by rw[typeLookup_type,builtinLookup_eq_fast];kernel_rfl
section
variable{prog:Program}{w:World}{A:Around}{E:Value→Shared→Prop}{s:Shared}
theorem xo{a:Addr}{xs:Array Value}{k:Nat}{sl:Array (Option Value)}{u:Tok}{Q:Value→Shared→Prop}(hx:s.heap.get? a=some {cls:=.type "list",dict:=none,data:=.seq xs k,slots:=sl})(hA:A.handled=none)(h:∀h' tk e,Heap.NewExcOf s.heap h' e "AttributeError"→E (.ref e) {s with heap:=h',toks:=tk}):
  wpAny (model prog w) A (getAttrBy (.ref a) (.str "keys" u) false) Q E s:=by
 obtain⟨hp,g,d,tk,os⟩:=s;have hT:∀tk',(⟨hp,g,d,tk',os⟩:Shared).TypeIs (.ref a) "list":=λ_=>⟨_,hx,rfl⟩;have f1:=sub_AttributeError;have f3:=F.slot_list_getattribute.lookup;have f4:=F.slot_list_getattribute.bind (.ref a);have f5:=am_list_getattr_none;unfold getAttrBy
 repeat (any_goals (first|assumption|exact hT _|((with_reducible show wpAny _ _ (call (builtin "list.__getattribute__") _ _) _ _ _);refine call_meets F.slot_list_getattribute (hT _) am_entry_list_getattribute (F.args_list_getattribute_2 _ _) (meets_getattribute_miss_list a xs k sl "keys" _ nr (by decide) (by size_fits)) ⟨hx,hA,λh' tk' e hx'=>?_⟩)|wp_step))
 obtain⟨t',u',he⟩:=hx'.there;show wpAny _ _ (getattributeRaised _ _ _ _ _ _ _) _ _ _;unfold getattributeRaised
 repeat (any_goals (first|assumption|wp_step))
 exact h _ _ _ hx'.of
theorem xp{a:Addr}{xs:Array Value}{k:Nat}{sl:Array (Option Value)}{Q:Option Value→Shared→Prop}(hx:s.heap.get? a=some {cls:=.type "list",dict:=none,data:=.seq xs k,slots:=sl})(hA:A.handled=none)(h:∀h' tk,(∀b o,s.heap.get? b=some o→h'.get? b=some o)→Q none {s with heap:=h',toks:=tk}):
  wpAny (model prog w) A (getAttr? (.ref a) "keys") Q E s:=by
 obtain⟨hp,g,d,tk,os⟩:=s;have f1:=sub_AttributeError;unfold getAttr? getAttrBy?
 repeat (any_goals (first|assumption|((with_reducible show wpAny _ _ (getAttrBy _ _ false) _ _ _);refine xo (s:=⟨hp,g,d,_,os⟩) hx hA λh' tk' e hx'=>?_)|wp_step))
 obtain⟨⟨oc,od,odt,osl⟩,vs,he,hc,_,_⟩:=hx'.there;simp only at hc;subst hc
 repeat (any_goals (first|assumption|with_reducible refine wpAny_loadPart_at he ?_|wp_step))
 exact h h' tk' λb o e=>hx'.keeps b o e
end
section
variable{prog:Program}{w:World}{A:Around}{E:Value→Shared→Prop}{R:Result→Shared→Prop}{I:Addr}{fp wr:List Addr}{G:Array GenState→Array GenState→Prop}{n:Nat}{P:Nat→Value→Prop}{St:Nat→Shared→Prop}
theorem tG(W:WalksS prog w A.in1 I fp wr G n P St)(d:Addr)(hdf:d∉fp)(ad:Nat→Addr)(kk vv:Nat→Value)(hval:∀i v,P i v→v=.ref (ad i))(had:∀i,i<n→ad i∉d::wr)(D:Nat→Heap→Prop)(hD:∀i (h h':Heap),D i h→(∀b o,b∉wr→h.get? b=some o→h'.get? b=some o)→D i h')(step:∀i (s:Shared) (E:Value→Shared→Prop) (Q:Unit→Shared→Prop),i<n→D i s.heap→(∀h' tk,s.toks≤tk→SameBut d s.heap h'→D (i+1) h'→Q () {s with heap:=h',toks:=tk})→wpAny (model prog w) A.in1 (dictSet d (kk i) (vv i)) Q E s):
  ∀(k i:Nat)(s:Shared)(tk:Tok),n-i=k→i≤n→St i s→D i s.heap→(∀j,j<n→IsTup s.heap (ad j) #[kk j,vv j]) →
   (∀s',Moved (d::wr) G s s'→D n s'.heap→R (.ok (.ret .none)) s') →
   codeAny (model prog w) A (.builtin "dict.update.loop" ⟨[.ref d,.ref I,.int i tk,.none],[]⟩) R s:=by
 have hdw:d∉wr:=λh=>hdf (W.sub _ h);have hsub:∀b∈wr,b∈d::wr:=λb hb=>mem_cons_of_mem _ hb;have hadw:∀i,i<n→ad i∉wr:=λi hi h=>had i hi (mem_cons_of_mem _ h);have hadd:∀i,i<n→ad i≠d:=λi hi h=>had i hi (by rw[h];exact mem_cons_self);intro k
 induction k with
 |zero =>
  intro i s tk hk hi hst hDi htp hR;have hin:i=n:=by omega
  subst hin;refine codeAny_builtin jX ?_;rw[Around.under_plainId eQ _];show wpAny _ A.in1 (pyNext (.ref I) >>= _) _ _ s;refine wpAny_bind (W.done s _ _ hst λs' hm=>?_);show wpAny _ A.in1 (Builtin.Dict.addKeywords d [] >>= λ_=>ret Value.none) _ _ s';exact wpAny_bind (wpAny_pure (wpAny_pure (hR s' (hm.mono hsub) (hD _ _ _ hDi hm.heap))))
 |succ k ih =>
  intro i s tk hk hi hst hDi htp hR;have hlt:i<n:=by omega
  refine codeAny_builtin jX ?_;rw[Around.under_plainId eQ _];show wpAny _ A.in1 (pyNext (.ref I) >>= _) _ _ s;refine wpAny_bind (W.item i s _ _ hlt hst λv s' hP hst' hm=>?_);have hv:=hval i v hP;subst hv;have hDi':D i s'.heap:=hD _ _ _ hDi hm.heap;have htp':∀j,j<n→IsTup s'.heap (ad j) #[kk j,vv j]:=λj hj=>by
   obtain⟨o,ho,r⟩:=htp j hj;exact⟨o,hm.heap _ o (hadw j hj) ho,r⟩
  obtain⟨ot,hot,hct,nt,hdt⟩:=htp' i hlt;have hT:s'.TypeIs (.ref (ad i)) "tuple":=⟨ot,hot,hct⟩;refine wpAny_bind (wpAny_holding ?_);refine wpAny_bind (wpAny_tryCatch ?_);unfold Builtin.Dict.pairItems;refine wpAny_bind (wpAny_typeOf hT ?_);rw[if_pos (by decide)];generalize hDS:dictSet=DS;obtain⟨hp,g,dr,t,os⟩:=s';obtain⟨ocls,odict,odata,oslots⟩:=ot;simp only at hct hdt;subst hct hdt
  repeat (any_goals (first|assumption|with_reducible refine wpAny_loadPart_at hot ?_|wp_step))
  subst hDS;refine step i _ _ _ hlt hDi' λh' tk' htk hsb hD'=>?_;have hsb':SameBut d hp h':=hsb;have hkeep:∀b o,b∉d::wr→hp.get? b=some o→h'.get? b=some o:=λb o hb e=>by
   rw[hsb'.2 b (λz:b=d=>hb (by rw[z];exact mem_cons_self))];exact e
  refine wpAny_pure ⟨plainId_quiet eQ _,?_⟩;refine ih (i+1) _ _ (by omega) hlt (W.frame _ _ _ _ hst' htk λb hb o e=>?_) hD' (λj hj=>?_) λs'' hm'' hD''=>?_
  ·rw[hsb'.2 b (λh:b=d=>hdf (by rw[←h];exact hb))];exact e
  ·obtain⟨o,ho,r⟩:=htp' j hj;exact⟨o,hkeep _ o (had j hj) ho,r⟩
  ·exact hR s'' (Moved.trans W.gtrans ((hm.mono hsub).then_heap htk λb o hb e=>hkeep b o hb e) hm'') hD''
end
section
variable{prog:Program}{w:World}{A:Around}{E:Value→Shared→Prop}{s:Shared}
theorem jY{l:Addr}{items:Array Value}{nl:Nat}{sl:Array (Option Value)}{Q:Value→Shared→Prop}(hh:A.handled=none)(hl:s.heap.get? l=some {cls:=.type "list",dict:=none,data:=.seq items nl,slots:=sl})(ad:Nat→Addr)(kk vv:Nat→Value)(hi:∀(i:Nat) (v:Value),items[i]?=some v→v=Value.ref (ad i))(ht:∀i,i<items.size→IsTup s.heap (ad i) #[kk i,vv i])(D:Nat→Heap→Prop)(hD0:∀h',h'.get? s.heap.objs.size=some {cls:=.type "dict",data:=.dict #[]}→(∀b o,s.heap.get? b=some o→h'.get? b=some o)→D 0 h')(hD:∀i (h h':Heap),D i h→(∀b o,b≤s.heap.objs.size→h.get? b=some o→h'.get? b=some o)→D i h')(step:∀i (s':Shared) (E:Value→Shared→Prop) (Q:Unit→Shared→Prop),i<items.size→D i s'.heap→(∀h' tk,s'.toks≤tk→SameBut s.heap.objs.size s'.heap h'→D (i+1) h'→Q () {s' with heap:=h',toks:=tk}) →
   wpAny (model prog w) A.in1.in1 (dictSet s.heap.objs.size (kk i) (vv i)) Q E s')(h:∀h' tk,D items.size h'→(∀b o,s.heap.get? b=some o→h'.get? b=some o)→Q (.ref s.heap.objs.size) {s with heap:=h',toks:=tk}):
  wpAny (model prog w) A (call (.type "dict") [.ref l]) Q E s:=by
 refine callType_codes (Q₁:=λobj s₁=>obj=.ref s.heap.objs.size∧s₁={s with heap:=s.heap.push {cls:=.type "dict",data:=.dict #[]}}) F.kt_called_dict (F.kt_typeCall_dict_1 _) F.entry_dict_init (kt_code_dict_new _ ⟨rfl,rfl⟩) ?_;rintro obj s₁ ⟨rfl,rfl⟩;have hnew:(s.heap.push {cls:=.type "dict",data:=.dict #[]}).get? s.heap.objs.size=some {cls:=.type "dict",data:=.dict #[]}:=get?_push_size _ rfl;have hTd:Shared.TypeIs {s with heap:=s.heap.push {cls:=.type "dict",data:=.dict #[]}} (.ref s.heap.objs.size) "dict":=⟨_,hnew,rfl⟩
 have hl':(s.heap.push {cls:=.type "dict",data:=.dict #[]}).get? l=some {cls:=.type "list",dict:=none,data:=.seq items nl,slots:=sl}:=get?_push_of_some _ hl;have hTl:Shared.TypeIs {s with heap:=s.heap.push {cls:=.type "dict",data:=.dict #[]}} (.ref l) "list":=⟨_,hl',rfl⟩
 refine⟨hTd,F.args_dict_init_2 _ _,?_⟩;unfold Builtin.«dict.__init__»;refine wpAny_bind ?_;unfold Builtin.Dict.selfAndRest;refine wpAny_bind (wpAny_notOrdered_dict hTd ?_);show wpAny _ _ (pure (s.heap.objs.size,[Value.ref l])) _ _ _;refine wpAny_pure ?_;show wpAny _ _ (Builtin.Dict.updateFrom "dict.__init__" s.heap.objs.size (.ref l) [] .none) _ _ _;unfold Builtin.Dict.updateFrom;refine wpAny_bind (wpAny_typeOf hTl ?_);rw[if_pos (by decide)];refine wpAny_bind (xp (s:={s with heap:=s.heap.push {cls:=.type "dict",data:=.dict #[]}}) hl' (show A.in1.in1.handled=none by simp[hh]) λh1 tk1 hk1=>?_);have hk1':∀b o,(s.heap.push {cls:=.type "dict",data:=.dict #[]}).get? b=some o→h1.get? b=some o:=hk1;have hL1:h1.IsList l items:=⟨_,hk1' _ _ hl',rfl,nl,rfl⟩;rw[if_pos (show(none:Option Value).isNone=true from rfl)];refine wpAny_bind (wpAny_rule ?_);refine wpAny_bind (wpAny_pyIter_list hL1 ?_);have hlS:l<s.heap.objs.size:=lt_size hl;have hS1:s.heap.objs.size<h1.objs.size:=lt_size (hk1' _ _ hnew);have k0:∀b o,s.heap.get? b=some o→h1.get? b=some o:=λb o e=>hk1' b o (get?_push_of_some _ e);have hadlt:∀i,i<items.size→ad i<s.heap.objs.size:=λi hi'=>by
  obtain⟨o,ho,_⟩:=ht i hi';exact lt_size ho
 refine wpAny_pure ⟨plainId_quiet eQ _,tG (A:=A.in1) ((Walks.list (show A.in1.in1.handled=none by simp[hh]) h1.objs.size l (ne_of_lt (lt_trans hlS hS1)) items).toS) s.heap.objs.size ?hdf ad kk vv hi ?had D ?hD' (λi s' E Q hi' hDi hq=>step i s' E Q hi' hDi hq)
  (items.size-0) 0 _ 0 (by omega) (zero_le _) ⟨⟨_,get?_push_size _ rfl,rfl,rfl⟩,hL1.push _⟩ ?hD0' ?ht' λs' hm hDn=>?_⟩
 case hdf =>
  simp only[mem_cons,not_mem_nil,or_false,not_or];exact⟨ne_of_lt hS1,ne_of_gt hlS⟩
 case had =>
  intro i hi';simp only[mem_cons,not_mem_nil,or_false,not_or];exact⟨ne_of_lt (hadlt i hi'),ne_of_lt (lt_trans (hadlt i hi') hS1)⟩
 case hD' =>
  intro i g g' hDi hk;refine hD i g g' hDi λb o hb e=>hk b o ?_ e;simp only[mem_cons,not_mem_nil,or_false];exact ne_of_lt (lt_of_le_of_lt hb hS1)
 case hD0' =>
  exact hD0 _ (get?_push_of_some _ (hk1' _ _ hnew)) λb o e=>get?_push_of_some _ (k0 b o e)
 case ht' =>
  intro j hj;obtain⟨o,ho,r⟩:=ht j hj;exact⟨o,get?_push_of_some _ (k0 _ _ ho),r⟩
 obtain⟨h',g',d',tk',os'⟩:=s';have eg:g'=s.gens:=hm.gens;have ed:d'=s.drawn:=hm.drawn;have eo:os'=s.os:=hm.os;subst eg;subst ed;subst eo;refine⟨rfl,h h' tk' hDn λb o e=>?_⟩;have hb:b<s.heap.objs.size:=lt_size e;refine hm.heap b o ?_ (get?_push_of_some _ (k0 b o e));simp only[mem_cons,not_mem_nil,or_false,not_or];exact⟨ne_of_lt hb,ne_of_lt (lt_trans hb hS1)⟩
end
end DL
namespace L2
open PySem PySem.Spec PyProof.Rows
section
variable{X:Cx}
theorem zv{f:List (Addr×Obj)}{i:St}{b:Hp}{s:Shared}(c:Inv X f i b s){a:Addr}{x y:V}(d:b a=some (.tup [x,y])):∃u v,aL x u∧aL y v∧IsTup s.heap a #[u,v]:=by
 obtain⟨_,j,r,e⟩:=c.hok a _ d;cases r with
 |cons g r =>
  cases r with
  |cons h r=>cases r;exact⟨_,_,g,h,by simpa using e⟩
theorem va{κ:Type}{m:List (Addr×Obj)}{n:St}{e:Hp}{s:Shared}(j:Inv X m n e s){zs:List (Addr×κ×V)}(d:Addr×κ×V→V)(k:∀z∈zs,e z.1=some (.tup [d z,z.2.2])):
  ∃f:Addr×κ×V→Value×Value,∀z∈zs,aL (d z) (f z).1∧aL z.2.2 (f z).2∧IsTup s.heap z.1 #[(f z).1,(f z).2]:=by
 have g:∀z:Addr×κ×V,∃p:Value×Value,z∈zs→aL (d z) p.1∧aL z.2.2 p.2∧IsTup s.heap z.1 #[p.1,p.2]:=λz=>by
  by_cases i:z∈zs
  ·obtain⟨u,v,a,b,c⟩:=zv j (k z i);exact⟨(u,v),λ_=>⟨a,b,c⟩⟩
  ·exact⟨(.none,.none),λh=>absurd h i⟩
 exact⟨λz=>Classical.choose (g z),λz l=>Classical.choose_spec (g z) l⟩
theorem cX{b:Type}{l:List b}{i:Nat}{d:b}(a:i<l.length):l.getD i d∈l∧l[i]?=some (l.getD i d):=by
 rw[getD_eq_getElem?_getD,getElem?_eq_getElem a];exact⟨getElem_mem a,rfl⟩
theorem tH{κ:Type}{zs:List (Addr×κ×V)}{d:Addr×κ×V}{i:Nat}{v:Value}(h:(((zs.map (·.1)).map Value.ref).toArray)[i]?=some v):v=Value.ref (zs.getD i d).1:=by
 have h':((zs.map (·.1)).map Value.ref)[i]?=some v:=by simpa using h
 rw[getElem?_map,getElem?_map]at h';rw[getD_eq_getElem?_getD];cases e:zs[i]? with
 |none=>rw[e]at h';cases h'
 |some z=>rw[e]at h';exact(Option.some.inj h').symm
theorem cQ{a:Type}{l:List a}{i:Nat}{x:a}(b:l[i]?=some x):l.take (i+1)=l.take i++[x]:=by rw[take_succ,b];rfl
theorem tI{a κ:Type}{l:List a}{f:a→κ}{i:Nat}{x:a}(k:(l.map f).Nodup)(c:l[i]?=some x):f x∉(l.take i).map f:=by
 intro j;obtain⟨y,m,e⟩:=mem_map.mp j;obtain⟨d,h,b⟩:=mem_iff_getElem.mp m;have n:d<i:=by rw[length_take]at h;omega
 have hi:i<l.length:=(List.getElem?_eq_some_iff.mp c).1;have g:(l.map f)[d]'(by rw[length_map];omega)=(l.map f)[i]'(by rw[length_map];omega):=by
  rw[getElem_map,getElem_map];rw[getElem_take]at b;rw[b,e,(List.getElem?_eq_some_iff.mp c).2]
 have:=(getElem_inj k).mp g;omega
theorem iX(K:X.calm=true):cx X (.type "dict") (λxs H Q=>∃l,∃zs:List (Addr×Key×V),xs=[.ref l]∧H l=some (.lst ((zs.map (·.1)).map V.ref))∧(∀z∈zs,H z.1=some (.tup [kV z.2.1,z.2.2]))∧zs.length≤1000 ∧
  (zs.map (·.2.1)).Nodup∧((∀d o,H d=none→Q (.ref d) (upd H d (.frz o (.dK (zs.map (·.2))))))∨∀d,H d=none→Q (.ref d) (upd H d (.dK (zs.map (·.2)))))):=by
 intro pins s σ H xs a4 Q I r h;obtain⟨l,zs,rfl,L,A,m,M,q⟩:=h;obtain⟨u,rfl,Z⟩:=dy r;cases Z;obtain⟨_,a2,a3,a0,b⟩:=I.hok l _ L;have e:=dq a0;subst e;obtain⟨f,x⟩:=va I (λz=>kV z.2.1) A;have hsz:(((zs.map (·.1)).map Value.ref).toArray).size=zs.length:=by simp
 refine DL.jY (s:=s) (I.ok.hd K) b (λi=>(zs.getD i (0,.inl 0,.non)).1) (λi=>(f (zs.getD i (0,.inl 0,.non))).1) (λi=>(f (zs.getD i (0,.inl 0,.non))).2) (λi v T=>tH T) (λi hi=>?_)
  (λi h'=>h'.DictOf (aJ X.prog X.w) s.heap.objs.size ((zs.take i).map λz=>(z.2.1,(f z).2))) (λh' c _=>?_) (λi g a1 a A=>?_) (λi s' E Q hi a P=>?_) λh' tk a C=>?_
 ·rw[hsz]at hi;exact(x _ (cX hi).1).2.2
 ·exact⟨_,#[],0,c,⟨rfl,rfl,rfl⟩,rfl,λ_ t=>by simp at t,Pairs.nil,nodup_nil⟩
 ·obtain⟨o,es,G,b,r⟩:=a;exact⟨o,es,G,A _ o (le_refl _) b,r⟩
 ·rw[hsz]at hi;obtain⟨j,c⟩:=cX (d:=((0,.inl 0,.non):Addr×Key×V)) hi;refine wpAny_dictSet_pairs (hsz:=by rw[length_map,length_take];have:=aB m;omega) (k:=(zs.getD i (0,.inl 0,.non)).2.1) (fg (x _ j).1) a λh' n S=>P h' _ (le_succ _) S ?_;have D:=cQ c;have F:=tI M c;rw[D,map_append];unfold stored at n;rw[if_neg]at n
  ·exact n
  ·intro J;obtain⟨p,O,t⟩:=any_eq_true.mp J;obtain⟨z,W,rfl⟩:=mem_map.mp O;exact F (mem_map.mpr ⟨z,W,of_decide_eq_true t⟩)
 ·rw[hsz,take_length]at a;obtain⟨ob,N⟩:∃ob,h'.get? s.heap.objs.size=some ob:=let⟨o,_,_,b,_⟩:=a;⟨o,b⟩;have R:KV (zs.map (·.2)) (zs.map λz=>(z.2.1,(f z).2)):=by
   have:∀ys:List (Addr×Key×V),(∀z∈ys,z∈zs)→KV (ys.map (·.2)) (ys.map λz=>(z.2.1,(f z).2)):=by
    intro ys
    induction ys with
    |nil=>intro _;exact .nil
    |cons z ys Y=>intro j;exact .cons ⟨rfl,(x z (j z (by simp))).2.1⟩ (Y λy U=>j y (by simp[U]))
   exact this zs λz m=>m
  have B:∀H':Hp,bp X.prog X.w H' h' s.heap.objs.size (.dK (zs.map (·.2))):=λH'=>mZ (le_of_lt (aB (by rw[length_map];exact m))) (beq_eq_false_iff_ne.mpr (Ne.symm (ne_of_lt I.big))) R a;rcases q with q|q
  ·exact⟨.ref s.heap.objs.size,_,I.laid (t':=tk) (o:=.frz ob (.dK (zs.map (·.2)))) C (le_refl _) ⟨N,B _⟩,rfl,q _ ob (I.hok.fresh (le_refl _))⟩
  ·exact⟨.ref s.heap.objs.size,_,I.laid (t':=tk) (o:=.dK (zs.map (·.2))) C (le_refl _) (B _),rfl,q _ (I.hok.fresh (le_refl _))⟩
theorem qv(c:X.calm=true):cx X (.type "dict") (λxs H Q=>∃l,∃zs:List (Addr×Key×V),xs=[.ref l]∧H l=some (.lst ((zs.map (·.1)).map V.ref))∧(∀z∈zs,H z.1=some (.tup [kV z.2.1,z.2.2]))∧zs.length≤1000∧(zs.map (·.2.1)).Nodup∧∀d o,H d=none→Q (.ref d) (upd H d (.frz o (.dK (zs.map (·.2)))))) :=
 λpins s σ H xs e Q I r ⟨l,zs,h1,h2,h3,a,b,q⟩=>iX c pins s σ H xs e Q I r ⟨l,zs,h1,h2,h3,a,b,.inl q⟩
theorem dI(c:X.calm=true):cx X (.type "dict") (λxs H Q=>∃l,∃zs:List (Addr×Key×V),xs=[.ref l]∧H l=some (.lst ((zs.map (·.1)).map V.ref))∧(∀z∈zs,H z.1=some (.tup [kV z.2.1,z.2.2]))∧zs.length≤1000∧(zs.map (·.2.1)).Nodup∧∀d,H d=none→Q (.ref d) (upd H d (.dK (zs.map (·.2))))) :=
 λpins s σ H xs e Q I r ⟨l,zs,h1,h2,h3,a,b,q⟩=>iX c pins s σ H xs e Q I r ⟨l,zs,h1,h2,h3,a,b,.inr q⟩
end
def zw(c:Heap)(d:Addr)(b:Array DictEntry)(a:Nat):Prop:=∃o,c.get? d=some o∧o.ExactDict∧o.data=.dict b a
section
variable{prog:Program}{w:World}{A:Around}{E:Value→Shared→Prop}{s:Shared}
theorem vb{d:Addr}{e:Array DictEntry}{c:Nat}{Q:Value→Shared→Prop}(hd:(d==sysModules)=false)(i:zw s.heap d e c)(g:Q (.ref s.heap.objs.size) {s with heap:=s.heap.push {cls:=.type "dict_keyiterator",data:=.fields #[.ref d,.int 0 0,.int e.size 0,.int c 0]}}):
  wpAny (model prog w) A (pyIter (.ref d)) Q E s:=by
 obtain⟨o,b,h,f⟩:=id i;have a:s.TypeIs (.ref d) "dict":=⟨o,b,h.1⟩;refine wpAny_pyIter_slot a PySem.F.slot_dict_iter (wpAny_call_entry PySem.F.slot_dict_iter a PySem.F.entry_dict_iter ?_ (PySem.F.args_dict_iter_1 _));unfold Builtin.«dict.__iter__»;refine wpAny_bind ?_;unfold Builtin.Dict.dictSlotNone;refine wpAny_bind (wpAny_notOrdered_dict a ?_);show wpAny _ _ (pure (Value.ref d)) _ _ s;refine wpAny_pure ?_;show wpAny _ _ (Builtin.Dict.showsAll d >>= _) _ _ s;unfold Builtin.Dict.showsAll;rw[if_neg (by rw[hd];exact Bool.false_ne_true)];refine wpAny_bind (wpAny_pure ?_);refine wpAny_bind (wpAny_dictEntries b f ?_);refine wpAny_bind (wpAny_dictEpoch b f ?_);refine wpAny_bind (wpAny_newObj_type (wpAny_pure ⟨_,rfl,"dict_keyiterator",_,⟨_,get?_push_size _ rfl,rfl⟩,slot_dict_keyiterator_next.lookup,?_⟩));simpa [rawInt]using g
theorem vc{c d:Addr}{i ep:Nat}{a:Array DictEntry}{e:DictEntry}{Q:Option Value→Shared→Prop}(b:s.heap.IsKeyIter c d i a.size ep)(r:zw s.heap d a ep)(l:a[i]?=some e)(m:∀h',h'.IsKeyIter c d (i+1) a.size ep→SameBut c s.heap h'→Q (some e.key) {s with heap:=h'}):
  wpAny (model prog w) A (pyNext (.ref c)) Q E s:=by
 obtain⟨o,g,n,f⟩:=id b;obtain⟨v,k,u,h⟩:=id r;unfold pyNext;refine wpAny_bind (wpAny_attempt (wpAny_callSpecial?_slot (name:=ofString "__next__") b.typeIs slot_dict_keyiterator_next
  (wpAny_call_entry slot_dict_keyiterator_next b.typeIs PySem.F.entry_dict_keyiterator_next ?_ (PySem.F.args_dict_keyiterator_next_1 _))))
 refine wpAny_bind (wpAny_pure ?_);refine wpAny_bind ?_;refine wpAny_bind ?_
 first|refine wpAny_bind (wpAny_typeNameOfWhole_keyiter b.typeIs (wpAny_pure ?_))|refine wpAny_bind (wpAny_typeNameOf_keyiter b.typeIs (wpAny_pure ?_))
 refine wpAny_bind (wpAny_fieldsOf g f ?_);have t:Builtin.Dict_items.ownsTuple "dict_keyiterator"=false:=by decide
 simp only[t,false_eq_true,if_false];show wpAny _ _ (if (Value.ref d==Value.none)=true then _ else _) _ _ s
 rw[if_neg (show ¬((Value.ref d==Value.none)=true)from Bool.false_ne_true)];refine wpAny_bind (wpAny_pure ?_);refine wpAny_bind (wpAny_dictEntries k h ?_);rw[if_neg (by simp)];refine wpAny_bind (wpAny_pure ?_);refine wpAny_bind (wpAny_dictEpoch k h ?_);rw[if_neg (by simp)];refine wpAny_pure ?_;have q:i<a.size:=(Array.getElem?_eq_some_iff.mp l).1;have p:a[i]=e:=(Array.getElem?_eq_some_iff.mp l).2;simp only[show ¬((i:Int)<0)from by omega,if_false,toNat_natCast,Array.getElem?_eq_getElem q];refine wpAny_bind ?_
 first|refine wpAny_bind (wpAny_typeNameOfWhole_keyiter b.typeIs (wpAny_pure ?_))|refine wpAny_bind (wpAny_typeNameOf_keyiter b.typeIs (wpAny_pure ?_))
 refine wpAny_bind (wpAny_isOneOf_keyiter b.typeIs ?_);show wpAny _ _ (setField (.ref c) 1 (rawInt ((i:Int)+1)) >>= _) _ _ s;refine wpAny_bind (wpAny_setField g f (by simp) ?_);have j:(s.heap.update c (Obj.mapFields (·.setIfInBounds 1 (rawInt ((i:Int)+1))))).IsKeyIter c d (i+1) a.size ep :=
  ⟨_,get?_update_self _ g (Obj.isFreed_of_fields (Obj.data_mapFields f _)),(Obj.cls_mapFields ..).trans n,by rw[Obj.data_mapFields f];simp[rawInt]⟩
 refine wpAny_bind (wpAny_holding ?_);refine wpAny_bind (wpAny_isOneOf_keyiter (s:={s with heap:=s.heap.update c (Obj.mapFields (·.setIfInBounds 1 (rawInt ((i:Int)+1))))}) j.typeIs ?_)
 show wpAny _ _ (pure a[i].key) _ _ _;rw[p];exact wpAny_pure (wpAny_pure ⟨_,rfl,wpAny_pure (m _ j (SameBut.update ..))⟩)
theorem xq{e d:Addr}{i g:Nat}{f:Array DictEntry}{Q:Option Value→Shared→Prop}(q:A.handled=none)(c:s.heap.IsKeyIter e d i f.size g)(r:zw s.heap d f g)(p:f.size≤i)(n:∀h',ExtBut e s.heap h'→Q none {s with heap:=h'}):wpAny (model prog w) A (pyNext (.ref e)) Q E s:=by
 obtain⟨o,k,u,h⟩:=id c;obtain⟨x,l,v,j⟩:=id r;unfold pyNext;refine wpAny_bind (wpAny_attempt (wpAny_callSpecial?_slot (name:=ofString "__next__") c.typeIs slot_dict_keyiterator_next
  (wpAny_call_entry slot_dict_keyiterator_next c.typeIs PySem.F.entry_dict_keyiterator_next ?_ (PySem.F.args_dict_keyiterator_next_1 _))))
 refine wpAny_bind (wpAny_pure ?_);refine wpAny_bind ?_;refine wpAny_bind ?_
 first|refine wpAny_bind (wpAny_typeNameOfWhole_keyiter c.typeIs (wpAny_pure ?_))|refine wpAny_bind (wpAny_typeNameOf_keyiter c.typeIs (wpAny_pure ?_))
 refine wpAny_bind (wpAny_fieldsOf k h ?_);have t:Builtin.Dict_items.ownsTuple "dict_keyiterator"=false:=by decide
 simp only[t,false_eq_true,if_false];show wpAny _ _ (if (Value.ref d==Value.none)=true then _ else _) _ _ s
 rw[if_neg (show ¬((Value.ref d==Value.none)=true)from Bool.false_ne_true)];refine wpAny_bind (wpAny_pure ?_);refine wpAny_bind (wpAny_dictEntries l j ?_);rw[if_neg (by simp)];refine wpAny_bind (wpAny_pure ?_);refine wpAny_bind (wpAny_dictEpoch l j ?_);rw[if_neg (by simp)];refine wpAny_pure ?_;simp only[show ¬((i:Int)<0)from by omega,if_false,toNat_natCast,Array.getElem?_eq_none p];refine wpAny_bind ?_
 first|refine wpAny_bind (wpAny_typeNameOfWhole_keyiter c.typeIs (wpAny_pure ?_))|refine wpAny_bind (wpAny_typeNameOf_keyiter c.typeIs (wpAny_pure ?_))
 show wpAny _ _ (setField (.ref e) 0 .none >>= _) _ _ s;refine wpAny_bind (wpAny_setField k h (by simp) ?_);show wpAny _ _ (newExc (.type "StopIteration") [] >>= _) _ _ _;refine wpAny_bind ?_;simp only[newExc,newTuple];refine wpAny_bind (wpAny_newObj_type ?_ (by size_fits));refine wpAny_bind (m:=firstArgMember _ _) (wpAny_of_eq (a:=Value.none) (by first|rfl|(simp only[firstArgMember];rfl)) ?_)
 refine wpAny_newObj_type ?_ (by size_fits);simp only[raiseNew];refine wpAny_bind (wpAny_handled ?_);rw[show A.in1.handled=none from q];refine wpAny_bind (wpAny_pure (wpAny_throw ?_));refine wpAny_bind (wpAny_isInstance (T:="StopIteration") (b:=true) ⟨_,get?_push_size _ rfl,rfl⟩ isSubtype_stop ?_);exact wpAny_pure (n _ (((SameBut.update ..).extBut.push _).push _))
end
def Itk(d:Addr)(o:Obj)(u:HO)(ks:List V):It:=⟨λi H=>H d=some (.frz o u)∧i<ks.length,λi H x H'=>H'=H∧ks[i]?=some x,λi H=>H d=some (.frz o u)∧ks.length≤i⟩
theorem tJ{P:Program}{w:World}{K:PySem.W.Frag}{U:Expr}{d it:Addr}{o:Obj}{u:HO}{a:Array DictEntry}{C:Nat}{ks:List V}(J:o.ExactDict)(hd:o.data=.dict a C)(A:aF ks (a.toList.map (·.key))):
  Turn P w K U (Itk d o u ks) [it] it (λi h=>h.IsKeyIter it d i a.size C) where
 mem:=by simp
 obj:=λi h st b f=>by
  have e:b=it:=by simpa using f
  subst e;obtain⟨o,e,c,d⟩:=st;exact⟨o,e,λv z=>by rw[d]at z;cases z⟩
 keep:=λi h h' st k=>st.at λo e=>k it (by simp) o e
 item:=by
  intro X t B r D i pins s σ H E I g st x;subst t B r;obtain⟨q,hi⟩:=x;have y:=(I.hok d _ q).1;have R:ks.length=a.size:=by rw[A.length,length_map,length_toList]
  have F:i<a.size:=by omega
  obtain⟨v,G,S⟩:=A.get (getElem?_eq_getElem hi);obtain⟨j,l,Q,m,n,p⟩:=g it (by simp);have O:v=a[i].key:=by
   rw[getElem?_map,getElem?_toList,Array.getElem?_eq_getElem F]at G;exact(Option.some.inj G).symm
  refine vc st ⟨o,y,J,hd⟩ (Array.getElem?_eq_getElem F) λh' L T=>?_;have M:Inv X pins σ H {s with heap:=h'}:=I.turned (t':=s.toks) (λb o f e=>(T.2 b f).trans e) j l m n p
  obtain⟨Y,e,c,dd⟩:=id L;exact⟨_,rfl,og (s:={s with heap:=h'}) e c dd (by decide) ⟨ks[i],H,M,O ▸ S,⟨rfl,getElem?_eq_getElem hi⟩,L,λb f=>(g b f).1⟩⟩
 done:=by
  intro X t B r D i pins s σ H E I g st x;subst t B r;obtain⟨q,hi⟩:=x;have y:=(I.hok d _ q).1;have R:ks.length=a.size:=by rw[A.length,length_map,length_toList]
  obtain⟨j,l,Q,m,n,p⟩:=g it (by simp);exact xq (I.ok.hd D) st ⟨o,y,J,hd⟩ (by omega) λh' N=>⟨rfl,I.turned (t':=s.toks) (λb o f e=>N b o f e) j l m n p⟩
 self:=λ_ _ _ _ _ st h=>wpAny_pyIter_keyiter st h
section
variable{X:Cx}{tg:Expr}
end
section
variable{prog:Program}{w:World}{A:Around}{E:Value→Shared→Prop}{s:Shared}
end
section
variable{X:Cx}
theorem xr{P:Program}{w:World}{g:List (Key×V)}{vs:List (Key×Value)}{b:Array Value}(o:KV g vs)(n:ItemsOf (λi v=>∃k x,vs[i]?=some (k,x)∧(aJ P w).is k v=true) b vs.length):aF (g.map λp=>kV p.1) b.toList:=by
 obtain⟨h1,h2⟩:=n;have c:b.toList.length=vs.length:=by simpa using h1
 have h3:∀(i:Nat)(v:Value),b.toList[i]?=some v→∃k x,vs[i]?=some (k,x)∧(aJ P w).is k v=true:=λi v f=>h2 i v (by simpa using f);clear h1 h2;generalize b.toList=l at c h3
 induction o generalizing l with
 |nil =>
  cases l with
  |nil=>exact .nil
  |cons a r=>simp at c
 |@cons p q g vs r _ ih =>
  cases l with
  |nil=>simp at c
  |cons a l =>
   refine .cons ?_ (ih l (by simpa using c) λi v f=>by simpa using h3 (i+1) v (by simpa using f))
   obtain⟨k,x,h,j⟩:=h3 0 a rfl;have m:q=(k,x):=by simpa using h
   show aL (kV p.1) a;rw[r.1,m];rcases aX j with⟨i,t,d,e⟩|⟨y,t,d,e⟩
   ·rw[d,e];exact⟨t,rfl⟩
   ·rw[d,e];exact⟨t,rfl⟩
end
end L2
namespace HT
open PySem PyProof.Rows
section
open PySem.SeqAt
open PySem.AutoSeq1 (wpAny_loadPart')
open PySem.MeetsSeq PySem.MeetsSeq2 PySem.MeetsSeq3
end
section
variable{prog:Program}{w:World}{A:Around}{E:Value→Shared→Prop}{s:Shared}
end
end HT
namespace L2
open PySem PySem.Spec PyProof.Rows
section
variable{X:Cx}
theorem vd{a b:Type}{l:List a}{f:a→b}{d:a}{e:b}{i:Nat}(c:i<l.length):(l.map f).getD i e=f (l.getD i d):=by
 rw[getD_eq_getElem?_getD,getD_eq_getElem?_getD,getElem?_map,getElem?_eq_getElem c];rfl
theorem iI{a:Type}{zs:List a}{val:a→V}{d:a}:∀{us:List Value},aF (zs.map val) us→∀(ps:List Nat),(∀i∈ps,i<zs.length)→aF ((ps.map λi=>zs.getD i d).map val) (ps.map λi=>us.getD i Value.none):=by
 intro us g ps
 induction ps with
 |nil=>intro _;exact .nil
 |cons i ps e =>
  intro h;refine .cons ?_ (e λf b=>h f (by simp[b]));have hi:=h i (by simp);obtain⟨u,c,r⟩:=g.get (i:=i) (x:=val (zs.getD i d)) (by rw[getElem?_map,(cX (d:=d) hi).2];rfl);have:us.getD i Value.none=u:=by rw[getD_eq_getElem?_getD,c];rfl
  show aL (val (zs.getD i d)) (us.getD i Value.none);rw[this];exact r
theorem pc{g:Type}{zs:List g}{val:g→V}{d:g}{us:List Value}{f:g→g→Bool}{l:Addr}{y:List (Addr×Obj)}{B:St}{k:Hp}{s:Shared}{Q:VK}{κ:SortKind}{E:Value→Shared→Prop}(u:Inv X y B k s)(z:aF (zs.map val) us)(D:SRT.Ord (λi j=>f (zs.getD i d) (zs.getD j d)) zs.length)(pl:s.heap.IsList l us.toArray)(G:zs.length<64)(L:∀(e:Around) (s':Shared),e.units≤X.A.units+2→(∀b o,s.heap.get? b=some o→s'.heap.get? b=some o)→∀Q:SortKind→Shared→Prop,2≤zs.length→Q κ s'→wpAny (model X.prog X.w) e (keyKind' us.toArray) Q (λ_ _=>False) s')(M:∀(e:Around) (s':Shared),e.units≤X.A.units+2→(∀b o,s.heap.get? b=some o→s'.heap.get? b=some o)→∀(i j:Nat) (C:Bool→Shared→Prop),i<zs.length→j<zs.length→C (f (zs.getD i d) (zs.getD j d)) s'→wpAny (model X.prog X.w) e (keyLt' κ (us.getD i Value.none) (us.getD j Value.none)) C (λ_ _=>False) s')(q:∀t:List g,t.Perm zs→t.Pairwise (λa b=>f a b=true)→∀p,k p=none→Q (.ref p) (upd k p (.lst (t.map val)))):wpAny (model X.prog X.w) X.A (call (.builtin "sorted") [.ref l]) (EP X y B Q) E s:=by
 have r:us.length=zs.length:=by rw[←z.length,length_map]
 refine SRT.tq (κ:=κ) (f:=λi j=>f (zs.getD i d) (zs.getD j d)) (by rw[r];exact D) pl (by rw[r];exact G) (λe s' h1 h2 F h3=>L e s' h1 h2 F (by omega)) (λe s' h1 h2 i j C hi n=>M e s' h1 h2 i j C (by omega) (by omega)) ?_;intro p h' h x O _ m;obtain⟨c,m⟩:=m;rw[r]at h x;have J:∀i∈p.toList,i<zs.length:=λi hi=>mem_range.mp (h.perm.mem_iff.mp hi);have v:(p.toList.map λi=>zs.getD i d).Perm zs:=by
  refine(h.perm.map _).trans ?_;have:(List.range zs.length).map (λi=>zs.getD i d)=zs:=by
   apply ext_getElem?;intro i;rw[getElem?_map]
   by_cases hi:i<zs.length
   ·rw[getElem?_range hi,(cX (d:=d) hi).2];rfl
   ·rw[getElem?_eq_none (by rw[length_range];omega),getElem?_eq_none (by omega)];rfl
  rw[this]
 have P:p.size=zs.length:=h.size;have N:(p.toList.map λi=>zs.getD i d).Pairwise (λa b=>f a b=true):=by
  rw[pairwise_iff_getElem];intro i j hi n I;have H:i<p.size:=by rw[length_map,length_toList]at hi;exact hi
  have K:j<p.size:=by rw[length_map,length_toList]at n;exact n
  have:=x i j I (by omega);simp only[]at this;rw[getD_eq_getD_getElem?,getD_eq_getD_getElem?,Array.getElem?_eq_getElem H,Array.getElem?_eq_getElem K]at this;simpa using this
 refine⟨.ref (s.heap.objs.size+1),_,u.laid (t':=s.toks) (o:=.lst ((p.toList.map λi=>zs.getD i d).map val)) O (le_succ _) ⟨?_,_,c,iI z p.toList J,m⟩,rfl,q _ v N _ (u.hok.fresh (le_succ _))⟩;rw[length_map,v.length_eq,sizeLine_eq];omega
theorem nu{ns:List Int}{us:List Value}(r:aF (ns.map V.int) us):IntsAre us ns:=qf r
theorem iJ:cx X (.builtin "sorted") (λxs H Q=>∃l,∃ns:List Int,xs=[.ref l]∧H l=some (.lst (ns.map V.int))∧ns.Nodup∧ns.length<64 ∧
  ∀ms:List Int,ms.Perm ns→ms.Pairwise (λa b=>a<b)→∀p,H p=none→Q (.ref p) (upd H p (.lst (ms.map V.int)))):=by
 intro pins s σ H xs S Q I r h;obtain⟨l,ns,rfl,G,J,A,q⟩:=h;obtain⟨u,rfl,N⟩:=dy r;cases N;obtain⟨_,m,n,g,K⟩:=I.hok l _ G;have D:=nu g;have R:m.length=ns.length:=by rw[←g.length,length_map]
 refine pc (val:=V.int) (d:=(0:Int)) (f:=λa b=>decide (a<b)) (κ:=oneType') I g ⟨λi _=>by simp,λi c k _ _ _ h1 h2=>?_,λi c hi j F=>?_⟩ ⟨_,K,rfl,n,rfl⟩ A (λw s' _ _ P h2 E=>?_) (λw s' _ _ i c C hi j B=>?_) λO h1 h2 p L=>q O h1 (h2.imp λh=>by simpa using h) p L
 ·simp only[decide_eq_true_eq]at *;omega
 ·simp only[decide_eq_true_eq];have:ns.getD i 0≠ns.getD c 0:=by
   rw[getD_eq_getElem?_getD,getD_eq_getElem?_getD,getElem?_eq_getElem hi,getElem?_eq_getElem j];exact λe=>F ((getElem_inj J).mp e)
  omega
 ·rw[ksk_kind (keys:=m.toArray) (kz:=ns) (by simpa using D) (by rw[size_toArray];omega)];exact wpAny_pure E
 ·have o:∀i,i<ns.length→∃t,m.getD i Value.none=.int (ns.getD i 0) t:=λi hi=>by
   obtain⟨v,M,r⟩:=g.get (i:=i) (x:=.int (ns.getD i 0)) (by rw[getElem?_map,(cX (d:=(0:Int)) hi).2];rfl);obtain⟨t,rfl⟩:=r;exact⟨t,by rw[getD_eq_getElem?_getD,M];rfl⟩
  obtain⟨t,y⟩:=o i hi;obtain⟨t',z⟩:=o c j;rw[y,z];exact kat_lt_int B
end
def ph(H:Hp):Nat→V→V→Prop
 |0,x,y=>x=y∧dz x=true
 |n+1,x,y=>(x=y∧dz x=true)∨∃a b xs ys,x=.ref a∧y=.ref b∧H a=some (.tup xs)∧H b=some (.tup ys)∧xs.length=ys.length∧∀(i:Nat) x' y',xs[i]?=some x'→ys[i]?=some y'→ph H n x' y'
theorem pi{x:V}(f:dz x=true):eqV x x=true:=by
 cases x<;>first|rfl|(simp[eqV];done) | (exact absurd (show false=true from f) Bool.false_ne_true)
theorem jZ{H:Hp}{n:Nat}{x y:V}(h:x=y∧dz x=true):ph H n x y:=by
 cases n with
 |zero=>exact h
 |succ n=>exact .inl h
section
variable{X:Cx}{pins:List (Addr×Obj)}{σ:St}{H:Hp}{s:Shared}
theorem ve(k:Inv X pins σ H s):∀(n:Nat){A:Around}{x y:V}{u v:Value},aL x u→aL y v→ph H n x y→A.units+n<cLine→EqAt A s u v true:=by
 intro n
 induction n with
 |zero =>
  intro A x y u v i j h C;obtain⟨e,f⟩:=h;subst e;have:=mG (A:=A) (s:=s) i j f f;rw[pi f]at this;exact this
 |succ n J =>
  intro A x y u v i j h C;rcases h with⟨e,f⟩|⟨a,b,xs,ys,rfl,rfl,z,B,O,I⟩
  ·subst e;have:=mG (A:=A) (s:=s) i j f f;rw[pi f]at this;exact this
  ·cases i;cases j
   by_cases o:a=b
   ·subst o;exact EqAt.same _
   ·obtain⟨_,d,p,M⟩:=k.hok a _ z;obtain⟨_,g,q,N⟩:=k.hok b _ B;have K:=p.length;have L:=q.length;have:=SeqAt.RcAt.tuples (A:=A) (s:=s) (e:=λ_=>true) M N (by omega) (λc h1 h2=>by
     have l:c<xs.length:=by rw[K];simpa using h1
     have m:c<ys.length:=by rw[L];simpa using h2
     obtain⟨u',D,E⟩:=p.get (getElem?_eq_getElem l);obtain⟨v',F,G⟩:=q.get (getElem?_eq_getElem m);have r:d.toArray[c]=u':=by
      have:d[c]?=some d.toArray[c]:=by rw[getElem?_eq_getElem (by simpa using h1)];simp
      rw[D]at this;exact(Option.some.inj this).symm
     have t:g.toArray[c]=v':=by
      have:g[c]?=some g.toArray[c]:=by rw[getElem?_eq_getElem (by simpa using h2)];simp
      rw[F]at this;exact(Option.some.inj this).symm
     rw[r,t];exact J E G (I c _ _ (getElem?_eq_getElem l) (getElem?_eq_getElem m)) (by simp[Around.in1_units];omega))
    have w:((List.range (min d.toArray.size g.toArray.size)).all (λ_=>true)&&d.toArray.size==g.toArray.size)=true:=by
     have:d.toArray.size=g.toArray.size:=by simp only[size_toArray];omega
     simp[this]
    rw[w]at this;exact EqAt.of_refs o this
def ia(H:Hp)(xs ys:List V):Prop:=xs.length=ys.length∧∀(i:Nat) x y,xs[i]?=some x→ys[i]?=some y→ph H 3 x y
theorem ib{q:List (Addr×Obj)}{r:St}{b:Hp}{s:Shared}(g:Inv X q r b s){xs ys:List V}{us a:List Value}(e:aF xs us)(f:aF ys a)(k:ia b xs ys){A:Around}(l:A.units+3<cLine):
  ∀j (h1:j<us.toArray.size) (h2:j<a.toArray.size),EqAt A s us.toArray[j] a.toArray[j] true:=λj h1 h2=>by
 have c:j<xs.length:=by rw[e.length];simpa using h1
 have d:j<ys.length:=by rw[f.length];simpa using h2
 obtain⟨u',m,n⟩:=e.get (getElem?_eq_getElem c);obtain⟨v',o,p⟩:=f.get (getElem?_eq_getElem d);have h:us.toArray[j]=u':=by
  have:us[j]?=some us.toArray[j]:=by rw[getElem?_eq_getElem (by simpa using h1)];simp
  rw[m]at this;exact(Option.some.inj this).symm
 have i:a.toArray[j]=v':=by
  have:a[j]?=some a.toArray[j]:=by rw[getElem?_eq_getElem (by simpa using h2)];simp
  rw[o]at this;exact(Option.some.inj this).symm
 rw[h,i];exact ve g 3 n p (k.2 j _ _ (getElem?_eq_getElem c) (getElem?_eq_getElem d)) l
theorem vf(D:X.A.units+4<cLine):OpR X (compareOp .NotEq) (λx y H Q=>rNe x y H Q∨(∃a b xs ys,x=.ref a∧y=.ref b∧ia H xs ys∧((H a=some (.lst xs)∧H b=some (.lst ys))∨(H a=some (.tup xs)∧H b=some (.tup ys)))∧Q (.bl false) H)):=by
 intro pins s σ H x y v u Q I j k h;rcases h with h|⟨a,b,xs,ys,rfl,rfl,f,h,q⟩
 ·exact dg pins s σ H x y v u Q I j k h
 ·cases j;cases k;rcases h with⟨g,i⟩|⟨g,i⟩
  ·obtain⟨_,l,r,c,w⟩:=I.hok a _ g;obtain⟨_,m,t,d,z⟩:=I.hok b _ i;have n:=f.1;have o:=c.length;have p:=d.length;refine RcNeAt.lists (e:=λ_=>true) ⟨_,w,rfl,r,rfl⟩ ⟨_,z,rfl,t,rfl⟩ (by simp only[size_toArray];omega) (by omega) (ib I c d f (by simp[Around.in1_units];omega)) _ _ _ _ ⟨.bl false,H,I,?_,q⟩;show _=Value.bool false;simp
  ·obtain⟨_,l,c,B⟩:=I.hok a _ g;obtain⟨_,m,d,C⟩:=I.hok b _ i;have n:=f.1;have o:=c.length;have p:=d.length;refine RcNeAt.tuples (e:=λ_=>true) B C (by omega) (ib I c d f (by simp[Around.in1_units];omega)) _ _ _ _ ⟨.bl false,H,I,?_,q⟩;show _=Value.bool false;have:l.toArray.size=m.toArray.size:=by simp only[size_toArray];omega
   simp[this]
theorem yy{A:Around}{s:Shared}{bs:List Bool}:∀y,y∈(bs.map Value.bool).toArray→EqAt A s y (.bool true) (y==.bool true):=λy a=>by
 have c:y∈bs.map Value.bool:=by simpa using a
 obtain⟨b,_,rfl⟩:=mem_map.mp c;have:=EqAt.bool_bool (A:=A) (s:=s) b true;cases b<;>exact this
theorem vg:MtM X "list.count" (λx vs H Q=>∃l,∃bs:List Bool,x=.ref l∧vs=[.bl true]∧H l=some (.lst (bs.map V.bl))∧Q (.int (bs.count true:Nat)) H):=by
 intro pins s σ H x vs v j Q I g f h;obtain⟨l,bs,rfl,rfl,c,q⟩:=h;cases g;obtain⟨u,rfl,d⟩:=dy f;cases (show u=Value.bool true from d);obtain⟨_,i,n,r,a⟩:=I.hok l _ c;have e:=jn r;subst e;refine call_meets PySem.F.slot_list_count ⟨_,a,rfl⟩ PySem.F.entry_list_count (PySem.F.args_list_count_2 _ _) (SeqAt.list_countAt l _ n none #[] (.bool true) (λy=>y==.bool true)) ⟨a,yy,⟨.int (bs.count true:Nat),H,I.tok _,?_,q⟩⟩;have:((bs.map Value.bool).toArray.toList.countP λy=>y==.bool true)=bs.count true:=by
  rw[List.count];simp only[List.countP_map]
  congr 1
  funext b
  cases b<;>rfl
 rw[this];exact⟨_,rfl⟩
theorem vh:MtM X "list.index" (λx vs H Q=>∃l j,∃bs:List Bool,x=.ref l∧vs=[.bl true]∧H l=some (.lst (bs.map V.bl))∧bs.length≤1000∧bs[j]?=some true∧(∀m,m<j→bs[m]?=some false)∧Q (.int (j:Nat)) H):=by
 intro pins s σ H x vs v z Q I o k h;obtain⟨l,j,bs,rfl,rfl,d,t,a,f,q⟩:=h;cases o;obtain⟨u,rfl,i⟩:=dy k;cases (show u=Value.bool true from i);obtain⟨_,w,n,r,b⟩:=I.hok l _ d;have e:=jn r;subst e;have c:j<bs.length:=(List.getElem?_eq_some_iff.mp a).1;refine call_meets PySem.F.slot_list_index ⟨_,b,rfl⟩ PySem.F.entry_list_index (PySem.F.args_list_index_2 _ _) (SeqAt.list_indexAt l _ n none #[] (.bool true) (λy=>y==.bool true) j (by simpa using c) (by omega) ?_ ?_) ⟨b,yy,⟨.int (j:Nat),H,I.tok _,⟨_,rfl⟩,q⟩⟩
 ·have:=(List.getElem?_eq_some_iff.mp a).2;simp[this]
 ·intro m p g;have:=(List.getElem?_eq_some_iff.mp (f m g)).2;simp[this]
theorem bH:cx X (.builtin "isinstance") (λxs H Q=>∃ea C c b,xs=[.ref ea,c]∧H ea=some (.ext (XI.oY ea C))∧XI.tF X.K C=true∧((∃n,c=.ty n∧kitOne X.K (.ref C) (.type n)=some b)∨(∃a,c=.ref a∧kitOne X.K (.ref C) (.ref a)=some b))∧Q (.bl b) H):=by
 intro pins s σ H xs m Q I r h;obtain⟨ea,C,c,b,rfl,j,f,k,q⟩:=h;obtain⟨u,i,rfl,l,g⟩:=rE r;cases l;obtain⟨d,_,_⟩:=I.hok ea _ j;rcases k with⟨n,rfl,e⟩|⟨a,rfl,e⟩
 ·cases (show i=Value.type n from g);exact kia_one (XI.oZ f) I.kIn d e (λz=>nomatch z) λtk=>⟨.bl b,H,I.tok tk,rfl,q⟩
 ·cases (show i=Value.ref a from g);exact kia_one (XI.oZ f) I.kIn d e (λz=>nomatch z) λtk=>⟨.bl b,H,I.tok tk,rfl,q⟩
end
section
variable{prog:Program}{w:World}{A:Around}{E:Value→Shared→Prop}{s:Shared}
end
section
variable{P:Program}{w:World}
end
section
variable{X:Cx}{o e:Expr}{td ty:TE}{apos cpos:Pos}
end
def Ext(p:Addr)(H H':Hp):Prop:=∀b o,b≠p→H b=some o→H' b=some o
theorem Ext.of{p:Addr}{H H':Hp}(s:Same H H'):Ext p H H':=λb o _ e=>s b o e
theorem Ext.upd{p:Addr}{a:Hp}{o:HO}:Ext p a (upd a p o):=λb u c e=>by rw[ai c];exact e
theorem Ext.trans{p:Addr}{d f H2:Hp}(a:Ext p d f)(b:Ext p f H2):Ext p d H2:=λc o g e=>b c o g (a c o g e)
def Ba(b:TE):Prop:=∀σ H (Q a:VK),(∀y H,Q y H→a y H)→b σ H Q→b σ H a
theorem qx{js:List Nat}{J:It}{g:TE}{v:St}{a:Hp}{Q:VK}{p:Addr}{fr:List (Option V)}(n:Nat)(I:n≤1000)(s:a p=none)(D:dl 1 js v=none::fr)(R:Nat→V→Hp→Prop)(l:∀i y H H',R i y H→Ext p H H'→R i y H')(go:∀i H',i<n→Same a H'→J.go i H')(O:∀H',Same a H'→J.stop n H')(t:Ba g)(step:∀i H' x H2,i<n→Same a H'→(∃ys,H' p=some (.lst ys))→J.yld i H' x H2→H2=H'∧g (some x::fr) H' λy d=>Same H' d∧R i y d)(B:∀ys H',Same a H'→H' p=some (.lst ys)→ys.length=n→(∀(j:Nat) y,ys[j]?=some y→R j y H')→Q (.ref p) H'):LcW 1 js (bu 0) g v Q J a p:=by
 refine oV (k:=1) (js:=js) (J:=J) (p:=p) n I (λi ys c H'=>(∃o,c=o::fr)∧Same a H'∧H' p=some (.lst ys)∧ys.length=i∧∀(j:Nat) y,ys[j]?=some y→R j y H') ⟨⟨none,D⟩,ag s,ac,rfl,λj y h=>by simp at h⟩
  (λi ys c H' h=>by have:=h.2.2.2.1;omega) (λi ys c H' hi h=>go i H' hi h.2.1) (λys c H' h=>⟨O H' h.2.1,B ys H' h.2.1 h.2.2.1 h.2.2.2.1 h.2.2.2.2⟩) (λi ys c H' hi h x H2 M=>?_) ?_ t
 ·obtain⟨⟨o,rfl⟩,u,r,G,K⟩:=h;obtain⟨rfl,L⟩:=step i H' x H2 hi u ⟨ys,r⟩ M;refine t _ _ _ _ (λy d C=>?_) L;obtain⟨f,N⟩:=C;refine⟨f _ _ r,⟨some x,rfl⟩,aK s (u.trans f),ac,by rw[length_append,G];rfl,λj z b=>?_⟩;have ex:Ext p H2 (upd d p (.lst (ys++[y]))):=(Ext.of f).trans Ext.upd
  by_cases E:j<ys.length
  ·rw[getElem?_append_left E]at b;exact l _ _ _ _ (K j z b) ex
  ·rw[getElem?_append_right (by omega)]at b;have F:j-ys.length=0:=by
    cases e:j-ys.length with
    |zero=>rfl
    |succ m=>rw[e]at b;simp at b
   rw[F]at b;have A:y=z:=by simpa using b
   subst A;have w:j=i:=by omega
   subst w;exact l _ _ _ _ N Ext.upd
 ·intro _ _ _ _ _ m q;exact m _ _ q
theorem dA{a:Hp}{p q:Addr}(b:∃ys,a p=some (.lst ys))(c:a q=none):q≠p:=λe=>by
 obtain⟨ys,h⟩:=b;rw[←e,c]at h;cases h
section
variable{X:Cx}{N:List Str}{scope:Scope}{cl:List (Str×Addr)}{k:Nat}{js:List Nat}
theorem pj{J F iter:Expr}{pos b8 E:Pos}{y:Str}{ii:Nat}{c4:TI}{g:TG}{c2:TE}(e1:X.N.Nodup)(e7:X.N[ii]?=some y)(f9:Loc X.env.scope y)(b3:X.calm=true)(B:LcOk X scope cl)(d9:N.length=k+js.length)(e8:∀(i j:Nat) x,js[i]?=some j→N[k+i]?=some x→X.N[j]?=some x∧Vis X.env.scope x∧X.env.scope.names.lookup x≠some .local∧((relabel scope X.env).names.lookup x=some .cell∨(relabel scope X.env).names.lookup x=some .free))(e6:PI X F iter c4)(e5:∀s H fp,PG (dc X N scope cl s H fp) F g)(e3:∀s H fp,PE (dc X N scope cl s H fp) J c2)(f5:∀x,foldedSetIterable iter X.env x=pure x:=by intro _;rfl)(f7:swapsWith (.ListComp J [⟨F,iter,[],0⟩] scope pos) (some (.Name y E)) b8.line X.env=pure true:=by rfl)(e4:X.fn y=true∨X.env.scope.names.lookup y=some .local:=by first|exact .inl rfl|exact .inr rfl|assumption):PS X (.Assign [.Name y E] (.ListComp J [⟨F,iter,[],0⟩] scope pos) b8) (yQ (tLc k js c4 g c2) (bu ii)):=by
 intro pins s σ H a3 I h;rw[exec_Assign_Name_used _ _ _ _ f7];refine wpAny_bind (wpAny_standAt (wpAny_bind ?_));show wpAny _ X.A (do let _ ← comprehension (.ListComp J [⟨F,iter,[],0⟩] scope pos) scope X.env _ (newList []) false (eval iter X.env) (some (assign (.Name y E) X.env))) _ _ s
 refine wpAny_bind (wpAny_mono (wpAny_comprehension_free (use:=some (assign (.Name y E) X.env)) (Q:=λ_ s'=>∃C H',Inv X pins C H' s'∧a3.nx C H') rfl f5 B.clos B.kind B.names ?_) (λ_ s' f4=>wpAny_pure (wpAny_pure f4)) λ_ _ e=>e);refine thn (e6 pins s σ H _ I h) λv i3 h1=>thn h1 λi2 f h2=>?_;obtain⟨g1,fp,c3,i1,H2,e,a7,T,c0,R,e0⟩:=h2;subst e;have b4:∀b∈fp,b<f.heap.objs.size:=λb l=>by
  obtain⟨o,e,_⟩:=T.obj _ _ c0 b l;exact lt_size e
 refine wpAny_newObj_type (wpAny_newFunctionEnv B.nocell (by intro y g0;simp at g0) (λh₁ U Y=>?_) B.kind);dsimp only at U Y⊢;obtain⟨W,⟨g4,h7⟩,h6⟩:=e0 f.heap.objs.size (a7.hok.fresh (le_refl _));have G:Inv X pins σ (upd H2 f.heap.objs.size (.lst [])) {f with heap:=f.heap.push {cls:=.type "list",dict:=none,data:=.seq ([]:List Value).toArray}}:=a7.lnew (t':=f.toks) .nil (zero_le _)
 generalize b2:f.heap.push {cls:=.type "list",dict:=none,data:=.seq ([]:List Value).toArray}=q at U Y G⊢;have f8:q.objs.size=f.heap.objs.size+1:=by rw[←b2,size_push]
 have g2:∀b o,f.heap.get? b=some o→q.get? b=some o:=λb o e=>by rw[←b2];exact get?_push_of_some _ e
 have K:∀b∈fp,gC X pins (upd H2 f.heap.objs.size (.lst [])) b:=λb l=>⟨by rw[ai (ne_of_lt (b4 b l))];exact(R b l).1,(R b l).2⟩;have S:∀b∈fp,b<q.objs.size:=λb l=>by rw[f8];exact lt_succ_of_lt (b4 b l)
 have b5:∀b o,q.get? b=some o→h₁.get? b=some o:=λb o e=>Y.extBut b o (ne_of_lt (lt_size e)) (get?_push_of_some _ e);have c8:=jJ (N:=N) (k:=k) (js:=js) (tk:=f.toks+([]:List (Str×Value)).length) G B K S ⟨_,U⟩ b5 d9 e8;have b9:c3 0 h₁:=T.keep _ _ _ c0 λb l o e=>b5 b o (g2 b o e);have a1:∀{H':Hp},(∀b∈fp,H' b=none)→∀b∈fp,gC (dc X N scope cl {f with heap:=q} (upd H2 f.heap.objs.size (.lst [])) fp) [] H' b:=λf2 b l =>
  ⟨f2 b l,ne_of_lt (S b l),(rM (N:=N) G B K S).exfs b l,.inl l,λx c h=>(K b l).2.2.2.2.1 x c (B.cells x c h),λp f3=>absurd (show p∈([]:List (Addr×Obj))from f3) (by simp)⟩
 have b6:codeAny (model X.prog X.w) X.A (.compLoop (.ListComp J [⟨F,iter,[],0⟩] scope pos) 0 (.ref g1) (.ref f.heap.objs.size) (compEnvC scope cl q.objs.size X.env))
   (compPost (model X.prog X.w) X.A X.xe (some (assign (.Name y E) X.env)) (λ_ s'=>∃C H',Inv X pins C H' s'∧a3.nx C H') (.ref f.heap.objs.size) q.objs.size) {f with heap:=h₁,toks:=f.toks+([]:List (Str×Value)).length}:=by
  refine rO (λn s'=>∃i ys C H',Inv (dc X N scope cl {f with heap:=q} (upd H2 f.heap.objs.size (.lst [])) fp) [] C H' s'∧c3 i s'.heap∧(∀b∈fp,H' b=none)∧W i n ys C H') ?_ g4 ⟨0,[],_,_,c8,b9,λb l=>(K b l).1,h7⟩
  rintro n b7 ⟨i,ys,M,D,a8,c1,b1,h8⟩;rcases h6 i n ys M D h8 with⟨h5,g7⟩|⟨go,e9,step⟩
  ·refine thn (T.done (dc X N scope cl {f with heap:=q} (upd H2 f.heap.objs.size (.lst [])) fp) rfl rfl rfl b3 i [] b7 M D (λ_ _=>False) a8 (a1 b1) c1 h5) λr s4 t=>?_
   obtain⟨V,O⟩:=t;subst V;obtain⟨m,f0,_⟩:=O.loc;have c6:Inv X pins σ D s4:=qk G K O (SameBut.refl _ _);obtain⟨d4,a9,R,d5,b0,d6⟩:=G.fpOk (b:=q.objs.size) (le_refl _) (H':=D) O.free;show wpAny _ _ (assign (.Name y E) X.env (.ref f.heap.objs.size)) _ _ _;refine wpAny_assign_Name (lw c6 e1 e7 f9 (v:=.ref f.heap.objs.size) rfl (λZ c7 ⟨a,h4,e2⟩=>⟨m,f0.sameBut h4 ?_,λh' f6=>⟨_,D,c7.turned (t':=Z.toks) (λb o l e=>(f6.2 b l).trans e) d4 a9 d5 b0 d6,g7⟩⟩) e4);rcases e2 with e|e
   ·rw[e];exact a9
   ·exact λz=>b0 _ _ e z.symm
  ·refine thn (T.item (dc X N scope cl {f with heap:=q} (upd H2 f.heap.objs.size (.lst [])) fp) rfl rfl rfl b3 i [] b7 M D (λ_ _=>False) a8 (a1 b1) c1 go) λr s4 t=>?_
   obtain⟨u,V,d8⟩:=t;subst V;refine thn d8 λ_ Z t=>?_;obtain⟨x,a4,c9,g8,i0,a0,d7⟩:=t;have d0:=c9.pinned (a1 d7) (T.obj _ _ a0);refine thn (e5 _ _ _ _ Z M a4 x u _ d0 g8 (step x a4 i0)) λ_ h0 t=>?_;obtain⟨a2,c5,d1,g5⟩:=t;refine thn (e3 _ _ _ _ h0 a2 c5 _ d1 g5) λy h3 t=>?_;obtain⟨L,a5,d2,g9,g6,g3,f1,h9⟩:=t;refine thn (bn _ h3 a2 a5 (.ref f.heap.objs.size) [L] _ _ (λ_ a6=>a6=upd a5 f.heap.objs.size (.lst (ys++[L]))) d2 rfl (.cons g9 .nil) ⟨_,ys,L,rfl,rfl,g6,e9,rfl⟩) λ_ i4 t=>?_;obtain⟨_,a6,P,_,d3⟩:=t;subst d3;refine⟨g3,f1,i+1,ys++[L],a2,_,P.unpinned,T.keep _ _ _ a0 λb l o e=>(P.pin (b,o) (mem_append_right _ (mem_append_right _ (bx l e)))).1,λb l=>?_,h9⟩;obtain⟨o,e,d⟩:=T.obj _ _ a0 b l;exact(P.pin (b,o) (mem_append_right _ (mem_append_right _ (bx l e)))).2.1
 exact codeAny_compStart_list b6 (T.self _ 0 _ _ _ b9 b6)
end
abbrev TJ:=St→Hp→(Hp→Prop)→Prop
section
variable{X:Cx}{tg:Expr}
def PJ(X:Cx)(c:List Expr)(b:Nat)(t:TJ):Prop :=
 ∀(a:Str)(pins:List (Addr×Obj))(s:Shared)(σ:St)(H:Hp)(Q:VK),Inv X pins σ H s→a.length+b≤1000→(t σ H λH1=>∀y,Q (.str y) H1)→wpAny (model X.prog X.w) X.A (joinParts a (evalEach c X.env)) (EP X pins σ Q) X.xe s
theorem ka:PJ X [] 0 (λσ H k=>k H):=by
 intro b pins s σ H Q I a h;exact joinParts_nilE (joinParts_nil ⟨.str _,H,I.tok _,⟨_,rfl⟩,h _⟩ (le_of_lt (aB (by omega))))
theorem dB{x:Str}{c b:Nat}{j:Nat}{p:Pos}{d:List Expr}{t:TJ}(i:x.length≤c)(e:PJ X d b t):PJ X (.Constant (.str x) j p::d) (c+b) t:=by
 intro a pins s σ H Q I g f;refine joinParts_cons (Constant_str ?_);have h:(a++x).length=a.length+x.length:=strLen_append ..;exact⟨le_of_lt (aB (by omega)),e _ pins _ σ H Q (I.tok _) (by omega) f⟩
theorem iK{e:Expr}{d:TE}{b:Nat}{p:Pos}{c:List Expr}{t:TJ}(j:PE X e d)(g:PJ X c b t):PJ X (.FormattedValue e (-1) none p::c) (100+b) (λσ H k=>d σ H λv H1=>∃i:Int,v=.int i∧0≤i∧i≤60∧t σ H1 k):=by
 intro a pins s σ H Q I r m;refine joinParts_cons (FormattedValue_plain (thn (j pins _ σ H _ I m) λv w l=>?_));obtain⟨y,H1,f,o,n⟩:=l;obtain⟨i,rfl,h,h1,q⟩:=n;obtain⟨tk,rfl⟩:=o;have h2:=jW i h h1;have u:(a++ofString (toString i)).length=a.length+(ofString (toString i)).length:=strLen_append ..;refine formatField_int_small (lt_of_le_of_lt (Nat.log2_le_self _) (by omega)) ⟨le_of_lt (aB (by omega)),?_⟩;exact g _ pins _ σ H1 Q (f.tok _) (by omega) q
theorem zx{e:Expr}{d:TE}{b:Nat}{p:Pos}{c:List Expr}{t:TJ}(h:PE X e d)(g:PJ X c b t):PJ X (.FormattedValue e (-1) none p::c) (100+b) (λσ H k=>d σ H λv H1=>∃x:Str,v=.str x∧x.length≤100∧t σ H1 k):=by
 intro a pins s σ H Q I n j;refine joinParts_cons (FormattedValue_plain (thn (h pins _ σ H _ I j) λv r i=>?_));obtain⟨y,H1,f,m,l⟩:=i;obtain⟨x,rfl,h2,q⟩:=l;obtain⟨tk,rfl⟩:=m;have o:(a++x).length=a.length+x.length:=strLen_append ..;refine formatField_str (λt' tk=>⟨le_of_lt (aB (by omega)),?_⟩) (le_of_lt (aB (by omega)));exact g _ pins _ σ H1 Q (f.tok _) (by omega) q
def Bb(t:TJ):TE:=λσ H Q=>t σ H λH1=>∀y,Q (.str y) H1
theorem ic{a c:Expr}{d:List Expr}{pos:Pos}{b:Nat}{t:TJ}(e:PJ X (a::c::d) b t)(g:b≤1000):PE X (.JoinedStr (a::c::d) pos) (Bb t):=by
 intro pins s σ H Q I f;exact JoinedStr_many (e empty pins s σ H Q I (by show 0+b≤1000;omega) f)
theorem zy{E:XK}(L:Lv X E):PassesOwn (model X.prog X.w) X.A X.env X.xe:=by
 rw[L.xe];exact PassesOwn.leaving
def iDK(a:TE):TI:=λσ H R=>a σ H λv H1=>∃d kvs,v=.ref d∧H1 d=some (.dK kvs)∧∀o,R (Itk d o (.dK kvs) (kvs.map λp=>kV p.1)) (upd H1 d (.frz o (.dK kvs)))
theorem yz{l:Expr}{B:TE}(F:PE X l B):PI X tg l (iDK B):=by
 intro pins s σ H R I h;refine thn (F pins s σ H _ I h) λv s1 J=>?_;obtain⟨x,H1,u,n,N⟩:=J;obtain⟨d,kvs,e,y,q⟩:=N;subst e;cases n;obtain⟨K,z,vs,A,o,es,C,a,m,k,E,c,G⟩:=u.hok d _ y;have f:Inv X pins σ (upd H1 d (.frz o (.dK kvs))) s1:=u.write (t':=s1.toks) (x:=d) (e:=d) (by rw[y];trivial) (.inl rfl) (λ_ _ _ q=>q) ⟨o,a⟩ ⟨a,K,z,vs,A,o,es,C,a,m,k,E,c,G⟩;refine vb z ⟨o,a,m,k⟩ ?_;refine⟨s1.heap.objs.size,[s1.heap.objs.size],_,_,upd H1 d (.frz o (.dK kvs)),rfl,f.kept (t':=s1.toks) λb o e=>get?_push_of_some _ e,tJ m k ?_,⟨_,get?_push_size _ rfl,rfl,rfl⟩,λb D=>?_,q o⟩
 ·have M:∀(es:List DictEntry)(vs:List (Key×Value))(kvs:List (Key×V)),Pairs (aJ X.prog X.w) es vs→KV kvs vs→aF (kvs.map λp=>kV p.1) (es.map (·.key)):=by
   intro es vs kvs c
   induction c generalizing kvs with
   |nil=>intro r;cases r;exact .nil
   |cons h1 h2 _ L =>
    intro r;cases r with
    |cons n O =>
     refine .cons ?_ (L _ O);dsimp only;rw[n.1];rcases aX h1 with⟨i,t,g,j⟩|⟨x,t,g,j⟩
     ·rw[g,j];exact⟨t,rfl⟩
     ·rw[g,j];exact⟨t,rfl⟩
  exact M _ _ _ c A
 ·have e:b=s1.heap.objs.size:=by simpa using D
  subst e;exact f.fpOk (le_refl _) (f.hok.fresh (le_refl _))
theorem qy(t:X.A.units+1<cLine):OpR X (compareOp .In) (λx y H Q=>∃a p ks,∃d:List (Addr×List Key),x=.ref a∧H a=some (.tup (ks.map kV))∧y=.ref p∧SqL X.K H p ((d.map (·.1)).map V.ref) ∧
  (∀z∈d,H z.1=some (.tup (z.2.map kV)))∧Q (.bl (d.any λz=>decide (z.2=ks))) H):=by
 intro pins s σ H x y v u Q I F G h;obtain⟨a,p,ks,d,rfl,n,rfl,r,j,q⟩:=h;cases F;cases G;obtain⟨N,E,D,M⟩:=I.list r;have e:=dq E;subst e
 let e:Value→Bool:=λv=>match v with | .ref b=>((d.find? λz=>z.1==b).map λz=>decide (z.2=ks)).getD false | _=>false
 have i:∀z∈d,e (.ref z.1)=decide (z.2=ks):=λz c=>by
  show((d.find? λy=>y.1==z.1).map λz=>decide (z.2=ks)).getD false=_;cases g:d.find? λy=>y.1==z.1 with
  |none=>have:=find?_eq_none.mp g z c;simp at this
  |some y =>
   have h1:=find?_some g;have h2:=List.mem_of_find?_eq_some g;have f:y.1=z.1:=by simpa using h1
   have k:=j y h2;rw[f,j z c]at k;have l:z.2.map kV=y.2.map kV:=by injection (Option.some.inj k)
   rw[mX l];rfl
 refine in_listAt e D.isList (λy B=>?_) ⟨.bl _,H,I,rfl,?_⟩
 ·have C:y∈(d.map (·.1)).map Value.ref:=by simpa using B
  obtain⟨b,o,rfl⟩:=mem_map.mp C;obtain⟨z,c,rfl⟩:=mem_map.mp o;rw[i z c];intro prog w J L m;exact wpAny_eqBool_tuple (knd:=aJ prog w) (by simp;exact t) (uQ I (j z c) prog w) (uQ I n prog w) m
 ·have f:(((d.map (·.1)).map Value.ref).toArray.any e)=d.any λz=>decide (z.2=ks):=by
   rw[List.any_toArray,any_map,any_map];apply Bool.eq_iff_iff.mpr;rw[any_eq_true,any_eq_true];constructor
   ·rintro⟨z,c,h1⟩;exact⟨z,c,by rw[←i z c];exact h1⟩
   ·rintro⟨z,c,h1⟩;exact⟨z,c,by show e (.ref z.1)=true;rw[i z c];exact h1⟩
  rw[f];exact q
theorem zA(D:X.A.units+4<cLine):OpR X (compareOp .Eq) (λx y H Q=>rEq x y H Q∨(∃a b xs ys,x=.ref a∧y=.ref b∧ia H xs ys∧((H a=some (.lst xs)∧H b=some (.lst ys))∨(H a=some (.tup xs)∧H b=some (.tup ys)))∧Q (.bl true) H)):=by
 intro pins s σ H x y v u Q I j k h;rcases h with h|⟨a,b,xs,ys,rfl,rfl,f,h,q⟩
 ·exact cB pins s σ H x y v u Q I j k h
 ·cases j;cases k;rcases h with⟨g,i⟩|⟨g,i⟩
  ·obtain⟨_,l,r,c,w⟩:=I.hok a _ g;obtain⟨_,m,t,d,z⟩:=I.hok b _ i;have n:=f.1;have o:=c.length;have p:=d.length;refine eq_listAt (e:=λ_=>true) ⟨_,w,rfl,r,rfl⟩ ⟨_,z,rfl,t,rfl⟩ (by simp only[size_toArray];omega) (by omega) (ib I c d f (by simp[Around.in1_units];omega)) ⟨.bl true,H,I,?_,q⟩;show _=Value.bool true;simp
  ·obtain⟨_,l,c,B⟩:=I.hok a _ g;obtain⟨_,m,d,C⟩:=I.hok b _ i;have n:=f.1;have o:=c.length;have p:=d.length;refine SeqAt.eq_tupleAt (e:=λ_=>true) B C (by omega) (ib I c d f (by simp[Around.in1_units];omega)) ⟨.bl true,H,I,?_,q⟩;show _=Value.bool true;have:l.toArray.size=m.toArray.size:=by simp only[size_toArray];omega
   simp[this]
end
theorem Same.seqT{K:PySem.W.Frag}{H H':Hp}{a:Addr}{xs:List V}(e:Same H H')(h:SqT K H a xs):SqT K H' a xs:=by
 rcases h with (h|⟨o,h⟩)|h
 ·exact .inl (.inl (e _ _ h))
 ·exact .inl (.inr ⟨o,e _ _ h⟩)
 ·exact .inr h
structure Src(J:It)(H1:Hp)(xs:List V):Prop where
 go:∀i H',i<xs.length→Same H1 H'→J.go i H'
 stop:∀H',Same H1 H'→J.stop xs.length H'
 yl:∀i H' x H2,i<xs.length→Same H1 H'→J.yld i H' x H2→H2=H'∧xs[i]?=some x
theorem eR{K:PySem.W.Frag}{a:Addr}{xs:List V}{c:Hp}(b:SqT K c a xs):Src (Itt K a) c xs :=
 ⟨λi H' hi s=>⟨xs,xs[i],s.seqT b,getElem?_eq_getElem hi⟩,λH' s=>⟨xs,s.seqT b,le_refl _⟩,λi H' x H2 _ s ⟨e,y⟩=>⟨e,y xs (by subst e;exact s.seqT b)⟩⟩
theorem ie{K:PySem.W.Frag}{a:Addr}{xs:List V}{c:Hp}(b:SqL K c a xs):Src (Itl K a) c xs :=
 ⟨λi H' hi s=>⟨xs,xs[i],s.seq b,getElem?_eq_getElem hi⟩,λH' s=>⟨xs,s.seq b,le_refl _⟩,λi H' x H2 _ s ⟨e,y⟩=>⟨e,y xs (by subst e;exact s.seq b)⟩⟩
theorem pk{d:Addr}{o:Obj}{u:HO}{ks:List V}{a:Hp}(b:a d=some (.frz o u)):Src (Itk d o u ks) a ks :=
 ⟨λi H' hi s=>⟨s _ _ b,hi⟩,λH' s=>⟨s _ _ b,le_refl _⟩,λi H' x H2 _ s ⟨e,y⟩=>⟨e,y⟩⟩
theorem Paired.snoc{c d:Type}{R:c→d→Prop}:∀{e:List c}{bs:List d}{a:c}{b:d},Paired R e bs→R a b→Paired R (e++[a]) (bs++[b])
 |_,_,_,_,.nil,h=>.cons h .nil
 |_,_,_,_,.cons r t,h=>.cons r (Paired.snoc t h)
theorem iL{l:Type}{js:List Nat}{J:It}{I:TT}{K:TE}{L:St}{j:Hp}{Q:VK}{p:Addr}{fr:List (Option V)}(zs:List l)(val:l→V)(U:zs.length≤1000)(F:j p=none)(S:Src J j (zs.map val))(P:dl 1 js L=none::fr)(g:l→Bool)(R:l→V→Hp→Prop)(D:∀z y H H',R z y H→Ext p H H'→R z y H')(cond:∀z H' (k:Bool→Hp→Prop),z∈zs→Same j H'→(∃ys,H' p=some (.lst ys))→(∀c,Same H' c→k (g z) c)→I (some (val z)::fr) H' k)(N:∀z H' (k:VK),z∈zs→g z=true→Same j H'→(∃ys,H' p=some (.lst ys))→(∀y c,Same H' c→R z y c→k y c)→K (some (val z)::fr) H' k)(O:∀ys H',Same j H'→H' p=some (.lst ys)→Paired (λz y=>R z y H') (zs.filter g) ys→Q (.ref p) H'):AX 1 js (bu 0) I K L Q J j p:=by
 have C:∀{n:List l}{ys:List V}{H H':Hp},Ext p H H'→Paired (λz y=>R z y H) n ys→Paired (λz y=>R z y H') n ys:=λex r=>Paired.mapP r λa b h=>D a b _ _ h ex;have T:∀{n:List l}{ys:List V}{H:Hp},Paired (λz y=>R z y H) n ys→ys.length=n.length:=λr=>(Paired.length r).symm;refine⟨λi m ys M H'=>m=zs.length-i∧i≤zs.length∧(∃o,M=o::fr)∧Same j H'∧H' p=some (.lst ys)∧Paired (λz y=>R z y H') ((zs.take i).filter g) ys,⟨zs.length,by simp,zero_le _,⟨none,P⟩,ag F,ac,.nil⟩,?_⟩;rintro i m ys M H' ⟨rfl,hi,⟨o,rfl⟩,d,q,s⟩
 by_cases u:i<zs.length
 ·have E:i<(zs.map val).length:=by rw[length_map];exact u
  refine .inr ⟨S.go i H' E d,?_,λx H2 W=>?_⟩
  ·have h1:ys.length≤zs.length:=by
    rw[T s];exact le_trans (length_filter_le _ _) (by rw[length_take];omega)
   exact lt_of_le_of_lt h1 (aB U)
  ·obtain⟨rfl,G⟩:=S.yl i H' x H2 E d W;have t:zs[i]?=some zs[i]:=getElem?_eq_getElem u;have A:=mem_of_getElem? t;rw[getElem?_map,t]at G;have ex:val zs[i]=x:=Option.some.inj G;have v:zs.take (i+1)=zs.take i++[zs[i]]:=cQ t;subst ex;generalize zs[i]=z at t A v⊢;refine cond z H2 _ A d ⟨ys,q⟩ λc f=>?_;cases w:g z with
   |true =>
    rw[if_pos rfl];refine N z c _ A w (d.trans f) ⟨ys,f _ _ q⟩ λy Y B X=>⟨B _ _ (f _ _ q),zs.length-(i+1),by omega,rfl,u,⟨_,rfl⟩,aK F ((d.trans f).trans B),ac,?_⟩;rw[v,List.filter_append,filter_cons_of_pos w];exact Paired.snoc (C ((Ext.of (f.trans B)).trans Ext.upd) s) (D _ _ _ _ X Ext.upd)
   |false =>
    rw[if_neg (by simp)];refine⟨zs.length-(i+1),by omega,rfl,u,⟨_,rfl⟩,d.trans f,f _ _ q,?_⟩;rw[v,List.filter_append,filter_cons_of_neg (by simp[w]),List.filter_nil,append_nil];exact C (Ext.of f) s
 ·have e:i=zs.length:=by omega
  subst e;have st:=S.stop H' d;rw[length_map]at st;refine .inl ⟨st,O ys H' d q ?_⟩;rw[take_length]at s;exact s
theorem dJ{g:Type}{js:List Nat}{J:It}{D:TE}{E:St}{c:Hp}{Q:VK}{p:Addr}{fr:List (Option V)}(zs:List g)(val:g→V)(N:zs.length≤1000)(A:c p=none)(S:Src J c (zs.map val))(L:dl 1 js E=none::fr)(R:g→V→Hp→Prop)(v:∀z y H H',R z y H→Ext p H H'→R z y H')(G:∀z H' (k:VK),z∈zs→Same c H'→(∃ys,H' p=some (.lst ys))→(∀y n,Same H' n→R z y n→k y n)→D (some (val z)::fr) H' k)(I:∀ys H',Same c H'→H' p=some (.lst ys)→Paired (λz y=>R z y H') zs ys→Q (.ref p) H'):LcW 1 js (bu 0) D E Q J c p:=by
 have K:∀{f:List g}{ys:List V}{H H':Hp},Ext p H H'→Paired (λz y=>R z y H) f ys→Paired (λz y=>R z y H') f ys:=λex r=>Paired.mapP r λa b h=>v a b _ _ h ex;have M:∀{f:List g}{ys:List V}{H:Hp},Paired (λz y=>R z y H) f ys→ys.length=f.length:=λr=>(Paired.length r).symm;refine⟨λi m ys F H'=>m=zs.length-i∧i≤zs.length∧(∃o,F=o::fr)∧Same c H'∧H' p=some (.lst ys)∧Paired (λz y=>R z y H') (zs.take i) ys,⟨zs.length,by simp,zero_le _,⟨none,L⟩,ag A,ac,.nil⟩,?_⟩;rintro i m ys F H' ⟨rfl,hi,⟨o,rfl⟩,d,q,l⟩
 by_cases s:i<zs.length
 ·have w:i<(zs.map val).length:=by rw[length_map];exact s
  refine .inr ⟨S.go i H' w d,?_,λx H2 O=>?_⟩
  ·have h1:ys.length≤zs.length:=by
    rw[M l,length_take];omega
   exact lt_of_le_of_lt h1 (aB N)
  ·obtain⟨rfl,B⟩:=S.yl i H' x H2 w d O;have j:zs[i]?=some zs[i]:=getElem?_eq_getElem s;have C:=mem_of_getElem? j;rw[getElem?_map,j]at B;have ex:val zs[i]=x:=Option.some.inj B;have u:zs.take (i+1)=zs.take i++[zs[i]]:=cQ j;subst ex;generalize zs[i]=z at j C u⊢;refine G z H2 _ C d ⟨ys,q⟩ λy T t P=>⟨t _ _ q,zs.length-(i+1),by omega,rfl,s,⟨_,rfl⟩,aK A (d.trans t),ac,?_⟩;rw[u];exact Paired.snoc (K ((Ext.of t).trans Ext.upd) l) (v _ _ _ _ P Ext.upd)
 ·have e:i=zs.length:=by omega
  subst e;have st:=S.stop H' d;rw[length_map]at st;refine .inl ⟨st,I ys H' d q ?_⟩;rw[take_length]at l;exact l
theorem dt{c g:Type}{R:c→V→Prop}{val:g→V}{S:c→g→Prop}{zs:List c}{ys:List V}(k:Paired R zs ys)(f:∀z y,z∈zs→R z y→∃b,y=val b∧S z b):
  ∃bs:List (c×g),bs.map (·.1)=zs∧ys=bs.map (λx=>val x.2)∧∀x∈bs,S x.1 x.2:=by
 induction k with
 |nil=>exact⟨[],rfl,rfl,by simp⟩
 |@cons a y as bs r _ ih =>
  obtain⟨cs,h,i,j⟩:=ih λz y l=>f z y (by simp[l]);obtain⟨b,e,s⟩:=f _ _ (by simp) r;refine⟨(a,b)::cs,by rw[map_cons,h],by rw[map_cons,←i,e],λx d=>?_⟩;rcases mem_cons.mp d with rfl|d
  ·exact s
  ·exact j x d
theorem cq{a:Type}{R:a→V→Prop}{f:a→V}{zs:List a}{ys:List V}(c:Paired R zs ys)(b:∀z y,z∈zs→R z y→y=f z):ys=zs.map f:=by
 induction c with
 |nil=>rfl
 |cons r _ e=>rw[map_cons,←e λz y d=>b z y (by simp[d]),b _ _ (by simp) r]
theorem xt(p:Int)(a:List Int):inV (.int p) (a.map V.int)=decide (p∈a):=by
 unfold inV;rw[any_map,Bool.eq_iff_iff,any_eq_true,decide_eq_true_eq];constructor
 ·rintro⟨x,b,e⟩;have:x=p:=by simpa [eqV]using e
  rw[←this];exact b
 ·intro h;exact⟨p,h,by simp[eqV]⟩
theorem tK(a:List Int):(a.map V.int).all dz=true:=by
 rw[all_map,all_eq_true];intro x _;rfl
theorem vi{X:Cx}:eN (CX1 X.prog X.w) X E0:=λ_ _ _ _ _ _ _ ⟨_,_,_,_,_,h⟩=>h.elim
theorem Inv.thaw{X:Cx}{l:List (Addr×Obj)}{t:St}{f:Hp}{s:Shared}{d:Addr}{o:Obj}{k:List (Key×V)}(a:Inv X l t f s)(j:f d=some (.frz o (.dK k)))(v:X.H₀ d=none):Inv X l t (upd f d (.dK k)) s:=by
 have h:∀b u,f b=some u→(∀o' B,u≠.frz o' B)→b≠d:=λb u e w z=>by
  subst z;rw[j]at e;cases e;exact w _ _ rfl
 have i:∀b,f b=none→b≠d:=λb e z=>by
  subst z;rw[j]at e;cases e
 refine⟨a.ok,a.os,a.bare,⟨a.base.keep,a.base.slot,λb o e n A=>?_,a.base.there,λb xs e=>?_,λb o' u e=>?_,λb ps e=>?_⟩,a.loc,a.cell,?_,λx c e=>?_,λp y=>?_,λb u e=>?_,a.len⟩
 ·have:=a.base.free b o e n A;rw[ai (i b this)];exact this
 ·have:=a.base.tups b xs e;rw[ai (h b _ this λ_ _ z=>by cases z)];exact this
 ·have g:b≠d:=λz=>by subst z;rw[v]at e;cases e
  rw[ai g];exact a.base.frzs b o' u e
 ·obtain⟨m,this⟩:=a.base.tbls b ps e;exact⟨m,by rw[ai (h b _ this λ_ _ z=>by cases z)];exact this⟩
 ·rw[ai (i _ a.free)];exact a.free
 ·rw[ai (i _ (a.freeC x c e))];exact a.freeC x c e
 ·obtain⟨e,n,r⟩:=a.pin p y;exact⟨e,by rw[ai (i _ n)];exact n,r⟩
 ·by_cases g:b=d
  ·subst g;rw[ac]at e;cases e;obtain⟨_,q⟩:=a.hok b _ j;exact q
  ·rw[ai g]at e;exact(a.hok b u e).stay (λ_ _ _ q=>q) (λc q=>by rw[ai (h c _ q λ_ _ z=>by cases z)];exact q) λc xs q=>by rw[ai (h c _ q λ_ _ z=>by cases z)];exact q
def Bc(H₀:Hp)(t:TS):TS:=λD σ H=>∃d o kvs,H₀ d=none∧H d=some (.frz o (.dK kvs))∧t D σ (upd H d (.dK kvs))
theorem xu{X:Cx}{st:Stmt}{t:TS}(c:PS X st t):PS X st (Bc X.H₀ t):=λpins s σ H a I ⟨d,o,kvs,b,h,e⟩=>c pins s σ _ a (I.thaw h b) e
end L2
namespace TW
structure Nd(S:Type) where
 num:Int
 par:Int
 nm:S
 st:Option Int
section
variable{S:Type}
inductive Reach(ns:List (Nd S))(f:Int):Nd S→Prop where
 |base {n:Nd S}:n∈ns→n.par=f→Reach ns f n
 |step {m n:Nd S}:Reach ns f m→m.st=none→n∈ns→n.par=m.num→Reach ns f n
theorem Reach.mem{ns:List (Nd S)}{f:Int}{n:Nd S}(h:Reach ns f n):n∈ns:=by
 cases h<;>assumption
theorem Reach.mono{ns d:List (Nd S)}{f:Int}{n:Nd S}(e:Reach ns f n)(c:∀x∈ns,x∈d):Reach d f n:=by
 induction e with
 |base a b=>exact .base (c _ a) b
 |step _ g a b h=>exact .step h g (c _ a) b
def inside(ns:List (Nd S))(k:Int):List (Nd S):=ns.filter λn=>decide (n.par=k)
def dL(a:List Int)(n:Nd S):Bool:=decide (n.par∈a)
structure Walk(ns:List (Nd S))(f:Int)(dn:List Int)(fd:List (Nd S))(pd:List Int):Prop where
 perm:fd.Perm (ns.filter (dL dn))
 reach:∀n∈fd,Reach ns f n
 cover:∀k,(k∈pd∨k∈dn)↔(k=f∨∃m∈fd,m.st=none∧m.num=k)
theorem Walk.start(ns:List (Nd S))(f:Int):Walk ns f [] [] [f]:=by
 refine⟨?_,by simp,λk=>by simp⟩;have e:ns.filter (dL [])=[]:=by
  rw[List.filter_eq_nil_iff];intro a _;simp[dL]
 rw[e]
theorem fk{d:Type}(p q:d→Bool)(hd:∀x,p x=true→q x=true→False):∀l:List d,
  (l.filter p++l.filter q).Perm (l.filter λx=>p x||q x)
 |[]=>by simp
 |x::l=>by
  have c:=fk p q hd l;cases a:p x with
  |true =>
   have b:q x=false:=by
    cases h:q x with
    |false=>rfl
    |true=>exact(hd x a h).elim
   rw[filter_cons_of_pos a,filter_cons_of_neg (by simp[b]),filter_cons_of_pos (by simp[a])];exact List.Perm.cons x c
  |false =>
   cases b:q x with
   |true =>
    rw[filter_cons_of_neg (by simp[a]),filter_cons_of_pos b,filter_cons_of_pos (by simp[b])];exact perm_middle.trans (List.Perm.cons x c)
   |false =>
    rw[filter_cons_of_neg (by simp[a]),filter_cons_of_neg (by simp[b]),filter_cons_of_neg (by simp[a,b])];exact c
def here(ns:List (Nd S))(a:List Int)(x:Int):List (Nd S):=if x∈a then []else inside ns x
def aT(l:List (Nd S)):List Int:=(l.filter λn=>n.st.isNone).map (·.num)
theorem iY{l:List (Nd S)}{k:Int}:k∈aT l↔∃m∈l,m.st=none∧m.num=k:=by
 unfold aT;rw[mem_map];constructor
 ·rintro⟨m,a,e⟩;rw[mem_filter]at a;exact⟨m,a.1,by simpa using a.2,e⟩
 ·rintro⟨m,a,h,e⟩;exact⟨m,mem_filter.mpr ⟨a,by simp[h]⟩,e⟩
theorem Walk.turn{ns:List (Nd S)}{f x:Int}{b:List Int}{j:List (Nd S)}{l:List Int}(w:Walk ns f b j (l++[x])):
  Walk ns f (x::b) (j++here ns b x) (l++aT (here ns b x)):=by
 have r:=(w.cover x).mp (.inl (by simp))
 by_cases d:x∈b
 ·have g:here ns b x=[]:=by unfold here;rw[if_pos d]
  rw[g];refine⟨?_,by simpa using w.reach,λk=>?_⟩
  ·have e:ns.filter (dL (x::b))=ns.filter (dL b):=by
    apply filter_congr;intro n _;simp only[dL,mem_cons,decide_eq_decide];constructor
    ·rintro(h|h)
     ·rw[h];exact d
     ·exact h
    ·exact .inr
   rw[e,append_nil];exact w.perm
  ·have c:=w.cover k;rw[append_nil,←c];simp only[aT,List.filter_nil,map_nil,append_nil,mem_append,mem_cons,not_mem_nil,or_false];constructor
   ·rintro(h|h|h)
    ·exact .inl (.inl h)
    ·exact .inl (.inr h)
    ·exact .inr h
   ·rintro((h|h)|h)
    ·exact .inl h
    ·exact .inr (.inl h)
    ·exact .inr (.inr h)
 ·have g:here ns b x=inside ns x:=by unfold here;rw[if_neg d]
  rw[g];refine⟨?_,λn q=>?_,λk=>?_⟩
  ·have e:ns.filter (dL (x::b))=ns.filter λn=>dL b n||decide (n.par=x):=by
    apply filter_congr;intro n _;rw[Bool.eq_iff_iff];simp only[dL,mem_cons,decide_eq_true_eq,or_eq_true];constructor
    ·rintro(h|h)
     ·exact .inr h
     ·exact .inl h
    ·rintro(h|h)
     ·exact .inr h
     ·exact .inl h
   rw[e];refine(List.Perm.append_right _ w.perm).trans (fk _ _ (λy h1 h2=>?_) ns);simp only[dL,decide_eq_true_eq]at h1 h2;rw[h2]at h1;exact d h1
  ·rcases mem_append.mp q with h|h
   ·exact w.reach n h
   ·unfold inside at h;rw[mem_filter]at h;obtain⟨a,i⟩:=h;simp only[decide_eq_true_eq]at i;rcases r with e|⟨m,p,o,e⟩
    ·exact .base a (i.trans e)
    ·exact .step (w.reach m p) o a (i.trans e.symm)
  ·have c:=w.cover k;simp only[mem_append,mem_cons,not_mem_nil,or_false]at c⊢;rw[iY];constructor
   ·rintro((h|⟨m,a,h1,h2⟩)|h|h)
    ·rcases c.mp (.inl (.inl h))with e|⟨m,a,z⟩
     ·exact .inl e
     ·exact .inr ⟨m,.inl a,z⟩
    ·exact .inr ⟨m,.inr a,h1,h2⟩
    ·rcases c.mp (.inl (.inr h))with e|⟨m,a,z⟩
     ·exact .inl e
     ·exact .inr ⟨m,.inl a,z⟩
    ·rcases c.mp (.inr h)with e|⟨m,a,z⟩
     ·exact .inl e
     ·exact .inr ⟨m,.inl a,z⟩
   ·rintro(e|⟨m,a|a,z⟩)
    ·rcases c.mpr (.inl e)with (h|h)|h
     ·exact .inl (.inl h)
     ·exact .inr (.inl h)
     ·exact .inr (.inr h)
    ·rcases c.mpr (.inr ⟨m,a,z⟩)with (h|h)|h
     ·exact .inl (.inl h)
     ·exact .inr (.inl h)
     ·exact .inr (.inr h)
    ·exact .inl (.inr ⟨m,a,z⟩)
theorem Walk.len{ns:List (Nd S)}{f:Int}{b:List Int}{a:List (Nd S)}{c:List Int}(w:Walk ns f b a c):a.length≤ns.length:=by
 rw[w.perm.length_eq];exact length_filter_le _ _
theorem dM(l:List (Nd S)):(aT l).length≤l.length:=by
 unfold aT;rw[length_map];exact length_filter_le _ _
theorem Walk.mem{ns:List (Nd S)}{f:Int}{dn:List Int}{fd:List (Nd S)}(w:Walk ns f dn fd [])(n:Nd S):n∈fd↔Reach ns f n:=by
 constructor
 ·exact w.reach n
 ·have c:∀k,(k=f∨∃m∈fd,m.st=none∧m.num=k)→k∈dn:=λk h=>by
   rcases (w.cover k).mpr h with z|z
   ·simp at z
   ·exact z
  have back:∀x,x∈ns→x.par∈dn→x∈fd:=λx e a=>w.perm.mem_iff.mpr (mem_filter.mpr ⟨e,by simp[dL,a]⟩);intro h
  induction h with
  |base b a=>exact back _ b (c _ (.inl a))
  |step _ d b a g=>exact back _ b (c _ (.inr ⟨_,g,d,a.symm⟩))
theorem Walk.all{ns:List (Nd S)}{f:Int}{a:List Int}{c:List (Nd S)}(w:Walk ns f a c []):c.length=ns.length↔∀n∈ns,Reach ns f n:=by
 rw[w.perm.length_eq];constructor
 ·intro h n b;have e:ns.filter (dL a)=ns:=by
   rw[List.filter_eq_self];exact List.length_filter_eq_length_iff.mp h
  have:n∈ns.filter (dL a):=by rw[e];exact b
  exact(w.mem n).mp (w.perm.mem_iff.mpr this)
 ·intro h;rw[List.length_filter_eq_length_iff];intro n b;have:=w.perm.mem_iff.mp ((w.mem n).mpr (h n b));exact(mem_filter.mp this).2
def ce(ns:List (Nd S)):Prop:=ns.Pairwise λa b=>a.num<b.num
def de(ns:List (Nd S)):Prop:=(ns.map λn=>(n.par,n.nm)).Nodup
structure Tree(ns:List (Nd S)):Prop where
 rise:ce ns
 own:de ns
 down:∀n∈ns,Reach ns 0 n
def adj:List (Nd S)→Bool
 |a::b::r=>decide (a.num<b.num)&&adj (b::r)
 |_=>true
theorem nv:∀ns:List (Nd S),adj ns=true↔ce ns
 |[]=>by simp[adj,ce]
 |[a]=>by simp[adj,ce]
 |a::b::r=>by
  have d:=nv (b::r);unfold adj;rw[and_eq_true,d,decide_eq_true_eq];unfold ce;rw[pairwise_cons (a:=a)];constructor
  ·rintro⟨h,p⟩;refine⟨λx c=>?_,p⟩;rcases mem_cons.mp c with rfl|c
   ·exact h
   ·have:=(pairwise_cons.mp p).1 x c;omega
  ·rintro⟨h,p⟩;exact⟨h b (by simp),p⟩
theorem rZ:∀ns:List (Nd S),adj ns=((ns.zip (ns.drop 1)).all λp=>decide (p.1.num<p.2.num))
 |[]=>rfl
 |[a]=>rfl
 |a::b::r=>by
  have c:=rZ (b::r);unfold adj;rw[c];rfl
inductive Built:List (Nd S)→Prop where
 |nil:Built []
 |snoc {l:List (Nd S)} {n:Nd S}:Built l→(n.par=0∨∃m∈l,m.st=none∧m.num=n.par)→Built (l++[n])
theorem Built.down{l:List (Nd S)}(b:Built l):∀n∈l,Reach l 0 n:=by
 induction b with
 |nil=>simp
 |@snoc l n b h ih =>
  intro x a;have c:∀y∈l,y∈l++[n]:=λy i=>List.mem_append_left _ i;rcases mem_append.mp a with a|a
  ·exact(ih x a).mono c
  ·have e:x=n:=by simpa using a
   subst e;rcases h with h|⟨m,g,f,d⟩
   ·exact .base (by simp) h
   ·exact .step ((ih m g).mono c) f (by simp) d.symm
theorem xv{l t:List (Nd S)}(b:Built l)(p:t.Perm l)(f:t.Pairwise λa b=>a.num≤b.num)(d:(l.map (·.num)).Nodup)(e:de l):Tree t:=by
 refine⟨?_,?_,λn c=>?_⟩
 ·have c:(t.map (·.num)).Nodup:=((p.map _).nodup_iff).mpr d;unfold Nodup at c;rw[pairwise_map]at c;unfold ce;exact f.imp₂ (λa b h1 h2=>by omega) c
 ·unfold de;exact((p.map _).nodup_iff).mpr e
 ·exact(b.down n (p.mem_iff.mp c)).mono λx g=>p.mem_iff.mpr g
theorem pq{t:List (Nd S)}(c:ce t){a b:Nd S}(g:a∈t)(i:b∈t)(e:a.num=b.num):a=b:=by
 unfold ce at c
 induction t with
 |nil=>simp at g
 |cons x r j =>
  rw[pairwise_cons]at c;rcases mem_cons.mp g with ea|h
  ·rcases mem_cons.mp i with d|f
   ·rw[ea,d]
   ·have:=c.1 b f;rw[←ea]at this;omega
  ·rcases mem_cons.mp i with d|f
   ·have:=c.1 a h;rw[←d]at this;omega
   ·exact j c.2 h f
end
end TW
namespace TW
section
variable{S:Type}
inductive PathTo(ns:List (Nd S)):Int→List S→Prop where
 |top:PathTo ns 0 []
 |node {n:Nd S} {p:List S}:n∈ns→PathTo ns n.par p→PathTo ns n.num (p++[n.nm])
structure Tree1(ns:List (Nd S)):Prop extends Tree ns where
 pos:∀n∈ns,1≤n.num
theorem Tree1.inj{ns:List (Nd S)}(T:Tree1 ns){a b:Nd S}(c:a∈ns)(d:b∈ns)(e:a.num=b.num):a=b:=pq T.rise c d e
theorem PathTo.zero{ns:List (Nd S)}(T:Tree1 ns){k:Int}{p:List S}(h:PathTo ns k p)(e:k=0):p=[]:=by
 cases h with
 |top=>rfl
 |@node n p hm _=>have:=T.pos n hm;omega
theorem PathTo.inv{ns:List (Nd S)}(T:Tree1 ns){k:Int}{p:List S}(b:PathTo ns k p){n:Nd S}(a:n∈ns)(e:k=n.num):∃q,p=q++[n.nm]∧PathTo ns n.par q:=by
 cases b with
 |top=>have:=T.pos n a;omega
 |@node m q hm hq =>
  have:m=n:=T.inj hm a e;subst this;exact⟨q,rfl,hq⟩
theorem PathTo.uniq{ns:List (Nd S)}(T:Tree1 ns){k:Int}{p:List S}(b:PathTo ns k p):∀{q:List S},PathTo ns k q→p=q:=by
 induction b with
 |top=>intro q a;exact(a.zero T rfl).symm
 |@node n p hm _ ih =>
  intro q a;obtain⟨d,e,c⟩:=a.inv T hm rfl;rw[e,ih c]
theorem PathTo.ex{ns:List (Nd S)}(T:Tree1 ns){n:Nd S}(c:n∈ns):∃p,PathTo ns n.num p:=by
 have e:∀x,Reach ns 0 x→∃p,PathTo ns x.num p:=by
  intro x r
  induction r with
  |base a b=>exact⟨_,.node a (by rw[b];exact .top)⟩
  |step _ _ a b d =>
   obtain⟨p,h⟩:=d;exact⟨_,.node a (by rw[b];exact h)⟩
 exact e n (T.down n c)
inductive Und(ns:List (Nd S))(g:Int):Int→Prop where
 |here:Und ns g g
 |up {n:Nd S}:n∈ns→Und ns g n.par→Und ns g n.num
theorem Und.zero{ns:List (Nd S)}(T:Tree1 ns){g k:Int}(h:Und ns g k)(e:k=0):g=0:=by
 cases h with
 |here=>exact e
 |@up n hm _=>have:=T.pos n hm;omega
theorem Und.inv{ns:List (Nd S)}(T:Tree1 ns){g k:Int}(a:Und ns g k){n:Nd S}(c:n∈ns)(e:k=n.num)(b:k≠g):Und ns g n.par:=by
 cases a with
 |here=>exact absurd rfl b
 |@up m hm hu =>
  have:m=n:=T.inj hm c e;subst this;exact hu
theorem lM{ns:List (Nd S)}(T:Tree1 ns){n:Nd S}(b:n∈ns):n.par=0∨∃m∈ns,m.st=none∧m.num=n.par:=by
 have:=T.down n b;cases this with
 |base _ a=>exact .inl a
 |@step m _ hr hf _ a=>exact .inr ⟨m,hr.mem,hf,a.symm⟩
theorem lN{ns:List (Nd S)}(T:Tree1 ns){g:Int}{n:Nd S}(a:Reach ns g n):Und ns g n.num∧∃p q,PathTo ns n.num (p++q)∧q≠[]∧PathTo ns g p:=by
 induction a with
 |@base n hm hp =>
  obtain⟨p,a⟩:=PathTo.ex T hm;obtain⟨q,e,b⟩:=a.inv T hm rfl;refine⟨.up hm (by rw[hp];exact .here),q,[n.nm],by rw[←e];exact a,by simp,by rw[←hp];exact b⟩
 |@step m n hr hf hm hp ih =>
  obtain⟨c,p,q,h1,h2,h3⟩:=ih;refine⟨.up hm (by rw[hp];exact c),p,q++[n.nm],?_,by simp,h3⟩;rw[←append_assoc];exact .node hm (by rw[hp];exact h1)
theorem kb{ns:List (Nd S)}(T:Tree1 ns){g:Int}{n:Nd S}(a:Reach ns g n):n.num≠g:=by
 obtain⟨_,p,q,h1,h2,h3⟩:=lN T a;intro e;rw[e]at h1;have:=h1.uniq T h3;have b:=congrArg length this;rw[length_append]at b;have:q.length≠0:=λz=>h2 (length_eq_zero_iff.mp z);omega
theorem tL{ns:List (Nd S)}(T:Tree1 ns){g:Int}(q:1≤g):∀{k:Int}{p:List S},PathTo ns k p→∀{n:Nd S},n∈ns→k=n.num→Und ns g k→k≠g→Reach ns g n:=by
 intro k p h
 induction h with
 |top=>intro n a e;have:=T.pos n a;omega
 |@node m p hm hp ih =>
  intro n a e o j;have:m=n:=T.inj hm a e;subst this;have d:=o.inv T hm rfl j
  by_cases c:m.par=g
  ·exact .base hm c
  ·rcases lM T hm with f|⟨r,l,i,b⟩
   ·have:=d.zero T f;omega
   ·exact .step (ih l b.symm d c) i hm b.symm
theorem eF{ns:List (Nd S)}(T:Tree1 ns){g:Int}(b:1≤g){n:Nd S}(a:n∈ns):Reach ns g n↔n.num≠g∧Und ns g n.num:=by
 constructor
 ·intro h;exact⟨kb T h,(lN T h).1⟩
 ·rintro⟨h1,h2⟩;obtain⟨p,c⟩:=PathTo.ex T a;exact tL T b c a rfl h2 h1
end
end TW
namespace TW
section
variable{S:Type}
theorem lO{t:List (Nd S)}:ce t↔(t.map (·.num)).Pairwise (λa b:Int=>a<b):=by
 unfold ce;rw[pairwise_map]
def ig(t:List (Nd S))(p:Int):Prop:=p=0∨∃m∈t,m.st=none∧m.num=p
theorem made{t u:List (Nd S)}{n:Nd S}(T:Tree1 t)(c:u.Perm (n::t))(k:ce u)(h:1≤n.num)(i:ig t n.par)(j:∀m∈t,¬(m.par=n.par∧m.nm=n.nm)):Tree1 u:=by
 have b:∀x,x∈u↔x=n∨x∈t:=λx=>by rw[c.mem_iff,mem_cons]
 have d:∀x,x∈t→x∈u:=λx a=>(b x).mpr (.inr a);refine⟨⟨k,?_,λx a=>?_⟩,λx a=>?_⟩
 ·unfold de;rw[(c.map λn:Nd S=>(n.par,n.nm)).nodup_iff,map_cons,nodup_cons];refine⟨λa=>?_,T.own⟩;obtain⟨m,h2,e⟩:=mem_map.mp a;injection e with f g
  exact j m h2 ⟨f,g⟩
 ·rcases (b x).mp a with e|a
  ·subst e;rcases i with e|⟨m,h2,h3,e⟩
   ·exact .base a e
   ·exact .step ((T.down m h2).mono d) h3 a e.symm
  ·exact(T.down x a).mono d
 ·rcases (b x).mp a with e|a
  ·subst e;exact h
  ·exact T.pos x a
def put(z:Nd S)(m:Nd S):Nd S:=if m.num=z.num then z else m
theorem se(z m:Nd S):(put z m).num=m.num:=by
 unfold put
 split
 ·rename_i h;exact h.symm
 ·rfl
theorem ca{z m:Nd S}(h:m.num≠z.num):put z m=m:=by unfold put;rw[if_neg h]
theorem dC{z m:Nd S}(h:m.num=z.num):put z m=z:=by unfold put;rw[if_pos h]
theorem vj(z:Nd S)(t:List (Nd S)):(t.map (put z)).map (·.num)=t.map (·.num):=by
 rw[map_map];apply map_congr_left;intro m _;exact se z m
theorem ik{z:Nd S}{t:List (Nd S)}(h:ce t):ce (t.map (put z)):=by
 rw[lO,vj,←lO];exact h
theorem sf{z:Nd S}{t:List (Nd S)}(T:Tree1 t):∀n∈t.map (put z),1≤n.num:=λn b=>by
 obtain⟨m,a,rfl⟩:=mem_map.mp b;rw[se];exact T.pos m a
theorem wrote{t:List (Nd S)}{y z:Nd S}(T:Tree1 t)(f:y∈t)(d:z.num=y.num)(g:z.par=y.par)(i:z.nm=y.nm)(l:y.st≠none):Tree1 (t.map (put z)):=by
 have c:∀m∈t,(put z m).par=m.par∧(put z m).nm=m.nm:=λm b=>by
  by_cases h:m.num=z.num
  ·have:m=y:=T.inj b f (h.trans d);subst this;rw[dC h];exact⟨g,i⟩
  ·rw[ca h];exact⟨rfl,rfl⟩
 refine⟨⟨ik T.rise,?_,λn k=>?_⟩,sf T⟩
 ·have:(t.map (put z)).map (λn=>(n.par,n.nm))=t.map (λn=>(n.par,n.nm)):=by
   rw[map_map];apply map_congr_left;intro m b;show((put z m).par,(put z m).nm)=_;rw[(c m b).1,(c m b).2]
  unfold de;rw[this];exact T.own
 ·obtain⟨m,b,rfl⟩:=mem_map.mp k;have o:∀x,Reach t 0 x→Reach (t.map (put z)) 0 (put z x):=by
   intro x r
   induction r with
   |@base x hx hp=>exact .base (mem_map.mpr ⟨x,hx,rfl⟩) (by rw[(c x hx).1];exact hp)
   |@step a x ra hf hx hp ih =>
    have j:put z a=a:=ca λe=>l (by rw[←T.inj ra.mem f (e.trans d)];exact hf);rw[j]at ih;exact .step ih hf (mem_map.mpr ⟨x,hx,rfl⟩) (by rw[(c x hx).1];exact hp)
  exact o m (T.down m b)
theorem lP{t:List (Nd S)}{k:Int}{n:Nd S}(r:Reach t 0 n)(a:¬Und t k n.num){u:List (Nd S)}(b:∀x∈t,¬Und t k x.num→x∈u):Reach u 0 n:=by
 induction r with
 |@base n hm hp=>exact .base (b n hm a) hp
 |@step m n rm hf hn hp ih=>exact .step (ih λc=>a (.up hn (by rw[hp];exact c))) hf (b n hn a) hp
theorem dropped{t:List (Nd S)}{k:Int}(T:Tree1 t){p:Nd S→Bool}(b:∀n∈t,p n=true↔¬Und t k n.num):Tree1 (t.filter p):=by
 refine⟨⟨T.rise.sublist filter_sublist,T.own.sublist (filter_sublist.map _),λn a=>?_⟩,λn a=>T.pos n (mem_filter.mp a).1⟩;obtain⟨h1,h2⟩:=mem_filter.mp a;exact lP (T.down n h1) ((b n h1).mp h2) λx c d=>mem_filter.mpr ⟨c,(b x c).mpr d⟩
theorem moved{t:List (Nd S)}{y z:Nd S}(T:Tree1 t)(k:y∈t)(c:z.num=y.num)(B:z.st=y.st)(F:ig t z.par)(G:z.par≠0→¬Und t y.num z.par)(u:∀m∈t,m.num≠y.num→¬(m.par=z.par∧m.nm=z.nm)):Tree1 (t.map (put z)):=by
 have v:z∈t.map (put z):=mem_map.mpr ⟨y,k,dC c.symm⟩;have o:∀m∈t,m.num≠y.num→m∈t.map (put z):=λm g h=>mem_map.mpr ⟨m,g,ca (by rw[c];exact h)⟩;have s:∀n∈t,¬Und t y.num n.num→Reach (t.map (put z)) 0 n:=λn d h=>lP (T.down n d) h λx J i=>o x J λe=>i (by rw[e];exact .here);have w:Reach (t.map (put z)) 0 z:=by
  rcases F with e|⟨m,h2,h3,e⟩
  ·exact .base v e
  ·have C:z.par≠0:=λL=>by have:=T.pos m h2;omega
   exact .step (s m h2 (by rw[e];exact G C)) h3 v e.symm
 refine⟨⟨ik T.rise,?_,λn d=>?_⟩,sf T⟩
 ·have h:=T.own;have I:=T.rise;unfold de ce Nodup at *;rw[pairwise_map]at h;rw[map_map,pairwise_map];have A:=h.and I;refine A.imp_of_mem λ{a b} l E D=>?_;obtain⟨h1,h2⟩:=D;show((put z a).par,(put z a).nm)≠((put z b).par,(put z b).nm)
  by_cases ea:a.num=y.num
  ·have f:b.num≠y.num:=by omega
   rw[dC (by rw[c];exact ea),ca (by rw[c];exact f)];intro e;injection e with p q
   exact u b E f ⟨p.symm,q.symm⟩
  ·by_cases f:b.num=y.num
   ·rw[dC (m:=b) (by rw[c];exact f),ca (by rw[c];exact ea)];intro e;injection e with p q
    exact u a l ea ⟨p,q⟩
   ·rw[ca (by rw[c];exact ea),ca (by rw[c];exact f)];exact h1
 ·obtain⟨m,g,rfl⟩:=mem_map.mp d
  by_cases j:m.num=y.num
  ·rw[dC (by rw[c];exact j)];exact w
  ·rw[ca (by rw[c];exact j)]
   by_cases i:Und t y.num m.num
   ·have r:Reach t y.num m:=(eF T (T.pos y k) g).mpr ⟨j,i⟩;clear i j g d
    induction r with
    |@base n d hp =>
     have K:z.st=none:=by
      rcases lM T d with e|⟨a,l,h3,e⟩
      ·have:=T.pos y k;omega
      ·have:a=y:=T.inj l k (e.trans hp);subst this;rw[B];exact h3
     have H:n.num≠y.num:=kb T (.base d hp);exact .step w K (o n d H) (by rw[hp,c])
    |@step a n ra hfa d hp ih=>exact .step ih hfa (o n d (kb T (.step ra hfa d hp))) hp
   ·exact s m g i
end
end TW
namespace TW
section
variable{S:Type}
inductive Deed(S:Type) where
 |make (n p:Int) (nm:S) (st:Option Int)
 |write (n st:Int)
 |move (n p:Int) (nm:S)
 |drop (n:Int)
inductive Wd where
 |known|noNode|notFile|notFolder|inside|taken
def cI(t:List (Nd S))(k:Int):Prop:=∃m∈t,m.num=k
inductive Told(t:List (Nd S)):Deed S→Sum Wd (List (Nd S))→Prop where
 |mKnown {n p:Int} {nm:S} {st:Option Int}:cI t n→Told t (.make n p nm st) (.inl .known)
 |mNo {n p:Int} {nm:S} {st:Option Int}:¬cI t n→p≠0→¬cI t p→Told t (.make n p nm st) (.inl .noNode)
 |mFile {n p:Int} {nm:S} {st:Option Int} {m:Nd S}:¬cI t n→p≠0→m∈t→m.num=p→m.st≠none→Told t (.make n p nm st) (.inl .notFolder)
 |mTaken {n p:Int} {nm:S} {st:Option Int} {m:Nd S}:¬cI t n→ig t p→m∈t→m.par=p→m.nm=nm→Told t (.make n p nm st) (.inl .taken)
 |made {n p:Int} {nm:S} {st:Option Int} {u:List (Nd S)}:¬cI t n→ig t p→(∀m∈t,¬(m.par=p∧m.nm=nm))→u.Perm (⟨n,p,nm,st⟩::t)→ce u→Told t (.make n p nm st) (.inr u)
 |wNo {n st:Int}:¬cI t n→Told t (.write n st) (.inl .noNode)
 |wFold {n st:Int} {y:Nd S}:y∈t→y.num=n→y.st=none→Told t (.write n st) (.inl .notFile)
 |wrote {n st:Int} {y:Nd S}:y∈t→y.num=n→y.st≠none→Told t (.write n st) (.inr (t.map (put ⟨n,y.par,y.nm,some st⟩)))
 |vNo {n p:Int} {nm:S}:¬cI t n→Told t (.move n p nm) (.inl .noNode)
 |vNoP {n p:Int} {nm:S}:cI t n→p≠0→¬cI t p→Told t (.move n p nm) (.inl .noNode)
 |vFile {n p:Int} {nm:S} {m:Nd S}:cI t n→p≠0→m∈t→m.num=p→m.st≠none→Told t (.move n p nm) (.inl .notFolder)
 |vIn {n p:Int} {nm:S}:cI t n→ig t p→p≠0→Und t n p→Told t (.move n p nm) (.inl .inside)
 |vTaken {n p:Int} {nm:S} {m:Nd S}:cI t n→ig t p→(p≠0→¬Und t n p)→m∈t→m.num≠n→m.par=p→m.nm=nm→Told t (.move n p nm) (.inl .taken)
 |moved {n p:Int} {nm:S} {y:Nd S}:y∈t→y.num=n→ig t p→(p≠0→¬Und t n p)→(∀m∈t,m.num≠n→¬(m.par=p∧m.nm=nm))→Told t (.move n p nm) (.inr (t.map (put ⟨n,p,nm,y.st⟩)))
 |dNo {n:Int}:¬cI t n→Told t (.drop n) (.inl .noNode)
 |dropped {n:Int} {f:Nd S→Bool}:cI t n→(∀m∈t,f m=true↔¬Und t n m.num)→Told t (.drop n) (.inr (t.filter f))
theorem cT{t:List (Nd S)}{p:Int}(a:ig t p)(b:p≠0)(d:¬cI t p):False:=by
 rcases a with a|⟨m,c,_,e⟩
 ·exact b a
 ·exact d ⟨m,c,e⟩
theorem cm{t:List (Nd S)}(T:Tree1 t){p:Int}{m:Nd S}(a:ig t p)(c:p≠0)(d:m∈t)(e:m.num=p)(f:m.st≠none):False:=by
 rcases a with a|⟨y,g,h2,b⟩
 ·exact c a
 ·have:=T.inj d g (e.trans b.symm);subst this;exact f h2
theorem kc{t u:List (Nd S)}(i:ce t)(j:ce u)(c:t.Perm u):t=u:=by
 have k:∀{l m:List (Nd S)},ce l→ce m→(∀x,x∈l↔x∈m)→l=m:=by
  intro l
  induction l with
  |nil =>
   intro m _ _ c;cases m with
   |nil=>rfl
   |cons b m=>exact absurd ((c b).mpr (by simp)) (by simp)
  |cons a l h =>
   intro m d f c;cases m with
   |nil=>exact absurd ((c a).mp (by simp)) (by simp)
   |cons b m =>
    unfold ce at d f h;rw[pairwise_cons]at d f;have e:a=b:=by
     rcases mem_cons.mp ((c a).mp (by simp))with e|h1
     ·exact e
     ·rcases mem_cons.mp ((c b).mpr (by simp))with e|h2
      ·exact e.symm
      ·have:=d.1 b h2;have:=f.1 a h1;omega
    subst e;rw[h d.2 f.2 λx=>?_];constructor
    ·intro g;rcases mem_cons.mp ((c x).mp (by simp[g]))with e|h1
     ·subst e;have:=d.1 x g;omega
     ·exact h1
    ·intro g;rcases mem_cons.mp ((c x).mpr (by simp[g]))with e|h1
     ·subst e;have:=f.1 x g;omega
     ·exact h1
 exact k i j λx=>c.mem_iff
theorem Told.one{t:List (Nd S)}(T:Tree1 t){d:Deed S}{r r':Sum Wd (List (Nd S))}(A:Told t d r)(h':Told t d r'):r=r':=by
 have q:∀{k:Int}{m:Nd S},m∈t→m.num=k→¬cI t k→False:=λs e D=>D ⟨_,s,e⟩;have u:∀{k:Int}{a b:Nd S},a∈t→a.num=k→b∈t→b.num=k→a=b:=λB ea C z=>T.inj B C (ea.trans z.symm);cases A with
 |mKnown h=>cases h'<;>first|rfl|(exfalso;contradiction)
 |mNo h i j=>cases h' with
  |mKnown c=>exact absurd c h
  |mNo=>rfl
  |mFile c f g l o=>exact(q g l j).elim
  |mTaken c f=>exact(cT f i j).elim
  |made c f=>exact(cT f i j).elim
 |mFile h i j n p=>cases h' with
  |mKnown c=>exact absurd c h
  |mNo c f g=>exact(q j n g).elim
  |mFile=>rfl
  |mTaken c f=>exact(cm T f i j n p).elim
  |made c f=>exact(cm T f i j n p).elim
 |mTaken h i j n p=>cases h' with
  |mKnown c=>exact absurd c h
  |mNo c f g=>exact(cT i f g).elim
  |mFile c f g l o=>exact(cm T i f g l o).elim
  |mTaken=>rfl
  |made c f g=>exact(g _ j ⟨n,p⟩).elim
 |made h i j n p=>cases h' with
  |mKnown c=>exact absurd c h
  |mNo c f g=>exact(cT i f g).elim
  |mFile c f g l o=>exact(cm T i f g l o).elim
  |mTaken c f g l o=>exact(j _ g ⟨l,o⟩).elim
  |made c f g l o=>rw[kc p o (n.trans l.symm)]
 |wNo h=>cases h' with
  |wNo=>rfl
  |wFold c f=>exact(q c f h).elim
  |wrote c f=>exact(q c f h).elim
 |wFold h i j=>cases h' with
  |wNo c=>exact(q h i c).elim
  |wFold=>rfl
  |wrote c f g=>rw[u h i c f]at j;exact absurd j g
 |wrote h i j=>cases h' with
  |wNo c=>exact(q h i c).elim
  |wFold c f g=>rw[u c f h i]at g;exact absurd g j
  |wrote c f g=>rw[u c f h i]
 |vNo h=>cases h' with
  |vNo=>rfl
  |vNoP=>rfl
  |vFile c=>exact absurd c h
  |vIn c=>exact absurd c h
  |vTaken c=>exact absurd c h
  |moved c f=>exact(q c f h).elim
 |vNoP h i j=>cases h' with
  |vNo=>rfl
  |vNoP=>rfl
  |vFile c f g l=>exact(q g l j).elim
  |vIn c f=>exact(cT f i j).elim
  |vTaken c f=>exact(cT f i j).elim
  |moved c f g=>exact(cT g i j).elim
 |vFile h i j n p=>cases h' with
  |vNo c=>exact absurd h c
  |vNoP c f g=>exact(q j n g).elim
  |vFile=>rfl
  |vIn c f=>exact(cm T f i j n p).elim
  |vTaken c f=>exact(cm T f i j n p).elim
  |moved c f g=>exact(cm T g i j n p).elim
 |vIn h i j n=>cases h' with
  |vNo c=>exact absurd h c
  |vNoP c f g=>exact(cT i f g).elim
  |vFile c f g l o=>exact(cm T i f g l o).elim
  |vIn=>rfl
  |vTaken c f g=>exact absurd n (g j)
  |moved c f g l=>exact absurd n (l j)
 |vTaken h i j n p v w=>cases h' with
  |vNo c=>exact absurd h c
  |vNoP c f g=>exact(cT i f g).elim
  |vFile c f g l o=>exact(cm T i f g l o).elim
  |vIn c f g l=>exact absurd l (j g)
  |vTaken=>rfl
  |moved c f g l o=>exact(o _ n p ⟨v,w⟩).elim
 |moved h i j n p=>cases h' with
  |vNo c=>exact(q h i c).elim
  |vNoP c f g=>exact(cT j f g).elim
  |vFile c f g l o=>exact(cm T j f g l o).elim
  |vIn c f g l=>exact absurd l (n g)
  |vTaken c f g l o x y=>exact(p _ l o ⟨x,y⟩).elim
  |moved c f=>rw[u c f h i]
 |dNo h=>cases h' with
  |dNo=>rfl
  |dropped c=>exact absurd c h
 |dropped h i=>cases h' with
  |dNo c=>exact absurd h c
  |dropped c f =>
   congr 1
   apply filter_congr;intro m s;rw[Bool.eq_iff_iff,i m s,f m s]
def Deed.pos:Deed S→Prop
 |.make n _ _ _=>1≤n
 |_=>True
theorem Told.tree{t u:List (Nd S)}(T:Tree1 t){d:Deed S}(h:Told t d (.inr u))(j:d.pos):Tree1 u:=by
 generalize a:(Sum.inr u:Sum Wd (List (Nd S)))=r at h;cases h with
 |made c b e f g =>
  injection a with a
  subst a;exact TW.made T f g j b λm i=>e m i
 |wrote c b e =>
  injection a with a
  subst a b;exact TW.wrote T c rfl rfl rfl e
 |moved c b e f g =>
  injection a with a
  subst a b;exact TW.moved T c rfl rfl e f g
 |dropped c b =>
  injection a with a
  subst a;exact TW.dropped T b
 |_=>cases a
theorem Told.all{t u:List (Nd S)}{P:Nd S→Prop}(i:∀n∈t,P n){d:Deed S}(g:Told t d (.inr u))(h:∀n p nm st,d=.make n p nm st→P ⟨n,p,nm,st⟩)(s:∀n st,d=.write n st→∀y∈t,y.num=n→P ⟨n,y.par,y.nm,some st⟩)(q:∀n p nm,d=.move n p nm→∀y∈t,y.num=n→P ⟨n,p,nm,y.st⟩):∀n∈u,P n:=by
 have l:∀z:Nd S,P z→∀n∈t.map (put z),P n:=λz v n f=>by
  obtain⟨m,h,rfl⟩:=mem_map.mp f
  by_cases e:m.num=z.num
  ·rw[dC e];exact v
  ·rw[ca e];exact i m h
 generalize a:(Sum.inr u:Sum Wd (List (Nd S)))=r at g;cases g with
 |made b c j k o =>
  injection a with a
  subst a;intro n f;rcases mem_cons.mp (k.mem_iff.mp f)with e|g
  ·subst e;exact h _ _ _ _ rfl
  ·exact i n g
 |wrote b c j =>
  injection a with a
  subst a;exact l _ (s _ _ rfl _ b c)
 |moved b c j k o =>
  injection a with a
  subst a;exact l _ (q _ _ _ rfl _ b c)
 |dropped b c =>
  injection a with a
  subst a;intro n f;exact i n (mem_filter.mp f).1
 |_=>cases a
theorem Told.len{t u:List (Nd S)}{d:Deed S}(g:Told t d (.inr u)):u.length≤t.length+1:=by
 generalize a:(Sum.inr u:Sum Wd (List (Nd S)))=r at g;cases g with
 |made b c e f h =>
  injection a with a
  subst a;rw[f.length_eq];simp
 |wrote b c e =>
  injection a with a
  subst a;simp
 |moved b c e f h =>
  injection a with a
  subst a;simp
 |dropped b c =>
  injection a with a
  subst a;exact Nat.le_succ_of_le (length_filter_le _ _)
 |_=>cases a
end
end TW
namespace TW
section
variable{S:Type}
end
end TW
namespace L2
open PySem PySem.Spec PyProof.Rows
section
variable{P:Program}{w:World}{K:PySem.W.Frag}{mg:Str→Option Value}{base:Heap}
theorem Fun.okX{x b:Str}{st:Stmt}{f:Addr}{c:FuncData}{N a:List Str}{k:Nat}{sp:Sp}(F:Fun K x b st f c)(S:FnScope N a (aj st))(i:∀vs H Q E,sp vs H Q E→vs.length=a.length)(d:∀(cdv:Value) (A:Around) (outer:List Env) (s:Shared) (H:Hp) (vs:List V) (Q:VK) (E:XK),Room k (A.deeper (envOfC b (aj st) s.heap.objs.size f cdv))→sp vs H Q E →
   ∃t,PSs (gF (CX1 P w) P w K mg base N b (aj st) f cdv A outer s H E) (br st) t∧t {nx:=λ_ H'=>Q .non H',rt:=Q} (start N vs) H):FnOk P w K mg base (CX1 P w) (k+1) f c a sp:=by
 obtain⟨o,p,kV,n,r,l,cdv,m,q,rfl,j,e⟩:=F.ex;exact yv j e S i λA outer s H vs Q E g h=>d cdv A outer s H vs Q E g h
theorem LcOk.mk'{X:Cx}{a:Scope}{cl:List (Str×Addr)}(i:List Str)(s:a.kind=.function)(o:closureFor a X.env=pure cl)(v:∀x∈a.names,x.2=.local→a.names.lookup x.1=some .local)(l:∀x∈a.names,x.2≠.cell)(p:∀y∈cl,X.env.cells.lookup y.1=some y.2)(r:cl.map (·.1)=i)(n:a.names.all (λy=>!(y.2==.free)||i.contains y.1)=true):LcOk X a cl:=by
 refine⟨s,o,v,l,λx c h=>p (x,c) (PySem.mem_of_lookup h),λx h=>?_⟩;have d:∃k,(x,k)∈(relabel a X.env).names∧(k=.cell∨k=.free):=by
  rcases h with h|h
  ·exact⟨_,PySem.mem_of_lookup h,.inl rfl⟩
  ·exact⟨_,PySem.mem_of_lookup h,.inr rfl⟩
 obtain⟨k,d,t⟩:=d;unfold relabel at d;obtain⟨⟨y,k0⟩,f,e⟩:=mem_map.mp d;have q:x=y∧k0=.free:=by
  cases k0 with
  |free =>
   simp only at e
   split at e
   ·injection e with g b;exact⟨g.symm,rfl⟩
   ·injection e with g b;exact⟨g.symm,rfl⟩
  |cell=>exact absurd rfl (l _ f)
  |_ =>
   exfalso
   have b:k=_:=(congrArg Prod.snd e).symm;simp at b;rcases t with z|z<;>rw[z]at b<;>cases b
 obtain⟨rfl,rfl⟩:=q;have:=all_eq_true.mp n _ f;have j:i.contains x=true:=by simpa using this
 rw[←r]at j;have u:x∈cl.map (·.1):=List.contains_iff_mem.mp j;cases e:cl.lookup x with
 |some c=>exact⟨c,rfl⟩
 |none =>
  exfalso
  obtain⟨y,f,m⟩:=mem_map.mp u;have:=List.lookup_eq_none_iff.mp e y f;rw[m]at this;simp at this
end
end L2
namespace TK
open PySem L2
abbrev Nd:=TW.Nd Str
def stV:Option Int→V
 |none=>.non
 |some i=>.int i
def vals(n:Nd):List V:=[.int n.num,.int n.par,.str n.nm,stV n.st]
abbrev ZN:=List (Addr×Nd)
def aY(zs:ZN):List V:=(zs.map (·.1)).map V.ref
def nds(zs:ZN):List Nd:=zs.map (·.2)
def At(H:Hp)(zs:ZN):Prop:=∀z∈zs,H z.1=some (.tup (vals z.2))
theorem At.same{a H':Hp}{zs:ZN}(b:At a zs)(s:Same a H'):At H' zs:=λz c=>s _ _ (b z c)
theorem bd(zs:ZN):(aY zs).length=zs.length:=by simp[aY]
theorem aI(zs:ZN):(nds zs).length=zs.length:=by simp[nds]
theorem ck{zs:ZN}{i:Nat}{x:V}(h:(aY zs)[i]?=some x):∃z,zs[i]?=some z∧x=.ref z.1:=by
 unfold aY at h;rw[getElem?_map,getElem?_map]at h;cases e:zs[i]? with
 |none=>rw[e]at h;cases h
 |some z=>rw[e]at h;exact⟨z,rfl,(Option.some.inj h).symm⟩
theorem dD{zs:ZN}{i:Nat}{z:Addr×Nd}(h:zs[i]?=some z):(aY zs)[i]?=some (.ref z.1):=by
 unfold aY;rw[getElem?_map,getElem?_map,h];rfl
theorem at0(n:Nd):atI (vals n) 0=some (.int n.num):=rfl
theorem at1(n:Nd):atI (vals n) 1=some (.int n.par):=rfl
theorem at2(n:Nd):atI (vals n) 2=some (.str n.nm):=rfl
theorem at3(n:Nd):atI (vals n) 3=some (stV n.st):=rfl
theorem zB{c:St}(d:c.length=2):∃a b,c=[a,b]:=by
 match c,d with
 |[a,b],_=>exact⟨a,b,rfl⟩
theorem vk{b:St}(c:b.length=1):∃a,b=[a]:=by
 match b,c with
 |[a],_=>exact⟨a,rfl⟩
theorem aq{n:Nat}(h:n≤1000):n≤sizeLine:=le_of_lt (aB h)
theorem le2:2≤sizeLine:=aq (by decide)
theorem qz{A:Around}{k:Nat}(a:Room k A):A.units+4<cLine:=lt_of_le_of_lt (Nat.add_le_add_left (by decide:4≤64) _) a.units
def plK(n:Nd):List Key:=[.inl n.par,.inr n.nm]
theorem tN(zs:List Nd):(zs.map plK).Nodup↔TW.de zs:=by
 unfold TW.de Nodup;rw[pairwise_map,pairwise_map];have e:∀a b:Nd,(plK a≠plK b)=((a.par,a.nm)≠(b.par,b.nm)):=λa b=>by
  simp[plK]
 simp only[e]
def ins(zs:ZN)(k:Int):ZN:=zs.filter λz=>decide (z.2.par=k)
theorem sg(zs:ZN)(k:Int):nds (ins zs k)=TW.inside (nds zs) k:=by
 unfold nds ins TW.inside;rw[filter_map];rfl
theorem fm(zs:ZN)(z:Addr×Nd)(k:Int):ins (zs++[z]) k=if z.2.par=k then ins zs k++[z]else ins zs k:=by
 unfold ins;rw[List.filter_append]
 by_cases h:z.2.par=k
 ·rw[if_pos h,filter_cons_of_pos (by simp[h])];rfl
 ·rw[if_neg h,filter_cons_of_neg (by simp[h])];simp
theorem xw{zs:ZN}{k:Int}{z:Addr×Nd}(h:z∈ins zs k):z∈zs:=(mem_filter.mp h).1
theorem iM(zs:ZN)(z:Addr×Nd):aY (zs++[z])=aY zs++[.ref z.1]:=by simp[aY]
theorem vm{zs:ZN}(h:aY zs=[]):zs=[]:=by
 cases zs with
 |nil=>rfl
 |cons a r=>simp[aY]at h
structure Mem(H0 H:Hp)(d:Addr)(L:Int→Addr)(kvs:List (Key×V))(xs:ZN)(dn:List Int):Prop where
 dict:H d=some (.dK kvs)
 d0:H0 d=none
 len:kvs.length≤xs.length
 val:∀k:Int,ba kvs (Sum.inl k:Key)=if k∈dn∨ins xs k=[]then none else some (.ref (L k))
 at':∀k,k∉dn→ins xs k≠[]→H (L k)=some (.lst (aY (ins xs k)))∧H0 (L k)=none
 inj:∀k k',k∉dn→k'∉dn→ins xs k≠[]→ins xs k'≠[]→L k=L k'→k=k'
 same:Same H0 H
theorem Mem.grow{H0 a H':Hp}{d:Addr}{b:Int→Addr}{c:List (Key×V)}{xs:ZN}{dn:List Int}(m:Mem H0 a d b c xs dn)(s:Same a H'):Mem H0 H' d b c xs dn :=
 ⟨s _ _ m.dict,m.d0,m.len,m.val,λk h1 h2=>⟨s _ _ (m.at' k h1 h2).1,(m.at' k h1 h2).2⟩,m.inj,m.same.trans s⟩
theorem Mem.other{H0 c:Hp}{d p:Addr}{f:Int→Addr}{l:List (Key×V)}{xs:ZN}{dn:List Int}{j:List Int}{o:HO}(m:Mem H0 c d f l xs dn)(h:c p=some (.lst (j.map V.int)))(n:H0 p=none):Mem H0 (upd c p o) d f l xs dn:=by
 refine⟨?_,m.d0,m.len,m.val,λk h1 h2=>⟨?_,(m.at' k h1 h2).2⟩,m.inj,aK n m.same⟩
 ·rw[ai]
  ·exact m.dict
  ·intro e;have:=m.dict;rw[e,h]at this;cases this
 ·have b:=(m.at' k h1 h2).1;rw[ai]
  ·exact b
  ·intro e;rw[e,h]at b;injection b with b
   injection b with b
   have q:=h2;cases g:ins xs k with
   |nil=>exact h2 g
   |cons a r =>
    rw[g]at b;cases j with
    |nil=>simp[aY]at b
    |cons i s=>simp[aY]at b
theorem Mem.start{H0:Hp}{d:Addr}(a:H0 d=none):Mem H0 (upd H0 d (.dK [])) d (λ_=>d) [] [] [] :=
 ⟨ac,a,by simp,λk=>by rw[if_pos (.inr rfl)];rfl,λk _ a=>absurd rfl a,λk b _ _ a=>absurd rfl a,ag a⟩
theorem Mem.hit{H0 g:Hp}{d:Addr}{a:Int→Addr}{l:List (Key×V)}{xs:ZN}{z:Addr×Nd}(m:Mem H0 g d a l xs [])(f:ins xs z.2.par≠[]):
  Mem H0 (upd g (a z.2.par) (.lst (aY (ins xs z.2.par)++[.ref z.1]))) d a l (xs++[z]) []:=by
 have i:=(m.at' z.2.par (by simp) f);have n:d≠a z.2.par:=λe=>by
  have:=m.dict;rw[e,i.1]at this;cases this
 have b:∀k,ins (xs++[z]) k=[]↔ins xs k=[]:=λk=>by
  rw[fm]
  by_cases h:z.2.par=k
  ·rw[if_pos h];subst h;simp[f]
  ·rw[if_neg h]
 refine⟨by rw[ai n];exact m.dict,m.d0,by have:=m.len;simp;omega,λk=>?_,λk h1 h2=>?_,λk j _ _ h2 h3 e=>m.inj k j (by simp) (by simp) (λh=>h2 ((b k).mpr h)) (λh=>h3 ((b j).mpr h)) e,aK i.2 m.same⟩
 ·rw[m.val k];simp only[b k]
 ·have c:ins xs k≠[]:=λh=>h2 ((b k).mpr h);refine⟨?_,(m.at' k h1 c).2⟩
  by_cases h:z.2.par=k
  ·subst h;rw[ac,fm,if_pos rfl,iM]
  ·rw[ai,fm,if_neg h]
   ·exact(m.at' k h1 c).1
   ·intro e;exact h (m.inj _ _ (by simp) (by simp) f c e.symm)
theorem Mem.fresh{H0 j:Hp}{d q:Addr}{c:Int→Addr}{g:List (Key×V)}{xs:ZN}{z:Addr×Nd}(m:Mem H0 j d c g xs [])(p:ins xs z.2.par=[])(f:j q=none):
  Mem H0 (upd (upd (upd j q (.lst [])) d (.dK (cp g (Sum.inl z.2.par:Key) (.ref q)))) q (.lst ([]++[.ref z.1]))) d (λk=>if k=z.2.par then q else c k) (cp g (Sum.inl z.2.par:Key) (.ref q)) (xs++[z]) []:=by
 have o:d≠q:=λe=>by
  have:=m.dict;rw[e,f]at this;cases this
 have i:∀k,ins xs k≠[]→c k≠q:=λk h e=>by
  have:=(m.at' k (by simp) h).1;rw[e,f]at this;cases this
 have ld:∀k,ins xs k≠[]→c k≠d:=λk h e=>by
  have:=(m.at' k (by simp) h).1;rw[e,m.dict]at this;cases this
 have n:H0 q=none:=m.same.free f;have a:∀k,k≠z.2.par→ins (xs++[z]) k=ins xs k:=λk h=>by rw[fm,if_neg (λe=>h e.symm)]
 have l:ins (xs++[z]) z.2.par=[z]:=by rw[fm,if_pos rfl,p];rfl
 refine⟨by rw[ai o,ac],m.d0,?_,λk=>?_,λk h1 h2=>?_,λk b _ _ h2 h3 e=>?_,?_⟩
 ·have h1:=m.len;have h2:=dH g (Sum.inl z.2.par:Key) (.ref q);rw[length_append,length_singleton];omega
 ·rw[jI]
  by_cases h:k=z.2.par
  ·subst h;rw[if_pos rfl,if_neg (by rw[l];simp),if_pos rfl]
  ·rw[if_neg (λe=>h (Sum.inl.inj e)),m.val k,a k h,if_neg h]
 ·by_cases h:k=z.2.par
  ·subst h;simp only[if_true];exact⟨by rw[ac,l];rfl,n⟩
  ·rw[a k h]at h2;simp only[if_neg h];refine⟨?_,(m.at' k h1 h2).2⟩;rw[ai (i k h2),ai (ld k h2),ai (i k h2),a k h];exact(m.at' k h1 h2).1
 ·by_cases h:k=z.2.par
  ·by_cases h':b=z.2.par
   ·rw[h,h']
   ·rw[a b h']at h3;simp only[if_pos h,if_neg h']at e;exact absurd e.symm (i b h3)
  ·rw[a k h]at h2
   by_cases h':b=z.2.par
   ·simp only[if_neg h,if_pos h']at e;exact absurd e (i k h2)
   ·rw[a b h']at h3;simp only[if_neg h,if_neg h']at e;exact m.inj k b (by simp) (by simp) h2 h3 e
 ·exact aK n (aK m.d0 (m.same.trans (ag f)))
theorem tO{κ:Type}[DecidableEq κ](a:List (κ×V))(k j:κ):ba (dh a k) j=if j=k then none else ba a j:=by
 induction a with
 |nil=>simp[dh,ba]
 |cons p r b =>
  by_cases e:p.1=k
  ·rw[sW e,b]
   by_cases h:j=k
   ·rw[if_pos h,if_pos h]
   ·rw[if_neg h,if_neg h,bc (λz=>h (z.symm.trans e))]
  ·rw[sX e]
   by_cases h:p.1=j
   ·rw[bq h,if_neg (λz=>e (h.trans z)),bq h]
   ·rw[bc h,b,bc h]
theorem Mem.drop{H0 g:Hp}{d:Addr}{b:Int→Addr}{f:List (Key×V)}{xs:ZN}{dn:List Int}(m:Mem H0 g d b f xs dn)(x:Int):Mem H0 (upd g d (.dK (dh f (Sum.inl x:Key)))) d b (dh f (Sum.inl x:Key)) xs (x::dn):=by
 have ld:∀k,k∉dn→ins xs k≠[]→b k≠d:=λk c h e=>by
  have:=(m.at' k c h).1;rw[e,m.dict]at this;cases this
 have a:∀k,k∉x::dn→k∉dn:=λk h h'=>h (mem_cons_of_mem _ h');refine⟨ac,m.d0,le_trans (oC _ _) m.len,λk=>?_,λk h1 h2=>?_,λk i c h1 h2 h3 e=>m.inj k i (a k c) (a i h1) h2 h3 e,aK m.d0 m.same⟩
 ·rw[tO,m.val k]
  by_cases h:k=x
  ·rw[if_pos (by rw[h]),if_pos (.inl (by rw[h];simp))]
  ·rw[if_neg (λe=>h (Sum.inl.inj e))];simp[h]
 ·rw[ai (ld k (a k h1) h2)];exact m.at' k (a k h1) h2
theorem Mem.skip{H0 b:Hp}{d:Addr}{c:Int→Addr}{g:List (Key×V)}{xs:ZN}{dn:List Int}(m:Mem H0 b d c g xs dn){x:Int}(j:x∈dn∨ins xs x=[]):Mem H0 b d c g xs (x::dn):=by
 have a:∀k,k∉x::dn→k∉dn:=λk h h'=>h (mem_cons_of_mem _ h');refine⟨m.dict,m.d0,m.len,λk=>?_,λk h1 h2=>m.at' k (a k h1) h2,λk f i h1 h2 h3 e=>m.inj k f (a k i) (a f h1) h2 h3 e,m.same⟩;rw[m.val k]
 by_cases h:k=x
 ·subst h;rw[if_pos j,if_pos (.inl (by simp))]
 ·simp[h]
theorem vp{Q:VK}{H0 c:Hp}{d q:Addr}{i:Int→Addr}{b:List (Key×V)}{zs:ZN}{dn:List Int}{x:Int}(m:Mem H0 c d i b zs dn)(r:c q=some (.lst []))(k:∀l g t j,Mem H0 g d i t zs (x::dn)→g l=some (.lst (aY j))→nds j=TW.here (nds zs) dn x→(∀z∈j,z∈zs)→(∀p,p≠d→g p=c p)→(j=[]→l=q)→Q (.ref l) g):
  ∃b k,c d=some (.dK b)∧V.int x=kV k∧(∀v,ba b k=some v→Q v (upd c d (.dK (dh b k))))∧(ba b k=none→Q (.ref q) c):=by
 refine⟨b,.inl x,m.dict,rfl,λv f=>?_,λn=>?_⟩
 ·rw[m.val x]at f
  by_cases h:x∈dn∨ins zs x=[]
  ·rw[if_pos h]at f;cases f
  ·rw[if_neg h]at f;have h1:x∉dn:=λz=>h (.inl z);have h2:ins zs x≠[]:=λz=>h (.inr z);cases f;have a:=(m.at' x h1 h2).1;have ld:i x≠d:=λe=>by rw[e,m.dict]at a;cases a
   refine k (i x) _ _ (ins zs x) (m.drop x) (by rw[ai ld];exact a) ?_ (λz s=>xw s) (λp o=>ai o) (λe=>absurd e h2);rw[sg];unfold TW.here;rw[if_neg h1]
 ·rw[m.val x]at n
  by_cases h:x∈dn∨ins zs x=[]
  ·refine k q _ _ [] (m.skip h) r ?_ (by simp) (λp _=>rfl) (λ_=>rfl);unfold TW.here
   by_cases h1:x∈dn
   ·rw[if_pos h1];rfl
   ·rw[if_neg h1];rcases h with h|h
    ·exact absurd h h1
    ·rw[←sg,h]
  ·rw[if_neg h]at n;cases n
theorem sh{d:Hp}{p f:Addr}{c:ZN}{g:List Int}(j:d p=some (.lst (g.map V.int)))(b:d f=some (.lst (aY c)))(h:c≠[]):f≠p:=by
 intro e;rw[e,j]at b;injection b with b
 injection b with b
 cases c with
 |nil=>exact h rfl
 |cons a r =>
  cases g with
  |nil=>simp[aY]at b
  |cons i k=>simp[aY]at b
def lQ(H:Hp)(p:Addr):Nat:=match H p with
 |some (.lst xs)=>xs.length
 |_=>0
theorem il{H:Hp}{p:Addr}{xs:List V}(h:H p=some (.lst xs)):lQ H p=xs.length:=by unfold lQ;rw[h]
def dE(l:List Nd):List V:=(l.map (·.num)).map V.int
def eG(K:PySem.W.Frag)(b:Hp)(a:Addr):Prop:=∃c:List Int,SqL K b a (c.map V.int)
theorem eG.same{K:PySem.W.Frag}{b H':Hp}{a:Addr}(c:eG K b a)(s:Same b H'):eG K H' a:=let⟨d,e⟩:=c;⟨d,s.seq e⟩
theorem pr{ns:List Int}{i:Int}(a:0≤i)(b:i<ns.length):∃j,atI (ns.map V.int) i=some (.int j):=by
 refine⟨ns[i.toNat]'(by omega),?_⟩;have:=eO (xs:=ns.map V.int) (j:=i.toNat) (v:=.int (ns[i.toNat]'(by omega))) (by rw[getElem?_map,getElem?_eq_getElem (by omega)];rfl);rw[show((i.toNat:Nat):Int)=i by omega]at this;exact this
def Has(P:Program)(w:World)(K:PySem.W.Frag)(mg:Str→Option Value)(base:Heap)(k:Nat)(x:Str)(a:List Str)(sp:Sp):Prop:=∃f fd,FnOk P w K mg base CX0 k f fd a sp∧mg x=some (.ref f)∧keepIn K (.ref f)=true∧bf K fd a []
def xy(n:Nd):Prop:=1≤n.num∧n.num≤12∧(n.nm="a"∨n.nm="b"∨n.nm="c"∨n.nm="abcde")∧(n.st=none∨n.st=some 0∨n.st=some 1∨n.st=some 2∨n.st=some 999)
structure Bd(zs:ZN)(lf:List Int):Prop where
 built:TW.Built (nds zs)
 nd:((nds zs).map (·.num)++lf).Nodup
 rng:∀x∈lf,1≤x∧x≤12
 own:TW.de (nds zs)
 ok:∀z∈zs,xy z.2
theorem Bd.skip{zs:ZN}{a:List Int}(b:Bd zs a)(i:Nat):Bd zs (a.eraseIdx i) :=
 ⟨b.built,Nodup.sublist (Sublist.append (Sublist.refl _) (List.eraseIdx_sublist a i)) b.nd,λx c=>b.rng x ((List.eraseIdx_sublist a i).mem c),b.own,b.ok⟩
theorem kd:∀{l:List Int}{i:Nat}{x:Int},l[i]?=some x→(x::l.eraseIdx i).Perm l
 |a::l,0,x,h=>by
  have:a=x:=by simpa using h
  subst this;exact List.Perm.refl _
 |a::l,i+1,x,h=>by
  have h':l[i]?=some x:=by simpa using h
  exact(List.Perm.swap a x _).trans (List.Perm.cons a (kd h'))
 |[],i,x,h=>by simp at h
theorem Bd.add{zs:ZN}{a:List Int}{i:Nat}{q:Addr}{n:Nd}(b:Bd zs a)(f:a[i]?=some n.num)(r:n.par∈(0:Int)::TW.aT (nds zs))(p:∀z∈zs,¬(z.2.par=n.par∧z.2.nm=n.nm))(k:n.nm="a"∨n.nm="b"∨n.nm="c"∨n.nm="abcde")(l:n.st=none∨n.st=some 0∨n.st=some 1∨n.st=some 2∨n.st=some 999):Bd (zs++[(q,n)]) (a.eraseIdx i):=by
 have e:nds (zs++[(q,n)])=nds zs++[n]:=by simp[nds]
 have t:=kd f;refine⟨?_,?_,λx c=>b.rng x ((List.eraseIdx_sublist a i).mem c),?_,λz d=>?_⟩
 ·rw[e];refine .snoc b.built ?_;rcases mem_cons.mp r with h|h
  ·exact .inl h
  ·exact .inr (TW.iY.mp h)
 ·rw[e,map_append,append_assoc];exact((List.Perm.append_left _ t).nodup_iff).mpr b.nd
 ·rw[e];unfold TW.de;rw[map_append,nodup_append];refine⟨b.own,by simp,λx c y s=>?_⟩;have g:y=(n.par,n.nm):=by simpa using s
  subst g;obtain⟨m,o,rfl⟩:=mem_map.mp c;obtain⟨z,d,rfl⟩:=mem_map.mp o;intro h;injection h with h1 h2
  exact p z d ⟨h1,h2⟩
 ·rcases mem_append.mp d with h|h
  ·exact b.ok z h
  ·have j:z=(q,n):=by simpa using h
   subst j;have:=b.rng n.num (mem_of_getElem? f);exact⟨this.1,this.2,k,l⟩
def tp(z:Addr×Nd):hZ:=(z.1,z.2.num,[.int z.2.par,.str z.2.nm,stV z.2.st])
def un(t:hZ):Addr×Nd:=(t.1,match t.2.2 with
 |[.int p,.str s,.int i]=>⟨t.2.1,p,s,some i⟩
 |[.int p,.str s,_]=>⟨t.2.1,p,s,none⟩
 | _=>⟨0,0,"",none⟩)
theorem yA(z:Addr×Nd):un (tp z)=z:=by
 obtain⟨a,⟨n,p,s,st⟩⟩:=z;cases st<;>rfl
theorem back{zs:ZN}{ts:List hZ}(a:ts.Perm (zs.map tp)):(ts.map un).Perm zs∧(ts.map un).map tp=ts:=by
 constructor
 ·have:=a.map un;rw[map_map]at this;have e:zs.map (un∘tp)=zs.map id:=map_congr_left λz _=>yA z;rw[e,List.map_id]at this;exact this
 ·rw[map_map,map_congr_left (g:=id)]
  ·simp
  ·intro t b;obtain⟨z,_,rfl⟩:=mem_map.mp (a.mem_iff.mp b);show tp (un (tp z))=tp z;rw[yA]
theorem jo(zs:ZN):((zs.map tp).map (·.1)).map V.ref=aY zs:=by
 unfold aY;simp only[map_map];rfl
theorem vq{n:Nat}{j:Int}(a:0≤j)(b:j<n):seqIndex? j n=some j.toNat:=(mw (by unfold ixN;rw[if_pos a,if_pos b])).1
theorem lR:∀(l:List Int)(i:Nat),(l.map V.int).eraseIdx i=(l.eraseIdx i).map V.int
 |[],i=>by simp
 |a::l,0=>rfl
 |a::l,i+1=>by
  show V.int a::(l.map V.int).eraseIdx i=V.int a::(l.eraseIdx i).map V.int;rw[lR l i]
theorem si{ns:List Int}{i:Int}(a:0≤i)(b:i<ns.length):∃x∈ns,atI (ns.map V.int) i=some (.int x):=by
 refine⟨ns[i.toNat]'(by omega),getElem_mem _,?_⟩;have:=eO (xs:=ns.map V.int) (j:=i.toNat) (v:=.int (ns[i.toNat]'(by omega))) (by rw[getElem?_map,getElem?_eq_getElem (by omega)];rfl);rw[show((i.toNat:Nat):Int)=i by omega]at this;exact this
theorem sj{j:Int}(a:0≤j)(b:j<4):∃x:Str,(x="a"∨x="b"∨x="c"∨x="abcde")∧atI [V.str "a",.str "b",.str "c",.str "abcde"] j=some (.str x):=by
 obtain rfl|rfl|rfl|rfl:j=0∨j=1∨j=2∨j=3:=by omega
 ·exact⟨"a",.inl rfl,rfl⟩
 ·exact⟨"b",.inr (.inl rfl),rfl⟩
 ·exact⟨"c",.inr (.inr (.inl rfl)),rfl⟩
 ·exact⟨"abcde",.inr (.inr (.inr rfl)),rfl⟩
theorem xz{j:Int}(a:0≤j)(b:j<4):∃i:Int,(some i=none∨some i=some (0:Int)∨some i=some 1∨some i=some 2∨some i=some 999)∧atI [V.int 0,.int 1,.int 2,.int 999] j=some (.int i):=by
 obtain rfl|rfl|rfl|rfl:j=0∨j=1∨j=2∨j=3:=by omega
 ·exact⟨0,.inr (.inl rfl),rfl⟩
 ·exact⟨1,.inr (.inr (.inl rfl)),rfl⟩
 ·exact⟨2,.inr (.inr (.inr (.inl rfl))),rfl⟩
 ·exact⟨999,.inr (.inr (.inr (.inr rfl))),rfl⟩
structure Sta(H:Hp)(pl pf pn:Addr)(Hx:Hp)(lf fs:List Int)(zs:ZN):Prop where
 same:Same H Hx
 l:Hx pl=some (.lst (lf.map V.int))
 f:Hx pf=some (.lst (fs.map V.int))
 n:Hx pn=some (.lst (aY zs))
 nd:At Hx zs
 l0:H pl=none
 f0:H pf=none
 n0:H pn=none
 lf':pl≠pf
 ln':pl≠pn
 fn':pf≠pn
theorem Sta.grow{b c d:Hp}{pl h pn:Addr}{g e:List Int}{zs:ZN}(a:Sta b pl h pn c g e zs)(s:Same c d):Sta b pl h pn d g e zs :=
 ⟨a.same.trans s,s _ _ a.l,s _ _ a.f,s _ _ a.n,a.nd.same s,a.l0,a.f0,a.n0,a.lf',a.ln',a.fn'⟩
theorem At.over{a:Hp}{p:Addr}{xs:List V}{o:HO}{zs:ZN}(b:At a zs)(d:a p=some (.lst xs)):At (upd a p o) zs:=λz c=>by
 rw[ai]
 ·exact b z c
 ·intro e;have:=b z c;rw[e,d]at this;cases this
theorem Sta.pop{b c:Hp}{pl g pn:Addr}{h d:List Int}{zs:ZN}(a:Sta b pl g pn c h d zs)(e:List Int):Sta b pl g pn (upd c pl (.lst (e.map V.int))) e d zs :=
 ⟨aK a.l0 a.same,ac,by rw[ai (Ne.symm a.lf')];exact a.f,by rw[ai (Ne.symm a.ln')];exact a.n,a.nd.over a.l,a.l0,a.f0,a.n0,a.lf',a.ln',a.fn'⟩
theorem Sta.fold{d e:Hp}{pl c pn:Addr}{g b:List Int}{zs:ZN}(a:Sta d pl c pn e g b zs)(x:Int):Sta d pl c pn (upd e c (.lst (b.map V.int++[.int x]))) g (b++[x]) zs :=
 ⟨aK a.f0 a.same,by rw[ai a.lf'];exact a.l,by rw[ac];simp,by rw[ai (Ne.symm a.fn')];exact a.n,a.nd.over a.f,a.l0,a.f0,a.n0,a.lf',a.ln',a.fn'⟩
theorem Sta.node{d b:Hp}{pl j pn q:Addr}{i g:List Int}{zs:ZN}{n:Nd}(a:Sta d pl j pn b i g zs)(c:b q=some (.tup (vals n))):Sta d pl j pn (upd b pn (.lst (aY zs++[.ref q]))) i g (zs++[(q,n)]) :=
 ⟨aK a.n0 a.same,by rw[ai a.ln'];exact a.l,by rw[ai a.fn'];exact a.f,by rw[ac,iM],(λz o=>by
  rcases mem_append.mp o with h|h
  ·exact a.nd.over a.n z h
  ·have m:z=(q,n):=by simpa using h
   subst m;rw[ai]
   ·exact c
   ·intro e;have k:q=pn:=e;rw[k,a.n]at c;cases c),a.l0,a.f0,a.n0,a.lf',a.ln',a.fn'⟩
def lf0(m:Int):List Int:=(List.range (m+4-1).toNat).map λk=>(1:Int)+(k:Nat)
theorem xA{m:Int}(h:0≤m):((lf0 m).length:Int)=m+3:=by unfold lf0;rw[length_map,length_range];omega
theorem xB{m:Int}(c:m≤9):∀x∈lf0 m,1≤x∧x≤12:=λx a=>by
 unfold lf0 at a;obtain⟨k,b,rfl⟩:=mem_map.mp a;have:=mem_range.mp b;omega
theorem zC(m:Int):(lf0 m).Nodup:=by
 unfold lf0 Nodup;rw[pairwise_map];exact nodup_range.imp λh e=>h (by omega)
theorem Bd.zero{m:Int}(h:m≤9):Bd [] (lf0 m):=⟨.nil,by show(([]:List Int)++lf0 m).Nodup;rw[List.nil_append];exact zC m,xB h,by unfold TW.de nds;simp,by simp⟩
def eS(zs:ZN):List (Key×V):=zs.map λz=>((Sum.inl z.2.num:Key),V.ref z.1)
theorem ny{zs:ZN}(d:((nds zs).map (·.num)).Nodup){z:Addr×Nd}(b:z∈zs):ba (eS zs) (Sum.inl z.2.num:Key)=some (.ref z.1):=by
 induction zs with
 |nil=>simp at b
 |cons y zs f =>
  have a:y.2.num∉(nds zs).map (·.num)∧((nds zs).map (·.num)).Nodup:=by simpa [nds]using d
  show ba (((Sum.inl y.2.num:Key),V.ref y.1)::eS zs) _=_;rcases mem_cons.mp b with e|c
  ·subst e;exact bq rfl
  ·rw[bc]
   ·exact f a.2 c
   ·intro e;injection e with e
    exact a.1 (mem_map.mpr ⟨z.2,mem_map.mpr ⟨z,c,rfl⟩,e.symm⟩)
theorem qA{zs:ZN}{k:Int}(a:∀z∈zs,z.2.num≠k):ba (eS zs) (Sum.inl k:Key)=none:=by
 induction zs with
 |nil=>rfl
 |cons y zs c =>
  show ba (((Sum.inl y.2.num:Key),V.ref y.1)::eS zs) _=_;rw[bc]
  ·exact c λz b=>a z (mem_cons_of_mem _ b)
  ·intro e;injection e with e
   exact a y (by simp) e
def qB(H:Hp)(d:Addr)(zs:ZN):Prop:=∃o,H d=some (.frz o (.dK (eS zs)))
theorem qB.get{a:Hp}{d:Addr}{zs:ZN}(b:qB a d zs)(c:((nds zs).map (·.num)).Nodup){z:Addr×Nd}(f:z∈zs):cO a d (.int z.2.num) (some (.ref z.1)):=by
 obtain⟨o,e⟩:=b;exact .inl ⟨eS zs,Sum.inl z.2.num,.inr ⟨o,e⟩,rfl,(ny c f).symm⟩
theorem qB.not{a:Hp}{d:Addr}{zs:ZN}(b:qB a d zs){k:Int}(c:∀z∈zs,z.2.num≠k):cO a d (.int k) none:=by
 obtain⟨o,e⟩:=b;exact .inl ⟨eS zs,Sum.inl k,.inr ⟨o,e⟩,rfl,(qA c).symm⟩
theorem bY{ns:List Nd}(T:TW.Tree1 ns):(ns.map (·.num)).Nodup:=by
 have h:=T.rise;unfold TW.ce at h;unfold Nodup;rw[pairwise_map];exact h.imp λh e=>by omega
theorem xC{ys:List V}{zs:ZN}{e:Hp}{p:Addr}{g:Addr×Nd→List V}(d:ys.length=zs.length)(f:∀(i:Nat) y,ys[i]?=some y→∃q z,zs[i]?=some z∧y=.ref q∧q≠p∧e q=some (.tup (g z))):
  ∃b:List (Addr×(Addr×Nd)),b.map (·.2)=zs∧ys=(b.map (·.1)).map V.ref∧∀a∈b,a.1≠p∧e a.1=some (.tup (g a.2)):=by
 induction ys generalizing zs with
 |nil =>
  have:zs=[]:=length_eq_zero_iff.mp d.symm;subst this;exact⟨[],rfl,rfl,by simp⟩
 |cons y ys s =>
  cases zs with
  |nil=>simp at d
  |cons z zs =>
   obtain⟨b,h,j,k⟩:=s (zs:=zs) (by simpa using d) λi x r=>by simpa using f (i+1) x (by simpa using r)
   obtain⟨q,z',l,m,n,o⟩:=f 0 y rfl;have:z=z':=by simpa using l
   subst this;refine⟨(q,z)::b,by simp[h],by simp[j,m],λa c=>?_⟩;rcases mem_cons.mp c with rfl|c
   ·exact⟨n,o⟩
   ·exact k a c
theorem kg{κ:Type}[DecidableEq κ]{a:List (κ×V)}(d:(a.map (·.1)).Nodup){k:κ}{v:V}(b:(k,v)∈a):ba a k=some v:=by
 induction a with
 |nil=>simp at b
 |cons y a f =>
  have c:y.1∉a.map (·.1)∧(a.map (·.1)).Nodup:=by simpa using d
  rcases mem_cons.mp b with e|h'
  ·subst e;exact bq rfl
  ·rw[bc]
   ·exact f c.2 h'
   ·intro e;exact c.1 (mem_map.mpr ⟨_,h',e.symm⟩)
theorem nA{κ:Type}[DecidableEq κ]{a:List (κ×V)}{k:κ}(b:k∉a.map (·.1)):ba a k=none:=by
 induction a with
 |nil=>rfl
 |cons y a c =>
  have h':¬k=y.1∧k∉a.map (·.1):=by simpa using b
  rw[bc (λe=>h'.1 e.symm)];exact c h'.2
theorem xE{zs:ZN}{k:Int}{q:List Str}(T:TW.Tree1 (nds zs))(a:TW.PathTo (nds zs) k q)(b:k≠0):∃z∈zs,z.2.num=k∧∃q',q=q'++[z.2.nm]∧TW.PathTo (nds zs) z.2.par q':=by
 cases a with
 |top=>exact absurd rfl b
 |@node n q' hm hq' =>
  obtain⟨z,c,rfl⟩:=mem_map.mp hm;exact⟨z,c,rfl,q',rfl,hq'⟩
def dU(P:Program)(w:World)(K:PySem.W.Frag)(mg:Str→Option Value)(base:Heap)(k:Nat)(x:Str)(a:List Str)(sp:Sp):Prop:=∃f fd,FnOk P w K mg base (CX1 P w) k f fd a sp∧mg x=some (.ref f)∧keepIn K (.ref f)=true∧bf K fd a []
structure Tre(H:Hp)(t:Addr)(zs:ZN):Prop where
 tup:H t=some (.tup (aY zs))
 nod:At H zs
 tr:TW.Tree1 (nds zs)
 len:zs.length≤30
theorem Tre.same{H H':Hp}{t:Addr}{zs:ZN}(h:Tre H t zs)(s:Same H H'):Tre H' t zs:=⟨s _ _ h.tup,h.nod.same s,h.tr,h.len⟩
theorem tP{ns:List Nd}(T:TW.Tree1 ns){f:Int}{b:List Int}{a:List Nd}(c:TW.Walk ns f b a []):(a.map (·.num)).Nodup:=by
 have h:=bY T;have:(a.map (·.num)).Perm ((ns.filter (TW.dL b)).map (·.num)):=c.perm.map _;exact this.nodup_iff.mpr (h.sublist (filter_sublist.map _))
theorem _root_.L2.Same.rd{H H':Hp}(s:Same H H'){a:Addr}{u:HO}(r:Rd H a u):Rd H' a u:=by
 rcases r with r|⟨o,r⟩
 ·exact .inl (s _ _ r)
 ·exact .inr ⟨o,s _ _ r⟩
def aV(b:List (Addr×(Addr×Nd))):List (Key×V):=b.map λa=>((Sum.inl a.2.2.num:Key),V.ref a.1)
def aO(n:Nd):List V:=[.int n.par,.str n.nm,stV n.st]
structure Book(H:Hp)(d:Addr)(as:List (Addr×(Addr×Nd)))(zs:ZN):Prop where
 dict:Rd H d (.dK (aV as))
 of:as.map (·.2)=zs
 at':∀a∈as,H a.1=some (.tup (aO a.2.2))
theorem Book.same{c H':Hp}{d:Addr}{e:List (Addr×(Addr×Nd))}{zs:ZN}(b:Book c d e zs)(s:Same c H'):Book H' d e zs:=⟨s.rd b.dict,b.of,λa f=>s _ _ (b.at' a f)⟩
theorem gO{a:List (Addr×(Addr×Nd))}{zs:ZN}(b:a.map (·.2)=zs):(aV a).map (·.1)=((nds zs).map (·.num)).map (Sum.inl:Int→Key):=by
 rw[←b];unfold aV nds;simp only[map_map];rfl
theorem vt{b:List (Addr×(Addr×Nd))}{zs:ZN}(a:b.map (·.2)=zs)(c:((nds zs).map (·.num)).Nodup):((aV b).map (·.1)).Nodup:=by
 rw[gO a];unfold Nodup at c⊢;rw[pairwise_map];exact c.imp λa e=>a (by injection e)
theorem Book.get{c:Hp}{d:Addr}{e:List (Addr×(Addr×Nd))}{zs:ZN}(b:Book c d e zs)(g:((nds zs).map (·.num)).Nodup){z:Addr×Nd}(h:z∈zs):∃q,cO c d (.int z.2.num) (some (.ref q))∧c q=some (.tup (aO z.2)):=by
 have:z∈e.map (·.2):=by rw[b.of];exact h
 obtain⟨a,f,rfl⟩:=mem_map.mp this;refine⟨a.1,.inl ⟨aV e,Sum.inl a.2.2.num,b.dict,rfl,?_⟩,b.at' a f⟩;exact(kg (vt b.of g) (mem_map.mpr ⟨a,f,rfl⟩)).symm
theorem Book.not{a:Hp}{d:Addr}{c:List (Addr×(Addr×Nd))}{zs:ZN}(b:Book a d c zs){k:Int}(g:∀z∈zs,z.2.num≠k):cO a d (.int k) none:=by
 refine .inl ⟨aV c,Sum.inl k,b.dict,rfl,(nA λf=>?_).symm⟩;rw[gO b.of]at f;obtain⟨i,hi,e⟩:=mem_map.mp f;obtain⟨n,h,rfl⟩:=mem_map.mp hi;obtain⟨z,j,rfl⟩:=mem_map.mp h;injection e with e
 exact g z j e
def vw(ns:List Nd)(k:Int):Nat:=open Classical in if h:∃p,TW.PathTo ns k p then (Classical.choose h).length else 0
theorem sk{ns:List Nd}(T:TW.Tree1 ns){k:Int}{p:List Str}(a:TW.PathTo ns k p):vw ns k=p.length:=by
 unfold vw;have b:∃p,TW.PathTo ns k p:=⟨p,a⟩;rw[dif_pos b];rw[(Classical.choose_spec b).uniq T a]
theorem BM(n:Nd):atI (aO n) 0=some (.int n.par):=rfl
abbrev gw(x:Str)(mg:Str→Option Value)(base:Heap)(C:Addr):Prop:=PyProof.Rows.OwnCls x C bmV "ValueError.__new__" mg base
theorem sm(o:Option Int):(!decide (stV o=V.non))=o.isSome:=by cases o<;>simp[stV]
theorem cr(zs:ZN):zs.map (λz=>V.ref z.1)=aY zs:=by simp[aY]
def BN:TW.Wd→Str
 |.known=>"Known"
 |.noNode=>"NoNode"
 |.notFile=>"NotFile"
 |.notFolder=>"NotFolder"
 |.inside=>"Inside"
 |.taken=>"Taken"
abbrev xF(mg:Str→Option Value)(base:Heap)(cls:TW.Wd→Addr):Prop:=∀w,gw (BN w) mg base (cls w)
structure Outs(H:Hp)(t:List Nd)(d:TW.Deed Str)(cls:TW.Wd→Addr)(Q:VK)(E:XK):Prop where
 ok:∀us t' H',Same H H'→H' t'=some (.tup (aY us))→At H' us→TW.Told t d (.inr (nds us))→Q (.ref t') H'
 no:∀w H',Same H H'→TW.Told t d (.inl w)→E (.ref (cls w)) none H'
theorem iZ{K:PySem.W.Frag}{c:Hp}{l:Addr}{zs:ZN}{Q:VK}(f:SqL K c l (aY zs)∨SqT K c l (aY zs))(k:At c zs)(t:((nds zs).map (·.num)).Nodup)(s:zs.length<64)(q:∀us t' H',Same c H'→H' t'=some (.tup (aY us))→At H' us→us.Perm zs→TW.ce (nds us)→Q (.ref t') H'):
  ∃i,∃d:List hZ,[V.ref l]=[V.ref i]∧(SqL K c i ((d.map (·.1)).map V.ref)∨SqT K c i ((d.map (·.1)).map V.ref))∧(∀z∈d,c z.1=some (.tup (.int z.2.1::z.2.2)))∧(d.map (·.2.1)).Nodup∧d.length<64 ∧
   ∀e:List hZ,e.Perm d→e.Pairwise (λa b=>a.2.1<b.2.1)→∀p,c p=none→∃g ys,[V.ref p]=[V.ref g]∧((SqL K (upd c p (.lst ((e.map (·.1)).map V.ref))) g ys∧∀l,upd c p (.lst ((e.map (·.1)).map V.ref)) l=none→Q (.ref l) (upd (upd c p (.lst ((e.map (·.1)).map V.ref))) l (.tup ys))) ∨
    (SqT K (upd c p (.lst ((e.map (·.1)).map V.ref))) g ys∧Q (.ref g) (upd c p (.lst ((e.map (·.1)).map V.ref))))):=by
 have u:(zs.map tp).map (·.2.1)=(nds zs).map (·.num):=by
  unfold nds;simp only[map_map];rfl
 refine⟨l,zs.map tp,rfl,by rw[jo];exact f,λz h=>?_,by rw[u];exact t,by rw[length_map];exact s,λd w x p m=>?_⟩
 ·obtain⟨y,v,rfl⟩:=mem_map.mp h;exact k y v
 ·obtain⟨n,j⟩:=back w;have r:(d.map (·.1)).map V.ref=aY (d.map un):=by rw[←jo,j]
  rw[r];refine⟨p,_,rfl,.inl ⟨SqL.of ac,λl f=>?_⟩⟩;refine q (d.map un) l _ ((ag m).trans (ag f)) ac ?_ n ?_
  ·intro z h;exact((ag m).trans (ag f)) _ _ (k z (n.mem_iff.mp h))
  ·unfold nds TW.ce;rw[pairwise_map];have o:((d.map un).map tp).Pairwise (λa b=>a.2.1<b.2.1):=by rw[j];exact x
   rw[pairwise_map]at o;exact o
def cf:TW.Deed Str→List V
 |.make n p nm st=>[.str "make",.int n,.int p,.str nm,stV st]
 |.write n st=>[.str "write",.int n,.int st]
 |.move n p nm=>[.str "move",.int n,.int p,.str nm]
 |.drop n=>[.str "drop",.int n]
def dW:TW.Deed Str→Prop
 |.make n p nm _=>1≤n∧n≤60∧0≤p∧p≤60∧nm.length≤100
 |.write n _=>1≤n∧n≤60
 |.move n p nm=>1≤n∧n≤60∧0≤p∧p≤60∧nm.length≤100
 |.drop n=>1≤n∧n≤60
theorem dW.pos{d:TW.Deed Str}(h:dW d):d.pos:=by
 cases d<;>first|exact h.1|trivial
theorem bZ{zs:ZN}{z:Addr×Nd}(h:z∈zs):z.2∈nds zs:=mem_map.mpr ⟨z,h,rfl⟩
theorem fo{zs:ZN}{n:Nd}(h:n∈nds zs):∃z∈zs,z.2=n:=mem_map.mp h
theorem cJ{zs:ZN}{k:Int}(a:¬∃z∈zs,z.2.num=k):¬TW.cI (nds zs) k:=λ⟨m,b,e⟩=>by
 obtain⟨z,c,rfl⟩:=fo b;exact a ⟨z,c,e⟩
theorem eI{zs:ZN}{k:Int}{z:Addr×Nd}(a:z∈zs)(e:z.2.num=k):TW.cI (nds zs) k:=⟨z.2,bZ a,e⟩
def vx:TW.Wd→Str
 |.known=>"known"
 |.noNode=>"no node"
 |.notFile=>"not file"
 |.notFolder=>"not folder"
 |.inside=>"inside"
 |.taken=>"taken"
def bw(bs:List (Addr×Nd)):List (Key×V):=bs.map λb=>((Sum.inl b.2.num:Key),V.ref b.1)
theorem nB(b:List (Addr×(Addr×Nd))):aV b=bw (b.map λa=>(a.1,a.2.2)):=by
 unfold aV bw;rw[map_map];rfl
theorem kh(bs:List (Addr×Nd)):(bw bs).map (λp=>kV p.1)=bs.map λb=>V.int b.2.num:=by
 unfold bw;rw[map_map];rfl
theorem iN{bs:List (Addr×Nd)}(a:(bs.map (·.2.num)).Nodup){b:Addr×Nd}(c:b∈bs):ba (bw bs) (Sum.inl b.2.num:Key)=some (.ref b.1):=by
 refine kg ?_ (mem_map.mpr ⟨b,c,rfl⟩);unfold bw;rw[map_map];unfold Nodup at a⊢;rw[pairwise_map]at a⊢;exact a.imp λh e=>h (by injection e)
theorem tQ(bs:List (Addr×Nd))(c:Addr)(n:Nd):cp (bw bs) (Sum.inl n.num:Key) (.ref c)=bw (if ∃b∈bs,b.2.num=n.num then bs.map (λb=>if b.2.num=n.num then (c,n)else b)else bs++[(c,n)]):=by
 unfold cp
 by_cases h:∃b∈bs,b.2.num=n.num
 ·obtain⟨b,d,e⟩:=h;have a:((bw bs).any λf=>decide (f.1=(Sum.inl n.num:Key)))=true:=by
   rw[any_eq_true];exact⟨_,mem_map.mpr ⟨b,d,rfl⟩,by simp[e]⟩
  rw[if_pos a,if_pos ⟨b,d,e⟩];unfold bw;rw[map_map,map_map];apply map_congr_left;intro x _;show(if (Sum.inl x.2.num:Key)=Sum.inl n.num then ((Sum.inl x.2.num:Key),V.ref c)else ((Sum.inl x.2.num:Key),V.ref x.1))=_
  by_cases e:x.2.num=n.num
  ·rw[if_pos (by rw[e])];show _=((Sum.inl (if x.2.num=n.num then (c,n)else x).2.num:Key),V.ref (if x.2.num=n.num then (c,n)else x).1)
   rw[if_pos e,e]
  ·rw[if_neg (λh=>e (by injection h))];show _=((Sum.inl (if x.2.num=n.num then (c,n)else x).2.num:Key),V.ref (if x.2.num=n.num then (c,n)else x).1)
   rw[if_neg e]
 ·have a:¬((bw bs).any λf=>decide (f.1=(Sum.inl n.num:Key)))=true:=λa=>h (by
   obtain⟨y,i,e⟩:=any_eq_true.mp a;obtain⟨b,d,rfl⟩:=mem_map.mp i;have g:(Sum.inl b.2.num:Key)=Sum.inl n.num:=by simpa using e
   exact⟨b,d,by injection g⟩)
  rw[if_neg a,if_neg h];unfold bw;rw[map_append];rfl
theorem zD(n:Nd):atI (aO n) 2=some (stV n.st):=rfl
theorem pw{i:Hp}{d q:Addr}{g:List (Addr×(Addr×Nd))}{zs:ZN}{new:Nd}(hd:i d=some (.dK (aV g)))(s:g.map (·.2)=zs)(w:∀a∈g,i a.1=some (.tup (aO a.2.2)))(l:i q=some (.tup (aO new)))(B:((nds zs).map (·.num)).Nodup):
  ∃bs:List (Addr×Nd),upd i d (.dK (cp (aV g) (Sum.inl new.num:Key) (.ref q))) d=some (.dK (bw bs))∧(∀b∈bs,upd i d (.dK (cp (aV g) (Sum.inl new.num:Key) (.ref q))) b.1=some (.tup (aO b.2)))∧(bs.map (·.2.num)).Nodup∧bs.length≤zs.length+1 ∧
   ((TW.cI (nds zs) new.num∧bs.map (·.2)=(nds zs).map (TW.put new))∨(¬TW.cI (nds zs) new.num∧bs.map (·.2)=nds zs++[new])):=by
 have j:(g.map λa=>(a.1,a.2.2)).map (·.2)=nds zs:=by rw[←s];unfold nds;rw[map_map,map_map];rfl
 have z:(g.map λa=>(a.1,a.2.2)).length=zs.length:=by rw[←s,length_map,length_map]
 have n:∀a xs,i a=some (.tup xs)→a≠d:=λa xs h e=>by rw[e,hd]at h;cases h
 have k:∀b∈g.map (λa=>(a.1,a.2.2)),i b.1=some (.tup (aO b.2)):=λb f=>by
  obtain⟨a,v,rfl⟩:=mem_map.mp f;exact w a v
 rw[nB,tQ];generalize g.map (λa=>(a.1,a.2.2))=cs at j z k⊢;have p:(∃b∈cs,b.2.num=new.num)↔TW.cI (nds zs) new.num:=by
  rw[←j];constructor
  ·rintro⟨b,f,e⟩;exact⟨b.2,mem_map.mpr ⟨b,f,rfl⟩,e⟩
  ·rintro⟨m,A,e⟩;obtain⟨b,f,rfl⟩:=mem_map.mp A;exact⟨b,f,e⟩
 have r:(cs.map (·.2.num)).Nodup:=by
  have:cs.map (·.2.num)=(nds zs).map (·.num):=by rw[←j,map_map];rfl
  rw[this];exact B
 by_cases h:∃b∈cs,b.2.num=new.num
 ·rw[if_pos h];refine⟨_,ac,λb f=>?_,?_,by rw[length_map];omega,.inl ⟨p.mp h,?_⟩⟩
  ·obtain⟨c,o,rfl⟩:=mem_map.mp f
   by_cases e:c.2.num=new.num
   ·rw[if_pos e,ai (n _ _ l)];exact l
   ·rw[if_neg e,ai (n _ _ (k c o))];exact k c o
  ·have:(cs.map λb=>if b.2.num=new.num then (q,new)else b).map (·.2.num)=cs.map (·.2.num):=by
    rw[map_map];apply map_congr_left;intro c _;show(if c.2.num=new.num then (q,new)else c).2.num=c.2.num
    by_cases e:c.2.num=new.num
    ·rw[if_pos e];exact e.symm
    ·rw[if_neg e]
   rw[this];exact r
  ·rw[←j,map_map,map_map];apply map_congr_left;intro c _;show(if c.2.num=new.num then (q,new)else c).2=TW.put new c.2
   unfold TW.put
   by_cases e:c.2.num=new.num
   ·rw[if_pos e,if_pos e]
   ·rw[if_neg e,if_neg e]
 ·rw[if_neg h];refine⟨_,ac,λb f=>?_,?_,by rw[length_append];simp;omega,.inr ⟨λx=>h (p.mpr x),by rw[map_append,j];rfl⟩⟩
  ·rcases mem_append.mp f with f|f
   ·rw[ai (n _ _ (k b f))];exact k b f
   ·have e:b=(q,new):=by simpa using f
    subst e;rw[ai (n _ _ l)];exact l
  ·rw[map_append,nodup_append];refine⟨r,by simp,λx C y D e=>?_⟩;have u:y=new.num:=by simpa using D
   obtain⟨b,f,t⟩:=mem_map.mp C;exact h ⟨b,f,by rw[t,e,u]⟩
def ki(t:List Nd)(dd:TW.Deed Str)(n p:Int)(nm:Str):Prop:=(∃st,dd=.make n p nm st∧¬TW.cI t n)∨(dd=.move n p nm∧TW.cI t n)
theorem ki.no{t:List Nd}{dd:TW.Deed Str}{n p:Int}{nm:Str}(d:ki t dd n p nm)(b:p≠0)(c:¬TW.cI t p):TW.Told t dd (.inl .noNode):=by
 rcases d with⟨st,rfl,a⟩|⟨rfl,a⟩
 ·exact .mNo a b c
 ·exact .vNoP a b c
theorem ki.file{t:List Nd}{dd:TW.Deed Str}{n p:Int}{nm:Str}(f:ki t dd n p nm)(b:p≠0){m:Nd}(c:m∈t)(e:m.num=p)(d:m.st≠none):TW.Told t dd (.inl .notFolder):=by
 rcases f with⟨st,rfl,a⟩|⟨rfl,a⟩
 ·exact .mFile a b c e d
 ·exact .vFile a b c e d
def NotIn(t:List Nd)(dd:TW.Deed Str)(n p:Int):Prop:=(∃nm,dd=.move n p nm)→p≠0→¬TW.Und t n p
theorem ki.taken{t:List Nd}{dd:TW.Deed Str}{n p:Int}{nm:Str}(f:ki t dd n p nm)(d:TW.ig t p)(g:NotIn t dd n p){m:Nd}(e:m∈t)(h:m.num≠n)(b:m.par=p)(c:m.nm=nm):TW.Told t dd (.inl .taken):=by
 rcases f with⟨st,rfl,a⟩|⟨rfl,a⟩
 ·exact .mTaken a d e b c
 ·exact .vTaken a d (g ⟨_,rfl⟩) e h b c
def lp(x:Str):Prop:=x="a"∨x="b"∨x="c"∨x="abcde"
def xG(s:Option Int):Prop:=∀i,s=some i→0≤i∧i≤999
def eT(n:Nd):Prop:=1≤n.num∧n.num≤60∧lp n.nm∧xG n.st
def dF:TW.Deed Str→Prop
 |.make n p nm st=>1≤n∧n≤60∧0≤p∧p≤60∧lp nm∧xG st
 |.write n st=>1≤n∧n≤60∧0≤st∧st≤999
 |.move n p nm=>1≤n∧n≤60∧0≤p∧p≤60∧lp nm
 |.drop n=>1≤n∧n≤60
theorem lp.len{x:Str}(h:lp x):x.length≤100:=by
 rcases h with rfl|rfl|rfl|rfl<;>decide +kernel
theorem dF.ok{d:TW.Deed Str}(a:dF d):dW d:=by
 cases d with
 |make n p nm st=>obtain⟨h1,h2,h3,b,c,_⟩:=a;exact⟨h1,h2,h3,b,c.len⟩
 |write n st=>exact⟨a.1,a.2.1⟩
 |move n p nm=>obtain⟨h1,h2,h3,b,c⟩:=a;exact⟨h1,h2,h3,b,c.len⟩
 |drop n=>exact a
theorem eT.told{t u:List Nd}{d:TW.Deed Str}(b:∀n∈t,eT n)(hd:dF d)(h:TW.Told t d (.inr u)):∀n∈u,eT n:=by
 refine h.all b (λn p nm st e=>?_) (λn st e y c g=>?_) (λn p nm e y c g=>?_)
 ·subst e;obtain⟨h1,h2,h3,f,a,j⟩:=hd;exact⟨h1,h2,a,j⟩
 ·subst e;obtain⟨h1,h2,h3,f⟩:=hd;exact⟨h1,h2,(b y c).2.2.1,λi e=>by injection e with e;omega⟩
 ·subst e;obtain⟨h1,h2,h3,f,a⟩:=hd;exact⟨h1,h2,a,(b y c).2.2.2⟩
theorem xy.ok{n:Nd}(a:xy n):eT n:=by
 obtain⟨h1,h2,h3,b⟩:=a;refine⟨h1,by omega,h3,λi e=>?_⟩;rcases b with a|a|a|a|a<;>rw[a]at e<;>cases e<;>decide
theorem so{ns:List Int}{i:Int}(a:0≤i)(b:i<ns.length){P:Int→Prop}(c:∀x∈ns,P x):∃x,atI (ns.map V.int) i=some (.int x)∧P x:=by
 obtain⟨x,d,e⟩:=si a b;exact⟨x,e,c x d⟩
def top(i:Nat):Stmt:=PySem.Challenge.pw_treewatch_k41_whole_readers.main.body.getD i (.Pass ⟨0,0,0,0⟩)
abbrev fq:Stmt:=fZ (top 43) 0
abbrev ft:Stmt:=fZ (top 43) 1
abbrev gP:Stmt:=fZ (top 43) 2
abbrev eU:Stmt:=fZ (top 43) 4
abbrev dX:Stmt:=fZ (top 43) 5
abbrev fu:Stmt:=fZ (top 43) 6
abbrev qD:Stmt:=top 16
abbrev vz:Stmt:=top 17
abbrev qF:Stmt:=top 18
abbrev vA:Stmt:=top 19
abbrev vB:Stmt:=top 20
abbrev zE:Stmt:=top 21
abbrev zF:Stmt:=top 22
abbrev vC:Stmt:=top 23
abbrev vD:Stmt:=top 24
abbrev zG:Stmt:=top 25
abbrev zH:Stmt:=top 26
abbrev zI:Stmt:=top 27
abbrev cK:Stmt:=top 29
abbrev cR:Stmt:=top 30
abbrev aZ:Stmt:=top 31
abbrev eJ:Stmt:=top 32
abbrev cD:Stmt:=top 33
abbrev zJ:Stmt:=top 35
abbrev sr:Stmt:=top 36
abbrev vE:Stmt:=top 37
abbrev qG:Stmt:=top 38
abbrev vF:Stmt:=top 39
abbrev su:Stmt:=top 40
abbrev vG:Stmt:=top 41
abbrev vH:Stmt:=top 45
abbrev vI:Stmt:=top 46
abbrev iO:Stmt:=top 47
abbrev vJ:Stmt:=top 48
abbrev qH:Stmt:=top 50
abbrev cu:Stmt:=top 51
abbrev ja:Stmt:=top 52
abbrev vK:Stmt:=top 54
abbrev gQ:Stmt:=top 55
abbrev lr:Stmt:=top 56
structure Txt(mg:Str→Option Value):Prop where
 isin:mg "isinstance"=none
 dict:mg "dict"=none
 len:mg "len"=none
 tuple:mg "tuple"=none
 list:mg "list"=none
 range:mg "range"=none
 sorted:mg "sorted"=none
 reversed:mg "reversed"=none
 ValueError:mg "ValueError"=none
 str:mg "str"=none
 set:mg "set"=none
 max:mg "max"=none
 min:mg "min"=none
 sum:mg "sum"=none
 zip:mg "zip"=none
 enumerate:mg "enumerate"=none
 all:mg "all"=none
 int:mg "int"=none
 bool:mg "bool"=none
 top:∃t,mg "TOP"=some (.int 0 t)
 letters:∃t,mg "LETTERS"=some (.str "abcdefghijklmnopqrstuvwxyz" t)
 longest:∃t,mg "LONGEST_NAME"=some (.int 5 t)
 greatest:∃t,mg "GREATEST_STAMP"=some (.int 999 t)
section
variable{P:Program}{w:World}{K:PySem.W.Frag}{mg:Str→Option Value}{base:Heap}
def pz:Sp:=λvs H Q _=>∃t f zs,vs=[.ref t,.int f]∧H t=some (.tup (aY zs))∧At H zs∧zs.length≤100∧∀fd dn l H',TW.Walk (nds zs) f dn fd []→H' l=some (.lst (dE fd))→Same H H'→Q (.ref l) H'
theorem kj:FnScope ["nodes","folder","members","node","found","pending","here"] ["nodes","folder"] (aj zF):=fsc
theorem zK{f:Addr}{g:FuncData}(F:Fun K "numbers_inside" "numbers_inside" zF f g)(T:Txt mg):FnOk P w K mg base CX0 1 f g ["nodes","folder"] pz:=by
 refine F.ok kj (λvs H Q E h=>?_) (λcdv A outer s H vs Q E e9 h=>?_)
 ·obtain⟨t,f,zs,rfl,_⟩:=h;rfl
 ·obtain⟨t,f,zs,rfl,c3,b5,u,k⟩:=h;refine⟨_,af (ay (i:=2) kj.nd rfl (Or.inl rfl) uB)
   (af (fc PassesOwn.never rfl (cE (pv 0)) (aN (i:=3) kj.nd rfl (Or.inl rfl)) (ak (bg (cU plainAttrs_list PySem.F.slot_list_append PySem.F.type_list_append bn
     (cU plainAttrs_dict PySem.F.slot_dict_setdefault PySem.F.type_dict_setdefault li (pv 2) (aa (ax av (pv 3) ah (λ_ _=>rfl)) (aa (bi ae) ae))) (aa (pv 3) ae)))))
   (af (ay (i:=4) kj.nd rfl (Or.inl rfl) (bi ae))
   (af (ay (i:=5) kj.nd rfl (Or.inl rfl) (bi (aa (pv 1) ae)))
   (af (nZ PassesOwn.never (ul (pv 5) (λ_=>rfl))
    (af (ay (i:=6) kj.nd rfl (Or.inl rfl) (uC (pv 2) (yW plainAttrs_list slot_list_pop type_list_pop yX (pv 5)) (bi ae) ⟨rfl,rfl,rfl,rfl⟩))
    (ak (fc PassesOwn.never rfl (dj (pv 6)) (aN (i:=3) kj.nd rfl (Or.inl rfl))
     (af (bg (cU plainAttrs_list PySem.F.slot_list_append PySem.F.type_list_append bn (pv 4) (aa (ax av (pv 3) ah (λ_ _=>rfl)) ae)))
     (ak (aP (am fe (ax av (pv 3) ah (λ_ _=>rfl)) cn (au _)) (ak (bg (cU plainAttrs_list PySem.F.slot_list_append PySem.F.type_list_append bn (pv 5) (aa (ax av (pv 3) ah (λ_ _=>rfl)) ae)))) aA)))))))
   (ak (aw (pv 4))))))),?_⟩
  refine λd b6=>?_;have X:∀{n:Nat},n≤100→n<sizeLine:=λh=>aB (by omega);refine⟨_,rfl,t,rfl,⟨_,SqT.of (aS b6 c3)⟩,mh (xs:=aY zs) (λi σ H'=>∃l kvs r,σ=[some (.ref t),some (.int f),some (.ref d),r,none,none,none]∧Mem H H' d l kvs (zs.take i) [])
   ⟨_,_,_,rfl,Mem.start b6⟩ (λi σ H' _ h=>?_) (λi x σ H' e0 h=>?_) (λσ H' h=>?_)⟩
  ·obtain⟨_,_,_,_,m⟩:=h;exact SqT.of (m.same _ _ c3)
  ·obtain⟨l,kvs,r,rfl,m⟩:=h;obtain⟨z,M,rfl⟩:=ck e0;have a4:=mem_of_getElem? M;have G:zs.take (i+1)=zs.take i++[z]:=by rw[take_succ,M];rfl
   have d2:kvs.length≤100:=by have:=m.len;rw[length_take]at this;omega
   refine⟨_,rfl,.inr (.inr (.inl ⟨rfl,.inl ⟨_,m.dict⟩⟩)),_,rfl,z.1,_,_,_,rfl,rfl,SqT.of (m.same _ _ (b5 z a4)),at1 z.2,zero_le _,λq p=>?_⟩;have a3:=m.grow (ag (o:=.lst []) p);refine⟨d,kvs,.inl z.2.par,.ref q,rfl,rfl,a3.dict,X d2,λv O=>?_,λa0=>?_⟩
   ·rw[m.val]at O
    by_cases h:z.2.par∈([]:List Int)∨ins (zs.take i) z.2.par=[]
    ·rw[if_pos h]at O;cases O
    ·rw[if_neg h]at O;cases O;have h2:ins (zs.take i) z.2.par≠[]:=λz=>h (.inr z);have a:=(a3.at' z.2.par (by simp) h2).1;refine⟨.inl ⟨rfl,_,SqL.of a⟩,_,rfl,_,_,_,rfl,rfl,a,?_,?_⟩
     ·refine X ?_;rw[bd];exact le_trans (Sublist.length_le (Sublist.trans filter_sublist (take_sublist _ _))) u
     ·refine⟨l,kvs,_,rfl,?_⟩;rw[G];exact a3.hit h2
   ·rw[m.val]at a0
    by_cases h:z.2.par∈([]:List Int)∨ins (zs.take i) z.2.par=[]
    ·have h2:ins (zs.take i) z.2.par=[]:=h.resolve_left (by simp);have d8:q≠d:=λe=>by rw[e,m.dict]at p;cases p
     have a:upd (upd H' q (.lst [])) d (.dK (cp kvs (Sum.inl z.2.par:Key) (.ref q))) q=some (.lst []):=by rw[ai d8];exact ac
     refine⟨.inl ⟨rfl,_,SqL.of a⟩,_,rfl,q,[],_,rfl,rfl,a,X (zero_le _),?_⟩;have b4:=m.fresh (z:=z) h2 p;rw[←G]at b4;exact⟨_,_,_,rfl,b4⟩
    ·rw[if_neg h]at a0;cases a0
  ·obtain⟨l,kvs,r,rfl,m⟩:=h;rw[bd,take_length]at m;refine⟨zero_le _,λpf b9=>⟨_,rfl,aq (by simp),λpp N=>?_⟩⟩;have e4:=(m.grow (ag (o:=.lst []) b9)).grow (ag (o:=.lst [.int f]) N);have d6:H pf=none:=m.same.free b9;have I:pp≠pf:=λe=>by rw[e,ac]at N;cases N
   have c0:H pp=none:=by rw[ai I]at N;exact m.same.free N
   dsimp only[bu,gm];refine om (λσ H'=>∃l kvs dn g B r c4,σ=[some (.ref t),some (.int f),some (.ref d),r,some (.ref pf),some (.ref pp),c4]∧B.length≤g.length+1∧Mem H H' d l kvs zs dn∧TW.Walk (nds zs) f dn g B∧H' pf=some (.lst (dE g))∧H' pp=some (.lst (B.map V.int)))
    (λσ H'=>2*(zs.length-lQ H' pf)+lQ H' pp) ⟨l,kvs,[],[],[f],_,_,rfl,le_refl _,e4,TW.Walk.start _ _,by rw[ai (Ne.symm I),ac];rfl,ac⟩ (λσ H' h=>?_) ?_
   ·obtain⟨l,kvs,dn,g,B,r,c4,rfl,d7,m,c5,L,D⟩:=h;refine⟨_,rfl,_,.inl ⟨_,SqL.of D,rfl⟩,?_⟩
    by_cases a1:B=[]
    ·subst a1;exact aC ⟨_,rfl,k g dn pf H' c5 L m.same⟩
    ·obtain⟨j,x,rfl⟩:∃j x,B=j++[x]:=⟨B.dropLast,B.getLast a1,(List.dropLast_concat_getLast a1).symm⟩;have d1:(!((j++[x]).map V.int).isEmpty)=true:=by simp
     rw[if_pos d1];have d0:((j++[x]).map V.int)[((j++[x]).map V.int).length-1]?=some (.int x):=by simp
     have c8:((j++[x]).map V.int).dropLast=j.map V.int:=by simp
     refine⟨_,rfl,d,rfl,.inl ⟨_,Rd.of m.dict⟩,_,rfl,.inl ⟨rfl,_,SqL.of D⟩,pp,_,.int x,rfl,rfl,D,d0,zero_le _,λq p=>?_⟩;rw[c8]at p⊢;have e5:=(m.other (o:=.lst (j.map V.int)) D c0).grow (ag (o:=.lst []) p);have c2:q≠pp:=λe=>by rw[e,ac]at p;cases p
     have c1:q≠pf:=λe=>by rw[e,ai (Ne.symm I),L]at p;cases p
     refine vp e5 ac λu a6 a2 b e6 S c9 d9 b7 b8=>?_;have c6:pf≠d:=λe=>by have:=m.dict;rw[←e,L]at this;cases this
     have c7:pp≠d:=λe=>by have:=m.dict;rw[←e,D]at this;cases this
     have b1:a6 pf=some (.lst (dE g)):=by rw[b7 pf c6,ai (Ne.symm c1),ai (Ne.symm I)];exact L
     have b2:a6 pp=some (.lst (j.map V.int)):=by rw[b7 pp c7,ai (Ne.symm c2),ac]
     have d4:u≠pf:=by
      by_cases h:b=[]
      ·rw[b8 h];exact c1
      ·exact sh b1 S h
     have d5:u≠pp:=by
      by_cases h:b=[]
      ·rw[b8 h];exact c2
      ·exact sh b2 S h
     have a5:=c5.turn;rw[←c9]at a5;have d3:=a5.len;rw[length_append,aI,aI]at d3;rw[length_append,length_singleton]at d7;refine⟨_,rfl,u,rfl,⟨_,SqL.of S⟩,jB (xs:=aY b) (λc σ H'=>∃r,σ=[some (.ref t),some (.int f),some (.ref d),r,some (.ref pf),some (.ref pp),some (.ref u)]∧Mem H H' d l a2 zs (x::dn)∧H' u=some (.lst (aY b)) ∧
      H' pf=some (.lst (dE (g++nds (b.take c))))∧H' pp=some (.lst ((j++TW.aT (nds (b.take c))).map V.int))) ⟨_,rfl,e6,S,by rw[b1];simp[nds],by rw[b2];simp[nds,TW.aT]⟩
      (λc σ H' _ h=>?_) (λc y σ H' e1 h=>?_) (λσ H' h=>?_)⟩
     ·obtain⟨_,_,_,e,_⟩:=h;exact SqL.of e
     ·obtain⟨r,rfl,U,a8,C,J⟩:=h;obtain⟨z,M,rfl⟩:=ck e1;have a4:=d9 z (mem_of_getElem? M);have G:b.take (c+1)=b.take c++[z]:=by rw[take_succ,M];rfl
      have e2:(dE (g++nds (b.take c))).length≤100:=by
       unfold dE;rw[length_map,length_map,length_append,aI,length_take];omega
      have e3:((j++TW.aT (nds (b.take c))).map V.int).length≤1000:=by
       have:=TW.dM (nds (b.take c));rw[aI,length_take]at this;rw[length_map,length_append];omega
      have Z:∀{a7:Hp},Same H a7→a7 z.1=some (.tup (vals z.2)):=λs=>s _ _ (b5 z a4);have a9:dE (g++nds (b.take (c+1)))=dE (g++nds (b.take c))++[.int z.2.num]:=by rw[G];simp[dE,nds]
      have W:Mem H (upd H' pf (.lst (dE (g++nds (b.take c))++[.int z.2.num]))) d l a2 zs (x::dn):=U.other C d6;have b0:(upd H' pf (.lst (dE (g++nds (b.take c))++[.int z.2.num]))) u=some (.lst (aY b)):=by rw[ai d4];exact a8
      have R:(upd H' pf (.lst (dE (g++nds (b.take c))++[.int z.2.num]))) pp=some (.lst ((j++TW.aT (nds (b.take c))).map V.int)):=by rw[ai I];exact J
      refine⟨_,rfl,.inl ⟨rfl,_,SqL.of C⟩,_,rfl,z.1,_,_,_,rfl,rfl,SqT.of (Z U.same),at0 z.2,pf,_,_,rfl,rfl,C,X e2,?_⟩;refine⟨_,rfl,z.1,_,_,_,rfl,rfl,SqT.of (Z W.same),at3 z.2,rfl,_,rfl,?_⟩;cases b3:z.2.st with
      |none =>
       have Y:TW.aT (nds (b.take (c+1)))=TW.aT (nds (b.take c))++[z.2.num]:=by rw[G];simp[TW.aT,nds,b3]
       refine aQ ⟨_,rfl,.inl ⟨rfl,_,SqL.of R⟩,_,rfl,z.1,_,_,_,rfl,rfl,SqT.of (Z W.same),at0 z.2,pp,_,_,rfl,rfl,R,aB e3,?_⟩;refine⟨_,rfl,W.other R c0,by rw[ai d5];exact b0,by rw[ai (Ne.symm I),ac,a9],?_⟩;rw[ac,Y];simp
      |some i =>
       have Y:TW.aT (nds (b.take (c+1)))=TW.aT (nds (b.take c)):=by rw[G];simp[TW.aT,nds,b3]
       refine aC ⟨_,rfl,W,b0,by rw[ac,a9],?_⟩;rw[R,Y]
     ·obtain⟨r,rfl,U,a8,C,J⟩:=h;rw[bd,take_length]at C J;refine⟨⟨l,a2,x::dn,_,_,r,_,rfl,?_,U,a5,C,J⟩,?_⟩
      ·have:=TW.dM (nds b);rw[aI]at this;rw[length_append,length_append,aI];omega
      show 2*(zs.length-lQ H' pf)+lQ H' pp<_;rw[il C,il J,il L,il D];have:=TW.dM (nds b);rw[aI]at this;simp only[dE,length_map,length_append,aI,length_singleton];omega
   ·rintro σ H Q e8 e7 ⟨v,e,k,tv,q⟩;exact⟨v,e,k,tv,e7 _ _ q⟩
def km:Sp:=λvs H Q _=>∃t zs,vs=[.ref t]∧H t=some (.tup (aY zs))∧At H zs∧zs.length≤100∧((nds zs).map (·.num)).Nodup∧∀d H',Same H H'→qB H' d zs→Q (.ref d) H'
theorem Be:FnScope ["tree"] ["tree"] (aj vD):=fsc
theorem zL{f:Addr}{D:FuncData}(F:Fun K "by_number" "by_number" vD f D)(T:Txt mg):FnOk P w K mg base CX0 1 f D ["tree"] km:=by
 refine F.ok Be (λvs H Q E h=>?_) (λcdv A outer s H vs Q E b4 h=>?_)
 ·obtain⟨t,zs,rfl,_⟩:=h;rfl
 ·obtain⟨t,zs,rfl,u,Y,I,J,k⟩:=h;refine⟨_,ak (aw (aR (qv rfl) rfl T.dict boot_dict (aa (eD (N:=["node"]) (k:=1) (js:=[]) (g:=bu 0) rfl (cH rfl (by decide +kernel) (by decide +kernel) (by decide +kernel)) rfl (λi b5 x h=>by simp at h)
   (cE (pv 0)) (λs H fp=>aN (i:=0) (show(["node"]:List Str).Nodup by decide +kernel) rfl (Or.inl rfl) (Or.inr rfl))
   (λs H fp=>be (aa (ax (r:=dR K) av (pv 0) ah (λ_ _=>rfl)) (aa (pv 0) ae)))) ae))),?_⟩
  refine⟨_,rfl,t,rfl,⟨_,SqT.of u⟩,λp a2=>?_⟩;refine qx (fr:=[]) zs.length (by omega) a2 rfl (λi y H'=>∃q z,zs[i]?=some z∧y=.ref q∧q≠p∧H' q=some (.tup [.int z.2.num,.ref z.1])) (λi y H1 H2 h ex=>?_) (λi H' hi b=>?_) (λH' b=>?_) ?_ (λi H' x H2 hi b a4 a6=>?_) (λys H' b a3 a1 a7=>?_)
  ·obtain⟨q,z,c,v,n,C⟩:=h;exact⟨q,z,c,v,n,ex q _ n C⟩
  ·exact⟨_,_,SqT.of (b _ _ u),dD (getElem?_eq_getElem hi)⟩
  ·exact⟨_,SqT.of (b _ _ u),by rw[bd];exact le_refl _⟩
  ·rintro _ _ _ _ m ⟨b1,M,b0,xs,a8,b2,R,S,U,W,b3,O,B,q⟩;exact⟨b1,M,b0,xs,a8,b2,R,S,U,W,b3,O,B,λl I=>m _ _ (q l I)⟩
  ·obtain⟨rfl,a5⟩:=a6;obtain⟨z,G,rfl⟩:=ck (a5 _ (SqT.of (b _ _ u)));have a9:=mem_of_getElem? G;refine⟨rfl,_,rfl,z.1,_,_,_,rfl,rfl,SqT.of (b _ _ (Y z a9)),at0 z.2,_,rfl,le2,λq L=>⟨ag L,q,z,G,rfl,dA a4 L,ac⟩⟩
  ·obtain⟨j,c,v,n⟩:=xC (g:=λz=>[.int z.2.num,.ref z.1]) a1 a7;have C:j.length=zs.length:=by rw[←c,length_map]
   have X:(j.map λa=>((Sum.inl a.2.2.num:Key),V.ref a.2.1))=eS zs:=by rw[←c];unfold eS;rw[map_map];rfl
   refine⟨p,j.map λa=>(a.1,(Sum.inl a.2.2.num:Key),V.ref a.2.1),rfl,?_,?_,?_,?_,λd o a0=>?_⟩
   ·rw[a3,v,map_map,map_map,map_map];rfl
   ·intro z B;obtain⟨a,Z,rfl⟩:=mem_map.mp B;exact(n a Z).2
   ·rw[length_map];omega
   ·rw[map_map];have:(j.map ((λx:Addr×Key×V=>x.2.1)∘λa=>(a.1,(Sum.inl a.2.2.num:Key),V.ref a.2.1)))=((nds zs).map (·.num)).map (Sum.inl:Int→Key):=by
     rw[←c];unfold nds;simp only[map_map];rfl
    rw[this];unfold Nodup at J⊢;rw[pairwise_map];exact J.imp λh e=>h (by injection e)
   ·refine k d _ (b.trans (ag a0)) ⟨o,?_⟩;rw[ac,map_map];exact congrArg (λx=>some (HO.frz o (.dK x))) X
abbrev vL(mg:Str→Option Value)(base:Heap)(C:Addr):Prop:=PyProof.Rows.OwnCls "NoNode" C bmV "ValueError.__new__" mg base
def kn(C:Addr):Sp:=λvs H Q E=>∃d k zs,vs=[.ref d,.int k]∧qB H d zs∧((nds zs).map (·.num)).Nodup∧0≤k∧k≤60∧(∀z∈zs,z.2.num=k→Q (.ref z.1) H)∧((∀z∈zs,z.2.num≠k)→E (.ref C) none H)
theorem Bf:FnScope ["nodes","number"] ["nodes","number"] (aj zG):=fsc
theorem zM{f C:Addr}{i:FuncData}(F:Fun K "node_of" "node_of" zG f i)(l:vL mg base C):FnOk P w K mg base (CX1 P w) 1 f i ["nodes","number"] (kn C):=by
 refine F.okX Bf (λvs H Q E h=>?_) (λcdv A outer s H vs Q E g h=>?_)
 ·obtain⟨d,k,zs,rfl,_⟩:=h;rfl
 ·obtain⟨d,k,zs,rfl,b,j,m,h1,n,o⟩:=h;refine⟨_,af (aP (eZ (fY (bh g) (pv 1) (pv 0))) (ak (cy bv l g.hd rfl (yx (pv 1) (by decide +kernel)))) aA) (ak (aw (cS (bh g) (pv 0) (pv 1) (λ_ _=>rfl)))),?_⟩
  by_cases c:∀z∈zs,z.2.num≠k
  ·refine⟨_,rfl,_,rfl,d,_,rfl,b.not c,_,rfl,?_⟩;exact aQ ⟨_,rfl,k,rfl,m,h1,λy=>⟨aq (show 1≤1000 by decide),o c⟩⟩
  ·obtain⟨z,a,e⟩:∃z∈zs,z.2.num=k:=by
    by_cases h:∃z∈zs,z.2.num=k
    ·exact h
    ·exact absurd (λz a e=>h ⟨z,a,e⟩) c
   subst e;refine⟨_,rfl,_,rfl,d,_,rfl,b.get j a,_,rfl,?_⟩;exact aC ⟨_,rfl,_,rfl,d,_,rfl,b.get j a,n z a rfl⟩
def sv(C:Addr):Sp:=λvs H Q E=>∃t k zs,vs=[.ref t,.int k]∧Tre H t zs∧0≤k∧k≤60 ∧
 ((k=0∨∃z∈zs,z.2.num=k)→∀(ms:List Int)(l:Addr)(H':Hp),Same H H'→ms.Pairwise (λa b:Int=>a<b)→ms.length≤zs.length→(∀x,x∈ms↔∃n∈nds zs,n.num=x∧TW.Reach (nds zs) k n)→H' l=some (.lst (ms.map V.int))→Q (.ref l) H') ∧
 (k≠0→(∀z∈zs,z.2.num≠k)→∀H',Same H H'→E (.ref C) none H')
theorem Bg:FnScope ["tree","number"] ["tree","number"] (aj zI):=fsc
theorem zN{f C:Addr}{i:FuncData}(F:Fun K "below" "below" zI f i)(T:Txt mg)(G:Has P w K mg base 1 "by_number" ["tree"] km)(CN:dU P w K mg base 1 "node_of" ["nodes","number"] (kn C))(I:Has P w K mg base 1 "numbers_inside" ["nodes","folder"] pz):
  FnOk P w K mg base (CX1 P w) 2 f i ["tree","number"] (sv C):=by
 obtain⟨b1,b4,J,a4,a1,N⟩:=G;obtain⟨b3,b6,M,a6,a3,R⟩:=CN;obtain⟨b2,b5,L,a5,a2,O⟩:=I;obtain⟨b8,W⟩:=T.top;refine F.okX Bg (λvs H Q E h=>?_) (λcdv A outer s H vs Q E j h=>?_)
 ·obtain⟨t,k,zs,rfl,_⟩:=h;rfl
 ·obtain⟨t,k,zs,rfl,c,U,h1,a8,a9⟩:=h;have y:=bY c.tr;have b7:=c.len;refine⟨_,af (aP (am dg (pv 1) (cg (v:=.int 0) rfl W ⟨_,rfl⟩) (au _))
    (ak (bg (al (E:=E) M j rfl a6 a3 R .nil (cW bv) (aa (al J j rfl a4 a1 N .nil aM (aa (pv 0) ae)) (aa (pv 1) ae))))) aA)
   (ak (aw (ar iJ rfl T.sorted boot_sorted (aa (al L j rfl a5 a2 O .nil aM (aa (pv 0) (aa (pv 1) ae))) ae)))),?_⟩
  have D:∀H1,Same H H1→(k=0∨∃z∈zs,z.2.num=k)→wK (tCB (λxs H Q=>∃l,∃o:List Int,xs=[.ref l]∧H l=some (.lst (o.map V.int))∧o.Nodup∧o.length<64∧∀ms:List Int,ms.Perm o→ms.Pairwise (λa b=>a<b)→∀p,H p=none→Q (.ref p) (upd H p (.lst (ms.map V.int))))
    (cM (rG pz [] E0 (cM (dP 0) (cM (dP 1) jF))) jF)) {nx:=λ_ H'=>Q .non H',rt:=Q} [some (.ref t),some (.int k)] H1:=by
   intro H1 g r;refine⟨_,rfl,_,rfl,t,k,zs,rfl,g _ _ c.tup,c.nod.same g,by omega,λi dn l H2 q S b0=>?_⟩;have u:=q.len;rw[aI]at u;refine⟨l,i.map (λn:Nd=>n.num),rfl,(show H2 l=some (.lst ((i.map λn:Nd=>n.num).map V.int))from S),tP c.tr q,by rw[length_map];omega,λms B Z p Y=>?_⟩;refine a8 r ms p _ ((g.trans b0).trans (ag Y)) Z (by rw[B.length_eq,length_map];exact u) (λx=>?_) ac;rw[B.mem_iff,mem_map];constructor
   ·rintro⟨n,X,e⟩;have:=(q.mem n).mp X;exact⟨n,this.mem,e,this⟩
   ·rintro⟨n,_,e,j⟩;exact⟨n,(q.mem n).mpr j,e⟩
  refine⟨_,rfl,rfl,_,rfl,?_⟩
  by_cases m:k=0
  ·have:decide (V.int k=V.int 0)=true:=by simp[m]
   rw[this];exact aC (D H (Same.refl _) (.inl m))
  ·have:decide (V.int k=V.int 0)=false:=by simp[m]
   rw[this];refine aQ ?_;refine⟨_,rfl,t,zs,rfl,c.tup,c.nod,by omega,y,λd H1 g a7=>?_⟩;refine⟨_,rfl,d,k,zs,rfl,a7,y,U,h1,λz a0 e=>D H1 g (.inr ⟨z,a0,e⟩),λr=>a9 m r H1 g⟩
def sw(CN a:Addr):Sp:=λvs H Q E=>∃d p zs,vs=[.ref d,.int p]∧qB H d zs∧At H zs∧((nds zs).map (·.num)).Nodup∧0≤p∧p≤60 ∧
 (TW.ig (nds zs) p→Q .non H)∧(p≠0→(∀z∈zs,z.2.num≠p)→E (.ref CN) none H)∧(∀z∈zs,z.2.num=p→p≠0→z.2.st≠none→E (.ref a) none H)
theorem Bh:FnScope ["nodes","number"] ["nodes","number"] (aj zH):=fsc
theorem zO{f CN g:Addr}{j:FuncData}(F:Fun K "check_folder" "check_folder" zH f j)(T:Txt mg)(r:gw "NotFolder" mg base g)(o:dU P w K mg base 1 "node_of" ["nodes","number"] (kn CN)):
  FnOk P w K mg base (CX1 P w) 2 f j ["nodes","number"] (sw CN g):=by
 obtain⟨M,N,q,I,G,t⟩:=o;obtain⟨O,x⟩:=T.top;refine F.okX Bh (λvs H Q E h=>?_) (λcdv A outer s H vs Q E l h=>?_)
 ·obtain⟨d,p,zs,rfl,_⟩:=h;rfl
 ·obtain⟨d,p,zs,rfl,B,u,D,k,h1,n,J,L⟩:=h;refine⟨_,ak (aP (PW.pt (pw_and (am dg (pv 1) (cg (v:=.int 0) rfl x ⟨_,rfl⟩) (au _)) (pw_and1 (am mr (ax av (al (E:=E) q l rfl I G t .nil (cW bv) (aa (pv 0) (aa (pv 1) ae))) ah (λ_ _=>rfl)) cn (au _)))))
   (ak (cy bv r l.hd rfl (ic (dB (c:=100) (by decide +kernel) (iK (pv 1) (dB (c:=100) (by decide +kernel) ka))) (by decide)))) aA),?_⟩
  refine⟨_,rfl,rfl,_,rfl,?_⟩
  by_cases a:p=0
  ·have:decide (V.int p=V.int 0)=true:=by simp[a]
   rw[this];exact aC (aC (n (.inl a)))
  ·have:decide (V.int p=V.int 0)=false:=by simp[a]
   rw[this];refine aQ ⟨_,rfl,_,rfl,d,p,zs,rfl,B,D,k,h1,λz b e=>?_,λC=>J a C⟩;refine⟨z.1,_,_,_,rfl,rfl,SqT.of (u z b),at3 z.2,rfl,_,rfl,?_⟩;rw[sm];cases m:z.2.st with
   |none=>exact aC (n (.inr ⟨z.2,bZ b,m,e⟩))
   |some i=>exact aQ ⟨_,rfl,p,rfl,k,h1,λy=>⟨aq (show 1≤1000 by decide),L z b e a (by rw[m];simp)⟩⟩
def pB(a:Addr):Sp:=λvs H Q E=>∃t k p nm zs,vs=[.ref t,.int k,.int p,.str nm]∧H t=some (.tup (aY zs))∧At H zs∧0≤p∧p≤60∧nm.length≤100 ∧
 ((∀z∈zs,z.2.num≠k→¬(z.2.par=p∧z.2.nm=nm))→Q .non H)∧(∀z∈zs,z.2.num≠k→z.2.par=p→z.2.nm=nm→E (.ref a) none H)
theorem yB:FnScope ["tree","number","parent","name","node"] ["tree","number","parent","name"] (aj zJ):=fsc
theorem zP{f q:Addr}{r:FuncData}(F:Fun K "check_place" "check_place" zJ f r)(D:gw "Taken" mg base q):FnOk P w K mg base (CX1 P w) 1 f r ["tree","number","parent","name"] (pB q):=by
 refine F.okX yB (λvs H Q E h=>?_) (λcdv A outer s H vs Q E M h=>?_)
 ·obtain⟨t,k,p,nm,zs,rfl,_⟩:=h;rfl
 ·obtain⟨t,k,p,nm,zs,rfl,v,J,I,h1,L,R,S⟩:=h;refine⟨_,ak (fc (zy bv) rfl (cE (pv 0)) (aN (i:=4) yB.nd rfl (Or.inl rfl))
   (ak (aP (PW.pt (pw_and (am dg (ax av (pv 4) ah (λ_ _=>rfl)) (pv 1) (au _)) (pw_and (am cB (ax av (pv 4) ah (λ_ _=>rfl)) (pv 2) (au _)) (pw_and1 (am cB (ax av (pv 4) ah (λ_ _=>rfl)) (pv 3) (au _))))))
    (ak (cy bv D M.hd rfl (ic (dB (c:=100) (by decide +kernel) (iK (pv 2) (dB (c:=100) (by decide +kernel) (zx (pv 3) ka)))) (by decide)))) aA))),?_⟩
  refine⟨_,rfl,t,rfl,⟨_,SqT.of v⟩,mh (xs:=aY zs) (λi σ H'=>(∃C,σ=[some (.ref t),some (.int k),some (.int p),some (.str nm),C])∧H'=H∧∀z∈zs.take i,z.2.num≠k→¬(z.2.par=p∧z.2.nm=nm)) ⟨⟨none,rfl⟩,rfl,by simp⟩ (λi σ H' _ h=>by rw[h.2.1];exact SqT.of v) (λi x σ H' N h=>?_) (λσ H' h=>?_)⟩
  ·obtain⟨⟨C,rfl⟩,rfl,hi⟩:=h;obtain⟨z,u,rfl⟩:=ck N;have B:=mem_of_getElem? u;have j:SqT K H' z.1 (vals z.2):=SqT.of (J z B);have G:zs.take (i+1)=zs.take i++[z]:=cQ u;have o:(z.2.num≠k→¬(z.2.par=p∧z.2.nm=nm))→∀y∈zs.take (i+1),y.2.num≠k→¬(y.2.par=p∧y.2.nm=nm):=λO y a=>by
    rw[G]at a;rcases mem_append.mp a with a|a
    ·exact hi y a
    ·have e:y=z:=by simpa using a
     subst e;exact O
   refine⟨_,rfl,z.1,_,_,_,rfl,rfl,j,at0 z.2,_,rfl,rfl,_,rfl,?_⟩
   by_cases b:z.2.num=k
   ·have l:(!decide (V.int z.2.num=V.int k))=false:=by simp[b]
    rw[l];exact aC (aC ⟨⟨_,rfl⟩,rfl,o λh=>absurd b h⟩)
   ·have l:(!decide (V.int z.2.num=V.int k))=true:=by simp[b]
    rw[l];refine aQ ⟨_,rfl,z.1,_,_,_,rfl,rfl,j,at1 z.2,_,rfl,rfl,_,rfl,?_⟩
    by_cases g:z.2.par=p
    ·have m:decide (V.int z.2.par=V.int p)=true:=by simp[g]
     rw[m];refine aQ ⟨_,rfl,z.1,_,_,_,rfl,rfl,j,at2 z.2,_,rfl,rfl,_,rfl,?_⟩
     by_cases d:z.2.nm=nm
     ·have n:decide (V.str z.2.nm=V.str nm)=true:=by simp[d]
      rw[n];exact aQ ⟨_,rfl,p,rfl,I,h1,_,rfl,nm,rfl,L,λy=>⟨aq (show 1≤1000 by decide),S z B b g d⟩⟩
     ·have n:decide (V.str z.2.nm=V.str nm)=false:=by simp[d]
      rw[n];exact aC ⟨⟨_,rfl⟩,rfl,o λ_ h=>d h.2⟩
    ·have m:decide (V.int z.2.par=V.int p)=false:=by simp[g]
     rw[m];exact aC (aC ⟨⟨_,rfl⟩,rfl,o λ_ h=>g h.1⟩)
  ·obtain⟨_,rfl,hi⟩:=h;rw[bd,take_length]at hi;exact R hi
def ko:Sp:=λvs H Q _=>∃t c n zs,vs=[.ref t,.ref c]∧H t=some (.tup (aY zs))∧At H zs∧H c=some (.tup (vals n))∧zs.length≤100∧∀a t' H',Same H H'→H' t'=some (.tup (aY a))→At H' a→nds a=(nds zs).map (TW.put n)→Q (.ref t') H'
theorem zQ:FnScope ["tree","changed"] ["tree","changed"] (aj sr):=fsc
theorem xH{f:Addr}{o:FuncData}(F:Fun K "with_node" "with_node" sr f o)(T:Txt mg):FnOk P w K mg base CX0 1 f o ["tree","changed"] ko:=by
 refine F.ok zQ (λvs H Q E h=>?_) (λcdv A outer s H vs Q E O h=>?_)
 ·obtain⟨t,c,n,zs,rfl,_⟩:=h;rfl
 ·obtain⟨t,c,n,zs,rfl,C,u,v,M,q⟩:=h;refine⟨_,ak (aw (aR bj rfl T.tuple rfl (aa (eD (N:=["node","changed"]) (cl:=[("changed",s.heap.objs.size+1)]) (k:=1) (js:=[1]) (g:=bu 0) rfl
    (LcOk.mk' ["changed"] rfl rfl (by decide +kernel) (by decide +kernel) ?hcl rfl (by decide +kernel)) rfl ?hj (cE (pv 0)) (λs H fp=>aN (i:=0) (show(["node","changed"]:List Str).Nodup by decide +kernel) rfl (Or.inl rfl) (Or.inr rfl))
    (λs H fp=>jA (am cB (ax (r:=dR K) av (pv 0) ah (λ_ _=>rfl)) (ax (r:=dR K) av (pv 1) ah (λ_ _=>rfl)) (au _)) (pv 1) (pv 0))) ae))),?_⟩
  case hcl =>
   intro y b;rcases mem_cons.mp b with e|b
   ·rw[e];rfl
   ·cases b
  case hj =>
   intro i R x h1 h2
   match i,h1,h2 with
   |0,h1,h2 =>
    cases h1;cases h2;exact⟨rfl,Or.inr (Or.inl rfl),(show((aj sr).names.lookup ("changed":Str)≠some NameKind.local)by decide +kernel),by first|exact Or.inl rfl|exact Or.inr rfl⟩
   |i+1,h1,h2=>simp at h1
  refine⟨_,rfl,t,rfl,⟨_,SqT.of C⟩,λp I=>?_⟩;refine dJ (fr:=[some (.ref c)]) zs (λz=>V.ref z.1) (by omega) I (eR (by rw[cr];exact SqT.of C)) rfl (λz y H'=>y=.ref (if z.2.num=n.num then c else z.1)) (λz y H H' h _=>h) (λz H' k m a _ B=>?_) (λys H' a J L=>?_)
  ·refine⟨_,rfl,z.1,_,_,_,rfl,rfl,SqT.of (a _ _ (u z m)),at0 z.2,_,rfl,c,_,_,_,rfl,rfl,SqT.of (a _ _ v),at0 n,rfl,_,rfl,?_⟩
   by_cases e:z.2.num=n.num
   ·have d:decide (V.int z.2.num=V.int n.num)=true:=by simp[e]
    rw[d];exact aQ ⟨_,rfl,B _ H' (Same.refl _) (by rw[if_pos e])⟩
   ·have d:decide (V.int z.2.num=V.int n.num)=false:=by simp[e]
    rw[d];exact aC ⟨_,rfl,B _ H' (Same.refl _) (by rw[if_neg e])⟩
  ·have G:=cq (f:=λz:Addr×Nd=>V.ref (if z.2.num=n.num then c else z.1)) L (λz y _ h=>h);refine⟨p,_,rfl,.inl ⟨SqL.of J,λl j=>?_⟩⟩;have D:aY (zs.map λz=>if z.2.num=n.num then (c,n)else z)=ys:=by
    rw[G,←cr,map_map];apply map_congr_left;intro z _;show V.ref (if z.2.num=n.num then (c,n)else z).1=_
    by_cases e:z.2.num=n.num
    ·rw[if_pos e,if_pos e]
    ·rw[if_neg e,if_neg e]
   refine q (zs.map λz=>if z.2.num=n.num then (c,n)else z) l _ (a.trans (ag j)) (by rw[D];exact ac) (λy b=>?_) ?_
   ·obtain⟨z,m,rfl⟩:=mem_map.mp b
    by_cases e:z.2.num=n.num
    ·rw[if_pos e];exact(a.trans (ag j)) _ _ v
    ·rw[if_neg e];exact(a.trans (ag j)) _ _ (u z m)
   ·unfold nds;rw[map_map,map_map];apply map_congr_left;intro z _;show(if z.2.num=n.num then (c,n)else z).2=TW.put n z.2
    unfold TW.put
    by_cases e:z.2.num=n.num
    ·rw[if_pos e,if_pos e]
    ·rw[if_neg e,if_neg e]
def qI(cls:TW.Wd→Addr):Sp:=λvs H Q E=>∃t n p nm st zs,vs=[.ref t,.int n,.int p,.str nm,stV st]∧Tre H t zs∧zs.length≤29∧dW (.make n p nm st)∧Outs H (nds zs) (.make n p nm st) cls Q E
theorem vM:FnScope ["tree","number","parent","name","stamp","nodes"] ["tree","number","parent","name","stamp"] (aj vE):=fsc
theorem xI{f:Addr}{O:FuncData}{cls:TW.Wd→Addr}(F:Fun K "make" "make" vE f O)(T:Txt mg)(a9:xF mg base cls)(a3:Has P w K mg base 1 "by_number" ["tree"] km)(a4:dU P w K mg base 2 "check_folder" ["nodes","number"] (sw (cls .noNode) (cls .notFolder)))(a5:dU P w K mg base 1 "check_place" ["tree","number","parent","name"] (pB (cls .taken))):FnOk P w K mg base (CX1 P w) 3 f O ["tree","number","parent","name","stamp"] (qI cls):=by
 obtain⟨d5,d8,a6,d2,c9,b0⟩:=a3;obtain⟨d6,d9,a7,d3,d0,b1⟩:=a4;obtain⟨d7,e0,a8,d4,d1,b2⟩:=a5;refine F.okX vM (λvs H Q E h=>?_) (λcdv A outer s H vs Q E D h=>?_)
 ·obtain⟨t,n,p,nm,st,zs,rfl,_⟩:=h;rfl
 ·obtain⟨t,n,p,nm,st,zs,rfl,k,e1,⟨e2,c1,X,Y,c2⟩,o⟩:=h;have Z:Room 1 _:=D.mono (by decide);have C:=bY k.tr;refine⟨_,af (ay (i:=5) vM.nd rfl (Or.inl rfl) (al a6 Z rfl d2 c9 b0 .nil aM (aa (pv 0) ae)))
   (af (aP (eZ (na (bh D) (pv 1) (pv 5))) (ak (cy bv (a9 .known) D.hd rfl (yx (pv 1) (by decide +kernel)))) aA)
   (af (bg (al (E:=E) a7 D rfl d3 d0 b1 .nil (cW bv) (aa (pv 5) (aa (pv 2) ae))))
   (af (bg (al (E:=E) a8 Z rfl d4 d1 b2 .nil (cW bv) (aa (pv 0) (aa (pv 1) (aa (pv 2) (aa (pv 3) ae))))))
   (ak (aw (aR bj rfl T.tuple rfl (aa (ar cG rfl T.sorted boot_sorted (aa (aD (uS.or gT) (pv 0) (be (aa (be (aa (pv 1) (aa (pv 2) (aa (pv 3) (aa (pv 4) ae))))) ae))) ae)) ae))))))),?_⟩
  refine⟨_,rfl,t,zs,rfl,k.tup,k.nod,by omega,C,λd H1 j M=>?_⟩
  by_cases J:∃z∈zs,z.2.num=n
  ·obtain⟨z,g,e⟩:=J;subst e;exact⟨_,rfl,_,rfl,d,_,rfl,M.get C g,_,rfl,aQ ⟨_,rfl,_,rfl,by omega,c1,λy=>⟨aq (show 1≤1000 by decide),o.no .known H1 j (.mKnown (eI g rfl))⟩⟩⟩
  ·have r:=cJ J;refine⟨_,rfl,_,rfl,d,_,rfl,M.not (λz g e=>J ⟨z,g,e⟩),_,rfl,aC ?_⟩;refine⟨_,rfl,_,rfl,d,p,zs,rfl,M,k.nod.same j,C,X,Y,λU=>?_,λI g=>o.no .noNode H1 j (.mNo r I (cJ λ⟨z,c8,e⟩=>g z c8 e)),λz g e I c6=>o.no .notFolder H1 j (.mFile r I (bZ g) e c6)⟩;refine⟨_,rfl,_,rfl,_,rfl,_,rfl,t,n,p,nm,zs,rfl,j _ _ k.tup,k.nod.same j,X,Y,c2,λc0=>?_,λz g _ b3 b4=>o.no .taken H1 j (.mTaken r U (bZ g) b3 b4)⟩;refine⟨_,rfl,_,rfl,_,rfl,_,rfl,_,rfl,(show 4≤sizeLine from aq (by decide)),λq c4=>⟨(show 1≤sizeLine from aq (by decide)),λc W=>?_⟩⟩;have G:Same H1 (upd (upd H1 q (.tup [.int n,.int p,.str nm,stV st])) c (.tup [.ref q])):=(ag c4).trans (ag W);have S:upd (upd H1 q (.tup [.int n,.int p,.str nm,stV st])) c (.tup [.ref q]) q=some (.tup (vals ⟨n,p,nm,st⟩)):=aS W ac;have v:upd (upd H1 q (.tup [.int n,.int p,.str nm,stV st])) c (.tup [.ref q]) c=some (.tup [.ref q]):=ac;generalize upd (upd H1 q (.tup [.int n,.int p,.str nm,stV st])) c (.tup [.ref q])=H2 at G S v⊢;have R:∀(l:Addr)(u:Hp),Same H2 u→SqT K u l (aY (zs++[(q,⟨n,p,nm,st⟩)]))→tCB (λxs H Q=>∃l,∃zs:List hZ,xs=[.ref l]∧(SqL K H l ((zs.map (·.1)).map V.ref)∨SqT K H l ((zs.map (·.1)).map V.ref))∧(∀z∈zs,H z.1=some (.tup (.int z.2.1::z.2.2)))∧(zs.map (·.2.1)).Nodup∧zs.length<64 ∧
     ∀N:List hZ,N.Perm zs→N.Pairwise (λa b=>a.2.1<b.2.1)→∀p,H p=none→Q (.ref p) (upd H p (.lst ((N.map (·.1)).map V.ref)))) (cM (tC (.ref l)) jF) [] u (λx H1=>(λxs H Q=>∃p ys,xs=[V.ref p]∧((SqL K H p ys∧∀l,H l=none→Q (V.ref l) (upd H l (.tup ys)))∨(SqT K H p ys∧Q (.ref p) H))) [x] H1 Q):=by
    intro l u a1 L;have a0:=(j.trans G).trans a1;refine iZ (.inr L) (λz g=>?_) ?_ (by rw[length_append];simp;omega) (λa2 t' H' s' c7 b7 c3 c5=>?_)
    ·rcases mem_append.mp g with h|h
     ·exact a0 _ _ (k.nod z h)
     ·have e:z=(q,⟨n,p,nm,st⟩):=by simpa using h
      subst e;exact a1 _ _ S
    ·have e:(nds (zs++[(q,(⟨n,p,nm,st⟩:Nd))])).map (·.num)=(nds zs).map (·.num)++[n]:=by simp[nds]
     rw[e,nodup_append];refine⟨C,by simp,λa b8 b b9 e=>?_⟩;have b5:b=n:=by simpa using b9
     obtain⟨m,B,b6⟩:=mem_map.mp b8;exact r ⟨m,B,by rw[b6,e,b5]⟩
    ·refine o.ok a2 t' H' (a0.trans s') c7 b7 (.made r U (λm B=>?_) ?_ c5)
     ·obtain⟨z,g,rfl⟩:=fo B;exact c0 z g λe=>r ⟨z.2,B,e⟩
     ·have:(nds a2).Perm (nds (zs++[(q,⟨n,p,nm,st⟩)])):=c3.map _;refine this.trans ?_;unfold nds;rw[map_append];exact List.perm_append_comm
   by_cases g:zs=[]
   ·subst g;exact .inl ⟨t,c,_,rfl,rfl,SqT.of ((j.trans G) _ _ k.tup),SqT.of v,R c H2 (Same.refl _) (SqT.of v)⟩
   ·refine .inr ⟨t,c,_,_,rfl,rfl,SqT.of ((j.trans G) _ _ k.tup),SqT.of v,?_,?_,λh=>absurd h (cons_ne_nil _ _),λ_ l L=>R l _ (ag L) (by rw[iM];exact SqT.of ac)⟩
    ·intro e;exact g (vm e)
    ·rw[bd];exact aq (by show zs.length+1≤1000;omega)
def nC(cls:TW.Wd→Addr):Sp:=λvs H Q E=>∃t n st zs,vs=[.ref t,.int n,.int st]∧Tre H t zs∧dW (.write n st)∧Outs H (nds zs) (.write n st) cls Q E
theorem sx:FnScope ["tree","number","stamp","node"] ["tree","number","stamp"] (aj qG):=fsc
theorem vN{f:Addr}{m:FuncData}{cls:TW.Wd→Addr}(F:Fun K "write" "write" qG f m)(D:xF mg base cls)(u:Has P w K mg base 1 "by_number" ["tree"] km)(CN:dU P w K mg base 1 "node_of" ["nodes","number"] (kn (cls .noNode)))(v:Has P w K mg base 1 "with_node" ["tree","changed"] ko):FnOk P w K mg base (CX1 P w) 2 f m ["tree","number","stamp"] (nC cls):=by
 obtain⟨Z,a2,x,U,R,G⟩:=u;obtain⟨a0,a3,B,V,S,I⟩:=CN;obtain⟨a1,a4,C,W,T,J⟩:=v;refine F.okX sx (λvs H Q E h=>?_) (λcdv A outer s H vs Q E g h=>?_)
 ·obtain⟨t,n,st,zs,rfl,_⟩:=h;rfl
 ·obtain⟨t,n,st,zs,rfl,a,⟨a6,p⟩,o⟩:=h;have q:=bY a.tr;have a5:=a.len;refine⟨_,af (ay (i:=3) sx.nd rfl (Or.inl rfl) (al (E:=E) B g rfl V S I .nil (cW bv) (aa (al x g rfl U R G .nil aM (aa (pv 0) ae)) (aa (pv 1) ae))))
   (af (aP (am fe (ax av (pv 3) ah (λ_ _=>rfl)) cn (au _)) (ak (cy bv (D .notFile) g.hd rfl (ic (dB (c:=100) (by decide +kernel) (iK (pv 1) (dB (c:=100) (by decide +kernel) ka))) (by decide)))) aA)
   (ak (aw (al C g rfl W T J .nil aM (aa (pv 0) (aa (be (aa (pv 1) (aa (ax av (pv 3) ah (λ_ _=>rfl)) (aa (ax av (pv 3) ah (λ_ _=>rfl)) (aa (pv 2) ae))))) ae)))))),?_⟩
  refine⟨_,rfl,t,zs,rfl,a.tup,a.nod,by omega,q,λd H1 j X=>?_⟩;refine⟨_,rfl,d,n,zs,rfl,X,q,by omega,p,λz b e=>?_,λN=>o.no .noNode H1 j (.wNo (cJ λ⟨z,b,e⟩=>N z b e))⟩;subst e;have k:SqT K H1 z.1 (vals z.2):=SqT.of (j _ _ (a.nod z b));refine⟨_,rfl,z.1,_,_,_,rfl,rfl,k,at3 z.2,rfl,_,rfl,?_⟩;cases r:z.2.st with
  |none=>exact aQ ⟨_,rfl,_,rfl,by omega,p,λy=>⟨aq (show 1≤1000 by decide),o.no .notFile H1 j (.wFold (bZ b) rfl r)⟩⟩
  |some i =>
   refine aC ⟨_,rfl,_,rfl,_,rfl,z.1,_,_,_,rfl,rfl,k,at1 z.2,_,rfl,z.1,_,_,_,rfl,rfl,k,at2 z.2,_,rfl,(show 4≤sizeLine from aq (by decide)),λc M=>?_⟩;have l:=j.trans (ag (o:=.tup [.int z.2.num,.int z.2.par,.str z.2.nm,.int st]) M);refine⟨t,c,⟨z.2.num,z.2.par,z.2.nm,some st⟩,zs,rfl,l _ _ a.tup,a.nod.same l,ac,by omega,λY t' H' s' O L e=>o.ok Y t' H' (l.trans s') O L ?_⟩;rw[e];exact .wrote (bZ b) rfl (by rw[r];simp)
def qJ(cls:TW.Wd→Addr):Sp:=λvs H Q E=>∃t n p nm zs,vs=[.ref t,.int n,.int p,.str nm]∧Tre H t zs∧dW (.move n p nm)∧Outs H (nds zs) (.move n p nm) cls Q E
theorem qK:FnScope ["tree","number","parent","name","nodes","node"] ["tree","number","parent","name"] (aj vF):=fsc
theorem xJ{f:Addr}{Y:FuncData}{cls:TW.Wd→Addr}(F:Fun K "move" "move" vF f Y)(b2:xF mg base cls)(a3:Has P w K mg base 1 "by_number" ["tree"] km)(CN:dU P w K mg base 1 "node_of" ["nodes","number"] (kn (cls .noNode)))(a4:dU P w K mg base 2 "check_folder" ["nodes","number"] (sw (cls .noNode) (cls .notFolder)))(CE:dU P w K mg base 2 "below" ["tree","number"] (sv (cls .noNode)))(a5:dU P w K mg base 1 "check_place" ["tree","number","parent","name"] (pB (cls .taken)))(a6:Has P w K mg base 1 "with_node" ["tree","changed"] ko):FnOk P w K mg base (CX1 P w) 3 f Y ["tree","number","parent","name"] (qJ cls):=by
 obtain⟨e0,e6,a7,d3,c7,b3⟩:=a3;obtain⟨e4,f0,b0,d7,d1,b7⟩:=CN;obtain⟨e2,e8,a8,d5,c9,b5⟩:=a4;obtain⟨e1,e7,GE,d4,c8,b4⟩:=CE;obtain⟨e3,e9,a9,d6,d0,b6⟩:=a5;obtain⟨e5,f1,b1,d8,d2,b8⟩:=a6;refine F.okX qK (λvs H Q E h=>?_) (λcdv A outer s H vs Q E R h=>?_)
 ·obtain⟨t,n,p,nm,zs,rfl,_⟩:=h;rfl
 ·obtain⟨t,n,p,nm,zs,rfl,a,⟨a0,L,M,N,c4⟩,o⟩:=h;have U:=bY a.tr;have f2:=a.len;have T:=a.tr;have S:Room 1 _:=R.mono (by decide);refine⟨_,af (ay (i:=4) qK.nd rfl (Or.inl rfl) (al a7 S rfl d3 c7 b3 .nil aM (aa (pv 0) ae)))
   (af (ay (i:=5) qK.nd rfl (Or.inl rfl) (al (E:=E) b0 S rfl d7 d1 b7 .nil (cW bv) (aa (pv 4) (aa (pv 1) ae))))
   (af (bg (al (E:=E) a8 R rfl d5 c9 b5 .nil (cW bv) (aa (pv 4) (aa (pv 2) ae))))
   (af (aP (PW.pt (pw_or (am cB (pv 2) (pv 1) (au _)) (pw_or1 (am sR (pv 2) (al (E:=E) GE R rfl d4 c8 b4 .nil (cW bv) (aa (pv 0) (aa (pv 1) ae))) rfl))))
    (ak (cy bv (b2 .inside) R.hd rfl (ic (dB (c:=100) (by decide +kernel) (iK (pv 2) (dB (c:=100) (by decide +kernel) (iK (pv 1) (dB (c:=100) (by decide +kernel) ka))))) (by decide)))) aA)
   (af (bg (al (E:=E) a9 S rfl d6 d0 b6 .nil (cW bv) (aa (pv 0) (aa (pv 1) (aa (pv 2) (aa (pv 3) ae))))))
   (ak (aw (al b1 S rfl d8 d2 b8 .nil aM (aa (pv 0) (aa (be (aa (pv 1) (aa (pv 2) (aa (pv 3) (aa (ax av (pv 5) ah (λ_ _=>rfl)) ae))))) ae))))))))),?_⟩
  refine⟨_,rfl,t,zs,rfl,a.tup,a.nod,by omega,U,λd H1 k a2=>?_⟩;refine⟨_,rfl,_,rfl,d,n,zs,rfl,a2,U,by omega,L,λz q e=>?_,λv=>o.no .noNode H1 k (.vNo (cJ λ⟨z,q,e⟩=>v z q e))⟩;subst e;have G:TW.cI (nds zs) z.2.num:=eI q rfl;refine⟨_,rfl,_,rfl,d,p,zs,rfl,a2,a.nod.same k,U,M,N,λD=>?_,λb v=>o.no .noNode H1 k (.vNoP G b (cJ λ⟨y,j,e⟩=>v y j e)),λy j e b c5=>o.no .notFolder H1 k (.vFile G b (bZ j) e c5)⟩;have a1:∀H2,Same H1 H2→p≠0→TW.Und (nds zs) z.2.num p→∀y:Str,E (.ref (cls .inside)) none H2:=λH2 r b g _=>o.no .inside H2 (k.trans r) (.vIn G D b g);have rest:∀H2,Same H1 H2→(p≠0→¬TW.Und (nds zs) z.2.num p)→gm (yt (rG (pB (cls .taken)) [] E (cM (dP 0) (cM (dP 1) (cM (dP 2) (cM (dP 3) jF)))))) (wK (rG ko [] E0 (cM (dP 0) (cM (AL (cM (dP 1) (cM (dP 2) (cM (dP 3) (cM (tOp (dR K) (dP 5) (tC (.int 3))) jF))))) jF))))
    {nx:=λ_ H'=>Q .non H',rt:=Q} [some (.ref t),some (.int z.2.num),some (.int p),some (.str nm),some (.ref d),some (.ref z.1)] H2:=by
   intro H2 r g;have C:=k.trans r;refine⟨_,rfl,_,rfl,_,rfl,_,rfl,t,z.2.num,p,nm,zs,rfl,C _ _ a.tup,a.nod.same C,M,N,c4,λc2=>?_,λy j W u b9=>o.no .taken H2 C (.vTaken G D g (bZ j) W u b9)⟩;refine⟨_,rfl,_,rfl,_,rfl,_,rfl,_,rfl,z.1,_,_,_,rfl,rfl,SqT.of (C _ _ (a.nod z q)),at3 z.2,(show 4≤sizeLine from aq (by decide)),λc c1=>?_⟩;have X:=C.trans (ag (o:=.tup [.int z.2.num,.int p,.str nm,stV z.2.st]) c1);refine⟨t,c,⟨z.2.num,p,nm,z.2.st⟩,zs,rfl,X _ _ a.tup,a.nod.same X,ac,by omega,λd9 t' H' s' c6 c0 e=>o.ok d9 t' H' (X.trans s') c6 c0 ?_⟩;rw[e];refine .moved (bZ q) rfl D g λm J W h=>?_;obtain⟨y,j,rfl⟩:=fo J;exact c2 y j W h
  refine⟨_,rfl,_,rfl,rfl,_,rfl,?_⟩
  by_cases O:p=z.2.num
  ·have u:decide (V.int p=V.int z.2.num)=true:=by simp[O]
   rw[u];exact aQ (aQ ⟨_,rfl,p,rfl,M,N,_,rfl,_,rfl,by omega,L,λy=>⟨aq (show 1≤1000 by decide),a1 H1 (Same.refl _) (by omega) (by rw[O];exact .here) y⟩⟩)
  ·have u:decide (V.int p=V.int z.2.num)=false:=by simp[O]
   rw[u];refine aC ⟨_,rfl,_,rfl,_,rfl,t,z.2.num,zs,rfl,a.same k,by omega,L,λ_ ms l H2 r f3 _ J c3=>?_,λb v=>absurd rfl (v z q)⟩;refine⟨l,_,rfl,.inl (SqL.of c3),rfl,tK ms,_,rfl,?_⟩;show if (inV (.int p) (ms.map V.int))=true then _ else _
   rw[xt]
   by_cases I:p∈ms
   ·rw[decide_eq_true I];obtain⟨m,x,Z,B⟩:=(J p).mp I;have g:TW.Und (nds zs) z.2.num p:=by rw[←Z];exact((TW.eF T a0 x).mp B).2
    have b:p≠0:=by have:=T.pos m x;omega
    exact aQ ⟨_,rfl,p,rfl,M,N,_,rfl,_,rfl,by omega,L,λy=>⟨aq (show 1≤1000 by decide),a1 H2 r b g y⟩⟩
   ·rw[decide_eq_false I];refine aC (rest H2 r λb g=>?_);rcases D with e|⟨m,x,Z,B⟩
    ·exact b e
    ·refine I ((J p).mpr ⟨m,x,B,(TW.eF T a0 x).mpr ⟨by rw[B];exact O,by rw[B];exact g⟩⟩)
def qL(cls:TW.Wd→Addr):Sp:=λvs H Q E=>∃t n zs,vs=[.ref t,.int n]∧Tre H t zs∧dW (.drop n)∧Outs H (nds zs) (.drop n) cls Q E
theorem vO:FnScope ["tree","number","gone"] ["tree","number"] (aj su):=fsc
def pC(n:Int)(a:List Int)(m:Nd):Bool:=!decide (m.num=n∨m.num∈a)
theorem xK{f:Addr}{R:FuncData}{cls:TW.Wd→Addr}(F:Fun K "drop" "drop" su f R)(T:Txt mg)(b1:Has P w K mg base 1 "by_number" ["tree"] km)(CN:dU P w K mg base 1 "node_of" ["nodes","number"] (kn (cls .noNode)))(CE:dU P w K mg base 2 "below" ["tree","number"] (sv (cls .noNode))):FnOk P w K mg base (CX1 P w) 3 f R ["tree","number"] (qL cls):=by
 obtain⟨e5,e8,b2,d7,d2,b4⟩:=b1;obtain⟨e7,f0,b3,d9,d4,b6⟩:=CN;obtain⟨e6,e9,GE,d8,d3,b5⟩:=CE;refine F.okX vO (λvs H Q E h=>?_) (λcdv A outer s H vs Q E G h=>?_)
 ·obtain⟨t,n,zs,rfl,_⟩:=h;rfl
 ·obtain⟨t,n,zs,rfl,b,⟨a1,a2⟩,o⟩:=h;have a3:=bY b.tr;have f3:=b.len;have L:=b.tr;have a5:Room 1 _:=G.mono (by decide);refine⟨_,af (bg (al (E:=E) b3 a5 rfl d9 d4 b6 .nil (cW bv) (aa (al b2 a5 rfl d7 d2 b4 .nil aM (aa (pv 0) ae)) (aa (pv 1) ae))))
   (af (ay (i:=2) vO.nd rfl (Or.inr rfl) (aR (dI rfl) rfl T.dict boot_dict (aa (eD (N:=["inner"]) (k:=1) (js:=[]) (g:=bu 0) rfl (cH rfl (by decide +kernel) (by decide +kernel) (by decide +kernel)) rfl (λi d1 x h=>by simp at h)
    (dj (al (E:=E) GE G rfl d8 d3 b5 .nil (cW bv) (aa (pv 0) (aa (pv 1) ae)))) (λs H fp=>aN (i:=0) (show(["inner"]:List Str).Nodup by decide +kernel) rfl (Or.inl rfl) (Or.inr rfl))
    (λs H fp=>be (aa (pv 0) (aa eA ae)))) ae)))
   (af (jk (bh G) (pv 2) (pv 1) eA rfl)
   (ak (aw (aR bj rfl T.tuple rfl (aa (iC (N:=["node","gone"]) (cl:=[("gone",s.heap.objs.size+1)]) (k:=1) (js:=[2]) (g:=bu 0) rfl
    (LcOk.mk' ["gone"] rfl rfl (by decide +kernel) (by decide +kernel) ?hcl rfl (by decide +kernel)) rfl ?hj (cE (pv 0)) (λs H fp=>aN (i:=0) (show(["node","gone"]:List Str).Nodup by decide +kernel) rfl (Or.inl rfl) (Or.inr rfl))
    (λs H fp=>eZ (fY (bh G) (ax (r:=dR K) av (pv 0) ah (λ_ _=>rfl)) (pv 1))) (λs H fp=>pv 0)) ae)))))),?_⟩
  case hcl =>
   intro y j;rcases mem_cons.mp j with e|j
   ·rw[e];rfl
   ·cases j
  case hj =>
   intro i d1 x h1 h2
   match i,h1,h2 with
   |0,h1,h2 =>
    cases h1;cases h2;exact⟨rfl,Or.inr (Or.inl rfl),(show((aj su).names.lookup ("gone":Str)≠some NameKind.local)by decide +kernel),by first|exact Or.inl rfl|exact Or.inr rfl⟩
   |i+1,h1,h2=>simp at h1
  refine⟨_,rfl,t,zs,rfl,b.tup,b.nod,by omega,a3,λd H1 O e0=>?_⟩;refine⟨_,rfl,d,n,zs,rfl,e0,a3,by omega,a2,λz I e=>?_,λa=>o.no .noNode H1 O (.dNo (cJ λ⟨z,I,e⟩=>a z I e))⟩;refine⟨_,rfl,_,rfl,t,n,zs,rfl,b.same O,by omega,a2,λ_ ms l H2 e1 a0 f4 Y X=>?_,λf1 a=>absurd e (a z I)⟩;have Z:ms.length≤1000:=by omega
  refine⟨l,rfl,⟨_,SqL.of X⟩,λp c4=>?_⟩;refine dJ (fr:=[]) ms V.int Z c4 (ie (SqL.of X)) rfl (λm y H'=>∃q,y=.ref q∧q≠p∧H' q=some (.tup [.int m,.bl true])) (λm y H H' ⟨q,e,a7,h⟩ ex=>⟨q,e,a7,ex q _ a7 h⟩) (λm H' k _ a9 c8 a=>?_) (λys C a9 c6 M=>?_)
  ·exact⟨_,rfl,le2,λq a4=>a _ _ (ag a4) ⟨q,rfl,dA c8 a4,ac⟩⟩
  ·obtain⟨bs,J,b8,b9⟩:=dt (val:=V.ref) (S:=λ(m:Int) (q:Addr)=>C q=some (.tup [.int m,.bl true])) M (λm y _ ⟨q,e,_,h⟩=>⟨q,e,h⟩);have a8:=(O.trans e1).trans a9;have f2:bs.length=ms.length:=by rw[←J,length_map]
   refine⟨p,bs.map λx=>(x.2,(Sum.inl x.1:Key),V.bl true),rfl,by rw[c6,b8,map_map,map_map];rfl,λy j=>?_,by rw[length_map];omega,?_,λg U=>?_⟩
   ·obtain⟨x,c,rfl⟩:=mem_map.mp j;exact b9 x c
   ·rw[map_map];have:(bs.map ((λx:Addr×Key×V=>x.2.1)∘λx=>(x.2,(Sum.inl x.1:Key),V.bl true)))=ms.map (Sum.inl:Int→Key):=by rw[←J,map_map];rfl
    rw[this];unfold Nodup;rw[pairwise_map];exact a0.imp λh e=>by injection e with e;omega
   ·have c0:(bs.map λx=>(x.2,(Sum.inl x.1:Key),V.bl true)).map (·.2)=ms.map λm=>((Sum.inl m:Key),V.bl true):=by rw[←J,map_map,map_map];rfl
    rw[c0];have e2:=a8.trans (ag (o:=.dK (ms.map λm=>((Sum.inl m:Key),V.bl true))) U);have v:Same H (upd (upd C g (.dK (ms.map λm=>((Sum.inl m:Key),V.bl true)))) g (.dK (cp (ms.map λm=>((Sum.inl m:Key),V.bl true)) (Sum.inl n:Key) (.bl true)))):=aK (a8.free U) e2;refine⟨_,rfl,_,rfl,g,_,rfl,mY.k (k:=Sum.inl n) ac (aB (by rw[length_map];exact Z)),?_⟩;have W:(upd (upd C g (.dK (ms.map λm=>((Sum.inl m:Key),V.bl true)))) g (.dK (cp (ms.map λm=>((Sum.inl m:Key),V.bl true)) (Sum.inl n:Key) (.bl true)))) g=some (.dK (cp (ms.map λm=>((Sum.inl m:Key),V.bl true)) (Sum.inl n:Key) (.bl true))):=ac;generalize upd (upd C g (.dK (ms.map λm=>((Sum.inl m:Key),V.bl true)))) g (.dK (cp (ms.map λm=>((Sum.inl m:Key),V.bl true)) (Sum.inl n:Key) (.bl true)))=e3 at v W⊢;have d0:∀k:Int,(!(ba (cp (ms.map λm=>((Sum.inl m:Key),V.bl true)) (Sum.inl n:Key) (.bl true)) (Sum.inl k:Key)).isSome) = !decide (k=n∨k∈ms):=λk=>by
     rw[jI]
     by_cases e:k=n
     ·subst e;simp
     ·have b7:¬(Sum.inl k:Key)=Sum.inl n:=λh=>e (by injection h);rw[if_neg b7]
      by_cases a:k∈ms
      ·have:ba (ms.map λm=>((Sum.inl m:Key),V.bl true)) (Sum.inl k:Key)=some (.bl true):=by
        refine kg ?_ (mem_map.mpr ⟨k,a,rfl⟩);rw[map_map];unfold Nodup;rw[pairwise_map];exact a0.imp λh e=>by injection e with e;omega
       rw[this];simp[a]
      ·have:ba (ms.map λm=>((Sum.inl m:Key),V.bl true)) (Sum.inl k:Key)=none:=by
        refine nA λc=>a ?_;rw[map_map]at c;obtain⟨m,u,e⟩:=mem_map.mp c;injection e with e
        rw[←e];exact u
       rw[this];simp[e,a]
    refine⟨_,rfl,t,rfl,⟨_,SqT.of (v _ _ b.tup)⟩,λp2 c5=>?_⟩;refine iL (fr:=[some (.ref g)]) zs (λz=>V.ref z.1) (by omega) c5 (eR (by rw[cr];exact SqT.of (v _ _ b.tup))) rfl (λz=>pC n ms z.2) (λz y _=>y=.ref z.1) (λz y H H' h _=>h) (λz H' k a6 B _ a=>?_) (λz H' k a6 _ B _ a=>?_) (λys e4 B c7 M=>?_)
    ·refine⟨_,rfl,z.1,_,_,_,rfl,rfl,SqT.of (B _ _ (v _ _ (b.nod z a6))),at0 z.2,_,rfl,g,_,rfl,cO.k (k:=Sum.inl z.2.num) (B _ _ W),_,rfl,?_⟩;rw[d0];exact a H' (Same.refl _)
    ·exact⟨_,rfl,a _ H' (Same.refl _) rfl⟩
    ·have c2:=cq (f:=λz:Addr×Nd=>V.ref z.1) M (λz y _ h=>h);refine⟨p2,_,rfl,.inl ⟨SqL.of c7,λd5 c3=>?_⟩⟩;have b0:=(v.trans B).trans (ag (o:=.tup ys) c3);refine o.ok (zs.filter λz=>pC n ms z.2) d5 _ b0 (by rw[ac,c2,cr]) (λy j=>b0 _ _ (b.nod y (mem_filter.mp j).1)) ?_;have c1:nds (zs.filter λz=>pC n ms z.2)=(nds zs).filter (pC n ms):=by
      unfold nds;rw[filter_map];rfl
     rw[c1];refine .dropped ⟨z.2,bZ I,e⟩ λm u=>?_;unfold pC;rw[Bool.not_eq_true',decide_eq_false_iff_not];constructor
     ·intro h c9
      by_cases D:m.num=n
      ·exact h (.inl D)
      ·exact h (.inr ((Y m.num).mpr ⟨m,u,rfl,(TW.eF L a1 u).mpr ⟨D,c9⟩⟩))
     ·intro h c;rcases c with D|c
      ·exact h (by rw[D];exact .here)
      ·obtain⟨d6,h1,h2,h3⟩:=(Y m.num).mp c;have:d6=m:=L.inj h1 u h2;subst this;exact h ((TW.eF L a1 h1).mp h3).2
def qM(cls:TW.Wd→Addr):Sp:=λvs H Q E=>∃t d dd zs,vs=[.ref t,.ref d]∧Tre H t zs∧zs.length≤29∧H d=some (.tup (cf dd))∧dW dd∧Outs H (nds zs) dd cls Q E
theorem vP:FnScope ["tree","deed","word"] ["tree","deed"] (aj vG):=fsc
theorem xL{f:Addr}{g:FuncData}{cls:TW.Wd→Addr}(F:Fun K "done" "done" vG f g)(k:dU P w K mg base 3 "make" ["tree","number","parent","name","stamp"] (qI cls))(m:dU P w K mg base 2 "write" ["tree","number","stamp"] (nC cls))(l:dU P w K mg base 3 "move" ["tree","number","parent","name"] (qJ cls))(j:dU P w K mg base 3 "drop" ["tree","number"] (qL cls)):FnOk P w K mg base (CX1 P w) 4 f g ["tree","deed"] (qM cls):=by
 obtain⟨T,X,GM,N,I,x⟩:=k;obtain⟨V,Z,u,R,L,z⟩:=m;obtain⟨U,Y,r,O,J,y⟩:=l;obtain⟨S,W,q,M,G,v⟩:=j;refine F.okX vP (λvs H Q E h=>?_) (λcdv A outer s H vs Q E c h=>?_)
 ·obtain⟨t,d,dd,zs,rfl,_⟩:=h;rfl
 ·obtain⟨t,d,dd,zs,rfl,e,C,B,b,o⟩:=h;have D:Room 2 _:=c.mono (by decide);refine⟨_,af (ay (i:=2) vP.nd rfl (Or.inl rfl) (ax av (pv 1) ah (λ_ _=>rfl)))
   (af (aP (am cB (pv 2) aG (au _)) (ak (aw (al (E:=E) GM c rfl N I x .nil (cW bv) (aa (pv 0) (aa (ax av (pv 1) ah (λ_ _=>rfl)) (aa (ax av (pv 1) ah (λ_ _=>rfl)) (aa (ax av (pv 1) ah (λ_ _=>rfl)) (aa (ax av (pv 1) ah (λ_ _=>rfl)) ae)))))))) aA)
   (af (aP (am cB (pv 2) aG (au _)) (ak (aw (al (E:=E) u D rfl R L z .nil (cW bv) (aa (pv 0) (aa (ax av (pv 1) ah (λ_ _=>rfl)) (aa (ax av (pv 1) ah (λ_ _=>rfl)) ae)))))) aA)
   (af (aP (am cB (pv 2) aG (au _)) (ak (aw (al (E:=E) r c rfl O J y .nil (cW bv) (aa (pv 0) (aa (ax av (pv 1) ah (λ_ _=>rfl)) (aa (ax av (pv 1) ah (λ_ _=>rfl)) (aa (ax av (pv 1) ah (λ_ _=>rfl)) ae))))))) aA)
   (af (aP (am cB (pv 2) aG (au _)) (ak (aw (al (E:=E) q c rfl M G v .nil (cW bv) (aa (pv 0) (aa (ax av (pv 1) ah (λ_ _=>rfl)) ae))))) aA)
   (ak nX))))),?_⟩
  have a:SqT K H d (cf dd):=SqT.of B;cases dd with
  |make n p nm st =>
   refine⟨_,rfl,d,_,_,_,rfl,rfl,a,rfl,?_⟩;refine⟨_,rfl,rfl,_,rfl,aQ ⟨_,rfl,_,rfl,d,_,_,_,rfl,rfl,a,rfl,_,rfl,d,_,_,_,rfl,rfl,a,rfl,_,rfl,d,_,_,_,rfl,rfl,a,rfl,_,rfl,d,_,_,_,rfl,rfl,a,rfl,t,n,p,nm,st,zs,rfl,e,C,b,o⟩⟩
  |write n st =>
   refine⟨_,rfl,d,_,_,_,rfl,rfl,a,rfl,?_⟩;refine⟨_,rfl,rfl,_,rfl,aC ⟨_,rfl,rfl,_,rfl,aQ ⟨_,rfl,_,rfl,d,_,_,_,rfl,rfl,a,rfl,_,rfl,d,_,_,_,rfl,rfl,a,rfl,t,n,st,zs,rfl,e,b,o⟩⟩⟩
  |move n p nm =>
   refine⟨_,rfl,d,_,_,_,rfl,rfl,a,rfl,?_⟩;refine⟨_,rfl,rfl,_,rfl,aC ⟨_,rfl,rfl,_,rfl,aC ⟨_,rfl,rfl,_,rfl,aQ ⟨_,rfl,_,rfl,d,_,_,_,rfl,rfl,a,rfl,_,rfl,d,_,_,_,rfl,rfl,a,rfl,_,rfl,d,_,_,_,rfl,rfl,a,rfl,t,n,p,nm,zs,rfl,e,b,o⟩⟩⟩⟩
  |drop n =>
   refine⟨_,rfl,d,_,_,_,rfl,rfl,a,rfl,?_⟩;refine⟨_,rfl,rfl,_,rfl,aC ⟨_,rfl,rfl,_,rfl,aC ⟨_,rfl,rfl,_,rfl,aC ⟨_,rfl,rfl,_,rfl,aQ ⟨_,rfl,_,rfl,d,_,_,_,rfl,rfl,a,rfl,t,n,zs,rfl,e,b,o⟩⟩⟩⟩⟩
end
end TK
namespace TB
open PySem PySem.SetTable
theorem tR{t:SetTable}{l:List Nat}(T:Tb t l)(mk:Mk t.mask)(k:l.length≤t.mask)(a:Int):∃j,t.freeSlot a=some (j,false)∧j∉l∧j≤t.mask:=by
 obtain⟨u,g,h⟩:=jQ t.mask l k;obtain⟨q,s,c⟩:=cover mk.cyc a g;obtain⟨N,r,b,d⟩:=jM (λm=>pos t.mask a m∉l) q (by rw[c];exact h);have o:=jN t (λ_=>a+1) a N (st t.mask a) (10*turns t.mask) (by omega) (λm n=>by
  have f:pos t.mask a m∈l:=by
   by_cases z:pos t.mask a m∈l
   ·exact z
   ·exact(d m n z).elim
  obtain⟨i,hi,e⟩:=mem_iff_getElem.mp f;exact⟨i,jl T (by show l[i]?=some (pos t.mask a m);rw[getElem?_eq_getElem hi,e]),by rw[beq_eq_false_iff_ne];omega⟩) (oK T b)
 refine⟨pos t.mask a N,?_,b,iE _ _ _⟩;unfold SetTable.freeSlot;have p:t.probe (λ_=>a+1) a (t.probeStart a)=some (.empty (pos t.mask a N) none):=o;rw[p];rfl
theorem xM{t:SetTable}{l:List Nat}(T:Tb t l)(mk:Mk t.mask)(o:l.length+1≤t.mask)(b:Array (Int×Value))(j:b.size=l.length)(c:Int)(x:Value):
  ∃p t' i,layNew t b c x=(insertAt b p (c,x),t',false,false)∧Tb t' i∧i.length=l.length+1∧t'.mask=t.mask∧t'.plain=t.plain∧t'.led=t.led:=by
 obtain⟨a,k,m,n⟩:=tR T mk (by omega) c;obtain⟨d,q,g⟩:=uI T m n;have f:(l.take (below l.toArray a)++a::l.drop (below l.toArray a)).length=l.length+1:=by
  rw[length_append,length_cons,length_take,length_drop];have:=(cP T.up a).1;omega
 have h:(insertAt b (t.put a).2 (c,x)).size=l.length+1:=by
  rw[←length_toList,SetTable.toList_insertAt,length_append,length_cons,length_take,length_drop,length_toList,j,q];have:=(cP T.up a).1;omega
 have e:(t.put a).1.fits (insertAt b (t.put a).2 (c,x)).size=true:=gh d (by rw[f,h]) (by rw[h,g];exact o);refine⟨(t.put a).2,(t.put a).1,_,?_,d,f,g,rfl,rfl⟩;unfold layNew;rw[k];show(insertAt b (t.put a).2 (c,x),(t.put a).1.orStandIn (insertAt b (t.put a).2 (c,x)).size,false,!((t.put a).1.fits (insertAt b (t.put a).2 (c,x)).size))=_;rw[e];unfold SetTable.orStandIn;rw[if_pos e];rfl
theorem tT{t:SetTable}(a:Array (Int×Value))(p:0<a.size)(r:a.size≤60):
  ∃es' t' j,relayAll t a (grown a.size)=(es',t',false)∧es'.toList.Perm a.toList∧Tb t' j∧j.length=a.size∧Mk t'.mask∧a.size*5<t'.mask*3∧t'.plain=t.plain∧t'.led=t.led:=by
 have o:grown a.size=a.size*4:=by unfold SetTable.grown;rw[if_neg (by omega)]
 obtain⟨f,s,q⟩:=gX (w:=a.size*4) (by omega);rw[o];obtain⟨t',zs,e,c,m,n,T,b,_⟩:=iG (t:=t) (hashes:=a.map (·.1)) (wanted:=a.size*4) f.cyc (by rw[size_map];omega);rw[size_map]at b;have d:zs.length=a.size:=by
  have:=b.length_eq;rw[length_map,length_range]at this;exact this
 have g:(((zs.map (·.2)).toArray).filterMap (λi=>a[i]?)).toList.Perm a.toList:=by
  rw[Array.toList_filterMap];exact(b.filterMap _).trans (by rw[filterMap_getElem?_range])
 have h:(((zs.map (·.2)).toArray).filterMap (λi=>a[i]?)).size=a.size:=by
  rw[←length_toList,g.length_eq,length_toList]
 have l:t'.fits (((zs.map (·.2)).toArray).filterMap (λi=>a[i]?)).size=true:=gh T (by rw[h,length_map,d]) (by rw[h,c];omega);have k:coversAll (zs.map (·.2)).toArray a.size=true:=by
  unfold coversAll;exact List.isPerm_iff.mpr b
 refine⟨((zs.map (·.2)).toArray).filterMap (λi=>a[i]?),t',zs.map (·.1),?_,g,T,by rw[length_map,d],by rw[c];exact f,by rw[c];omega,n,m⟩;unfold relayAll;rw[e];dsimp only;rw[k,l];rfl
def bt(w:World):Bool:=w.params.followText "set-order"
def im(tk:Int→Tok)(n:Int):Int×Value:=(hashInt n,.int n (tk n))
structure ISt(w:World)(es:Array (Int×Value))(t:SetTable)(ns:List Int):Prop where
 ent:∃tk,es.toList=ns.map (im tk)
 nd:ns.Nodup
 tb:∃l,Tb t l∧l.length=ns.length
 mkm:Mk t.mask
 room:ns.length*5<t.mask*3
 pl:t.plain=true
 led:bt w=false→t.led=true
def IS(w:World)(c:Heap)(a:Addr)(ns:List Int):Prop:=∃o es b t,c.get? a=some o∧o.ExactSet∧o.data=.set es b t∧ISt w es t ns
theorem ISt.size{w:World}{a:Array (Int×Value)}{t:SetTable}{ns:List Int}(b:ISt w a t ns):a.size=ns.length:=by
 obtain⟨tk,e⟩:=b.ent;rw[←length_toList,e,length_map]
theorem ISt.fits{w:World}{b:Array (Int×Value)}{t:SetTable}{ns:List Int}(a:ISt w b t ns):t.fits b.size=true:=by
 obtain⟨l,T,c⟩:=a.tb;have:=a.mkm.ge;have:=a.room;exact gh T (by rw[c,a.size]) (by rw[a.size];omega)
theorem ISt.elems{prog:Program}{w:World}{a:Array (Int×Value)}{t:SetTable}{ns:List Int}(b:ISt w a t ns):ElemsOf (intKind prog w) a.toList:=by
 obtain⟨tk,e⟩:=b.ent;rw[e];intro z c;obtain⟨n,d,rfl⟩:=mem_map.mp c;exact⟨⟨n,intKind_is _ _ _ _,rfl⟩,rfl⟩
theorem du{es':List (Int×Value)}:∀{l:List (Int×Value)},es'.Perm l→∀{tk:Int→Tok}{ns:List Int},l=ns.map (im tk)→∃a:List Int,a.Perm ns∧es'=a.map (im tk):=by
 intro l p tk ns e;have d:∀z∈es',∃n,z=im tk n:=λz i=>by
  have:=p.mem_iff.mp i;rw[e]at this;obtain⟨n,f,e⟩:=mem_map.mp this;exact⟨n,e.symm⟩
 obtain⟨a,c⟩:∃a:List Int,es'=a.map (im tk):=by
  clear p e
  induction es' with
  |nil=>exact⟨[],rfl⟩
  |cons z es' b =>
   obtain⟨n,f⟩:=d z mem_cons_self;obtain⟨a,e⟩:=b λy h=>d y (mem_cons_of_mem _ h);exact⟨n::a,by rw[f,e];rfl⟩
 refine⟨a,?_,c⟩;have g:∀m:List Int,(m.map (im tk)).map (λz=>match z.2 with | .int n _=>n | _=>0)=m:=λm=>by
  rw[map_map]
  induction m with
  |nil=>rfl
  |cons x m b=>rw[map_cons,b];rfl
 have:=p.map (λz=>match z.2 with | .int n _=>n | _=>0);rw[c,e,g,g]at this;exact this
theorem vQ{tk:Int→Tok}{ns:List Int}{n:Int}{t:Tok}(c:n∉ns):∃a,(im a n=(hashInt n,Value.int n t))∧ns.map (im a)=ns.map (im tk):=by
 refine⟨λm=>if m=n then t else tk m,by show(hashInt n,Value.int n (if n=n then t else tk n))=_;rw[if_pos rfl],?_⟩
 apply map_congr_left;intro m b;show(hashInt m,Value.int m (if m=n then t else tk m))=_;rw[if_neg (by rintro rfl;exact c b)];rfl
section
variable{prog:Program}{w:World}{A:Around}{E:Value→Shared→Prop}{s:Shared}
theorem add_int{a:Addr}{ns:List Int}{n:Int}{b:Tok}{Q:Bool→Shared→Prop}(M:IS w s.heap a ns)(c8:ns.length<60)(u:∀r h' J,SameBut a s.heap h'→IS w h' a J→((n∈ns∧J=ns)∨(n∉ns∧J.Perm (n::ns)))→Q r {s with heap:=h'}):
  wpAny (model prog w) A (setAddHashed a (.int n b) (hashInt n)) Q E s:=by
 obtain⟨o,es,c4,t,i,P,f,S⟩:=id M;have c9:=S.size;have R:=S.fits;have N:ElemsOf (intKind prog w) es.toList:=S.elems;have a9:(intKind prog w).is n (.int n b)=true:=intKind_is _ _ _ _;have a6:es.size<scanBound:=by unfold scanBound;omega
 have c5:=S.mkm.ge;have c7:=S.room;unfold setAddHashed setAddHashedIn;refine wpAny_holding (wpAny_bind (wpAny_setState_of i f R ?_));dsimp only;rw[byScan_of (knd:=intKind prog w) (x:=.int n b) rfl a6 N];simp only[↓reduceIte];unfold setAddByScan;refine wpAny_bind ?_;refine wpAny_bind (wpAny_rule ?_);refine wpAny_bind (wpAny_setScan_of (knd:=intKind prog w) (k:=n) a9 i f R N ?_);obtain⟨tk,v⟩:=S.ent;cases Y:List.findIdx? (λe=>(intKind prog w).is n e.2) es.toList with
 |some a1 =>
  dsimp only;obtain⟨a8,X,_⟩:=List.findIdx?_eq_some_iff_getElem.mp Y;have B:n∈ns:=by
   have C:es.toList[a1]∈es.toList:=getElem_mem a8;generalize es.toList[a1]=z at C X;rw[v]at C;obtain⟨m,D,rfl⟩:=mem_map.mp C;have:=(intKind prog w).inj _ n m X (intKind_is _ _ _ _);rw[this];exact D
  refine wpAny_pure (wpAny_pure ?_);have e:s={s with heap:=s.heap}:=by cases s;rfl
  have:=u false s.heap ns (SameBut.refl a s.heap) M (.inl ⟨B,rfl⟩);rw[e];exact this
 |none =>
  dsimp only;have g:n∉ns:=λB=>by
   have:=List.findIdx?_eq_none_iff.mp Y (im tk n) (by rw[v];exact mem_map.mpr ⟨n,B,rfl⟩);have h2:(intKind prog w).is n (im tk n).2=true:=intKind_is _ _ _ _;rw[h2]at this;cases this
  obtain⟨l,T,b0⟩:=S.tb;obtain⟨p,c,c2,a4,L,b1,D,I,V⟩:=xM T S.mkm (by omega) es (by omega) (hashInt n) (.int n b);rw[a4];dsimp only;obtain⟨j,c0,c1⟩:=vQ (tk:=tk) (t:=b) g;obtain⟨d,h,y⟩:=du (es':=(insertAt es p (hashInt n,Value.int n b)).toList) (l:=(n::ns).map (im j)) (tk:=j) (ns:=n::ns) (by
   refine(SetTable.insertAt_perm es p _).trans ?_;rw[Array.toList_push,v,←c1,map_cons,c0];exact List.perm_append_singleton _ _) rfl
  have b4:d.length=ns.length+1:=by rw[h.length_eq,length_cons]
  have W:d.Nodup:=h.nodup_iff.mpr (nodup_cons.mpr ⟨g,S.nd⟩);have a0:(insertAt es p (hashInt n,Value.int n b)).size=d.length:=by rw[←length_toList,y,length_map]
  refine wpAny_bind (wpAny_pure ?_);rw[I,S.pl];simp only[if_true];refine wpAny_bind ?_;rw[hashByValue_scannable 8 (x:=.int n b) rfl];refine wpAny_pure ?_;simp only[plainKind,if_true];refine wpAny_bind (wpAny_storeSet_of i f ?_ (by rw[a0];exact nb (by omega)));have H:=stored i f (insertAt es p (hashInt n,Value.int n b)) c;have Z:=SameBut.update s.heap a (Obj.putSet (insertAt es p (hashInt n,Value.int n b)) c);have a7:c.fill=d.length:=by rw[gg L,b1,b0,b4]
  by_cases U:c.tooFull=true
  ·rw[U];simp only[Bool.not_false,Bool.and_self,if_true];obtain⟨q,a2,c3,a5,p2,a3,c6,b3,b8,b7,b2⟩:=tT (t:=c) (insertAt es p (hashInt n,Value.int n b)) (by omega) (by omega);rw[a5];dsimp only;obtain⟨K,G,O⟩:=du p2 y;have b5:K.length=d.length:=G.length_eq;have b9:q.size=K.length:=by rw[←length_toList,O,length_map]
   refine wpAny_bind (wpAny_pure ?_);refine wpAny_bind (wpAny_storeSet_of H rfl ?_ (by rw[b9];exact nb (by omega)));have b6:=stored (s:={s with heap:=s.heap.update a (Obj.putSet (insertAt es p (hashInt n,Value.int n b)) c)}) H rfl q a2
   refine wpAny_pure (wpAny_pure (u true _ K (Z.trans (SameBut.update _ a _)) ⟨_,q,_,a2,b6,P,rfl,⟨⟨j,O⟩,G.nodup_iff.mpr W,⟨c3,a3,by omega⟩,b3,by rw[b5,←a0];exact b8,by rw[b7,I];exact S.pl,λz=>by rw[b2,V];exact S.led z⟩⟩ (.inr ⟨g,G.trans h⟩)))
  ·have F:c.tooFull=false:=by simpa using U
   rw[F];simp only[Bool.and_false,false_eq_true,if_false];refine wpAny_pure (wpAny_pure (u true _ d Z ⟨_,_,_,c,H,P,rfl,⟨⟨j,y⟩,W,⟨c2,L,by omega⟩,by rw[D];exact S.mkm,?_,by rw[I];exact S.pl,λz=>by rw[V];exact S.led z⟩⟩ (.inr ⟨g,h⟩)));unfold SetTable.tooFull at F;rw[decide_eq_false_iff_not,a7]at F;omega
end
theorem kq:entryFor table "set.__iter__"=some Builtin.«frozenset.__iter__» :=
 entryFor_alias (id':="frozenset.__iter__") (by kernel_rfl) rfl (by decide +kernel) (by kernel_rfl)
theorem cv:Slot "set_iterator" "__next__" "set_iterator.__next__" :=
 .of (owner:="set_iterator") (n:="__next__") (by rw[typeLookup_type,builtinLookup_eq_fast];kernel_rfl) (by decide +kernel) (by decide +kernel) (by decide +kernel)
  (by first|exact .inl (by decide +kernel)|exact .inr (by decide +kernel)) (by rw[isSubtype_type];kernel_rfl)
theorem io:Slot "set_iterator" "__iter__" "set_iterator.__iter__" :=
 .of (owner:="set_iterator") (n:="__iter__") (by rw[typeLookup_type,builtinLookup_eq_fast];kernel_rfl) (by decide +kernel) (by decide +kernel) (by decide +kernel)
  (by first|exact .inl (by decide +kernel)|exact .inr (by decide +kernel)) (by rw[isSubtype_type];kernel_rfl)
theorem gB:entryFor table "set_iterator.__next__"=some Builtin.«set_iterator.__next__»:=entryFor_of_tree (by kernel_rfl)
theorem pD:Manifest.owners.lookup (String.ofList ['r','o','t','a','r','e','t','i','_','t','e','s'].reverse)=some Manifest.sig_set_iterator:=by kernel_rfl
theorem ip(a:Value):argsOk "set_iterator.__next__" ⟨[a],[]⟩:=by
 unfold argsOk;rw[signature?_of (id:="set_iterator.__next__") (n:=['_','_','t','x','e','n','_','_']) (o:=['r','o','t','a','r','e','t','i','_','t','e','s']) (by kernel_rfl) pD];kernel_rfl
theorem nE(a:Value):argsOk "set_iterator.__iter__" ⟨[a],[]⟩:=by
 unfold argsOk;rw[signature?_of (id:="set_iterator.__iter__") (n:=['_','_','r','e','t','i','_','_']) (o:=['r','o','t','a','r','e','t','i','_','t','e','s']) (by kernel_rfl) pD];kernel_rfl
theorem ls:∃b,entryFor table "set_iterator.__iter__"=some b∧b=Builtin.«dict_keyiterator.__iter__» :=
 ⟨_,entryFor_alias (id':="dict_keyiterator.__iter__") (by kernel_rfl) rfl (by decide +kernel) (by kernel_rfl),rfl⟩
theorem lS{d:Type}(next:Nat→Nat):∀(a k:Nat)(left:List d)(b:Array d),left.length=a→(pickOrder.go next a k left b).toList.Perm (b.toList++left)
 |0,k,left,b,h=>by
  have:left=[]:=length_eq_zero_iff.mp h;subst this;rw[append_nil];exact .rfl
 |a+1,k,left,b,h=>by
  unfold pickOrder.go;have c:next k % left.length<left.length:=mod_lt _ (by omega);rw[getElem?_eq_getElem c];dsimp only;refine(lS next a (k+1) _ _ (by rw[List.length_eraseIdx,if_pos c];omega)).trans ?_;rw[Array.toList_push,append_assoc];refine List.Perm.append_left _ ?_;rw[List.singleton_append];rw[List.eraseIdx_eq_take_drop_succ];refine perm_middle.symm.trans ?_;rw[List.getElem_cons_drop,List.take_append_drop]
def fw(w:World)(a:Addr)(c:Nat)(b:Array (Int×Value)):Array (Int×Value):=if bt w then pickOrder (w.params.setOrder a c) b else b
theorem kr(w:World)(a:Addr)(c:Nat)(b:Array (Int×Value)):(fw w a c b).toList.Perm b.toList:=by
 unfold fw
 split
 ·exact lS _ _ _ _ _ rfl
 ·exact .rfl
theorem pE(w:World)(a:Addr)(c:Nat)(b:Array (Int×Value)):(fw w a c b).size=b.size:=by
 rw[←length_toList,(kr w a c b).length_eq,length_toList]
def qO(w:World)(t:SetTable)(e:Heap)(c a:Addr)(n d i:Nat):Prop :=
 ∃o b,e.get? c=some o∧o.cls=.type "set_iterator"∧o.data=.fields #[.int (b:Nat) 0,.int (i:Nat) 0,.ref a,.int (n:Nat) 0,.int (d:Nat) 0]∧(bt w=false→below t.place b=i)
theorem qO.typeIs{w:World}{t:SetTable}{s:Shared}{b a:Addr}{n c i:Nat}(x:qO w t s.heap b a n c i):s.TypeIs (.ref b) "set_iterator":=let⟨o,_,e,d,_⟩:=x;⟨o,e,d⟩
section
variable{prog:Program}{w:World}{A:Around}{E:Value→Shared→Prop}{s:Shared}
theorem iP{a:Array (Int×Value)}{t:SetTable}{ns:List Int}(S:ISt w a t ns):(!t.plain&&decide (a.size>1))=false:=by rw[S.pl];rfl
theorem vR{a:Addr}{o:Obj}{b:Array (Int×Value)}{d:Nat}{t:SetTable}{ns:List Int}{Q:Value→Shared→Prop}(S:ISt w b t ns)(c:s.heap.get? a=some o)(h:o.ExactSet)(hd:o.data=.set b d t)(f:Q (.ref s.heap.objs.size) {s with heap:=s.heap.push {cls:=.type "set_iterator",data:=.fields #[.int 0 0,.int 0 0,.ref a,.int b.size 0,.int d 0]}}):wpAny (model prog w) A (pyIter (.ref a)) Q E s:=by
 have e:s.TypeIs (.ref a) "set":=⟨o,c,h.1⟩;refine wpAny_pyIter_slot e F.slot_set_iter (wpAny_call_entry F.slot_set_iter e kq ?_ (F.args_set_iter_1 _));unfold Builtin.«frozenset.__iter__» Builtin.Frozenset.slot0;refine wpAny_bind ?_;show wpAny _ _ (pure a) _ _ s;refine wpAny_pure ?_;unfold Builtin.Frozenset.sizeOf;refine wpAny_bind (wpAny_bind (wpAny_setEntries_of c hd S.fits (wpAny_pure ?_)));refine wpAny_bind ?_;unfold setDrawn;refine wpAny_bind (wpAny_setState_of c hd S.fits ?_);unfold setsByText;refine wpAny_bind (wpAny_bind (wpAny_askSetting (wpAny_pure ?_)));refine wpAny_pure ?_;have g:(!(model prog w).w.params.followText "set-order"&&(!t.plain&&decide (b.size>1)))=false:=by rw[iP S,Bool.and_false]
 show wpAny _ _ (if (!(model prog w).w.params.followText "set-order"&&(!t.plain&&decide (b.size>1)))=true then _ else _) _ _ _
 rw[g];simp only[false_eq_true,if_false];refine wpAny_bind (wpAny_pure ?_);refine wpAny_bind (wpAny_setEpoch_of c hd S.fits ?_);refine wpAny_bind (wpAny_newObj_type (wpAny_pure ⟨_,rfl,"set_iterator",_,⟨_,get?_push_size _ rfl,rfl⟩,cv.lookup,?_⟩));simpa [rawInt]using f
theorem pF{a:Addr}{o:Obj}{es:Array (Int×Value)}{b h i:Nat}{t:SetTable}{ns:List Int}{Q:Option (Value×Nat)→Shared→Prop}(S:ISt w es t ns)(k:s.heap.get? a=some o)(hd:o.data=.set es b t)(y:bt w=false→below t.place h=i)(f:∀v n,(fw w a b es)[i]?.map (·.2)=some v→(bt w=false→below t.place n=i+1)→Q (some (v,n)) s)(g:(fw w a b es)[i]?=none→Q none s):wpAny (model prog w) A (setNext a h i b) Q E s:=by
 unfold setNext;refine wpAny_bind (wpAny_setState_of k hd S.fits ?_);unfold setsByText;refine wpAny_bind (wpAny_bind (wpAny_askSetting (wpAny_pure ?_)));show wpAny _ _ (if bt w=true then _ else _) _ _ _;cases c:bt w with
 |true =>
  simp only[if_true,bne_self_eq_false,false_eq_true,if_false];refine wpAny_bind ?_;unfold setWalk;refine wpAny_bind (wpAny_setState_of k hd S.fits ?_);unfold setsByText;refine wpAny_bind (wpAny_bind (wpAny_askSetting (wpAny_pure ?_)));show wpAny _ _ (if bt w=true then _ else _) _ _ _;rw[c];simp only[if_true];refine wpAny_bind (wpAny_askSetting (wpAny_pure ?_));have e:fw w a b es=pickOrder (w.params.setOrder a b) es:=by unfold fw;rw[c];rfl
  rw[e]at f g;show wpAny _ _ (pure (((pickOrder (w.params.setOrder a b) es)[i]?).map λe=>(e.2,h))) _ _ _;cases m:(pickOrder (w.params.setOrder a b) es)[i]? with
  |none=>exact wpAny_pure (g m)
  |some x=>exact wpAny_pure (f x.2 h (by rw[m];rfl) (λz=>absurd (c.symm.trans z) (by decide)))
 |false =>
  simp only[false_eq_true,if_false];have e:fw w a b es=es:=by unfold fw;rw[c];rfl
  rw[e]at f g;show wpAny _ _ (if (!t.plain&&decide (es.size>1))=true then _ else _) _ _ _
  rw[iP S];simp only[false_eq_true,if_false];refine wpAny_bind ?_;show wpAny _ _ (if (!t.led && !es.isEmpty)=true then _ else _) _ _ _
  rw[S.led c];simp only[Bool.not_true,Bool.false_and,false_eq_true,if_false];refine wpAny_pure ?_;have B:=y c;obtain⟨l,T,u⟩:=S.tb;have D:l.length=es.size:=by rw[u,S.size]
  rw[B]
  by_cases hi:i<es.size
  ·have d:es[i]?=some es[i]:=Array.getElem?_eq_getElem hi;have r:t.place[i]?=some (l[i]'(by omega)):=by rw[T.pl,List.getElem?_toArray,getElem?_eq_getElem (by omega)]
   rw[d,r];refine wpAny_pure (f _ _ (by rw[d];rfl) λ_=>?_);obtain⟨C,p,q⟩:=cP T.up (l[i]'(by omega)+1);rw[T.pl];rcases Nat.lt_trichotomy (below l.toArray (l[i]'(by omega)+1)) (i+1)with z|z|z
   ·have:=q i (by omega) (by omega);omega
   ·exact z
   ·have j:i+1<l.length:=by omega
    have F:=p (i+1) j z;have G:=pairwise_iff_getElem.mp T.up i (i+1) (by omega) j (by omega);omega
  ·have d:es[i]?=none:=Array.getElem?_eq_none (by omega);rw[d];exact wpAny_pure (g d)
theorem xN{b a:Addr}{o:Obj}{c:Array (Int×Value)}{e i:Nat}{t:SetTable}{ns:List Int}{Q:Option Value→Shared→Prop}(S:ISt w c t ns)(u:i<c.size)(f:qO w t s.heap b a c.size e i)(h:s.heap.get? a=some o)(hd:o.data=.set c e t)(x:a≠b)(k:∀v h',(fw w a e c)[i]?.map (·.2)=some v→qO w t h' b a c.size e (i+1)→SameBut b s.heap h'→Q (some v) {s with heap:=h'}):wpAny (model prog w) A (pyNext (.ref b)) Q E s:=by
 obtain⟨y,r,g,l,d,p⟩:=id f;unfold pyNext;refine wpAny_bind (wpAny_attempt (wpAny_callSpecial?_slot (name:=ofString "__next__") f.typeIs cv
  (wpAny_call_entry cv f.typeIs gB ?_ (ip _))))
 unfold Builtin.«set_iterator.__next__»;refine wpAny_bind (wpAny_pure ?_);refine wpAny_bind (wpAny_fieldsOf g d ?_);dsimp only;refine wpAny_bind (wpAny_setEntries_of h hd S.fits ?_);rw[if_neg (by simp)];show wpAny _ _ (setNext a (toNat (r:Int)) (toNat (i:Int)) (toNat (e:Int)) >>= _) _ _ _;rw[toNat_natCast,toNat_natCast,toNat_natCast];refine wpAny_bind (pF S h hd p (λv j q n=>?_) λm=>?_)
 ·dsimp only;refine wpAny_bind (wpAny_setField g d (by simp) ?_);have h1:(s.heap.update b (Obj.mapFields (·.setIfInBounds 0 (rawInt (j:Nat))))).get? b=some _:=get?_update_self _ g (Obj.isFreed_of_fields (Obj.data_mapFields d _));refine wpAny_bind (wpAny_setField h1 (Obj.data_mapFields d _) (by simp) ?_);have h2:=get?_update_self (Obj.mapFields (·.setIfInBounds 1 (rawInt ((i:Int)+1)))) h1 (Obj.isFreed_of_fields (Obj.data_mapFields (Obj.data_mapFields d _) _));refine wpAny_pure ⟨_,rfl,wpAny_pure (k v _ q ⟨_,j,h2,?_,?_,n⟩ ((SameBut.update ..).trans (SameBut.update ..)))⟩
  ·rw[Obj.cls_mapFields,Obj.cls_mapFields];exact l
  ·rw[Obj.data_mapFields (Obj.data_mapFields d _)];simp[rawInt]
 ·exfalso
  rw[Array.getElem?_eq_none_iff,pE]at m;omega
theorem zR{e a:Addr}{o:Obj}{c:Array (Int×Value)}{d:Nat}{t:SetTable}{ns:List Int}{Q:Option Value→Shared→Prop}(l:A.handled=none)(S:ISt w c t ns)(f:qO w t s.heap e a c.size d c.size)(h:s.heap.get? a=some o)(hd:o.data=.set c d t)(k:∀h',ExtBut e s.heap h'→Q none {s with heap:=h'}):wpAny (model prog w) A (pyNext (.ref e)) Q E s:=by
 obtain⟨x,p,i,q,g,n⟩:=id f;unfold pyNext;refine wpAny_bind (wpAny_attempt (wpAny_callSpecial?_slot (name:=ofString "__next__") f.typeIs cv
  (wpAny_call_entry cv f.typeIs gB ?_ (ip _))))
 unfold Builtin.«set_iterator.__next__»;refine wpAny_bind (wpAny_pure ?_);refine wpAny_bind (wpAny_fieldsOf i g ?_);dsimp only;refine wpAny_bind (wpAny_setEntries_of h hd S.fits ?_);rw[if_neg (by simp)];show wpAny _ _ (setNext a (toNat (p:Int)) (toNat (c.size:Int)) (toNat (d:Int)) >>= _) _ _ _;rw[toNat_natCast,toNat_natCast,toNat_natCast];refine wpAny_bind (pF S h hd n (λv y j u=>?_) λr=>?_)
 ·exfalso
  have:(fw w a d c)[c.size]?=none:=Array.getElem?_eq_none (by rw[pE];exact le_refl _);rw[this]at j;cases j
 ·dsimp only;refine wpAny_bind (wpAny_setField i g (by simp) ?_);show wpAny _ _ (newExc (.type "StopIteration") [] >>= _) _ _ _;refine wpAny_bind ?_;simp only[newExc,newTuple];refine wpAny_bind (wpAny_newObj_type ?_ (by size_fits));refine wpAny_bind (m:=firstArgMember _ _) (wpAny_of_eq (a:=Value.none) (by first|rfl|(simp only[firstArgMember];rfl)) ?_)
  refine wpAny_newObj_type ?_ (by size_fits);simp only[raiseNew];refine wpAny_bind (wpAny_handled ?_);rw[show A.in1.handled=none from l];refine wpAny_bind (wpAny_pure (wpAny_throw ?_));refine wpAny_bind (wpAny_isInstance (T:="StopIteration") (b:=true) ⟨_,get?_push_size _ rfl,rfl⟩ isSubtype_stop ?_);exact wpAny_pure (k _ (((SameBut.update ..).extBut.push _).push _))
theorem xO{c a:Addr}{n f i:Nat}{t:SetTable}{Q:Value→Shared→Prop}(d:qO w t s.heap c a n f i)(g:Q (.ref c) s):wpAny (model prog w) A (pyIter (.ref c)) Q E s:=by
 obtain⟨b,h,e⟩:=ls;subst e;refine wpAny_pyIter_slot d.typeIs io (wpAny_call_entry io d.typeIs h ?_ (nE _));show wpAny _ _ (ret (.ref c)) _ _ s;exact wpAny_pure ⟨_,rfl,"set_iterator",_,d.typeIs,cv.lookup,g⟩
theorem tU{f:Array (Int×Value)}{t:SetTable}{ns:List Int}{j:Nat}(S:ISt w f t ns)(p:A.handled=none)(c a:Addr)(l:a≠c)(o:Obj)(hd:o.data=.set f j t):
  Walks prog w A c [c,a] [c] f.size (λi v=>(fw w a j f)[i]?.map (·.2)=some v) (λi h=>qO w t h c a f.size j i∧h.get? a=some o) where
 sub:=λb d=>by simp at d;simp[d]
 frame:=λi h h' st k=>by
  obtain⟨⟨u,x,h1,h2⟩,h3⟩:=st;exact⟨⟨u,x,k c (by simp) _ h1,h2⟩,k a (by simp) _ h3⟩
 item:=λi s Q E hi st g=>by
  refine xN S hi st.1 st.2 hd l λv h' r q m=>?_;exact g v h' s.toks r ⟨q,m.extBut a o l st.2⟩ λb o d e=>m.extBut b o (λh=>d (by simp[h])) e
 done:=λs Q E st g=>zR p S st.1 st.2 hd λh' n=>g h' s.toks λb o d e=>n b o (λh=>d (by simp[h])) e
 self:=λ_ _ _ _ st g=>xO st.1 g
theorem vS{r:Addr}{Q:Bool→Shared→Prop}(a:s.TypeIs (.ref r) "set")(e:Q false s):wpAny (model prog w) A (Builtin.List.listLengthHint (.ref r)) Q E s:=by
 unfold Builtin.List.listLengthHint;refine wpAny_bind (wpAny_specialOf a PySem.F.slot_set_len.lookup ?_);generalize d:("set.__len__":String)=f
 wp_delta
 rw[show splitId f=some ("set","__len__")from by subst d;decide +kernel];subst d;refine wpAny_bind (wpAny_isInstance (T:="set") (b:=true) a (by rw[isSubtype_type];kernel_rfl) ?_);refine wpAny_ite_split (λc=>absurd c (by decide)) (λ_=>?_);refine wpAny_ite_split (λ_=>?_) (λc=>absurd (by decide +kernel) c);refine wpAny_bind (wpAny_typeOf a ?_);exact wpAny_pure e
theorem xP{c:Array (Int×Value)}{t:SetTable}{ns:List Int}{d:Nat}{a:Addr}{o:Obj}(S:ISt w c t ns)(e:o.ExactSet)(hd:o.data=.set c d t):
  KdlSrc prog w "set" a a c.size (λi v=>(fw w a d c)[i]?.map (·.2)=some v) (λh=>h.get? a=some o) where
 type:=λ_ b=>⟨o,b,e.1⟩
 there:=λ_ b=>⟨lt_size b,lt_size b⟩
 keep:=λ_ _ b k=>k a (.inl rfl) o b
 notList:=by decide
 notTuple:=by decide
 hint:=λ_ _ _ _ b f=>vS ⟨o,b,e.1⟩ f
 iter:=λA s j b=>⟨{cls:=.type "set_iterator",data:=.fields #[.int 0 0,.int 0 0,.ref a,.int c.size 0,.int d 0]},_,(λ_ _ f=>vR S b e hd f),tU S j _ a (ne_of_lt (lt_size b)) o hd,
  ⟨⟨_,0,get?_push_size _ rfl,rfl,rfl,λ_=>by
   obtain⟨l,T,p⟩:=S.tb;obtain⟨m,g,n⟩:=cP T.up 0;rw[T.pl];rcases Nat.eq_zero_or_pos (below l.toArray 0)with z|z
   ·exact z
   ·have:=g 0 (by omega) z;omega⟩,get?_push_of_some _ b⟩⟩
end
theorem IS.at{w:World}{a h':Heap}{S:Addr}{ns:List Int}(x:IS w a S ns)(k:∀o,a.get? S=some o→h'.get? S=some o):IS w h' S ns:=by
 obtain⟨o,es,b,t,c,r⟩:=x;exact⟨o,es,b,t,k o c,r⟩
theorem pG{w:World}{b:Heap}{a:Addr}(c:b.get? a=some {cls:=.type "set",dict:=none,data:=.set #[] 0 (.fresh 0 0 (!bt w))}):IS w b a [] :=
 ⟨_,#[],0,_,c,⟨rfl,rfl,rfl⟩,rfl,⟨⟨λ_=>0,rfl⟩,nodup_nil,⟨[],⟨rfl,rfl,Pairwise.nil,λ_ b=>by simp at b⟩,rfl⟩,Or.inl rfl,(by show 0<21;decide),rfl,λz=>by show(!bt w)=true;rw[z];rfl⟩⟩
section
variable{prog:Program}{w:World}{A:Around}{R:Result→Shared→Prop}{I:Addr}{fp wr:List Addr}{G:Array GenState→Array GenState→Prop}{n:Nat}{P:Nat→Value→Prop}{St:Nat→Shared→Prop}
end
section
variable{prog:Program}{w:World}{A:Around}{E:Value→Shared→Prop}{s:Shared}
theorem lu(a:Value){Q₁:Value→Shared→Prop}(b:Q₁ (.ref s.heap.objs.size) {s with heap:=s.heap.push {cls:=.type "set",dict:=none,data:=.set #[] 0 (.fresh 0 0 (!bt w))}}):
  codeAny (model prog w) A (.call (.builtin "set.__new__") ⟨[.type "set",a],[]⟩) (wants Q₁ E) s:=by
 refine codeAny_of_tree ?_;show wpAny _ A.in1 (do checkBuiltinCall "set.__new__" ⟨[.type "set",a],[]⟩;again (.builtin "set.__new__" ⟨[.type "set",a],[]⟩)) _ _ s
 refine wpAny_bind (wpAny_of_eq (F.newCall_set_1 a) (wpAny_pure ⟨plainId_quiet F.plain_set_new _,codeAny_builtin F.entry_set_new ?_⟩));rw[Around.under_plainId F.plain_set_new _];unfold Builtin.«set.__new__» Builtin.Frozenset.newClass;have e:=sub_set_self;obtain⟨c,g,d,tk,os⟩:=s;dsimp only
 wp_walk
 refine wpAny_askSetting (wpAny_pure ?_);dsimp only;simp only[newObj];refine wpAny_bind (wpAny_alloc (wpAny_pure ?_));exact wpAny_pure b
set_option maxRecDepth 100000 in
set_option maxHeartbeats 3200000 in
theorem nF{x:Value}{Q:Value→Shared→Prop}(m:wpAny (model prog w) A.in1.in1 (Builtin.«set.__init__» ⟨[.ref s.heap.objs.size,x],[]⟩)
   (λj s'=>match j with | .done f=>wants (λr a=>r=.none∧Q (.ref s.heap.objs.size) a) E (.ok f) s' | .again g=>g.quiet=true∧codeAny (model prog w) A.in1 g (wants (λr a=>r=.none∧Q (.ref s.heap.objs.size) a) E) s')
   (λe s'=>wants (λr a=>r=.none∧Q (.ref s.heap.objs.size) a) E (.error e) s') {s with heap:=s.heap.push {cls:=.type "set",dict:=none,data:=.set #[] 0 (.fresh 0 0 (!bt w))}}):
  wpAny (model prog w) A (call (.type "set") [x]) Q E s:=by
 obtain⟨c,tl,y⟩:=F.called_set.mro;have v:=F.called_set.made;have B:=F.called_set.sub;refine wpAny_call (codeAny_of_tree ?_);show wpAny _ _ (callAny (.type "set") _) _ _ _;refine wpAny_pure ⟨Code.quiet_builtin _ (by decide +kernel),codeAny_builtin F.entry_type_call ?_⟩;rw[Around.under_plain (weight_type_call_type "set" [x] []) rfl];have h1:=F.called_set.notType;have h2:=F.called_set.canCreate;have t:=F.typeCall_set_1 x
 repeat (any_goals (first|assumption|wp_step))
 refine codeAny_mono (lu x (E:=E) (Q₁:=λh i=>h=.ref s.heap.objs.size∧i={s with heap:=s.heap.push {cls:=.type "set",dict:=none,data:=.set #[] 0 (.fresh 0 0 (!bt w))}}) ⟨rfl,rfl⟩) λr i b=>?_
 cases r with
 |error e=>exact b
 |ok k =>
  cases k with
  |ret h =>
   obtain⟨rfl,rfl⟩:=b;have n:(s.heap.push {cls:=.type "set",dict:=none,data:=.set #[] 0 (.fresh 0 0 (!bt w))}).get? s.heap.objs.size=some {cls:=.type "set",dict:=none,data:=.set #[] 0 (.fresh 0 0 (!bt w))}:=get?_push_size _ rfl;have o:Shared.TypeIs {s with heap:=s.heap.push {cls:=.type "set",dict:=none,data:=.set #[] 0 (.fresh 0 0 (!bt w))}} (.ref s.heap.objs.size) "set":=⟨_,n,rfl⟩
   have u:=F.called_set.init.lookup;have q:=F.called_set.init.bind (.ref s.heap.objs.size)
   repeat (any_goals (first|assumption|wp_step))
   refine codeAny_mono (codeAny_call_builtin (R:=wants (λr a=>r=.none∧Q (.ref s.heap.objs.size) a) E) F.called_set.init.plain F.entry_set_init (check_set_init_1 o ?_)) λp a d=>?_
   ·exact m
   ·cases p with
    |error e=>exact d
    |ok l =>
     cases l with
     |ret r =>
      obtain⟨rfl,z⟩:=d
      repeat (any_goals (first|assumption|wp_step))
     |_=>exact d.elim
  |_=>exact b.elim
end
end TB
namespace SRT
open PySem PySem.W PyProof.Rows
section
variable{prog:Program}{w:World}{A:Around}{E:Value→Shared→Prop}{s:Shared}
theorem pH{f:Nat→Nat→Bool}{vs:List Value}{κ:SortKind}{Q:Value→Shared→Prop}(n:Ord f vs.length)(x:vs.length<64)(B:∀(a:Around) (s':Shared),a.units≤A.units+1→(∀b o,s.heap.get? b=some o→s'.heap.get? b=some o)→∀Q:SortKind→Shared→Prop,2≤vs.length→Q κ s'→wpAny (model prog w) a (keyKind' vs.toArray) Q (λ_ _=>False) s')(D:∀(a:Around) (s':Shared),a.units≤A.units+1→(∀b o,s.heap.get? b=some o→s'.heap.get? b=some o)→∀(i j:Nat) (C:Bool→Shared→Prop),i<vs.length→j<vs.length→C (f i j) s'→wpAny (model prog w) a (keyLt' κ (vs.getD i Value.none) (vs.getD j Value.none)) C (λ_ _=>False) s')(u:∀(p:Array Nat) (h':Heap),Row vs.length p→Up f p vs.length→(∀b o,s.heap.get? b=some o→h'.get? b=some o)→(∃k,h'.get? s.heap.objs.size=some (seqObj "list" (toArray (p.toList.map λi=>vs.getD i Value.none)) k))→Q (.ref s.heap.objs.size) {s with heap:=h'}):
  wpAny (model prog w) A (do
   let l ← newList vs
   let _ ← holding [l] (call (.builtin "list.sort") [l] [])
   ret l) (λt s'=>∃v,t=.done (.ret v)∧Q v s') E s:=by
 refine wpAny_bind (wpAny_newList ?_ (by rw[sizeLine_eq];omega));have d:(s.heap.push (seqObj "list" vs.toArray 0)).get? s.heap.objs.size=some (seqObj "list" vs.toArray 0):=get?_push_size _ rfl;have h:∀b o,s.heap.get? b=some o→(s.heap.push (seqObj "list" vs.toArray 0)).get? b=some o:=λb o q=>get?_push_of_some _ q;have c:∀b o,s.heap.get? b=some o→b≠s.heap.objs.size:=λb o q=>ne_of_lt (lt_size q);show wpAny _ _ _ _ _ {s with heap:=s.heap.push (seqObj "list" vs.toArray 0)}
 refine wpAny_bind (wpAny_holding (wpAny_call_entry slot_list_sort ⟨_,d,rfl⟩ entry_list_sort (hV (κ:=κ) (s:={s with heap:=s.heap.push (seqObj "list" vs.toArray 0)}) n d x ?_ ?_ λp H I=>⟨_,rfl,?_⟩) (args_list_sort _)))
 ·intro s' g r h2 G;exact B _ s' (by simp[Around.in1_units]) (λb o e=>g b o (c b o e) (h b o e)) r h2 G
 ·intro s' g i j C hi z y;exact D _ s' (by simp[Around.in1_units]) (λb o e=>g b o (c b o e) (h b o e)) i j C hi z y
 ·refine wpAny_pure ⟨_,rfl,u p _ H I (λb o e=>?_) ?_⟩
  ·unfold sortedHeap;rw[get?_update_ne _ _ _ _ (c b o e)];refine get?_push_of_some _ (get?_push_of_some _ ?_);rw[get?_update_ne _ _ _ _ (c b o e)];exact h b o e
  ·unfold sortedHeap;obtain⟨m,F⟩:∃m,((s.heap.push (seqObj "list" vs.toArray 0)).update s.heap.objs.size (Obj.mapSeq λ_=>(#[]:Array Value))).get? s.heap.objs.size=some (seqObj "list" #[] m):=⟨_,get?_update_seq d λ_=>#[]⟩;exact⟨_,get?_update_seq (get?_push_of_some _ (get?_push_of_some _ F)) _⟩
theorem pI{T:String}{r d:Addr}{n:Nat}{P:Nat→Value→Prop}{p:Heap→Prop}{Q:List Value→Shared→Prop}(K:KdlSrc prog w T r d n P p)(B:A.handled=none)(u:p s.heap)(C:n≤sizeLine)(y:∀h' tk a,(∀b o,s.heap.get? b=some o→h'.get? b=some o)→s.heap.objs.size<h'.objs.size→ItemsOf P a n→Q a.toList {s with heap:=h',toks:=tk}):wpAny (model prog w) A (collect (.ref r)) Q E s:=by
 unfold collect;refine wpAny_bind (wpAny_runValue (codeAny_builtin entry_proto_collect' ?_));show wpAny _ _ (do again (.builtin "list.__iadd__" ⟨[←newList [],.ref r],[]⟩)) _ _ s
 refine wpAny_bind (wpAny_newList (wpAny_pure ⟨Code.quiet_builtin _ (by decide +kernel),codeAny_builtin entry_list_iadd' ?_⟩));rw[Around.under_plainId PySem.F.plain_list_iadd _];show wpAny _ _ (Builtin.List.listExtendWith (.ref s.heap.objs.size) (.ref r) (.ref s.heap.objs.size)) _ _ {s with heap:=s.heap.push (seqObj "list" #[] 0)}
 have t:=K.there _ u;have z:(s.heap.push (seqObj "list" #[] 0)).get? s.heap.objs.size=some (seqObj "list" #[] 0):=get?_push_size _ rfl;have G:=PySem.W.kdl_extend (A:=A) (s:={s with heap:=s.heap.push (seqObj "list" #[] 0)}) (R:=λr s'=>∃h' tk a g,r=.ok (.ret (.ref s.heap.objs.size))∧s'={s with heap:=h',toks:=tk}∧(∀b o,s.heap.get? b=some o→h'.get? b=some o)∧h'.get? s.heap.objs.size=some {cls:=.type "list",dict:=none,data:=.seq a g,slots:=#[]}∧ItemsOf P a n)
  K B (K.keep _ _ u λb _ o e=>get?_push_of_some _ e) s.heap.objs.size (ne_of_gt t.1) (ne_of_gt t.2) (.ref s.heap.objs.size) 0 z (λh' tk v g j h i=>⟨h',tk,v,g,rfl,rfl,λb o e=>j b o (ne_of_lt (lt_size e)) (get?_push_of_some _ e),h,i⟩) C
 have q:∀(h':Heap)(tk:Nat)(a:Array Value)(g:Nat),(∀b o,s.heap.get? b=some o→h'.get? b=some o)→h'.get? s.heap.objs.size=some {cls:=.type "list",dict:=none,data:=.seq a g,slots:=#[]}→ItemsOf P a n→wpAny (model prog w) A (do
   let o ← load s.heap.objs.size
   match o.data with
   |.seq xs _=>pure xs.toList
   | _=>unsupported "internal:collect") Q E {s with heap:=h',toks:=tk}:=λh' tk a g j h i=>by
  refine wpAny_bind (wpAny_load h ?_);exact wpAny_pure (y h' tk a j (lt_size h) i)
 refine wpAny_mono G (λx s' l=>?_) λe s' l=>?_
 ·cases x with
  |done f =>
   obtain⟨h',tk,a,g,k,m,j,h,i⟩:=l;cases k;subst m;exact q h' tk a g j h i
  |again c =>
   refine⟨l.1,codeAny_mono l.2 λr s' D=>?_⟩;obtain⟨h',tk,a,g,k,m,j,h,i⟩:=D;subst k m;exact q h' tk a g j h i
 ·obtain⟨h',tk,a,g,k,_⟩:=l;cases k
theorem ku{T:String}{r d:Addr}{n:Nat}{P:Nat→Value→Prop}{l:Heap→Prop}{κ:SortKind}{Q:Value→Shared→Prop}(K:KdlSrc prog w T r d n P l)(z:A.handled=none)(H:l s.heap)(G:n≤sizeLine)(v:∀(h1:Heap) (tk:Nat) (vs:List Value),(∀b o,s.heap.get? b=some o→h1.get? b=some o)→s.heap.objs.size<h1.objs.size→ItemsOf P vs.toArray n→∃f:Nat→Nat→Bool,Ord f vs.length∧vs.length<64 ∧
   (∀(a:Around) (s':Shared),a.units≤A.units+2→(∀b o,s.heap.get? b=some o→s'.heap.get? b=some o)→∀Q:SortKind→Shared→Prop,2≤vs.length→Q κ s'→wpAny (model prog w) a (keyKind' vs.toArray) Q (λ_ _=>False) s') ∧
   (∀(a:Around) (s':Shared),a.units≤A.units+2→(∀b o,s.heap.get? b=some o→s'.heap.get? b=some o)→∀(i j:Nat) (C:Bool→Shared→Prop),i<vs.length→j<vs.length→C (f i j) s'→wpAny (model prog w) a (keyLt' κ (vs.getD i Value.none) (vs.getD j Value.none)) C (λ_ _=>False) s') ∧
   ∀(p:Array Nat) (h':Heap),Row vs.length p→Up f p vs.length→(∀b o,s.heap.get? b=some o→h'.get? b=some o)→(∃k,h'.get? h1.objs.size=some (seqObj "list" (toArray (p.toList.map λi=>vs.getD i Value.none)) k))→Q (.ref h1.objs.size) {s with heap:=h',toks:=tk}):
  wpAny (model prog w) A (call (.builtin "sorted") [.ref r]) Q E s:=by
 refine Calls.call_function_entry kind_sorted plain_sorted entry_sorted (args_sorted1 _) ?_;unfold Builtin.«sorted»;refine wpAny_bind (m:=checkCount "sorted" 1 1 _) (wpAny_pure ?_);refine wpAny_bind (pI K z H G λh1 tk t g D x=>?_);obtain⟨f,q,u,B,F,I⟩:=v h1 tk t.toList g D (by rw[Array.toArray_toList];exact x);exact pH (s:={s with heap:=h1,toks:=tk}) q u (λa s' h c=>B a s' (by have:=h;simp only[Around.in1_units]at this;omega) λb o e=>c b o (g b o e)) (λa s' h c=>F a s' (by have:=h;simp only[Around.in1_units]at this;omega) λb o e=>c b o (g b o e))
  λp h' J L c y=>I p h' J L (λb o e=>c b o (g b o e)) y
end
end SRT
namespace L2
open PySem PySem.Spec PyProof.Rows
section
variable{X:Cx}
def cA(w:World)(a:Addr)(ns:List Int):HO:=.ext λh=>TB.IS w h a ns
theorem Inv.intS{e:List (Addr×Obj)}{f:St}{b:Hp}{s:Shared}(c:Inv X e f b s){a:Addr}{ns:List Int}(d:b a=some (cA X.w a ns)):TB.IS X.w s.heap a ns:=(c.hok a _ d).1
theorem Inv.layS{e:List (Addr×Obj)}{f:St}{c:Hp}{s:Shared}(g:Inv X e f c s){h':Heap}{t':Nat}{a:Addr}{ns:List Int}(k:∀b u,s.heap.get? b=some u→h'.get? b=some u)(l:s.heap.objs.size≤a)(d:TB.IS X.w h' a ns):
  Inv X e f (upd c a (cA X.w a ns)) {s with heap:=h',toks:=t'}:=by
 obtain⟨o,es,m,t,j,r⟩:=id d;exact g.laid k l ⟨d,⟨o,j⟩,λh1 h2 h i=>h.at i⟩
theorem fz(Y:X.calm=true):cx X (.builtin "sorted") (λxs H Q=>∃l,∃ns:List Int,xs=[.ref l]∧H l=some (cA X.w l ns)∧ns.length≤60 ∧
  ∀ms:List Int,ms.Perm ns→ms.Pairwise (λa b=>a<b)→∀p,H p=none→Q (.ref p) (upd H p (.lst (ms.map V.int)))):=by
 intro pins s σ H xs b5 Q I r h;obtain⟨l,ns,rfl,a5,b2,q⟩:=h;obtain⟨u,rfl,b0⟩:=dy r;cases b0;obtain⟨o,es,F,t,a6,a1,Z,S⟩:=I.intS a5;obtain⟨y,a0⟩:=S.ent;obtain⟨ns',m,L⟩:=TB.du (TB.kr X.w l F es) a0;have K:ns'.Nodup:=m.nodup_iff.mpr S.nd;have G:ns'.length=ns.length:=m.length_eq;refine SRT.ku (κ:=oneType') (TB.xP S a1 Z) (I.ok.hd Y) a6 (by rw[S.size,sizeLine_eq];omega) λh1 tk vs b3 J D=>?_;have g:vs=ns'.map λn=>Value.int n (y n):=by
  apply ext_getElem?;intro i;have E:vs.length=es.size:=by have:=D.1;rw[size_toArray]at this;exact this
  by_cases hi:i<vs.length
  ·have:Option.map (λx=>x.2) (TB.fw X.w l F es)[i]?=some vs[i]:=D.2 i vs[i] (by rw[List.getElem?_toArray];exact getElem?_eq_getElem hi);rw[getElem?_eq_getElem hi,getElem?_map];rw[←getElem?_toList,L,getElem?_map]at this;cases e:ns'[i]? with
   |none=>rw[e]at this;cases this
   |some n =>
    rw[e]at this;have R:(TB.im y n).2=vs[i]:=Option.some.inj this;show some vs[i]=some (Value.int n (y n));rw[←R];rfl
  ·rw[getElem?_eq_none (by omega),getElem?_eq_none (by rw[length_map,G,←S.size];omega)]
 have E:vs.length=ns'.length:=by rw[g,length_map]
 have z:∀i,i<ns'.length→vs.getD i Value.none=.int (ns'.getD i 0) (y (ns'.getD i 0)):=λi hi=>by
  rw[g,vd (d:=(0:Int)) hi]
 have O:aF (ns'.map V.int) vs:=by
  rw[g];clear m L K G g E z D
  induction ns' with
  |nil=>exact .nil
  |cons n ns' a8=>exact .cons ⟨_,rfl⟩ a8
 refine⟨λi f=>decide (ns'.getD i 0<ns'.getD f 0),⟨λi _=>by simp,λi f k _ _ _ h1 h2=>?_,λi f hi j B=>?_⟩,by omega,λP s' _ _ b1 h2 U=>?_,λP s' _ _ i f C hi j T=>?_,λp h' v N a9 A=>?_⟩
 ·simp only[decide_eq_true_eq]at *;omega
 ·simp only[decide_eq_true_eq];have:ns'.getD i 0≠ns'.getD f 0:=by
   rw[getD_eq_getElem?_getD,getD_eq_getElem?_getD,getElem?_eq_getElem (by omega),getElem?_eq_getElem (by omega)];exact λe=>B ((getElem_inj K).mp e)
  omega
 ·rw[ksk_kind (keys:=vs.toArray) (kz:=ns') (by simpa using nu O) (by rw[size_toArray];omega)];exact wpAny_pure U
 ·rw[z i (by omega),z f (by omega)];exact kat_lt_int T
 ·obtain⟨c,A⟩:=A;rw[E]at v N;have a3:∀i∈p.toList,i<ns'.length:=λi hi=>mem_range.mp (v.perm.mem_iff.mp hi);have M:(p.toList.map λi=>ns'.getD i 0).Perm ns':=by
   refine(v.perm.map _).trans ?_;have:(List.range ns'.length).map (λi=>ns'.getD i 0)=ns':=by
    apply ext_getElem?;intro i;rw[getElem?_map]
    by_cases hi:i<ns'.length
    ·rw[getElem?_range hi,(cX (d:=(0:Int)) hi).2];rfl
    ·rw[getElem?_eq_none (by rw[length_range];omega),getElem?_eq_none (by omega)];rfl
   rw[this]
  have b4:p.size=ns'.length:=v.size;have a7:(p.toList.map λi=>ns'.getD i 0).Pairwise (λa b=>a<b):=by
   rw[pairwise_iff_getElem];intro i f hi j B;have a2:i<p.size:=by rw[length_map,length_toList]at hi;exact hi
   have a4:f<p.size:=by rw[length_map,length_toList]at j;exact j
   have:=N i f B (by omega);simp only[]at this;rw[getD_eq_getD_getElem?,getD_eq_getD_getElem?,Array.getElem?_eq_getElem a2,Array.getElem?_eq_getElem a4]at this;simpa using this
  refine⟨.ref h1.objs.size,_,I.laid (t':=tk) (o:=.lst ((p.toList.map λi=>ns'.getD i 0).map V.int)) a9 (le_of_lt J) ⟨?_,_,c,iI O p.toList a3,A⟩,rfl,q _ (M.trans m) a7 _ (I.hok.fresh (le_of_lt J))⟩;rw[length_map,M.length_eq,sizeLine_eq];omega
end
end L2
namespace TB
open PySem PySem.SetTable
theorem xQ{mask finger moves:Nat}{led plain:Bool}{hashes:Array Int}(c:Cyc mask)(p:hashes.size≤mask+1):
  ∃(t':SetTable) (zs:List (Nat×Nat)),SetTable.laid mask finger moves led plain hashes=some (t',(zs.map (·.2)).toArray)∧t'.mask=mask∧t'.led=led∧t'.plain=plain ∧
   Tb t' (zs.map (·.1))∧(zs.map (·.2)).Perm (List.range hashes.size):=by
 obtain⟨d,e,j⟩:=iW c hashes p;refine⟨{mask:=mask,place:=((live mask d).map (·.1)).toArray,dummies:=#[],finger:=finger,led:=led,moves:=moves,plain:=plain},live mask d,?_,rfl,rfl,rfl,⟨rfl,rfl,?_,?_⟩,?_⟩
 ·unfold laid;rw[e];rfl
 ·unfold Up live;rw[List.map_filterMap];have a:((List.range (mask+1)).filterMap λf=>((d.getD f none).map (f,·)).map (·.1))=(List.range (mask+1)).filter λf=>(d.getD f none).isSome:=by
   generalize List.range (mask+1)=l
   induction l with
   |nil=>rfl
   |cons x l h =>
    cases ex:d.getD x none with
    |none=>rw[filterMap_cons_none (by rw[ex];rfl),filter_cons_of_neg (by simp[ex])];exact h
    |some i=>rw[filterMap_cons_some (b:=x) (by rw[ex];rfl),filter_cons_of_pos (by simp[ex]),h]
  rw[a];exact Pairwise.sublist filter_sublist List.pairwise_lt_range
 ·intro f n;obtain⟨z,g,rfl⟩:=mem_map.mp n;unfold live at g;obtain⟨k,o,a⟩:=mem_filterMap.mp g;cases ex:d.getD k none with
  |none=>rw[ex]at a;cases a
  |some i =>
   rw[ex]at a;have m:(k,i)=z:=Option.some.inj a;subst m;have:=mem_range.mp o;show k≤mask;omega
 ·have:=j.perm;rw[length_toList]at this;exact this
theorem pJ{a:Array (Int×Value)}{zs:List (Nat×Nat)}(b:(zs.map (·.2)).Perm (List.range a.size)):(((zs.map (·.2)).toArray).filterMap (λi=>a[i]?)).toList.Perm a.toList:=by
 rw[Array.toList_filterMap];exact(b.filterMap _).trans (by rw[filterMap_getElem?_range])
section
variable{prog:Program}{w:World}{A:Around}{E:Value→Shared→Prop}{s:Shared}
theorem vT{a:Addr}{ns:List Int}{wanted:Nat}{Q:Unit→Shared→Prop}(p:IS w s.heap a ns)(C:wanted≤255)(B:ns.length*5<(sizeAbove wanted-1)*3)(n:∀h' b o es k t,SameBut a s.heap h'→h'.get? a=some o→o.ExactSet→o.data=.set es k t→ISt w es t b→b.Perm ns→t.mask=sizeAbove wanted-1→Q () {s with heap:=h'}):wpAny (model prog w) A (setRelay a wanted) Q E s:=by
 obtain⟨o,es,k,t,h,u,c,S⟩:=p;obtain⟨f,G,D⟩:=gX C;have H:=S.size;have F:=f.ge;unfold setRelay;refine wpAny_bind (wpAny_setState_of h c S.fits ?_);dsimp only;rw[if_neg (by rw[sizeLine_eq];omega)];obtain⟨t',zs,e,d,v,y,T,j,_⟩:=iG (t:=t) (hashes:=es.map (·.1)) (wanted:=wanted) f.cyc (by rw[size_map];omega);rw[size_map]at j;have l:=pJ j;have m:(((zs.map (·.2)).toArray).filterMap (λi=>es[i]?)).size=es.size:=by rw[←length_toList,l.length_eq,length_toList]
 obtain⟨tk,q⟩:=S.ent;obtain⟨b,g,r⟩:=du l q;have I:zs.length=es.size:=by
  have:=j.length_eq;rw[length_map,length_range]at this;exact this
 have x:b.length=ns.length:=g.length_eq;refine wpAny_bind ?_;rw[e];show wpAny _ _ (@ite _ _ _ _ _) _ _ _;rw[if_neg (by rw[m];simp)];refine wpAny_pure ?_;dsimp only;refine wpAny_storeSet_of h c ?_ (by rw[m,sizeLine_eq];omega);exact n _ b _ _ _ t' (SameBut.update s.heap a _) (stored h c _ t') u rfl ⟨⟨tk,r⟩,g.nodup_iff.mpr S.nd,⟨_,T,by rw[length_map];omega⟩,by rw[d];exact f,by rw[d,x];exact B,by rw[y];exact S.pl,λz=>by rw[v];exact S.led z⟩ g d
theorem nG{a:Addr}{ns:List Int}{more:Nat}{Q:Unit→Shared→Prop}(h:IS w s.heap a ns)(H:ns.length+more≤120)(g:∀h' b o es c t,SameBut a s.heap h'→h'.get? a=some o→o.ExactSet→o.data=.set es c t→ISt w es t b→b.Perm ns→(ns.length+more)*5<t.mask*3→Q () {s with heap:=h'}):wpAny (model prog w) A (setRoomFor a more) Q E s:=by
 obtain⟨o,es,c,t,k,q,i,S⟩:=id h;obtain⟨l,T,j⟩:=S.tb;have u:t.fill=ns.length:=by rw[gg T,j]
 have B:t.place.size=ns.length:=by rw[T.pl,size_toArray,j]
 unfold setRoomFor;refine wpAny_bind (wpAny_setState_of k i S.fits ?_);dsimp only
 by_cases f:(t.fill+more)*5≥t.mask*3
 ·have e:t.roomFor more=some ((t.place.size+more)*2):=by unfold SetTable.roomFor;rw[if_pos f]
  rw[e];dsimp only;rw[B];obtain⟨x,G,_⟩:=gX (w:=(ns.length+more)*2) (by omega);have D:=x.ge;have F:=S.mkm.ge;refine vT h (by omega) (by omega) λh' b o' d n t' C y r p m z v=>g h' b o' d n t' C y r p m z ?_;rw[v];omega
 ·have e:t.roomFor more=none:=by unfold SetTable.roomFor;rw[if_neg f]
  rw[e];dsimp only;have d:s={s with heap:=s.heap}:=by cases s;rfl
  rw[d];exact wpAny_pure (g s.heap ns o es c t (SameBut.refl a s.heap) k q i S (.refl _) (by rw[u]at f;omega))
theorem lT{a b:Addr}{ns:List Int}{J:Sem Unit}{Q:Unit→Shared→Prop}(v:a≠b)(u:IS w s.heap a [])(L:IS w s.heap b ns)(a8:ns.length≤60)(n:∀h' l,SameBut a s.heap h'→IS w h' a l→l.Perm ns→Q () {s with heap:=h'}):wpAny (model prog w) A (setMerge a b J) Q E s:=by
 obtain⟨ob,g,a3,tb,C,a6,M,c⟩:=id L;unfold setMerge;have V:(a==b)=false:=by simpa using v
 rw[V];simp only[false_eq_true,if_false];refine wpAny_bind (wpAny_setState_of C M c.fits ?_);dsimp only;have K:s={s with heap:=s.heap}:=by cases s;rfl
 by_cases o:g.isEmpty=true
 ·rw[o];simp only[if_true];have Z:ns=[]:=by
   have:=c.size;have a5:g.size=0:=by simpa [isEmpty]using o
   exact length_eq_zero_iff.mp (by omega)
  subst Z;rw[K];exact wpAny_pure (n s.heap [] (SameBut.refl a s.heap) u (.refl _))
 ·have N:g.isEmpty=false:=by simpa using o
  rw[N];simp only[false_eq_true,if_false];have t:=c.size;refine wpAny_bind (nG u (by rw[length_nil];omega) λh1 a1 b2 a4 a2 f r j y h d X F=>?_);have I:a1=[]:=X.eq_nil;subst I;rw[length_nil,zero_add]at F;have a9:h1.get? b=some ob:=(r.2 b (Ne.symm v)).trans C;refine wpAny_bind (wpAny_setState_of (s:={s with heap:=h1}) j h d.fits ?_);dsimp only;obtain⟨b1,H,R⟩:=d.tb;have P:f.fill=0:=by rw[gg H,R];rfl
  obtain⟨a0,m,S⟩:=c.tb;obtain⟨tk,x⟩:=c.ent;have a7:=d.mkm.ge;cases k:f.road tb with
  |slotForSlot =>
   dsimp only;refine wpAny_storeSet_of (s:={s with heap:=h1}) j h ?_ (by rw[t,sizeLine_eq];omega);refine n _ ns (r.trans (SameBut.update ..)) ⟨_,_,_,_,stored (s:={s with heap:=h1}) j h _ _,y,rfl,⟨⟨tk,x⟩,c.nd,⟨a0,⟨m.pl,m.nd,m.up,m.le⟩,S⟩,c.mkm,c.room,by show(f.plain&&tb.plain)=true;rw[d.pl,c.pl];rfl,λz=>by show(f.led&&tb.led)=true;rw[d.led z,c.led z];rfl⟩⟩ (.refl _)
  |clean =>
   dsimp only;obtain⟨t',zs,e,B,U,Y,T,q⟩:=xQ (mask:=f.mask) (finger:=f.finger) (moves:=f.moves) (led:=f.led&&tb.led) (plain:=f.plain&&tb.plain) (hashes:=g.map (·.1)) d.mkm.cyc (by rw[size_map];omega);rw[size_map]at q;have D:=pJ q;have G:(((zs.map (·.2)).toArray).filterMap (λi=>g[i]?)).size=g.size:=by rw[←length_toList,D.length_eq,length_toList]
   obtain⟨l,p,O⟩:=du D x;have b0:zs.length=g.size:=by
    have:=q.length_eq;rw[length_map,length_range]at this;exact this
   have W:l.length=ns.length:=p.length_eq;refine wpAny_bind ?_;rw[e];show wpAny _ _ (@ite _ _ _ _ _) _ _ _;rw[if_neg (by rw[G];simp)];refine wpAny_pure ?_;dsimp only;refine wpAny_storeSet_of (s:={s with heap:=h1}) j h ?_ (by rw[G,t,sizeLine_eq];omega);exact n _ l (r.trans (SameBut.update ..)) ⟨_,_,_,_,stored (s:={s with heap:=h1}) j h _ _,y,rfl,⟨⟨tk,O⟩,p.nodup_iff.mpr c.nd,⟨_,T,by rw[length_map];omega⟩,by rw[B];exact d.mkm,by rw[B,W,←t];exact F,by rw[Y,d.pl,c.pl];rfl,λz=>by rw[U,d.led z,c.led z];rfl⟩⟩ p
  |oneByOne =>
   exfalso
   unfold SetTable.road at k;rw[P]at k;simp only[bne_self_eq_false,false_eq_true,if_false]at k
   split at k<;>cases k
theorem xR{b:Addr}{o:Obj}{c:Array (Int×Value)}{e:Nat}{t:SetTable}{ns:List Int}{Q:Array (Int×Value)→Shared→Prop}(S:ISt w c t ns)(f:s.heap.get? b=some o)(hd:o.data=.set c e t)(a:Q (fw w b e c) s):wpAny (model prog w) A (setWalk b) Q E s:=by
 unfold setWalk;refine wpAny_bind (wpAny_setState_of f hd S.fits ?_);unfold setsByText;refine wpAny_bind (wpAny_bind (wpAny_askSetting (wpAny_pure ?_)));show wpAny _ _ (if bt w=true then _ else _) _ _ _;unfold fw at a;cases d:bt w with
 |true =>
  rw[d]at a;simp only[if_true]at a⊢;exact wpAny_bind (wpAny_askSetting (wpAny_pure a))
 |false =>
  rw[d]at a;simp only[false_eq_true,if_false]at a⊢;show wpAny _ _ (if (!t.plain&&decide (c.size>1))=true then _ else _) _ _ _
  rw[iP S];simp only[false_eq_true,if_false];refine wpAny_bind ?_;show wpAny _ _ (if (!t.led&&decide (c.size>1))=true then _ else _) _ _ _
  rw[S.led d];simp only[Bool.not_true,Bool.false_and,false_eq_true,if_false];exact wpAny_pure (wpAny_pure a)
theorem pK{b:Addr}{os:List Addr}{f:Option Addr}{o:Obj}{a:Array (Int×Value)}{c:Nat}{t:SetTable}{ns:List Int}{Q:Array (Int×Value)→Shared→Prop}(S:ISt w a t ns)(e:s.heap.get? b=some o)(hd:o.data=.set a c t)(g:Q (fw w b c a) s):wpAny (model prog w) A (setWalkUnseen b os f) Q E s:=by
 unfold setWalkUnseen;refine wpAny_bind (wpAny_setState_of e hd S.fits ?_);dsimp only;refine wpAny_bind ?_;unfold setsByText;refine wpAny_bind (wpAny_askSetting (wpAny_pure ?_));have h:((model prog w).w.params.followText "set-order"||t.led&&t.plain||decide (a.size≤1))=true:=by
  cases d:bt w with
  |true =>
   have:(model prog w).w.params.followText "set-order"=true:=d;rw[this];rfl
  |false=>rw[S.led d,S.pl];simp
 show wpAny _ _ (if ((model prog w).w.params.followText "set-order"||t.led&&t.plain||decide (a.size≤1))=true then _ else _) _ _ _
 rw[h];simp only[if_true];exact xR S e hd g
theorem vU{a b:Addr}{d ns:List Int}{G:Sem Unit}{Q:Unit→Shared→Prop}(l:a≠b)(p:IS w s.heap a d)(H:IS w s.heap b ns)(c7:d.length+ns.length≤60)(Y:∀(h':Heap) (F:Unit→Shared→Prop),SameBut a s.heap h'→F () {s with heap:=h'}→wpAny (model prog w) A G F E {s with heap:=h'})(n:∀h' us,SameBut a s.heap h'→IS w h' a us→(∀x,x∈us↔x∈d∨x∈ns)→Q () {s with heap:=h'}):wpAny (model prog w) A (setMerge a b G) Q E s:=by
 by_cases K:d=[]
 ·subst K;exact lT l p H (by omega) λh' c P Z b2=>n h' c P Z λx=>by rw[b2.mem_iff];simp
 ·obtain⟨ob,k,V,tb,y,c5,q,f⟩:=id H;have c6:0<d.length:=List.length_pos_iff.mpr K;unfold setMerge;have a8:(a==b)=false:=by simpa using l
  rw[a8];simp only[false_eq_true,if_false];refine wpAny_bind (wpAny_setState_of y q f.fits ?_);dsimp only;have W:s={s with heap:=s.heap}:=by cases s;rfl
  by_cases t:k.isEmpty=true
  ·rw[t];simp only[if_true];have b8:ns=[]:=by
    have:=f.size;have c4:k.size=0:=by simpa [isEmpty]using t
    exact length_eq_zero_iff.mp (by omega)
   subst b8;rw[W];exact wpAny_pure (n s.heap d (SameBut.refl a s.heap) p λx=>by simp)
  ·have a1:k.isEmpty=false:=by simpa using t
   rw[a1];simp only[false_eq_true,if_false];have P:=f.size;refine wpAny_bind (nG p (by omega) λh1 b9 c0 X U D O M a3 I m B c9=>?_);have a9:h1.get? b=some ob:=(O.2 b (Ne.symm l)).trans y;refine wpAny_bind (wpAny_setState_of (s:={s with heap:=h1}) M I m.fits ?_);dsimp only;obtain⟨d0,S,a6⟩:=m.tb;have a4:D.fill≠0:=by rw[gg S,a6,B.length_eq];omega
   have b6:D.road tb=.oneByOne:=by
    unfold SetTable.road;rw[if_pos (by simpa using a4)]
   rw[b6];dsimp only;refine wpAny_bind (pK (s:={s with heap:=h1}) f a9 q ?_);obtain⟨tk,a2⟩:=f.ent;obtain⟨c,L,b1⟩:=du (kr w b V k) a2;have c8:c.length=ns.length:=L.length_eq;rw[←forIn_toList,b1];refine wpAny_bind ?_;refine wpAny_forIn_list _ (λrest _ s'=>∃h' us i,s'={s with heap:=h'}∧rest=(c.drop i).map (im tk)∧SameBut a s.heap h'∧IS w h' a us∧(∀x,x∈us↔x∈d∨x∈c.take i)∧us.length≤d.length+i∧i≤c.length) _ ?_ ?_ _ _
    ⟨h1,b9,0,rfl,rfl,O,⟨c0,X,U,D,M,a3,I,m⟩,λx=>by rw[B.mem_iff];simp,by rw[B.length_eq];omega,zero_le _⟩
   ·rintro⟨J,R⟩ rest T s' ⟨h',us,i,rfl,g,j,o,h,a7,hi⟩;have v:i<c.length:=by
     rcases lt_or_ge i c.length with z|z
     ·exact z
     ·rw[List.drop_of_length_le z]at g;cases g
    rw[List.drop_eq_getElem_cons v,map_cons]at g;injection g with b3 b4
    have b5:J=hashInt c[i]∧R=Value.int c[i] (tk c[i]):=by
     have:(J,R)=(hashInt c[i],Value.int c[i] (tk c[i])):=b3;injection this with c1 c2
     exact⟨c1,c2⟩
    obtain⟨rfl,rfl⟩:=b5;refine wpAny_bind (wpAny_holding (add_int (s:={s with heap:=h'}) o (by omega) λr h2 c3 C a0 N=>?_));refine wpAny_bind (Y h2 _ (j.trans C) ?_);have b0:h2.get? b=some ob:=((j.trans C).2 b (Ne.symm l)).trans y;refine wpAny_bind (wpAny_setState_of (s:={s with heap:=h2}) b0 q f.fits ?_);rw[if_neg (by simp)];refine wpAny_pure ⟨h2,c3,i+1,rfl,b4,j.trans C,a0,λx=>?_,?_,v⟩
    ·have b7:c.take (i+1)=c.take i++[c[i]]:=by rw[take_succ,getElem?_eq_getElem v];rfl
     rw[b7,mem_append,mem_singleton];rcases N with⟨u,e⟩|⟨_,e⟩
     ·rw[e,h x];constructor
      ·rintro(z|z)
       ·exact .inl z
       ·exact .inr (.inl z)
      ·rintro(z|z|z)
       ·exact .inl z
       ·exact .inr z
       ·rw[z];exact(h _).mp u
     ·rw[e.mem_iff,mem_cons,h x];constructor
      ·rintro(z|z|z)
       ·exact .inr (.inr z)
       ·exact .inl z
       ·exact .inr (.inl z)
      ·rintro(z|z|z)
       ·exact .inr (.inl z)
       ·exact .inr (.inr z)
       ·exact .inl z
    ·rcases N with⟨_,e⟩|⟨_,e⟩
     ·rw[e];omega
     ·have:=e.length_eq;rw[length_cons]at this;omega
   ·rintro T s' ⟨h',us,i,rfl,g,j,o,h,a7,hi⟩;have a5:c.drop i=[]:=by simpa using g.symm
    have u:i=c.length:=by
     have:=congrArg length a5;rw[length_drop,length_nil]at this;omega
    refine wpAny_pure (n h' us j o λx=>?_);rw[h x,u,take_length,L.mem_iff]
end
theorem nH:entryFor table "set.__or__"=some Builtin.«frozenset.__or__» :=
 entryFor_alias (id':="frozenset.__or__") (by kernel_rfl) rfl (by decide +kernel) (by kernel_rfl)
section
variable{prog:Program}{w:World}{A:Around}{E:Value→Shared→Prop}{s:Shared}
theorem zS{Q:Value→Shared→Prop}(h:∀h',(∀b o,s.heap.get? b=some o→h'.get? b=some o)→IS w h' s.heap.objs.size []→Q (.ref s.heap.objs.size) {s with heap:=h'}):wpAny (model prog w) A (newSet (.type "set")) Q E s:=by
 unfold newSet setsByText;refine wpAny_bind (wpAny_bind (wpAny_askSetting (wpAny_pure ?_)));dsimp only;simp only[newObj];exact wpAny_bind (wpAny_alloc (wpAny_pure (h _ (λb o e=>get?_push_of_some _ e) (pG (get?_push_size _ rfl)))))
theorem nI{a:Addr}{Q:Bool→Shared→Prop}(d:s.TypeIs (.ref a) "set")(c:Q true s):wpAny (model prog w) A (Builtin.Frozenset.isAnySet (.ref a)) Q E s:=by
 unfold Builtin.Frozenset.isAnySet;refine wpAny_bind (wpAny_isInstance (b:=true) d sub_set_self ?_);exact wpAny_pure c
theorem xS{a:Addr}{ns:List Int}{Q:Value→Shared→Prop}(c:IS w s.heap a ns)(m:ns.length≤60)(g:∀h' us,(∀b o,s.heap.get? b=some o→h'.get? b=some o)→IS w h' s.heap.objs.size us→us.Perm ns→Q (.ref s.heap.objs.size) {s with heap:=h'}):wpAny (model prog w) A (Builtin.Frozenset.copyOf a) Q E s:=by
 obtain⟨o,es,q,t,f,k,r,S⟩:=id c;have j:s.TypeIs (.ref a) "set":=⟨o,f,k.1⟩;unfold Builtin.Frozenset.copyOf Builtin.Frozenset.baseOf;refine wpAny_bind ?_;refine wpAny_bind (wpAny_isInstance (b:=true) j sub_set_self ?_);refine wpAny_pure ?_;simp only[if_true];refine wpAny_bind (zS λh1 d h=>?_);refine wpAny_bind ?_;show wpAny _ _ (pure s.heap.objs.size) _ _ _;refine wpAny_pure ?_;have l:a<s.heap.objs.size:=lt_size f;refine wpAny_bind (lT (s:={s with heap:=h1}) (ne_of_gt l) h (c.at λo e=>d a o e) m λh' us p i n=>?_);refine wpAny_pure (g h' us (λb o e=>?_) i n);rw[p.2 b (ne_of_lt (lt_size e))];exact d b o e
theorem vV{a b:Addr}{j ns:List Int}{Q:Value→Shared→Prop}(B:a≠b)(m:IS w s.heap a j)(n:IS w s.heap b ns)(G:j.length+ns.length≤60)(u:∀h' us,(∀b o,s.heap.get? b=some o→h'.get? b=some o)→IS w h' s.heap.objs.size us→(∀x,x∈us↔x∈j∨x∈ns)→Q (.ref s.heap.objs.size) {s with heap:=h'}):wpAny (model prog w) A (binaryOp .BitOr (.ref a) (.ref b)) Q E s:=by
 obtain⟨L,ea,P,ta,I,C,S,N⟩:=id m;obtain⟨ob,O,R,tb,g,r,q,k⟩:=id n;have d:s.TypeIs (.ref a) "set":=⟨L,I,C.1⟩;have l:s.TypeIs (.ref b) "set":=⟨ob,g,r.1⟩;refine wpAny_binaryOp_same d l F.fills_set_or F.slot_set_or (wpAny_call_entry F.slot_set_or d nH ?_ (F.args_set_or_2 _ _));unfold Builtin.«frozenset.__or__»;refine wpAny_bind ?_;unfold Builtin.Frozenset.slot1;refine wpAny_bind (wpAny_pure (wpAny_pure ?_));dsimp only;simp only[false_eq_true,if_false];refine wpAny_bind ?_;refine wpAny_bind (nI d ?_);show wpAny _ _ (Builtin.Frozenset.isAnySet (.ref b)) _ _ _;refine nI l ?_;simp only[Bool.not_true,false_eq_true,if_false];refine wpAny_bind ?_;show wpAny _ _ (pure a) _ _ _;refine wpAny_pure ?_;refine wpAny_bind ?_;refine wpAny_bind (xS m (by omega) λh1 us f v t=>?_);have H:(Value.ref b != Value.ref a)=true:=by
  rw[bne_iff_ne];intro e;injection e with e
  exact B e.symm
 rw[H];simp only[if_true];refine wpAny_bind ?_;show wpAny _ _ (pure s.heap.objs.size) _ _ _;refine wpAny_pure ?_;refine wpAny_bind ?_;refine wpAny_holding ?_;unfold Builtin.Frozenset.updateFrom;have h:h1.get? b=some ob:=f b ob g;have z:Shared.TypeIs {s with heap:=h1} (.ref b) "set":=⟨ob,h,r.1⟩
 refine wpAny_bind (nI z ?_);simp only[if_true];refine wpAny_bind ?_;show wpAny _ _ (pure b) _ _ _;refine wpAny_pure ?_;unfold Builtin.Frozenset.merge;refine wpAny_bind (wpAny_setEpoch_of (s:={s with heap:=h1}) h q k.fits ?_);have p:s.heap.objs.size≠b:=ne_of_gt (lt_size g);refine vU (s:={s with heap:=h1}) p v (n.at λo e=>f b o e) (by rw[t.length_eq];exact G) (λh' M i K=>?_) λh' vs i y D=>?_
 ·unfold Builtin.Frozenset.unchanged;have J:h'.get? b=some ob:=(i.2 b (Ne.symm p)).trans h;refine wpAny_bind (wpAny_setEpoch_of (s:={s with heap:=h'}) J q k.fits ?_);rw[if_neg (by simp)];exact wpAny_pure K
 ·refine wpAny_pure (wpAny_pure ⟨_,rfl,(λe=>nomatch e),u h' vs (λc o e=>?_) y λx=>by rw[D x,t.mem_iff]⟩);rw[i.2 c (ne_of_lt (lt_size e))];exact f c o e
theorem vW{d:Addr}{od:Obj}{a:Array DictEntry}{O:Nat}{ks:List Int}{Q:Value→Shared→Prop}(F:s.heap.get? d=some od)(U:od.ExactDict)(j:od.data=.dict a O)(b6:(d==sysModules)=false)(V:∀(i:Nat) (e:DictEntry),a[i]?=some e→∃k t,ks[i]?=some k∧e.key=.int k t∧e.hash=hashInt k)(a0:a.size=ks.length)(b5:ks.length≤60)(g:∀h' us,(∀b o,s.heap.get? b=some o→h'.get? b=some o)→IS w h' s.heap.objs.size us→(∀x,x∈us↔x∈ks)→Q (.ref s.heap.objs.size) {s with heap:=h'}):wpAny (model prog w) A (call (.type "set") [.ref d]) Q E s:=by
 refine nF ?_;have p:(s.heap.push {cls:=.type "set",dict:=none,data:=.set #[] 0 (.fresh 0 0 (!bt w))}).get? s.heap.objs.size=some {cls:=.type "set",dict:=none,data:=.set #[] 0 (.fresh 0 0 (!bt w))}:=get?_push_size _ rfl;have B:IS w (s.heap.push {cls:=.type "set",dict:=none,data:=.set #[] 0 (.fresh 0 0 (!bt w))}) s.heap.objs.size []:=pG p;have m:(s.heap.push {cls:=.type "set",dict:=none,data:=.set #[] 0 (.fresh 0 0 (!bt w))}).get? d=some od:=get?_push_of_some _ F;have C:∀b o,s.heap.get? b=some o→(s.heap.push {cls:=.type "set",dict:=none,data:=.set #[] 0 (.fresh 0 0 (!bt w))}).get? b=some o:=λb o e=>get?_push_of_some _ e;have u:s.heap.objs.size≠d:=ne_of_gt (lt_size F);generalize (s.heap.push {cls:=.type "set",dict:=none,data:=.set #[] 0 (.fresh 0 0 (!bt w))})=h at p B m C⊢;have b2:Shared.TypeIs {s with heap:=h} (.ref d) "dict":=⟨od,m,U.1⟩
 have b3:Shared.TypeIs {s with heap:=h} (.ref s.heap.objs.size) "set":=⟨_,p,rfl⟩
 have h1:isSubtype (.type "dict") (.type "set")=pure false:=by rw[isSubtype_type];kernel_rfl
 have h2:isSubtype (.type "dict") (.type "frozenset")=pure false:=by rw[isSubtype_type];kernel_rfl
 generalize b4:@Builtin.Frozenset.updateFrom=b1;unfold Builtin.«set.__init__» noKeywords
 wp_walk
 rw[j];refine wpAny_pure ?_;refine wpAny_bind (wpAny_dictEntries (s:={s with heap:=h}) m j ?_);refine wpAny_bind (nG (s:={s with heap:=h}) B (by rw[length_nil];omega) λh3 a7 a8 P N a9 I a1 T S L a4 _=>?_);have M:a7=[]:=a4.eq_nil;subst M;have a3:h3.get? d=some od:=(I.2 d (Ne.symm u)).trans m;refine wpAny_bind (wpAny_dictEntries (s:={s with heap:=h3}) a3 j ?_);refine wpAny_bind ?_;rw[Std.Legacy.Range.forIn_eq_forIn_range'];simp only[Std.Legacy.Range.size,Nat.sub_zero,Nat.add_sub_cancel,Nat.div_one];refine wpAny_forIn_list _ (λrest _ s'=>∃h' us i,s'={s with heap:=h'}∧rest=range' i (a.size-i)∧i≤a.size∧SameBut s.heap.objs.size h h'∧IS w h' s.heap.objs.size us∧(∀x,x∈us↔x∈ks.take i)∧us.length≤i) _ ?_ ?_ _ _
  ⟨h3,[],0,rfl,by simp,zero_le _,I,⟨a8,P,N,a9,a1,T,S,L⟩,λx=>by simp,le_refl _⟩
 ·rintro x rest b s' ⟨h',us,i,rfl,f,hi,n,q,l,Z⟩;have D:i<a.size:=by
   rcases lt_or_ge i a.size with g|g
   ·exact g
   ·rw[Nat.sub_eq_zero_of_le g]at f;simp at f
  obtain⟨rfl,a5⟩:x=i∧rest=range' (i+1) (a.size-(i+1)):=by
   have e:a.size-i=(a.size-(i+1))+1:=by omega
   rw[e,List.range'_succ]at f;injection f with h1 h2
   exact⟨h1,h2⟩
  have G:h'.get? d=some od:=(n.2 d (Ne.symm u)).trans m;refine wpAny_bind (wpAny_dictEntries (s:={s with heap:=h'}) G j ?_);have K:a[x]?=some a[x]:=Array.getElem?_eq_getElem D;obtain⟨k,b7,W,X,Y⟩:=V x _ K;rw[K];show wpAny _ _ (holding [a[x].key] (setAddHashed s.heap.objs.size a[x].key a[x].hash) >>= _) _ _ _;rw[X,Y];refine wpAny_bind (wpAny_holding (add_int (s:={s with heap:=h'}) q (by omega) λr h2 b0 J R H=>?_));have a2:h2.get? d=some od:=(J.2 d (Ne.symm u)).trans G;refine wpAny_bind (wpAny_dictEpoch (s:={s with heap:=h2}) a2 j ?_);rw[if_neg (by simp)];refine wpAny_pure ⟨h2,b0,x+1,rfl,a5,D,n.trans J,R,λy=>?_,?_⟩
  ·have a6:ks.take (x+1)=ks.take x++[k]:=by rw[take_succ,W];rfl
   rw[a6,mem_append,mem_singleton];rcases H with⟨v,e⟩|⟨_,e⟩
   ·rw[e,l y];constructor
    ·exact .inl
    ·rintro(z|z)
     ·exact z
     ·rw[z];exact(l _).mp v
   ·rw[e.mem_iff,mem_cons,l y];exact Or.comm
  ·rcases H with⟨_,e⟩|⟨_,e⟩
   ·rw[e];omega
   ·have:=e.length_eq;rw[length_cons]at this;omega
 ·rintro b s' ⟨h',us,i,rfl,f,hi,n,q,l,Z⟩;have v:i=a.size:=by
   have:=congrArg length f;rw[length_nil,List.length_range']at this;omega
  refine wpAny_pure (wpAny_pure ⟨rfl,g h' us (λc o e=>?_) q λx=>?_⟩)
  ·rw[n.2 c (ne_of_lt (lt_size e))];exact C c o e
  ·rw[l x,v,a0,take_length]
end
end TB
namespace L2
open PySem PySem.Spec PyProof.Rows
section
variable{X:Cx}
theorem Inv.dK{i:List (Addr×Obj)}{j:St}{g:Hp}{s:Shared}(h:Inv X i j g s){a:Addr}{e:List (Key×V)}(b:Rd g a (.dK e)):
  e.length≤sizeLine∧(a==sysModules)=false∧∃vs,KV e vs∧s.heap.DictOf (aJ X.prog X.w) a vs:=by
 rcases b with b|⟨o,b⟩
 ·obtain⟨d,c,vs,f,dd⟩:=h.hok a _ b;exact⟨d,c,vs,f,dd⟩
 ·obtain⟨_,d,c,vs,f,dd⟩:=h.hok a _ b;exact⟨d,c,vs,f,dd⟩
def lU:V→Bool
 |.non=>true
 |.int _=>true
 |.str _=>true
 |_=>false
theorem kx{x:V}(h:lU x=true):dz x=true:=by cases x<;>first|rfl|cases h
theorem vX{x y:V}(a:lU x=true)(b:lU y=true):eqV x y=decide (x=y):=by
 cases x<;>cases y<;>simp_all [eqV,lU]<;>rw[Bool.eq_iff_iff]<;>simp
def OT(H:Hp)(x:V)(o:Option (List V)):Prop:=(x=.non∧o=none)∨∃a xs,x=.ref a∧H a=some (.tup xs)∧o=some xs∧∀v∈xs,lU v=true
theorem zT{xs ys:List V}(a:xs.length=ys.length):((List.range xs.length).all λi=>decide (xs.getD i .non=ys.getD i .non))=decide (xs=ys):=by
 rw[Bool.eq_iff_iff,all_eq_true,decide_eq_true_eq];constructor
 ·intro h;apply ext_getElem?;intro i
  by_cases hi:i<xs.length
  ·have:=h i (mem_range.mpr hi);rw[decide_eq_true_eq,getD_eq_getElem?_getD,getD_eq_getElem?_getD,getElem?_eq_getElem hi,getElem?_eq_getElem (by omega)]at this;rw[getElem?_eq_getElem hi,getElem?_eq_getElem (by omega)];exact congrArg some this
  ·rw[getElem?_eq_none (by omega),getElem?_eq_none (by omega)]
 ·intro h i hi;rw[h];simp
theorem qP(U:X.A.units+1<cLine):OpR X (compareOp .NotEq) (λx y H Q=>∃m n,OT H x m∧OT H y n∧Q (.bl (!decide (m=n))) H):=by
 intro pins s σ H x y v u Q I S T h;obtain⟨m,n,P,R,q⟩:=h;have l:X.A.units<cLine:=by omega
 rcases P with⟨rfl,rfl⟩|⟨a,xs,rfl,B,rfl,J⟩<;>rcases R with⟨rfl,rfl⟩|⟨b,ys,rfl,C,rfl,K⟩<;>cases S<;>cases T
 ·exact RcNeAt.none_none _ _ _ _ ⟨.bl false,H,I,rfl,q⟩
 ·obtain⟨_,f,p,t⟩:=I.hok b _ C;exact RcNeAt.none_tuple t l _ _ _ _ ⟨.bl true,H,I,rfl,q⟩
 ·obtain⟨_,d,o,r⟩:=I.hok a _ B;exact RcNeAt.tuple_none r l _ _ _ _ ⟨.bl true,H,I,rfl,q⟩
 ·obtain⟨_,d,o,r⟩:=I.hok a _ B;obtain⟨_,f,p,t⟩:=I.hok b _ C;have D:=o.length;have E:=p.length;refine RcNeAt.tuples (e:=λi=>decide (xs.getD i .non=ys.getD i .non)) r t l (λc h1 h2=>?_) _ _ _ _ ⟨.bl _,H,I,rfl,?_⟩
  ·have j:c<xs.length:=by rw[D];simpa using h1
   have k:c<ys.length:=by rw[E];simpa using h2
   obtain⟨u',L,M⟩:=o.get (getElem?_eq_getElem j);obtain⟨v',N,O⟩:=p.get (getElem?_eq_getElem k);have F:d.toArray[c]=u':=by
    have:d[c]?=some d.toArray[c]:=by rw[getElem?_eq_getElem (by simpa using h1)];simp
    rw[L]at this;exact(Option.some.inj this).symm
   have G:f.toArray[c]=v':=by
    have:f[c]?=some f.toArray[c]:=by rw[getElem?_eq_getElem (by simpa using h2)];simp
    rw[N]at this;exact(Option.some.inj this).symm
   rw[F,G,getD_eq_getElem?_getD,getD_eq_getElem?_getD,getElem?_eq_getElem j,getElem?_eq_getElem k];have w:=J _ (getElem_mem j);have z:=K _ (getElem_mem k);show EqAt _ _ _ _ (decide (xs[c]=ys[c]));rw[←vX w z];exact mG M O (kx w) (kx z)
  ·have e:((List.range (min d.toArray.size f.toArray.size)).all (λi=>decide (xs.getD i .non=ys.getD i .non))&&d.toArray.size==f.toArray.size)=decide (some xs=some ys):=by
    simp only[size_toArray,←D,←E]
    by_cases g:xs.length=ys.length
    ·rw[←g,Nat.min_self,zT g];simp
    ·have:(xs.length==ys.length)=false:=by simpa using g
     rw[this,Bool.and_false];refine(decide_eq_false ?_).symm;intro e;injection e with e
     exact g (by rw[e])
   rw[e];exact q
end
theorem cY{c:Type}[DecidableEq c]:∀{l m:List c},l.Nodup→(∀x∈l,x∈m)→l.length≤m.length
 |[],_,_,_=>zero_le _
 |x::l,m,hn,h=>by
  obtain⟨h1,h2⟩:=nodup_cons.mp hn;have a:=h x mem_cons_self;have d:=cY (l:=l) (m:=m.erase x) h2 λy b=>(List.mem_erase_of_ne (by rintro rfl;exact h1 b)).mpr (h y (mem_cons_of_mem _ b));rw[List.length_erase_of_mem a]at d;have:=List.length_pos_of_mem a;rw[length_cons];omega
section
variable{X:Cx}
theorem dN:cx X (.type "set") (λxs H Q=>∃d kvs,∃ks:List Int,xs=[.ref d]∧Rd H d (.dK kvs)∧kvs.map (·.1)=ks.map (Sum.inl:Int→Key)∧ks.length≤60 ∧
  ∀ms:List Int,ms.Nodup→(∀x,x∈ms↔x∈ks)→∀q,H q=none→Q (.ref q) (upd H q (cA X.w q ms))):=by
 intro pins s σ H xs l Q I r h;obtain⟨d,kvs,ks,rfl,F,c,M,q⟩:=h;obtain⟨u,rfl,Z⟩:=dy r;cases Z;obtain⟨a2,T,vs,n,o,es,a0,R,U,G,f,g,a1⟩:=I.dK F;have N:es.size=ks.length:=by
  have b:=g.length;have j:=n.length;have v:=congrArg length c;rw[length_map,length_map]at v;rw[length_toList]at b;omega
 have Y:∀(es:List DictEntry)(vs:List (Key×Value))(kvs:List (Key×V))(ks:List Int),Pairs (aJ X.prog X.w) es vs→KV kvs vs→kvs.map (·.1)=ks.map (Sum.inl:Int→Key)→(∀e∈es,∃k,(aJ X.prog X.w).is k e.key=true∧e.hash=(aJ X.prog X.w).hash k) →
   ∀(i:Nat)(e:DictEntry),es[i]?=some e→∃k t,ks[i]?=some k∧e.key=.int k t∧e.hash=hashInt k:=by
  intro es vs kvs ks g
  induction g generalizing kvs ks with
  |nil=>intro _ _ _ i e a;simp at a
  |@cons e0 kv0 es0 kvs0 h1 h2 _ ih =>
   intro r c f i e a;cases r with
   |@cons p _ kvs1 _ r1 r2 =>
    cases ks with
    |nil=>simp at c
    |cons k ks =>
     rw[map_cons,map_cons]at c;injection c with A B
     cases i with
     |zero =>
      have z:e0=e:=by simpa using a
      subst z;have C:kv0.1=Sum.inl k:=r1.1.symm.trans A;rw[C]at h1;obtain⟨W,J,K⟩:=f _ mem_cons_self;have D:W=Sum.inl k:=(aJ X.prog X.w).inj _ _ _ J h1;subst D;have E:jx (Sum.inl k) e0.key=true:=h1;rcases aX E with⟨a3,t,b,j⟩|⟨y,t,b,j⟩
      ·injection b with b
       subst b;exact⟨k,t,rfl,j,K⟩
      ·cases b
     |succ i=>exact ih _ ks r2 B (λe a=>f e (mem_cons_of_mem _ a)) i e (by simpa using a)
 refine TB.vW (ks:=ks) R U G T (λi e a=>?_) N M λh' l L m O=>?_
 ·exact Y es.toList vs kvs ks g n c (λe a=>f e (by simpa using a)) i e (by rw[getElem?_toList];exact a)
 ·have P:l.Nodup:=by obtain⟨_,_,_,_,_,_,_,S⟩:=m;exact S.nd
  exact⟨.ref s.heap.objs.size,_,I.layS (t':=s.toks) L (le_refl _) m,rfl,q l P O _ (I.hok.fresh (le_refl _))⟩
theorem pL:OpR X (binaryOp .BitOr) (λx y H Q=>∃a b,∃ms ns:List Int,x=.ref a∧y=.ref b∧a≠b∧H a=some (cA X.w a ms)∧H b=some (cA X.w b ns)∧ms.length+ns.length≤60 ∧
  ∀us:List Int,us.Nodup→(∀x,x∈us↔x∈ms∨x∈ns)→∀q,H q=none→Q (.ref q) (upd H q (cA X.w q us))):=by
 intro pins s σ H x y v u Q I l m h;obtain⟨a,b,ms,ns,rfl,rfl,e,d,f,i,q⟩:=h;cases l;cases m;refine TB.vV e (I.intS d) (I.intS f) i λh' us g c j=>?_;have k:us.Nodup:=by obtain⟨_,_,_,_,_,_,_,S⟩:=c;exact S.nd
 exact⟨.ref s.heap.objs.size,_,I.layS (t':=s.toks) g (le_refl _) c,rfl,q us k j _ (I.hok.fresh (le_refl _))⟩
end
end L2
namespace TW
section
variable{S:Type}
def aE(t:List (Nd S))(k:Int):Option (Nd S):=t.find? λn=>n.num==k
theorem eV{t:List (Nd S)}(T:Tree1 t){m:Nd S}(a:m∈t){k:Int}(e:m.num=k):aE t k=some m:=by
 subst e;unfold aE;cases h:t.find? λn=>n.num==m.num with
 |none=>have:=find?_eq_none.mp h m a;simp at this
 |some y =>
  have h1:=find?_some h;have h2:=List.mem_of_find?_eq_some h;have h3:y.num=m.num:=by simpa using h1
  rw[T.inj h2 a h3]
theorem dG{t:List (Nd S)}{k:Int}(a:∀m∈t,m.num≠k):aE t k=none:=by
 unfold aE;rw[find?_eq_none];intro m b;simpa using a m b
theorem gk{t u:List (Nd S)}(T:Tree1 t)(d:Tree1 u){k:Int}(c:∀m,m.num=k→(m∈u↔m∈t)):aE u k=aE t k:=by
 by_cases b:∃m∈t,m.num=k
 ·obtain⟨m,a,e⟩:=b;rw[eV T a e,eV d ((c m e).mpr a) e]
 ·rw[dG λm a e=>b ⟨m,a,e⟩,dG λm a e=>b ⟨m,(c m e).mp a,e⟩]
def Deed.key:Deed S→Int
 |.make n _ _ _=>n
 |.write n _=>n
 |.move n _ _=>n
 |.drop n=>n
theorem sy{t:List (Nd S)}{z:Nd S}{m:Nd S}(b:m.num≠z.num):m∈t.map (put z)↔m∈t:=by
 rw[mem_map];constructor
 ·rintro⟨y,d,e⟩
  by_cases a:y.num=z.num
  ·rw[dC a]at e;exact absurd (by rw[←e]) b
  ·rw[ca a]at e;rw[←e];exact d
 ·intro c;exact⟨m,c,ca b⟩
theorem Told.others{t u:List (Nd S)}(T:Tree1 t)(g:Tree1 u){d:Deed S}(h:Told t d (.inr u)){k:Int}(j:k≠d.key):
  aE u k=aE t k∨((∃n,d=.drop n)∧Und t d.key k∧(∃m∈t,m.num=k)∧∀m∈u,m.num≠k):=by
 generalize a:(Sum.inr u:Sum Wd (List (Nd S)))=r at h;cases h with
 |@made n p nm st _ a1 a2 a3 a4 a5 =>
  injection a with a
  subst a;refine .inl (gk T g λm e=>?_);rw[a4.mem_iff,mem_cons];constructor
  ·rintro(i|b)
   ·rw[i]at e;exact absurd e.symm j
   ·exact b
  ·exact .inr
 |@wrote n st y a1 a2 a3 =>
  injection a with a
  subst a;exact .inl (gk T g λm e=>sy (by rw[e];exact j))
 |@moved n p nm y a1 a2 a3 a4 a5 =>
  injection a with a
  subst a;exact .inl (gk T g λm e=>sy (by rw[e];exact j))
 |@dropped n f a1 a2 =>
  injection a with a
  subst a
  by_cases c:(∃m∈t,m.num=k)∧Und t n k
  ·obtain⟨⟨m,b,e⟩,c⟩:=c;refine .inr ⟨⟨n,rfl⟩,c,⟨m,b,e⟩,λy l i=>?_⟩;obtain⟨o,q⟩:=mem_filter.mp l;exact(a2 y o).mp q (by rw[i];exact c)
  ·refine .inl (gk T g λm e=>?_);rw[mem_filter];constructor
   ·exact λh=>h.1
   ·intro b;refine⟨b,(a2 m b).mpr λz=>c ⟨⟨m,b,e⟩,by rw[e]at z;exact z⟩⟩
 |_=>cases a
end
end TW
namespace TW
section
variable{S:Type}
structure Row(S:Type) where
 k:Int
 o:Option (Nd S)
 n:Option (Nd S)
structure Chg(t u:List (Nd S))(rs:List (Row S)):Prop where
 up:rs.Pairwise λa b=>a.k<b.k
 mem:∀r,r∈rs↔r.o=aE t r.k∧r.n=aE u r.k∧r.o≠r.n
theorem cb{t:List (Nd S)}{k:Int}{m:Nd S}(h:aE t k=some m):m∈t∧m.num=k:=by
 unfold aE at h;have h1:=find?_some h;have h2:=List.mem_of_find?_eq_some h;exact⟨h2,by simpa using h1⟩
theorem Chg.nil{t:List (Nd S)}{a:List (Row S)}(h:Chg t t a):a=[]:=by
 cases a with
 |nil=>rfl
 |cons x a =>
  obtain⟨h1,h2,h3⟩:=(h.mem x).mp mem_cons_self;exact absurd (h1.trans h2.symm) h3
def dO(t u:List (Nd S))(k:Int):Row S:=⟨k,aE t k,aE u k⟩
theorem vY[DecidableEq (Nd S)]{t u:List (Nd S)}{ns:List Int}(e:ns.Pairwise (· < ·))(c:∀k,aE t k≠none∨aE u k≠none→k∈ns∨aE t k=aE u k):Chg t u ((ns.map (dO t u)).filter λr=>decide (r.o≠r.n)):=by
 refine⟨?_,λr=>?_⟩
 ·refine Pairwise.filter _ ?_;rw[pairwise_map];exact e
 ·rw[mem_filter,mem_map,decide_eq_true_eq];constructor
  ·rintro⟨⟨k,g,rfl⟩,d⟩;exact⟨rfl,rfl,d⟩
  ·rintro⟨h1,h2,h3⟩;refine⟨⟨r.k,?_,?_⟩,h3⟩
   ·have a:aE t r.k≠aE u r.k:=by rw[←h1,←h2];exact h3
    have b:aE t r.k≠none∨aE u r.k≠none:=by
     by_cases z:aE t r.k=none
     ·exact .inr λf=>a (z.trans f.symm)
     ·exact .inl z
    rcases c r.k b with z|z
    ·exact z
    ·exact absurd z a
   ·show(⟨r.k,aE t r.k,aE u r.k⟩:Row S)=r;rw[←h1,←h2]
end
end TW
namespace L2
open PySem PySem.Spec PyProof.Rows
end L2
namespace TK
open PySem L2
instance decNd:DecidableEq (TW.Nd Str):=λa b=>Classical.propDecidable _
abbrev Row:=TW.Row Str
def cL(H:Hp)(v:V)(o:Option Nd):Prop:=(v=.non∧o=none)∨∃q n,v=.ref q∧H q=some (.tup (aO n))∧o=some n
theorem cL.same{b H':Hp}{v:V}{o:Option Nd}(a:cL b v o)(s:Same b H'):cL H' v o:=by
 rcases a with a|⟨q,n,e,a,c⟩
 ·exact .inl a
 ·exact .inr ⟨q,n,e,s _ _ a,c⟩
theorem qQ(n:Nd):∀v∈aO n,lU v=true:=λv a=>by
 unfold aO at a;simp only[mem_cons,not_mem_nil,or_false]at a;rcases a with rfl|rfl|rfl
 ·rfl
 ·rfl
 ·cases n.st<;>rfl
theorem cL.ot{c:Hp}{v:V}{o:Option Nd}(b:cL c v o):OT c v (o.map aO):=by
 rcases b with⟨e,a⟩|⟨q,n,e,b,a⟩
 ·exact .inl ⟨e,by rw[a];rfl⟩
 ·exact .inr ⟨q,aO n,e,b,by rw[a];rfl,qQ n⟩
theorem tV{a b:Nd}(c:aO a=aO b)(e:a.num=b.num):a=b:=by
 obtain⟨i,k,g,d⟩:=a;obtain⟨j,p2,h,s2⟩:=b;unfold aO at c;simp only[List.cons.injEq,V.int.injEq,V.str.injEq,and_true]at c;obtain⟨h1,h2,h3⟩:=c;have f:d=s2:=by
  cases d<;>cases s2<;>simp_all [stV]
 simp only at e;subst e h1 h2 f;rfl
def vZ(r:Row):Prop:=(∀n,r.o=some n→n.num=r.k)∧∀n,r.n=some n→n.num=r.k
theorem vZ.eq{r:Row}(c:vZ r):r.o.map aO=r.n.map aO↔r.o=r.n:=by
 obtain⟨k,o,n⟩:=r;constructor
 ·intro e;cases o with
  |none=>cases n with
   |none=>rfl
   |some b=>cases e
  |some a=>cases n with
   |none=>cases e
   |some b =>
    have d:aO a=aO b:=Option.some.inj e;exact congrArg some (tV d ((c.1 a rfl).trans (c.2 b rfl).symm))
 ·intro e;show o.map aO=n.map aO;have:o=n:=e;rw[this]
structure RowAt(H:Hp)(e:Addr)(r:Row):Prop where
 at':∃vo vn,H e=some (.tup [.int r.k,vo,vn])∧cL H vo r.o∧cL H vn r.n
 ok:vZ r
theorem RowAt.same{a H':Hp}{e:Addr}{r:Row}(b:RowAt a e r)(s:Same a H'):RowAt H' e r:=by
 obtain⟨⟨f,d,h1,h2,h3⟩,c⟩:=b;exact⟨⟨f,d,s _ _ h1,h2.same s,h3.same s⟩,c⟩
abbrev ZR:=List (Addr×Row)
def di(a:ZR):List V:=a.map λe=>V.ref e.1
def bo(a:ZR):List Row:=a.map (·.2)
structure ChgAt(H:Hp)(c:Addr)(es:ZR):Prop where
 tup:H c=some (.tup (di es))
 at':∀e∈es,RowAt H e.1 e.2
 len:es.length≤60
theorem ChgAt.same{b H':Hp}{c:Addr}{es:ZR}(a:ChgAt b c es)(s:Same b H'):ChgAt H' c es:=⟨s _ _ a.tup,λe d=>(a.at' e d).same s,a.len⟩
theorem pO{t u:List Nd}(k:Int):vZ (TW.dO t u k):=⟨λn h=>(TW.cb h).2,λn h=>(TW.cb h).2⟩
theorem Book.optV{c:Hp}{d:Addr}{g:List (Addr×(Addr×Nd))}{zs:ZN}(b:Book c d g zs)(T:TW.Tree1 (nds zs))(k:Int):∃r,cO c d (.int k) r∧cL c (r.getD .non) (TW.aE (nds zs) k):=by
 by_cases f:∃z∈zs,z.2.num=k
 ·obtain⟨z,a,rfl⟩:=f;obtain⟨q,i,j⟩:=b.get (bY T) a;refine⟨_,i,?_⟩;rw[TW.eV T (bZ a) rfl];exact .inr ⟨q,z.2,rfl,j,rfl⟩
 ·refine⟨none,b.not λz a e=>f ⟨z,a,e⟩,?_⟩;rw[TW.dG λm h e=>?_]
  ·exact .inl ⟨rfl,rfl⟩
  ·obtain⟨z,a,rfl⟩:=fo h;exact f ⟨z,a,e⟩
theorem gR{a:List (Addr×(Addr×Nd))}{zs:ZN}(b:a.map (·.2)=zs):(aV a).map (·.1)=((nds zs).map (·.num)).map (Sum.inl:Int→Key):=gO b
theorem jb{a:ZR}{t u:List Nd}{ns:List Int}(b:bo a=ns.map (TW.dO t u)):bo (a.filter λe=>!decide (e.2.o=e.2.n))=(ns.map (TW.dO t u)).filter λr=>decide (r.o≠r.n):=by
 rw[←b];unfold bo;rw[filter_map]
 congr 1
 apply filter_congr;intro e _;show(!decide (e.2.o=e.2.n))=decide (e.2.o≠e.2.n)
 by_cases z:e.2.o=e.2.n<;>simp[z]
theorem lV{t:List Nd}{k:Int}(h:TW.aE t k≠none):k∈t.map (·.num):=by
 cases e:TW.aE t k with
 |none=>exact absurd e h
 |some m =>
  obtain⟨h1,h2⟩:=TW.cb e;exact mem_map.mpr ⟨m,h1,h2⟩
section
variable{P:Program}{w:World}{K:PySem.W.Frag}{mg:Str→Option Value}{base:Heap}
def nJ:Sp:=λvs H Q _=>∃t zs,vs=[.ref t]∧Tre H t zs∧∀d a H',Same H H'→H d=none→Book H' d a zs→H' d=some (.dK (aV a))→Q (.ref d) H'
theorem zU:FnScope ["tree"] ["tree"] (aj cK):=fsc
theorem xT{f:Addr}{O:FuncData}(F:Fun K "parts_by_number" "parts_by_number" cK f O)(T:Txt mg):FnOk P w K mg base CX0 1 f O ["tree"] nJ:=by
 refine F.ok zU (λvs H Q E h=>?_) (λcdv A outer s H vs Q E e5 h=>?_)
 ·obtain⟨t,zs,rfl,_⟩:=h;rfl
 ·obtain⟨t,zs,rfl,G,k⟩:=h;have U:=bY G.tr;have B:=G.len;have D:=G.tup;have c0:=G.nod;refine⟨_,ak (aw (aR (dI rfl) rfl T.dict boot_dict (aa (eD (N:=["node"]) (k:=1) (js:=[]) (g:=bu 0) rfl (cH rfl (by decide +kernel) (by decide +kernel) (by decide +kernel)) rfl (λi e6 x h=>by simp at h)
   (cE (pv 0)) (λs H fp=>aN (i:=0) (show(["node"]:List Str).Nodup by decide +kernel) rfl (Or.inl rfl) (Or.inr rfl))
   (λs H fp=>be (aa (ax (r:=dR K) av (pv 0) ah (λ_ _=>rfl)) (aa (cF (r:=uu K) ff (pv 0) (cz ah) fX) ae)))) ae))),?_⟩
  refine⟨_,rfl,t,rfl,⟨_,SqT.of D⟩,λp c4=>?_⟩;refine qx (fr:=[]) zs.length (by omega) c4 rfl (λi y H'=>∃q t' z,zs[i]?=some z∧y=.ref q∧q≠p∧t'≠p∧H' q=some (.tup [.int z.2.num,.ref t'])∧H' t'=some (.tup (aO z.2))) (λi y H1 H2 h ex=>?_) (λi H' hi j=>?_) (λH' j=>?_) ?_ (λi H' x H2 hi j X J=>?_) (λys H' j W c3 c7=>?_)
  ·obtain⟨q,t',z,n,C,u,L,b3,b4⟩:=h;exact⟨q,t',z,n,C,u,L,ex q _ u b3,ex t' _ L b4⟩
  ·exact⟨_,_,SqT.of (j _ _ D),dD (getElem?_eq_getElem hi)⟩
  ·exact⟨_,SqT.of (j _ _ D),by rw[bd];exact le_refl _⟩
  ·rintro _ _ _ _ m ⟨d8,a3,d6,xs,d0,d9,a5,a6,a7,a8,e0,a4,d1,a9,a2,e1,b0,b1,b2,q⟩;refine⟨d8,a3,d6,xs,d0,d9,a5,a6,a7,a8,e0,a4,d1,a9,a2,e1,b0,b1,b2,λl B=>?_⟩;obtain⟨c9,d7⟩:=q l B;exact⟨c9,λd3 c2=>m _ _ (d7 d3 c2)⟩
  ·obtain⟨rfl,c6⟩:=J;obtain⟨z,R,rfl⟩:=ck (c6 _ (SqT.of (j _ _ D)));have d5:=mem_of_getElem? R;have Z:=j _ _ (c0 z d5);have b5:dQ (vals z.2) (some 1) none=aO z.2:=rfl;refine⟨rfl,_,rfl,z.1,_,_,_,rfl,rfl,SqT.of Z,at0 z.2,_,rfl,_,rfl,z.1,_,rfl,SqT.of Z,(by intro h;exact absurd h.1 (show ¬HT.sIx 4 0 (some 1)=0 by decide)),λt' Y=>?_⟩;rw[b5];have a0:=ag (o:=.tup (aO z.2)) Y;have c5:∃ys,upd H2 t' (.tup (aO z.2)) p=some (.lst ys):=let⟨ys,e⟩:=X;⟨ys,a0 _ _ e⟩;refine⟨le2,λq I=>⟨a0.trans (ag I),q,t',z,R,rfl,dA c5 I,dA X Y,ac,aS I ac⟩⟩
  ·obtain⟨c,n,C,u⟩:∃c:List ((Addr×Addr)×(Addr×Nd)),c.map (·.2)=zs∧ys=(c.map (·.1.1)).map V.ref∧∀a∈c,H' a.1.1=some (.tup [.int a.2.2.num,.ref a.1.2])∧H' a.1.2=some (.tup (aO a.2.2)):=by
    clear W;have d4:∀(ys:List V)(xs:ZN),ys.length=xs.length→(∀(i:Nat) y,ys[i]?=some y→∃q t' z,xs[i]?=some z∧y=.ref q∧q≠p∧t'≠p∧H' q=some (.tup [.int z.2.num,.ref t'])∧H' t'=some (.tup (aO z.2))) →
      ∃c:List ((Addr×Addr)×(Addr×Nd)),c.map (·.2)=xs∧ys=(c.map (·.1.1)).map V.ref∧∀a∈c,H' a.1.1=some (.tup [.int a.2.2.num,.ref a.1.2])∧H' a.1.2=some (.tup (aO a.2.2)):=by
     intro ys
     induction ys with
     |nil =>
      intro xs B _;have:xs=[]:=length_eq_zero_iff.mp B.symm;subst this;exact⟨[],rfl,rfl,by simp⟩
     |cons y ys d2 =>
      intro xs B h;cases xs with
      |nil=>simp at B
      |cons x xs =>
       obtain⟨c,n,C,u⟩:=d2 xs (by simpa using B) λi y J=>by simpa using h (i+1) y (by simpa using J)
       obtain⟨q,t',z,b6,b7,e2,e3,b8,b9⟩:=h 0 y rfl;have:x=z:=by simpa using b6
       subst this;refine⟨((q,t'),x)::c,by simp[n],by simp[C,b7],λa v=>?_⟩;rcases mem_cons.mp v with rfl|v
       ·exact⟨b8,b9⟩
       ·exact u a v
    exact d4 ys zs c3 c7
   have e4:c.length=zs.length:=by rw[←n,length_map]
   refine⟨p,c.map λa=>(a.1.1,(Sum.inl a.2.2.num:Key),V.ref a.1.2),rfl,?_,?_,?_,?_,λd S=>?_⟩
   ·rw[W,C,map_map,map_map,map_map];rfl
   ·intro z c8;obtain⟨a,v,rfl⟩:=mem_map.mp c8;exact(u a v).1
   ·rw[length_map];omega
   ·rw[map_map];have:(c.map ((λx:Addr×Key×V=>x.2.1)∘λa=>(a.1.1,(Sum.inl a.2.2.num:Key),V.ref a.1.2)))=((nds zs).map (·.num)).map (Sum.inl:Int→Key):=by
     rw[←n];unfold nds;simp only[map_map];rfl
    rw[this];unfold Nodup at U⊢;rw[pairwise_map];exact U.imp λh e=>h (by injection e)
   ·have a1:=ag (o:=.dK ((c.map λa=>(a.1.1,(Sum.inl a.2.2.num:Key),V.ref a.1.2)).map (·.2))) S;have M:upd H' d (.dK ((c.map λa=>(a.1.1,(Sum.inl a.2.2.num:Key),V.ref a.1.2)).map (·.2))) d=some (.dK (aV (c.map λa=>(a.1.2,a.2)))):=by
     rw[ac];refine congrArg (λx=>some (HO.dK x)) ?_;unfold aV;simp only[map_map];rfl
    refine k d (c.map λa=>(a.1.2,a.2)) _ (j.trans a1) (j.free S) ⟨.inl M,by rw[map_map];exact n,λa v=>?_⟩ M;obtain⟨b,c1,rfl⟩:=mem_map.mp v;exact a1 _ _ (u b c1).2
def unl(e:Addr×Row):Bool:=!decide (e.2.o=e.2.n)
def pP:Sp:=λvs H Q _=>∃l es,vs=[.ref l]∧H l=some (.lst (di es))∧(∀e∈es,RowAt H e.1 e.2)∧es.length≤60∧∀c H',Same H H'→ChgAt H' c (es.filter unl)→Q (.ref c) H'
theorem Bi:FnScope ["entries"] ["entries"] (aj cR):=fsc
theorem zV{f:Addr}{j:FuncData}(F:Fun K "unlike_entries" "unlike_entries" cR f j)(T:Txt mg):FnOk P w K mg base CX0 1 f j ["entries"] pP:=by
 refine F.ok Bi (λvs H Q E h=>?_) (λcdv A outer s H vs Q E J h=>?_)
 ·obtain⟨l,es,rfl,_⟩:=h;rfl
 ·obtain⟨l,es,rfl,t,m,D,k⟩:=h;refine⟨_,ak (aw (aR bj rfl T.tuple rfl (aa (iC (N:=["entry"]) (cl:=[]) (k:=1) (js:=[]) (g:=bu 0) rfl (cH rfl (by decide +kernel) (by decide +kernel) (by decide +kernel)) rfl (λi R x h=>by simp at h)
   (dj (pv 0)) (λs H fp=>aN (i:=0) (show(["entry"]:List Str).Nodup by decide +kernel) rfl (Or.inl rfl) (Or.inr rfl))
   (λs H fp=>am (qP (bh J)) (ax (r:=dR K) av (pv 0) ah (λ_ _=>rfl)) (ax (r:=dR K) av (pv 0) ah (λ_ _=>rfl)) (au _)) (λs H fp=>pv 0)) ae))),?_⟩
  refine⟨_,rfl,l,rfl,⟨_,SqL.of t⟩,λp G=>?_⟩;refine iL (fr:=[]) es (λe=>V.ref e.1) (by omega) G (ie (SqL.of t)) rfl unl (λe y _=>y=.ref e.1) (λe y H H' h _=>h) (λe H' M a b _ d=>?_) (λe H' M a _ b _ d=>⟨_,rfl,d _ H' (Same.refl _) rfl⟩) (λys H' b I L=>?_)
  ·obtain⟨⟨U,S,h1,h2,h3⟩,O⟩:=(m e a).same b;refine⟨_,rfl,e.1,_,_,_,rfl,rfl,SqT.of h1,rfl,_,rfl,e.1,_,_,_,rfl,rfl,SqT.of h1,rfl,_,_,h2.ot,h3.ot,_,rfl,?_⟩;have v:(!decide (e.2.o.map aO=e.2.n.map aO))=unl e:=by
    unfold unl;have:=O.eq
    by_cases z:e.2.o=e.2.n
    ·rw[decide_eq_true (this.mpr z),decide_eq_true z]
    ·rw[decide_eq_false (λq=>z (this.mp q)),decide_eq_false z]
   rw[v];exact d H' (Same.refl _)
  ·have B:=cq (f:=λe:Addr×Row=>V.ref e.1) L (λe y _ h=>h);refine⟨p,_,rfl,.inl ⟨SqL.of I,λc C=>?_⟩⟩;have u:=b.trans (ag (o:=.tup ys) C);exact k c _ u ⟨by rw[ac,B];rfl,λe a=>(m e (mem_filter.mp a).1).same u,le_trans (length_filter_le _ _) D⟩
end
def cbS(i:Nat):Stmt:=(br aZ).getD i (.Pass ⟨0,0,0,0⟩)
def CN:List Str:=["one","other","before","after","numbers"]
theorem xU:FnScope CN ["one","other"] (aj aZ):=fsc
abbrev CbX(P:Program)(w:World)(K:PySem.W.Frag)(mg:Str→Option Value)(base:Heap)(f:Addr)(cdv:Value)(A:Around)(outer:List Env)(s:Shared)(H:Hp)(E:XK):Cx:=(gF CX0 P w K mg base CN "change_between" (aj aZ) f cdv A outer s H E).nox
section
variable{P:Program}{w:World}{K:PySem.W.Frag}{mg:Str→Option Value}{base:Heap}{f:Addr}{cdv:Value}{A:Around}{outer:List Env}{s:Shared}{H0:Hp}{E:XK}
theorem cb2(T:Txt mg):∃t,PS (CbX P w K mg base f cdv A outer s H0 E) (cbS 2) t∧∀(n:Ends)(H:Hp)(v y O:Option V)(d g:Addr)(z bs:List (Addr×(Addr×Nd)))(zs us:ZN),Book H d z zs→Book H g bs us→zs.length≤30→us.length≤30 →
   (∀(l:Addr)(ns:List Int)(H':Hp),Same H H'→H' l=some (.lst (ns.map V.int))→ns.Pairwise (· < ·)→ns.length≤60→(∀k,k∈ns↔k∈(nds zs).map (·.num)∨k∈(nds us).map (·.num))→n.nx [v,y,some (.ref d),some (.ref g),some (.ref l)] H')→t n [v,y,some (.ref d),some (.ref g),O] H:=by
 refine⟨_,ay (i:=4) xU.nd rfl (Or.inl rfl) (ar (fz rfl) rfl T.sorted boot_sorted (aa (aD pL (aR dN rfl T.set rfl (aa (pv 2) ae)) (aR dN rfl T.set rfl (aa (pv 3) ae))) ae)),?_⟩;intro n H v y O d g z bs zs us B C a2 a3 q;refine⟨_,rfl,d,_,(nds zs).map (·.num),rfl,B.dict,gR B.of,by rw[length_map,aI];omega,λb R G a X=>?_⟩;have u:=ag (o:=cA (CbX P w K mg base f cdv A outer s H0 E).w a b) X;have p:upd H a (cA (CbX P w K mg base f cdv A outer s H0 E).w a b) a=some (cA (CbX P w K mg base f cdv A outer s H0 E).w a b):=ac;generalize upd H a (cA (CbX P w K mg base f cdv A outer s H0 E).w a b)=H1 at u p⊢;refine⟨_,rfl,g,_,(nds us).map (·.num),rfl,(C.same u).dict,gR C.of,by rw[length_map,aI];omega,λc S I p2 j=>?_⟩;have N:=u.trans (ag (o:=cA (CbX P w K mg base f cdv A outer s H0 E).w p2 c) j);have F:upd H1 p2 (cA (CbX P w K mg base f cdv A outer s H0 E).w p2 c) p2=some (cA (CbX P w K mg base f cdv A outer s H0 E).w p2 c):=ac;have D:upd H1 p2 (cA (CbX P w K mg base f cdv A outer s H0 E).w p2 c) a=some (cA (CbX P w K mg base f cdv A outer s H0 E).w a b):=aS j p;have W:a≠p2:=λe=>by rw[←e,p]at j;cases j
 generalize upd H1 p2 (cA (CbX P w K mg base f cdv A outer s H0 E).w p2 c)=H2 at N F D⊢;have k1:b.length≤30:=by
  have:=cY R λx h=>(G x).mp h;rw[length_map,aI]at this;omega
 have k2:c.length≤30:=by
  have:=cY S λx h=>(I x).mp h;rw[length_map,aI]at this;omega
 refine⟨a,p2,b,c,rfl,rfl,W,D,F,by omega,λr U J M Y=>?_⟩;have k3:r.length≤60:=by
  have:=cY (m:=b++c) U λx h=>mem_append.mpr ((J x).mp h);rw[length_append]at this;omega
 have a0:=N.trans (ag (o:=cA (CbX P w K mg base f cdv A outer s H0 E).w M r) Y);refine⟨M,r,rfl,ac,k3,λns L Z l Q=>?_⟩;have a1:=a0.trans (ag (o:=.lst (ns.map V.int)) Q);refine q l ns _ a1 ac Z (by rw[L.length_eq];exact k3) λk=>?_;rw[L.mem_iff,J k,G k,I k]
theorem cb3(G:Room 1 (A.deeper (PyProof.Rows.envOfC "change_between" (aj aZ) s.heap.objs.size f cdv)))(a4:Has P w K mg base 1 "unlike_entries" ["entries"] pP):
  ∃t,PS (CbX P w K mg base f cdv A outer s H0 E) (cbS 3) t∧∀(D:Ends)(H:Hp)(a2 a3:Option V)(d r l:Addr)(I bs:List (Addr×(Addr×Nd)))(zs us:ZN)(ns:List Int),Book H d I zs→Book H r bs us→TW.Tree1 (nds zs)→TW.Tree1 (nds us)→H l=some (.lst (ns.map V.int))→ns.Pairwise (· < ·)→ns.length≤60→(∀k,k∈ns↔k∈(nds zs).map (·.num)∨k∈(nds us).map (·.num)) →
   (∀c es H',Same H H'→ChgAt H' c es→TW.Chg (nds zs) (nds us) (bo es)→D.rt (.ref c) H')→t D [a2,a3,some (.ref d),some (.ref r),some (.ref l)] H:=by
 obtain⟨c3,c4,a5,c2,c1,a8⟩:=a4;refine⟨_,aw (al a5 G rfl c2 c1 a8 .nil aM (aa (eD (N:=["number","after","before"]) (cl:=[("before",s.heap.objs.size+1),("after",s.heap.objs.size+2)]) (k:=1) (js:=[3,2]) (g:=bu 0) rfl
   (LcOk.mk' ["before","after"] rfl rfl (by decide +kernel) (by decide +kernel) ?hcl rfl (by decide +kernel)) rfl ?hj (dj (pv 4)) (λs H fp=>aN (i:=0) (show(["number","after","before"]:List Str).Nodup by decide +kernel) rfl (Or.inl rfl) (Or.inr rfl))
   (λs H fp=>be (aa (pv 0) (aa (fi (bh G) (pv 2) (pv 0) ⟨rfl,rfl,rfl,rfl⟩) (aa (fi (bh G) (pv 1) (pv 0) ⟨rfl,rfl,rfl,rfl⟩) ae))))) ae)),?_⟩
 case hcl =>
  intro y a;rcases mem_cons.mp a with e|a
  ·rw[e];rfl
  ·rcases mem_cons.mp a with e|a
   ·rw[e];rfl
   ·cases a
 case hj =>
  intro i c6 x h1 h2
  match i,h1,h2 with
  |0,h1,h2 =>
   cases h1;cases h2;exact⟨rfl,Or.inr (Or.inl rfl),(show((aj aZ).names.lookup ("after":Str)≠some NameKind.local)by decide +kernel),by first|exact Or.inl rfl|exact Or.inr rfl⟩
  |1,h1,h2 =>
   cases h1;cases h2;exact⟨rfl,Or.inr (Or.inl rfl),(show((aj aZ).names.lookup ("before":Str)≠some NameKind.local)by decide +kernel),by first|exact Or.inl rfl|exact Or.inr rfl⟩
  |i+2,h1,h2=>simp at h1
 intro D H a2 a3 d r l I bs zs us ns J L a6 a7 O b7 c5 b2 q;refine⟨_,rfl,l,rfl,⟨_,SqL.of O⟩,λp b3=>?_⟩;refine dJ (fr:=[some (.ref r),some (.ref d)]) ns V.int (by omega) b3 (ie (SqL.of O)) rfl (λk y H'=>∃c j b,y=.ref c∧c≠p∧H' c=some (.tup [.int k,j,b])∧cL H' j (TW.aE (nds zs) k)∧cL H' b (TW.aE (nds us) k)∧j≠.ref p∧b≠.ref p) (λk y H H' h ex=>?_) (λk H' c7 mk m T F=>?_) (λys H' m b4 c0=>?_)
 ·obtain⟨c,j,b,e,X,h1,h2,h3,U,W⟩:=h;have Z:∀{v:V}{o:Option Nd},v≠.ref p→cL H v o→cL H' v o:=λb8 h=>by
   rcases h with h|⟨q,n,e,h,u⟩
   ·exact .inl h
   ·exact .inr ⟨q,n,e,ex q _ (λz=>b8 (by rw[e,z])) h,u⟩
  exact⟨c,j,b,e,X,ex c _ X h1,Z U h2,Z W h3,U,W⟩
 ·obtain⟨a0,b5,Q⟩:=(J.same m).optV a6 k;obtain⟨a1,b6,R⟩:=(L.same m).optV a7 k;have Y:∀{v:V}{o:Option Nd},cL H' v o→v≠.ref p:=λh e=>by
   rcases h with⟨h,_⟩|⟨q,n,u,h,_⟩
   ·rw[h]at e;cases e
   ·rw[u]at e;injection e with e
    obtain⟨ys,a⟩:=T;rw[e,a]at h;cases h
  refine⟨_,rfl,_,rfl,d,rfl,.inl ⟨_,(J.same m).dict⟩,_,rfl,a0,b5,_,rfl,r,rfl,.inl ⟨_,(L.same m).dict⟩,_,rfl,a1,b6,(show 3≤sizeLine from aq (by decide)),λc C=>?_⟩;have B:=ag (o:=.tup [.int k,a0.getD .non,a1.getD .non]) C;exact F _ _ B ⟨c,_,_,rfl,dA T C,ac,Q.same B,R.same B,Y Q,Y R⟩
 ·obtain⟨cs,M,u,a9⟩:=dt (val:=V.ref) (S:=λ(k:Int) (c:Addr)=>RowAt H' c (TW.dO (nds zs) (nds us) k)) c0 (λk y _ ⟨c,j,b,e,_,h1,h2,h3,_⟩=>⟨c,e,⟨j,b,h1,h2,h3⟩,pO k⟩);have hcl:cs.length=ns.length:=by rw[←M,length_map]
  have b0:bo (cs.map λx=>(x.2,TW.dO (nds zs) (nds us) x.1))=ns.map (TW.dO (nds zs) (nds us)):=by
   unfold bo;rw[map_map,←M,map_map];rfl
  refine⟨p,cs.map λx=>(x.2,TW.dO (nds zs) (nds us) x.1),rfl,by rw[b4,u];unfold di;rw[map_map];rfl,λe b1=>?_,by rw[length_map];omega,λc H2 B C=>?_⟩
  ·obtain⟨x,b9,rfl⟩:=mem_map.mp b1;exact a9 x b9
  ·refine q c _ H2 (m.trans B) C ?_;have:bo ((cs.map λx=>(x.2,TW.dO (nds zs) (nds us) x.1)).filter unl)=_:=jb b0;rw[this];refine TW.vY b7 λk F=>.inl ((b2 k).mpr ?_);rcases F with h|h
   ·exact .inl (lV h)
   ·exact .inr (lV h)
def wb:Sp:=λvs H Q _=>∃t u zs a,vs=[.ref t,.ref u]∧Tre H t zs∧Tre H u a∧∀c es H',Same H H'→ChgAt H' c es→TW.Chg (nds zs) (nds a) (bo es)→Q (.ref c) H'
theorem zW{f:Addr}{x:FuncData}(F:Fun K "change_between" "change_between" aZ f x)(T:Txt mg)(C:Has P w K mg base 1 "parts_by_number" ["tree"] nJ)(D:Has P w K mg base 1 "unlike_entries" ["entries"] pP):FnOk P w K mg base CX0 2 f x ["one","other"] wb:=by
 obtain⟨X,Y,m,z,y,o⟩:=C;refine F.ok xU (λvs H Q E h=>?_) (λcdv A outer s H vs Q E R h=>?_)
 ·obtain⟨t,u,zs,a,rfl,_⟩:=h;rfl
 ·obtain⟨t,u,zs,a,rfl,j,k,q⟩:=h;have b:Room 1 _:=R.mono (by decide);obtain⟨Z,p2,h2⟩:=cb2 (P:=P) (w:=w) (K:=K) (base:=base) (f:=f) (cdv:=cdv) (A:=A) (outer:=outer) (s:=s) (H0:=H) (E:=E) T;obtain⟨a0,V,h3⟩:=cb3 (P:=P) (w:=w) (base:=base) (f:=f) (cdv:=cdv) (A:=A) (outer:=outer) (s:=s) (H0:=H) (E:=E) b D;refine⟨_,af (ay (i:=2) xU.nd rfl (Or.inr rfl) (al m b rfl z y o .nil aM (aa (pv 0) ae)))
   (af (ay (i:=3) xU.nd rfl (Or.inr rfl) (al m b rfl z y o .nil aM (aa (pv 1) ae))) (af p2 (ak V))),?_⟩
  refine⟨_,rfl,t,zs,rfl,j,λd n H1 B _ p _=>?_⟩;refine⟨_,rfl,u,a,rfl,k.same B,λv bs H2 e _ r _=>?_⟩;refine h2 _ H2 _ _ _ d v n bs zs a (p.same e) r j.len k.len λl U G g M S O N=>?_;exact h3 _ G _ _ d v l n bs zs a U ((p.same e).same g) (r.same g) j.tr k.tr M S O N λc es I W J L=>q c es I (((B.trans e).trans g).trans W) J L
end
end TK
namespace L2
open PySem PySem.Spec PyProof.Rows
section
variable{X:Cx}
end
end L2
namespace TK
open PySem L2
def fG(a:ZR):List (Key×V):=a.map λe=>((Sum.inl e.2.k:Key),V.ref e.1)
section
variable{P:Program}{w:World}{K:PySem.W.Frag}{mg:Str→Option Value}{base:Heap}
def qS:Sp:=λvs H Q _=>∃c es,vs=[.ref c]∧ChgAt H c es∧(es.map (·.2.k)).Nodup∧∀d H',Same H H'→H d=none→H' d=some (.dK (fG es))→Q (.ref d) H'
theorem zX:FnScope ["tree"] ["tree"] (aj vD):=fsc
theorem xV{f:Addr}{l:FuncData}(F:Fun K "by_number" "by_number" vD f l)(T:Txt mg):FnOk P w K mg base CX0 1 f l ["tree"] qS:=by
 refine F.ok zX (λvs H Q E h=>?_) (λcdv A outer s H vs Q E X h=>?_)
 ·obtain⟨c,es,rfl,_⟩:=h;rfl
 ·obtain⟨c,es,rfl,b,n,q⟩:=h;have W:=b.len;refine⟨_,ak (aw (aR (dI rfl) rfl T.dict boot_dict (aa (eD (N:=["node"]) (k:=1) (js:=[]) (g:=bu 0) rfl (cH rfl (by decide +kernel) (by decide +kernel) (by decide +kernel)) rfl (λi Y x h=>by simp at h)
   (cE (pv 0)) (λs H fp=>aN (i:=0) (show(["node"]:List Str).Nodup by decide +kernel) rfl (Or.inl rfl) (Or.inr rfl))
   (λs H fp=>be (aa (ax (r:=dR K) av (pv 0) ah (λ_ _=>rfl)) (aa (pv 0) ae)))) ae))),?_⟩
  refine⟨_,rfl,c,rfl,⟨_,SqT.of b.tup⟩,λp G=>?_⟩;refine dJ (fr:=[]) es (λe=>V.ref e.1) (by omega) G (eR (SqT.of b.tup)) rfl (λe y H'=>∃q,y=.ref q∧q≠p∧H' q=some (.tup [.int e.2.k,.ref e.1])) (λe y H H' ⟨q,a,t,h⟩ ex=>⟨q,a,t,ex q _ t h⟩) (λe H' Z R j J D=>?_) (λys H' j I M=>?_)
  ·obtain⟨⟨a1,a0,h1,_,_⟩,_⟩:=(b.at' e R).same j;refine⟨_,rfl,e.1,_,_,_,rfl,rfl,SqT.of h1,rfl,_,rfl,le2,λq o=>?_⟩;exact D _ _ (ag o) ⟨q,rfl,dA J o,ac⟩
  ·obtain⟨cs,a,u,v⟩:=dt (val:=V.ref) (S:=λ(e:Addr×Row) (q:Addr)=>H' q=some (.tup [.int e.2.k,.ref e.1])) M (λe y _ ⟨q,e,_,h⟩=>⟨q,e,h⟩);have U:cs.length=es.length:=by rw[←a,length_map]
   have C:(cs.map λx=>(x.2,(Sum.inl x.1.2.k:Key),V.ref x.1.1)).map (·.2)=fG es:=by
    unfold fG;rw[map_map,←a,map_map];rfl
   refine⟨p,cs.map λx=>(x.2,(Sum.inl x.1.2.k:Key),V.ref x.1.1),rfl,?_,λz O=>?_,by rw[length_map];omega,?_,λd m=>?_⟩
   ·rw[I,u,map_map,map_map];rfl
   ·obtain⟨x,L,rfl⟩:=mem_map.mp O;exact v x L
   ·have B:(cs.map λx=>(x.2,(Sum.inl x.1.2.k:Key),V.ref x.1.1)).map (·.2.1)=(es.map (·.2.k)).map (Sum.inl:Int→Key):=by
     rw[←a];simp only[map_map];rfl
    rw[B];unfold Nodup at n⊢;rw[pairwise_map];exact n.imp λh e=>h (by injection e)
   ·rw[C];exact q d _ (j.trans (ag m)) (j.free m) ac
end
theorem ky{f:Hp}{d:Addr}{a:ZR}(hd:f d=some (.dK (fG a)))(m:(a.map (·.2.k)).Nodup)(k:Int):(∃e∈a,e.2.k=k∧cO f d (.int k) (some (.ref e.1)))∨((∀e∈a,e.2.k≠k)∧cO f d (.int k) none):=by
 have l:((a.map λe=>(e.1,(⟨e.2.k,0,"",none⟩:Nd))).map (·.2.num)).Nodup:=by rw[map_map];exact m
 have j:fG a=bw (a.map λe=>(e.1,(⟨e.2.k,0,"",none⟩:Nd))):=by unfold fG bw;rw[map_map];rfl
 by_cases h:∃e∈a,e.2.k=k
 ·obtain⟨e,c,rfl⟩:=h;refine .inl ⟨e,c,rfl,.inl ⟨fG a,Sum.inl e.2.k,.inl hd,rfl,?_⟩⟩;rw[j];exact(iN l (b:=(e.1,⟨e.2.k,0,"",none⟩)) (mem_map.mpr ⟨e,c,rfl⟩)).symm
 ·have h':∀e∈a,e.2.k≠k:=λe c z=>h ⟨e,c,z⟩;refine .inr ⟨h',.inl ⟨fG a,Sum.inl k,.inl hd,rfl,?_⟩⟩
  symm
  refine nA λg=>?_;unfold fG at g;rw[map_map]at g;obtain⟨e,c,z⟩:=mem_map.mp g;have i:(Sum.inl e.2.k:Key)=Sum.inl k:=z;injection i with i
  exact h' e c i
def joS(i:Nat):Stmt:=(br eJ).getD i (.Pass ⟨0,0,0,0⟩)
def JN:List Str:=["one","other","earlier","later","entries","number","first","last"]
theorem qT:FnScope JN ["one","other"] (aj eJ):=fsc
abbrev JX(P:Program)(w:World)(K:PySem.W.Frag)(mg:Str→Option Value)(base:Heap)(f:Addr)(cdv:Value)(A:Around)(outer:List Env)(s:Shared)(H:Hp)(E:XK):Cx:=(gF CX0 P w K mg base JN "joined" (aj eJ) f cdv A outer s H E).nox
theorem qU{t u:List Nd}{a:ZR}(b:TW.Chg t u (bo a)){e:Addr×Row}(c:e∈a):e.2.o=TW.aE t e.2.k∧e.2.n=TW.aE u e.2.k:=by
 obtain⟨h1,h2,_⟩:=(b.mem e.2).mp (mem_map.mpr ⟨e,c,rfl⟩);exact⟨h1,h2⟩
theorem jp{t u:List Nd}{a:ZR}(c:TW.Chg t u (bo a)){k:Int}(f:∀e∈a,e.2.k≠k):TW.aE t k=TW.aE u k:=by
 by_cases z:TW.aE t k=TW.aE u k
 ·exact z
 ·have:=(c.mem ⟨k,TW.aE t k,TW.aE u k⟩).mpr ⟨rfl,rfl,z⟩;obtain⟨e,d,b⟩:=mem_map.mp this;exact absurd (by rw[b]) (f e d)
theorem nL{t u:List Nd}{a:ZR}(b:TW.Chg t u (bo a)):(a.map (·.2.k)).Nodup:=by
 have:=b.up;unfold bo at this;rw[pairwise_map]at this;unfold Nodup;rw[pairwise_map];exact this.imp λb e=>by omega
theorem cL.over{b:Hp}{l:Addr}{xs:List V}{f:HO}{v:V}{o:Option Nd}(a:cL b v o)(d:b l=some (.lst xs)):cL (upd b l f) v o:=by
 rcases a with a|⟨q,n,e,a,c⟩
 ·exact .inl a
 ·refine .inr ⟨q,n,e,?_,c⟩;rw[ai]
  ·exact a
  ·rintro rfl;rw[d]at a;cases a
theorem RowAt.over{a:Hp}{l:Addr}{xs:List V}{f:HO}{e:Addr}{r:Row}(c:RowAt a e r)(b:a l=some (.lst xs)):RowAt (upd a l f) e r:=by
 obtain⟨⟨h,g,h1,h2,h3⟩,d⟩:=c;refine⟨⟨h,g,?_,h2.over b,h3.over b⟩,d⟩;rw[ai]
 ·exact h1
 ·rintro rfl;rw[b]at h1;cases h1
structure Jo(H0 H:Hp)(c c2 d d2 l l2:Addr)(es fs gs:ZR)(ns:List Int)(t v:List Nd)(i:Nat):Prop where
 s0:Same H0 H
 c1:∀e∈es,RowAt H e.1 e.2
 c2':∀e∈fs,RowAt H e.1 e.2
 d1:H d=some (.dK (fG es))
 d2':H d2=some (.dK (fG fs))
 l1:H l=some (.lst (di gs))
 l2':H l2=some (.lst (ns.map V.int))
 at':∀g∈gs,RowAt H g.1 g.2
 rw':bo gs=(ns.take i).map (TW.dO t v)
theorem Jo.more{H0 h:Hp}{c y d z l x q:Addr}{A B gs:ZR}{ns:List Int}{t v:List Nd}{i:Nat}{k:Int}{m j:V}(b:Jo H0 h c y d z l x A B gs ns t v i)(E:H0 l=none)(F:x≠l)(D:ns[i]?=some k)(I:h q=none)(H:cL h m (TW.aE t k))(G:cL h j (TW.aE v k)):
  Jo H0 (upd (upd h q (.tup [.int k,m,j])) l (.lst (di gs++[.ref q]))) c y d z l x A B (gs++[(q,TW.dO t v k)]) ns t v (i+1):=by
 have f:=ag (o:=.tup [.int k,m,j]) I;have p:=f _ _ b.l1;have C:∀{a:Addr}{u:List (Key×V)},h a=some (.dK u)→upd (upd h q (.tup [.int k,m,j])) l (.lst (di gs++[.ref q])) a=some (.dK u):=λ{a u} s=>by
  rw[ai]
  ·exact f _ _ s
  ·rintro rfl;rw[b.l1]at s;cases s
 refine⟨aK E (b.s0.trans f),λe w=>((b.c1 e w).same f).over p,λe w=>((b.c2' e w).same f).over p,C b.d1,C b.d2',?_,?_,λg n=>?_,?_⟩
 ·rw[ac];unfold di;rw[map_append];rfl
 ·rw[ai F];exact f _ _ b.l2'
 ·rcases mem_append.mp n with n|n
  ·exact((b.at' g n).same f).over p
  ·have e:g=(q,TW.dO t v k):=by simpa using n
   subst e;have r:RowAt (upd h q (.tup [.int k,m,j])) q (TW.dO t v k):=⟨⟨m,j,ac,H.same f,G.same f⟩,pO k⟩;exact r.over p
 ·have J:ns.take (i+1)=ns.take i++[k]:=by rw[take_succ,D];rfl
  rw[J,map_append,←b.rw'];unfold bo;rw[map_append];rfl
section
variable{P:Program}{w:World}{K:PySem.W.Frag}{mg:Str→Option Value}{base:Heap}{f:Addr}{cdv:Value}{A:Around}{outer:List Env}{s:Shared}{H0:Hp}{E:XK}
abbrev joσ(c a d b l:Addr)(e f g:Option V):St:=[some (.ref c),some (.ref a),some (.ref d),some (.ref b),some (.ref l),e,f,g]
theorem jo3(T:Txt mg)(M:Room 1 (A.deeper (PyProof.Rows.envOfC "joined" (aj eJ) s.heap.objs.size f cdv))):
  ∃d9,PS (JX P w K mg base f cdv A outer s H0 E) (joS 3) d9∧∀(a6:Ends)(H:Hp)(c I d d2 l:Addr)(es fs:ZR)(t u v:List Nd),H0 l=none→Same H0 H→H l=some (.lst [])→ChgAt H c es→ChgAt H I fs→H d=some (.dK (fG es))→H d2=some (.dK (fG fs))→TW.Chg t u (bo es)→TW.Chg u v (bo fs)→es.length≤30→fs.length≤30 →
   (∀(ns:List Int)(gs:ZR)(W X Y:Option V)(H':Hp),Same H0 H'→H' l=some (.lst (di gs))→(∀g∈gs,RowAt H' g.1 g.2)→bo gs=ns.map (TW.dO t v)→ns.Pairwise (· < ·)→ns.length≤60→(∀k,k∈ns↔(∃e∈es,e.2.k=k)∨∃e∈fs,e.2.k=k)→a6.nx (joσ c I d d2 l W X Y) H')→d9 a6 (joσ c I d d2 l none none none) H:=by
 refine⟨_,fc PassesOwn.never rfl (dj (ar (fz rfl) rfl T.sorted boot_sorted (aa (aD pL (aR dN rfl T.set rfl (aa (pv 2) ae)) (aR dN rfl T.set rfl (aa (pv 3) ae))) ae))) (aN (i:=5) qT.nd rfl (Or.inl rfl))
  (af (ay (i:=6) qT.nd rfl (Or.inl rfl) (oF (bh M) (pv 2) (pv 5) (fi (bh M) (pv 3) (pv 5) ⟨rfl,rfl,rfl,rfl⟩) ⟨rfl,rfl,rfl,rfl⟩))
  (af (ay (i:=7) qT.nd rfl (Or.inl rfl) (oF (bh M) (pv 3) (pv 5) (fi (bh M) (pv 2) (pv 5) ⟨rfl,rfl,rfl,rfl⟩) ⟨rfl,rfl,rfl,rfl⟩))
  (af (aP (PW.pt (pw_and (eZ (na (bh M) (pv 5) (pv 2))) (pw_and (eZ (na (bh M) (pv 5) (pv 3))) (pw_and1 (am (qP (bh M)) (ax av (pv 6) ah (λ_ _=>rfl)) (ax av (pv 7) ah (λ_ _=>rfl)) (au _)))))) (ak nX) aA)
  (ak (bg (cU plainAttrs_list PySem.F.slot_list_append PySem.F.type_list_append bn (pv 4) (aa (be (aa (pv 5) (aa (ax av (pv 6) ah (λ_ _=>rfl)) (aa (ax av (pv 7) ah (λ_ _=>rfl)) ae)))) ae))))))),?_⟩
 intro a6 H c I d d2 l es fs t u v b3 g1 c9 e6 e7 c6 c7 a9 a4 g5 g6 q;have f8:=nL a9;have d7:=nL a4;have f6:(fG es).map (·.1)=(es.map (·.2.k)).map (Sum.inl:Int→Key):=by unfold fG;rw[map_map,map_map];rfl
 have f7:(fG fs).map (·.1)=(fs.map (·.2.k)).map (Sum.inl:Int→Key):=by unfold fG;rw[map_map,map_map];rfl
 refine⟨_,rfl,d,_,es.map (·.2.k),rfl,.inl c6,f6,by rw[length_map];omega,λC e8 d0 p f3=>?_⟩;have b9:=ag (o:=cA (JX P w K mg base f cdv A outer s H0 E).w p C) f3;have b1:upd H p (cA (JX P w K mg base f cdv A outer s H0 E).w p C) p=some (cA (JX P w K mg base f cdv A outer s H0 E).w p C):=ac;generalize upd H p (cA (JX P w K mg base f cdv A outer s H0 E).w p C)=H1 at b9 b1⊢;refine⟨_,rfl,d2,_,fs.map (·.2.k),rfl,.inl (b9 _ _ c7),f7,by rw[length_map];omega,λD e9 d3 p2 a5=>?_⟩;have e0:=b9.trans (ag (o:=cA (JX P w K mg base f cdv A outer s H0 E).w p2 D) a5);have c5:upd H1 p2 (cA (JX P w K mg base f cdv A outer s H0 E).w p2 D) p2=some (cA (JX P w K mg base f cdv A outer s H0 E).w p2 D):=ac;have c4:upd H1 p2 (cA (JX P w K mg base f cdv A outer s H0 E).w p2 D) p=some (cA (JX P w K mg base f cdv A outer s H0 E).w p C):=aS a5 b1;have f1:p≠p2:=λe=>by rw[←e,b1]at a5;cases a5
 generalize upd H1 p2 (cA (JX P w K mg base f cdv A outer s H0 E).w p2 D)=H2 at e0 c5 c4⊢;have k1:C.length≤30:=by
  have:=cY e8 λx j=>(d0 x).mp j;rw[length_map]at this;omega
 have k2:D.length≤30:=by
  have:=cY e9 λx j=>(d3 x).mp j;rw[length_map]at this;omega
 refine⟨p,p2,C,D,rfl,rfl,f1,c4,c5,by omega,λa1 f0 d4 U f4=>?_⟩;have k3:a1.length≤60:=by
  have:=cY (m:=C++D) f0 λx j=>mem_append.mpr ((d4 x).mp j);rw[length_append]at this;omega
 have e1:=e0.trans (ag (o:=cA (JX P w K mg base f cdv A outer s H0 E).w U a1) f4);refine⟨U,a1,rfl,ac,k3,λns d6 f5 N b4=>?_⟩;have O:=e1.trans (ag (o:=.lst (ns.map V.int)) b4);have b2:upd (upd H2 U (cA (JX P w K mg base f cdv A outer s H0 E).w U a1)) N (.lst (ns.map V.int)) N=some (.lst (ns.map V.int)):=ac;generalize upd (upd H2 U (cA (JX P w K mg base f cdv A outer s H0 E).w U a1)) N (.lst (ns.map V.int))=e2 at O b2⊢;have b5:N≠l:=λe=>by
  have h1:=e1 _ _ c9;rw[e,h1]at b4;cases b4
 have f2:ns.length≤60:=by rw[d6.length_eq];exact k3
 have d5:∀k,k∈ns↔(∃e∈es,e.2.k=k)∨∃e∈fs,e.2.k=k:=λk=>by
  rw[d6.mem_iff,d4 k,d0 k,d3 k,mem_map,mem_map]
 have e3:Jo H0 e2 c I d d2 l N es fs [] ns t v 0:=⟨g1.trans O,λe L=>(e6.at' e L).same O,λe L=>(e7.at' e L).same O,O _ _ c6,O _ _ c7,O _ _ c9,b2,by simp,by simp[bo]⟩;refine⟨N,rfl,⟨_,SqL.of b2⟩,jB (xs:=ns.map V.int) (λi σ H'=>∃gs W X Y,σ=joσ c I d d2 l W X Y∧Jo H0 H' c I d d2 l N es fs gs ns t v i) ⟨[],none,none,none,rfl,e3⟩ (λi σ H' _ ⟨_,_,_,_,_,a⟩=>SqL.of a.l2') (λi x σ H' j h=>?_) (λσ H' h=>?_)⟩
 ·obtain⟨gs,W,X,Y,rfl,a⟩:=h;rw[getElem?_map]at j;cases J:ns[i]? with
  |none=>rw[J]at j;cases j
  |some k =>
   rw[J]at j;cases j;have hi:i<ns.length:=(List.getElem?_eq_some_iff.mp J).1;have g4:gs.length≤60:=by
    have:=congrArg length a.rw';unfold bo at this;rw[length_map,length_map,length_take]at this;omega
   have R:IsD H' d:=.inl ⟨_,.inl a.d1⟩;have S:IsD H' d2:=.inl ⟨_,.inl a.d2'⟩;have c0:(di gs).length<sizeLine:=aB (by unfold di;rw[length_map];omega);rcases ky a.d1 f8 k with⟨Q,c8,e5,r⟩|⟨d8,r⟩
   ·obtain⟨⟨g8,g7,Z,c2,c3⟩,_⟩:=a.c1 Q c8;obtain⟨b7,b8⟩:=qU a9 c8;rw[e5]at Z b7 b8;rcases ky a.d2' d7 k with⟨y,a0,b0,b⟩|⟨b6,b⟩
    ·obtain⟨⟨g3,g2,G,a7,a8⟩,_⟩:=a.c2' y a0;obtain⟨a2,a3⟩:=qU a4 a0;rw[b0]at G a2 a3;refine⟨_,rfl,d,rfl,R,_,rfl,_,rfl,d2,rfl,S,_,rfl,_,b,_,r,?_⟩;refine⟨_,rfl,d2,rfl,S,_,rfl,_,rfl,d,rfl,R,_,rfl,_,r,_,b,?_⟩;refine⟨_,rfl,_,rfl,d,_,rfl,r,_,rfl,aQ ⟨_,rfl,_,rfl,d2,_,rfl,b,_,rfl,aQ ⟨_,rfl,Q.1,_,_,_,rfl,rfl,SqT.of Z,rfl,_,rfl,y.1,_,_,_,rfl,rfl,SqT.of G,rfl,_,_,c3.ot,a7.ot,_,rfl,?_⟩⟩⟩;have e4:(!decide (Q.2.n.map aO=y.2.o.map aO))=false:=by rw[b8,a2];simp
     rw[e4];refine aC ⟨_,rfl,.inl ⟨rfl,_,SqL.of a.l1⟩,_,rfl,_,rfl,Q.1,_,_,_,rfl,rfl,SqT.of Z,rfl,_,rfl,y.1,_,_,_,rfl,rfl,SqT.of G,rfl,(show 3≤sizeLine from aq (by decide)),λq B=>⟨l,_,_,rfl,rfl,aS B a.l1,c0,?_⟩⟩;exact⟨_,_,_,_,rfl,a.more b3 b5 J B (by rw[←b7];exact c2) (by rw[←a3];exact a8)⟩
    ·have f9:=jp a4 b6;refine⟨_,rfl,d,rfl,R,_,rfl,_,rfl,d2,rfl,S,_,rfl,_,b,_,r,?_⟩;refine⟨_,rfl,d2,rfl,S,_,rfl,_,rfl,d,rfl,R,_,rfl,_,r,_,b,?_⟩;refine⟨_,rfl,_,rfl,d,_,rfl,r,_,rfl,aQ ⟨_,rfl,_,rfl,d2,_,rfl,b,_,rfl,aC (aC ?_)⟩⟩;refine⟨_,rfl,.inl ⟨rfl,_,SqL.of a.l1⟩,_,rfl,_,rfl,Q.1,_,_,_,rfl,rfl,SqT.of Z,rfl,_,rfl,Q.1,_,_,_,rfl,rfl,SqT.of Z,rfl,(show 3≤sizeLine from aq (by decide)),λq B=>⟨l,_,_,rfl,rfl,aS B a.l1,c0,?_⟩⟩;exact⟨_,_,_,_,rfl,a.more b3 b5 J B (by rw[←b7];exact c2) (by rw[←f9,←b8];exact c3)⟩
   ·have g0:=jp a9 d8;rcases ky a.d2' d7 k with⟨y,a0,b0,b⟩|⟨b6,b⟩
    ·obtain⟨⟨g3,g2,G,a7,a8⟩,_⟩:=a.c2' y a0;obtain⟨a2,a3⟩:=qU a4 a0;rw[b0]at G a2 a3;refine⟨_,rfl,d,rfl,R,_,rfl,_,rfl,d2,rfl,S,_,rfl,_,b,_,r,?_⟩;refine⟨_,rfl,d2,rfl,S,_,rfl,_,rfl,d,rfl,R,_,rfl,_,r,_,b,?_⟩;refine⟨_,rfl,_,rfl,d,_,rfl,r,_,rfl,aC (aC ?_)⟩;refine⟨_,rfl,.inl ⟨rfl,_,SqL.of a.l1⟩,_,rfl,_,rfl,y.1,_,_,_,rfl,rfl,SqT.of G,rfl,_,rfl,y.1,_,_,_,rfl,rfl,SqT.of G,rfl,(show 3≤sizeLine from aq (by decide)),λq B=>⟨l,_,_,rfl,rfl,aS B a.l1,c0,?_⟩⟩;exact⟨_,_,_,_,rfl,a.more b3 b5 J B (by rw[g0,←a2];exact a7) (by rw[←a3];exact a8)⟩
    ·exfalso
     rcases (d5 k).mp (mem_of_getElem? J)with⟨e,L,z⟩|⟨e,L,z⟩
     ·exact d8 e L z
     ·exact b6 e L z
 ·obtain⟨gs,W,X,Y,rfl,a⟩:=h;have:=a.rw';rw[length_map,take_length]at this;exact q ns gs W X Y H' a.s0 a.l1 a.at' this f5 f2 d5
def zY:Sp:=λvs H Q _=>∃c b es fs t u v,vs=[.ref c,.ref b]∧ChgAt H c es∧ChgAt H b fs∧TW.Chg t u (bo es)∧TW.Chg u v (bo fs)∧es.length≤30∧fs.length≤30∧∀a d H',Same H H'→ChgAt H' a d→TW.Chg t v (bo d)→Q (.ref a) H'
theorem Bj{f:Addr}{G:FuncData}(F:Fun K "joined" "joined" eJ f G)(T:Txt mg)(U:Has P w K mg base 1 "by_number" ["tree"] qS)(V:Has P w K mg base 1 "unlike_entries" ["entries"] pP):FnOk P w K mg base CX0 2 f G ["one","other"] zY:=by
 obtain⟨b9,c1,C,O,N,D⟩:=U;obtain⟨c0,c2,W,b4,b1,Y⟩:=V;refine F.ok qT (λvs H Q E h=>?_) (λcdv A outer s H vs Q E a9 h=>?_)
 ·obtain⟨c,n,es,fs,t,u,v,rfl,_⟩:=h;rfl
 ·obtain⟨c,n,es,fs,t,u,v,rfl,I,J,p,r,b2,b3,q⟩:=h;have j:Room 1 _:=a9.mono (by decide);obtain⟨c6,b5,h3⟩:=jo3 (P:=P) (w:=w) (K:=K) (base:=base) (f:=f) (cdv:=cdv) (A:=A) (outer:=outer) (s:=s) (H0:=H) (E:=E) T j;refine⟨_,af (ay (i:=2) qT.nd rfl (Or.inl rfl) (al C j rfl O N D .nil aM (aa (pv 0) ae)))
   (af (ay (i:=3) qT.nd rfl (Or.inl rfl) (al C j rfl O N D .nil aM (aa (pv 1) ae)))
   (af (ay (i:=4) qT.nd rfl (Or.inl rfl) (bi ae)) (af b5
   (ak (aw (al W j rfl b4 b1 Y .nil aM (aa (pv 4) ae))))))),?_⟩
  refine⟨_,rfl,c,es,rfl,I,nL p,λd H1 R _ a3=>?_⟩;refine⟨_,rfl,n,fs,rfl,J.same R,nL r,λa0 H2 S _ a4=>?_⟩;refine⟨zero_le _,λl L=>?_⟩;have g:=ag (o:=.lst []) L;have m:=R.trans S;refine h3 _ _ c n d a0 l es fs t u v (m.free L) (m.trans g) ac ((I.same m).same g) ((J.same m).same g) (g _ _ (S _ _ a3)) (g _ _ a4) p r b2 b3 λc5 y c7 c8 c9 b8 b6 a7 a5 M b0 c4 a8=>?_;have a6:y.length≤60:=by
   have:=congrArg length M;unfold bo at this;rw[length_map,length_map]at this;omega
  refine⟨_,rfl,l,y,rfl,a7,a5,a6,λZ X b7 a2=>?_⟩;refine q Z _ X (b6.trans b7) a2 ?_;have a1:bo (y.filter unl)=_:=jb M;rw[a1];refine TW.vY b0 λk c3=>?_
  by_cases z:TW.aE t k=TW.aE v k
  ·exact .inr z
  ·refine .inl ((a8 k).mpr ?_)
   by_cases a:∃e∈es,e.2.k=k
   ·exact .inl a
   ·by_cases b:∃e∈fs,e.2.k=k
    ·exact .inr b
    ·exact absurd ((jp p λe B x=>a ⟨e,B,x⟩).trans (jp r λe B x=>b ⟨e,B,x⟩)) z
end
end TK
namespace L2
open PySem PySem.Spec PyProof.Rows
section
variable{X:Cx}
theorem kG(M:X.calm=true):cx X (.builtin "sorted") (λxs H Q=>∃d kvs,∃ns:List Int,xs=[.ref d]∧Rd H d (.dK kvs)∧kvs.map (·.1)=ns.map (Sum.inl:Int→Key)∧ns.Nodup∧ns.length≤60 ∧
  ∀ms:List Int,ms.Perm ns→ms.Pairwise (λa b=>a<b)→∀p,H p=none→Q (.ref p) (upd H p (.lst (ms.map V.int)))):=by
 intro pins s σ H xs b3 Q I r h;obtain⟨d,kvs,ns,rfl,K,S,T,a8,q⟩:=h;obtain⟨u,rfl,a4⟩:=dy r;cases a4;obtain⟨a1,Y,a5,B,dd⟩:=I.dK K;obtain⟨a7,E⟩:=dd.dictAt;have a2:a5.length≤sizeLine:=by rw[←B.length];exact a1
 refine SRT.ku (κ:=oneType') (PySem.W.kdl_dict Y) (I.ok.hd M) E a2 λh1 tk vs a9 y P=>?_;have l:aF (ns.map V.int) vs:=by
  have:=xr B P;have e:(kvs.map λp=>kV p.1)=ns.map V.int:=by
   have:=congrArg (List.map kV) S;rw[map_map,map_map]at this;exact this
  rw[e]at this;simpa using this
 have a0:vs.length=ns.length:=by rw[←l.length,length_map]
 have w:∀i,i<ns.length→∃t,vs.getD i Value.none=.int (ns.getD i 0) t:=λi hi=>by
  obtain⟨v,Z,r⟩:=l.get (i:=i) (x:=.int (ns.getD i 0)) (by rw[getElem?_map,(cX (d:=(0:Int)) hi).2];rfl);obtain⟨t,rfl⟩:=r;exact⟨t,by rw[getD_eq_getElem?_getD,Z];rfl⟩
 refine⟨λi f=>decide (ns.getD i 0<ns.getD f 0),⟨λi _=>by simp,λi f k _ _ _ h1 h2=>?_,λi f hi g n=>?_⟩,by omega,λD s' _ _ a6 h2 L=>?_,λD s' _ _ i f C hi g J=>?_,λp h' j A a3 m=>?_⟩
 ·simp only[decide_eq_true_eq]at *;omega
 ·simp only[decide_eq_true_eq];have:ns.getD i 0≠ns.getD f 0:=by
   rw[getD_eq_getElem?_getD,getD_eq_getElem?_getD,getElem?_eq_getElem (by omega),getElem?_eq_getElem (by omega)];exact λe=>n ((getElem_inj T).mp e)
  omega
 ·rw[ksk_kind (keys:=vs.toArray) (kz:=ns) (by simpa using nu l) (by rw[size_toArray];omega)];exact wpAny_pure L
 ·obtain⟨b1,F⟩:=w i (by omega);obtain⟨b2,G⟩:=w f (by omega);rw[F,G];exact kat_lt_int J
 ·obtain⟨c,m⟩:=m;rw[a0]at j A;have O:∀i∈p.toList,i<ns.length:=λi hi=>mem_range.mp (j.perm.mem_iff.mp hi);have z:(p.toList.map λi=>ns.getD i 0).Perm ns:=by
   refine(j.perm.map _).trans ?_;have:(List.range ns.length).map (λi=>ns.getD i 0)=ns:=by
    apply ext_getElem?;intro i;rw[getElem?_map]
    by_cases hi:i<ns.length
    ·rw[getElem?_range hi,(cX (d:=(0:Int)) hi).2];rfl
    ·rw[getElem?_eq_none (by rw[length_range];omega),getElem?_eq_none (by omega)];rfl
   rw[this]
  have b0:p.size=ns.length:=j.size;have U:(p.toList.map λi=>ns.getD i 0).Pairwise (λa b=>a<b):=by
   rw[pairwise_iff_getElem];intro i f hi g n;have N:i<p.size:=by rw[length_map,length_toList]at hi;exact hi
   have R:f<p.size:=by rw[length_map,length_toList]at g;exact g
   have:=A i f n (by omega);simp only[]at this;rw[getD_eq_getD_getElem?,getD_eq_getD_getElem?,Array.getElem?_eq_getElem N,Array.getElem?_eq_getElem R]at this;simpa using this
  refine⟨.ref h1.objs.size,_,I.laid (t':=tk) (o:=.lst ((p.toList.map λi=>ns.getD i 0).map V.int)) a3 (le_of_lt y) ⟨?_,_,c,iI l p.toList O,m⟩,rfl,q _ z U _ (I.hok.fresh (le_of_lt y))⟩;rw[length_map,z.length_eq,sizeLine_eq];omega
end
end L2
namespace TW
section
variable{S:Type}
def wc(t:List (Nd S))(a:List (Row S)):Prop:=∀r∈a,r.o=aE t r.k
structure AppTo(t:List (Nd S))(rs:List (Row S))(u:List (Nd S)):Prop where
 up:ce u
 hit:∀r∈rs,aE u r.k=r.n
 miss:∀k,(∀r∈rs,r.k≠k)→aE u k=aE t k
theorem pQ{t:List (Nd S)}(T:ce t){m:Nd S}(a:m∈t):aE t m.num=some m:=by
 cases e:aE t m.num with
 |none =>
  have:=find?_eq_none.mp e m a;simp at this
 |some n =>
  obtain⟨h1,h2⟩:=cb e;rw[pq T h1 a h2]
theorem tW{t u:List (Nd S)}(j:ce t)(l:ce u)(i:∀k,aE t k=aE u k):t=u:=by
 have n:∀{a b:List (Nd S)},ce a→(∀k,aE a k=aE b k)→∀m∈a,m∈b:=λf s m c=>by
  have:=pQ f c;rw[s]at this;exact(cb this).1
 have w:∀{a b:List (Nd S)},ce a→ce b→(∀m,m∈a↔m∈b)→a=b:=by
  intro a
  induction a with
  |nil =>
   intro b _ _ c;cases b with
   |nil=>rfl
   |cons y b=>exact absurd ((c y).mpr mem_cons_self) (by simp)
  |cons x a v =>
   intro b f r c;cases b with
   |nil=>exact absurd ((c x).mp mem_cons_self) (by simp)
   |cons y b =>
    obtain⟨g,o⟩:=pairwise_cons.mp f;obtain⟨h,p⟩:=pairwise_cons.mp r;have e:x=y:=by
     rcases mem_cons.mp ((c x).mp mem_cons_self)with e|e
     ·exact e
     ·rcases mem_cons.mp ((c y).mpr mem_cons_self)with d|d
      ·exact d.symm
      ·have z:=h x e;have A:=g y d;omega
    subst e
    congr 1
    refine v o p λm=>⟨λq=>?_,λq=>?_⟩
    ·rcases mem_cons.mp ((c m).mp (mem_cons_of_mem _ q))with e|e
     ·have:=g m q;rw[e]at this;omega
     ·exact e
    ·rcases mem_cons.mp ((c m).mpr (mem_cons_of_mem _ q))with e|e
     ·have:=h m q;rw[e]at this;omega
     ·exact e
 exact w j l λm=>⟨n j i m,n l (λk=>(i k).symm) m⟩
theorem AppTo.uniq{t u v:List (Nd S)}{b:List (Row S)}(c:AppTo t b u)(h':AppTo t b v):u=v:=by
 refine tW c.up h'.up λk=>?_
 by_cases d:∃r∈b,r.k=k
 ·obtain⟨r,a,rfl⟩:=d;rw[c.hit r a,h'.hit r a]
 ·have f:∀r∈b,r.k≠k:=λr a e=>d ⟨r,a,e⟩;rw[c.miss k f,h'.miss k f]
theorem Chg.fits{t u:List (Nd S)}{rs:List (Row S)}(a:Chg t u rs):wc t rs:=λr b=>((a.mem r).mp b).1
theorem Chg.appTo{t u:List (Nd S)}{b:List (Row S)}(a:Chg t u b)(e:ce u):AppTo t b u:=by
 refine⟨e,λr d=>((a.mem r).mp d).2.1.symm,λk c=>?_⟩
 by_cases z:aE t k=aE u k
 ·exact z.symm
 ·exact absurd rfl (c ⟨k,aE t k,aE u k⟩ ((a.mem _).mpr ⟨rfl,rfl,z⟩))
inductive Appl(t:List (Nd S))(rs:List (Row S)):Option (List (Nd S))→Prop
 |ok {u}:wc t rs→AppTo t rs u→Tree u→Appl t rs (some u)
 |unfit:¬wc t rs→Appl t rs none
 |notree {u}:AppTo t rs u→¬Tree u→Appl t rs none
theorem Appl.some_uniq{t u v:List (Nd S)}{d:List (Row S)}(f:Appl t d (some u))(h':Appl t d (some v)):u=v:=by
 cases f with
 |ok a b c=>cases h' with
  |ok g e h=>exact b.uniq e
theorem Appl.not_both{t u:List (Nd S)}{e:List (Row S)}(h:Appl t e (some u))(h':Appl t e none):False:=by
 cases h with
 |ok a b c=>cases h' with
  |unfit f=>exact f a
  |notree g d =>
   rw[g.uniq b]at d;exact d c
theorem lW{e:List Int}{c:Int→Option (Nd S)}(g:e.Pairwise (· < ·))(d:∀k n,c k=some n→n.num=k):ce (e.filterMap c):=by
 unfold ce;rw[List.pairwise_filterMap];refine g.imp λ{a b} f x h y i=>?_;rw[d a x h,d b y i];exact f
theorem tX{b:List Int}{M:Int→Option (Nd S)}(j:b.Pairwise (· < ·))(c:∀k n,M k=some n→n.num=k)(k:Int):aE (b.filterMap M) k=if k∈b then M k else none:=by
 by_cases d:k∈b
 ·rw[if_pos d];cases e:M k with
  |none =>
   refine dG λm g f=>?_;obtain⟨h,_,a⟩:=mem_filterMap.mp g;have:=c h m a;rw[f]at this;rw[←this,e]at a;cases a
  |some n =>
   have l:n∈b.filterMap M:=mem_filterMap.mpr ⟨k,d,e⟩;have:=pQ (lW j c) l;rw[c k n e]at this;exact this
 ·rw[if_neg d];refine dG λm g f=>d ?_;obtain⟨h,i,a⟩:=mem_filterMap.mp g;have:=c h m a;rw[f]at this;rw[this];exact i
end
end TW
namespace L2
open PySem PySem.Spec PyProof.Rows
theorem cO.eqK{b:Hp}{d:Addr}{f:List (Key×V)}{k:Int}{r:Option V}(h:cO b d (.int k) r)(hd:b d=some (.dK f)):r=ba f (Sum.inl k:Key):=by
 rcases h with⟨j,c,a,e,rfl⟩|⟨_,_,_,_,e,_⟩
 ·have g:c=(Sum.inl k:Key):=by
   cases c with
   |inl i=>injection e with e;rw[e]
   |inr x=>cases e
  subst g;rcases a with a|⟨o,a⟩
  ·rw[hd]at a;injection a with a
   injection a with a
   rw[a]
  ·rw[hd]at a;cases a
 ·cases e
end L2
namespace TK
open PySem L2
theorem cL.overD{b:Hp}{d:Addr}{f:List (Key×V)}{g:HO}{v:V}{o:Option Nd}(a:cL b v o)(hd:b d=some (.dK f)):cL (upd b d g) v o:=by
 rcases a with a|⟨q,n,e,a,c⟩
 ·exact .inl a
 ·refine .inr ⟨q,n,e,?_,c⟩;rw[ai]
  ·exact a
  ·rintro rfl;rw[hd]at a;cases a
structure PD(H:Hp)(kvs:List (Key×V))(ks:List Int)(M:Int→Option Nd):Prop where
 keys:kvs.map (·.1)=ks.map (Sum.inl:Int→Key)
 nd:ks.Nodup
 val:∀k,cL H ((ba kvs (Sum.inl k:Key)).getD .non) (M k)
 num:∀k n,M k=some n→n.num=k
theorem PD.has{b:Hp}{a:List (Key×V)}{ks:List Int}{c:Int→Option Nd}(d:PD b a ks c){k:Int}(f:k∈ks):∃v,ba a (Sum.inl k:Key)=some v:=by
 cases e:ba a (Sum.inl k:Key)with
 |some v=>exact⟨v,rfl⟩
 |none =>
  have:=uE e;rw[d.keys]at this;exact absurd (mem_map.mpr ⟨k,f,rfl⟩) this
theorem PD.out{h:Hp}{g:List (Key×V)}{ks:List Int}{b:Int→Option Nd}(c:PD h g ks b){k:Int}(i:k∉ks):b k=none:=by
 have f:=c.val k;cases e:ba g (Sum.inl k:Key)with
 |some v =>
  have:=rL e;rw[c.keys]at this;obtain⟨j,d,a⟩:=mem_map.mp this;injection a with a
  rw[a]at d;exact absurd d i
 |none =>
  rw[e]at f;rcases f with⟨_,z⟩|⟨q,n,z,_⟩
  ·exact z
  ·cases z
theorem PD.put{h:Hp}{d:Addr}{c:List (Key×V)}{ks:List Int}{i:Int→Option Nd}(f:PD h c ks i)(hd:h d=some (.dK c)){k:Int}{v:V}{o:Option Nd}(y:cL h v o)(x:∀n,o=some n→n.num=k):
  ∃r,r.length≤ks.length+1∧PD (upd h d (.dK (cp c (Sum.inl k:Key) v))) (cp c (Sum.inl k:Key) v) r (λj=>if j=k then o else i j):=by
 have t:∀j,cL (upd h d (.dK (cp c (Sum.inl k:Key) v))) ((ba (cp c (Sum.inl k:Key) v) (Sum.inl j:Key)).getD .non) (if j=k then o else i j):=λj=>by
  rw[jI]
  by_cases e:j=k
  ·subst e;rw[if_pos rfl,if_pos rfl];exact y.overD hd
  ·rw[if_neg (λz=>e (by injection z)),if_neg e];exact(f.val j).overD hd
 have s:∀j n,(if j=k then o else i j)=some n→n.num=j:=λj n g=>by
  by_cases e:j=k
  ·rw[if_pos e]at g;rw[e];exact x n g
  ·rw[if_neg e]at g;exact f.num j n g
 by_cases q:k∈ks
 ·obtain⟨C,A⟩:=f.has q;refine⟨ks,le_succ _,?_,f.nd,t,s⟩;have m:(c.any λB=>decide (B.1=(Sum.inl k:Key)))=true:=by rw[cV,A];rfl
  unfold cp;rw[if_pos m,map_map,←f.keys];apply map_congr_left;intro p _;show(if p.1=_ then (p.1,v)else p).1=p.1
  split<;>rfl
 ·refine⟨ks++[k],by rw[length_append];exact le_refl _,?_,?_,t,s⟩
  ·have w:ba c (Sum.inl k:Key)=none:=by
    cases e:ba c (Sum.inl k:Key)with
    |none=>rfl
    |some C =>
     have:=rL e;rw[f.keys]at this;obtain⟨j,g,l⟩:=mem_map.mp this;injection l with l
     rw[l]at g;exact absurd g q
   rw[uz v w,map_append,f.keys,map_append];rfl
  ·rw[nodup_append];refine⟨f.nd,by simp,λa m b u=>?_⟩;have:b=k:=by simpa using u
   rw[this];exact λe=>q (e ▸ m)
theorem PD.book{a:Hp}{d:Addr}{c:List (Addr×(Addr×Nd))}{zs:ZN}(b:Book a d c zs)(hd:a d=some (.dK (aV c)))(T:TW.Tree1 (nds zs)):PD a (aV c) ((nds zs).map (·.num)) (TW.aE (nds zs)):=by
 refine⟨gR b.of,bY T,λk=>?_,λk n h=>(TW.cb h).2⟩;obtain⟨r,h1,h2⟩:=b.optV T k;rw[←h1.eqK hd];exact h2
theorem xW(o:Option Int):dz (stV o)=true:=by cases o<;>rfl
theorem qV(H:Hp)(n:Nd)(k:Nat):∀(i:Nat) x y,(vals n)[i]?=some x→(vals n)[i]?=some y→ph H k x y:=λi x y h1 h2=>by
 have e:x=y:=Option.some.inj (h1.symm.trans h2);subst e;refine jZ ⟨rfl,?_⟩
 match i,h1 with
 |0,h=>cases h;rfl
 |1,h=>cases h;rfl
 |2,h=>cases h;rfl
 |3,h=>cases h;exact xW _
 |i+4,h=>simp[vals]at h
theorem jc{d:Hp}{us c:ZN}(h:nds us=nds c)(j:At d us)(k:At d c):ia d (aY us) (aY c):=by
 refine⟨by rw[bd,bd,←aI us,←aI c,h],λi x y l m=>?_⟩;obtain⟨a,f,rfl⟩:=ck l;obtain⟨b,g,rfl⟩:=ck m;have e:a.2=b.2:=by
  have h1:(nds us)[i]?=some a.2:=by unfold nds;rw[getElem?_map,f];rfl
  have h2:(nds c)[i]?=some b.2:=by unfold nds;rw[getElem?_map,g];rfl
  rw[h,h2]at h1;exact(Option.some.inj h1).symm
 refine .inr ⟨a.1,b.1,_,_,rfl,rfl,j a (mem_of_getElem? f),k b (mem_of_getElem? g),rfl,?_⟩;rw[e];exact qV d b.2 2
end TK
namespace L2
open PySem PySem.Spec PyProof.Rows
section
variable{X:Cx}{tg:Expr}
def zZ(C:Addr)(m:Str)(sp:Sp)(b:TE)(t:TA):TX:=λσ H Q E=>b σ H λx H1=>∃a dx fs,x=.ref a∧H1 a=some (.ins C dx fs)∧fs.lookup m=none∧t σ H1 λvs H2=>sp (x::vs) H2 Q E
theorem xX(J:∀e s,¬X.xe e s){k:Nat}{f C:Addr}{B:FuncData}{p:List Str}{sp:Sp}{m:Str}{pos j:Pos}{e o:Expr}{b:List Expr}{O:TE}{t:TA}{pl:Sem Bool}(T:PE X o O)(c:Cls X.K C)(G:Meth X.K C m f)(F:FnOk X.prog X.w X.K X.mg X.base (CX1 X.prog X.w) k f B p sp)(Z:Room k X.A)(S:bf X.K B p [])(R:PA X (e::b) t)(a0:starEach (e::b) X.env=(false,eval e X.env)::starEach b X.env:=by rfl)(Y:(backTo pos (starEach b X.env)).any (·.1)=false:=by rfl)(a1:eval (.Call (.Attribute o m j) (e::b) [] pos) X.env=(do
   let L ← eval o X.env
   standAt j.atName
   let(f,first) ← holding [L] (getMethod L m pl)
   callWith pos f first (backTo pos (starEach (e::b) X.env)) (backToKw pos (keywordEach [] X.env))):=by rfl):
  PX X (.Call (.Attribute o m j) (e::b) [] pos) (zZ C m sp O t):=by
 intro pins s σ H Q E I h;refine methodCall_KW (pl:=pl) (wpAny_mono (T pins s σ H _ I h) (λu a3 ⟨x,H1,y,a2,a,dx,fs,ex,ea,l,q⟩=>?_) λ_ _ z=>absurd z (J _ _)) a1;subst ex;obtain rfl:u=Value.ref a:=a2;refine gE y ea c G l ?_;refine callWith_K (first:=[.ref a]) (h₀:=X.base) I.ok.mod.kin G.kp (wpAny_mono (R pos pins a3 σ H1 _ y q) (λi v ⟨vs,H2,d,r,M⟩=>⟨d.kIn,?_⟩) λ_ _ z=>absurd z (J _ _)) a0 Y;have N:aF (V.ref a::vs) (Value.ref a::i):=.cons rfl r;have U:(Value.ref a::i).length=p.length:=by rw[←N.length];exact F.len _ _ _ _ M
 have D:=S v (Value.ref a::i) d.kIn (by rw[append_nil];exact U);rw[append_nil]at D;refine wpAny_call (codeAny_mono (F.run X.A X.stack v H2 ⟨Value.ref a::i,[]⟩ (Value.ref a::i) (V.ref a::vs) Q E Z d.env0 D N M) λr s' g=>?_);cases r with
 |error e =>
  obtain⟨ea,C,H',rfl,n,P⟩:=g;exact⟨ea,C,H',H2,v,rfl,d,n,P⟩
 |ok n =>
  cases n with
  |ret u=>exact d.after g
  |next=>exact False.elim g
  |brk=>exact False.elim g
  |cont=>exact False.elim g
def BO(a:TE):TE:=λσ H Q=>a σ H λv H1=>∃i:Int,v=.int i∧-60≤i∧i≤60∧∀y,Q (.str y) H1
theorem pS(i:Int)(b:-60≤i)(c:i≤60):(ofString (toString i)).length≤100:=by
 have a:∀n:Fin 121,(ofString (toString ((n.val:Nat)-60:Int))).length≤100:=by decide +kernel
 have:=a ⟨(i+60).toNat,by omega⟩;have e:(((i+60).toNat:Nat)-60:Int)=i:=by omega
 rw[e]at this;exact this
theorem we{x:Str}{j:Nat}{g k l:Pos}{e:Expr}{a:TE}(d:PE X e a)(p:x.length≤800):PE X (.JoinedStr [.Constant (.str x) j g,.FormattedValue e (-1) none k] l) (BO a):=by
 intro pins s σ H Q I h;have o:(empty++x).length≤800:=by rw[strLen_append];show 0+x.length≤800;omega
 refine JoinedStr_many (joinParts_cons (Constant_str ?_));refine⟨le_of_lt (aB (by omega)),?_⟩;refine joinParts_cons (FormattedValue_plain (thn (d pins _ σ H _ (I.tok _) h) λv r f=>?_));obtain⟨y,H1,b,n,m⟩:=f;obtain⟨i,rfl,c,h1,q⟩:=m;obtain⟨t,rfl⟩:=n;have h2:=pS i c h1;have h3:((empty++x)++ofString (toString i)).length≤1000:=by rw[strLen_append];omega
 refine formatField_int_small (lt_of_le_of_lt (Nat.log2_le_self _) (by omega)) ⟨le_of_lt (aB h3),?_⟩;exact joinParts_nil ⟨.str _,H1,(b.tok _).tok _,⟨_,rfl⟩,q _⟩ (le_of_lt (aB h3))
end
theorem wf{xs:List V}{k:Nat}(h:k≤xs.length):dQ xs (some (k:Int)) none=xs.drop k:=by
 unfold dQ;rw[HT.oz,HT.mv,Nat.min_eq_left h,take_of_length_le (by rw[length_drop];exact le_refl _)]
end L2
namespace TK
open PySem L2
def bQ(H H':Hp):Prop:=∀b xs,H b=some (.tup xs)→H' b=some (.tup xs)
theorem bQ.refl(H:Hp):bQ H H:=λ_ _ h=>h
theorem bQ.trans{c d H3:Hp}(a:bQ c d)(b:bQ d H3):bQ c H3:=λp xs h=>b p xs (a p xs h)
theorem kH{H H':Hp}(s:Same H H'):bQ H H':=λb xs h=>s b _ h
theorem Tre.ts{b H':Hp}{t:Addr}{z:ZN}(a:Tre b t z)(s:bQ b H'):Tre H' t z:=⟨s _ _ a.tup,λz c=>s _ _ (a.nod z c),a.tr,a.len⟩
theorem cL.ts{b H':Hp}{v:V}{o:Option Nd}(a:cL b v o)(s:bQ b H'):cL H' v o:=by
 rcases a with a|⟨q,n,e,a,c⟩
 ·exact .inl a
 ·exact .inr ⟨q,n,e,s _ _ a,c⟩
theorem RowAt.ts{a H':Hp}{e:Addr}{r:Row}(b:RowAt a e r)(s:bQ a H'):RowAt H' e r:=by
 obtain⟨⟨f,d,h1,h2,h3⟩,c⟩:=b;exact⟨⟨f,d,s _ _ h1,h2.ts s,h3.ts s⟩,c⟩
theorem ChgAt.ts{b H':Hp}{c:Addr}{es:ZR}(a:ChgAt b c es)(s:bQ b H'):ChgAt H' c es:=⟨s _ _ a.tup,λe d=>(a.at' e d).ts s,a.len⟩
theorem fH{c:Hp}{a:Addr}{xs ys:List V}(f:c a=some (.lst xs)):bQ c (upd c a (.lst ys)):=λb zs d=>by
 rw[ai (λe=>by rw[e,f]at d;cases d)];exact d
theorem wg{c:Hp}{a C f:Addr}{g gs:List (Str×V)}(h:c a=some (.ins C f g)):bQ c (upd c a (.ins C f gs)):=λb zs d=>by
 rw[ai (λe=>by rw[e,h]at d;cases d)];exact d
def Off(S:List Addr)(H H':Hp):Prop:=∀b o,H b=some o→b∉S→H' b=some o
def flW(t:Addr)(d a:Int)(b c:Addr):List (Str×V):=[("tree",.ref t),("most",.int d),("deeds_done",.int a),("kept",.ref b),("marks_seen",.ref c)]
def fl2(t:Addr)(m:Int):List (Str×V):=[("tree",.ref t),("most",.int m)]
def fl3(t:Addr)(m:Int):List (Str×V):=[("tree",.ref t),("most",.int m),("deeds_done",.int 0)]
def fl4(t:Addr)(m:Int)(a:Addr):List (Str×V):=[("tree",.ref t),("most",.int m),("deeds_done",.int 0),("kept",.ref a)]
theorem k12:¬(("tree":Str)="most"):=by decide +kernel
theorem k13:¬(("tree":Str)="deeds_done"):=by decide +kernel
theorem k14:¬(("tree":Str)="kept"):=by decide +kernel
theorem k15:¬(("tree":Str)="marks_seen"):=by decide +kernel
theorem k23:¬(("most":Str)="deeds_done"):=by decide +kernel
theorem k24:¬(("most":Str)="kept"):=by decide +kernel
theorem k25:¬(("most":Str)="marks_seen"):=by decide +kernel
theorem k34:¬(("deeds_done":Str)="kept"):=by decide +kernel
theorem k35:¬(("deeds_done":Str)="marks_seen"):=by decide +kernel
theorem k45:¬(("kept":Str)="marks_seen"):=by decide +kernel
theorem kQ{f:Str}{v:V}{r:List (Str×V)}:((f,v)::r).lookup f=some v:=by rw[List.lookup_cons,beq_self_eq_true]
theorem cj{f g:Str}{v:V}{r:List (Str×V)}(h:¬g=f):((g,v)::r).lookup f=r.lookup f:=by
 have:(f==g)=false:=by simpa using λe:f=g=>h e.symm
 rw[List.lookup_cons,this]
theorem wj{f:Str}{v w:V}{r:List (Str×V)}:bG f v ((f,w)::r)=(f,v)::r:=by
 show(if f=f then _ else _)=_;rw[if_pos rfl]
theorem cw{f g:Str}{v w:V}{r:List (Str×V)}(h:¬g=f):bG f v ((g,w)::r)=(g,w)::bG f v r:=by
 show(if g=f then _ else _)=_;rw[if_neg h]
section
variable{t t' kl ml:Addr}{most dn dn':Int}
theorem iq:(flW t most dn kl ml).lookup ("tree":Str)=some (.ref t):=kQ
theorem wl:(flW t most dn kl ml).lookup ("most":Str)=some (.int most):=by unfold flW;rw[cj k12,kQ]
theorem eK:(flW t most dn kl ml).lookup ("deeds_done":Str)=some (.int dn):=by unfold flW;rw[cj k13,cj k23,kQ]
theorem fQ:(flW t most dn kl ml).lookup ("kept":Str)=some (.ref kl):=by unfold flW;rw[cj k14,cj k24,cj k34,kQ]
theorem dv:(flW t most dn kl ml).lookup ("marks_seen":Str)=some (.ref ml):=by unfold flW;rw[cj k15,cj k25,cj k35,cj k45,kQ]
theorem iQ{m:Str}(a:¬(("tree":Str)=m))(b:¬(("most":Str)=m))(c:¬(("deeds_done":Str)=m))(d:¬(("kept":Str)=m))(e:¬(("marks_seen":Str)=m)):(flW t most dn kl ml).lookup m=none:=by
 unfold flW;rw[cj a,cj b,cj c,cj d,cj e];rfl
theorem Aa:bG "tree" (.ref t') (flW t most dn kl ml)=flW t' most dn kl ml:=wj
theorem Ab:bG "deeds_done" (.int dn') (flW t most dn kl ml)=flW t most dn' kl ml:=by unfold flW;rw[cw k13,cw k23,wj]
theorem sA:(flW t most dn kl ml).length<1000:=by show 5<1000;decide
end
structure WCls(K:PySem.W.Frag)(mg:Str→Option Value)(C:Addr):Prop where
 cl:Cls K C
 nT:db K C "tree"
 nM:db K C "most"
 nD:db K C "deeds_done"
 nK:db K C "kept"
 nS:db K C "marks_seen"
 mgC:mg "Watch"=some (.ref C)
structure WAt(C:Addr)(H:Hp)(w kl ml t:Addr)(z:ZN)(most dn:Int)(ks:List (Addr×ZR))(ms:List Int):Prop where
 ob:∃dx,H w=some (.ins C dx (flW t most dn kl ml))
 tr:Tre H t z
 kp:H kl=some (.lst (ks.map λx=>V.ref x.1))
 mks:H ml=some (.lst (ms.map V.int))
 ne:kl≠ml
 ch:∀x∈ks,ChgAt H x.1 x.2
theorem WAt.same{C:Addr}{b H':Hp}{w d f t:Addr}{z:ZN}{g c:Int}{ks:List (Addr×ZR)}{ms:List Int}(a:WAt C b w d f t z g c ks ms)(s:Same b H'):WAt C H' w d f t z g c ks ms :=
 ⟨let⟨dx,e⟩:=a.ob;⟨dx,s _ _ e⟩,a.tr.same s,s _ _ a.kp,s _ _ a.mks,a.ne,λx h=>(a.ch x h).same s⟩
theorem WAt.off{C:Addr}{b H':Hp}{w c d t:Addr}{z:ZN}{g f:Int}{ks:List (Addr×ZR)}{ms:List Int}(a:WAt C b w c d t z g f ks ms){S:List Addr}(s:Off S b H')(h:bQ b H')(j:w∉S)(k:c∉S)(l:d∉S):WAt C H' w c d t z g f ks ms :=
 ⟨let⟨dx,e⟩:=a.ob;⟨dx,s _ _ e j⟩,a.tr.ts h,s _ _ a.kp k,s _ _ a.mks l,a.ne,λx i=>(a.ch x i).ts h⟩
section
variable{P:Program}{w:World}{K:PySem.W.Frag}{mg:Str→Option Value}{base:Heap}
def qW(C:Addr):Sp:=λvs H Q _=>∃p dx t z m,vs=[.ref p,.ref t,.int m]∧H p=some (.ins C dx [])∧Tre H t z∧∀kl ml H',H kl=none→H ml=none→WAt C H' p kl ml t z m 0 [] []→Off [p] H H'→Q .non H'
theorem Ac:FnScope ["self","tree","most"] ["self","tree","most"] (aj fq):=fsc
theorem xY{f C:Addr}{y:FuncData}(F:Fun K "__init__" "Watch.__init__" fq f y)(T:WCls K mg C):FnOk P w K mg base CX0 1 f y ["self","tree","most"] (qW C):=by
 refine F.ok Ac (λvs H Q E h=>?_) (λcdv A outer s H vs Q E M h=>?_)
 ·obtain⟨p,dx,t,z,m,rfl,_⟩:=h;rfl
 ·obtain⟨p,dx,t,z,m,rfl,B,L,k⟩:=h;refine⟨_,af (iz (pv 0) (pv 1) rfl) (af (iz (pv 0) (pv 2) rfl) (af (iz (pv 0) ah rfl) (af (iz (pv 0) (bi ae) rfl) (ak (iz (pv 0) (bi ae) rfl))))),?_⟩;refine⟨_,rfl,_,rfl,p,C,dx,[],rfl,B,T.cl,T.nT,(by show 0<1000;decide),?_⟩;refine⟨_,rfl,_,rfl,p,C,dx,_,rfl,ac,T.cl,T.nM,(by show 1<1000;decide),?_⟩;refine⟨_,rfl,p,C,dx,_,rfl,ac,T.cl,T.nD,(by rw[show bG "most" (V.int m) (bG "tree" (V.ref t) [])=fl2 t m from cw k12];show 2<1000;decide),?_⟩;have G:bG "deeds_done" (V.int 0) (bG "most" (V.int m) (bG "tree" (V.ref t) []))=fl3 t m:=by
   rw[show bG "most" (V.int m) (bG "tree" (V.ref t) [])=fl2 t m from cw k12];unfold fl2;rw[cw k13,cw k23];rfl
  rw[G];have n:upd (upd (upd H p (.ins C dx (bG "tree" (V.ref t) []))) p (.ins C dx (bG "most" (V.int m) (bG "tree" (V.ref t) [])))) p (.ins C dx (fl3 t m)) p=some (.ins C dx (fl3 t m)):=ac;have x:Off [p] H (upd (upd (upd H p (.ins C dx (bG "tree" (V.ref t) []))) p (.ins C dx (bG "most" (V.int m) (bG "tree" (V.ref t) [])))) p (.ins C dx (fl3 t m))):=λb o e i=>by
   have c:b≠p:=by simpa using i
   rw[ai c,ai c,ai c];exact e
  have q:∀b,upd (upd (upd H p (.ins C dx (bG "tree" (V.ref t) []))) p (.ins C dx (bG "most" (V.int m) (bG "tree" (V.ref t) [])))) p (.ins C dx (fl3 t m)) b=none→H b=none:=λb e=>by
   have c:b≠p:=λz=>by rw[z,n]at e;cases e
   rw[ai c,ai c,ai c]at e;exact e
  generalize upd (upd (upd H p (.ins C dx (bG "tree" (V.ref t) []))) p (.ins C dx (bG "most" (V.int m) (bG "tree" (V.ref t) [])))) p (.ins C dx (fl3 t m))=D at n x q⊢;refine⟨zero_le _,λkl j=>?_⟩;have v:p≠kl:=ao n j;refine⟨_,rfl,p,C,dx,_,rfl,by rw[ai v];exact n,T.cl,T.nK,(by show 3<1000;decide),?_⟩;have I:bG "kept" (V.ref kl) (fl3 t m)=fl4 t m kl:=by
   unfold fl3;rw[cw k14,cw k24,cw k34];rfl
  rw[I];refine⟨zero_le _,λml g=>?_⟩;have l:ml≠p:=λz=>by rw[z,ac]at g;cases g
  have r:ml≠kl:=λz=>by rw[ai l,z,ac]at g;cases g
  have u:D ml=none:=by rw[ai l,ai r]at g;exact g
  refine⟨_,rfl,p,C,dx,_,rfl,by rw[ai (Ne.symm l)];exact ac,T.cl,T.nS,(by show 4<1000;decide),?_⟩;have J:bG "marks_seen" (V.ref ml) (fl4 t m kl)=flW t m 0 kl ml:=by
   unfold fl4;rw[cw k15,cw k25,cw k35,cw k45];rfl
  rw[J];refine k kl ml _ (q kl j) (q ml u) ⟨⟨dx,ac⟩,?_,?_,?_,Ne.symm r,by simp⟩ λb o e i=>?_
  ·refine L.ts λb xs e=>?_;have d:b≠p:=λz=>by rw[z,B]at e;cases e
   have a:=x b _ e (by simpa using d);rw[ai d,ai (ao a u),ai d,ai (ao a j)];exact a
  ·rw[ai (Ne.symm v),ai (Ne.symm r),ai (Ne.symm v),ac];rfl
  ·rw[ai l,ac];rfl
  ·have d:b≠p:=by simpa using i
   have a:=x b _ e i;rw[ai d,ai (ao a u),ai d,ai (ao a j)];exact a
def qX(C:Addr):Sp:=λvs H Q _=>∃p kl ml t z m dn ks ms,vs=[.ref p]∧WAt C H p kl ml t z m dn ks ms∧Q (.ref t) H
theorem Ad:FnScope ["self"] ["self"] (aj gP):=fsc
theorem xZ{f C:Addr}{a:FuncData}(F:Fun K "now" "Watch.now" gP f a)(T:WCls K mg C):FnOk P w K mg base CX0 1 f a ["self"] (qX C):=by
 refine F.ok Ad (λvs H Q E h=>?_) (λcdv A outer s H vs Q E c h=>?_)
 ·obtain⟨p,kl,ml,t,z,m,dn,ks,ms,rfl,_⟩:=h;rfl
 ·obtain⟨p,kl,ml,t,z,m,dn,ks,ms,rfl,W,q⟩:=h;obtain⟨dx,b⟩:=W.ob;exact⟨_,ak (aw (ci (pv 0) rfl)),_,rfl,p,C,dx,_,_,rfl,b,T.cl,T.nT,iq,q⟩
def ir(m:Int)(ks:List (Addr×ZR)):List (Addr×ZR):=if m<(ks.length:Int)then ks.drop 1 else ks
def jq(C:Addr)(cls:TW.Wd→Addr):Sp:=λvs H Q E=>∃p kl ml t z m dn ks ms d dd,vs=[.ref p,.ref d]∧WAt C H p kl ml t z m dn ks ms∧z.length≤29∧ks.length≤100∧0≤m∧H d=some (.tup (cf dd))∧dW dd ∧
 (∀t' a c es H',TW.Told (nds z) dd (.inr (nds a))→TW.Chg (nds z) (nds a) (bo es)→WAt C H' p kl ml t' a m (dn+1) (ir m (ks++[(c,es)])) ms→Off [p,kl] H H'→bQ H H'→Q .non H') ∧
 ∀b H',Same H H'→TW.Told (nds z) dd (.inl b)→E (.ref (cls b)) none H'
theorem sB:FnScope ["self","deed","behind"] ["self","deed"] (aj ft):=fsc
theorem wm{f C:Addr}{S:FuncData}{cls:TW.Wd→Addr}(F:Fun K "deed" "Watch.deed" ft f S)(b0:Txt mg)(T:WCls K mg C)(a7:dU P w K mg base 4 "done" ["tree","deed"] (qM cls))(a6:Has P w K mg base 2 "change_between" ["one","other"] wb):FnOk P w K mg base (CX1 P w) 5 f S ["self","deed"] (jq C cls):=by
 obtain⟨d7,d9,a9,c9,c7,b2⟩:=a7;obtain⟨d6,d8,a8,c8,c6,b1⟩:=a6;refine F.okX sB (λvs H Q E h=>?_) (λcdv A outer s H vs Q E a1 h=>?_)
 ·obtain⟨p,kl,ml,t,z,m,dn,ks,ms,d,dd,rfl,_⟩:=h;rfl
 ·have c1:Room 2 _:=a1.mono (by decide);refine⟨_,af (ay (i:=2) sB.nd rfl (Or.inl rfl) (al (E:=E) a9 a1 rfl c9 c7 b2 .nil (cW bv) (aa (ci (pv 0) rfl) (aa (pv 1) ae))))
   (af (bg (cU plainAttrs_list PySem.F.slot_list_append PySem.F.type_list_append bn (ci (pv 0) rfl) (aa (al a8 c1 rfl c8 c6 b1 .nil aM (aa (ci (pv 0) rfl) (aa (pv 2) ae))) ae)))
   (af (aP (am rC (ar aH rfl b0.len boot_len (aa (ci (pv 0) rfl) ae)) (ci (pv 0) rfl) (au _)) (ak (bg (cU plainAttrs_list slot_list_pop type_list_pop oA (ci (pv 0) rfl) (aa ah ae)))) aA)
   (af (iz (pv 0) (pv 2) rfl) (ak (sO (pv 0) ah yU))))),?_⟩
  obtain⟨p,kl,ml,t,z,m,dn,ks,ms,d,dd,rfl,W,c5,e1,e2,b7,Y,d1,d0⟩:=h;obtain⟨dx,Z⟩:=W.ob;refine⟨_,rfl,p,C,dx,_,_,rfl,Z,T.cl,T.nT,iq,_,rfl,t,d,dd,z,rfl,W.tr,c5,b7,Y,⟨λus t' H1 n c2 b4 q=>?_,λd5 H1 n q=>d0 d5 H1 n q⟩⟩;have J:=W.same n;have M:=n _ _ Z;have Tb:Tre H1 t' us:=⟨c2,b4,q.tree W.tr.tr Y.pos,by have:=q.len;rw[aI,aI]at this;omega⟩;refine⟨_,rfl,p,C,dx,_,_,rfl,M,T.cl,T.nK,fQ,.inl ⟨rfl,_,SqL.of J.kp⟩,_,rfl,p,C,dx,_,_,rfl,M,T.cl,T.nT,iq,_,rfl,t,t',z,us,rfl,J.tr,Tb,λc es H2 D b5 b6=>?_⟩;have j:=J.same D;have N:=D _ _ M;have B:p≠kl:=rj N j.kp (by intro h;cases h);refine⟨kl,_,_,rfl,rfl,j.kp,aB (by rw[length_map];omega),?_⟩;have a5:=fH (ys:=(ks.map λx=>V.ref x.1)++[.ref c]) j.kp;have k:upd H2 kl (.lst ((ks.map λx=>V.ref x.1)++[.ref c])) kl=some (.lst ((ks++[(c,es)]).map λx=>V.ref x.1)):=by rw[ac,map_append];rfl
  have l:upd H2 kl (.lst ((ks.map λx=>V.ref x.1)++[.ref c])) p=some (.ins C dx (flW t m dn kl ml)):=by rw[ai B];exact N
  have R:Off [p,kl] H2 (upd H2 kl (.lst ((ks.map λx=>V.ref x.1)++[.ref c]))):=λb o e g=>by
   rw[ai (λz=>g (by rw[z];simp))];exact e
  generalize upd H2 kl (.lst ((ks.map λx=>V.ref x.1)++[.ref c]))=I at a5 k l R⊢;have U:∀H4,bQ I H4→Off [p,kl] I H4→H4 kl=some (.lst ((ir m (ks++[(c,es)])).map λx=>V.ref x.1))→H4 p=some (.ins C dx (flW t m dn kl ml))→gm (AI K (dP 0) (dP 2) "tree") (rF K (dP 0) (tC (.int 1)) AK "deeds_done") {nx:=λ_ H'=>Q .non H',rt:=Q} [some (.ref p),some (.ref d),some (.ref t')] H4:=λH4 d2 a3 b8 a0=>by
   refine⟨_,rfl,_,rfl,p,C,dx,_,rfl,a0,T.cl,T.nT,sA,?_⟩;rw[Aa];have d3:=wg (gs:=flW t' m dn kl ml) a0;refine⟨_,rfl,p,C,dx,_,_,rfl,ac,T.cl,T.nD,eK,_,_,rfl,rfl,dx,_,ac,sA,?_⟩;rw[Ab];have d4:bQ (upd H4 p (.ins C dx (flW t' m dn kl ml))) (upd (upd H4 p (.ins C dx (flW t' m dn kl ml))) p (.ins C dx (flW t' m (dn+1) kl ml))):=wg ac;have a4:=n.trans D;have G:bQ H2 (upd (upd H4 p (.ins C dx (flW t' m dn kl ml))) p (.ins C dx (flW t' m (dn+1) kl ml))):=((a5.trans d2).trans d3).trans d4;have O:ml≠p:=rj j.mks N (by intro h;cases h);refine d1 t' us c es _ q b6 ⟨⟨dx,ac⟩,(Tb.same D).ts G,by rw[ai (Ne.symm B),ai (Ne.symm B)];exact b8,?_,W.ne,λx v=>?_⟩ (λb o e g=>?_) ((kH a4).trans G)
   ·rw[ai O,ai O];have a2:ml∉[p,kl]:=by simp[O,Ne.symm W.ne]
    exact a3 _ _ (R _ _ j.mks a2) a2
   ·have c3:x∈ks++[(c,es)]:=by
     unfold ir at v
     split at v
     ·exact List.drop_subset _ _ v
     ·exact v
    rcases mem_append.mp c3 with h|h
    ·exact(j.ch x h).ts G
    ·have:x=(c,es):=by simpa using h
     rw[this];exact b5.ts G
   ·have X:b≠p:=λz=>g (by rw[z];simp);rw[ai X,ai X];exact a3 _ _ (R _ _ (a4 _ _ e) g) g
  refine⟨_,rfl,p,C,dx,_,_,rfl,l,T.cl,T.nK,fQ,kl,_,rfl,.inl (SqL.of k),_,rfl,p,C,dx,_,_,rfl,l,T.cl,T.nM,wl,_,_,rfl,rfl,_,rfl,?_⟩;have b9:((ks++[(c,es)]).map λx=>V.ref x.1).length=ks.length+1:=by rw[length_map,length_append];rfl
  by_cases u:m<((ks++[(c,es)]).length:Int)
  ·have L:decide (m<(((ks++[(c,es)]).map λx=>V.ref x.1).length:Int))=true:=by rw[length_map];exact decide_eq_true u
   rw[L];refine aQ ?_;have c0:∃y,((ks++[(c,es)]).map λx=>V.ref x.1)[0]?=some y:=by
    cases ks with
    |nil=>exact⟨_,rfl⟩
    |cons a r=>exact⟨_,rfl⟩
   obtain⟨y,c4⟩:=c0;refine⟨_,rfl,p,C,dx,_,_,rfl,l,T.cl,T.nK,fQ,.inl ⟨rfl,_,SqL.of k⟩,kl,_,0,0,y,rfl,rfl,k,by decide,by decide,?_,c4,?_⟩
   ·rw[b9];exact vq (Int.le_refl 0) (by omega)
   ·have b3:((ks++[(c,es)]).map λx=>V.ref x.1).eraseIdx 0=(ir m (ks++[(c,es)])).map λx=>V.ref x.1:=by
     unfold ir;rw[if_pos u,map_drop];cases e0:(ks++[(c,es)]).map λx=>V.ref x.1 with
     |nil=>rfl
     |cons a r=>rfl
    rw[b3];exact U _ (fH k) (λb o e g=>by rw[ai (λz=>g (by rw[z];simp))];exact e) ac (by rw[ai B];exact l)
  ·have L:decide (m<(((ks++[(c,es)]).map λx=>V.ref x.1).length:Int))=false:=by rw[length_map];exact decide_eq_false u
   rw[L];refine aC ?_;exact U I (bQ.refl _) (λb o e _=>e) (by unfold ir;rw[if_neg u];exact k) l
end
theorem wn{t u:List Nd}{f:ZR}(g:TW.Chg t u (bo f)){e:Addr×Row}(h:e∈f):e.2.k∈t.map (·.num)∨e.2.k∈u.map (·.num):=by
 obtain⟨h1,h2,h3⟩:=(g.mem e.2).mp (mem_map.mpr ⟨e,h,rfl⟩);cases a:TW.aE t e.2.k with
 |some m =>
  obtain⟨c,d⟩:=TW.cb a;exact .inl (mem_map.mpr ⟨m,c,d⟩)
 |none =>
  cases b:TW.aE u e.2.k with
  |some m =>
   obtain⟨c,d⟩:=TW.cb b;exact .inr (mem_map.mpr ⟨m,c,d⟩)
  |none=>exact absurd (h1.trans (a.trans (b.symm.trans h2.symm))) h3
theorem sC{t u:List Nd}{a:ZR}(b:TW.Chg t u (bo a)):(a.map (·.2.k)).Nodup:=by
 have:=b.up;unfold bo at this;rw[pairwise_map]at this;unfold Nodup;rw[pairwise_map];exact this.imp λb e=>by omega
theorem nN{t u:List Nd}{b:ZR}{a:List Int}(c:TW.Chg t u (bo b))(h:∀n∈t,n.num∈a)(i:∀n∈u,n.num∈a):b.length≤a.length:=by
 have:=cY (m:=a) (sC c) λk g=>by
  obtain⟨e,f,rfl⟩:=mem_map.mp g;rcases wn c f with q|q<;>obtain⟨m,d,j⟩:=mem_map.mp q<;>rw[←j]
  ·exact h m d
  ·exact i m d
 rw[length_map]at this;exact this
theorem wo(t:List Nd):TW.Chg t t (bo []):=by
 refine⟨Pairwise.nil,λr=>⟨λh=>?_,λh=>?_⟩⟩
 ·cases h
 ·exact absurd (h.1.trans h.2.1.symm) h.2.2
structure Hist(ks:List (Addr×ZR))(U:Nat→List Nd)(M:List Int):Prop where
 step:∀j x,ks[j]?=some x→TW.Chg (U j) (U (j+1)) (bo x.2)
 num:∀j,j≤ks.length→∀n∈U j,n.num∈M
 few:M.length≤30
section
variable{P:Program}{w:World}{K:PySem.W.Frag}{mg:Str→Option Value}{base:Heap}
def kX(C e:Addr):Sp:=λvs H Q E=>∃p kl ml t z m dn ks ms a b M,vs=[.ref p,.int a]∧WAt C H p kl ml t z m dn ks ms∧Hist ks b M∧ks.length≤100∧-60≤a∧a≤60 ∧
 ((a<0∨dn<a)→∀H',Same H H'→E (.ref e) none H') ∧
 (0≤a→a≤dn→(ks.length:Int)-(dn-a)<0→∀H',Same H H'→Q .non H') ∧
 ∀d:Nat,0≤a→a≤dn→(ks.length:Int)-(dn-a)=d→∀c es H',Same H H'→ChgAt H' c es→TW.Chg (b d) (b ks.length) (bo es)→Q (.ref c) H'
theorem pT:FnScope ["self","mark","older","whole","change"] ["self","mark"] (aj eU):=fsc
theorem tY{f C J:Addr}{N:FuncData}(F:Fun K "since" "Watch.since" eU f N)(a3:Txt mg)(T:WCls K mg C)(a2:gw "NoMark" mg base J)(a0:Has P w K mg base 2 "joined" ["one","other"] zY):FnOk P w K mg base (CX1 P w) 3 f N ["self","mark"] (kX C J):=by
 obtain⟨c1,c2,a1,b6,b5,a4⟩:=a0;refine F.okX pT (λvs H Q E h=>?_) (λcdv A outer s H vs Q E X h=>?_)
 ·obtain⟨p,kl,ml,t,z,m,dn,ks,ms,a,b,M,rfl,_⟩:=h;rfl
 ·refine⟨_,af (aP (PW.pt (pw_or (am gn (pv 1) ah (au _)) (pw_or1 (am rC (pv 1) (ci (pv 0) rfl) (au _))))) (ak (cy (E:=E) bv a2 X.hd rfl (we (pv 1) (by decide +kernel)))) aA)
   (af (ay (i:=2) pT.nd rfl (Or.inl rfl) (aD mn (ar aH rfl a3.len boot_len (aa (ci (pv 0) rfl) ae)) (aD mn (ci (pv 0) rfl) (pv 1))))
   (af (aP (am gn (pv 2) ah (au _)) (ak (aw cn)) aA)
   (af (ay (i:=3) pT.nd rfl (Or.inl rfl) (be ae))
   (af (fc (zy bv) rfl (dj (cF wT (ci (pv 0) rfl) (cz (pv 2)) fX)) (aN (i:=4) pT.nd rfl (Or.inl rfl))
    (ak (ay (i:=3) pT.nd rfl (Or.inl rfl) (al a1 X rfl b6 b5 a4 .nil aM (aa (pv 3) (aa (pv 4) ae))))))
   (ak (aw (pv 3))))))),?_⟩
  obtain⟨p,kl,ml,t,z,m,dn,ks,ms,a,b,M,rfl,W,hi,c4,S,U,Z,b8,b7⟩:=h;obtain⟨dx,q⟩:=W.ob;refine⟨_,rfl,_,_,rfl,rfl,_,rfl,?_⟩
  by_cases B:a<0
  ·rw[decide_eq_true B];refine aQ (aQ ?_);exact⟨_,rfl,a,rfl,S,U,λy=>⟨(show 1≤sizeLine from aq (by decide)),Z (.inl B) H (Same.refl _)⟩⟩
  rw[decide_eq_false B];refine aC ⟨_,rfl,_,rfl,p,C,dx,_,_,rfl,q,T.cl,T.nD,eK,_,_,rfl,rfl,_,rfl,?_⟩
  by_cases h1:dn<a
  ·rw[decide_eq_true h1];refine aQ ?_;exact⟨_,rfl,a,rfl,S,U,λy=>⟨(show 1≤sizeLine from aq (by decide)),Z (.inr h1) H (Same.refl _)⟩⟩
  rw[decide_eq_false h1];refine aC ?_;refine⟨_,rfl,p,C,dx,_,_,rfl,q,T.cl,T.nK,fQ,kl,_,rfl,.inl (SqL.of W.kp),_,rfl,p,C,dx,_,_,rfl,q,T.cl,T.nD,eK,_,rfl,_,_,rfl,rfl,_,_,rfl,rfl,?_⟩;rw[length_map];refine⟨_,rfl,_,_,rfl,rfl,_,rfl,?_⟩
  by_cases h2:(ks.length:Int)-(dn-a)<0
  ·rw[decide_eq_true h2];exact aQ (b8 (by omega) (by omega) h2 H (Same.refl _))
  rw[decide_eq_false h2];refine aC ⟨zero_le _,λn a9=>?_⟩;have r:=ag (o:=.tup []) a9;have I:ChgAt (upd H n (.tup [])) n []:=⟨ac,by simp,by simp⟩;generalize upd H n (.tup [])=H1 at r I⊢;obtain⟨j,O⟩:∃j:Nat,(ks.length:Int)-(dn-a)=j:=⟨((ks.length:Int)-(dn-a)).toNat,by omega⟩;have R:j≤ks.length:=by omega
  have L:=W.same r;have b3:=r _ _ q;dsimp only;rw[O];refine⟨_,rfl,p,C,dx,_,_,rfl,b3,T.cl,T.nK,fQ,_,rfl,_,rfl,kl,_,rfl,SqL.of L.kp,λl b1=>?_⟩;rw[wf (by rw[length_map];exact R)];have u:=ag (o:=.lst ((ks.map λx=>V.ref x.1).drop j)) b1;have G:upd H1 l (.lst ((ks.map λx=>V.ref x.1).drop j)) l=some (.lst ((ks.map λx=>V.ref x.1).drop j)):=ac;generalize upd H1 l (.lst ((ks.map λx=>V.ref x.1).drop j))=H2 at u G⊢;refine⟨l,rfl,⟨_,SqL.of G⟩,jB (xs:=(ks.map λx=>V.ref x.1).drop j) (λi σ H'=>∃c es v,σ=[some (.ref p),some (.int a),some (.int j),some (.ref c),v]∧Same H2 H'∧ChgAt H' c es∧TW.Chg (b j) (b (j+i)) (bo es)) ⟨n,[],none,rfl,Same.refl _,I.same u,wo _⟩ (λi σ H' _ h=>?_) (λi x σ H' k h=>?_) (λσ H' h=>?_)⟩
  ·obtain⟨c,es,v,rfl,d,_⟩:=h;exact SqL.of (d _ _ G)
  ·obtain⟨c,es,v,rfl,d,D,e⟩:=h;rw[getElem?_drop,getElem?_map]at k;cases g:ks[j+i]? with
   |none=>rw[g]at k;cases k
   |some y =>
    rw[g]at k;have a6:V.ref y.1=x:=Option.some.inj k;subst a6;have b4:=mem_of_getElem? g;have c5:j+i<ks.length:=(List.getElem?_eq_some_iff.mp g).1;have Y:=hi.step _ _ g;have c6:=nN e (hi.num j R) (hi.num (j+i) (by omega));have c7:=nN Y (hi.num (j+i) (by omega)) (hi.num (j+i+1) (by omega));have c3:=hi.few;refine⟨_,rfl,_,rfl,c,y.1,es,y.2,b j,b (j+i),b (j+i+1),rfl,D,((L.ch y b4).same u).same d,e,Y,by omega,by omega,λa5 a7 c0 b9 a8 b0=>?_⟩;exact⟨a5,a7,_,rfl,d.trans b9,a8,b0⟩
  ·obtain⟨c,es,v,rfl,d,D,e⟩:=h;have b2:j+((ks.map λx=>V.ref x.1).drop j).length=ks.length:=by rw[length_drop,length_map];omega
   rw[b2]at e;exact⟨_,rfl,b7 j (by omega) (by omega) O c es H' ((r.trans u).trans d) D e⟩
end
structure Past(ts:List (List Nd))(z:List Nd)(most:Int)(ks:List (Addr×ZR))(M:List Int):Prop where
 pos:0<ts.length
 m0:0≤most
 len:(ks.length:Int)=min ((ts.length:Int)-1) most
 last:ts[ts.length-1]?=some z
 step:∀j x,ks[j]?=some x→TW.Chg (ts.getD (ts.length-1-ks.length+j) []) (ts.getD (ts.length-1-ks.length+j+1) []) (bo x.2)
 num:∀t∈ts,∀n∈t,n.num∈M
theorem iu{b:Type}{a:List b}{u d:b}{i:Nat}(c:i<a.length):(a++[u]).getD i d=a.getD i d:=by
 rw[getD_eq_getElem?_getD,getD_eq_getElem?_getD,getElem?_append_left c]
theorem wp{b:Type}{a:List b}{u d:b}:(a++[u]).getD a.length d=u:=by
 rw[getD_eq_getElem?_getD,getElem?_append_right (le_refl _),sub_self];rfl
theorem Past.at_last{a:List (List Nd)}{z:List Nd}{d:Int}{ks:List (Addr×ZR)}{b:List Int}(c:Past a z d ks b):a.getD (a.length-1) []=z:=by
 rw[getD_eq_getElem?_getD,c.last];rfl
theorem Past.next{a:List (List Nd)}{z u:List Nd}{i:Int}{ks:List (Addr×ZR)}{l:List Int}(f:Past a z i ks l){c:Addr}{e:ZR}(r:TW.Chg z u (bo e)){k:Int}(y:∀n∈u,n.num∈k::l):Past (a++[u]) u i (ir i (ks++[(c,e)])) (k::l):=by
 have B:=f.pos;have A:=f.len;have w:=f.m0;have h1:(ks++[(c,e)]).length=ks.length+1:=by rw[length_append];rfl
 have h2:(a++[u]).length=a.length+1:=by rw[length_append];rfl
 have o:∀j x,(ks++[(c,e)])[j]?=some x→TW.Chg ((a++[u]).getD (a.length-1-ks.length+j) []) ((a++[u]).getD (a.length-1-ks.length+j+1) []) (bo x.2):=λj x b=>by
  by_cases v:j<ks.length
  ·rw[getElem?_append_left v]at b;rw[iu (by omega),iu (by omega)];exact f.step j x b
  ·have s:j<(ks++[(c,e)]).length:=(List.getElem?_eq_some_iff.mp b).1;have q:j=ks.length:=by omega
   subst q;rw[getElem?_append_right (le_refl _),sub_self]at b;have ex:(c,e)=x:=Option.some.inj b;subst ex;have g:a.length-1-ks.length+ks.length=a.length-1:=by omega
   have p:a.length-1+1=a.length:=by omega
   rw[g,p,wp,iu (by omega),f.at_last];exact r
 refine⟨by omega,w,?_,?_,?_,λt h n m=>?_⟩
 ·unfold ir
  by_cases d:i<((ks++[(c,e)]).length:Int)
  ·rw[if_pos d,length_drop,h1,h2];rw[h1]at d;omega
  ·rw[if_neg d,h1,h2];rw[h1]at d;omega
 ·rw[h2,Nat.add_sub_cancel,getElem?_append_right (le_refl _),sub_self];rfl
 ·intro j x b;unfold ir at b⊢
  by_cases d:i<((ks++[(c,e)]).length:Int)
  ·rw[if_pos d]at b;rw[if_pos d,length_drop,h1,h2];rw[getElem?_drop]at b;have:=o (1+j) x b;have s:1+j<(ks++[(c,e)]).length:=(List.getElem?_eq_some_iff.mp b).1;have g:a.length+1-1-(ks.length+1-1)+j=a.length-1-ks.length+(1+j):=by omega
   rw[g];exact this
  ·rw[if_neg d]at b;rw[if_neg d,h1,h2];rw[h1]at d;have g:a.length+1-1-(ks.length+1)+j=a.length-1-ks.length+j:=by omega
   rw[g];exact o j x b
 ·rcases mem_append.mp h with h|h
  ·exact mem_cons_of_mem _ (f.num t h n m)
  ·have:t=u:=by simpa using h
   subst this;exact y n m
theorem Past.hist{a:List (List Nd)}{z:List Nd}{g:Int}{ks:List (Addr×ZR)}{M:List Int}(b:Past a z g ks M)(f:M.length≤30):Hist ks (λj=>a.getD (a.length-1-ks.length+j) []) M:=by
 have i:=b.pos;have h:=b.len;refine⟨λj x c=>b.step j x c,λj c n e=>?_,f⟩;have d:a.length-1-ks.length+j<a.length:=by omega
 rw[getD_eq_getElem?_getD,getElem?_eq_getElem d]at e;exact b.num _ (getElem_mem d) n e
def N9(i:Nat):Str:=(["Inside","Known","NoMark","NoMatch","NoNode","NoReader","NotFile","NotFolder","Taken"]:List Str).getD i ""
def W9:List Str:=["inside","known","no mark","no match","no node","no reader","not file","not folder","taken"]
structure Clss9(mg:Str→Option Value)(K:PySem.W.Frag)(B:Nat→Addr)(D:Addr):Prop where
 m:∀i,i<9→mg (N9 i)=some (.ref (B i))
 tre:mg "TreeError"=some (.ref D)
 base:PySem.W.ktsIn K D "BaseException"=true
structure One9(K:PySem.W.Frag)(B:Nat→Addr)(D:Addr)(i:Nat):Prop where
 lt:i<9
 xc:XI.tF K (B i)=true
 is:∀j,j<9→kitOne K (.ref (B i)) (.ref (B j))=some (decide (i=j))
 val:kitOne K (.ref (B i)) (.type "ValueError")=some true
 sub:subIn K (.ref (B i)) (.ref D)=some true
def plW:TW.Wd→Nat
 |.inside=>0
 |.known=>1
 |.noNode=>4
 |.notFile=>6
 |.notFolder=>7
 |.taken=>8
def bs9(i:Nat):List Bool:=[decide (i=0),decide (i=1),decide (i=2),decide (i=3),decide (i=4),decide (i=5),decide (i=6),decide (i=7),decide (i=8)]
theorem ya{i:Nat}(h:i<9):(bs9 i).count true=1∧(bs9 i)[i]?=some true∧∀m,m<i→(bs9 i)[m]?=some false:=by
 have:i=0∨i=1∨i=2∨i=3∨i=4∨i=5∨i=6∨i=7∨i=8:=by omega
 rcases this with rfl|rfl|rfl|rfl|rfl|rfl|rfl|rfl|rfl<;>refine⟨by decide,by decide,?_⟩<;>decide
section
variable{P:Program}{w:World}{K:PySem.W.Frag}{mg:Str→Option Value}{base:Heap}
def qY(B:Nat→Addr)(D:Addr)(K:PySem.W.Frag):Sp:=λvs H Q _=>∃ea i x,vs=[.ref ea]∧One9 K B D i∧H ea=some (.ext (XI.oY ea (B i)))∧W9[i]?=some x∧∀H',Same H H'→Q (.str x) H'
theorem qZ:FnScope ["_law_kept","_law_kinds","_law_words"] ["_law_kept"] (aj vK):=fsc
theorem yb{f I:Addr}{a:Nat→Addr}{J:FuncData}(F:Fun K "_law_word" "_law_word" vK f J)(T:Txt mg)(g:Clss9 mg K a I):FnOk P w K mg base CX0 1 f J ["_law_kept"] (qY a I K):=by
 have a1:mg "Inside"=some (.ref (a 0)):=g.m 0 (by decide);have a2:mg "Known"=some (.ref (a 1)):=g.m 1 (by decide);have a3:mg "NoMark"=some (.ref (a 2)):=g.m 2 (by decide);have a4:mg "NoMatch"=some (.ref (a 3)):=g.m 3 (by decide);have a5:mg "NoNode"=some (.ref (a 4)):=g.m 4 (by decide);have a6:mg "NoReader"=some (.ref (a 5)):=g.m 5 (by decide);have a7:mg "NotFile"=some (.ref (a 6)):=g.m 6 (by decide);have a8:mg "NotFolder"=some (.ref (a 7)):=g.m 7 (by decide);have a9:mg "Taken"=some (.ref (a 8)):=g.m 8 (by decide);refine F.ok qZ (λvs H Q E h=>?_) (λcdv A outer s H vs Q E b2 h=>?_)
 ·obtain⟨ea,i,x,rfl,_⟩:=h;rfl
 ·obtain⟨ea,i,x,rfl,c,d,a0,q⟩:=h;refine⟨_,af (ay (i:=1) qZ.nd rfl (Or.inl rfl) (bi (aa (ar bH rfl T.isin boot_isinstance (aa (pv 0) (aa (cg (v:=.ref (a 0)) rfl a1 rfl) ae))) (aa (ar bH rfl T.isin boot_isinstance (aa (pv 0) (aa (cg (v:=.ref (a 1)) rfl a2 rfl) ae))) (aa (ar bH rfl T.isin boot_isinstance (aa (pv 0) (aa (cg (v:=.ref (a 2)) rfl a3 rfl) ae))) (aa (ar bH rfl T.isin boot_isinstance (aa (pv 0) (aa (cg (v:=.ref (a 3)) rfl a4 rfl) ae))) ae))))))
   (af (bg (cU plainAttrs_list PySem.F.slot_list_extend PySem.F.type_list_extend lE (pv 1) (aa (bi (aa (ar bH rfl T.isin boot_isinstance (aa (pv 0) (aa (cg (v:=.ref (a 4)) rfl a5 rfl) ae))) (aa (ar bH rfl T.isin boot_isinstance (aa (pv 0) (aa (cg (v:=.ref (a 5)) rfl a6 rfl) ae))) (aa (ar bH rfl T.isin boot_isinstance (aa (pv 0) (aa (cg (v:=.ref (a 6)) rfl a7 rfl) ae))) ae)))) ae)))
   (af (bg (cU plainAttrs_list PySem.F.slot_list_extend PySem.F.type_list_extend lE (pv 1) (aa (bi (aa (ar bH rfl T.isin boot_isinstance (aa (pv 0) (aa (cg (v:=.ref (a 7)) rfl a8 rfl) ae))) (aa (ar bH rfl T.isin boot_isinstance (aa (pv 0) (aa (cg (v:=.ref (a 8)) rfl a9 rfl) ae))) ae))) ae)))
   (af (ay (i:=2) qZ.nd rfl (Or.inl rfl) (bi (aa aG (aa aG (aa aG (aa aG (aa aG (aa aG (aa aG (aa aG (aa aG ae)))))))))))
   (af (aP (PW.pt (pw_or (am dg (cU plainAttrs_list PySem.F.slot_list_count PySem.F.type_list_count vg (pv 1) (aa eA ae)) ah (au _)) (pw_or1 (cN (cZ (ar bH rfl T.isin boot_isinstance (aa (pv 0) (aa (eL (v:=.ty "ValueError") rfl T.ValueError PyProof.Rows.Boot.«ValueError» rfl) ae))) (λ_=>rfl)))))) (ak (aw aG)) aA)
   (ak (aw (ax bX (pv 2) (cU plainAttrs_list PySem.F.slot_list_index PySem.F.type_list_index vh (pv 1) (aa eA ae)) (λ_ _=>rfl)))))))) ,?_⟩
  have e:∀D,D<9→kitOne K (.ref (a i)) (.ref (a D))=some (decide (i=D)):=c.is;refine⟨_,rfl,ea,a i,_,_,rfl,d,c.xc,.inr ⟨_,rfl,e 0 (by decide)⟩,_,rfl,ea,a i,_,_,rfl,d,c.xc,.inr ⟨_,rfl,e 1 (by decide)⟩,_,rfl,ea,a i,_,_,rfl,d,c.xc,.inr ⟨_,rfl,e 2 (by decide)⟩,_,rfl,ea,a i,_,_,rfl,d,c.xc,.inr ⟨_,rfl,e 3 (by decide)⟩,aq (show 4≤1000 by decide),λb C=>?_⟩;have l:=ag (o:=.lst [.bl (decide (i=0)),.bl (decide (i=1)),.bl (decide (i=2)),.bl (decide (i=3))]) C;have z:upd H b (.lst [.bl (decide (i=0)),.bl (decide (i=1)),.bl (decide (i=2)),.bl (decide (i=3))]) b=some (.lst [.bl (decide (i=0)),.bl (decide (i=1)),.bl (decide (i=2)),.bl (decide (i=3))]):=ac;generalize upd H b (.lst [.bl (decide (i=0)),.bl (decide (i=1)),.bl (decide (i=2)),.bl (decide (i=3))])=t at l z⊢;refine⟨_,rfl,.inl ⟨rfl,_,SqL.of z⟩,_,rfl,ea,a i,_,_,rfl,l _ _ d,c.xc,.inr ⟨_,rfl,e 4 (by decide)⟩,_,rfl,ea,a i,_,_,rfl,l _ _ d,c.xc,.inr ⟨_,rfl,e 5 (by decide)⟩,_,rfl,ea,a i,_,_,rfl,l _ _ d,c.xc,.inr ⟨_,rfl,e 6 (by decide)⟩,aq (show 3≤1000 by decide),λn N=>?_⟩;have b0:=l.trans (ag (o:=.lst [.bl (decide (i=4)),.bl (decide (i=5)),.bl (decide (i=6))]) N);refine⟨b,n,[.bl (decide (i=0)),.bl (decide (i=1)),.bl (decide (i=2)),.bl (decide (i=3))],_,rfl,rfl,aS N z,ac,aq (show 7≤1000 by decide),?_⟩;have r:Same H (upd (upd t n (.lst [.bl (decide (i=4)),.bl (decide (i=5)),.bl (decide (i=6))])) b (.lst ([.bl (decide (i=0)),.bl (decide (i=1)),.bl (decide (i=2)),.bl (decide (i=3))]++[.bl (decide (i=4)),.bl (decide (i=5)),.bl (decide (i=6))]))):=aK C b0;have B:(upd (upd t n (.lst [.bl (decide (i=4)),.bl (decide (i=5)),.bl (decide (i=6))])) b (.lst ([.bl (decide (i=0)),.bl (decide (i=1)),.bl (decide (i=2)),.bl (decide (i=3))]++[.bl (decide (i=4)),.bl (decide (i=5)),.bl (decide (i=6))]))) b=some (.lst [.bl (decide (i=0)),.bl (decide (i=1)),.bl (decide (i=2)),.bl (decide (i=3)),.bl (decide (i=4)),.bl (decide (i=5)),.bl (decide (i=6))]):=ac;generalize upd (upd t n (.lst [.bl (decide (i=4)),.bl (decide (i=5)),.bl (decide (i=6))])) b (.lst ([.bl (decide (i=0)),.bl (decide (i=1)),.bl (decide (i=2)),.bl (decide (i=3))]++[.bl (decide (i=4)),.bl (decide (i=5)),.bl (decide (i=6))]))=u at r B⊢;refine⟨_,rfl,.inl ⟨rfl,_,SqL.of B⟩,_,rfl,ea,a i,_,_,rfl,r _ _ d,c.xc,.inr ⟨_,rfl,e 7 (by decide)⟩,_,rfl,ea,a i,_,_,rfl,r _ _ d,c.xc,.inr ⟨_,rfl,e 8 (by decide)⟩,le2,λp Z=>?_⟩;have R:=ag (o:=.lst [.bl (decide (i=7)),.bl (decide (i=8))]) Z;refine⟨b,p,_,_,rfl,rfl,R _ _ B,ac,aq (show 9≤1000 by decide),?_⟩;have S:Same H (upd (upd u p (.lst [.bl (decide (i=7)),.bl (decide (i=8))])) b (.lst ([.bl (decide (i=0)),.bl (decide (i=1)),.bl (decide (i=2)),.bl (decide (i=3)),.bl (decide (i=4)),.bl (decide (i=5)),.bl (decide (i=6))]++[.bl (decide (i=7)),.bl (decide (i=8))]))):=aK C (r.trans R);have L:(upd (upd u p (.lst [.bl (decide (i=7)),.bl (decide (i=8))])) b (.lst ([.bl (decide (i=0)),.bl (decide (i=1)),.bl (decide (i=2)),.bl (decide (i=3)),.bl (decide (i=4)),.bl (decide (i=5)),.bl (decide (i=6))]++[.bl (decide (i=7)),.bl (decide (i=8))]))) b=some (.lst ((bs9 i).map V.bl)):=ac;generalize upd (upd u p (.lst [.bl (decide (i=7)),.bl (decide (i=8))])) b (.lst ([.bl (decide (i=0)),.bl (decide (i=1)),.bl (decide (i=2)),.bl (decide (i=3)),.bl (decide (i=4)),.bl (decide (i=5)),.bl (decide (i=6))]++[.bl (decide (i=7)),.bl (decide (i=8))]))=y at S L⊢;refine⟨aq (show 9≤1000 by decide),λk O=>?_⟩;have G:=S.trans (ag (o:=.lst (W9.map V.str)) O);have j:=aS (o:=.lst (W9.map V.str)) O L;have M:upd y k (.lst (W9.map V.str)) k=some (.lst (W9.map V.str)):=ac;show gm _ _ _ _ (upd y k (.lst (W9.map V.str)));generalize upd y k (.lst (W9.map V.str))=b1 at G j M⊢;obtain⟨U,X,Y⟩:=ya c.lt;refine⟨_,rfl,.inl ⟨rfl,_,SqL.of j⟩,b,bs9 i,rfl,rfl,j,rfl,_,rfl,?_⟩;rw[U];refine aC ⟨_,rfl,ea,a i,_,_,rfl,G _ _ d,c.xc,.inl ⟨_,rfl,c.val⟩,_,rfl,aC ?_⟩;refine⟨_,rfl,_,rfl,.inl ⟨rfl,_,SqL.of j⟩,b,i,bs9 i,rfl,rfl,j,(show 9≤1000 by decide),X,Y,k,_,_,_,rfl,rfl,SqL.of M,eO (v:=.str x) ?_,q _ G⟩;rw[getElem?_map,a0];rfl
end
theorem jr{n k:Nat}(h:k<n):ixN n (k:Int)=some k:=by
 unfold ixN;rw[if_pos (by omega),if_pos (by omega),toNat_natCast]
section
variable{P:Program}{w:World}{K:PySem.W.Frag}{mg:Str→Option Value}{base:Heap}
def nO(C:Addr):Sp:=λvs H Q _=>∃p kl ml t z m dn ks ms,vs=[.ref p]∧WAt C H p kl ml t z m dn ks ms∧ms.length≤100∧∀H',WAt C H' p kl ml t z m dn ks (ms++[dn])→Off [ml] H H'→bQ H H'→Q (.int ms.length) H'
theorem Ae:FnScope ["self"] ["self"] (aj dX):=fsc
theorem WAt.marks{C:Addr}{a:Hp}{p i ml t:Addr}{z:ZN}{m f:Int}{ks:List (Addr×ZR)}{l ns:List Int}(W:WAt C a p i ml t z m f ks l):WAt C (upd a ml (.lst (ns.map V.int))) p i ml t z m f ks ns∧Off [ml] a (upd a ml (.lst (ns.map V.int)))∧bQ a (upd a ml (.lst (ns.map V.int))):=by
 have d:=fH (ys:=ns.map V.int) W.mks;have c:Off [ml] a (upd a ml (.lst (ns.map V.int))):=λb o e j=>by rw[ai (by simpa using j)];exact e
 obtain⟨dx,g⟩:=W.ob;refine⟨⟨⟨dx,c _ _ g ?_⟩,W.tr.ts d,c _ _ W.kp (by simpa using W.ne),ac,W.ne,λx k=>(W.ch x k).ts d⟩,c,d⟩;have:p≠ml:=rj g W.mks (by intro h;cases h);simpa using this
theorem yc{f C:Addr}{b:FuncData}(F:Fun K "reader" "Watch.reader" dX f b)(d:Txt mg)(T:WCls K mg C):FnOk P w K mg base CX0 1 f b ["self"] (nO C):=by
 refine F.ok Ae (λvs H Q E h=>?_) (λcdv A outer s H vs Q E n h=>?_)
 ·obtain⟨p,kl,ml,t,z,m,dn,ks,ms,rfl,_⟩:=h;rfl
 ·obtain⟨p,kl,ml,t,z,m,dn,ks,ms,rfl,W,l,q⟩:=h;obtain⟨dx,c⟩:=W.ob;refine⟨_,af (bg (cU plainAttrs_list PySem.F.slot_list_append PySem.F.type_list_append bn (ci (pv 0) rfl) (aa (ci (pv 0) rfl) ae)))
   (ak (aw (aD mn (ar aH rfl d.len boot_len (aa (ci (pv 0) rfl) ae)) ah))),?_⟩
  refine⟨_,rfl,p,C,dx,_,_,rfl,c,T.cl,T.nS,dv,.inl ⟨rfl,_,SqL.of W.mks⟩,_,rfl,p,C,dx,_,_,rfl,c,T.cl,T.nD,eK,ml,_,_,rfl,rfl,W.mks,aB (by rw[length_map];omega),?_⟩;have g:ms.map V.int++[V.int dn]=(ms++[dn]).map V.int:=by rw[map_append];rfl
  rw[g];obtain⟨a,j,k⟩:=W.marks (ns:=ms++[dn]);obtain⟨e,i⟩:=a.ob;refine⟨_,rfl,p,C,e,_,_,rfl,i,T.cl,T.nS,dv,ml,_,rfl,.inl (SqL.of a.mks),_,_,rfl,rfl,?_⟩;dsimp only;rw[show(((ms++[dn]).map V.int).length:Int)-1=(ms.length:Int)by rw[length_map,length_append];show((ms.length+1:Nat):Int)-1=_;omega];exact q _ a j k
def gl(C CR:Addr):Sp:=λvs H Q E=>∃p kl ml t z m dn ks ms r a M,vs=[.ref p,.int r]∧WAt C H p kl ml t z m dn ks ms∧Hist ks a M∧ks.length≤100∧-60≤r∧r≤60∧dn≤60∧(∀x∈ms,0≤x∧x≤dn) ∧
 ((r<0∨(ms.length:Int)≤r)→∀H',Same H H'→E (.ref CR) none H') ∧
 ∀(k:Nat)(b:Int),r=k→ms[k]?=some b →
  ((ks.length:Int)-(dn-b)<0→∀q H',WAt C H' p kl ml t z m dn ks (ms.set k dn)→Off [ml] H H'→bQ H H'→H' q=some (.tup [.str "tree",.ref t])→Q (.ref q) H') ∧
  ∀d:Nat,(ks.length:Int)-(dn-b)=d→∀q c es H',WAt C H' p kl ml t z m dn ks (ms.set k dn)→Off [ml] H H'→bQ H H'→ChgAt H' c es→TW.Chg (a d) (a ks.length) (bo es)→H' q=some (.tup [.str "change",.ref c])→Q (.ref q) H'
theorem yC:FnScope ["self","number","change"] ["self","number"] (aj fu):=fsc
theorem wq{f C a1 CR N:Addr}{O R:FuncData}(F:Fun K "read" "Watch.read" fu f O)(a4:Txt mg)(T:WCls K mg C)(a3:gw "NoReader" mg base CR)(a2:FnOk P w K mg base (CX1 P w) 3 N R ["self","mark"] (kX C a1))(b2:Meth K C "since" N)(a5:bf K R ["self","mark"] []):FnOk P w K mg base (CX1 P w) 4 f O ["self","number"] (gl C CR):=by
 refine F.okX yC (λvs H Q E h=>?_) (λcdv A outer s H vs Q E X h=>?_)
 ·obtain⟨p,kl,ml,t,z,m,dn,ks,ms,r,J,M,rfl,_⟩:=h;rfl
 ·refine⟨_,af (aP (PW.pt (pw_or (am gn (pv 1) ah (au _)) (pw_or1 (am AG (pv 1) (ar aH rfl a4.len boot_len (aa (ci (pv 0) rfl) ae)) (au _))))) (ak (cy (E:=E) bv a3 X.hd rfl (we (pv 1) (by decide +kernel)))) aA)
   (af (ay (i:=2) yC.nd rfl (Or.inl rfl) (mt (E:=E) (pv 0) T.cl b2 a2 X a5 .nil (cW bv) (aa (ax bX (ci (pv 0) rfl) (pv 1) (λ_ _=>rfl)) ae)))
   (af (md (ci (pv 0) rfl) (ma (ci (pv 0) rfl) (pv 1) gU))
   (af (aP (am fe (pv 2) cn (au _)) (ak (aw (be (aa aG (aa (ci (pv 0) rfl) ae))))) aA)
   (ak (aw (be (aa aG (aa (pv 2) ae)))))))),?_⟩
  obtain⟨p,kl,ml,t,z,m,dn,ks,ms,r,J,M,rfl,W,hi,a9,Y,Z,b7,b0,a0,b6⟩:=h;obtain⟨dx,n⟩:=W.ob;refine⟨_,rfl,_,_,rfl,rfl,_,rfl,?_⟩
  by_cases x:r<0
  ·rw[decide_eq_true x];refine aQ (aQ ?_);exact⟨_,rfl,r,rfl,Y,Z,λy=>⟨(show 1≤sizeLine from aq (by decide)),a0 (.inl x) H (Same.refl _)⟩⟩
  rw[decide_eq_false x];refine aC ⟨_,rfl,_,rfl,p,C,dx,_,_,rfl,n,T.cl,T.nS,dv,ml,_,rfl,.inl (SqL.of W.mks),_,_,rfl,rfl,_,rfl,?_⟩;rw[length_map]
  by_cases h1:(ms.length:Int)≤r
  ·rw[decide_eq_true h1];refine aQ ?_;exact⟨_,rfl,r,rfl,Y,Z,λy=>⟨(show 1≤sizeLine from aq (by decide)),a0 (.inr h1) H (Same.refl _)⟩⟩
  rw[decide_eq_false h1];refine aC ?_;obtain⟨k,rfl⟩:∃k:Nat,r=k:=⟨r.toNat,by omega⟩;have v:k<ms.length:=by omega
  have S:ms[k]?=some ms[k]:=getElem?_eq_getElem v;obtain⟨b8,b9⟩:=b0 _ (getElem_mem v);obtain⟨b5,b4⟩:=b6 k ms[k] rfl S;have at1:atI (ms.map V.int) (k:Int)=some (.int ms[k]):=eO (by rw[getElem?_map,S];rfl);have L:(ms.map V.int).set k (.int dn)=(ms.set k dn).map V.int:=by rw[map_set]
  have b3:(flW t m dn kl ml).lookup ("since":Str)=none:=iQ (by decide +kernel) (by decide +kernel) (by decide +kernel) (by decide +kernel) (by decide +kernel);refine⟨_,rfl,p,dx,_,rfl,n,b3,_,rfl,p,C,dx,_,_,rfl,n,T.cl,T.nS,dv,_,rfl,ml,_,_,_,rfl,rfl,SqL.of W.mks,at1,p,kl,ml,t,z,m,dn,ks,ms,ms[k],J,M,rfl,W,hi,a9,by omega,by omega,λh=>(by omega),λ_ _ D H1 a=>?_,λb1 _ _ D c es H1 a a7 a8=>?_⟩
  ·have l:=W.same a;have q:=a _ _ n;refine⟨_,rfl,p,C,dx,_,_,rfl,q,T.cl,T.nD,eK,_,rfl,p,C,dx,_,_,rfl,q,T.cl,T.nS,dv,_,rfl,ml,_,_,k,rfl,rfl,l.mks,jr (by rw[length_map];exact v),?_⟩;rw[L];obtain⟨g,u,j⟩:=l.marks (ns:=ms.set k dn);obtain⟨a6,U⟩:=g.ob;generalize upd H1 ml (.lst ((ms.set k dn).map V.int))=H2 at g u j U⊢;refine⟨_,rfl,rfl,_,rfl,aQ ⟨_,rfl,p,C,a6,_,_,rfl,U,T.cl,T.nT,iq,le2,λI G=>?_⟩⟩;have d:=ag (o:=.tup [.str "tree",.ref t]) G;exact b5 D I _ (g.same d) (λb o e B=>d _ _ (u _ _ (a _ _ e) B)) (((kH a).trans j).trans (kH d)) ac
  ·have l:=W.same a;have q:=a _ _ n;refine⟨_,rfl,p,C,dx,_,_,rfl,q,T.cl,T.nD,eK,_,rfl,p,C,dx,_,_,rfl,q,T.cl,T.nS,dv,_,rfl,ml,_,_,k,rfl,rfl,l.mks,jr (by rw[length_map];exact v),?_⟩;rw[L];obtain⟨g,u,j⟩:=l.marks (ns:=ms.set k dn);generalize upd H1 ml (.lst ((ms.set k dn).map V.int))=H2 at g u j⊢;refine⟨_,rfl,rfl,_,rfl,aC ⟨_,rfl,le2,λI G=>?_⟩⟩;have d:=ag (o:=.tup [.str "change",.ref c]) G;exact b4 b1 D I c es _ (g.same d) (λb o e B=>d _ _ (u _ _ (a _ _ e) B)) (((kH a).trans j).trans (kH d)) ((a7.ts j).same d) a8 ac
def jt(C:Addr):Sp:=λvs H Q _=>∃p kl ml t z m dn ks ms r a M,vs=[.ref p,.int r]∧WAt C H p kl ml t z m dn ks ms∧Hist ks a M∧ks.length≤100∧-60≤r∧r≤60∧dn≤60∧(∀x∈ms,0≤x∧x≤dn) ∧
 ((r<0∨(ms.length:Int)≤r)→∀H',Same H H'→Q (.str "no reader") H') ∧
 ∀(k:Nat)(b:Int),r=k→ms[k]?=some b →
  ((ks.length:Int)-(dn-b)<0→∀q H',WAt C H' p kl ml t z m dn ks (ms.set k dn)→Off [ml] H H'→bQ H H'→H' q=some (.tup [.str "tree",.ref t])→Q (.ref q) H') ∧
  ∀d:Nat,(ks.length:Int)-(dn-b)=d→∀q c es H',WAt C H' p kl ml t z m dn ks (ms.set k dn)→Off [ml] H H'→bQ H H'→ChgAt H' c es→TW.Chg (a d) (a ks.length) (bo es)→H' q=some (.tup [.str "change",.ref c])→Q (.ref q) H'
theorem sD:FnScope ["_law_watch","_law_number","_law_kept","_law_answer","e"] ["_law_watch","_law_number"] (aj gQ):=fsc
theorem Af{f D C b:Addr}{a:Nat→Addr}{G I:FuncData}(F:Fun K "_law_read" "_law_read" gQ f G)(T:WCls K mg C)(u:Clss9 mg K a b)(v:One9 K a b 5)(R:FnOk P w K mg base (CX1 P w) 4 D I ["self","number"] (gl C (a 5)))(a9:Meth K C "read" D)(U:bf K I ["self","number"] [])(O:Has P w K mg base 1 "_law_word" ["_law_kept"] (qY a b K)):FnOk P w K mg base CX0 5 f G ["_law_watch","_law_number"] (jt C):=by
 obtain⟨b3,b4,S,b0,a8,V⟩:=O;refine F.ok sD (λvs H Q E h=>?_) (λcdv A outer s H vs Q E J h=>?_)
 ·obtain⟨p,kl,ml,t,z,m,dn,ks,ms,r,x,M,rfl,_⟩:=h;rfl
 ·have a5:Room 1 _:=J.mono (by decide);refine⟨_,af (ay (i:=2) sD.nd rfl (Or.inl rfl) cn) (af (ay (i:=3) sD.nd rfl (Or.inl rfl) cn)
   (af (zu ⟨λ_ _ h=>h,rfl,rfl⟩ (i:=3) (j:=2) (l:=4) (T:=b) sD.nd rfl rfl rfl rfl rfl rfl (xX (λ_ _ h=>h) (pv 0) T.cl a9 R J U (aa (pv 1) ae)) rfl u.tre u.base)
   (af (aP (am fe (pv 2) cn (au _)) (ak (aw (pv 3))) aA)
   (ak (aw (al S a5 rfl b0 a8 V .nil aM (aa (pv 2) ae))))))),?_⟩
  obtain⟨p,kl,ml,t,z,m,dn,ks,ms,r,x,M,rfl,W,hi,a1,a6,a7,Z,a2,b1,N⟩:=h;obtain⟨dx,a4⟩:=W.ob;refine⟨_,rfl,p,dx,_,rfl,a4,iQ (by decide +kernel) (by decide +kernel) (by decide +kernel) (by decide +kernel) (by decide +kernel),_,rfl,p,kl,ml,t,z,m,dn,ks,ms,r,x,M,rfl,W,hi,a1,a6,a7,Z,a2,λa3 H' s'=>⟨_,rfl,v.sub,λea a0=>?_⟩,λk L y B=>⟨λe o H' d n q g=>?_,λj e o c es H' d n q X Y g=>?_⟩⟩
  ·exact⟨_,rfl,rfl,_,rfl,aC ⟨_,rfl,ea,5,"no reader",rfl,v,ac,rfl,λH2 b2=>b1 a3 H2 ((s'.trans (ag a0)).trans b2)⟩⟩
  ·exact⟨_,rfl,rfl,_,rfl,aQ ⟨_,rfl,(N k L y B).1 e o H' d n q g⟩⟩
  ·exact⟨_,rfl,rfl,_,rfl,aQ ⟨_,rfl,(N k L y B).2 j e o c es H' d n q X Y g⟩⟩
def rb:Sp:=λvs H Q _=>∃t zs,vs=[.ref t]∧Tre H t zs∧∀d a H',Same H H'→H d=none→Book H' d a zs→H' d=some (.dK (aV a))→Q (.ref d) H'
theorem Ag:FnScope ["_law_tree_here"] ["_law_tree_here"] (aj vJ):=fsc
theorem yd{f:Addr}{O:FuncData}(F:Fun K "_law_book" "_law_book" vJ f O)(T:Txt mg):FnOk P w K mg base CX0 1 f O ["_law_tree_here"] rb:=by
 refine F.ok Ag (λvs H Q E h=>?_) (λcdv A outer s H vs Q E e5 h=>?_)
 ·obtain⟨t,zs,rfl,_⟩:=h;rfl
 ·obtain⟨t,zs,rfl,G,k⟩:=h;have U:=bY G.tr;have B:=G.len;have D:=G.tup;have c0:=G.nod;refine⟨_,ak (aw (aR (dI rfl) rfl T.dict boot_dict (aa (eD (N:=["_law_node"]) (k:=1) (js:=[]) (g:=bu 0) rfl (cH rfl (by decide +kernel) (by decide +kernel) (by decide +kernel)) rfl (λi e6 x h=>by simp at h)
   (cE (pv 0)) (λs H fp=>aN (i:=0) (show(["_law_node"]:List Str).Nodup by decide +kernel) rfl (Or.inl rfl) (Or.inr rfl))
   (λs H fp=>be (aa (ax (r:=dR K) av (pv 0) ah (λ_ _=>rfl)) (aa (cF (r:=uu K) ff (pv 0) (cz ah) fX) ae)))) ae))),?_⟩
  refine⟨_,rfl,t,rfl,⟨_,SqT.of D⟩,λp c4=>?_⟩;refine qx (fr:=[]) zs.length (by omega) c4 rfl (λi y H'=>∃q t' z,zs[i]?=some z∧y=.ref q∧q≠p∧t'≠p∧H' q=some (.tup [.int z.2.num,.ref t'])∧H' t'=some (.tup (aO z.2))) (λi y H1 H2 h ex=>?_) (λi H' hi j=>?_) (λH' j=>?_) ?_ (λi H' x H2 hi j X J=>?_) (λys H' j W c3 c7=>?_)
  ·obtain⟨q,t',z,n,C,u,L,b3,b4⟩:=h;exact⟨q,t',z,n,C,u,L,ex q _ u b3,ex t' _ L b4⟩
  ·exact⟨_,_,SqT.of (j _ _ D),dD (getElem?_eq_getElem hi)⟩
  ·exact⟨_,SqT.of (j _ _ D),by rw[bd];exact le_refl _⟩
  ·rintro _ _ _ _ m ⟨d8,a3,d6,xs,d0,d9,a5,a6,a7,a8,e0,a4,d1,a9,a2,e1,b0,b1,b2,q⟩;refine⟨d8,a3,d6,xs,d0,d9,a5,a6,a7,a8,e0,a4,d1,a9,a2,e1,b0,b1,b2,λl B=>?_⟩;obtain⟨c9,d7⟩:=q l B;exact⟨c9,λd3 c2=>m _ _ (d7 d3 c2)⟩
  ·obtain⟨rfl,c6⟩:=J;obtain⟨z,R,rfl⟩:=ck (c6 _ (SqT.of (j _ _ D)));have d5:=mem_of_getElem? R;have Z:=j _ _ (c0 z d5);have b5:dQ (vals z.2) (some 1) none=aO z.2:=rfl;refine⟨rfl,_,rfl,z.1,_,_,_,rfl,rfl,SqT.of Z,at0 z.2,_,rfl,_,rfl,z.1,_,rfl,SqT.of Z,(by intro h;exact absurd h.1 (show ¬HT.sIx 4 0 (some 1)=0 by decide)),λt' Y=>?_⟩;rw[b5];have a0:=ag (o:=.tup (aO z.2)) Y;have c5:∃ys,upd H2 t' (.tup (aO z.2)) p=some (.lst ys):=let⟨ys,e⟩:=X;⟨ys,a0 _ _ e⟩;refine⟨le2,λq I=>⟨a0.trans (ag I),q,t',z,R,rfl,dA c5 I,dA X Y,ac,aS I ac⟩⟩
  ·obtain⟨c,n,C,u⟩:∃c:List ((Addr×Addr)×(Addr×Nd)),c.map (·.2)=zs∧ys=(c.map (·.1.1)).map V.ref∧∀a∈c,H' a.1.1=some (.tup [.int a.2.2.num,.ref a.1.2])∧H' a.1.2=some (.tup (aO a.2.2)):=by
    clear W;have d4:∀(ys:List V)(xs:ZN),ys.length=xs.length→(∀(i:Nat) y,ys[i]?=some y→∃q t' z,xs[i]?=some z∧y=.ref q∧q≠p∧t'≠p∧H' q=some (.tup [.int z.2.num,.ref t'])∧H' t'=some (.tup (aO z.2))) →
      ∃c:List ((Addr×Addr)×(Addr×Nd)),c.map (·.2)=xs∧ys=(c.map (·.1.1)).map V.ref∧∀a∈c,H' a.1.1=some (.tup [.int a.2.2.num,.ref a.1.2])∧H' a.1.2=some (.tup (aO a.2.2)):=by
     intro ys
     induction ys with
     |nil =>
      intro xs B _;have:xs=[]:=length_eq_zero_iff.mp B.symm;subst this;exact⟨[],rfl,rfl,by simp⟩
     |cons y ys d2 =>
      intro xs B h;cases xs with
      |nil=>simp at B
      |cons x xs =>
       obtain⟨c,n,C,u⟩:=d2 xs (by simpa using B) λi y J=>by simpa using h (i+1) y (by simpa using J)
       obtain⟨q,t',z,b6,b7,e2,e3,b8,b9⟩:=h 0 y rfl;have:x=z:=by simpa using b6
       subst this;refine⟨((q,t'),x)::c,by simp[n],by simp[C,b7],λa v=>?_⟩;rcases mem_cons.mp v with rfl|v
       ·exact⟨b8,b9⟩
       ·exact u a v
    exact d4 ys zs c3 c7
   have e4:c.length=zs.length:=by rw[←n,length_map]
   refine⟨p,c.map λa=>(a.1.1,(Sum.inl a.2.2.num:Key),V.ref a.1.2),rfl,?_,?_,?_,?_,λd S=>?_⟩
   ·rw[W,C,map_map,map_map,map_map];rfl
   ·intro z c8;obtain⟨a,v,rfl⟩:=mem_map.mp c8;exact(u a v).1
   ·rw[length_map];omega
   ·rw[map_map];have:(c.map ((λx:Addr×Key×V=>x.2.1)∘λa=>(a.1.1,(Sum.inl a.2.2.num:Key),V.ref a.1.2)))=((nds zs).map (·.num)).map (Sum.inl:Int→Key):=by
     rw[←n];unfold nds;simp only[map_map];rfl
    rw[this];unfold Nodup at U⊢;rw[pairwise_map];exact U.imp λh e=>h (by injection e)
   ·have a1:=ag (o:=.dK ((c.map λa=>(a.1.1,(Sum.inl a.2.2.num:Key),V.ref a.1.2)).map (·.2))) S;have M:upd H' d (.dK ((c.map λa=>(a.1.1,(Sum.inl a.2.2.num:Key),V.ref a.1.2)).map (·.2))) d=some (.dK (aV (c.map λa=>(a.1.2,a.2)))):=by
     rw[ac];refine congrArg (λx=>some (HO.dK x)) ?_;unfold aV;simp only[map_map];rfl
    refine k d (c.map λa=>(a.1.2,a.2)) _ (j.trans a1) (j.free S) ⟨.inl M,by rw[map_map];exact n,λa v=>?_⟩ M;obtain⟨b,c1,rfl⟩:=mem_map.mp v;exact a1 _ _ (u b c1).2
def kY:Sp:=λvs H Q _=>∃d k g a zs p,vs=[.ref d,.int k,.int g]∧Book H d a zs∧TW.Tree1 (nds zs)∧TW.PathTo (nds zs) k p∧1≤g∧∀b,(b=true↔TW.Und (nds zs) g k)→Q (.bl b) H
theorem yD:FnScope ["_law_book_here","_law_number","_law_goal"] ["_law_book_here","_law_number","_law_goal"] (aj qH):=fsc
theorem Ah{f:Addr}{r:FuncData}(F:Fun K "_law_under" "_law_under" qH f r):FnOk P w K mg base CX0 1 f r ["_law_book_here","_law_number","_law_goal"] kY:=by
 refine F.ok yD (λvs H Q E h=>?_) (λcdv A outer s H vs Q E Y h=>?_)
 ·obtain⟨d,k,g,D,zs,p,rfl,_⟩:=h;rfl
 ·obtain⟨d,k,g,D,zs,p,rfl,I,j,X,a5,q⟩:=h;have W:=bY j;refine⟨_,af (nZ PassesOwn.never (PW.pt (pw_and (am dg (pv 1) ah (au _)) (pw_and1 (am dg (pv 1) (pv 2) (au _)))))
    (ak (ay (i:=1) yD.nd rfl (Or.inl rfl) (ax av (cS (bh Y) (pv 0) (pv 1) (λ_ _=>rfl)) ah (λ_ _=>rfl)))))
   (ak (aw (eM cB (pv 1) (pv 2) (au _)))),?_⟩
  refine om (λσ H'=>∃a o,σ=[some (.ref d),some (.int a),some (.int g)]∧TW.PathTo (nds zs) a o∧(TW.Und (nds zs) g k↔TW.Und (nds zs) g a)∧H'=H)
   (λσ H'=>match σ with | [_,some (.int k),_]=>vw (nds zs) k | _=>0) ⟨k,p,rfl,X,Iff.rfl,rfl⟩ (λσ H' h=>?_) ?_
  ·obtain⟨a,o,rfl,t,x,rfl⟩:=h;have B:∀b:Bool,(b=true↔TW.Und (nds zs) g a)→Q (.bl b) H':=λb S=>q b (S.trans x.symm);refine⟨_,rfl,rfl,_,rfl,?_⟩
   by_cases l:a=0
   ·have c:decide (V.int a=V.int 0)=true:=by simp[l]
    rw[c];refine aC (aC ⟨_,rfl,_,rfl,rfl,B _ ?_⟩);rw[decide_eq_true_eq];constructor
    ·intro e;injection e with e;omega
    ·intro Z;have:=Z.zero j l;omega
   ·have c:decide (V.int a=V.int 0)=false:=by simp[l]
    rw[c];refine aQ ⟨_,rfl,_,rfl,rfl,_,rfl,?_⟩
    by_cases n:a=g
    ·have c:decide (V.int a=V.int g)=true:=by simp[n]
     rw[c];refine aC ⟨_,rfl,_,rfl,rfl,B _ ?_⟩;rw[c];constructor
     ·intro _;rw[n];exact .here
     ·intro _;rfl
    ·have c:decide (V.int a=V.int g)=false:=by simp[n]
     rw[c];refine aQ ?_;obtain⟨z,y,J,a0,L,u⟩:=xE j t l;subst J;obtain⟨b,T,U⟩:=I.get W y;refine⟨_,rfl,_,rfl,d,_,rfl,T,b,_,_,_,rfl,rfl,SqT.of U,BM z.2,?_⟩;have C:z.2∈nds zs:=mem_map.mpr ⟨z,y,rfl⟩;refine⟨⟨z.2.par,a0,rfl,u,x.trans ⟨λh=>h.inv j C rfl n,λh=>.up C h⟩,rfl⟩,?_⟩;show vw (nds zs) z.2.par<vw (nds zs) z.2.num;rw[sk j u,sk j t,L];simp
  ·rintro σ H1 a3 a4 m ⟨v,e,h2,b,M,q⟩;refine⟨v,e,h2,b,M,?_⟩;cases b with
   |false=>exact m _ _ q
   |true =>
    obtain⟨a1,O,a2,R,h3,G,N,o⟩:=q;exact⟨a1,O,a2,R,h3,G,N,m _ _ o⟩
end
def ldS(i:Nat):Stmt:=(br cu).getD i (.Pass ⟨0,0,0,0⟩)
def DN:List Str:=["_law_tree_here","_law_deed_here","_law_book_here","_law_number","_law_parent"]
theorem ju:FnScope DN ["_law_tree_here","_law_deed_here"] (aj cu):=fsc
abbrev DX(P:Program)(w:World)(K:PySem.W.Frag)(mg:Str→Option Value)(base:Heap)(f:Addr)(cdv:Value)(A:Around)(outer:List Env)(s:Shared)(H:Hp)(E:XK):Cx:=(gF CX0 P w K mg base DN "_law_done" (aj cu) f cdv A outer s H E).nox
section
variable{P:Program}{w:World}{K:PySem.W.Frag}{mg:Str→Option Value}{base:Heap}{f:Addr}{cdv:Value}{A:Around}{outer:List Env}{s:Shared}{H0:Hp}{E:XK}
theorem Ai(T:Txt mg)(a6:Room 1 (A.deeper (PyProof.Rows.envOfC "_law_done" (aj cu) s.heap.objs.size f cdv))):
  ∃t,PS (DX P w K mg base f cdv A outer s H0 E) (ldS 6) t∧∀(l:Ends)(H:Hp)(σ:St)(O Q R U:Option V)(d:Addr)(bs:List (Addr×Nd)),σ=[O,Q,some (.ref d),R,U]→H d=some (.dK (bw bs))→(∀b∈bs,H b.1=some (.tup (aO b.2)))→(bs.map (·.2.num)).Nodup→bs.length≤60 →
   (∀o us t' H',Same (upd H d (.frz o (.dK (bw bs)))) H'→H' t'=some (.tup (aY us))→At H' us→(nds us).Perm (bs.map (·.2))→TW.ce (nds us)→l.rt (.ref t') H')→t l σ H:=by
 refine⟨_,aw (aR bj rfl T.tuple rfl (aa (ar cG rfl T.sorted boot_sorted (aa (eD (N:=["_law_one","_law_book_here"]) (cl:=[("_law_book_here",s.heap.objs.size+1)]) (k:=1) (js:=[2]) (g:=bu 0) rfl
    (LcOk.mk' ["_law_book_here"] rfl rfl (by decide +kernel) (by decide +kernel) ?hcl rfl (by decide +kernel)) rfl ?hj (yz (pv 2)) (λs H fp=>aN (i:=0) (show(["_law_one","_law_book_here"]:List Str).Nodup by decide +kernel) rfl (Or.inl rfl) (Or.inr rfl))
    (λs H fp=>aD (r:=uv K) gT (be (aa (pv 0) ae)) (cS (bh a6) (pv 1) (pv 0) (λ_ _=>rfl)))) ae)) ae)),?_⟩
 case hcl =>
  intro y u;rcases mem_cons.mp u with e|u
  ·rw[e];rfl
  ·cases u
 case hj =>
  intro i b3 x h1 h2
  match i,h1,h2 with
  |0,h1,h2 =>
   cases h1;cases h2;exact⟨rfl,Or.inr (Or.inl rfl),(show((aj cu).names.lookup ("_law_book_here":Str)≠some NameKind.local)by decide +kernel),by first|exact Or.inl rfl|exact Or.inr rfl⟩
  |i+1,h1,h2=>simp at h1
 rintro l H _ O Q R U d bs rfl F C G b2 q;refine⟨_,rfl,d,_,rfl,F,λo p I=>?_⟩;have D:∀b∈bs,upd H d (.frz o (.dK (bw bs))) b.1=some (.tup (aO b.2)):=λb j=>by
  rw[ai]
  ·exact C b j
  ·intro e;have:=C b j;rw[e,F]at this;cases this
 have n:upd H d (.frz o (.dK (bw bs))) d=some (.frz o (.dK (bw bs))):=ac;have M:∀us t' H',Same (upd H d (.frz o (.dK (bw bs)))) H'→H' t'=some (.tup (aY us))→At H' us→(nds us).Perm (bs.map (·.2))→TW.ce (nds us)→l.rt (.ref t') H':=q o;generalize upd H d (.frz o (.dK (bw bs)))=H1 at D n M I⊢;rw[kh];refine dJ (fr:=[some (.ref d)]) bs (λb=>V.int b.2.num) (by omega) I (pk n) rfl (λb y H'=>∃q,y=.ref q∧q≠p∧H' q=some (.tup (vals b.2))) (λb y H H' ⟨q,e,L,h⟩ ex=>⟨q,e,L,ex q _ L h⟩) (λb H' k j m a3 a1=>?_) (λys H' m a2 b0=>?_)
 ·refine⟨_,rfl,(show 1≤sizeLine from aq (by decide)),λc a0=>?_⟩;have a:=ag (o:=.tup [.int b.2.num]) a0;refine⟨_,rfl,_,rfl,d,_,rfl,.inl ⟨bw bs,Sum.inl b.2.num,.inr ⟨o,a _ _ (m _ _ n)⟩,rfl,(iN G j).symm⟩,c,b.1,_,_,rfl,rfl,SqT.of ac,SqT.of (a _ _ (m _ _ (D b j))),by simp,(show 4≤sizeLine from aq (by decide)),λh=>absurd h (cons_ne_nil _ _),λ_ q J=>?_⟩;have a4:∃ys,upd H' c (.tup [.int b.2.num]) p=some (.lst ys):=let⟨ys,e⟩:=a3;⟨ys,a _ _ e⟩;exact a1 _ _ (a.trans (ag J)) ⟨q,rfl,dA a4 J,ac⟩
 ·obtain⟨cs,v,W,X⟩:=dt (val:=V.ref) (S:=λ(b:Addr×Nd) (q:Addr)=>H' q=some (.tup (vals b.2))) b0 (λb y _ ⟨q,e,_,h⟩=>⟨q,e,h⟩);have Y:ys=aY (cs.map λx=>(x.2,x.1.2)):=by rw[W,←cr,map_map];rfl
  have B:nds (cs.map λx=>(x.2,x.1.2))=bs.map (·.2):=by rw[←v];unfold nds;rw[map_map,map_map];rfl
  have hcl:cs.length=bs.length:=by rw[←v,length_map]
  refine iZ (zs:=cs.map λx=>(x.2,x.1.2)) (.inl (SqL.of (by rw[a2,Y]))) (λz b1=>?_) ?_ (by rw[length_map];omega) (λus t' H2 a a8 Z a5 a7=>?_)
  ·obtain⟨x,a9,rfl⟩:=mem_map.mp b1;exact X x a9
  ·rw[B,map_map];exact G
  ·refine M us t' H2 (m.trans a) a8 Z ?_ a7;have:(nds us).Perm (nds (cs.map λx=>(x.2,x.1.2))):=a5.map _;rw[B]at this;exact this
theorem ye(T:Txt mg)(a4:Room 1 (A.deeper (PyProof.Rows.envOfC "_law_done" (aj cu) s.heap.objs.size f cdv)))(M:Has P w K mg base 1 "_law_under" ["_law_book_here","_law_number","_law_goal"] kY):
  ∃t,PS (DX P w K mg base f cdv A outer s H0 E) (ldS 4) t∧∀(v:Ends)(H:Hp)(σ:St)(a c d:Addr)(dd:TW.Deed Str)(n:Int)(D:List (Addr×(Addr×Nd)))(zs:ZN),σ=[some (.ref a),some (.ref c),some (.ref d),some (.int n),none]→Tre H a zs→H c=some (.tup (cf dd))→Book H d D zs→1≤n →
   ((∃k,dd=.drop k)→∀us t' H' (g:Nd→Bool),Same H H'→H' t'=some (.tup (aY us))→At H' us→nds us=(nds zs).filter g→(∀m∈nds zs,g m=true↔¬TW.Und (nds zs) n m.num)→v.rt (.ref t') H')→((¬∃k,dd=.drop k)→v.nx σ H)→t v σ H:=by
 obtain⟨b0,b1,O,a7,a6,Q⟩:=M;refine⟨_,aP (am cB (ax av (pv 1) ah (λ_ _=>rfl)) aG (au _)) (ak (aw (aR bj rfl T.tuple rfl (aa (iC (N:=["_law_node","_law_book_here","_law_number"]) (cl:=[("_law_number",s.heap.objs.size+2),("_law_book_here",s.heap.objs.size+1)]) (k:=1) (js:=[2,3]) (g:=bu 0) rfl
    (LcOk.mk' ["_law_number","_law_book_here"] rfl rfl (by decide +kernel) (by decide +kernel) ?hcl rfl (by decide +kernel)) rfl ?hj (cE (pv 0)) (λs H fp=>aN (i:=0) (show(["_law_node","_law_book_here","_law_number"]:List Str).Nodup by decide +kernel) rfl (Or.inl rfl) (Or.inr rfl))
    (λs H fp=>cN (cZ (al (X:=dc _ _ _ _ _ _ _) O a4 rfl a7 a6 Q .nil aM (aa (pv 1) (aa (ax (r:=dR K) av (pv 0) ah (λ_ _=>rfl)) (aa (pv 2) ae)))) (λ_=>rfl))) (λs H fp=>pv 0)) ae)))) aA,?_⟩
 case hcl =>
  intro y j;rcases mem_cons.mp j with e|j
  ·rw[e];rfl
  ·rcases mem_cons.mp j with e|j
   ·rw[e];rfl
   ·cases j
 case hj =>
  intro i b3 x h1 h2
  match i,h1,h2 with
  |0,h1,h2 =>
   cases h1;cases h2;exact⟨rfl,Or.inr (Or.inl rfl),(show((aj cu).names.lookup ("_law_book_here":Str)≠some NameKind.local)by decide +kernel),by first|exact Or.inl rfl|exact Or.inr rfl⟩
  |1,h1,h2 =>
   cases h1;cases h2;exact⟨rfl,Or.inr (Or.inl rfl),(show((aj cu).names.lookup ("_law_number":Str)≠some NameKind.local)by decide +kernel),by first|exact Or.inl rfl|exact Or.inr rfl⟩
  |i+2,h1,h2=>simp at h1
 rintro v H _ a c d dd n D zs rfl q W R a0 a9 I;have J:=q.tr;have b2:=q.len;have C:SqT K H c (cf dd):=SqT.of W;cases dd with
 |make B p nm st=>exact⟨_,rfl,c,_,_,_,rfl,rfl,C,rfl,rfl,_,rfl,aC (I λ⟨k,e⟩=>by cases e)⟩
 |write B st=>exact⟨_,rfl,c,_,_,_,rfl,rfl,C,rfl,rfl,_,rfl,aC (I λ⟨k,e⟩=>by cases e)⟩
 |move B p nm=>exact⟨_,rfl,c,_,_,_,rfl,rfl,C,rfl,rfl,_,rfl,aC (I λ⟨k,e⟩=>by cases e)⟩
 |drop B =>
  refine⟨_,rfl,c,_,_,_,rfl,rfl,C,rfl,rfl,_,rfl,aQ ?_⟩;refine⟨_,rfl,a,rfl,⟨_,SqT.of q.tup⟩,λp a1=>?_⟩
  classical
  refine iL (fr:=[some (.ref d),some (.int n)]) zs (λz=>V.ref z.1) (by omega) a1 (eR (by rw[cr];exact SqT.of q.tup)) rfl (λz=>!decide (TW.Und (nds zs) n z.2.num)) (λz y _=>y=.ref z.1) (λz y H H' h _=>h) (λz H' k G u _ F=>?_) (λz H' k G _ u _ F=>⟨_,rfl,F _ H' (Same.refl _) rfl⟩) (λys H' u a2 a5=>?_)
  ·obtain⟨a8,a3⟩:=TW.PathTo.ex J (bZ G);refine⟨_,rfl,_,rfl,z.1,_,_,_,rfl,rfl,SqT.of (u _ _ (q.nod z G)),at0 z.2,_,rfl,d,z.2.num,n,D,zs,a8,rfl,R.same u,J,a3,a0,λb U=>⟨b,rfl,?_⟩⟩;have:b=decide (TW.Und (nds zs) n z.2.num):=by rw[Bool.eq_iff_iff,U,decide_eq_true_eq]
   rw[this];exact F H' (Same.refl _)
  ·have S:=cq (f:=λz:Addr×Nd=>V.ref z.1) a5 (λz y _ h=>h);refine⟨p,_,rfl,.inl ⟨SqL.of a2,λl Z=>?_⟩⟩;have L:=u.trans (ag (o:=.tup ys) Z);refine a9 ⟨B,rfl⟩ (zs.filter λz=>!decide (TW.Und (nds zs) n z.2.num)) l _ (λm=>!decide (TW.Und (nds zs) n m.num)) L (by rw[ac,S,cr]) (λy j=>L _ _ (q.nod y (mem_filter.mp j).1)) ?_ λm _=>?_
   ·have Y:∀g:Nd→Bool,nds (zs.filter λz=>g z.2)=(nds zs).filter g:=λg=>by
     unfold nds;rw[filter_map];rfl
    exact Y λm=>!decide (TW.Und (nds zs) n m.num)
   ·rw[Bool.not_eq_true',decide_eq_false_iff_not]
end
def yE:List Stmt:=match ldS 5 with
 |.If _ _ b _=>b
 |_=>[]
def elS(i:Nat):Stmt:=yE.getD i (.Pass ⟨0,0,0,0⟩)
structure LD(H0 H:Hp)(a c d:Addr)(dd:TW.Deed Str)(as:List (Addr×(Addr×Nd)))(zs:ZN):Prop where
 s0:Same H0 H
 d0:H0 d=none
 tre:Tre H a zs
 deed:H c=some (.tup (cf dd))
 book:Book H d as zs
theorem LD.same{H0 e H':Hp}{a c d:Addr}{dd:TW.Deed Str}{f:List (Addr×(Addr×Nd))}{zs:ZN}(b:LD H0 e a c d dd f zs)(s:Same e H'):LD H0 H' a c d dd f zs :=
 ⟨b.s0.trans s,b.d0,b.tre.same s,s _ _ b.deed,b.book.same s⟩
theorem wt{b:Hp}{a d:Addr}{xs:List V}{f:List (Key×V)}(c:b a=some (.tup xs))(hd:Rd b d (.dK f)):a≠d:=λe=>by
 rcases hd with hd|⟨o,hd⟩<;>rw[e,hd]at c<;>cases c
theorem LD.turn{H0 f:Hp}{a c d:Addr}{dd:TW.Deed Str}{h:List (Addr×(Addr×Nd))}{zs:ZN}(e:LD H0 f a c d dd h zs){u:HO}(k:Rd (upd f d u) d (.dK (aV h))):LD H0 (upd f d u) a c d dd h zs:=by
 have g:∀{b:Addr}{xs:List V},f b=some (.tup xs)→upd f d u b=some (.tup xs):=λi=>by rw[ai (wt i e.book.dict)];exact i
 exact⟨aK e.d0 e.s0,e.d0,⟨g e.tre.tup,λz l=>g (e.tre.nod z l),e.tre.tr,e.tre.len⟩,g e.deed,⟨k,e.book.of,λa j=>g (e.book.at' a j)⟩⟩
section
variable{P:Program}{w:World}{K:PySem.W.Frag}{mg:Str→Option Value}{base:Heap}{f:Addr}{cdv:Value}{A:Around}{outer:List Env}{s:Shared}{H0:Hp}{E:XK}
theorem Aj(a0:Room 1 (A.deeper (PyProof.Rows.envOfC "_law_done" (aj cu) s.heap.objs.size f cdv))):
  ∃t,PS (DX P w K mg base f cdv A outer s H0 E) (elS 5) t∧∀(C:Ends)(H:Hp)(a c d:Addr)(dd:TW.Deed Str)(n p:Int)(nm:Str)(j:List (Addr×(Addr×Nd)))(zs:ZN)(G:Option V)(o:Obj),LD H0 H a c d dd j zs→H d=some (.frz o (.dK (aV j)))→ki (nds zs) dd n p nm→TW.ig (nds zs) p→NotIn (nds zs) dd n p→(∀m∈nds zs,m.num≠n→¬(m.par=p∧m.nm=nm)) →
   (∀bs H',Same H0 H'→H' d=some (.dK (bw bs))→(∀b∈bs,H' b.1=some (.tup (aO b.2)))→(bs.map (·.2.num)).Nodup→bs.length≤zs.length+1→(∀us,us.Perm (bs.map (·.2))→TW.ce us→TW.Told (nds zs) dd (.inr us))→C.nx [some (.ref a),some (.ref c),some (.ref d),some (.int n),G] H') →
   t C [some (.ref a),some (.ref c),some (.ref d),some (.int n),G] H:=by
 refine⟨_,xu (jk (bh a0) (pv 2) (pv 3) (aD gT (cF ff (pv 1) (cz ah) (cz ah)) (be (aa (jA (am cB (ax av (pv 1) ah (λ_ _=>rfl)) aG (au _)) (ax av (pv 1) ah (λ_ _=>rfl)) (ax av (cS (bh a0) (pv 2) (pv 3) (λ_ _=>rfl)) ah (λ_ _=>rfl))) ae))) rfl),?_⟩;intro C H a c d dd n p nm j zs G o Q a8 b0 T hi X b1;refine⟨d,o,aV j,Q.d0,a8,?_⟩;have i:=Q.turn (u:=.dK (aV j)) (.inl ac);have D:upd H d (.dK (aV j)) d=some (.dK (aV j)):=ac;generalize upd H d (.dK (aV j))=H1 at i D⊢;have U:=i.tre.tr;have Z:=bY U;have b2:=i.tre.len;have S:∀(st:Option Int)(q:Addr)(H2:Hp),Same H1 H2→H2 q=some (.tup (aO ⟨n,p,nm,st⟩))→(∀us,(TW.cI (nds zs) n→us=(nds zs).map (TW.put ⟨n,p,nm,st⟩)→TW.Told (nds zs) dd (.inr us))∧(¬TW.cI (nds zs) n→us.Perm (⟨n,p,nm,st⟩::nds zs)→TW.ce us→TW.Told (nds zs) dd (.inr us))) →
   C.nx [some (.ref a),some (.ref c),some (.ref d),some (.int n),G] (upd H2 d (.dK (cp (aV j) (Sum.inl n:Key) (.ref q)))):=by
  intro st q H2 g v a1;have I:=i.same g;obtain⟨bs,a2,a3,a4,a5,a6⟩:=pw (new:=⟨n,p,nm,st⟩) (g _ _ D) I.book.of I.book.at' v Z;refine b1 bs _ (aK i.d0 I.s0) a2 a3 a4 a5 λus l F=>?_;rcases a6 with⟨h1,h2⟩|⟨h1,h2⟩
  ·rw[h2]at l;exact(a1 us).1 h1 (TW.kc F (TW.ik U.rise) l)
  ·rw[h2]at l;exact(a1 us).2 h1 (l.trans List.perm_append_comm) F
 have B:∀{H2:Hp},Same H1 H2→SqT K H2 c (cf dd):=λg=>SqT.of (g _ _ i.deed);rcases b0 with⟨st,rfl,J⟩|⟨rfl,Y⟩
 ·refine⟨_,rfl,_,rfl,_,rfl,c,_,rfl,B (Same.refl _),(λh=>absurd h.1 (show ¬HT.sIx 5 0 (some 2)=0 by decide)),λN L=>?_⟩;have g:=ag (o:=.tup (dQ (cf (.make n p nm st)) (some 2) (some 4))) L;refine⟨_,rfl,c,_,_,_,rfl,rfl,B g,rfl,rfl,_,rfl,aQ ⟨_,rfl,c,_,_,_,rfl,rfl,B g,rfl,(show 1≤sizeLine from aq (by decide)),λO x=>?_⟩⟩;have M:=g.trans (ag (o:=.tup [stV st]) x);refine⟨N,O,[.int p,.str nm],[stV st],rfl,rfl,SqT.of (aS x ac),SqT.of ac,by simp,(show 3≤sizeLine from aq (by decide)),λh=>absurd h (cons_ne_nil _ _),λ_ q v=>?_⟩;have y:=M.trans (ag (o:=.tup ([.int p,.str nm]++[stV st])) v);refine⟨_,rfl,_,rfl,d,_,rfl,mY.k (k:=Sum.inl n) (y _ _ D) (aB ?_),S st q _ y ac λus=>⟨λh _=>absurd h J,λ_ l F=>.made J T (λm r h=>X m r (λe=>J ⟨m,r,e⟩) h) l F⟩⟩;have:=congrArg length i.book.of;unfold aV;rw[length_map]at this⊢;omega
 ·refine⟨_,rfl,_,rfl,_,rfl,c,_,rfl,B (Same.refl _),(λh=>absurd h.1 (show ¬HT.sIx 4 0 (some 2)=0 by decide)),λN L=>?_⟩;have g:=ag (o:=.tup (dQ (cf (.move n p nm)) (some 2) (some 4))) L;obtain⟨m,r,R⟩:=id Y;obtain⟨z,a9,rfl⟩:=fo r;obtain⟨b,W,a7⟩:=(i.same g).book.get Z a9;rw[R]at W;refine⟨_,rfl,c,_,_,_,rfl,rfl,B g,rfl,rfl,_,rfl,aC ⟨_,rfl,_,rfl,d,_,rfl,W,b,_,_,_,rfl,rfl,SqT.of a7,zD z.2,(show 1≤sizeLine from aq (by decide)),λO x=>?_⟩⟩;have M:=g.trans (ag (o:=.tup [stV z.2.st]) x);refine⟨N,O,[.int p,.str nm],[stV z.2.st],rfl,rfl,SqT.of (aS x ac),SqT.of ac,by simp,(show 3≤sizeLine from aq (by decide)),λh=>absurd h (cons_ne_nil _ _),λ_ q v=>?_⟩;have y:=M.trans (ag (o:=.tup ([.int p,.str nm]++[stV z.2.st])) v);refine⟨_,rfl,_,rfl,d,_,rfl,mY.k (k:=Sum.inl n) (y _ _ D) (aB ?_),S z.2.st q _ y ac λus=>⟨λ_ e=>by rw[e];exact .moved r R T (hi ⟨_,rfl⟩) X,λh=>absurd Y h⟩⟩;have:=congrArg length i.book.of;unfold aV;rw[length_map]at this⊢;omega
theorem wu(b0:Room 1 (A.deeper (PyProof.Rows.envOfC "_law_done" (aj cu) s.heap.objs.size f cdv))):
  ∃t,PS (DX P w K mg base f cdv A outer s H0 E) (elS 4) t∧∀(J:Ends)(H:Hp)(a c d:Addr)(dd:TW.Deed Str)(n p:Int)(nm:Str)(j:List (Addr×(Addr×Nd)))(zs:ZN)(X:Option V),LD H0 H a c d dd j zs→H d=some (.dK (aV j))→ki (nds zs) dd n p nm →
   (∀H',Same H0 H'→(∃m∈nds zs,m.num≠n∧m.par=p∧m.nm=nm)→J.rt (.str "taken") H') →
   (∀o H',LD H0 H' a c d dd j zs→H' d=some (.frz o (.dK (aV j)))→(∀m∈nds zs,m.num≠n→¬(m.par=p∧m.nm=nm))→J.nx [some (.ref a),some (.ref c),some (.ref d),some (.int n),X] H') →
   t J [some (.ref a),some (.ref c),some (.ref d),some (.int n),X] H:=by
 refine⟨_,aP (am (qy (bh b0)) (cF ff (pv 1) (cz ah) (cz ah)) (iC (N:=["_law_one","_law_book_here","_law_number"]) (cl:=[("_law_number",s.heap.objs.size+2),("_law_book_here",s.heap.objs.size+1)]) (k:=1) (js:=[2,3]) (g:=bu 0) rfl
    (LcOk.mk' ["_law_number","_law_book_here"] rfl rfl (by decide +kernel) (by decide +kernel) ?hcl rfl (by decide +kernel)) rfl ?hj (yz (pv 2)) (λs H fp=>aN (i:=0) (show(["_law_one","_law_book_here","_law_number"]:List Str).Nodup by decide +kernel) rfl (Or.inl rfl) (Or.inr rfl))
    (λs H fp=>am dg (pv 0) (pv 2) (au _)) (λs H fp=>cF (r:=uu K) ff (cS (bh b0) (pv 1) (pv 0) (λ_ _=>rfl)) fX (cz ah))) rfl) (ak (aw aG)) aA,?_⟩
 case hcl =>
  intro y l;rcases mem_cons.mp l with e|l
  ·rw[e];rfl
  ·rcases mem_cons.mp l with e|l
   ·rw[e];rfl
   ·cases l
 case hj =>
  intro i d5 x h1 h2
  match i,h1,h2 with
  |0,h1,h2 =>
   cases h1;cases h2;exact⟨rfl,Or.inr (Or.inl rfl),(show((aj cu).names.lookup ("_law_book_here":Str)≠some NameKind.local)by decide +kernel),by first|exact Or.inl rfl|exact Or.inr rfl⟩
  |1,h1,h2 =>
   cases h1;cases h2;exact⟨rfl,Or.inr (Or.inl rfl),(show((aj cu).names.lookup ("_law_number":Str)≠some NameKind.local)by decide +kernel),by first|exact Or.inl rfl|exact Or.inr rfl⟩
  |i+2,h1,h2=>simp at h1
 intro J H a c d dd n p nm j zs X C c0 b1 d3 d2;have b8:=C.tre.tr;have c1:=bY b8;have d4:=C.tre.len;have b7:dQ (cf dd) (some 2) (some 4)=[Sum.inl p,Sum.inr nm].map kV:=by rcases b1 with⟨st,rfl,_⟩|⟨rfl,_⟩<;>rfl
 have d1:¬(HT.sIx (cf dd).length 0 (some 2)=0∧HT.sIx (cf dd).length (cf dd).length (some 4)=(cf dd).length):=by
  rcases b1 with⟨st,rfl,_⟩|⟨rfl,_⟩
  ·exact λh=>absurd h.1 (show ¬HT.sIx 5 0 (some 2)=0 by decide)
  ·exact λh=>absurd h.1 (show ¬HT.sIx 4 0 (some 2)=0 by decide)
 refine⟨_,rfl,_,rfl,_,rfl,c,_,rfl,SqT.of C.deed,d1,λI c6=>?_⟩;have b4:=ag (o:=.tup (dQ (cf dd) (some 2) (some 4))) c6;have R:upd H I (.tup (dQ (cf dd) (some 2) (some 4))) I=some (.tup ([Sum.inl p,Sum.inr nm].map kV)):=by rw[ac,b7]
 have O:=C.same b4;have a5:=b4 _ _ c0;generalize upd H I (.tup (dQ (cf dd) (some 2) (some 4)))=H1 at O R a5⊢;refine⟨_,rfl,d,_,rfl,a5,λo b3 a8=>?_⟩;have Q:=O.turn (u:=.frz o (.dK (aV j))) (.inr ⟨o,ac⟩);have a1:upd H1 d (.frz o (.dK (aV j))) I=some (.tup ([Sum.inl p,Sum.inr nm].map kV)):=by rw[ai (wt R O.book.dict)];exact R
 have D:upd H1 d (.frz o (.dK (aV j))) d=some (.frz o (.dK (aV j))):=ac;generalize upd H1 d (.frz o (.dK (aV j)))=H2 at Q a1 D a8⊢;have L:(j.map λa=>(a.1,a.2.2)).map (·.2)=nds zs:=by rw[←C.book.of];unfold nds;rw[map_map,map_map];rfl
 have b9:(j.map λa=>(a.1,a.2.2)).length=zs.length:=by rw[←C.book.of,length_map,length_map]
 have a4:((j.map λa=>(a.1,a.2.2)).map (·.2.num)).Nodup:=by
  have:(j.map λa=>(a.1,a.2.2)).map (·.2.num)=(nds zs).map (·.num):=by rw[←L];simp only[map_map];rfl
  rw[this];exact c1
 have a3:∀b∈j.map (λa=>(a.1,a.2.2)),H2 b.1=some (.tup (aO b.2)):=λb T=>by
  obtain⟨x,v,rfl⟩:=mem_map.mp T;exact Q.book.at' x v
 rw[nB]at D⊢;rw[kh];have a6:aV j=bw (j.map λa=>(a.1,a.2.2)):=nB j;generalize j.map (λa=>(a.1,a.2.2))=bs at L b9 a4 a3 D a6⊢;refine iL (fr:=[some (.ref d),some (.int n)]) bs (λb=>V.int b.2.num) (by omega) a8 (pk D) rfl (λb=>!decide (V.int b.2.num=V.int n)) (λb y H'=>∃q,y=.ref q∧q≠b3∧H' q=some (.tup ((plK b.2).map kV))) (λb y H H' ⟨q,e,b2,h⟩ ex=>⟨q,e,b2,ex q _ b2 h⟩) (λb H' k F B _ U=>?_) (λb H' k F _ B c5 U=>?_) (λys M B c4 c7=>?_)
 ·exact⟨_,rfl,_,rfl,rfl,_,rfl,U H' (Same.refl _)⟩
 ·refine⟨_,rfl,_,rfl,d,_,rfl,.inl ⟨bw bs,Sum.inl b.2.num,.inr ⟨o,B _ _ D⟩,rfl,(iN a4 F).symm⟩,_,rfl,b.1,_,rfl,SqT.of (B _ _ (a3 b F)),(λh=>absurd h.2 (show ¬HT.sIx 3 3 (some 2)=3 by decide)),λq a9=>?_⟩;exact U _ _ (ag a9) ⟨q,rfl,dA c5 a9,ac⟩
 ·obtain⟨cs,a0,b5,b6⟩:=dt (val:=V.ref) (S:=λ(b:Addr×Nd) (q:Addr)=>M q=some (.tup ((plK b.2).map kV))) c7 (λb y _ ⟨q,e,_,h⟩=>⟨q,e,h⟩);refine⟨I,b3,_,cs.map λx=>(x.2,plK x.1.2),rfl,B _ _ a1,rfl,SqL.of (by rw[c4,b5,map_map,map_map];rfl),λy l=>?_,_,rfl,?_⟩
  ·obtain⟨x,v,rfl⟩:=mem_map.mp l;exact b6 x v
  ·have Y:=Q.same B;cases a2:((cs.map λx=>(x.2,plK x.1.2)).any λz=>decide (z.2=[Sum.inl p,Sum.inr nm]))with
   |true =>
    refine aQ (d3 M Y.s0 ?_);obtain⟨y,l,e⟩:=any_eq_true.mp a2;obtain⟨x,v,rfl⟩:=mem_map.mp l;have c8:x.1∈bs.filter λb=>!decide (V.int b.2.num=V.int n):=by rw[←a0];exact mem_map.mpr ⟨x,v,rfl⟩
    obtain⟨c9,d0⟩:=mem_filter.mp c8;have Z:plK x.1.2=[Sum.inl p,Sum.inr nm]:=by simpa using e
    have c3:x.1.2.par=p∧x.1.2.nm=nm:=by
     unfold plK at Z;injection Z with W G
     injection G with G _
     injection W with W
     injection G with G
     exact⟨W,G⟩
    refine⟨x.1.2,by rw[←L];exact mem_map.mpr ⟨x.1,c9,rfl⟩,λe=>?_,c3⟩;simp[e]at d0
   |false =>
    refine aC (d2 o M Y (by rw[a6];exact B _ _ D) λm a7 c2 h=>?_);rw[←L]at a7;obtain⟨b,T,rfl⟩:=mem_map.mp a7;have F:b∈bs.filter λb=>!decide (V.int b.2.num=V.int n):=mem_filter.mpr ⟨T,by simp[c2]⟩;rw[←a0]at F;obtain⟨x,v,ex⟩:=mem_map.mp F;have:((cs.map λx=>(x.2,plK x.1.2)).any λz=>decide (z.2=[Sum.inl p,Sum.inr nm]))=true:=any_eq_true.mpr ⟨_,mem_map.mpr ⟨x,v,rfl⟩,by
     rw[decide_eq_true_eq];show plK x.1.2=_;rw[ex];unfold plK;rw[h.1,h.2]⟩
    rw[a2]at this;cases this
theorem tZ(F:Room 1 (A.deeper (PyProof.Rows.envOfC "_law_done" (aj cu) s.heap.objs.size f cdv)))(v:Has P w K mg base 1 "_law_under" ["_law_book_here","_law_number","_law_goal"] kY):
  ∃t,PS (DX P w K mg base f cdv A outer s H0 E) (elS 3) t∧∀(i:Ends)(H:Hp)(a c d:Addr)(dd:TW.Deed Str)(n p:Int)(nm:Str)(k:List (Addr×(Addr×Nd)))(zs:ZN),LD H0 H a c d dd k zs→ki (nds zs) dd n p nm→TW.ig (nds zs) p→1≤n →
   (dd=.move n p nm→p≠0→TW.Und (nds zs) n p→i.rt (.str "inside") H)→(NotIn (nds zs) dd n p→i.nx [some (.ref a),some (.ref c),some (.ref d),some (.int n),some (.int p)] H) →
   t i [some (.ref a),some (.ref c),some (.ref d),some (.int n),some (.int p)] H:=by
 obtain⟨O,Q,x,J,I,y⟩:=v;refine⟨_,aP (PW.pt (pw_and (am cB (ax av (pv 1) ah (λ_ _=>rfl)) aG (au _)) (pw_and (am dg (pv 4) ah (au _)) (pw_and1 (cZ (al x F rfl J I y .nil aM (aa (pv 2) (aa (pv 4) (aa (pv 3) ae)))) (λ_=>rfl)))))) (ak (aw aG)) aA,?_⟩;intro i H a c d dd n p nm k zs j L B D N o;have u:SqT K H c (cf dd):=SqT.of j.deed;rcases L with⟨st,rfl,S⟩|⟨rfl,R⟩
 ·exact⟨_,rfl,c,_,_,_,rfl,rfl,u,rfl,rfl,_,rfl,aC (aC (o λ⟨_,e⟩=>by cases e))⟩
 ·refine⟨_,rfl,c,_,_,_,rfl,rfl,u,rfl,rfl,_,rfl,aQ ⟨_,rfl,rfl,_,rfl,?_⟩⟩
  by_cases g:p=0
  ·have l:(!decide (V.int p=V.int 0))=false:=by simp[g]
   rw[l];exact aC (aC (o λ_ h=>absurd g h))
  ·have l:(!decide (V.int p=V.int 0))=true:=by simp[g]
   rw[l];rcases B with e|⟨m,C,_,z⟩
   ·exact absurd e g
   ·obtain⟨M,r⟩:=TW.PathTo.ex j.tre.tr C;rw[z]at r;refine aQ ⟨_,rfl,_,rfl,_,rfl,d,p,n,k,zs,M,rfl,j.book,j.tre.tr,r,D,λb q=>⟨b,rfl,?_⟩⟩;cases b with
    |true=>exact aQ (N rfl g (q.mp rfl))
    |false=>exact aC (o λ_ _ G=>by have:=q.mpr G;cases this)
theorem yf(u:Room 1 (A.deeper (PyProof.Rows.envOfC "_law_done" (aj cu) s.heap.objs.size f cdv)))(G:Has P w K mg base 1 "_law_under" ["_law_book_here","_law_number","_law_goal"] kY):
  ∃t,PSs (DX P w K mg base f cdv A outer s H0 E) yE t∧∀(l:Ends)(H:Hp)(a c d:Addr)(dd:TW.Deed Str)(n p:Int)(nm:Str)(k:List (Addr×(Addr×Nd)))(zs:ZN),LD H0 H a c d dd k zs→H d=some (.dK (aV k))→ki (nds zs) dd n p nm→1≤n →
   (∀F H',Same H0 H'→TW.Told (nds zs) dd (.inl F)→l.rt (.str (vx F)) H') →
   (∀b1 bs H',Same H0 H'→H' d=some (.dK (bw bs))→(∀b∈bs,H' b.1=some (.tup (aO b.2)))→(bs.map (·.2.num)).Nodup→bs.length≤zs.length+1→(∀us,us.Perm (bs.map (·.2))→TW.ce us→TW.Told (nds zs) dd (.inr us))→l.nx [some (.ref a),some (.ref c),some (.ref d),some (.int n),b1] H') →
   t l [some (.ref a),some (.ref c),some (.ref d),some (.int n),none] H:=by
 obtain⟨a8,a4,h3⟩:=tZ (f:=f) (cdv:=cdv) (outer:=outer) (H0:=H0) (E:=E) u G;obtain⟨a9,a5,S⟩:=wu (P:=P) (w:=w) (mg:=mg) (base:=base) (K:=K) (f:=f) (cdv:=cdv) (outer:=outer) (H0:=H0) (E:=E) u;obtain⟨b0,a6,T⟩:=Aj (P:=P) (w:=w) (mg:=mg) (base:=base) (K:=K) (f:=f) (cdv:=cdv) (outer:=outer) (H0:=H0) (E:=E) u;refine⟨_,af (ay (i:=4) ju.nd rfl (Or.inl rfl) (ax av (pv 1) ah (λ_ _=>rfl)))
  (af (aP (PW.pt (pw_and (am dg (pv 4) ah (au _)) (pw_and1 (eZ (fY (bh u) (pv 4) (pv 2)))))) (ak (aw aG)) aA)
  (af (aP (PW.pt (pw_and (am dg (pv 4) ah (au _)) (pw_and1 (am mr (ax av (cS (bh u) (pv 2) (pv 4) (λ_ _=>rfl)) ah (λ_ _=>rfl)) cn (au _))))) (ak (aw aG)) aA)
  (af a4 (af a5 (ak a6))))),?_⟩
 intro l H a c d dd n p nm k zs g X h a1 y a7;have U:=g.tre.tr;have a2:=bY U;have J:atI (cf dd) 2=some (.int p):=by rcases h with⟨st,rfl,_⟩|⟨rfl,_⟩<;>rfl
 have rest:TW.ig (nds zs) p→gm a8 (gm a9 b0) l [some (.ref a),some (.ref c),some (.ref d),some (.int n),some (.int p)] H:=λx=>by
  refine h3 _ H a c d dd n p nm k zs g h x a1 (λe R a3=>?_) λhi=>?_
  ·subst e;rcases h with⟨st,e,_⟩|⟨_,q⟩
   ·cases e
   ·exact y .inside H g.s0 (.vIn q x R a3)
  ·refine S _ H a c d dd n p nm k zs _ g X h (λH' s' ⟨m,a0,h1,h2,h3⟩=>y .taken H' s' (h.taken x hi a0 h1 h2 h3)) λo H' I Y Z=>?_;exact T _ H' a c d dd n p nm k zs _ o I Y h x hi Z λbs H2 j L M N O Q=>a7 _ bs H2 j L M N O Q
 refine⟨_,rfl,c,_,_,_,rfl,rfl,SqT.of g.deed,J,?_⟩;refine⟨_,rfl,rfl,_,rfl,?_⟩
 by_cases r:p=0
 ·have j:(!decide (V.int p=V.int 0))=false:=by simp[r]
  rw[j];refine aC (aC ⟨_,rfl,rfl,_,rfl,?_⟩);rw[j];exact aC (aC (rest (.inl r)))
 ·have j:(!decide (V.int p=V.int 0))=true:=by simp[r]
  rw[j]
  by_cases q:∃z∈zs,z.2.num=p
  ·obtain⟨z,v,B⟩:=q;obtain⟨b,C,W⟩:=g.book.get a2 v;rw[B]at C;refine aQ ⟨_,rfl,_,rfl,d,_,rfl,C,_,rfl,aC ⟨_,rfl,rfl,_,rfl,?_⟩⟩;rw[j];refine aQ ⟨_,rfl,_,rfl,d,_,rfl,C,b,_,_,_,rfl,rfl,SqT.of W,zD z.2,rfl,_,rfl,?_⟩;rw[sm];cases D:z.2.st with
   |none=>exact aC (rest (.inr ⟨z.2,bZ v,D,B⟩))
   |some i=>exact aQ (y .notFolder H g.s0 (h.file r (bZ v) B (by rw[D];simp)))
  ·exact aQ ⟨_,rfl,_,rfl,d,_,rfl,g.book.not (λz v e=>q ⟨z,v,e⟩),_,rfl,aQ (y .noNode H g.s0 (h.no r (cJ q)))⟩
theorem wv(v:Room 1 (A.deeper (PyProof.Rows.envOfC "_law_done" (aj cu) s.heap.objs.size f cdv)))(W:Has P w K mg base 1 "_law_under" ["_law_book_here","_law_number","_law_goal"] kY):
  ∃t,PS (DX P w K mg base f cdv A outer s H0 E) (ldS 5) t∧∀(g:Ends)(H:Hp)(a c d:Addr)(dd:TW.Deed Str)(n:Int)(j:List (Addr×(Addr×Nd)))(zs:ZN),LD H0 H a c d dd j zs→H d=some (.dK (aV j))→((∃st,dd=.write n st∧TW.cI (nds zs) n)∨∃p nm,ki (nds zs) dd n p nm)→1≤n →
   (∀V H',Same H0 H'→TW.Told (nds zs) dd (.inl V)→g.rt (.str (vx V)) H') →
   (∀b1 bs H',Same H0 H'→H' d=some (.dK (bw bs))→(∀b∈bs,H' b.1=some (.tup (aO b.2)))→(bs.map (·.2.num)).Nodup→bs.length≤zs.length+1→(∀us,us.Perm (bs.map (·.2))→TW.ce us→TW.Told (nds zs) dd (.inr us))→g.nx [some (.ref a),some (.ref c),some (.ref d),some (.int n),b1] H') →
   t g [some (.ref a),some (.ref c),some (.ref d),some (.int n),none] H:=by
 obtain⟨te,a9,L⟩:=yf (f:=f) (cdv:=cdv) (outer:=outer) (H0:=H0) (E:=E) v W;refine⟨_,aP (am cB (ax av (pv 1) ah (λ_ _=>rfl)) aG (au _))
  (af (aP (am fe (ax av (cS (bh v) (pv 2) (pv 3) (λ_ _=>rfl)) ah (λ_ _=>rfl)) cn (au _)) (ak (aw aG)) aA)
  (ak (jk (bh v) (pv 2) (pv 3) (aD gT (cF ff (cS (bh v) (pv 2) (pv 3) (λ_ _=>rfl)) fX (cz ah)) (be (aa (ax av (pv 1) ah (λ_ _=>rfl)) ae))) rfl))) a9,?_⟩
 intro g H a c d dd n j zs e r a3 M D C;have I:=e.tre.tr;have N:=bY I;have b2:=e.tre.len;have G:SqT K H c (cf dd):=SqT.of e.deed;rcases a3 with⟨st,rfl,m,u,l⟩|⟨p,nm,B⟩
 ·obtain⟨z,a8,rfl⟩:=fo u;obtain⟨b,y,J⟩:=e.book.get N a8;rw[l]at y;refine⟨_,rfl,c,_,_,_,rfl,rfl,G,rfl,rfl,_,rfl,aQ ⟨_,rfl,_,rfl,d,_,rfl,y,b,_,_,_,rfl,rfl,SqT.of J,zD z.2,rfl,_,rfl,?_⟩⟩;cases Q:z.2.st with
  |none=>exact aQ (D .notFile H e.s0 (.wFold u l Q))
  |some i =>
   refine aC ⟨_,rfl,_,rfl,d,_,rfl,y,_,rfl,b,_,rfl,SqT.of J,(λh=>absurd h.2 (show ¬HT.sIx 3 3 (some 2)=3 by decide)),λT a7=>?_⟩;have S:=ag (o:=.tup (dQ (aO z.2) none (some 2))) a7;refine⟨_,rfl,c,_,_,_,rfl,rfl,SqT.of (S _ _ e.deed),rfl,(show 1≤sizeLine from aq (by decide)),λU R=>?_⟩;have b0:=S.trans (ag (o:=.tup [.int st]) R);refine⟨T,U,[.int z.2.par,.str z.2.nm],[.int st],rfl,rfl,SqT.of (aS R ac),SqT.of ac,by simp,(show 3≤sizeLine from aq (by decide)),λh=>absurd h (cons_ne_nil _ _),λ_ q a4=>?_⟩;have F:=b0.trans (ag (o:=.tup ([.int z.2.par,.str z.2.nm]++[.int st])) a4);have a5:upd (upd (upd H T (.tup (dQ (aO z.2) none (some 2)))) U (.tup [.int st])) q (.tup ([.int z.2.par,.str z.2.nm]++[.int st])) q=some (.tup (aO ⟨n,z.2.par,z.2.nm,some st⟩)):=ac;have a2:(aV j).length≤1000:=by
    have:=congrArg length e.book.of;unfold aV;rw[length_map]at this⊢;omega
   refine⟨_,rfl,_,rfl,d,_,rfl,mY.k (k:=Sum.inl n) (F _ _ r) (aB a2),?_⟩;have x:=e.same F;obtain⟨bs,X,Y,Z,a0,a1⟩:=pw (new:=⟨n,z.2.par,z.2.nm,some st⟩) (F _ _ r) x.book.of x.book.at' a5 N;refine C _ bs _ (aK e.d0 x.s0) X Y Z a0 λus O a6=>?_;rcases a1 with⟨h1,h2⟩|⟨h1,h2⟩
   ·rw[h2]at O;rw[TW.kc a6 (TW.ik I.rise) O];exact .wrote u l (by rw[Q];simp)
   ·exact absurd ⟨z.2,u,l⟩ h1
 ·rcases id B with⟨st,rfl,_⟩|⟨rfl,_⟩
  ·exact⟨_,rfl,c,_,_,_,rfl,rfl,G,rfl,rfl,_,rfl,aC (L g H a c d _ n p nm j zs e r B M D C)⟩
  ·exact⟨_,rfl,c,_,_,_,rfl,rfl,G,rfl,rfl,_,rfl,aC (L g H a c d _ n p nm j zs e r B M D C)⟩
def jv:Sp:=λvs H Q _=>∃a c dd zs,vs=[.ref a,.ref c]∧Tre H a zs∧zs.length≤29∧H c=some (.tup (cf dd))∧dW dd∧(∀b t' H',Same H H'→H' t'=some (.tup (aY b))→At H' b→TW.Told (nds zs) dd (.inr (nds b))→Q (.ref t') H')∧∀d H',Same H H'→TW.Told (nds zs) dd (.inl d)→Q (.str (vx d)) H'
theorem ww{f:Addr}{X:FuncData}(F:Fun K "_law_done" "_law_done" cu f X)(T:Txt mg)(Z:Has P w K mg base 1 "_law_book" ["_law_tree_here"] rb)(V:Has P w K mg base 1 "_law_under" ["_law_book_here","_law_number","_law_goal"] kY):
  FnOk P w K mg base CX0 2 f X ["_law_tree_here","_law_deed_here"] jv:=by
 obtain⟨b8,b9,a0,b2,b1,a1⟩:=Z;refine F.ok ju (λvs H Q E h=>?_) (λcdv A outer s H vs Q E D h=>?_)
 ·obtain⟨a,c,dd,zs,rfl,_⟩:=h;rfl
 ·obtain⟨a,c,dd,zs,rfl,U,c0,a7,y,Y,B⟩:=h;obtain⟨c1,b3,I⟩:=ye (f:=f) (cdv:=cdv) (outer:=outer) (H0:=H) (E:=E) T D V;obtain⟨c2,b4,L⟩:=wv (f:=f) (cdv:=cdv) (outer:=outer) (H0:=H) (E:=E) D V;obtain⟨b6,b5,a6⟩:=Ai (P:=P) (w:=w) (K:=K) (mg:=mg) (base:=base) (f:=f) (cdv:=cdv) (outer:=outer) (H0:=H) (E:=E) T D;refine⟨_,af (ay (i:=2) ju.nd rfl (Or.inr rfl) (al a0 D rfl b2 b1 a1 .nil aM (aa (pv 0) ae)))
   (af (ay (i:=3) ju.nd rfl (Or.inr rfl) (ax av (pv 1) ah (λ_ _=>rfl)))
   (af (aP (PW.pt (pw_and (am cB (ax av (pv 1) ah (λ_ _=>rfl)) aG (au _)) (pw_and1 (eZ (na (bh D) (pv 3) (pv 2)))))) (ak (aw aG)) aA)
   (af (aP (PW.pt (pw_and (am dg (ax av (pv 1) ah (λ_ _=>rfl)) aG (au _)) (pw_and1 (eZ (fY (bh D) (pv 3) (pv 2)))))) (ak (aw aG)) aA)
   (af b3 (af b4 (ak b5)))))),?_⟩
  refine⟨_,rfl,a,zs,rfl,U,λd u H1 v W G N=>?_⟩;have j:LD H H1 a c d dd u zs:=⟨v,W,U.same v,v _ _ a7,G⟩;have J:=bY U.tr;have q:SqT K H1 c (cf dd):=SqT.of j.deed;have R:∀x n bs H',Same H H'→H' d=some (.dK (bw bs))→(∀b∈bs,H' b.1=some (.tup (aO b.2)))→(bs.map (·.2.num)).Nodup→bs.length≤zs.length+1→(∀C,C.Perm (bs.map (·.2))→TW.ce C→TW.Told (nds zs) dd (.inr C)) →
    b6 {nx:=λ_ H'=>Q .non H',rt:=Q} [some (.ref a),some (.ref c),some (.ref d),some (.int n),x] H':=λx n bs H' s' a2 a3 a4 b7 a5 =>
   a6 _ H' _ _ _ _ _ d bs rfl a2 a3 a4 (by omega) λo C t' H2 S O M a9 b0=>Y C t' H2 ((aK W s').trans S) O M (a5 _ a9 b0)
  cases dd with
  |make n p nm st =>
   refine⟨_,rfl,c,_,_,_,rfl,rfl,q,rfl,_,rfl,c,_,_,_,rfl,rfl,q,rfl,rfl,_,rfl,aQ ?_⟩
   by_cases m:∃z∈zs,z.2.num=n
   ·obtain⟨z,l,r⟩:=m;obtain⟨b,t,_⟩:=j.book.get J l;rw[r]at t;exact⟨_,rfl,_,rfl,d,_,rfl,t,_,rfl,aQ (B .known H1 v (.mKnown (eI l r)))⟩
   ·refine⟨_,rfl,_,rfl,d,_,rfl,j.book.not (λz l e=>m ⟨z,l,e⟩),_,rfl,aC ?_⟩;refine⟨_,rfl,c,_,_,_,rfl,rfl,q,rfl,rfl,_,rfl,aC (aC ?_)⟩;refine I _ H1 _ a c d _ n u zs rfl j.tre j.deed G y.1 (λ⟨k,e⟩=>by cases e) λ_=>?_;exact L _ H1 a c d _ n u zs j N (.inr ⟨p,nm,.inl ⟨st,rfl,cJ m⟩⟩) y.1 B λx bs H'=>R x n bs H'
  |write n st =>
   refine⟨_,rfl,c,_,_,_,rfl,rfl,q,rfl,_,rfl,c,_,_,_,rfl,rfl,q,rfl,rfl,_,rfl,aC (aC ?_)⟩;refine⟨_,rfl,c,_,_,_,rfl,rfl,q,rfl,rfl,_,rfl,aQ ?_⟩
   by_cases m:∃z∈zs,z.2.num=n
   ·obtain⟨z,l,r⟩:=m;obtain⟨b,t,_⟩:=j.book.get J l;rw[r]at t;refine⟨_,rfl,_,rfl,d,_,rfl,t,_,rfl,aC ?_⟩;refine I _ H1 _ a c d _ n u zs rfl j.tre j.deed G y.1 (λ⟨k,e⟩=>by cases e) λ_=>?_;exact L _ H1 a c d _ n u zs j N (.inl ⟨st,rfl,eI l r⟩) y.1 B λx bs H'=>R x n bs H'
   ·exact⟨_,rfl,_,rfl,d,_,rfl,j.book.not (λz l e=>m ⟨z,l,e⟩),_,rfl,aQ (B .noNode H1 v (.wNo (cJ m)))⟩
  |move n p nm =>
   refine⟨_,rfl,c,_,_,_,rfl,rfl,q,rfl,_,rfl,c,_,_,_,rfl,rfl,q,rfl,rfl,_,rfl,aC (aC ?_)⟩;refine⟨_,rfl,c,_,_,_,rfl,rfl,q,rfl,rfl,_,rfl,aQ ?_⟩
   by_cases m:∃z∈zs,z.2.num=n
   ·obtain⟨z,l,r⟩:=m;obtain⟨b,t,_⟩:=j.book.get J l;rw[r]at t;refine⟨_,rfl,_,rfl,d,_,rfl,t,_,rfl,aC ?_⟩;refine I _ H1 _ a c d _ n u zs rfl j.tre j.deed G y.1 (λ⟨k,e⟩=>by cases e) λ_=>?_;exact L _ H1 a c d _ n u zs j N (.inr ⟨p,nm,.inr ⟨rfl,eI l r⟩⟩) y.1 B λx bs H'=>R x n bs H'
   ·exact⟨_,rfl,_,rfl,d,_,rfl,j.book.not (λz l e=>m ⟨z,l,e⟩),_,rfl,aQ (B .noNode H1 v (.vNo (cJ m)))⟩
  |drop n =>
   refine⟨_,rfl,c,_,_,_,rfl,rfl,q,rfl,_,rfl,c,_,_,_,rfl,rfl,q,rfl,rfl,_,rfl,aC (aC ?_)⟩;refine⟨_,rfl,c,_,_,_,rfl,rfl,q,rfl,rfl,_,rfl,aQ ?_⟩
   by_cases m:∃z∈zs,z.2.num=n
   ·obtain⟨z,l,r⟩:=m;obtain⟨b,t,_⟩:=j.book.get J l;rw[r]at t;refine⟨_,rfl,_,rfl,d,_,rfl,t,_,rfl,aC ?_⟩;refine I _ H1 _ a c d _ n u zs rfl j.tre j.deed G y.1 (λ_ C t' H' g S O M e a8=>Y C t' H' (v.trans S) O M ?_) λh=>absurd ⟨n,rfl⟩ h;rw[e];exact .dropped (eI l r) a8
   ·exact⟨_,rfl,_,rfl,d,_,rfl,j.book.not (λz l e=>m ⟨z,l,e⟩),_,rfl,aQ (B .noNode H1 v (.dNo (cJ m)))⟩
def rc(K:PySem.W.Frag):Sp:=λvs H Q _=>∃a k,vs=[.ref a,.int k]∧0≤k∧eG K H a∧∀r H',Same H H'→Q (.int r) H'
theorem Ak:FnScope ["_law_script","_law_k"] ["_law_script","_law_k"] (aj vH):=fsc
theorem yg{f:Addr}{g:FuncData}(F:Fun K "_law_cell" "_law_cell" vH f g)(T:Txt mg):FnOk P w K mg base CX0 1 f g ["_law_script","_law_k"] (rc K):=by
 refine F.ok Ak (λvs H Q E h=>?_) (λcdv A outer s H vs Q E r h=>?_)
 ·obtain⟨a,k,rfl,_⟩:=h;rfl
 ·obtain⟨a,k,rfl,l,⟨b,ea⟩,q⟩:=h;refine⟨_,af (aP (am gn (pv 1) (ar aH rfl T.len boot_len (aa (pv 0) ae)) (au _)) (ak (aw (ax bX (pv 0) (pv 1) (λ_ _=>rfl)))) aA)
   (af (aP (am (jV r.units0) (pv 0) (bi ae) (au _)) (ak (aw ah)) aA)
   (ak (aw (aD aW (aD dw (ax bX (pv 0) (aD mq (pv 1) (ar aH rfl T.len boot_len (aa (pv 0) ae))) (λ_ _=>rfl)) ah) (pv 1))))),?_⟩
  refine⟨_,rfl,_,rfl,a,_,rfl,.inl (ea),_,_,rfl,rfl,_,rfl,?_⟩;rw[length_map]
  by_cases h:k<(b.length:Int)
  ·rw[decide_eq_true h];obtain⟨i,d⟩:=pr l h;exact aQ ⟨_,rfl,_,rfl,a,_,_,_,rfl,rfl,ea,d,q _ _ (Same.refl _)⟩
  ·rw[decide_eq_false h];refine aC ⟨_,rfl,zero_le _,λp c=>⟨a,p,_,rfl,rfl,((ag c).seq ea),SqL.of ac,_,rfl,?_⟩⟩
   by_cases e:b=[]
   ·subst e;exact aQ (q _ _ (ag c))
   ·have o:¬b.map V.int=[]:=by simpa using e
    rw[decide_eq_false o];have t:0<b.length:=List.length_pos_iff.mpr e;have m:0≤k % (b.length:Int):=emod_nonneg _ (by omega);have n:k % (b.length:Int)<b.length:=Int.emod_lt_of_pos _ (by omega);obtain⟨i,d⟩:=pr m n;have j:atI (b.map V.int) (k % ((b.map V.int).length:Int))=some (.int i):=by rw[length_map];exact d
    exact aC ⟨_,rfl,_,rfl,_,rfl,a,_,rfl,.inl (((ag c).seq ea)),_,_,rfl,rfl,by rw[length_map];omega,a,_,_,_,rfl,rfl,((ag c).seq ea),j,_,_,rfl,rfl,.inr ⟨by decide,by decide⟩,_,rfl,_,_,rfl,rfl,q _ _ (ag c)⟩
def eW(K:PySem.W.Frag):Sp:=λvs H Q _=>∃a k m,vs=[.ref a,.int k,.int m]∧0≤k∧0<m∧eG K H a∧∀r H',0≤r→r<m→Same H H'→Q (.int r) H'
theorem wx:FnScope ["_law_script","_law_k","_law_many","_law_drawn"] ["_law_script","_law_k","_law_many"] (aj vI):=fsc
theorem yh{f:Addr}{b:FuncData}(F:Fun K "_law_pick" "_law_pick" vI f b)(T:Txt mg)(C:Has P w K mg base 1 "_law_cell" ["_law_script","_law_k"] (rc K)):FnOk P w K mg base CX0 2 f b ["_law_script","_law_k","_law_many"] (eW K):=by
 obtain⟨x,y,e,p,o,g⟩:=C;refine F.ok wx (λvs H Q E h=>?_) (λcdv A outer s H vs Q E n h=>?_)
 ·obtain⟨a,k,m,rfl,_⟩:=h;rfl
 ·obtain⟨a,k,m,rfl,l,d,j,q⟩:=h;refine⟨_,(af (ay (i:=3) wx.nd rfl (Or.inl rfl) (aD mq (aD dw (aD aW (al e n rfl p o g .nil aM (aa (pv 0) (aa (pv 1) ae))) (aD dw ah (aD aW (pv 1) ah))) ah) ah))
   (ak (aw (aD mq (aD mq (aD aW (aD dw (pv 3) (pv 3)) (aD rl (pv 3) ah)) ah) (pv 2))))),?_⟩
  refine⟨_,rfl,_,rfl,a,k,rfl,l,j,λr H1 t=>?_⟩;refine⟨_,rfl,_,_,rfl,rfl,_,_,rfl,rfl,.inl ⟨by decide,by decide⟩,_,_,rfl,rfl,_,_,rfl,rfl,.inr ⟨by decide,by decide⟩,_,_,rfl,rfl,(by decide:(0:Int)<2147483399),?_⟩;generalize c:(r+6151*(k+1))*40692 % 2147483399=dr;have u:0≤dr:=by rw[←c];exact emod_nonneg _ (by decide)
  have v:dr<2147483399:=by rw[←c];exact Int.emod_lt_of_pos _ (by decide)
  refine⟨_,rfl,_,rfl,_,_,rfl,rfl,.inl ⟨by omega,by omega⟩,_,rfl,_,_,rfl,rfl,⟨by decide,by decide⟩,_,_,rfl,rfl,_,_,rfl,rfl,(by decide:(0:Int)<2147483629),_,rfl,_,_,rfl,rfl,d,?_⟩;exact q _ _ (emod_nonneg _ (by omega)) (Int.emod_lt_of_pos _ d) t
def nP(K:PySem.W.Frag):Sp:=λvs H Q _=>∃a b m,vs=[.ref a,.int b,.int m]∧0≤b∧0≤m∧m≤9∧eG K H a∧∀t zs H',H' t=some (.tup (aY zs))→At H' zs→(zs.length:Int)≤m→TW.Tree (nds zs)→(∀z∈zs,xy z.2)→Same H H'→Q (.ref t) H'
theorem scB:FnScope ["_law_script","_law_at","_law_most","_law_left","_law_folders","_law_nodes","_law_k","_law_number","_law_parent","_law_name","_law_stamp"] ["_law_script","_law_at","_law_most"] (aj iO):=fsc
def buS(i:Nat):Stmt:=match (br iO).getD 3 (.Pass ⟨0,0,0,0⟩)with
 |.For _ _ b _ _=>b.getD i (.Pass ⟨0,0,0,0⟩)
 |x=>x
abbrev BX(P:Program)(w:World)(K:PySem.W.Frag)(mg:Str→Option Value)(base:Heap)(f:Addr)(cdv:Value)(A:Around)(outer:List Env)(s:Shared)(H:Hp)(E:XK):Cx:=(gF CX0 P w K mg base ["_law_script","_law_at","_law_most","_law_left","_law_folders","_law_nodes","_law_k","_law_number","_law_parent","_law_name","_law_stamp"] "_law_tree" (aj iO) f cdv A outer s H E).nox
theorem Bk{f:Addr}{cdv:Value}{A:Around}{outer:List Env}{s:Shared}{H0:Hp}{E:XK}(c4:Room 2 (A.deeper (PyProof.Rows.envOfC "_law_tree" (aj iO) s.heap.objs.size f cdv))):
  ∃t,PS (BX P w K mg base f cdv A outer s H0 E) (buS 5) t∧∀(Q:Ends)(H H6:Hp)(pl u pn:Addr)(U W D X:Option V)(S:List Int)(zs:ZN)(c a:Int)(nm:Str)(st:Option Int),Sta H pl u pn H6 S (0::TW.aT (nds zs)) zs→zs.length≤20 →
   (∀H',Sta H pl u pn H' S (0::TW.aT (nds zs)) zs→Q.nx [U,W,D,some (.ref pl),some (.ref u),some (.ref pn),X,some (.int c),some (.int a),some (.str nm),some (stV st)] H') →
   (∀q H',(∀z∈zs,¬(z.2.par=a∧z.2.nm=nm))→Sta H pl u pn H' S (0::TW.aT (nds (zs++[(q,⟨c,a,nm,st⟩)]))) (zs++[(q,⟨c,a,nm,st⟩)])→Q.nx [U,W,D,some (.ref pl),some (.ref u),some (.ref pn),X,some (.int c),some (.int a),some (.str nm),some (stV st)] H') →
   t Q [U,W,D,some (.ref pl),some (.ref u),some (.ref pn),X,some (.int c),some (.int a),some (.str nm),some (stV st)] H6:=by
 refine⟨_,aP (am (lg (bh c4)) (be (aa (pv 8) (aa (pv 9) ae))) (eD (N:=["_law_node"]) (k:=1) (js:=[]) (g:=bu 0) rfl (cH rfl (by decide +kernel) (by decide +kernel) (by decide +kernel)) rfl (λi d2 x h=>by simp at h)
     (dj (pv 5)) (λs H fp=>aN (i:=0) (show(["_law_node"]:List Str).Nodup by decide +kernel) rfl (Or.inl rfl) (Or.inr rfl))
     (λs H fp=>cF (r:=uu K) ff (pv 0) (cz ah) (cz ah))) rfl) (af (bg (cU plainAttrs_list PySem.F.slot_list_append PySem.F.type_list_append bn (pv 5) (aa (be (aa (pv 7) (aa (pv 8) (aa (pv 9) (aa (pv 10) ae))))) ae))) (ak (aP (am fe (pv 10) cn (au _)) (ak (bg (cU plainAttrs_list PySem.F.slot_list_append PySem.F.type_list_append bn (pv 4) (aa (pv 7) ae)))) aA))) aA,?_⟩
 intro Q H H6 pl u pn U W D X S zs c a nm st b0 d1 c9 a9;refine⟨_,rfl,_,rfl,le2,λT c3=>?_⟩;have B:=b0.grow (ag (o:=.tup [.int a,.str nm]) c3);have a5:(upd H6 T (.tup [.int a,.str nm])) T=some (.tup ([Sum.inl a,Sum.inr nm].map kV)):=ac;refine⟨_,rfl,pn,rfl,⟨_,SqL.of B.n⟩,λp L=>?_⟩;generalize upd H6 T (.tup [.int a,.str nm])=b1 at B a5 L⊢;refine oV (k:=1) (js:=[]) (J:=Itl K pn) (p:=p) zs.length (by omega) (λi ys M H'=>∃b:List (Addr×List Key),ys=(b.map (·.1)).map V.ref∧b.map (·.2)=((nds zs).take i).map plK∧b.length=i∧(∀z∈b,H' z.1=some (.tup (z.2.map kV)))∧M.length=1∧Same b1 H'∧H' p=some (.lst ys))
  ⟨[],rfl,rfl,rfl,by simp,rfl,ag L,ac⟩ (λi ys M H' h=>?_) (λi ys M H' hi h=>?_) (λys M H' h=>?_) (λi ys M H' hi h v H2 a1=>?_) ?_ ?_
 ·obtain⟨b,rfl,_,e,_⟩:=h;rw[length_map,length_map];omega
 ·obtain⟨_,_,_,_,_,_,j,_⟩:=h;exact⟨_,_,SqL.of (j _ _ B.n),dD (getElem?_eq_getElem hi)⟩
 ·obtain⟨b,Y,R,a4,Z,_,j,I⟩:=h;refine⟨⟨_,SqL.of (j _ _ B.n),by rw[bd];exact le_refl _⟩,?_⟩;subst Y;refine⟨T,p,_,b,rfl,j _ _ a5,rfl,SqL.of I,Z,_,rfl,?_⟩;rw[take_of_length_le (by rw[aI];exact le_refl _)]at R;have O:=B.grow j;cases ea:(b.any λz=>decide (z.2=[Sum.inl a,Sum.inr nm]))with
  |true=>exact aC (c9 _ O)
  |false =>
   have a7:∀z∈zs,¬(z.2.par=a∧z.2.nm=nm):=λz C ⟨h1,h2⟩=>by
    have a2:plK z.2∈b.map (·.2):=by rw[R];exact mem_map.mpr ⟨z.2,mem_map.mpr ⟨z,C,rfl⟩,rfl⟩
    obtain⟨y,a1,c1⟩:=mem_map.mp a2;have:(b.any λz=>decide (z.2=[Sum.inl a,Sum.inr nm]))=true:=any_eq_true.mpr ⟨y,a1,by rw[decide_eq_true_eq,c1];unfold plK;rw[h1,h2]⟩;rw[ea]at this;cases this
   refine aQ ⟨_,rfl,.inl ⟨rfl,_,SqL.of O.n⟩,_,rfl,_,rfl,_,rfl,_,rfl,(show 4≤sizeLine from aq (by decide)),λq l=>⟨pn,_,_,rfl,rfl,aS l O.n,aB (by rw[bd];omega),?_⟩⟩;have G:=(O.grow (ag (o:=.tup (vals ⟨c,a,nm,st⟩)) l)).node (n:=⟨c,a,nm,st⟩) ac;refine⟨_,rfl,rfl,_,rfl,?_⟩;cases st with
   |some c8 =>
    have a0:(0::TW.aT (nds zs))=(0:Int)::TW.aT (nds (zs++[(q,⟨c,a,nm,some c8⟩)])):=by simp[TW.aT,nds]
    rw[a0]at G;exact aC (a9 q _ a7 G)
   |none =>
    refine aQ ⟨_,rfl,.inl ⟨rfl,_,SqL.of G.f⟩,_,rfl,u,_,_,rfl,rfl,G.f,aB ?_,?_⟩
    ·have:=TW.dM (nds zs);rw[aI]at this;rw[length_map,length_cons];omega
    ·have a3:=G.fold c;have a0:(0::TW.aT (nds zs))++[c]=(0:Int)::TW.aT (nds (zs++[(q,⟨c,a,nm,none⟩)])):=by simp[TW.aT,nds]
     rw[a0]at a3;exact a9 q _ a7 a3
 ·obtain⟨b,Y,R,a4,Z,b9,j,I⟩:=h;obtain⟨d3,rfl⟩:=vk b9;obtain⟨rfl,c5⟩:=a1;have c2:=c5 _ (SqL.of (j _ _ B.n));obtain⟨d,a6,rfl⟩:=ck c2;have a2:=mem_of_getElem? a6;have c0:dQ (vals d.2) (some 1) (some 3)=[.int d.2.par,.str d.2.nm]:=rfl;refine⟨_,rfl,_,rfl,_,rfl,d.1,_,rfl,SqT.of (j _ _ (B.nd d a2)),(λh=>by have h1:(1:Nat)=0:=h.1;cases h1),λq l=>?_⟩;rw[c0];refine⟨aS l I,b++[(q,plK d.2)],by rw[Y];simp,?_,by simp[a4],?_,rfl,aK L (j.trans (ag l)),ac⟩
  ·rw[map_append,R,take_succ,show(nds zs)[i]?=some d.2 by unfold nds;rw[getElem?_map,a6];rfl,map_append];rfl
  ·intro z C;have a8:q≠p:=λz=>by rw[z,I]at l;cases l
   rcases mem_append.mp C with C | C
   ·have:=aS (o:=.tup [.int d.2.par,.str d.2.nm]) l (Z z C);rw[ai]
    ·exact this
    ·intro e;rw[e,ai (Ne.symm a8),I]at this;cases this
   ·have e:z=(q,plK d.2):=by simpa using C
    subst e;rw[ai a8];exact ac
 ·rintro _ _ _ _ _ m h;exact m _ _ h
 ·rintro _ _ _ _ m ⟨d0,b3,c6,b4,c7,b5,b2,D,b6,b7,b8,q⟩;exact⟨d0,b3,c6,b4,c7,b5,b2,D,b6,b7,b8,λp L=>m _ _ (q p L)⟩
theorem wz{f:Addr}{b7:FuncData}(F:Fun K "_law_tree" "_law_tree" iO f b7)(T:Txt mg)(C:Has P w K mg base 2 "_law_pick" ["_law_script","_law_k","_law_many"] (eW K)):FnOk P w K mg base CX0 3 f b7 ["_law_script","_law_at","_law_most"] (nP K):=by
 obtain⟨h1,h2,v,J,I,x⟩:=C;refine F.ok scB (λvs H Q E h=>?_) (λcdv A outer s H vs Q E u h=>?_)
 ·obtain⟨a,Y,m,rfl,_⟩:=h;rfl
 ·obtain⟨a,Y,m,rfl,e3,e6,e7,D,k⟩:=h;obtain⟨i2,a8,b8⟩:=Bk (P:=P) (w:=w) (mg:=mg) (base:=base) (f:=f) (cdv:=cdv) (A:=A) (outer:=outer) (s:=s) (H0:=H) (E:=E) u;refine⟨_,(af (ay (i:=3) scB.nd rfl (Or.inl rfl) (aR (lj rfl) rfl T.list rfl (aa (aR tu rfl T.range rfl (aa ah (aa (aD aW (pv 2) ah) ae))) ae)))
    (af (ay (i:=4) scB.nd rfl (Or.inl rfl) (bi (aa ah ae)))
    (af (ay (i:=5) scB.nd rfl (Or.inl rfl) (bi ae))
    (af (fc PassesOwn.never rfl (lx rfl T.range (aa (al v u rfl J I x .nil aM (aa (pv 0) (aa (pv 1) (aa (aD aW (pv 2) ah) ae)))) ae)) (aN (i:=6) scB.nd rfl (Or.inl rfl))
    (af (ay (i:=7) scB.nd rfl (Or.inl rfl) (cU plainAttrs_list slot_list_pop type_list_pop oA (pv 3) (aa (al v u rfl J I x .nil aM (aa (pv 0) (aa (aD aW (aD aW (pv 1) ah) (aD dw ah (pv 6))) (aa (ar aH rfl T.len boot_len (aa (pv 3) ae)) ae)))) ae)))
    (af (ay (i:=8) scB.nd rfl (Or.inl rfl) (ax bX (pv 4) (al v u rfl J I x .nil aM (aa (pv 0) (aa (aD aW (aD aW (pv 1) ah) (aD dw ah (pv 6))) (aa (ar aH rfl T.len boot_len (aa (pv 4) ae)) ae)))) (λ_ _=>rfl)))
    (af (ay (i:=9) scB.nd rfl (Or.inl rfl) (ax bX (bi (aa aG (aa aG (aa aG (aa aG ae))))) (al v u rfl J I x .nil aM (aa (pv 0) (aa (aD aW (aD aW (pv 1) ah) (aD dw ah (pv 6))) (aa ah ae)))) (λ_ _=>rfl)))
    (af (ay (i:=10) scB.nd rfl (Or.inl rfl) cn)
    (af (aP (am rC (al v u rfl J I x .nil aM (aa (pv 0) (aa (aD aW (aD aW (pv 1) ah) (aD dw ah (pv 6))) (aa ah ae)))) ah (au _)) (ak (ay (i:=10) scB.nd rfl (Or.inl rfl) (ax bX (bi (aa ah (aa ah (aa ah (aa ah ae))))) (al v u rfl J I x .nil aM (aa (pv 0) (aa (aD aW (aD aW (pv 1) ah) (aD dw ah (pv 6))) (aa ah ae)))) (λ_ _=>rfl)))) aA)
    (ak a8)))))))
    (ak (aw (aR bj rfl T.tuple rfl (aa (ar iH rfl T.sorted boot_sorted (aa (pv 5) ae)) ae)))))))),?_⟩
  refine⟨_,rfl,_,_,rfl,rfl,_,_,rfl,λa7 R=>⟨a7,_,_,rfl,ac,⟨by decide,by decide,by omega,by omega⟩,by omega,λd S=>?_⟩⟩;refine⟨aq (by decide),λpf L=>⟨zero_le _,λpn G=>?_⟩⟩;have d0:Same H (upd (upd (upd (upd H a7 (.rng 1 (m+4))) d (.lst ((List.range (m+4-1:Int).toNat).map λk=>V.int (1+(k:Nat))))) pf (.lst [.int 0])) pn (.lst [])):=(((ag R).trans (ag S)).trans (ag L)).trans (ag G);have a0:d≠pf:=λe=>by rw[←e,ac]at L;cases L
  have c1:d≠pn:=λe=>by rw[←e,ai a0,ac]at G;cases G
  have b9:pf≠pn:=λe=>by rw[←e,ac]at G;cases G
  have d4:Sta H d pf pn (upd (upd (upd (upd H a7 (.rng 1 (m+4))) d (.lst ((List.range (m+4-1:Int).toNat).map λk=>V.int (1+(k:Nat))))) pf (.lst [.int 0])) pn (.lst [])) (lf0 m) [0] [] :=
   ⟨d0,by rw[ai c1,ai a0,ac,lf0,map_map];rfl,by rw[ai b9,ac];rfl,ac,λz j=>by simp at j,(ag R).free S,((ag R).trans (ag S)).free L,(((ag R).trans (ag S)).trans (ag L)).free G,a0,c1,b9⟩
  have d6:Bd [] (lf0 m):=Bd.zero e7;refine⟨_,rfl,_,rfl,_,rfl,_,_,rfl,rfl,a,_,_,rfl,e3,by omega,D.same d0,λr H1 i0 i1 g3=>⟨r,rfl,by omega,by omega,?_⟩⟩;refine ly (n:=r.toNat) (λi σ H'=>∃c zs a3 a4 a5 a6 a2,σ=[some (.ref a),some (.int Y),some (.int m),some (.ref d),some (.ref pf),some (.ref pn),a3,a4,a5,a6,a2]∧Sta H d pf pn H' c (0::TW.aT (nds zs)) zs∧Bd zs c∧(c.length:Int)+i=m+3∧zs.length≤i)
   ⟨_,[],_,_,_,_,_,rfl,d4.grow g3,d6,by rw[xA e6];omega,le_refl _⟩ (λi σ H' hi h=>?_) (λσ H' h=>?_)
  ·obtain⟨c,zs,a3,a4,a5,a6,a2,rfl,g,B,e5,f3⟩:=h;have h3:i<10:=by omega
   have i3:(0:Int)≤Y+1+6*(0+(i:Int)):=by omega
   refine⟨_,rfl,.inl ⟨rfl,_,SqL.of g.l⟩,_,rfl,_,rfl,_,_,rfl,rfl,_,rfl,_,_,rfl,rfl,.inl ⟨by decide,by decide⟩,_,_,rfl,rfl,_,rfl,d,_,rfl,.inl (SqL.of g.l),a,_,_,rfl,by omega,by rw[length_map];omega,D.same g.same,λt H2 f5 c6 g4=>?_⟩;rw[length_map]at c6;have b0:=g.grow g4;obtain⟨num,Z⟩:∃num,c[t.toNat]?=some num:=⟨_,getElem?_eq_getElem (by omega)⟩;refine⟨d,_,t,t.toNat,.int num,rfl,rfl,b0.l,by omega,by omega,by rw[length_map];exact vq f5 c6,by rw[getElem?_map,Z];rfl,?_⟩;rw[lR];have N:=b0.pop (c.eraseIdx t.toNat);have O:(c.eraseIdx t.toNat).length=c.length-1:=List.length_eraseIdx_of_lt (by omega);generalize upd H2 d (.lst ((c.eraseIdx t.toNat).map V.int))=g8 at N⊢;refine⟨_,rfl,_,rfl,_,rfl,_,_,rfl,rfl,_,rfl,_,_,rfl,rfl,.inl ⟨by decide,by decide⟩,_,_,rfl,rfl,_,rfl,pf,_,rfl,.inl (SqL.of N.f),a,_,_,rfl,by omega,by rw[length_map,length_cons];omega,D.same N.same,λh4 g9 f6 c7 g5=>?_⟩;rw[length_map]at c7;obtain⟨U,c9,e1⟩:=si f6 c7;have b1:=N.grow g5;refine⟨pf,_,_,_,rfl,rfl,SqL.of b1.f,e1,?_⟩;refine⟨aq (by decide),λg1 e9=>?_⟩;have b2:=b1.grow (ag (o:=.lst [.str "a",.str "b",.str "c",.str "abcde"]) e9);refine⟨_,rfl,_,rfl,_,_,rfl,rfl,_,rfl,_,_,rfl,rfl,.inl ⟨by decide,by decide⟩,_,_,rfl,rfl,a,_,_,rfl,by omega,by decide,D.same b2.same,λh5 h0 f7 f8 d1=>?_⟩;obtain⟨nm,c3,e0⟩:=sj f7 f8;refine⟨g1,_,_,_,rfl,rfl,SqL.of (d1 _ _ ac),e0,?_⟩;have b3:=b2.grow d1;refine⟨_,rfl,_,rfl,_,_,rfl,rfl,_,rfl,_,_,rfl,rfl,.inl ⟨by decide,by decide⟩,_,_,rfl,rfl,a,_,_,rfl,by omega,by decide,D.same b3.same,λh6 d7 h7 h8 g6=>⟨_,_,rfl,rfl,_,rfl,?_⟩⟩;have b4:=b3.grow g6;refine qj (λe4=>?_) (λe4=>?_)
   ·refine⟨aq (by decide),λa8 f0=>?_⟩;have b5:=b4.grow (ag (o:=.lst [.int 0,.int 1,.int 2,.int 999]) f0);refine⟨_,rfl,_,rfl,_,_,rfl,rfl,_,rfl,_,_,rfl,rfl,.inl ⟨by decide,by decide⟩,_,_,rfl,rfl,a,_,_,rfl,by omega,by decide,D.same b5.same,λh9 d8 f9 g0 d2=>?_⟩;obtain⟨c5,f1,e2⟩:=xz f9 g0;refine⟨a8,_,_,_,rfl,rfl,SqL.of (d2 _ _ ac),e2,?_⟩;have d5:=b5.grow d2;exact b8 _ H d8 d pf pn _ _ _ _ (c.eraseIdx t.toNat) zs num U nm (some c5) d5 (by omega) (λH' W=>⟨_,zs,_,_,_,_,_,rfl,W,B.skip _,by rw[O];omega,by omega⟩)
     (λq H' a1 X=>⟨_,_,_,_,_,_,_,rfl,X,B.add (q:=q) (n:=⟨num,U,nm,(some c5)⟩) Z c9 a1 c3 f1,by rw[O];omega,by rw[length_append,length_singleton];omega⟩)
   ·exact b8 _ H d7 d pf pn _ _ _ _ (c.eraseIdx t.toNat) zs num U nm none b4 (by omega) (λH' W=>⟨_,zs,_,_,_,_,_,rfl,W,B.skip _,by rw[O];omega,by omega⟩)
     (λq H' a1 X=>⟨_,_,_,_,_,_,_,rfl,X,B.add (q:=q) (n:=⟨num,U,nm,none⟩) Z c9 a1 c3 (.inl rfl),by rw[O];omega,by rw[length_append,length_singleton];omega⟩)
  ·obtain⟨c,zs,a3,a4,a5,a6,a2,rfl,g,B,e5,f3⟩:=h;have f4:(zs.length:Int)≤m:=by omega
   have e8:(zs.map tp).map (·.2.1)=(nds zs).map (·.num):=by
    unfold nds;simp only[map_map];rfl
   have c2:((nds zs).map (·.num)).Nodup:=(nodup_append.mp B.nd).1;refine⟨_,rfl,pn,zs.map tp,rfl,SqL.of (by rw[g.n,jo]),λz j=>?_,by rw[e8];exact c2,by rw[length_map];omega,λM g2 g7 p c4=>?_⟩
   ·obtain⟨y,f2,rfl⟩:=mem_map.mp j;exact g.nd y f2
   ·obtain⟨a9,b6⟩:=back g2;have d9:(M.map (·.1)).map V.ref=aY (M.map un):=by rw[←jo,b6]
    rw[d9];refine⟨p,_,rfl,.inl ⟨SqL.of ac,λl c0=>?_⟩⟩;have c8:∀z,z∈M.map un→z∈zs:=λz j=>a9.mem_iff.mp j;refine k l (M.map un) _ ac ?_ (by rw[a9.length_eq];exact f4) ?_ (λz j=>B.ok z (c8 z j)) ((g.same.trans (ag c4)).trans (ag c0))
    ·intro z j;exact((ag c4).trans (ag c0)) _ _ (g.nd z (c8 z j))
    ·refine TW.xv B.built (a9.map _) ?_ c2 B.own;unfold nds;rw[pairwise_map];have d3:((M.map un).map tp).Pairwise (λa b=>a.2.1<b.2.1):=by rw[b6];exact g7
     rw[pairwise_map]at d3;exact d3.imp λh=>Int.le_of_lt h
end
def edS(i:Nat):Stmt:=(br ja).getD i (.Pass ⟨0,0,0,0⟩)
def EN:List Str:=["_law_script","_law_at","_law_tree_here","_law_numbers","_law_some","_law_number","_law_folders","_law_parent","_law_name","_law_way","_law_stamp","_law_new"]
theorem dY:FnScope EN ["_law_script","_law_at","_law_tree_here"] (aj ja):=fsc
abbrev EX(P:Program)(w:World)(K:PySem.W.Frag)(mg:Str→Option Value)(base:Heap)(f:Addr)(cdv:Value)(A:Around)(outer:List Env)(s:Shared)(H:Hp)(E:XK):Cx:=(gF CX0 P w K mg base EN "_law_deed" (aj ja) f cdv A outer s H E).nox
def edσ(a t:Addr)(b:Int)(e f g h i j k c d:Option V):St:=[some (.ref a),some (.int b),some (.ref t),e,f,g,h,i,j,k,c,d]
section
variable{P:Program}{w:World}{K:PySem.W.Frag}{mg:Str→Option Value}{base:Heap}{f:Addr}{cdv:Value}{A:Around}{outer:List Env}{s:Shared}{H0:Hp}{E:XK}
theorem ed0:∃t,PS (EX P w K mg base f cdv A outer s H0 E) (edS 0) t∧∀(c:Ends)(H:Hp)(a t':Addr)(d:Int)(zs:ZN),Tre H t' zs →
   (∀p H',Same H H'→H' p=some (.lst (((nds zs).map (·.num)).map V.int))→c.nx (edσ a t' d (some (.ref p)) none none none none none none none none) H')→t c (edσ a t' d none none none none none none none none none) H:=by
 refine⟨_,pj (ii:=3) (N:=["_law_node"]) (cl:=[]) (k:=1) (js:=[]) (g:=bu 0) dY.nd rfl (Or.inl rfl) rfl (cH rfl (by decide +kernel) (by decide +kernel) (by decide +kernel)) rfl (λi B x h=>by simp at h)
  (cE (pv 2)) (λs H fp=>aN (i:=0) (show(["_law_node"]:List Str).Nodup by decide +kernel) rfl (Or.inl rfl) (Or.inr rfl)) (λs H fp=>ax (r:=dR K) av (pv 0) ah (λ_ _=>rfl)),?_⟩
 intro c H a t' d zs b q;have v:=b.len;refine⟨_,rfl,t',rfl,⟨_,SqT.of b.tup⟩,λp m=>?_⟩;refine dJ (fr:=[]) zs (λz=>V.ref z.1) (by omega) m (eR (by rw[cr];exact SqT.of b.tup)) rfl (λz y _=>y=.int z.2.num) (λz y H H' h _=>h) (λz H' k u e _ l=>⟨_,rfl,z.1,_,_,_,rfl,rfl,SqT.of (e _ _ (b.nod z u)),at0 z.2,l _ H' (Same.refl _) rfl⟩) (λys H' e n o=>?_);have j:=cq (f:=λz:Addr×Nd=>V.int z.2.num) o (λz y _ h=>h);refine q p H' e ?_;rw[n,j];unfold nds;rw[map_map,map_map];rfl
theorem ed1:∃t,PS (EX P w K mg base f cdv A outer s H0 E) (edS 1) t∧∀(b:Ends)(H:Hp)(a t' p:Addr)(c:Int)(ns:List Int),H p=some (.lst (ns.map V.int))→ns.length≤60 →
   (∀q H',Same H H'→H' q=some (.lst ((ns++ns++ns++[55]).map V.int))→b.nx (edσ a t' c (some (.ref p)) (some (.ref q)) none none none none none none none) H')→t b (edσ a t' c (some (.ref p)) none none none none none none none none) H:=by
 refine⟨_,ay (i:=4) dY.nd rfl (Or.inl rfl) (aD iA (aD iA (aD iA (pv 3) (pv 3)) (pv 3)) (bi (aa ah ae))),?_⟩;intro b H a t' p c ns d n q;refine⟨_,rfl,_,rfl,p,p,_,_,rfl,rfl,d,d,aq (by rw[length_map];omega),λh h1=>?_⟩;have e:=ag (o:=.lst (ns.map V.int++ns.map V.int)) h1;refine⟨_,rfl,h,p,_,_,rfl,rfl,ac,e _ _ d,aq (by rw[length_append,length_map];omega),λp2 h2=>?_⟩;have l:=e.trans (ag (o:=.lst (ns.map V.int++ns.map V.int++ns.map V.int)) h2);refine⟨aq (show 1≤1000 by decide),λj h3=>?_⟩;have m:=l.trans (ag (o:=.lst [.int 55]) h3);refine⟨p2,j,_,_,rfl,rfl,aS h3 ac,ac,aq (by rw[length_append,length_append,length_map];show _+1≤1000;omega),λk g=>?_⟩;refine q k _ (m.trans (ag g)) ?_;rw[ac];simp only[map_append,map_cons,map_nil]
theorem ed3:∃t,PS (EX P w K mg base f cdv A outer s H0 E) (edS 3) t∧∀(d:Ends)(H:Hp)(a t':Addr)(e:Int)(zs:ZN)(n o u:Option V),Tre H t' zs →
   (∀p H' (fs:List Int),Same H H'→H' p=some (.lst (fs.map V.int))→(∀x∈fs,x=0∨∃m∈nds zs,m.num=x)→1≤fs.length→fs.length≤31→d.nx (edσ a t' e n o u (some (.ref p)) none none none none none) H')→t d (edσ a t' e n o u none none none none none none) H:=by
 refine⟨_,ay (i:=6) dY.nd rfl (Or.inl rfl) (aD iA (iC (N:=["_law_node"]) (cl:=[]) (k:=1) (js:=[]) (g:=bu 0) rfl (cH rfl (by decide +kernel) (by decide +kernel) (by decide +kernel)) rfl (λi O x h=>by simp at h)
  (cE (pv 2)) (λs H fp=>aN (i:=0) (show(["_law_node"]:List Str).Nodup by decide +kernel) rfl (Or.inl rfl) (Or.inr rfl)) (λs H fp=>am fe (ax (r:=dR K) av (pv 0) ah (λ_ _=>rfl)) cn (au _)) (λs H fp=>ax (r:=dR K) av (pv 0) ah (λ_ _=>rfl))) (bi (aa ah ae))),?_⟩
 intro d H a t' e zs n o u c q;have M:=c.len;refine⟨_,rfl,t',rfl,⟨_,SqT.of c.tup⟩,λp C=>?_⟩;refine iL (fr:=[]) zs (λz=>V.ref z.1) (by omega) C (eR (by rw[cr];exact SqT.of c.tup)) rfl (λz=>decide (stV z.2.st=V.non)) (λz y _=>y=.int z.2.num) (λz y H H' h _=>h) (λz H' k l b _ j=>⟨_,rfl,z.1,_,_,_,rfl,rfl,SqT.of (b _ _ (c.nod z l)),at3 z.2,rfl,_,rfl,j H' (Same.refl _)⟩)
  (λz H' k l _ b _ j=>⟨_,rfl,z.1,_,_,_,rfl,rfl,SqT.of (b _ _ (c.nod z l)),at0 z.2,j _ H' (Same.refl _) rfl⟩) (λys H' b D G=>?_)
 have v:=cq (f:=λz:Addr×Nd=>V.int z.2.num) G (λz y _ h=>h);have L:=length_filter_le (λz:Addr×Nd=>decide (stV z.2.st=V.non)) zs;have B:ys=((zs.filter λz:Addr×Nd=>decide (stV z.2.st=V.non)).map λz=>z.2.num).map V.int:=by rw[v,map_map];rfl
 refine⟨aq (show 1≤1000 by decide),λp2 h2=>?_⟩;refine⟨p,p2,_,_,rfl,rfl,aS h2 D,ac,aq (by rw[v,length_map];show _+1≤1000;omega),λJ h3=>?_⟩;refine q J _ (((zs.filter λz:Addr×Nd=>decide (stV z.2.st=V.non)).map λz=>z.2.num)++[0]) ((b.trans (ag h2)).trans (ag h3)) ?_ (λx F=>?_) (by simp) (by rw[length_append,length_map];simp;omega)
 ·rw[ac,B,map_append];rfl
 ·rcases mem_append.mp F with h|h
  ·obtain⟨z,I,rfl⟩:=mem_map.mp h;exact .inr ⟨z.2,bZ (mem_filter.mp I).1,rfl⟩
  ·exact .inl (by simpa using h)
end
def Al:List Stmt:=match edS 7 with
 |.If _ a _ _=>a
 |_=>[]
theorem wA{j:Int}(b:0≤j)(c:j<6):∃st,atI [V.non,.non,.int 0,.int 1,.int 2,.int 3] j=some (stV st)∧xG st:=by
 have a:j=0∨j=1∨j=2∨j=3∨j=4∨j=5:=by omega
 rcases a with rfl|rfl|rfl|rfl|rfl|rfl
 ·exact⟨none,rfl,λi e=>by cases e⟩
 ·exact⟨none,rfl,λi e=>by cases e⟩
 ·exact⟨some 0,rfl,λi e=>by cases e;decide⟩
 ·exact⟨some 1,rfl,λi e=>by cases e;decide⟩
 ·exact⟨some 2,rfl,λi e=>by cases e;decide⟩
 ·exact⟨some 3,rfl,λi e=>by cases e;decide⟩
theorem wB{j:Int}(b:0≤j)(c:j<4):∃i,atI [V.int 0,.int 1,.int 2,.int 998] j=some (.int i)∧0≤i∧i≤999:=by
 have a:j=0∨j=1∨j=2∨j=3:=by omega
 rcases a with rfl|rfl|rfl|rfl
 ·exact⟨0,rfl,by decide,by decide⟩
 ·exact⟨1,rfl,by decide,by decide⟩
 ·exact⟨2,rfl,by decide,by decide⟩
 ·exact⟨998,rfl,by decide,by decide⟩
theorem wC{j x y:Int}(b:0≤j)(c:j<5):∃z,atI [V.int x,.int y] (j / 4)=some (.int z)∧(z=x∨z=y):=by
 have a:j / 4=0∨j / 4=1:=by omega
 rcases a with e|e
 ·rw[e];exact⟨x,rfl,.inl rfl⟩
 ·rw[e];exact⟨y,rfl,.inr rfl⟩
section
variable{P:Program}{w:World}{K:PySem.W.Frag}{mg:Str→Option Value}{base:Heap}{f:Addr}{cdv:Value}{A:Around}{outer:List Env}{s:Shared}{H0:Hp}{E:XK}
theorem edM(k:Room 2 (A.deeper (PyProof.Rows.envOfC "_law_deed" (aj ja) s.heap.objs.size f cdv)))(L:Has P w K mg base 2 "_law_pick" ["_law_script","_law_k","_law_many"] (eW K)):
  ∃t,PSs (EX P w K mg base f cdv A outer s H0 E) Al t∧∀(b:Ends)(H:Hp)(a t':Addr)(g n p:Int)(nm:Str)(F G I J:Option V),eG K H a→0≤g→1≤n→n≤60→0≤p→p≤60→lp nm →
   (∀c dd H',Same H H'→H' c=some (.tup (cf dd))→dF dd→b.rt (.ref c) H')→t b (edσ a t' g F G (some (.int n)) I (some (.int p)) (some (.str nm)) J none none) H:=by
 obtain⟨a7,a8,d,m,l,h⟩:=L;refine⟨_,af (ay (i:=10) dY.nd rfl (Or.inl rfl) (ax bX (bi (aa cn (aa cn (aa ah (aa ah (aa ah (aa ah ae))))))) (al d k rfl m l h .nil aM (aa (pv 0) (aa (aD aW (pv 1) ah) (aa ah ae)))) (λ_ _=>rfl)))
  (af (ay (i:=11) dY.nd rfl (Or.inl rfl) (ax bX (bi (aa (aD aW ah (al d k rfl m l h .nil aM (aa (pv 0) (aa (aD aW (pv 1) ah) (aa ah ae))))) (aa (pv 5) ae))) (aD rl (al d k rfl m l h .nil aM (aa (pv 0) (aa (aD aW (pv 1) ah) (aa ah ae)))) ah) (λ_ _=>rfl)))
  (ak (aw (be (aa aG (aa (pv 11) (aa (pv 7) (aa (pv 8) (aa (pv 10) ae))))))))),?_⟩
 intro b H a t' g n p nm F G I J j a9 b0 b1 T U S q;refine⟨aq (show 6≤1000 by decide),λa1 Q=>?_⟩;have v:=ag (o:=.lst [.non,.non,.int 0,.int 1,.int 2,.int 3]) Q;refine⟨_,rfl,_,rfl,_,_,rfl,rfl,a,_,_,rfl,by omega,by decide,j.same v,λb2 H1 X Y B=>?_⟩;obtain⟨st,N,W⟩:=wA X Y;refine⟨a1,_,_,_,rfl,rfl,SqL.of (B _ _ ac),N,?_⟩;have z:=v.trans B;refine⟨_,rfl,_,rfl,_,_,rfl,rfl,a,_,_,rfl,by omega,by decide,j.same z,λu H2 b3 b4 a5=>?_⟩;refine⟨_,_,rfl,rfl,_,rfl,le2,λa2 R=>?_⟩;have a4:=z.trans a5;have C:=a4.trans (ag (o:=.lst [.int (1+u),.int n]) R);refine⟨_,rfl,_,rfl,_,_,rfl,rfl,a,_,_,rfl,by omega,by decide,j.same C,λb5 a6 Z a0 D=>?_⟩;obtain⟨a3,M,r⟩:=wC (x:=1+u) (y:=n) Z a0;refine⟨_,_,rfl,rfl,⟨by decide,by decide⟩,a2,_,_,_,rfl,rfl,SqL.of (D _ _ ac),M,?_⟩;refine⟨_,rfl,_,rfl,_,rfl,_,rfl,(show 5≤sizeLine from aq (by decide)),λc O=>?_⟩;refine q c (.make a3 p nm st) _ ((C.trans D).trans (ag O)) ac ⟨?_,?_,T,U,S,W⟩
 ·rcases r with e|e<;>omega
 ·rcases r with e|e<;>omega
theorem ed7(z:Room 2 (A.deeper (PyProof.Rows.envOfC "_law_deed" (aj ja) s.heap.objs.size f cdv)))(B:Has P w K mg base 2 "_law_pick" ["_law_script","_law_k","_law_many"] (eW K)):
  ∃t,PS (EX P w K mg base f cdv A outer s H0 E) (edS 7) t∧∀(b:Ends)(H:Hp)(a t' pn:Addr)(d n p g:Int)(nm:Str)(ns:List Int)(h i:Option V),eG K H a→0≤d→1≤n→n≤60→0≤p→p≤60→lp nm→H pn=some (.lst (ns.map V.int)) →
   (∀c dd H',Same H H'→H' c=some (.tup (cf dd))→dF dd→b.rt (.ref c) H')→(∀H',Same H H'→b.nx (edσ a t' d (some (.ref pn)) h (some (.int n)) i (some (.int p)) (some (.str nm)) (some (.int g)) none none) H') →
   t b (edσ a t' d (some (.ref pn)) h (some (.int n)) i (some (.int p)) (some (.str nm)) (some (.int g)) none none) H:=by
 obtain⟨J,G,j⟩:=edM (f:=f) (cdv:=cdv) (outer:=outer) (H0:=H0) (E:=E) z B;refine⟨_,aP (PW.pt (pw_or (am gn (pv 9) ah (au _)) (pw_or1 (am (jV z.units0) (pv 3) (bi ae) (au _))))) G aA,?_⟩;intro b H a t' pn d n p g nm ns h i k m r u x y v F q I;refine⟨_,rfl,_,_,rfl,rfl,_,rfl,?_⟩;refine qj (λD=>?_) (λD=>?_)
 ·exact aQ (j b H a t' d n p nm _ _ _ _ k m r u x y v q)
 ·refine⟨_,rfl,zero_le _,λl C=>?_⟩;have e:=ag (o:=.lst []) C;refine⟨pn,l,_,rfl,rfl,SqL.of (e _ _ F),SqL.of ac,_,rfl,?_⟩;refine qj (λ_=>?_) (λ_=>?_)
  ·exact j b _ a t' d n p nm _ _ _ _ (k.same e) m r u x y v λc dd H' s'=>q c dd H' (e.trans s')
  ·exact I _ e
theorem ed8(L:Room 2 (A.deeper (PyProof.Rows.envOfC "_law_deed" (aj ja) s.heap.objs.size f cdv)))(v:Has P w K mg base 2 "_law_pick" ["_law_script","_law_k","_law_many"] (eW K)):
  ∃t,PSs (EX P w K mg base f cdv A outer s H0 E) [edS 8,edS 9,edS 10] t∧∀(d:Ends)(H:Hp)(a t':Addr)(e n p l:Int)(nm:Str)(m r u:Option V),eG K H a→0≤e→1≤n→n≤60→0≤p→p≤60→lp nm →
   (∀c dd H',Same H H'→H' c=some (.tup (cf dd))→dF dd→d.rt (.ref c) H') →
   t d (edσ a t' e m r (some (.int n)) u (some (.int p)) (some (.str nm)) (some (.int l)) none none) H:=by
 obtain⟨S,T,x,R,O,y⟩:=v;refine⟨_,af (aP (am cB (pv 9) ah (au _)) (ak (aw (be (aa aG (aa (pv 5) (aa (ax bX (bi (aa ah (aa ah (aa ah (aa ah ae))))) (al x L rfl R O y .nil aM (aa (pv 0) (aa (aD aW (pv 1) ah) (aa ah ae)))) (λ_ _=>rfl)) ae)))))) aA)
  (af (aP (am gn (pv 9) ah (au _)) (ak (aw (be (aa aG (aa (pv 5) (aa (pv 7) (aa (pv 8) ae))))))) aA)
  (ak (aw (be (aa aG (aa (pv 5) ae)))))),?_⟩
 intro d H a t' e n p l nm m r u B U g h I J G q;refine⟨_,rfl,rfl,_,rfl,?_⟩;refine qj (λ_=>?_) (λ_=>?_)
 ·refine⟨_,rfl,aq (show 4≤1000 by decide),λQ F=>?_⟩;have j:=ag (o:=.lst [.int 0,.int 1,.int 2,.int 998]) F;refine⟨_,rfl,_,rfl,_,_,rfl,rfl,a,_,_,rfl,by omega,by decide,B.same j,λW H1 M N k=>?_⟩;obtain⟨i,z,C,D⟩:=wB M N;refine⟨Q,_,_,_,rfl,rfl,SqL.of (k _ _ ac),z,(show 3≤sizeLine from aq (by decide)),λc b=>?_⟩;exact q c (.write n i) _ ((j.trans k).trans (ag b)) ac ⟨g,h,C,D⟩
 ·refine⟨_,rfl,_,_,rfl,rfl,_,rfl,?_⟩;refine qj (λ_=>?_) (λ_=>?_)
  ·exact⟨_,rfl,_,rfl,_,rfl,(show 4≤sizeLine from aq (by decide)),λc b=>q c (.move n p nm) _ (ag b) ac ⟨g,h,I,J,G⟩⟩
  ·exact⟨_,rfl,(show 2≤sizeLine from le2),λc b=>q c (.drop n) _ (ag b) ac ⟨g,h⟩⟩
def nQ(K:PySem.W.Frag):Sp:=λvs H Q _=>∃a b t zs,vs=[.ref a,.int b,.ref t]∧0≤b∧eG K H a∧Tre H t zs∧(∀n∈nds zs,eT n)∧∀c dd H',Same H H'→H' c=some (.tup (cf dd))→dF dd→Q (.ref c) H'
theorem yi{f:Addr}{a0:FuncData}(F:Fun K "_law_deed" "_law_deed" ja f a0)(T:Txt mg)(G:Has P w K mg base 2 "_law_pick" ["_law_script","_law_k","_law_many"] (eW K)):FnOk P w K mg base CX0 3 f a0 ["_law_script","_law_at","_law_tree_here"] (nQ K):=by
 obtain⟨f5,f6,r,B,y,u⟩:=id G;refine F.ok dY (λvs H Q E h=>?_) (λcdv A outer s H vs Q E j h=>?_)
 ·obtain⟨a,b,t,zs,rfl,_⟩:=h;rfl
 ·obtain⟨a,b,t,zs,rfl,I,g,Y,L,q⟩:=h;obtain⟨g4,e3,c7⟩:=ed0 (P:=P) (w:=w) (K:=K) (mg:=mg) (base:=base) (f:=f) (cdv:=cdv) (A:=A) (outer:=outer) (s:=s) (H0:=H) (E:=E);obtain⟨g5,e4,h1⟩:=ed1 (P:=P) (w:=w) (K:=K) (mg:=mg) (base:=base) (f:=f) (cdv:=cdv) (A:=A) (outer:=outer) (s:=s) (H0:=H) (E:=E);obtain⟨g6,e5,h3⟩:=ed3 (P:=P) (w:=w) (K:=K) (mg:=mg) (base:=base) (f:=f) (cdv:=cdv) (A:=A) (outer:=outer) (s:=s) (H0:=H) (E:=E);obtain⟨g7,e6,c8⟩:=ed7 (f:=f) (cdv:=cdv) (outer:=outer) (H0:=H) (E:=E) j G;obtain⟨g8,e7,c9⟩:=ed8 (f:=f) (cdv:=cdv) (outer:=outer) (H0:=H) (E:=E) j G;refine⟨_,af e3 (af e4
   (af (ay (i:=5) dY.nd rfl (Or.inl rfl) (ax bX (pv 4) (al r j rfl B y u .nil aM (aa (pv 0) (aa (pv 1) (aa (ar aH rfl T.len boot_len (aa (pv 4) ae)) ae)))) (λ_ _=>rfl)))
   (af e5
   (af (ay (i:=7) dY.nd rfl (Or.inl rfl) (ax bX (aD iA (aD iA (pv 6) (pv 6)) (pv 4)) (al r j rfl B y u .nil aM (aa (pv 0) (aa (aD aW (pv 1) ah) (aa (aD aW (aD dw ah (ar aH rfl T.len boot_len (aa (pv 6) ae))) (ar aH rfl T.len boot_len (aa (pv 4) ae))) ae)))) (λ_ _=>rfl)))
   (af (ay (i:=8) dY.nd rfl (Or.inl rfl) (ax bX (bi (aa aG (aa aG (aa aG (aa aG ae))))) (al r j rfl B y u .nil aM (aa (pv 0) (aa (aD aW (pv 1) ah) (aa ah ae)))) (λ_ _=>rfl)))
   (af (ay (i:=9) dY.nd rfl (Or.inl rfl) (al r j rfl B y u .nil aM (aa (pv 0) (aa (aD aW (pv 1) ah) (aa ah ae)))))
   (af e6 e7))))))),?_⟩
  have f9:=Y.len;have J:∀x∈(nds zs).map (·.num),1≤x∧x≤60:=λx d=>by
   obtain⟨n,a3,rfl⟩:=mem_map.mp d;exact⟨(L n a3).1,(L n a3).2.1⟩
  refine c7 _ H a t b zs Y λb1 H1 e8 N=>?_;generalize d5:(nds zs).map (·.num)=ns at N J;have g0:ns.length=zs.length:=by rw[←d5,length_map,aI]
  refine h1 _ H1 a t b1 b ns N (by omega) λps H2 b7 v=>?_;have O:∀x∈ns++ns++ns++[55],1≤x∧x≤60:=λx d=>by
   rcases mem_append.mp d with h|h
   ·rcases mem_append.mp h with h|h
    ·rcases mem_append.mp h with h|h<;>exact J x h
    ·exact J x h
   ·have:x=55:=by simpa using h
    omega
  have d6:(ns++ns++ns++[55]).length≤100∧1≤(ns++ns++ns++[55]).length:=by simp;omega
  generalize ns++ns++ns++[55]=k at v O d6⊢;have b2:=e8.trans b7;refine⟨_,rfl,_,rfl,_,rfl,_,rfl,ps,_,rfl,.inl (SqL.of v),a,b,_,rfl,I,by rw[length_map];omega,g.same b2,λg1 c2 d7 b0 D=>?_⟩;rw[length_map]at b0;obtain⟨n,c4,a4,a5⟩:=so d7 b0 O;refine⟨ps,_,_,_,rfl,rfl,SqL.of (D _ _ v),c4,?_⟩;have b3:=b2.trans D;refine h3 _ c2 a t b zs _ _ _ (Y.same b3) λS Z fs U M d1 f7 f8=>?_;have e9:=b3.trans U;have a9:=U _ _ (D _ _ v);refine⟨_,rfl,_,rfl,S,S,_,_,rfl,rfl,M,M,aq (by rw[length_map];omega),λR d2=>?_⟩;have c0:=ag (o:=.lst (fs.map V.int++fs.map V.int)) d2;refine⟨_,rfl,R,ps,_,_,rfl,rfl,ac,c0 _ _ a9,aq (by rw[length_append,length_map,length_map];omega),λz d3=>?_⟩;have l:=c0.trans (ag (o:=.lst (fs.map V.int++fs.map V.int++k.map V.int)) d3);have a1:upd (upd Z R (.lst (fs.map V.int++fs.map V.int))) z (.lst (fs.map V.int++fs.map V.int++k.map V.int)) z=some (.lst ((fs++fs++k).map V.int)):=by rw[ac];simp only[map_append]
  generalize upd (upd Z R (.lst (fs.map V.int++fs.map V.int))) z (.lst (fs.map V.int++fs.map V.int++k.map V.int))=f2 at l a1⊢;have b4:=e9.trans l;refine⟨_,rfl,_,rfl,_,_,rfl,rfl,_,rfl,S,_,rfl,.inl (SqL.of (l _ _ M)),_,_,rfl,rfl,.inl ⟨by decide,by decide⟩,_,rfl,ps,_,rfl,.inl (SqL.of (l _ _ a9)),_,_,rfl,rfl,a,_,_,rfl,by omega,by rw[length_map,length_map];omega,g.same b4,λg2 f3 d8 d9 W=>?_⟩;rw[length_map,length_map]at d9;obtain⟨p,c5,a7,a8⟩:=so (ns:=fs++fs++k) (P:=λx=>0≤x∧x≤60) d8 (by rw[length_append,length_append];omega) (λx d=>by
   have d0:∀x∈fs,0≤x∧x≤60:=λx d=>by
    rcases d1 x d with e|⟨m,d4,e⟩
    ·omega
    ·have:=L m d4;have h1:=this.1;have h2:=this.2.1;omega
   rcases mem_append.mp d with h|h
   ·rcases mem_append.mp h with h|h<;>exact d0 x h
   ·have:=O x h;omega)
  refine⟨z,_,_,_,rfl,rfl,SqL.of (W _ _ a1),c5,?_⟩;have f0:=b4.trans W;refine⟨aq (show 4≤1000 by decide),λe2 a2=>?_⟩;have b5:=f0.trans (ag (o:=.lst [.str "a",.str "b",.str "c",.str "abcde"]) a2);refine⟨_,rfl,_,rfl,_,_,rfl,rfl,a,_,_,rfl,by omega,by decide,g.same b5,λg3 f4 e0 e1 X=>?_⟩;obtain⟨nm,a6,c6⟩:=sj e0 e1;refine⟨e2,_,_,_,rfl,rfl,SqL.of (X _ _ ac),c6,?_⟩;have b6:=b5.trans X;refine⟨_,rfl,_,rfl,_,_,rfl,rfl,a,_,_,rfl,by omega,by decide,g.same b6,λc1 H8 _ _ b8=>?_⟩;have C:=b6.trans b8;have f1:Same H1 H8:=((((b7.trans D).trans U).trans l).trans W).trans ((ag a2).trans (X.trans b8));refine c8 _ H8 a t b1 b n p c1 nm ns _ _ (g.same C) I a4 a5 a7 a8 a6 (f1 _ _ N) (λc dd H' s'=>q c dd H' (C.trans s')) λc3 b9=>?_;exact c9 _ c3 a t b n p c1 nm _ _ _ (g.same (C.trans b9)) I a4 a5 a7 a8 a6 λc dd H' s'=>q c dd H' ((C.trans b9).trans s')
end
def letters:Str:="abcdefghijklmnopqrstuvwxyz"
def inL(c:Nat):Bool:=!(Builtin.Str.occurrences letters ⟨#[c]⟩ 0 letters.length 1).isEmpty
def wD(x:Str):Bool:=decide (1≤x.length)&&decide (x.length≤5)&&x.cps.toList.all inL
theorem lp.b{x:Str}(h:lp x):wD x=true:=by rcases h with e|e|e|e<;>rw[e]<;>decide +kernel
section
variable{P:Program}{w:World}{K:PySem.W.Frag}{mg:Str→Option Value}{base:Heap}
def jw:Sp:=λvs H Q _=>∃i,vs=[.int i]∧Q (.bl true) H
theorem yj:FnScope ["thing"] ["thing"] (aj qD):=fsc
theorem wE{f:Addr}{a:FuncData}(F:Fun K "is_whole" "is_whole" qD f a)(T:Txt mg):FnOk P w K mg base CX0 1 f a ["thing"] jw:=by
 refine F.ok yj (λvs H Q E h=>?_) (λcdv A outer s H vs Q E b h=>?_)
 ·obtain⟨v,rfl,_⟩:=h;rfl
 ·obtain⟨i,rfl,k⟩:=h;refine⟨_,ak (aw (lZ (ar cC rfl T.isin boot_isinstance (aa (pv 0) (aa (eL (v:=.ty "int") rfl T.int boot_int rfl) ae)))
   (lY (yK (ar cC rfl T.isin boot_isinstance (aa (pv 0) (aa (eL (v:=.ty "bool") rfl T.bool boot_bool rfl) ae))))))),?_⟩
  exact⟨_,rfl,_,_,_,_,rfl,.int i,(by kernel_rfl:_=some true),_,rfl,aQ ⟨_,rfl,_,_,_,_,rfl,.int i,(by kernel_rfl:_=some false),_,rfl,k⟩⟩
def re:Sp:=λvs H Q _=>∃x,vs=[.str x]∧wD x=true∧∀H',Same H H'→Q (.bl true) H'
theorem Am:FnScope ["thing"] ["thing"] (aj vz):=fsc
theorem yk{f:Addr}{n:FuncData}(F:Fun K "is_name" "is_name" vz f n)(T:Txt mg):FnOk P w K mg base CX0 1 f n ["thing"] re:=by
 obtain⟨tl,B⟩:=T.letters;obtain⟨R,C⟩:=T.longest;refine F.ok Am (λvs H Q E h=>?_) (λcdv A outer s H vs Q E M h=>?_)
 ·obtain⟨v,rfl,_⟩:=h;rfl
 ·obtain⟨x,rfl,e,k⟩:=h;refine⟨_,af (aP (PW.pt (pw_or (cN (cZ (ar cC rfl T.isin boot_isinstance (aa (pv 0) (aa (eL (v:=.ty "str") rfl T.str boot_str rfl) ae))) (λ_=>rfl)))
    (pw_or1 (cN (oq oo oo ah (ar mQ rfl T.len boot_len (aa (pv 0) ae)) (cg (v:=.int 5) rfl C ⟨_,rfl⟩))))))
   (ak (aw eA)) aA)
   (ak (aw (ar (jU rfl) rfl T.all boot_all (aa (eD (N:=["sign"]) (k:=1) (js:=[]) rfl (cH rfl (by decide +kernel) (by decide +kernel) (by decide +kernel)) rfl (λi r x h=>by simp at h)
    (zq (pv 0)) (λs H fp=>aN (i:=0) (show(["sign"]:List Str).Nodup by decide +kernel) rfl (Or.inl rfl) (Or.inr rfl)) (λs H fp=>eM sL (pv 0) (cg (v:=.str letters) rfl B ⟨_,rfl⟩) (by with_unfolding_all rfl))) ae)))),?_⟩
  unfold wD at e;rw[and_eq_true,and_eq_true,decide_eq_true_eq,decide_eq_true_eq]at e;obtain⟨⟨j,l⟩,t⟩:=e;refine⟨_,rfl,_,_,_,_,rfl,.str x,(by kernel_rfl:_=some true),_,rfl,aC ?_⟩;refine⟨_,rfl,x,rfl,le_of_lt (aB (by omega)),_,_,rfl,rfl,_,rfl,?_⟩;have h1:decide ((1:Int)≤(x.length:Int))=true:=decide_eq_true (by omega);have h2:decide ((x.length:Int)≤5)=true:=decide_eq_true (by omega);rw[h1];refine aQ ⟨_,_,rfl,rfl,_,rfl,?_⟩;rw[h2];refine aC ?_;have O:x.cps.size=x.length:=rfl;refine⟨_,rfl,x,rfl,λp o=>?_⟩;refine oV (k:=1) (js:=[]) (J:=Its x) (p:=p) x.cps.size (by omega) (λi ys a H'=>ys=((x.cps.toList.take i).map inL).map V.bl∧a.length=1∧Same H H'∧H' p=some (.lst ys))
   ⟨rfl,rfl,ag o,ac⟩ (λi ys a H' h=>?_) (λi ys a H' hi h=>hi) (λys a H' h=>?_) (λi ys a H' hi h v H2 L=>?_) ?_ ?_
  ·rw[h.1,length_map,length_map,length_take];omega
  ·obtain⟨b,_,g,d⟩:=h;have y:ys=(x.cps.toList.map inL).map V.bl:=by rw[b,take_of_length_le (by simp)]
   subst y;refine⟨le_refl _,_,_,rfl,SqL.of d,?_⟩;have z:(x.cps.toList.map inL).all id=true:=by rw[all_map];exact t
   rw[z];exact k _ g
  ·obtain⟨b,u,g,d⟩:=h;obtain⟨rfl,c,D,rfl⟩:=L;refine⟨_,getElem?_set_self (by omega),_,_,rfl,rfl,d,?_,by simpa using u,aK o g,ac⟩
   have G:x.cps.toList[i]?=some c:=by simpa using D
   rw[b,take_succ,G];simp[inL]
  ·intro _ _ _ _ _ m q;exact m _ _ q
  ·rintro _ _ _ _ m ⟨v,I,i,r,j,l,q⟩;exact⟨v,I,i,r,j,l,m _ _ q⟩
def nR:Sp:=λvs H Q _=>∃o,vs=[stV o]∧xG o∧Q (.bl true) H
theorem ym:FnScope ["thing"] ["thing"] (aj qF):=fsc
theorem wF{f:Addr}{a:FuncData}(F:Fun K "is_stamp" "is_stamp" qF f a)(T:Txt mg)(b:Has P w K mg base 1 "is_whole" ["thing"] jw):FnOk P w K mg base CX0 2 f a ["thing"] nR:=by
 obtain⟨q,r,c,p,n,g⟩:=b;obtain⟨tg,j⟩:=T.greatest;refine F.ok ym (λvs H Q E h=>?_) (λcdv A outer s H vs Q E m h=>?_)
 ·obtain⟨v,rfl,_⟩:=h;rfl
 ·obtain⟨o,rfl,l,k⟩:=h;refine⟨_,ak (aw (AA (eM fe (pv 0) cn (au _)) (lY (lZ (al c m rfl p n g .nil aM (aa (pv 0) ae)) (lY (uk oo oo ah (pv 0) (cg (v:=.int 999) rfl j ⟨_,rfl⟩))))))),?_⟩;refine⟨_,rfl,rfl,_,rfl,?_⟩;cases o with
  |none=>exact aQ k
  |some i =>
   obtain⟨d,e⟩:=l i rfl;refine aC ⟨_,rfl,_,rfl,_,rfl,aQ ?_⟩;refine⟨_,rfl,_,_,rfl,rfl,_,rfl,?_⟩;have h1:decide (0≤i)=true:=decide_eq_true d;rw[h1];refine aQ ⟨_,_,rfl,rfl,?_⟩;have h2:decide (i≤999)=true:=decide_eq_true e;show Q (V.bl (decide (i≤999))) H;rw[h2];exact k
def rf:Sp:=λvs H Q _=>∃a n,vs=[.ref a]∧H a=some (.tup (vals n))∧eT n∧∀H',Same H H'→Q (.bl true) H'
theorem An:FnScope ["thing"] ["thing"] (aj vA):=fsc
theorem yn{f:Addr}{i:FuncData}(F:Fun K "is_node" "is_node" vA f i)(T:Txt mg)(q:Has P w K mg base 1 "is_whole" ["thing"] jw)(CN:Has P w K mg base 1 "is_name" ["thing"] re)(p:Has P w K mg base 2 "is_stamp" ["thing"] nR):FnOk P w K mg base CX0 3 f i ["thing"] rf:=by
 obtain⟨M,R,d,m,l,g⟩:=q;obtain⟨J,N,r,B,y,u⟩:=CN;obtain⟨L,O,t,C,z,x⟩:=p;refine F.ok An (λvs H Q E h=>?_) (λcdv A outer s H vs Q E j h=>?_)
 ·obtain⟨a,n,rfl,_⟩:=h;rfl
 ·obtain⟨a,n,rfl,e,I,k⟩:=h;obtain⟨S,U,D,G⟩:=I;have c:Room 1 _:=j.mono (by decide);refine⟨_,af (aP (PW.pt (pw_or (cN (cZ (ar cC rfl T.isin boot_isinstance (aa (pv 0) (aa (eL (v:=.ty "tuple") rfl T.tuple boot_tuple rfl) ae))) (λ_=>rfl)))
    (pw_or1 (am dg (ar aH rfl T.len boot_len (aa (pv 0) ae)) ah (au _))))) (ak (aw eA)) aA)
   (af (aP (PW.pt (pw_or (cN (cZ (al d c rfl m l g .nil aM (aa (ax av (pv 0) ah (λ_ _=>rfl)) ae)) (λ_=>rfl))) (pw_or1 (am gn (ax av (pv 0) ah (λ_ _=>rfl)) ah (au _))))) (ak (aw eA)) aA)
   (ak (aw (lZ (al d c rfl m l g .nil aM (aa (ax av (pv 0) ah (λ_ _=>rfl)) ae)) (lZ (al r c rfl B y u .nil aM (aa (ax av (pv 0) ah (λ_ _=>rfl)) ae))
    (lY (al t j rfl C z x .nil aM (aa (ax av (pv 0) ah (λ_ _=>rfl)) ae)))))))),?_⟩
  refine⟨_,rfl,_,_,_,_,rfl,.tup e,(by kernel_rfl:_=some true),_,rfl,aC ?_⟩;refine⟨_,rfl,a,_,rfl,.inr (SqT.of e),rfl,_,rfl,?_⟩;refine AW rfl ?_;refine⟨_,rfl,a,_,_,_,rfl,rfl,SqT.of e,at0 n,_,rfl,_,rfl,aC ?_⟩;refine⟨_,rfl,a,_,_,_,rfl,rfl,SqT.of e,at0 n,_,_,rfl,rfl,_,rfl,?_⟩;have h1:decide (n.num<1)=false:=decide_eq_false (by omega);rw[h1];refine aC ?_;refine⟨_,rfl,a,_,_,_,rfl,rfl,SqT.of e,at1 n,_,rfl,_,rfl,aQ ?_⟩;refine⟨_,rfl,a,_,_,_,rfl,rfl,SqT.of e,at2 n,_,rfl,D.b,λH1 o=>⟨_,rfl,aQ ?_⟩⟩;exact⟨_,rfl,a,_,_,_,rfl,rfl,SqT.of (o _ _ e),at3 n,n.st,rfl,G,k H1 o⟩
def ltP(p:Nd×Nd):Bool:=decide (p.1.num<p.2.num)
def rg:Sp:=λvs H Q _=>∃t zs,vs=[.ref t]∧H t=some (.tup (aY zs))∧At H zs∧zs.length≤100∧∀H',Same H H'→Q (.bl (TW.adj (nds zs))) H'
theorem Ao:FnScope ["nodes"] ["nodes"] (aj vB):=fsc
theorem yo{f:Addr}{Y:FuncData}(F:Fun K "are_rising" "are_rising" vB f Y)(T:Txt mg):FnOk P w K mg base CX0 1 f Y ["nodes"] rg:=by
 refine F.ok Ao (λvs H Q E h=>?_) (λcdv A outer s H vs Q E e4 h=>?_)
 ·obtain⟨t,zs,rfl,_⟩:=h;rfl
 ·obtain⟨t,zs,rfl,d,a1,e1,k⟩:=h;refine⟨_,ak (aw (ar (jU rfl) rfl T.all boot_all (aa (eD (N:=["one","other"]) (k:=2) (js:=[]) (g:=yP K 2 (nY (bu 0) (nY (bu 1) yO))) rfl (cH rfl (by decide +kernel) (by decide +kernel) (by decide +kernel)) rfl (λi B x h=>by simp at h)
   (zr rfl T.zip (aa (pv 0) (aa (cF (SlR.or ff qq) (pv 0) (cz ah) fX) ae)))
   (λs H fp=>uf (n:=2) rfl (fb (aN (i:=0) (show(["one","other"]:List Str).Nodup by decide +kernel) rfl (Or.inl rfl) (Or.inr rfl)) (fb (aN (i:=1) (show(["one","other"]:List Str).Nodup by decide +kernel) rfl (Or.inl rfl) (Or.inr rfl)) rk)))
   (λs H fp=>eM gn (ax (r:=dR K) av (pv 0) ah (λ_ _=>rfl)) (ax (r:=dR K) av (pv 1) ah (λ_ _=>rfl)) (au _))) ae))),?_⟩
  have a4:∀(G:Addr)(H1:Hp),Same H H1→H1 G=some (.tup (aY (zs.drop 1)))→∀p,H1 p=none→∀I:VK,(∀(q:Addr)(bs:List Bool)(H':Hp),Same H H'→H' q=some (.lst (bs.map V.bl))→bs.all id=TW.adj (nds zs)→I (.ref q) H') →
    LcW 2 [] (yP K 2 (nY (bu 0) (nY (bu 1) yO))) (tOp (rI0 λi B=>.bl (decide (i<B))) (tOp (dR K) (dP 0) (tC (.int 0))) (tOp (dR K) (dP 1) (tC (.int 0)))) (start ["nodes"] [.ref t]) I (Itz K t G) H1 p:=by
   intro G H1 D S p c I d2;have e3:H p=none:=D.free c;have O:H1 t=some (.tup (aY zs)):=D _ _ d;have e5:((nds zs).zip ((nds zs).drop 1)).length=zs.length-1:=by rw[List.length_zip,length_drop,aI];omega
   refine oV (k:=2) (js:=[]) (J:=Itz K t G) (p:=p) (zs.length-1) (by omega) (λi ys o H'=>ys=((((nds zs).zip ((nds zs).drop 1)).take i).map ltP).map V.bl∧o.length=2∧Same H1 H'∧H' p=some (.lst ys))
    ⟨rfl,rfl,ag c,ac⟩ (λi ys o H' h=>?_) (λi ys o H' hi h=>?_) (λys o H' h=>?_) (λi ys o H' hi h v H2 c8=>?_) ?_ ?_
   ·rw[h.1,length_map,length_map,length_take];omega
   ·obtain⟨_,_,b,_⟩:=h;refine⟨_,_,_,_,SqT.of (b _ _ O),SqT.of (b _ _ S),dD (getElem?_eq_getElem (by omega)),dD (z:=zs[i+1]) ?_⟩;rw[getElem?_drop,show 1+i=i+1 by omega,getElem?_eq_getElem (by omega)]
   ·obtain⟨L,_,b,u⟩:=h;refine⟨⟨_,_,SqT.of (b _ _ O),SqT.of (b _ _ S),.inr (by rw[bd,length_drop];exact le_refl _)⟩,?_⟩;rw[L]at u;refine d2 p _ H' (D.trans b) u ?_;rw[take_of_length_le (by omega),all_map,TW.rZ];rfl
   ·obtain⟨L,b8,b,u⟩:=h;obtain⟨e6,e7,rfl⟩:=zB b8;obtain⟨q,x,y,R,rfl,c7,c9,rfl⟩:=c8;have c2:=c7 _ (SqT.of (b _ _ O));have c3:=c9 _ (SqT.of (b _ _ S));obtain⟨j,a0,rfl⟩:=ck c2;obtain⟨l,M,rfl⟩:=ck c3;rw[getElem?_drop,show 1+i=i+1 by omega]at M;have d3:=mem_of_getElem? a0;have d4:=mem_of_getElem? M;have a5:Same H (upd H' q (.tup [.ref j.1,.ref l.1])):=(D.trans b).trans (ag R);refine⟨q,_,rfl,SqT.of ac,rfl,_,_,rfl,_,_,rfl,rfl,?_⟩;refine⟨_,rfl,j.1,_,_,_,rfl,rfl,SqT.of (a5 _ _ (a1 j d3)),at0 j.2,_,rfl,l.1,_,_,_,rfl,rfl,SqT.of (a5 _ _ (a1 l d4)),at0 l.2,_,_,rfl,rfl,aS R u,?_,rfl,aK c (b.trans (ag R)),ac⟩;have c1:((nds zs).zip ((nds zs).drop 1))[i]?=some (j.2,l.2):=by
     rw[List.getElem?_zip_eq_some];refine⟨by unfold nds;rw[getElem?_map,a0];rfl,by unfold nds;rw[getElem?_drop,getElem?_map,show 1+i=i+1 by omega,M];rfl⟩
    rw[L,take_succ,c1];simp[ltP]
   ·rintro _ _ _ _ _ m ⟨a,xs,h1,h2,h3,U,d5,c4,W,d6,c5,c6,q⟩;exact⟨a,xs,h1,h2,h3,U,d5,c4,W,d6,c5,c6,m _ _ q⟩
   ·rintro _ _ _ _ m ⟨U,a6,C,d9,d0,d7,a8,a9,b0,b1,W,a7,p2,e0,d1,d8,b2,b3,b4,b5,i,B,b6,b7,q⟩;exact⟨U,a6,C,d9,d0,d7,a8,a9,b0,b1,W,a7,p2,e0,d1,d8,b2,b3,b4,b5,i,B,b6,b7,m _ _ q⟩
  have Z:∀(q:Addr)(bs:List Bool)(H':Hp),Same H H'→H' q=some (.lst (bs.map V.bl))→bs.all id=TW.adj (nds zs)→∃a,∃X:List Bool,[V.ref q]=[V.ref a]∧SqL K H' a (X.map V.bl)∧Q (.bl (X.all id)) H':=λq bs H' s' e b9 =>
   ⟨q,bs,rfl,SqL.of e,by rw[b9];exact k _ s'⟩
  refine⟨_,rfl,_,rfl,_,rfl,?_⟩
  by_cases a3:zs=[]
  ·subst a3;refine .inr ⟨t,_,rfl,SqT.of d,rfl,rfl,t,t,_,_,rfl,d,d,λp c=>?_⟩;exact a4 t H (Same.refl H) d p c _ Z
  ·have e2:1≤zs.length:=by
    cases zs with
    |nil=>exact absurd rfl a3
    |cons _ _=>simp
   refine .inl ⟨t,_,rfl,SqT.of d,?_,λC a2=>?_⟩
   ·rw[bd];intro h;have:HT.sIx zs.length 0 (some ((1:Nat):Int))=min 1 zs.length:=HT.mv _ _ _;have h1:HT.sIx zs.length 0 (some ((1:Nat):Int))=0:=h.1;omega
   ·have c0:dQ (aY zs) (some 1) none=aY (zs.drop 1):=by
     unfold dQ;rw[HT.oz,bd,show HT.sIx zs.length 0 (some (1:Int))=min 1 zs.length from HT.mv _ _ 1,show min 1 zs.length=1 by omega];unfold aY;rw[←map_drop,←map_drop,take_of_length_le (by simp)]
    rw[c0];refine⟨t,C,_,_,rfl,aS a2 d,ac,λp c=>?_⟩;exact a4 C _ (ag a2) ac p c _ Z
def wG:Sp:=λvs H Q _=>∃t zs,vs=[.ref t]∧H t=some (.tup (aY zs))∧At H zs∧zs.length≤60∧∀b H',(b=true↔TW.de (nds zs))→Same H H'→Q (.bl b) H'
theorem Bl:FnScope ["nodes"] ["nodes"] (aj zE):=fsc
theorem Aq{f:Addr}{M:FuncData}(F:Fun K "have_own_places" "have_own_places" zE f M)(T:Txt mg):FnOk P w K mg base CX0 1 f M ["nodes"] wG:=by
 refine F.ok Bl (λvs H Q E h=>?_) (λcdv A outer s H vs Q E b2 h=>?_)
 ·obtain⟨t,zs,rfl,_⟩:=h;rfl
 ·obtain⟨t,zs,rfl,u,R,c3,k⟩:=h;refine⟨_,ak (aw (eM cB (ar oT rfl T.len boot_len (aa (aR (lh rfl (qz b2)) rfl T.set rfl (aa (eD (N:=["node"]) (k:=1) (js:=[]) (g:=bu 0) rfl (cH rfl (by decide +kernel) (by decide +kernel) (by decide +kernel)) rfl (λi c5 x h=>by simp at h)
   (cE (pv 0))
   (λs H fp=>aN (i:=0) (show(["node"]:List Str).Nodup by decide +kernel) rfl (Or.inl rfl) (Or.inr rfl))
   (λs H fp=>be (aa (ax (r:=dR K) av (pv 0) ah (λ_ _=>rfl)) (aa (ax (r:=dR K) av (pv 0) ah (λ_ _=>rfl)) ae)))) ae)) ae))
   (ar aH rfl T.len boot_len (aa (pv 0) ae)) (au _))),?_⟩
  refine⟨_,rfl,t,rfl,⟨_,SqT.of u⟩,λp D=>?_⟩;refine oV (k:=1) (js:=[]) (J:=Itt K t) (p:=p) zs.length (by omega) (λi ys B H'=>∃b:List (Addr×List Key),ys=(b.map (·.1)).map V.ref∧b.map (·.2)=((nds zs).take i).map plK∧b.length=i∧(∀z∈b,H' z.1=some (.tup (z.2.map kV)))∧B.length=1∧Same H H'∧H' p=some (.lst ys))
    ⟨[],rfl,rfl,rfl,by simp,rfl,ag D,ac⟩ (λi ys B H' h=>?_) (λi ys B H' hi h=>?_) (λys B H' h=>?_) (λi ys B H' hi h v H2 b4=>?_) ?_ ?_
  ·obtain⟨b,rfl,_,e,_⟩:=h;rw[length_map,length_map];omega
  ·obtain⟨_,_,_,_,_,_,c,_⟩:=h;exact⟨_,_,SqT.of (c _ _ u),dD (getElem?_eq_getElem hi)⟩
  ·obtain⟨b,G,C,I,L,_,c,j⟩:=h;refine⟨⟨_,SqT.of (c _ _ u),by rw[bd];exact le_refl _⟩,?_⟩;subst G;refine⟨p,b,rfl,SqL.of j,L,by omega,λn c4 S q d=>?_⟩;refine⟨q,n,rfl,ac,by omega,?_⟩;have X:Same H (upd H' q (.ext (nh q n))):=c.trans (ag d);refine⟨_,rfl,t,_,rfl,.inr (SqT.of (X _ _ u)),rfl,?_⟩;refine k _ _ ?_ X;rw[take_of_length_le (by rw[aI];exact le_refl _)]at C;rw[C,tN,I]at S;rw[←S,decide_eq_true_eq,bd];constructor
   ·intro z;injection z with z;omega
   ·intro z;rw[z]
  ·obtain⟨b,G,C,I,L,b0,c,j⟩:=h;obtain⟨c6,rfl⟩:=vk b0;obtain⟨rfl,b3⟩:=b4;have b1:=b3 _ (SqT.of (c _ _ u));obtain⟨a,O,rfl⟩:=ck b1;have W:=mem_of_getElem? O;refine⟨_,rfl,a.1,_,_,_,rfl,rfl,SqT.of (c _ _ (R a W)),at1 a.2,_,rfl,a.1,_,_,_,rfl,rfl,SqT.of (c _ _ (R a W)),at2 a.2,le2,λq d=>?_⟩;refine⟨aS d j,b++[(q,plK a.2)],by rw[G];simp,?_,by simp[I],?_,rfl,aK D (c.trans (ag d)),ac⟩
   ·rw[map_append,C,take_succ,show(nds zs)[i]?=some a.2 by unfold nds;rw[getElem?_map,O];rfl];simp
   ·intro z y;have U:q≠p:=λz=>by rw[z,j]at d;cases d
    rcases mem_append.mp y with y|y
    ·have:=aS (o:=.tup [.int a.2.par,.str a.2.nm]) d (L z y);rw[ai]
     ·exact this
     ·intro e;rw[e,ai (Ne.symm U),j]at this;cases this
    ·have e:z=(q,plK a.2):=by simpa using y
     subst e;rw[ai U];exact ac
  ·rintro _ _ _ _ _ m h;exact m _ _ h
  ·rintro _ _ _ _ m ⟨b7,a0,Y,c1,b5,b9,a1,a2,a3,a4,b8,a5,Z,c2,b6,c0,a6,a7,a8,a9,l,q⟩;exact⟨b7,a0,Y,c1,b5,b9,a1,a2,a3,a4,b8,a5,Z,c2,b6,c0,a6,a7,a8,a9,l,λp D=>m _ _ (q p D)⟩
theorem Ar:FnScope ["thing"] ["thing"] (aj vC):=fsc
def nU:Sp:=λvs H Q _=>∃t zs,vs=[.ref t]∧H t=some (.tup (aY zs))∧At H zs∧zs.length≤60∧(∀n∈nds zs,eT n)∧∀b H',(b=true↔TW.Tree (nds zs))→Same H H'→Q (.bl b) H'
theorem wH{f:Addr}{o:FuncData}(F:Fun K "is_tree" "is_tree" vC f o)(T:Txt mg)(CN:Has P w K mg base 3 "is_node" ["thing"] rf)(CR:Has P w K mg base 1 "are_rising" ["nodes"] rg)(J:Has P w K mg base 1 "have_own_places" ["nodes"] wG)(I:Has P w K mg base 1 "numbers_inside" ["nodes","folder"] pz):FnOk P w K mg base CX0 4 f o ["thing"] nU:=by
 obtain⟨c5,c9,M,b8,b4,W⟩:=CN;obtain⟨c7,d1,R,c0,b6,Z⟩:=CR;obtain⟨c6,d0,O,b9,b5,Y⟩:=J;obtain⟨c4,c8,L,b7,b3,U⟩:=I;obtain⟨d4,a6⟩:=T.top;refine F.ok Ar (λvs H Q E h=>?_) (λcdv A outer s H vs Q E C h=>?_)
 ·obtain⟨v,d5,rfl,_⟩:=h;rfl
 ·obtain⟨a,zs,rfl,e,d,a8,a9,k⟩:=h;have q:Room 1 _:=C.mono (by decide);refine⟨_,af (aP (PW.pt (pw_or (cN (cZ (ar cC rfl T.isin boot_isinstance (aa (pv 0) (aa (eL (v:=.ty "tuple") rfl T.tuple boot_tuple rfl) ae))) (λ_=>rfl)))
    (pw_or1 (cN (cZ (ar (jU rfl) rfl T.all boot_all (aa (eD (N:=["part"]) (k:=1) (js:=[]) (g:=bu 0) rfl (cH rfl (by decide +kernel) (by decide +kernel) (by decide +kernel)) rfl (λi d2 x h=>by simp at h)
     (cE (pv 0)) (λs H fp=>aN (i:=0) (show(["part"]:List Str).Nodup by decide +kernel) rfl (Or.inl rfl) (Or.inr rfl))
     (λs H fp=>al (X:=dc _ _ _ _ _ _ _) M C rfl b8 b4 W .nil aM (aa (pv 0) ae))) ae)) (λ_=>rfl)))))) (ak (aw eA)) aA)
   (af (aP (PW.pt (pw_or (cN (cZ (al R q rfl c0 b6 Z .nil aM (aa (pv 0) ae)) (λ_=>rfl))) (pw_or1 (cN (cZ (al O q rfl b9 b5 Y .nil aM (aa (pv 0) ae)) (λ_=>rfl)))))) (ak (aw eA)) aA)
   (ak (aw (eM cB (ar aH rfl T.len boot_len (aa (al L q rfl b7 b3 U .nil aM (aa (pv 0) (aa (cg (v:=.int 0) rfl a6 ⟨_,rfl⟩) ae))) ae)) (ar aH rfl T.len boot_len (aa (pv 0) ae)) (au _))))),?_⟩
  refine⟨_,rfl,_,_,_,_,rfl,.tup e,(by kernel_rfl:_=some true),_,rfl,aC ?_⟩;refine⟨_,rfl,a,rfl,⟨_,SqT.of e⟩,λp b0=>?_⟩;refine dJ (fr:=[]) zs (λz=>V.ref z.1) (by omega) b0 (eR (by rw[cr];exact SqT.of e)) rfl (λz y _=>y=.bl true) (λz y H H' h _=>h) (λz H' d3 D c _ a7=>?_) (λys H1 c b1 b2=>?_)
  ·exact⟨_,rfl,z.1,z.2,rfl,c _ _ (d z D),a9 z.2 (bZ D),λn r=>a7 _ n r rfl⟩
  ·have a3:=cq (f:=λ_:Addr×Nd=>V.bl true) b2 (λz y _ h=>h);have a0:ys=(zs.map λ_=>true).map V.bl:=by rw[a3,map_map];rfl
   refine⟨p,zs.map λ_=>true,rfl,SqL.of (by rw[b1,a0]),_,rfl,?_⟩;have a2:(zs.map λ_=>true).all id=true:=by simp
   rw[a2];refine aC ?_;refine⟨_,rfl,a,zs,rfl,c _ _ e,d.same c,by omega,λH2 c1=>⟨_,rfl,?_⟩⟩;have j:=c.trans c1;cases u:TW.adj (nds zs)with
   |false =>
    refine aQ (aQ (k false H2 ?_ j));constructor
    ·intro h;cases h
    ·intro h;have:=(TW.nv _).mpr h.rise;rw[u]at this;cases this
   |true =>
    have a5:=(TW.nv _).mp u;refine aC ⟨_,rfl,a,zs,rfl,j _ _ e,d.same j,a8,λb n B r=>⟨_,rfl,?_⟩⟩;have m:=j.trans r;cases b with
    |false =>
     refine aQ (k false n ?_ m);constructor
     ·intro h;cases h
     ·intro h;exact B.mpr h.own
    |true =>
     have a4:=B.mp rfl;refine aC ⟨_,rfl,a,0,zs,rfl,m _ _ e,d.same m,by omega,λo dn l S c3 a1 c2=>?_⟩;have G:=m.trans c2;refine⟨l,_,rfl,.inl (SqL.of a1),_,rfl,a,_,rfl,.inr (SqT.of (G _ _ e)),rfl,k _ S ?_ G⟩;rw[decide_eq_true_eq,bd];have t:=c3.all;rw[aI]at t;constructor
     ·intro h;injection h with h
      refine⟨a5,a4,t.mp ?_⟩;simp only[dE,length_map]at h;omega
     ·intro h;have:=t.mpr h.down;simp only[dE,length_map];rw[this]
end
def wI(r:Row):Prop:=0≤r.k∧r.k≤60∧∀n,r.n=some n→eT n
def apS(i:Nat):Stmt:=(br cD).getD i (.Pass ⟨0,0,0,0⟩)
def AN:List Str:=["tree","change","parts","number","old","new","behind"]
theorem ua:FnScope AN ["tree","change"] (aj cD):=fsc
abbrev ApX(P:Program)(w:World)(K:PySem.W.Frag)(mg:Str→Option Value)(base:Heap)(f:Addr)(cdv:Value)(A:Around)(outer:List Env)(s:Shared)(H:Hp)(E:XK):Cx:=gF (CX1 P w) P w K mg base AN "applied" (aj cD) f cdv A outer s H E
structure Ap(H0 H:Hp)(d:Addr)(t:List Nd)(es:ZR)(n0 i:Nat)(kvs:List (Key×V))(ks:List Int)(M:Int→Option Nd):Prop where
 s0:Same H0 H
 dict:H d=some (.dK kvs)
 pd:PD H kvs ks M
 len:ks.length≤n0+i
 hit:∀e∈es.take i,M e.2.k=e.2.n
 miss:∀k,(∀e∈es.take i,e.2.k≠k)→M k=TW.aE t k
 fit:∀e∈es.take i,e.2.o=TW.aE t e.2.k
 ok:∀k n,M k=some n→eT n
theorem Ap.kv{H0 b:Hp}{d:Addr}{t:List Nd}{e:ZR}{g i:Nat}{a:List (Key×V)}{ks:List Int}{c:Int→Option Nd}(f:Ap H0 b d t e g i a ks c):a.length=ks.length:=by
 have:=congrArg length f.pd.keys;rw[length_map,length_map]at this;exact this
theorem sE{a:ZR}(j:(a.map (·.2.k)).Nodup){i:Nat}{e:Addr×Row}(c:a[i]?=some e):∀x∈a.take i,x.2.k≠e.2.k:=λx l h=>by
 obtain⟨d,g,b⟩:=List.getElem_of_mem l;have m:d<i:=by rw[length_take]at g;omega
 have hi:i<a.length:=(List.getElem?_eq_some_iff.mp c).1;have f:(a.map (·.2.k))[d]'(by rw[length_map];omega)=(a.map (·.2.k))[i]'(by rw[length_map];omega):=by
  rw[getElem_map,getElem_map,(List.getElem?_eq_some_iff.mp c).2];rw[getElem_take]at b;rw[b];exact h
 have:=(getElem_inj j).mp f;omega
theorem As{k:Int}{o a:Option Nd}(b:∀n,o=some n→n.num=k)(h':∀n,a=some n→n.num=k):decide (o.map aO=a.map aO)=decide (o=a):=by
 have:=(show vZ ⟨k,o,a⟩from⟨b,h'⟩).eq;rw[Bool.eq_iff_iff,decide_eq_true_eq,decide_eq_true_eq];exact this
section
variable{P:Program}{w:World}{K:PySem.W.Frag}{mg:Str→Option Value}{base:Heap}{f:Addr}{cdv:Value}{A:Around}{outer:List Env}{s:Shared}{H0:Hp}{E:XK}
theorem yp{CN:Addr}(O:gw "NoMatch" mg base CN)(u:Room 1 (A.deeper (PyProof.Rows.envOfC "applied" (aj cD) s.heap.objs.size f cdv))):
  ∃J,PS (ApX P w K mg base f cdv A outer s H0 E) (apS 1) J∧∀(v:Ends)(H:Hp)(a c d:Addr)(t:List Nd)(es:ZR)(r:Nat)(kvs:List (Key×V))(ks:List Int)(M:Int→Option Nd),H0 d=none→H c=some (.tup (di es))→(∀e∈es,RowAt H e.1 e.2)→(∀e∈es,wI e.2)→(es.map (·.2.k)).Nodup→r+es.length≤60→(∀e∈es,RowAt H0 e.1 e.2)→H0 c=some (.tup (di es))→Ap H0 H d t es r 0 kvs ks M →
   (∀H',Same H0 H'→¬TW.wc t (bo es)→E (.ref CN) none H') →
   (∀l m p H' kvs ks M,Ap H0 H' d t es r es.length kvs ks M→v.nx [some (.ref a),some (.ref c),some (.ref d),l,m,p,none] H')→J v [some (.ref a),some (.ref c),some (.ref d),none,none,none,none] H:=by
 refine⟨_,fc (zy bv) rfl (cE (pv 1)) (uf (n:=3) rfl (fb (aN (i:=3) ua.nd rfl (Or.inl rfl)) (fb (aN (i:=4) ua.nd rfl (Or.inl rfl)) (fb (aN (i:=5) ua.nd rfl (Or.inl rfl)) rk))))
  (af (aP (am (qP (bh u)) (fi (bh u) (pv 2) (pv 3) ⟨rfl,rfl,rfl,rfl⟩) (pv 4) (au _)) (ak (cy bv O u.hd rfl (ic (dB (c:=100) (by decide +kernel) (iK (pv 3) (dB (c:=100) (by decide +kernel) ka))) (by decide)))) aA)
  (ak (jk (bh u) (pv 2) (pv 3) (pv 5) rfl))),?_⟩
 intro v H a c d t es r kvs ks M T S a7 W I a6 X R N a0 a1;refine⟨_,rfl,c,rfl,⟨_,SqT.of S⟩,mh (xs:=di es) (λi σ H'=>∃l m p kvs ks M,σ=[some (.ref a),some (.ref c),some (.ref d),l,m,p,none]∧Ap H0 H' d t es r i kvs ks M) ⟨none,none,none,_,_,_,rfl,N⟩ (λi σ H' _ ⟨_,_,_,_,_,_,_,b⟩=>SqT.of (b.s0 _ _ R)) (λi x σ H' g h=>?_) (λσ H' h=>?_)⟩
 ·obtain⟨l,m,p,kvs,ks,M,rfl,b⟩:=h;unfold di at g;rw[getElem?_map]at g;cases j:es[i]? with
  |none=>rw[j]at g;cases g
  |some e =>
   rw[j]at g;cases g;have C:=mem_of_getElem? j;have hi:i<es.length:=(List.getElem?_eq_some_iff.mp j).1;obtain⟨⟨a9,a8,h1,h2,h3⟩,L⟩:=(X e C).same b.s0;obtain⟨a2,a3,a4⟩:=W e C;have F:M e.2.k=TW.aE t e.2.k:=b.miss _ (sE I j);refine⟨e.1,_,rfl,SqT.of h1,rfl,_,_,rfl,_,_,rfl,_,_,rfl,rfl,?_⟩;refine⟨_,rfl,d,rfl,.inl ⟨_,.inl b.dict⟩,_,rfl,_,cO.k (k:=Sum.inl e.2.k) b.dict,_,rfl,_,_,(b.pd.val e.2.k).ot,h2.ot,_,rfl,?_⟩;rw[As (b.pd.num e.2.k) L.1]
   by_cases z:M e.2.k=e.2.o
   ·rw[decide_eq_true z];obtain⟨Y,a5,Z⟩:=b.pd.put b.dict (k:=e.2.k) h3 L.2;refine aC ⟨_,rfl,_,rfl,_,rfl,d,_,rfl,mY.k (k:=Sum.inl e.2.k) b.dict (aB (by rw[b.kv];have:=b.len;omega)),_,_,_,_,Y,_,rfl,aK T b.s0,ac,Z,by have:=b.len;omega,λx g=>?_,λk B=>?_,λx g=>?_,λk n G=>?_⟩
    ·rw[cQ j]at g;show(if x.2.k=e.2.k then e.2.n else M x.2.k)=x.2.n;rcases mem_append.mp g with g|g
     ·rw[if_neg (sE I j x g)];exact b.hit x g
     ·have ex:x=e:=by simpa using g
      rw[ex,if_pos rfl]
    ·rw[cQ j]at B;show(if k=e.2.k then e.2.n else M k)=_;rw[if_neg (λz=>B e (mem_append.mpr (.inr (by simp))) z.symm)];exact b.miss k λx g=>B x (mem_append.mpr (.inl g))
    ·rw[cQ j]at g;rcases mem_append.mp g with g|g
     ·exact b.fit x g
     ·have ex:x=e:=by simpa using g
      rw[ex,←z,F]
    ·by_cases D:k=e.2.k
     ·have q:(if k=e.2.k then e.2.n else M k)=some n:=G;rw[if_pos D]at q;exact a4 n q
     ·have q:(if k=e.2.k then e.2.n else M k)=some n:=G;rw[if_neg D]at q;exact b.ok k n q
   ·rw[decide_eq_false z];refine aQ ⟨_,rfl,e.2.k,rfl,a2,a3,λy=>⟨aq (show 1≤1000 by decide),a0 H' b.s0 λU=>z ?_⟩⟩;rw[F];exact(U e.2 (mem_map.mpr ⟨e,C,rfl⟩)).symm
 ·obtain⟨l,m,p,kvs,ks,M,rfl,b⟩:=h;have Q:(di es).length=es.length:=by unfold di;rw[length_map]
  rw[Q]at b;exact a1 l m p H' kvs ks M b
end
theorem yq{h:Type}{a:List Int}{M:Int→Option h}{bs:List (Int×(Addr×h))}(d:bs.map (·.1)=a.filter λk=>(M k).isSome)(f:∀x∈bs,M x.1=some x.2.2):bs.map (·.2.2)=a.filterMap M:=by
 have g:a.filterMap M=(a.filter λk=>(M k).isSome).filterMap M:=by
  clear d f
  induction a with
  |nil=>rfl
  |cons k a c =>
   cases e:M k with
   |none=>rw[filterMap_cons_none e,filter_cons_of_neg (by rw[e];simp),c]
   |some n=>rw[filterMap_cons_some e,filter_cons_of_pos (by rw[e];rfl),filterMap_cons_some e,c]
 rw[g,←d];clear d g
 induction bs with
 |nil=>rfl
 |cons b bs c =>
  rw[map_cons,map_cons,filterMap_cons_some (f b mem_cons_self),c λx i=>f x (mem_cons_of_mem _ i)]
section
variable{P:Program}{w:World}{K:PySem.W.Frag}{mg:Str→Option Value}{base:Heap}{f:Addr}{cdv:Value}{A:Around}{outer:List Env}{s:Shared}{H0:Hp}{E:XK}
theorem uc(T:Txt mg)(a3:Room 1 (A.deeper (PyProof.Rows.envOfC "applied" (aj cD) s.heap.objs.size f cdv))):
  ∃a8,PS (ApX P w K mg base f cdv A outer s H0 E) (apS 2) a8∧∀(G:Ends)(H:Hp)(a c d:Addr)(t:List Nd)(es:ZR)(R:Nat)(kvs:List (Key×V))(ks:List Int)(M:Int→Option Nd)(W X Y:Option V),Ap H0 H d t es R es.length kvs ks M→R+es.length≤60 →
   (∀(us:ZN)(ms:List Int)(t':Addr)(H':Hp),Same H0 H'→H' t'=some (.tup (aY us))→At H' us→ms.Perm ks→ms.Pairwise (· < ·)→nds us=ms.filterMap M→G.nx [some (.ref a),some (.ref c),some (.ref d),W,X,Y,some (.ref t')] H')→a8 G [some (.ref a),some (.ref c),some (.ref d),W,X,Y,none] H:=by
 refine⟨_,ay (i:=6) ua.nd rfl (Or.inl rfl) (aR bj rfl T.tuple rfl (aa (iC (N:=["number","parts"]) (cl:=[("parts",s.heap.objs.size+1)]) (k:=1) (js:=[2]) (g:=bu 0) rfl
    (LcOk.mk' ["parts"] rfl rfl (by decide +kernel) (by decide +kernel) ?hcl rfl (by decide +kernel)) rfl ?hj (dj (ar (kG rfl) rfl T.sorted boot_sorted (aa (pv 2) ae))) (λs H fp=>aN (i:=0) (show(["number","parts"]:List Str).Nodup by decide +kernel) rfl (Or.inl rfl) (Or.inr rfl))
    (λs H fp=>am mr (cS (bh a3) (pv 1) (pv 0) (λ_ _=>rfl)) cn (au _)) (λs H fp=>aD (r:=uv K) gT (be (aa (pv 0) ae)) (cS (bh a3) (pv 1) (pv 0) (λ_ _=>rfl)))) ae)),?_⟩
 case hcl =>
  intro y Q;rcases mem_cons.mp Q with e | Q
  ·rw[e];rfl
  ·cases Q
 case hj =>
  intro i d1 x h1 h2
  match i,h1,h2 with
  |0,h1,h2 =>
   cases h1;cases h2;exact⟨rfl,Or.inr (Or.inl rfl),(show((aj cD).names.lookup ("parts":Str)≠some NameKind.local)by decide +kernel),by first|exact Or.inl rfl|exact Or.inr rfl⟩
  |i+1,h1,h2=>simp at h1
 intro G H a c d t es R kvs ks M W X Y m b8 q;have a1:ks.length≤60:=le_trans m.len b8;refine⟨_,rfl,d,kvs,ks,rfl,.inl m.dict,m.pd.keys,m.pd.nd,a1,λms L c5 l b7=>?_⟩;have B:=ag (o:=.lst (ms.map V.int)) b7;have J:upd H l (.lst (ms.map V.int)) l=some (.lst (ms.map V.int)):=ac;generalize upd H l (.lst (ms.map V.int))=H1 at B J⊢;have d0:ms.length≤60:=by rw[L.length_eq];exact a1
 refine⟨l,rfl,⟨_,SqL.of J⟩,λp b9=>?_⟩;have ex:∀{k:Int}{H':Hp},k∈ms→Same H1 H'→∃v,cO H' d (.int k) (some v)∧cL H' v (M k):=λ{k H'} C u=>by
  obtain⟨v,a5⟩:=m.pd.has (L.mem_iff.mp C);have b6:H' d=some (.dK kvs):=u _ _ (B _ _ m.dict);have a6:=((m.pd.val k).same B).same u;rw[a5]at a6;have g:=cO.k (k:=Sum.inl k) b6;rw[a5]at g;exact⟨v,g,a6⟩
 refine iL (fr:=[some (.ref d)]) ms V.int (by omega) b9 (ie (SqL.of J)) rfl (λk=>(M k).isSome) (λk y H'=>∃q n,y=.ref q∧q≠p∧M k=some n∧H' q=some (.tup (vals n))) (λk y H H' ⟨q,n,e,a7,j,h⟩ ex=>⟨q,n,e,a7,j,ex q _ a7 h⟩) (λk H' c8 mk u _ C=>?_) (λk H' c8 mk a4 u c1 C=>?_) (λys H' u c0 c6=>?_)
 ·obtain⟨v,g,U⟩:=ex mk u;refine⟨_,rfl,_,rfl,d,_,rfl,g,rfl,_,rfl,?_⟩;have e:(!decide (v=V.non))=(M k).isSome:=by
   rcases U with⟨e,j⟩|⟨q,n,e,_,j⟩
   ·rw[e,j];rfl
   ·rw[e,j];rfl
  rw[e];exact C H' (Same.refl _)
 ·obtain⟨v,g,U⟩:=ex mk u;rcases U with⟨e,j⟩|⟨q,n,e,c3,j⟩
  ·rw[j]at a4;cases a4
  ·subst e;have F:∀{c:Addr},H' c=none→Same H' (upd H' c (.tup [.int k])):=λb4=>ag b4;refine⟨_,rfl,(show 1≤sizeLine from aq (by decide)),λI b5=>?_⟩;have D:=F b5;have b3:cO (upd H' I (.tup [.int k])) d (.int k) (some (.ref q)):=by
    obtain⟨d2,a0,_⟩:=ex mk (u.trans D);have b1:=a0.eqK (D _ _ (u _ _ (B _ _ m.dict)));have j:=g.eqK (u _ _ (B _ _ m.dict));rw[j,←b1];exact a0
   refine⟨_,rfl,_,rfl,d,_,rfl,b3,I,q,_,_,rfl,rfl,SqT.of ac,SqT.of (D _ _ c3),by simp,(show 4≤sizeLine from aq (by decide)),λh=>absurd h (cons_ne_nil _ _),λ_ c9 a2=>?_⟩;have c2:∃ys,upd H' I (.tup [.int k]) p=some (.lst ys):=let⟨ys,e⟩:=c1;⟨ys,D _ _ e⟩;refine C _ _ (D.trans (ag a2)) ⟨c9,n,rfl,dA c2 a2,j,?_⟩;rw[ac];have b2:=m.pd.num k n j;show some (HO.tup ([.int k]++aO n))=some (.tup (vals n));rw[←b2];rfl
 ·obtain⟨bs,a9,b0,Z⟩:=dt (val:=λb:Addr×Nd=>V.ref b.1) (S:=λ(k:Int) (b:Addr×Nd)=>M k=some b.2∧H' b.1=some (.tup (vals b.2))) c6 (λk y _ ⟨q,n,e,_,j,h⟩=>⟨(q,n),e,j,h⟩);refine⟨p,_,rfl,.inl ⟨SqL.of c0,λt' c4=>?_⟩⟩;have F:=ag (o:=.tup ys) c4;refine q (bs.map (·.2)) ms t' _ (((m.s0.trans B).trans u).trans F) (by rw[ac,b0,←cr,map_map];rfl) (λz c7=>?_) L c5 ?_
  ·obtain⟨x,O,rfl⟩:=mem_map.mp c7;exact F _ _ (Z x O).2
  ·have:=yq (bs:=bs) a9 λx O=>(Z x O).1;rw[←this];unfold nds;rw[map_map];rfl
def pU(CN:Addr):Sp:=λvs H Q E=>∃t c zs es,vs=[.ref t,.ref c]∧Tre H t zs∧(∀n∈nds zs,eT n)∧ChgAt H c es∧(es.map (·.2.k)).Nodup∧(∀e∈es,wI e.2)∧zs.length+es.length≤60 ∧
 (∀a t' H',Same H H'→H' t'=some (.tup (aY a))→At H' a→TW.Appl (nds zs) (bo es) (some (nds a))→Q (.ref t') H')∧∀H',Same H H'→TW.Appl (nds zs) (bo es) none→E (.ref CN) none H'
theorem Au{f CN:Addr}{D:FuncData}(F:Fun K "applied" "applied" cD f D)(T:Txt mg)(C:gw "NoMatch" mg base CN)(W:Has P w K mg base 1 "parts_by_number" ["tree"] nJ)(X:Has P w K mg base 4 "is_tree" ["thing"] nU):FnOk P w K mg base (CX1 P w) 5 f D ["tree","change"] (pU CN):=by
 obtain⟨c2,c4,Y,b4,b2,a1⟩:=W;obtain⟨c3,c5,GT,b5,b3,a2⟩:=X;refine F.okX ua (λvs H Q E h=>?_) (λcdv A outer s H vs Q E l h=>?_)
 ·obtain⟨t,c,zs,es,rfl,_⟩:=h;rfl
 ·obtain⟨t,c,zs,es,rfl,V,a8,o,a7,a9,x,b7,S⟩:=h;have y:Room 1 _:=l.mono (by decide);obtain⟨c7,b6,h1⟩:=yp (P:=P) (w:=w) (K:=K) (f:=f) (cdv:=cdv) (A:=A) (outer:=outer) (s:=s) (H0:=H) (E:=E) C y;obtain⟨c8,p2,h2⟩:=uc (P:=P) (w:=w) (K:=K) (base:=base) (f:=f) (cdv:=cdv) (A:=A) (outer:=outer) (s:=s) (H0:=H) (E:=E) T y;refine⟨_,af (ay (i:=2) ua.nd rfl (Or.inr rfl) (al Y y rfl b4 b2 a1 .nil aM (aa (pv 0) ae)))
   (af b6 (af p2 (af (aP (cN (cZ (al GT l rfl b5 b3 a2 .nil aM (aa (pv 6) ae)) (λ_=>rfl))) (ak (cy bv C l.hd rfl aG)) aA)
   (ak (aw (pv 6)))))),?_⟩
  refine⟨_,rfl,t,zs,rfl,V,λd a0 H1 z a5 a3 J=>?_⟩;have a4:=V.tr;have Z:Ap H H1 d (nds zs) es zs.length 0 (aV a0) ((nds zs).map (·.num)) (TW.aE (nds zs)):=⟨z,J,PD.book a3 J a4,by rw[length_map,aI];exact le_refl _,by simp,λk _=>rfl,by simp,λk n q=>a8 n (TW.cb q).1⟩;refine h1 _ H1 t c d (nds zs) es zs.length _ _ _ a5 (z _ _ o.tup) (λe g=>(o.at' e g).same z) a9 a7 x o.at' o.tup Z (λH' s' p=>S H' s' (.unfit p)) λb8 b9 c0 H2 kvs ks M a=>?_;refine h2 _ H2 t c d (nds zs) es zs.length kvs ks M b8 b9 c0 a x λm ms t' c1 U N G L R u=>?_;have c6:ks.length≤60:=le_trans a.len x;have b0:m.length≤60:=by
   have h1:(nds m).length≤ms.length:=by rw[u];exact List.length_filterMap_le _ _
   rw[aI,L.length_eq]at h1;omega
  have b1:∀n∈nds m,eT n:=λn q=>by
   rw[u]at q;obtain⟨k,_,j⟩:=mem_filterMap.mp q;exact a.ok k n j
  have tk:es.take es.length=es:=take_length;have a6:TW.wc (nds zs) (bo es):=λr l=>by
   obtain⟨e,g,rfl⟩:=mem_map.mp l;exact a.fit e (by rw[tk];exact g)
  have O:TW.AppTo (nds zs) (bo es) (nds m):=by
   have p:∀k,TW.aE (nds m) k=M k:=λk=>by
    rw[u,TW.tX R a.pd.num k]
    by_cases j:k∈ms
    ·rw[if_pos j]
    ·rw[if_neg j,a.pd.out λh=>j (L.mem_iff.mpr h)]
   refine⟨by rw[u];exact TW.lW R a.pd.num,λr l=>?_,λk j=>?_⟩
   ·obtain⟨e,g,rfl⟩:=mem_map.mp l;rw[p];exact a.hit e (by rw[tk];exact g)
   ·rw[p];refine a.miss k λe g=>j e.2 ?_;rw[tk]at g;exact mem_map.mpr ⟨e,g,rfl⟩
  refine⟨_,rfl,t',m,rfl,N,G,b0,b1,λb B I v=>⟨_,rfl,?_⟩⟩;cases b with
  |true=>exact aC ⟨_,rfl,b7 m t' B (U.trans v) (v _ _ N) (G.same v) (.ok a6 O (I.mp rfl))⟩
  |false=>exact aQ ⟨aq (show 1≤1000 by decide),S B (U.trans v) (.notree O λh=>by have:=I.mpr h;cases this)⟩
end
def RDN:List Str:=["_law_script","_law_tree_here","_law_most","_law_watch","_law_copies","_law_late","_law_j","_law_way","_law_deed_here","_law_behind","_law_number","_law_answer"]
theorem iw:FnScope RDN ["_law_script"] (aj lr):=fsc
abbrev RDX(P:Program)(w:World)(K:PySem.W.Frag)(mg:Str→Option Value)(base:Heap)(f:Addr)(cdv:Value)(A:Around)(outer:List Env)(s:Shared)(H:Hp)(E:XK):Cx:=(gF CX0 P w K mg base RDN "law" (aj lr) f cdv A outer s H E).nox
def rdB(i:Nat):Stmt:=match (br lr).getD 5 (.Pass ⟨0,0,0,0⟩)with
 |.For _ _ b _ _=>b.getD i (.Pass ⟨0,0,0,0⟩)
 |_=>.Pass ⟨0,0,0,0⟩
def rdA:List Stmt:=match rdB 1 with
 |.If _ b _ _=>b
 |_=>[]
def rdE:Stmt:=match rdB 1 with
 |.If _ _ (e::_) _=>e
 |_=>.Pass ⟨0,0,0,0⟩
def rdR:List Stmt:=match rdE with
 |.If _ b _ _=>b
 |_=>[]
def rdN:List Stmt:=match rdE with
 |.If _ _ b _=>b
 |_=>[]
abbrev rdσ(a d:Addr)(m:Int)(p b c:Addr)(g h i j e f:Option V):St:=[some (.ref a),some (.ref d),some (.int m),some (.ref p),some (.ref b),some (.ref c),g,h,i,j,e,f]
structure LR(C:Addr)(H0 H:Hp)(tc:Addr)(zc:ZN)(p kl ml lc ll t:Addr)(z:ZN)(m:Int)(ks:List (Addr×ZR))(M:List Int)(T:List (List Nd))(ms:List Int)(cs:List (Addr×ZN))(b:Nat):Prop where
 s0:Same H0 H
 f1:H0 p=none∧H0 kl=none∧H0 ml=none∧H0 lc=none∧H0 ll=none
 n1:lc≠p∧lc≠kl∧lc≠ml∧ll≠p∧ll≠kl∧ll≠ml∧lc≠ll
 tre:Tre H tc zc
 eq:nds zc=nds z
 ok:∀t∈T,∀n∈t,eT n
 wat:WAt C H p kl ml t z m ((T.length:Int)-1) ks ms
 past:Past T (nds z) m ks M
 few:M.length≤6+b
 len:T.length≤b+1
 sz:∀t∈T,t.length≤6+b
 lcs:H lc=some (.lst (cs.map λx=>V.ref x.1))
 ctr:∀x∈cs,Tre H x.1 x.2
 lls:H ll=some (.lst ((ms.map λx=>(T.length:Int)-1-x).map V.int))
 lenc:cs.length=ms.length
 csT:∀(r:Nat) x mk,cs[r]?=some x→ms[r]?=some mk→nds x.2=T.getD mk.toNat []
 mrg:∀x∈ms,0≤x∧x<T.length
 lm:ms.length≤b
 m5:m≤5
section
variable{C:Addr}{H0 H H':Hp}{tc p kl ml lc ll t:Addr}{zc z:ZN}{m:Int}{ks:List (Addr×ZR)}{M:List Int}{T:List (List Nd)}{ms:List Int}{cs:List (Addr×ZN)}{b:Nat}
theorem LR.same(a:LR C H0 H tc zc p kl ml lc ll t z m ks M T ms cs b)(s:Same H H'):LR C H0 H' tc zc p kl ml lc ll t z m ks M T ms cs b :=
 ⟨a.s0.trans s,a.f1,a.n1,a.tre.same s,a.eq,a.ok,a.wat.same s,a.past,a.few,a.len,a.sz,s _ _ a.lcs,λx c=>(a.ctr x c).same s,s _ _ a.lls,a.lenc,a.csT,a.mrg,a.lm,a.m5⟩
theorem LR.more(a:LR C H0 H tc zc p kl ml lc ll t z m ks M T ms cs b):LR C H0 H tc zc p kl ml lc ll t z m ks M T ms cs (b+1) :=
 ⟨a.s0,a.f1,a.n1,a.tre,a.eq,a.ok,a.wat,a.past,by have:=a.few;omega,by have:=a.len;omega,λx c=>by have:=a.sz x c;omega,a.lcs,a.ctr,a.lls,a.lenc,a.csT,a.mrg,by have:=a.lm;omega,a.m5⟩
theorem LR.last(h:LR C H0 H tc zc p kl ml lc ll t z m ks M T ms cs b):nds z∈T:=mem_of_getElem? h.past.last
theorem LR.zlen(h:LR C H0 H tc zc p kl ml lc ll t z m ks M T ms cs b):zc.length≤6+b∧z.length≤6+b:=by
 have h1:=h.sz _ h.last;have h2:=aI zc;rw[h.eq]at h2;rw[aI]at h1 h2;omega
end
section
variable{P:Program}{w:World}{K:PySem.W.Frag}{mg:Str→Option Value}{base:Heap}{f C:Addr}{cdv:Value}{A:Around}{outer:List Env}{s:Shared}{H0:Hp}{E:XK}{cls:TW.Wd→Addr}
theorem brA(T:Txt mg)(d1:WCls K mg C)(Z:Room 5 (A.deeper (PyProof.Rows.envOfC "law" (aj lr) s.heap.objs.size f cdv)))(CE:Has P w K mg base 3 "_law_deed" ["_law_script","_law_at","_law_tree_here"] (nQ K))(c4:Has P w K mg base 2 "_law_done" ["_law_tree_here","_law_deed_here"] jv){a8:Addr}{a9:FuncData}(c5:FnOk P w K mg base (CX1 P w) 5 a8 a9 ["self","deed"] (jq C cls))(f9:Meth K C "deed" a8)(d3:bf K a9 ["self","deed"] []):
  ∃b9,PSs (RDX P w K mg base f cdv A outer s H0 E) rdA b9∧∀(S:Ends)(H1 H:Hp)(a tc p kl ml lc ll t:Addr)(zc z:ZN)(m:Int)(ks:List (Addr×ZR))(M:List Int)(T:List (List Nd))(ms:List Int)(cs:List (Addr×ZN))(b j:Nat)(a4 Q R a2 a3:Option V),eG K H1 a→LR C H1 H tc zc p kl ml lc ll t z m ks M T ms cs b→b≤14 →
   (∀H' c3 g8 b8 t' g7 f8 c8 c9 Q R,LR C H1 H' c3 g8 p kl ml lc b8 t' g7 m f8 c8 c9 ms cs (b+1)→S.nx (rdσ a c3 m p lc b8 (some (.int j)) a4 Q R a2 a3) H')→b9 S (rdσ a tc m p lc ll (some (.int j)) a4 Q R a2 a3) H:=by
 obtain⟨h4,h6,GE,g0,f6,d4⟩:=CE;obtain⟨h5,h7,c6,g1,f7,d5⟩:=c4;have f2:Room 2 _:=Z.mono (by decide);have f3:Room 3 _:=Z.mono (by decide);refine⟨_,af (ay (i:=8) iw.nd rfl (Or.inl rfl) (al GE f3 rfl g0 f6 d4 .nil aM (aa (pv 0) (aa (aD aW ah (aD dw ah (pv 6))) (aa (pv 1) ae)))))
  (af (ay (i:=9) iw.nd rfl (Or.inl rfl) (al c6 f2 rfl g1 f7 d5 .nil aM (aa (pv 1) (aa (pv 8) ae))))
  (ak (aP (cN (cZ (ar cC rfl T.isin boot_isinstance (aa (pv 9) (aa (eL (v:=.ty "str") rfl T.str boot_str rfl) ae))) (λ_=>rfl)))
   (af (bg (mt (pv 3) d1.cl f9 c5 Z d3 .nil vi (aa (pv 8) ae)))
   (af (ay (i:=1) iw.nd rfl (Or.inl rfl) (pv 9))
   (ak (pj (ii:=5) (N:=["_law_many"]) (cl:=[]) (k:=1) (js:=[]) (g:=bu 0) iw.nd rfl (Or.inl rfl) rfl (cH rfl (by decide +kernel) (by decide +kernel) (by decide +kernel)) rfl (λi j x h=>by simp at h)
    (dj (pv 5)) (λs H fp=>aN (i:=0) (show(["_law_many"]:List Str).Nodup by decide +kernel) rfl (Or.inl rfl) (Or.inr rfl)) (λs H fp=>aD aW (pv 0) ah))))) aA))),?_⟩
 intro S H1 H a tc p kl ml lc ll t zc z m ks M TT ms cs b j a4 Q R a2 a3 e4 d i0 q;obtain⟨i3,i2⟩:=d.zlen;have e6:ks.length≤100:=by have h1:=d.past.len;have h2:=d.m5;omega
 have g3:∀n∈nds zc,eT n:=by rw[d.eq];exact d.ok _ d.last
 refine⟨_,rfl,_,rfl,_,_,rfl,rfl,.inl ⟨by decide,by decide⟩,_,_,rfl,rfl,_,rfl,a,_,tc,zc,rfl,by omega,e4.same d.s0,d.tre,g3,λc dd g9 g5 b2 Y=>?_⟩;have X:=d.same g5;refine⟨_,rfl,_,rfl,tc,c,dd,zc,rfl,X.tre,by omega,b2,Y.ok,λu1 c1 U O b6 e3 G=>?_,λg6 U O G=>?_⟩
 ·have l:=X.same O;rw[d.eq]at G;refine⟨_,rfl,_,_,_,_,rfl,.tup b6,(by kernel_rfl:_=some false),_,rfl,aQ ?_⟩;obtain⟨dx,e8⟩:=l.wat.ob;refine⟨_,rfl,p,dx,_,rfl,e8,iQ (by decide +kernel) (by decide +kernel) (by decide +kernel) (by decide +kernel) (by decide +kernel),_,rfl,p,kl,ml,t,z,m,_,ks,ms,c,dd,rfl,l.wat,by omega,e6,l.past.m0,O _ _ b2,Y.ok,λt' us d6 es H5 F e5 W a1 c2=>?_,λg6 H5 i5 F=>?_⟩
  ·have a7:nds u1=nds us:=by
    have:=G.one l.wat.tr.tr F;injection this
   have f4:us.length≤6+(b+1):=by have h1:=F.len;rw[aI,aI]at h1;omega
   have d0:Tre U c1 u1:=⟨b6,e3,by rw[a7];exact W.tr.tr,by have h1:=G.len;rw[aI,aI]at h1;omega⟩;obtain⟨a5,a6,d7,d8,h3⟩:=l.f1;obtain⟨b0,b1,e0,e1,e2,h8,h9⟩:=l.n1;have b3:=a1 _ _ l.lcs (by simp[b0,b1]);have b4:=a1 _ _ l.lls (by simp[e1,e2]);have c0:Same H1 H5:=λb o e=>a1 _ _ (l.s0 _ _ e) (by simp[ao e a5,ao e a6]);refine⟨_,rfl,_,rfl,ll,rfl,⟨_,SqL.of b4⟩,λg4 B=>?_⟩;refine dJ (fr:=[]) (ms.map λx=>(TT.length:Int)-1-x) V.int (by rw[length_map];have:=d.lm;omega) B (ie (SqL.of b4)) rfl (λx y _=>y=.int (x+1)) (λx y H H' h _=>h) (λx H' k i4 D _ L=>?_) (λys c7 D f0 f5=>?_)
   ·exact⟨_,rfl,_,_,rfl,rfl,L _ H' (Same.refl _) rfl⟩
   ·have d9:=cq (f:=λx:Int=>V.int (x+1)) f5 (λz y _ h=>h);have b7:TW.Tree1 (nds us):=W.tr.tr;have J:(TT++[nds us]).length=TT.length+1:=by rw[length_append];rfl
    have g2:∀n∈nds us,n.num∈dd.key::M:=λn b5=>by
     by_cases L:n.num=dd.key
     ·rw[L];exact mem_cons_self
     ·refine mem_cons_of_mem _ ?_;rcases F.others l.wat.tr.tr b7 L with e|⟨_,_,_,e7⟩
      ·rw[TW.eV b7 b5 rfl]at e;exact d.past.num _ d.last n (TW.cb e.symm).1
      ·exact absurd rfl (e7 n b5)
    refine q c7 c1 u1 g4 t' us _ (dd.key::M) (TT++[nds us]) _ _ ⟨c0.trans D,⟨a5,a6,d7,d8,c0.free B⟩,⟨b0,b1,e0,?_,?_,?_,?_⟩,(d0.ts c2).same D,a7,λI u=>?_,?_,d.past.next (c:=d6) e5 g2,?_,?_,λI u=>?_,D _ _ b3,λx a0=>((l.ctr x a0).ts c2).same D,?_,d.lenc,λr x mk h1 h2=>?_,λx a0=>?_,by have:=d.lm;omega,d.m5⟩
    ·obtain⟨h0,e9⟩:=W.ob;exact Ne.symm (ao e9 B)
    ·exact Ne.symm (ao W.kp B)
    ·exact Ne.symm (ao W.mks B)
    ·exact ao b3 B
    ·rcases mem_append.mp u with u|u
     ·exact d.ok I u
     ·have:I=nds us:=by simpa using u
      rw[this];exact eT.told (d.ok _ d.last) Y F
    ·have d2:=W.same D;rw[J,show((TT.length+1:Nat):Int)-1=(TT.length:Int)-1+1 by omega];exact d2
    ·rw[length_cons];have:=d.few;omega
    ·rw[J];have:=d.len;omega
    ·rcases mem_append.mp u with u|u
     ·have:=d.sz I u;omega
     ·have:I=nds us:=by simpa using u
      rw[this,aI];exact f4
    ·rw[f0,d9,map_map,map_map,J]
     congr 2
     apply map_congr_left;intro x _;show V.int ((TT.length:Int)-1-x+1)=V.int (((TT.length+1:Nat):Int)-1-x)
     congr 1
     omega
    ·have i1:=d.mrg mk (mem_of_getElem? h2);rw[iu (by omega)];exact d.csT r x mk h1 h2
    ·have:=d.mrg x a0;rw[J];omega
  ·exact absurd (G.one l.wat.tr.tr F) (by intro h;cases h)
 ·refine⟨_,rfl,_,_,_,_,rfl,.str _,(by kernel_rfl:_=some true),_,rfl,aC ?_⟩;exact q U tc zc ll t z ks M TT _ _ (X.same O).more
theorem brR(T:Txt mg)(a2:WCls K mg C)(b7:Room 5 (A.deeper (PyProof.Rows.envOfC "law" (aj lr) s.heap.objs.size f cdv))){O:Addr}{Q:FuncData}(a1:FnOk P w K mg base CX0 1 O Q ["self"] (nO C))(c0:Meth K C "reader" O)(a4:bf K Q ["self"] []):
  ∃Z,PSs (RDX P w K mg base f cdv A outer s H0 E) rdR Z∧∀(j:Ends)(H1 H:Hp)(a tc p kl ml lc ll t:Addr)(zc z:ZN)(m:Int)(ks:List (Addr×ZR))(M:List Int)(T:List (List Nd))(ms:List Int)(cs:List (Addr×ZN))(b:Nat)(D G I J y B:Option V),LR C H1 H tc zc p kl ml lc ll t z m ks M T ms cs b→b≤14 →
   (∀H' c1 a5,LR C H1 H' tc zc p kl ml lc ll t z m ks M T c1 a5 (b+1)→j.nx (rdσ a tc m p lc ll D G I J y B) H')→Z j (rdσ a tc m p lc ll D G I J y B) H:=by
 have b8:Room 1 _:=b7.mono (by decide);refine⟨_,af (aP (am dg (ou (pv 3) a2.cl c0 a1 b8 a4 .nil aM) (ar aH rfl T.len boot_len (aa (pv 4) ae)) (au _)) (ak (aw eA)) aA)
  (af (bg (cU plainAttrs_list PySem.F.slot_list_append PySem.F.type_list_append bn (pv 4) (aa (pv 1) ae)))
  (ak (bg (cU plainAttrs_list PySem.F.slot_list_append PySem.F.type_list_append bn (pv 5) (aa ah ae))))),?_⟩
 intro j H1 H a tc p kl ml lc ll t zc z m ks M TT ms cs b D G I J y B c g q;obtain⟨dx,b6⟩:=c.wat.ob;have c6:=c.lm;have c7:=c.past.pos;obtain⟨c4,c5,a6,a7,a8⟩:=c.f1;obtain⟨b1,b2,R,b3,b4,S,U⟩:=c.n1;refine⟨_,rfl,p,dx,_,rfl,b6,iQ (by decide +kernel) (by decide +kernel) (by decide +kernel) (by decide +kernel) (by decide +kernel),p,kl,ml,t,z,m,_,ks,ms,rfl,c.wat,by omega,λH2 a3 n c2=>?_⟩;have h:=n _ _ c.lcs (by simpa using R);have b5:=n _ _ c.lls (by simpa using S);refine⟨_,rfl,lc,_,rfl,.inl (SqL.of h),rfl,_,rfl,?_⟩;rw[show(!decide (V.int (ms.length:Int)=V.int (((cs.map λx=>V.ref x.1).length:Nat):Int)))=false by rw[length_map,c.lenc];simp];refine aC ⟨_,rfl,.inl ⟨rfl,_,SqL.of h⟩,_,rfl,lc,_,_,rfl,rfl,h,aB (by rw[length_map,c.lenc];omega),?_⟩;have v:=fH (ys:=(cs.map λx=>V.ref x.1)++[.ref tc]) h;have i:Off [lc] H2 (upd H2 lc (.lst ((cs.map λx=>V.ref x.1)++[.ref tc]))):=λb o e g=>by rw[ai (by simpa using g)];exact e
 have W:upd H2 lc (.lst ((cs.map λx=>V.ref x.1)++[.ref tc])) lc=some (.lst ((cs++[(tc,zc)]).map λx=>V.ref x.1)):=by rw[ac,map_append];rfl
 have N:=a3.off i v (by simpa using Ne.symm b1) (by simpa using Ne.symm b2) (by simpa using Ne.symm R);generalize upd H2 lc (.lst ((cs.map λx=>V.ref x.1)++[.ref tc]))=L at v i W N⊢;have k:=i _ _ b5 (by simpa using Ne.symm U);refine⟨_,rfl,.inl ⟨rfl,_,SqL.of k⟩,ll,_,_,rfl,rfl,k,aB (by rw[length_map,length_map];omega),?_⟩;have a0:=fH (ys:=((ms.map λx=>(TT.length:Int)-1-x).map V.int)++[.int 0]) k;have l:Off [ll] L (upd L ll (.lst (((ms.map λx=>(TT.length:Int)-1-x).map V.int)++[.int 0]))):=λb o e g=>by rw[ai (by simpa using g)];exact e
 have u:=(c2.trans v).trans a0;refine q _ (ms++[(TT.length:Int)-1]) (cs++[(tc,zc)]) ⟨λb o e=>?_,c.f1,c.n1,c.tre.ts u,c.eq,c.ok,N.off l a0 (by simpa using Ne.symm b3) (by simpa using Ne.symm b4) (by simpa using Ne.symm S),c.past,by have:=c.few;omega,by have:=c.len;omega,λc3 b9=>by have:=c.sz c3 b9;omega,l _ _ W (by simpa using U),λx d=>?_,?_,by rw[length_append,length_append,c.lenc];rfl,λr x mk h1 h2=>?_,λx d=>?_,by rw[length_append];show ms.length+1≤_;omega,c.m5⟩
 ·refine l _ _ (i _ _ (n _ _ (c.s0 _ _ e) (by simpa using ao e a6)) (by simpa using ao e a7)) (by simpa using ao e a8)
 ·rcases mem_append.mp d with d|d
  ·exact(c.ctr x d).ts u
  ·have:x=(tc,zc):=by simpa using d
   rw[this];exact c.tre.ts u
 ·rw[ac,map_append,map_append]
  congr 3
  show[V.int 0]=[V.int ((TT.length:Int)-1-((TT.length:Int)-1))]
  congr 2
  omega
 ·by_cases X:r<cs.length
  ·rw[getElem?_append_left X]at h1;rw[getElem?_append_left (by rw[←c.lenc];exact X)]at h2;exact c.csT r x mk h1 h2
  ·have Y:r<(cs++[(tc,zc)]).length:=(List.getElem?_eq_some_iff.mp h1).1;rw[length_append]at Y;have b0:r=cs.length:=by
    have:r<cs.length+1:=Y;omega
   subst b0;rw[getElem?_append_right (le_refl _),sub_self]at h1;rw[c.lenc,getElem?_append_right (le_refl _),sub_self]at h2;have ex:(tc,zc)=x:=Option.some.inj h1;have a9:(TT.length:Int)-1=mk:=Option.some.inj h2;rw[←ex,←a9];show nds zc=_;rw[c.eq,show((TT.length:Int)-1).toNat=TT.length-1 by omega,c.past.at_last]
 ·rcases mem_append.mp d with d|d
  ·exact c.mrg x d
  ·have:x=(TT.length:Int)-1:=by simpa using d
   omega
end
theorem ud{t u:List Nd}{b:List Row}(a:TW.Chg t u b)(T:TW.Tree1 u):TW.Appl t b (some u):=.ok a.fits (a.appTo T.rise) T.toTree
theorem rh{t u:List Nd}{d:ZR}(f:TW.Chg t u (bo d))(i:∀n∈t,eT n)(c:∀n∈u,eT n):∀e∈d,wI e.2:=λe g=>by
 have a:1≤e.2.k∧e.2.k≤60:=by
  rcases wn f g with a|a<;>obtain⟨m,b,j⟩:=mem_map.mp a<;>rw[←j]
  ·exact⟨(i m b).1,(i m b).2.1⟩
  ·exact⟨(c m b).1,(c m b).2.1⟩
 obtain⟨_,h2,_⟩:=(f.mem e.2).mp (mem_map.mpr ⟨e,g,rfl⟩);refine⟨by omega,a.2,λn h=>c n ?_⟩;rw[h2]at h;exact(TW.cb h).1
def rdI(i:Nat):Stmt:=match rdN.getD 2 (.Pass ⟨0,0,0,0⟩)with
 |.If _ _ o _=>o.getD i (.Pass ⟨0,0,0,0⟩)
 |_=>.Pass ⟨0,0,0,0⟩
structure LQ(C:Addr)(H H':Hp)(p kl ml lc ll t:Addr)(z:ZN)(m dn:Int)(ks:List (Addr×ZR))(ns:List Int)(S:List Addr):Prop where
 wat:WAt C H' p kl ml t z m dn ks ns
 of:Off S H H'
 ts:bQ H H'
theorem LQ.same{C:Addr}{c H' d:Hp}{p g j h i t:Addr}{z:ZN}{m f:Int}{ks:List (Addr×ZR)}{ns:List Int}{S:List Addr}(a:LQ C c H' p g j h i t z m f ks ns S)(s:Same H' d):LQ C c d p g j h i t z m f ks ns S:=⟨a.wat.same s,λb o e k=>s _ _ (a.of _ _ e k),a.ts.trans (kH s)⟩
theorem LQ.lst{C:Addr}{g H':Hp}{p d f i j t l:Addr}{z:ZN}{m h:Int}{ks:List (Addr×ZR)}{ns:List Int}{S:List Addr}{xs ys:List V}(c:LQ C g H' p d f i j t z m h ks ns S)(n:H' l=some (.lst xs))(q:l≠p)(r:l≠d)(s:l≠f):LQ C g (upd H' l (.lst ys)) p d f i j t z m h ks ns (l::S):=by
 have k:=fH (ys:=ys) n;refine⟨c.wat.off (S:=[l]) (λb o e a=>by rw[ai (by simpa using a)];exact e) k (by simpa using Ne.symm q) (by simpa using Ne.symm r) (by simpa using Ne.symm s),λb o e a=>?_,c.ts.trans k⟩;rw[ai λz=>a (by rw[z];exact mem_cons_self)];exact c.of _ _ e λz=>a (mem_cons_of_mem _ z)
section
variable{P:Program}{w:World}{K:PySem.W.Frag}{mg:Str→Option Value}{base:Heap}{f C CN CR:Addr}{cdv:Value}{A:Around}{outer:List Env}{s:Shared}{H0:Hp}{E:XK}
theorem rc0:∃n,PS (RDX P w K mg base f cdv A outer s H0 E) (rdI 0) n∧∀(e:Ends)(H:Hp)(a tc p lc ll b v:Addr)(m d:Int)(x:Str)(xs:List V)(k:Nat)(g i j l:Option V),H b=some (.tup [.str x,.ref v])→H ll=some (.lst xs)→atI xs (k:Int)=some (.int d)→x=(if m<d then "tree" else "change") →
   e.nx (rdσ a tc m p lc ll g i j l (some (.int k)) (some (.ref b))) H→n e (rdσ a tc m p lc ll g i j l (some (.int k)) (some (.ref b))) H:=by
 refine⟨_,aP (am dg (ax av (pv 11) ah (λ_ _=>rfl)) (jA (am rC (ax bX (pv 5) (pv 10) (λ_ _=>rfl)) (pv 2) (au _)) aG aG) (au _)) (ak (aw eA)) aA,?_⟩;intro e H a tc p lc ll b v m d x xs k g i j l t o r c q;refine⟨_,rfl,b,_,0,_,rfl,rfl,SqT.of t,rfl,_,rfl,_,rfl,ll,_,_,_,rfl,rfl,SqL.of o,r,_,rfl,_,_,rfl,rfl,_,rfl,?_⟩
 by_cases h:m<d
 ·rw[decide_eq_true h];rw[if_pos h]at c;subst c;refine aQ ⟨rfl,_,rfl,?_⟩;rw[show(!decide (V.str ("tree":Str)=V.str ("tree":Str)))=false by simp];exact aC q
 ·rw[decide_eq_false h];rw[if_neg h]at c;subst c;refine aC ⟨rfl,_,rfl,?_⟩;rw[show(!decide (V.str ("change":Str)=V.str ("change":Str)))=false by simp];exact aC q
theorem rc1(a0:Room 5 (A.deeper (PyProof.Rows.envOfC "law" (aj lr) s.heap.objs.size f cdv)))(O:dU P w K mg base 5 "applied" ["tree","change"] (pU CN)):
  ∃N,PS (RDX P w K mg base f cdv A outer s H0 E) (rdI 1) N∧∀(g:Ends)(H2 H:Hp)(a tc p kl ml lc ll t b v:Addr)(z:ZN)(m dn:Int)(ks:List (Addr×ZR))(ns:List Int)(cs:List (Addr×ZN))(k:Nat)(l:k<cs.length)(x:Str)(r u y B:Option V),LQ C H2 H p kl ml lc ll t z m dn ks ns [ml]→H b=some (.tup [.str x,.ref v])→H lc=some (.lst (cs.map λx=>V.ref x.1))→lc≠p→lc≠kl→lc≠ml →
   ((x="tree"∧v=t)∨(x="change"∧∃es,ChgAt H v es∧TW.Chg (nds cs[k].2) (nds z) (bo es)∧Tre H cs[k].1 cs[k].2∧(∀n∈nds cs[k].2,eT n)∧(∀n∈nds z,eT n)∧cs[k].2.length+es.length≤60)) →
   (∀H' t' us,LQ C H2 H' p kl ml lc ll t z m dn ks ns [lc,ml]→H' lc=some (.lst ((cs.set k (t',us)).map λx=>V.ref x.1))→Tre H' t' us→nds us=nds z→g.nx (rdσ a tc m p lc ll r u y B (some (.int k)) (some (.ref b))) H')→N g (rdσ a tc m p lc ll r u y B (some (.int k)) (some (.ref b))) H:=by
 obtain⟨a6,a7,R,mA,a4,W⟩:=O;refine⟨_,aP (am cB (ax av (pv 11) ah (λ_ _=>rfl)) aG (au _))
    (ak (md (al R a0 rfl mA a4 W .nil vi (aa (ax bX (pv 4) (pv 10) (λ_ _=>rfl)) (aa (ax av (pv 11) ah (λ_ _=>rfl)) ae))) (ma (pv 4) (pv 10) gU)))
    (ak (md (ax av (pv 11) ah (λ_ _=>rfl)) (ma (pv 4) (pv 10) gU))),?_⟩
 intro g H2 H a tc p kl ml lc ll t b v z m dn ks ns cs k l x r u y B Q o c I J L a3 q;have U:atI (cs.map λx=>V.ref x.1) (k:Int)=some (.ref cs[k].1):=eO (by rw[getElem?_map,getElem?_eq_getElem l];rfl);have G:ixN (cs.map λx=>V.ref x.1).length (k:Int)=some k:=jr (by rw[length_map];exact l);refine⟨_,rfl,b,_,0,_,rfl,rfl,SqT.of o,rfl,rfl,_,rfl,?_⟩;rcases a3 with⟨rfl,rfl⟩|⟨rfl,es,Z,j,Y,M,a5,a1⟩
 ·refine aC ⟨_,rfl,b,_,1,_,rfl,rfl,SqT.of o,rfl,_,rfl,_,rfl,lc,_,_,k,rfl,rfl,c,G,?_⟩;have d:=Q.lst (ys:=(cs.map λx=>V.ref x.1).set k (.ref v)) c I J L;exact q _ v z d (by rw[ac,map_set]) d.wat.tr rfl
 ·have F:=ud j Q.wat.tr.tr;refine aQ ⟨_,rfl,_,rfl,lc,_,_,_,rfl,rfl,SqL.of c,U,_,rfl,b,_,1,_,rfl,rfl,SqT.of o,rfl,cs[k].1,v,cs[k].2,es,rfl,Y,M,Z,sC j,rh j M a5,a1,λus t' D e a2 X h=>?_,λD _ h=>(F.not_both h).elim⟩;have i:=h.some_uniq F;have S:=Q.same e;refine⟨_,rfl,_,rfl,lc,_,_,k,rfl,rfl,e _ _ c,G,?_⟩;have d:=S.lst (ys:=(cs.map λx=>V.ref x.1).set k (.ref t')) (e _ _ c) I J L;refine q _ t' us d (by rw[ac,map_set]) ?_ i;have T:Tre D t' us:=⟨a2,X,by rw[i];exact Q.wat.tr.tr,by have h1:=congrArg length i;rw[aI,aI]at h1;have h2:=Q.wat.tr.len;omega⟩;exact T.ts (fH (e _ _ c))
theorem rc2:∃n,PS (RDX P w K mg base f cdv A outer s H0 E) (rdI 2) n∧∀(c:Ends)(H2 H:Hp)(a tc p kl ml lc ll t:Addr)(z:ZN)(m dn:Int)(ks:List (Addr×ZR))(ns:List Int)(S:List Addr)(xs:List V)(k:Nat)(h i j l g:Option V),LQ C H2 H p kl ml lc ll t z m dn ks ns S→H ll=some (.lst xs)→k<xs.length→ll≠p→ll≠kl→ll≠ml →
   (∀H',LQ C H2 H' p kl ml lc ll t z m dn ks ns (ll::S)→bQ H H'→Off [ll] H H'→H' ll=some (.lst (xs.set k (.int 0)))→c.nx (rdσ a tc m p lc ll h i j l (some (.int k)) g) H')→n c (rdσ a tc m p lc ll h i j l (some (.int k)) g) H:=by
 refine⟨_,md ah (ma (pv 5) (pv 10) gU),?_⟩;intro c H2 H a tc p kl ml lc ll t z m dn ks ns S xs k h i j l g Q d u v x y q;exact⟨_,rfl,_,rfl,ll,_,_,k,rfl,rfl,d,jr u,q _ (Q.lst d v x y) (fH d) (λb o e r=>by rw[ai (by simpa using r)];exact e) ac⟩
theorem rc3(a5:WCls K mg C)(X:Room 5 (A.deeper (PyProof.Rows.envOfC "law" (aj lr) s.heap.objs.size f cdv))){N:Addr}{O:FuncData}(a4:FnOk P w K mg base (CX1 P w) 4 N O ["self","number"] (gl C CR))(c5:Meth K C "read" N)(a7:bf K O ["self","number"] []):
  ∃a1,PS (RDX P w K mg base f cdv A outer s H0 E) (rdI 3) a1∧∀(r:Ends)(H2 H:Hp)(a tc p kl ml lc ll t:Addr)(zc z:ZN)(m dn:Int)(ks:List (Addr×ZR))(ns:List Int)(S:List Addr)(cs:List (Addr×ZN))(u:Nat→List Nd)(M:List Int)(k:Nat)(U:k<cs.length)(F G I J D:Option V),LQ C H2 H p kl ml lc ll t z m dn ks ns S→Hist ks u M→ks.length≤100→k≤60→dn≤60→(∀x∈ns,0≤x∧x≤dn)→ns[k]?=some dn→H lc=some (.lst (cs.map λx=>V.ref x.1))→Tre H cs[k].1 cs[k].2→nds cs[k].2=nds zc→Tre H tc zc →
   (∀H',WAt C H' p kl ml t z m dn ks ns→Off [ml] H H'→bQ H H'→r.nx (rdσ a tc m p lc ll F G I J (some (.int k)) D) H')→a1 r (rdσ a tc m p lc ll F G I J (some (.int k)) D) H:=by
 have c3:Room 4 _:=X.mono (by decide);have Y:=qz X;refine⟨_,aP (PW.pt (pw_or (am (vf Y) (ax bX (pv 4) (pv 10) (λ_ _=>rfl)) (pv 1) (au _)) (pw_or1 (am (vf Y) (mt (pv 3) a5.cl c5 a4 c3 a7 .nil vi (aa (pv 10) ae)) (be (aa aG (aa (be ae) ae))) (au _))))) (ak (aw eA)) aA,?_⟩;intro r H2 H a tc p kl ml lc ll t zc z m dn ks ns S cs u M k U F G I J D Q hi b7 d0 b4 c0 l b8 R b0 T q;have a6:atI (cs.map λx=>V.ref x.1) (k:Int)=some (.ref cs[k].1):=eO (by rw[getElem?_map,getElem?_eq_getElem U];rfl);have b6:k<ns.length:=(List.getElem?_eq_some_iff.mp l).1;refine⟨_,rfl,_,rfl,lc,_,_,_,rfl,rfl,SqL.of b8,a6,_,rfl,.inr ⟨cs[k].1,tc,_,_,rfl,rfl,jc b0 R.nod T.nod,.inr ⟨R.tup,T.tup⟩,_,rfl,aC ?_⟩⟩;obtain⟨dx,c1⟩:=Q.wat.ob;have same:ns.set k dn=ns:=by
  apply ext_getElem?;intro i
  by_cases e:i=k
  ·subst e;rw[getElem?_set_self b6,l]
  ·rw[getElem?_set_ne (Ne.symm e)]
 refine⟨_,rfl,p,dx,_,rfl,c1,iQ (by decide +kernel) (by decide +kernel) (by decide +kernel) (by decide +kernel) (by decide +kernel),_,rfl,p,kl,ml,t,z,m,dn,ks,ns,k,u,M,rfl,Q.wat,hi,b7,by omega,by omega,b4,c0,λh=>(by omega),λk' mark c8 n=>⟨λb9 a0 H' v Z a3 W=>?_,λc4 b9 a0 c es H' v Z a3 b2 b3 W=>?_⟩⟩
 ·have:k=k':=by omega
  subst this;rw[l]at n;have:dn=mark:=Option.some.inj n;omega
 ·have:k=k':=by omega
  subst this;rw[l]at n;have c9:dn=mark:=Option.some.inj n;have a9:c4=ks.length:=by omega
  subst a9;have L:bo es=[]:=b3.nil;have a8:es=[]:=by unfold bo at L;exact List.map_eq_nil_iff.mp L
  subst a8;rw[same]at v;refine⟨zero_le _,λB b5=>?_⟩;have c7:=ag (o:=.tup []) b5;refine⟨le2,λc6 c2=>?_⟩;have a2:=ag (o:=.tup [.str "change",.ref B]) c2;have j:=c7.trans a2;refine .inr ⟨a0,c6,[.str "change",.ref c],[.str "change",.ref B],rfl,rfl,⟨rfl,λi x y d g=>?_⟩,.inr ⟨j _ _ W,ac⟩,_,rfl,aC (q _ (v.same j) (λb o e b1=>j _ _ (Z _ _ e b1)) (a3.trans (kH j)))⟩
  match i,d,g with
  |0,d,g=>cases d;cases g;exact jZ ⟨rfl,rfl⟩
  |1,d,g =>
   cases d;cases g;exact .inr ⟨c,B,[],[],rfl,rfl,j _ _ b2.tup,a2 _ _ ac,rfl,λi x y h=>by simp at h⟩
  |i+2,d,g=>simp at d
theorem brN(T:Txt mg)(e7:WCls K mg C)(a0:Room 5 (A.deeper (PyProof.Rows.envOfC "law" (aj lr) s.heap.objs.size f cdv)))(e0:Has P w K mg base 2 "_law_pick" ["_law_script","_law_k","_law_many"] (eW K))(d9:Has P w K mg base 5 "_law_read" ["_law_watch","_law_number"] (jt C))(d8:dU P w K mg base 5 "applied" ["tree","change"] (pU CN)){c3:Addr}{c4:FuncData}(e3:FnOk P w K mg base (CX1 P w) 4 c3 c4 ["self","number"] (gl C CR))(j0:Meth K C "read" c3)(f3:bf K c4 ["self","number"] []):
  ∃d5,PSs (RDX P w K mg base f cdv A outer s H0 E) rdN d5∧∀(B:Ends)(H1 H:Hp)(a tc p kl ml lc ll t:Addr)(zc z:ZN)(m:Int)(ks:List (Addr×ZR))(M:List Int)(T:List (List Nd))(ms:List Int)(cs:List (Addr×ZN))(b j:Nat)(G I J a1 a2:Option V),eG K H1 a→LR C H1 H tc zc p kl ml lc ll t z m ks M T ms cs b→b≤14 →
   (∀H' j1 f4 a1 a2,LR C H1 H' tc zc p kl ml lc ll t z m ks M T j1 f4 (b+1)→B.nx (rdσ a tc m p lc ll (some (.int j)) G I J a1 a2) H')→d5 B (rdσ a tc m p lc ll (some (.int j)) G I J a1 a2) H:=by
 obtain⟨k4,k6,e2,i9,i6,f2⟩:=e0;obtain⟨k3,k5,e1,i8,i5,f0⟩:=d9;have i1:Room 2 _:=a0.mono (by decide);obtain⟨a9,j3,W⟩:=rc0 (P:=P) (w:=w) (K:=K) (mg:=mg) (base:=base) (f:=f) (cdv:=cdv) (A:=A) (outer:=outer) (s:=s) (H0:=H0) (E:=E);obtain⟨b0,j4,h1⟩:=rc1 (C:=C) (outer:=outer) (H0:=H0) (E:=E) a0 d8;obtain⟨b1,p2,h2⟩:=rc2 (C:=C) (P:=P) (w:=w) (K:=K) (mg:=mg) (base:=base) (f:=f) (cdv:=cdv) (A:=A) (outer:=outer) (s:=s) (H0:=H0) (E:=E);obtain⟨b2,j5,h3⟩:=rc3 (outer:=outer) (H0:=H0) (E:=E) e7 a0 e3 j0 f3;refine⟨_,af (ay (i:=10) iw.nd rfl (Or.inl rfl) (aD mn (al e2 i1 rfl i9 i6 f2 .nil aM (aa (pv 0) (aa (aD aW ah (pv 6)) (aa (aD aW (ar aH rfl T.len boot_len (aa (pv 4) ae)) ah) ae)))) ah))
  (af (ay (i:=11) iw.nd rfl (Or.inl rfl) (al e1 a0 rfl i8 i5 f0 .nil aM (aa (pv 3) (aa (pv 10) ae))))
  (ak (aP (cN (oq oo gn ah (pv 10) (ar aH rfl T.len boot_len (aa (pv 4) ae))))
   (ak (aP (am dg (pv 11) aG (au _)) (ak (aw eA)) aA))
   (af j3 (af j4 (af p2 (ak j5))))))),?_⟩
 intro B H1 H a tc p kl ml lc ll t zc z m ks M TT ms cs b j G I J a1 a2 g6 d k7 q;have l0:=d.lm;have k9:=d.len;have k8:=d.few;have i0:=d.m5;have l3:=d.past.len;have l4:=d.past.pos;have c8:=d.lenc;obtain⟨k1,k2,b8,f7,f8⟩:=d.f1;obtain⟨g1,g2,g3,g4,g5,U,c5⟩:=d.n1;obtain⟨l6,l5⟩:=d.zlen;refine⟨_,rfl,_,rfl,_,_,rfl,rfl,_,rfl,lc,_,rfl,.inl (SqL.of d.lcs),_,_,rfl,rfl,a,_,_,rfl,by omega,?_,g6.same d.s0,λr H2 l9 j6 j7=>?_⟩
 ·rw[length_map];omega
 rw[length_map]at j6;refine⟨_,_,rfl,rfl,?_⟩;have l:=d.same j7;have c7:ks.length≤100:=by omega
 have hi:=d.past.hist (by omega);have d1:∀x∈ms,0≤x∧x≤(TT.length:Int)-1:=λx n=>by have:=d.mrg x n;omega
 refine⟨_,rfl,_,rfl,p,kl,ml,t,z,m,_,ks,ms,r-1,_,M,rfl,l.wat,hi,c7,by omega,by omega,by omega,d1,λl2 b4 j8=>?_,λk u b9 Y=>?_⟩
 ·have a3:=l.same j8;refine⟨_,rfl,_,_,rfl,rfl,_,rfl,?_⟩
  by_cases W:0≤r-1
  ·rw[decide_eq_true W];refine aQ ⟨_,rfl,lc,_,rfl,.inl (SqL.of a3.lcs),_,_,rfl,rfl,_,rfl,?_⟩;rw[show decide (r-1<(((cs.map λx=>V.ref x.1).length:Nat):Int))=false by rw[length_map,c8];exact decide_eq_false (by omega)];refine aQ ⟨_,rfl,rfl,_,rfl,?_⟩;rw[show(!decide (V.str ("no reader":Str)=V.str ("no reader":Str)))=false by simp];exact aC (q b4 ms cs _ _ a3.more)
  ·rw[decide_eq_false W];refine aC ⟨_,rfl,aQ ⟨_,rfl,rfl,_,rfl,?_⟩⟩;rw[show(!decide (V.str ("no reader":Str)=V.str ("no reader":Str)))=false by simp];exact aC (q b4 ms cs _ _ a3.more)
 ·have c6:k<ms.length:=(List.getElem?_eq_some_iff.mp Y).1;have N:k<cs.length:=by omega
  have l1:=d.mrg u (mem_of_getElem? Y);have g7:cs[k]?=some cs[k]:=getElem?_eq_getElem N;have g8:=getElem_mem N;have X:=d.csT k _ u g7 Y;have e9:atI ((ms.map λx=>(TT.length:Int)-1-x).map V.int) (k:Int)=some (.int ((TT.length:Int)-1-u)):=eO (by rw[getElem?_map,getElem?_map,Y];rfl);have d0:u.toNat<TT.length:=by omega
  have a7:TT.getD u.toNat []∈TT:=by
   rw[getD_eq_getElem?_getD,getElem?_eq_getElem d0];exact getElem_mem d0
  have d2:(ms.set k ((TT.length:Int)-1))[k]?=some ((TT.length:Int)-1):=getElem?_set_self c6;have go:∀(H5:Hp)(h v:Addr)(x:Str),LQ C H2 H5 p kl ml lc ll t z m ((TT.length:Int)-1) ks (ms.set k ((TT.length:Int)-1)) [ml]→H5 h=some (.tup [.str x,.ref v])→x=(if m<(TT.length:Int)-1-u then "tree" else "change") →
    ((x="tree"∧v=t)∨(x="change"∧∃es,ChgAt H5 v es∧TW.Chg (nds cs[k].2) (nds z) (bo es))) →
    gm a9 (gm b0 (gm b1 b2)) B (rdσ a tc m p lc ll (some (.int j)) G I J (some (.int (k:Int))) (some (.ref h))) H5:=λH5 h v x Q D n i3=>by
   have O:=Q.of _ _ l.lcs (by simpa using g3);have h6:=Q.of _ _ l.lls (by simpa using U);refine W _ H5 a tc p lc ll h v m _ x _ k _ _ _ _ D h6 e9 n ?_;refine h1 _ H2 H5 a tc p kl ml lc ll t h v z m _ ks _ cs k N x _ _ _ _ Q D O g1 g2 g3 (i3.imp id λ⟨ex,es,a5,L⟩=>⟨ex,es,a5,L,(l.ctr _ g8).ts Q.ts,?g1,d.ok _ d.last,?g2⟩) λb5 t' F b6 h4 e6 c2=>?g3
   case g1=>rw[X];exact d.ok _ a7
   case g2 =>
    have l7:=nN L (by rw[X];exact d.past.num _ a7) (d.past.num _ d.last);have i7:=d.sz _ a7;rw[←X,aI]at i7;omega
   have h7:b5 ll=some (.lst ((ms.map λx=>(TT.length:Int)-1-x).map V.int)):=b6.of _ _ l.lls (by simp[Ne.symm c5,U]);refine h2 _ H2 b5 a tc p kl ml lc ll t z m _ ks _ _ _ k _ _ _ _ _ b6 h7 (by rw[length_map,length_map];exact c6) g4 g5 U λe4 S j9 j2 h8=>?_;have c9:=j2 _ _ h4 (by simpa using c5);have h0:k<(cs.set k (t',F)).length:=by rw[length_set];exact N
   have c1:(cs.set k (t',F))[k]=(t',F):=List.getElem_set_self ..;have b7:=e6.ts j9;refine h3 _ H2 e4 a tc p kl ml lc ll t zc z m _ ks _ _ (cs.set k (t',F)) _ M k h0 _ _ _ _ _ S hi c7 (by omega) (by omega) (λx n=>?_) d2 c9 (by rw[c1];exact b7) (by rw[c1];exact c2.trans d.eq.symm) (l.tre.ts S.ts) λe5 e8 a8 d7=>?_
   ·rcases List.mem_or_eq_of_mem_set n with n|n
    ·exact d1 x n
    ·rw[n];omega
   have h5:=a8 _ _ c9 (by simpa using g3);have h9:=a8 _ _ h8 (by simpa using U);have d6:=S.ts.trans d7;refine q e5 (ms.set k ((TT.length:Int)-1)) (cs.set k (t',F)) _ _ ⟨λl8 o e=>?_,d.f1,d.n1,l.tre.ts d6,d.eq,d.ok,e8,d.past,by omega,by omega,λk0 i2=>by have:=d.sz k0 i2;omega,h5,λy g=>?_,?_,by rw[length_set,length_set];exact c8,λd4 y mk g Z=>?_,λy g=>?_,by rw[length_set];omega,i0⟩
   ·refine a8 _ _ (S.of _ _ (l.s0 _ _ e) ?_) (by simpa using ao e b8);simp[ao e b8,ao e f7,ao e f8]
   ·rcases List.mem_or_eq_of_mem_set g with g|g
    ·exact(l.ctr y g).ts d6
    ·rw[g];exact b7.ts d7
   ·rw[h9];simp only[map_set,Int.sub_self]
   ·by_cases c0:d4=k
    ·subst c0;rw[getElem?_set_self N]at g;rw[d2]at Z;have g0:(t',F)=y:=Option.some.inj g;have f9:(TT.length:Int)-1=mk:=Option.some.inj Z;rw[←g0,←f9,show((TT.length:Int)-1).toNat=TT.length-1 by omega,d.past.at_last];exact c2
    ·rw[getElem?_set_ne (Ne.symm c0)]at g Z;exact d.csT d4 y mk g Z
   ·rcases List.mem_or_eq_of_mem_set g with g|g
    ·exact d.mrg y g
    ·rw[g];omega
  have d3:∀(H5:Hp),H5 lc=some (.lst (cs.map λx=>V.ref x.1))→∀(h:Addr),gm a9 (gm b0 (gm b1 b2)) B (rdσ a tc m p lc ll (some (.int j)) G I J (some (.int (k:Int))) (some (.ref h))) H5 →
    yL (Ax (rD (pX (rI0 λi j=>.bl (decide (i≤j))) (rI0 λi j=>.bl (decide (i<j))) (tC (.int 0)) (dP 10) (tCB (λxs H Q=>∃p ys,xs=[V.ref p]∧(SqL K H p ys∨SqT K H p ys)∧Q (.int ys.length) H) (cM (dP 4) jF))))) (yL (rD (tOp rNe (dP 11) (tC (.str "no reader")))) (wK (tC (.bl false))) yr) (gm a9 (gm b0 (gm b1 b2))) B (rdσ a tc m p lc ll (some (.int j)) G I J (some (.int (k:Int))) (some (.ref h))) H5:=λH5 a6 h g9=>by
   refine⟨_,rfl,_,_,rfl,rfl,_,rfl,?_⟩;rw[decide_eq_true (show(0:Int)≤(k:Int)by omega)];refine aQ ⟨_,rfl,lc,_,rfl,.inl (SqL.of a6),_,_,rfl,rfl,_,rfl,?_⟩;rw[show decide ((k:Int)<(((cs.map λx=>V.ref x.1).length:Nat):Int))=true by rw[length_map];exact decide_eq_true (by omega)];exact aC g9
  refine⟨λa6 h H5 a4 R b3 D=>?_,λi4 a6 h c es H5 a4 R b3 a5 L D=>?_⟩
  ·have O:=R _ _ l.lcs (by simpa using g3);have:=d3 H5 O h (go H5 h t "tree" ⟨a4,R,b3⟩ D (by rw[if_pos (by omega)]) (.inl ⟨rfl,rfl⟩));rw[←b9]at this;exact this
  ·have O:=R _ _ l.lcs (by simpa using g3);have f5:TT.length-1-ks.length+i4=u.toNat:=by omega
   have f6:TT.length-1-ks.length+ks.length=TT.length-1:=by omega
   rw[f5,f6,d.past.at_last,←X]at L;have:=d3 H5 O h (go H5 h c "change" ⟨a4,R,b3⟩ D (by rw[if_neg (by omega)]) (.inr ⟨rfl,es,a5,L⟩));rw[←b9]at this;exact this
def sF(K:PySem.W.Frag):Sp:=λvs H Q _=>∃(a:Addr) (b:List Int),vs=[.ref a]∧SqL K H a (b.map V.int)∧b.length≤63∧∀H',Q (.bl true) H'
theorem Av{f C CN CR b8 b7 c0 b6 b9:Addr}{cls:TW.Wd→Addr}{c1 c4 c3 c6 c2 c5:FuncData}(F:Fun K "law" "law" lr f c1)(T:Txt mg)(v:WCls K mg C)(Y:Mk K C b8)(e1:FnOk P w K mg base CX0 1 b8 c4 ["self","tree","most"] (qW C))(e9:bf K c4 ["self","tree","most"] [])(e0:FnOk P w K mg base (CX1 P w) 5 b7 c3 ["self","deed"] (jq C cls))(h9:Meth K C "deed" b7)(e8:bf K c3 ["self","deed"] [])(e3:FnOk P w K mg base (CX1 P w) 4 c0 c6 ["self","number"] (gl C CR))(i0:Meth K C "read" c0)(f1:bf K c6 ["self","number"] [])(d9:FnOk P w K mg base CX0 1 b6 c2 ["self"] (nO C))(h8:Meth K C "reader" b6)(e7:bf K c2 ["self"] [])(e2:FnOk P w K mg base CX0 1 b9 c5 ["self"] (qX C))(mN:Meth K C "now" b9)(f0:bf K c5 ["self"] [])(d4:Has P w K mg base 3 "_law_tree" ["_law_script","_law_at","_law_most"] (nP K))(b2:Has P w K mg base 2 "_law_pick" ["_law_script","_law_k","_law_many"] (eW K))(CE:Has P w K mg base 3 "_law_deed" ["_law_script","_law_at","_law_tree_here"] (nQ K))(d5:Has P w K mg base 2 "_law_done" ["_law_tree_here","_law_deed_here"] jv)(d3:dU P w K mg base 5 "applied" ["tree","change"] (pU CN))(d7:Has P w K mg base 5 "_law_read" ["_law_watch","_law_number"] (jt C)):FnOk P w K mg base CX0 6 f c1 ["_law_script"] (sF K):=by
 have d6:=b2;obtain⟨j4,j6,d8,h7,h5,e6⟩:=d4;obtain⟨j5,j7,U,a5,a4,Z⟩:=b2;refine F.ok iw (λvs H Q E h=>?_) (λcdv A outer s H vs Q E g h=>?_)
 ·obtain⟨a,k4,rfl,_⟩:=h;rfl
 ·obtain⟨a,i2,rfl,g0,d,q⟩:=h;have k:eG K H a:=⟨i2,g0⟩;have g7:Room 1 _:=g.mono (by decide);have I:Room 2 _:=g.mono (by decide);have g8:Room 3 _:=g.mono (by decide);have g9:Room 4 _:=g.mono (by decide);have h4:=qz g9;obtain⟨k5,i5,f6⟩:=brA (outer:=outer) (H0:=H) (E:=E) T v g CE d5 e0 h9 e8;obtain⟨k7,i7,f9⟩:=brR (outer:=outer) (H0:=H) (E:=E) T v g d9 h8 e7;obtain⟨k6,i6,f8⟩:=brN (outer:=outer) (H0:=H) (E:=E) T v g d6 d7 d3 e3 i0 f1;refine⟨_,af (ay (i:=1) iw.nd rfl (Or.inl rfl) (al d8 g8 rfl h7 h5 e6 .nil aM (aa (pv 0) (aa ah (aa ah ae)))))
   (af (ay (i:=2) iw.nd rfl (Or.inl rfl) (al U I rfl a5 a4 Z .nil aM (aa (pv 0) (aa ah (aa ah ae)))))
   (af (ay (i:=3) iw.nd rfl (Or.inl rfl) (wP Y e1 I rfl v.mgC e9 .nil aM (aa (pv 1) (aa (pv 2) ae))))
   (af (ay (i:=4) iw.nd rfl (Or.inl rfl) (bi ae))
   (af (ay (i:=5) iw.nd rfl (Or.inl rfl) (bi ae))
   (af (fc PassesOwn.never rfl (lx rfl T.range (aa (aD aW ah (al U I rfl a5 a4 Z .nil aM (aa (pv 0) (aa ah (aa ah ae))))) ae)) (aN (i:=6) iw.nd rfl (Or.inl rfl))
    (af (ay (i:=7) iw.nd rfl (Or.inl rfl) (al U I rfl a5 a4 Z .nil aM (aa (pv 0) (aa (aD aW ah (pv 6)) (aa ah ae)))))
    (ak (aP (am gn (pv 7) ah (au _)) i5 (ak (aP (am cB (pv 7) ah (au _)) i7 i6))))))
   (ak (aw (eM (zA h4) (ou (pv 3) v.cl mN e2 g7 f0 .nil aM) (pv 1) (au _))))))))),?_⟩
  refine⟨_,rfl,a,0,6,rfl,by decide,by decide,by decide,k,λM z1 H1 h3 f7 j9 g1 c7 d0=>?_⟩;have j0:TW.Tree1 (nds z1):=⟨g1,λn d=>by obtain⟨z,a3,rfl⟩:=fo d;exact(c7 z a3).1⟩;have e5:Tre H1 M z1:=⟨h3,f7,j0,by omega⟩;have i4:∀n∈nds z1,eT n:=λn d=>by obtain⟨z,a3,rfl⟩:=fo d;exact(c7 z a3).ok
  refine⟨_,rfl,a,_,_,rfl,by decide,by decide,k.same d0,λm l h6 k3 d1=>?_⟩;have J:=d0.trans d1;have b5:=e5.same d1;refine⟨_,rfl,_,rfl,λp dx a2 g2 j8=>?_⟩;have L:Same l (upd (upd l dx (.own p)) p (.ins C dx [])):=λb o e=>by
   rw[ai (ao e a2),ai (ao e g2)];exact e
  refine⟨p,dx,M,z1,m,rfl,ac,b5.same L,λkl ml H4 g4 g5 W i3=>⟨rfl,?_⟩⟩;have f4:l kl=none:=L.free g4;have f5:l ml=none:=L.free g5;have d2:Same l H4:=λb o e=>i3 _ _ (L _ _ e) (by simpa using ao e a2);have a6:=J.trans d2;obtain⟨j3,c9⟩:=W.ob;refine⟨zero_le _,λlc B=>?_⟩;have a8:=ag (o:=.lst []) B;have a0:upd H4 lc (.lst []) lc=some (.lst []):=ac;generalize upd H4 lc (.lst [])=b3 at a8 a0⊢;refine⟨zero_le _,λll a1=>?_⟩;have a9:=ag (o:=.lst []) a1;have c8:upd b3 ll (.lst []) ll=some (.lst []):=ac;generalize upd b3 ll (.lst [])=e4 at a9 c8⊢;have a7:=a8.trans a9;have G:H4 ll=none:=a8.free a1;have b4:LR C H e4 M z1 p kl ml lc ll M z1 m [] ((nds z1).map (·.num)) [nds z1] [] [] 0:=by
   refine⟨a6.trans a7,⟨J.free a2,J.free f4,J.free f5,a6.free B,a6.free G⟩,⟨Ne.symm (ao c9 B),Ne.symm (ao W.kp B),Ne.symm (ao W.mks B),Ne.symm (ao c9 G),Ne.symm (ao W.kp G),Ne.symm (ao W.mks G),ao a0 a1⟩,(b5.same d2).same a7,rfl,λx j=>?_,W.same a7,⟨Nat.zero_lt_one,h6,?_,rfl,λk0 x g3=>by simp at g3,λt h0 n d=>?_⟩,?_,le_refl _,λx j=>?_,a9 _ _ a0,λx j=>(by cases j),c8,rfl,λr x mk h1 h2=>(by simp at h1),λx j=>(by cases j),le_refl _,by omega⟩
   ·have:x=nds z1:=by simpa using j
    rw[this];exact i4
   ·show(0:Int)=min ((1:Int)-1) m;omega
   ·have:t=nds z1:=by simpa using h0
    rw[this]at d;exact mem_map.mpr ⟨n,d,rfl⟩
   ·rw[length_map,aI];omega
   ·have:x=nds z1:=by simpa using j
    rw[this,aI];omega
  refine⟨_,rfl,a,_,_,rfl,by decide,by decide,k.same b4.s0,λr j1 k8 k9 i8=>?_⟩;refine⟨_,_,rfl,rfl,_,rfl,by omega,by omega,?_⟩;refine ly (n:=(1+r).toNat) (λi σ H'=>∃tc zc ll t z ks Y T ms cs b0 b1 R S N O,σ=rdσ a tc m p lc ll b0 b1 R S N O∧LR C H H' tc zc p kl ml lc ll t z m ks Y T ms cs i) ⟨_,_,_,_,_,_,_,_,_,_,_,_,_,_,_,_,rfl,b4.same i8⟩ (λi σ H' hi h=>?_) (λσ H' h=>?_)
  ·obtain⟨tc,zc,ll,t,z,ks,D,TT,ms,cs,b0,b1,R,S,N,O,rfl,c⟩:=h;rw[show(0:Int)+(i:Int)=((i:Nat):Int)by omega];refine⟨_,rfl,_,rfl,_,_,rfl,rfl,a,_,_,rfl,by omega,by decide,k.same c.s0,λy V l1 l2 i9=>?_⟩;have X:=c.same i9;refine⟨_,rfl,_,_,rfl,rfl,_,rfl,qj (λ_=>?_) (λ_=>?_)⟩
   ·exact f6 _ H V a tc p kl ml lc ll t zc z m ks D TT ms cs i i _ _ _ _ _ k X (by omega) λH' l0 l4 k2 t' l3 k1 M2 j2 R S u=>⟨_,_,_,_,_,_,_,_,_,_,_,_,_,_,_,_,rfl,u⟩
   ·refine⟨_,rfl,rfl,_,rfl,qj (λ_=>?_) (λ_=>?_)⟩
    ·exact f9 _ H V a tc p kl ml lc ll t zc z m ks D TT ms cs i _ _ _ _ _ _ X (by omega) λH' i1 f2 u=>⟨_,_,_,_,_,_,_,_,_,_,_,_,_,_,_,_,rfl,u⟩
    ·exact f8 _ H V a tc p kl ml lc ll t zc z m ks D TT ms cs i i _ _ _ _ _ k X (by omega) λH' i1 f2 N O u=>⟨_,_,_,_,_,_,_,_,_,_,_,_,_,_,_,_,rfl,u⟩
  ·obtain⟨tc,zc,ll,t,z,ks,D,TT,ms,cs,b0,b1,R,S,N,O,rfl,c⟩:=h;obtain⟨f3,g6⟩:=c.wat.ob;refine⟨_,rfl,p,f3,_,rfl,g6,iQ (by decide +kernel) (by decide +kernel) (by decide +kernel) (by decide +kernel) (by decide +kernel),p,kl,ml,t,z,m,_,ks,ms,rfl,c.wat,_,rfl,?_⟩;exact .inr ⟨t,tc,_,_,rfl,rfl,jc c.eq.symm c.wat.tr.nod c.tre.nod,.inr ⟨c.wat.tr.tup,c.tre.tup⟩,q _⟩
end
end TK
namespace TK
open PySem PySem.W PyProof.Rows L2
theorem eX{K:PySem.W.Frag}{h:Heap}{mg:Str→Option Value}{x:Str}{C:Addr}{a:List Value}{nid:String}(X:K.In h)(n:mg x=some (.ref C))(q:excIn K C a nid=true):OwnCls x C a nid mg h:=by
 have o:∃bm N nm p bs hdct sn sub ab col dd k0 k1 k2 k3 k5 e,h.get? C=some (excClassObj nm p C N bs bm hdct sn sub ab col dd k0 k1 k2 k3 k5 nid)∧h.Ns N e∧e "__init__"=none∧OwnTail h a bm:=by
  unfold excIn at q
  split at q
  case h_2=>exact absurd q (by simp)
  case h_1 d0 c0 s0 hK =>
   split at q
   case h_2=>exact absurd q (by simp)
   case h_1 C1 b1 u0 u1 u2 u3 u4 u5 e1 e2 =>
    rw[and_eq_true,and_eq_true,and_eq_true,and_eq_true,and_eq_true]at q;obtain⟨⟨⟨⟨⟨f,g⟩,i⟩,m⟩,b⟩,j⟩:=q;have k:C1=C:=beq_iff_eq.mp f;have l:u4=nid:=beq_iff_eq.mp g;have c:c0.hasDel=false:=by simpa using i
    have d:nsIn K c0.ns "__init__"=some none:=beq_iff_eq.mp j;clear f g i j;cases c0;cases s0;dsimp only at e1 e2 c b d;subst k l c e1 e2;exact⟨_,_,_,_,_,_,_,_,_,_,_,_,_,_,_,_,_,X _ _ hK,Heap.Ns.of_isNs (PySem.W.isNs_of_in X b),PySem.W.nsMap_none_of_in X b d,PySem.W.tail_of_in X m⟩
 exact⟨n,o⟩
theorem BP{b:Type}{P:List b→Prop}{us:List b}(d:us.length=0)(c:P []):P us:=by cases us with|nil=>exact c|cons a r=>cases d
theorem Bm{c:Type}{P:List c→Prop}{us:List c}(b:us.length=1)(d:∀a0,P [a0]):P us:=by cases us with|nil=>cases b|cons a r=>exact BP (P:=λr=>P (a::r)) (Nat.succ.inj b) (d a)
theorem Bn{c:Type}{P:List c→Prop}{us:List c}(b:us.length=2)(e:∀a0 d,P [a0,d]):P us:=by cases us with|nil=>cases b|cons a r=>exact Bm (P:=λr=>P (a::r)) (Nat.succ.inj b) (e a)
theorem Bo{c:Type}{P:List c→Prop}{us:List c}(b:us.length=3)(f:∀a0 d e,P [a0,d,e]):P us:=by cases us with|nil=>cases b|cons a r=>exact Bn (P:=λr=>P (a::r)) (Nat.succ.inj b) (f a)
theorem Bp{c:Type}{P:List c→Prop}{us:List c}(b:us.length=4)(g:∀a0 d e f,P [a0,d,e,f]):P us:=by cases us with|nil=>cases b|cons a r=>exact Bo (P:=λr=>P (a::r)) (Nat.succ.inj b) (g a)
theorem BQ{c:Type}{P:List c→Prop}{us:List c}(b:us.length=5)(h:∀a0 d e f g,P [a0,d,e,f,g]):P us:=by cases us with|nil=>cases b|cons a r=>exact Bp (P:=λr=>P (a::r)) (Nat.succ.inj b) (h a)
abbrev gA(K:PySem.W.Frag)(x:Str)(f:Addr):Prop:=nsIn K mainGlobals x=some (some (.ref f))
abbrev gN(K:PySem.W.Frag)(x:Str):Prop:=nsIn K mainGlobals x=some none
theorem fh{P:Program}{w:World}{K:PySem.W.Frag}{mg:Str→Option Value}{base e:Heap}{k:Nat}{x q:Str}{st:Stmt}{f:Addr}{c:FuncData}{d:List Str}{sp:Sp}(X:K.In e)(g:e.Ns mainGlobals mg)(F:Fun K x q st f c)(a:gA K x f)(b:bf K c d [])(h:FnOk P w K mg base CX0 k f c d sp):Has P w K mg base k x d sp:=⟨f,c,h,mg_of X g a,F.kp,b⟩
theorem fhX{P:Program}{w:World}{K:PySem.W.Frag}{mg:Str→Option Value}{base e:Heap}{k:Nat}{x q:Str}{st:Stmt}{f:Addr}{c:FuncData}{d:List Str}{sp:Sp}(X:K.In e)(g:e.Ns mainGlobals mg)(F:Fun K x q st f c)(a:gA K x f)(b:bf K c d [])(h:FnOk P w K mg base (CX1 P w) k f c d sp):dU P w K mg base k x d sp:=⟨f,c,h,mg_of X g a,F.kp,b⟩
theorem fb1{K:PySem.W.Frag}{x q e:Str}{st:Stmt}{f:Addr}{g:FuncData}(F:Fun K x q st f g)(i:∀(kV b c:Value) (a:Option Addr) (cdv ct h:Value),bindArgs (fnOf x q (dk st) (br st) (aj st) .none kV b c a cdv ct) ⟨[h],[]⟩=pure (List.zip [e] [h]):=by intros;rfl):bf K g [e] []:=F.binds λkV b c a cdv ct d j=>Bm (P:=λd=>bindArgs _ ⟨d,[]⟩=pure (List.zip _ d)) j (i kV b c a cdv ct)
theorem fb2{K:PySem.W.Frag}{x q e g:Str}{st:Stmt}{f:Addr}{h:FuncData}(F:Fun K x q st f h)(k:∀(kV b c:Value) (a:Option Addr) (cdv ct i j:Value),bindArgs (fnOf x q (dk st) (br st) (aj st) .none kV b c a cdv ct) ⟨[i,j],[]⟩=pure (List.zip [e,g] [i,j]):=by intros;rfl):bf K h [e,g] []:=F.binds λkV b c a cdv ct d l=>Bn (P:=λd=>bindArgs _ ⟨d,[]⟩=pure (List.zip _ d)) l (k kV b c a cdv ct)
theorem fb3{K:PySem.W.Frag}{x q e g h:Str}{st:Stmt}{f:Addr}{i:FuncData}(F:Fun K x q st f i)(m:∀(kV b c:Value) (a:Option Addr) (cdv ct j k l:Value),bindArgs (fnOf x q (dk st) (br st) (aj st) .none kV b c a cdv ct) ⟨[j,k,l],[]⟩=pure (List.zip [e,g,h] [j,k,l]):=by intros;rfl):bf K i [e,g,h] []:=F.binds λkV b c a cdv ct d n=>Bo (P:=λd=>bindArgs _ ⟨d,[]⟩=pure (List.zip _ d)) n (m kV b c a cdv ct)
theorem fb4{K:PySem.W.Frag}{x q e g h i:Str}{st:Stmt}{f:Addr}{j:FuncData}(F:Fun K x q st f j)(o:∀(kV b c:Value) (a:Option Addr) (cdv ct k l m n:Value),bindArgs (fnOf x q (dk st) (br st) (aj st) .none kV b c a cdv ct) ⟨[k,l,m,n],[]⟩=pure (List.zip [e,g,h,i] [k,l,m,n]):=by intros;rfl):bf K j [e,g,h,i] []:=F.binds λkV b c a cdv ct d p=>Bp (P:=λd=>bindArgs _ ⟨d,[]⟩=pure (List.zip _ d)) p (o kV b c a cdv ct)
theorem fb5{K:PySem.W.Frag}{x q e g h i j:Str}{st:Stmt}{f:Addr}{k:FuncData}(F:Fun K x q st f k)(r:∀(kV b c:Value) (a:Option Addr) (cdv ct l m n o p:Value),bindArgs (fnOf x q (dk st) (br st) (aj st) .none kV b c a cdv ct) ⟨[l,m,n,o,p],[]⟩=pure (List.zip [e,g,h,i,j] [l,m,n,o,p]):=by intros;rfl):bf K k [e,g,h,i,j] []:=F.binds λkV b c a cdv ct d s=>BQ (P:=λd=>bindArgs _ ⟨d,[]⟩=pure (List.zip _ d)) s (r kV b c a cdv ct)
theorem Aw{l:PySem.W.OpenLaw}{w:World}{K:PySem.W.Frag}{h3:Heap}{mg:Str→Option Value}{h2 d8 e9 f5 g5 g7 g8 g9 h0 h1 d9 e0 e1 e2 e3 e4 e5 e6 e7 e8 f0 f1 f2 f3 f4 f25 f26 f27 f28 f29 f30 f6 f7 f8 f9 g0 g1 g2 g3 g4 g6 OWatch:Addr}(X:K.In h3)(a:h3.Ns mainGlobals mg)(v4:mg "law"=some (.ref h2)){q5 r6 s2 t2 t3 t4 t5 t6 t7 q6 q7 q8 q9 r0 r1 r2 r3 r4 r5 r7 r8 r9 s0 s1 d2 d3 d4 d5 d6 d7 s3 s4 s5 s6 s7 s8 s9 t0 t1 b6:FuncData}{y2:Tok}(m1:gA K "is_whole" d8)(y:Fun K "is_whole" "is_whole" qD d8 q5)(n2:gA K "is_name" e9)(M:Fun K "is_name" "is_name" vz e9 r6)(o2:gA K "is_stamp" f5)(a0:Fun K "is_stamp" "is_stamp" qF f5 s2)(p3:gA K "is_node" g5)(b1:Fun K "is_node" "is_node" vA g5 t2)(p5:gA K "are_rising" g7)(b2:Fun K "are_rising" "are_rising" vB g7 t3)(p6:gA K "have_own_places" g8)(b3:Fun K "have_own_places" "have_own_places" zE g8 t4)(p7:gA K "numbers_inside" g9)(b4:Fun K "numbers_inside" "numbers_inside" zF g9 t5)(p8:gA K "is_tree" h0)(b5:Fun K "is_tree" "is_tree" vC h0 t6)(d0:gA K "by_number" h1)(g:Fun K "by_number" "by_number" vD h1 t7)(m2:gA K "node_of" d9)(z:Fun K "node_of" "node_of" zG d9 q6)(m3:gA K "check_folder" e0)(A:Fun K "check_folder" "check_folder" zH e0 q7)(m4:gA K "below" e1)(C:Fun K "below" "below" zI e1 q8)(m5:gA K "parts_by_number" e2)(D:Fun K "parts_by_number" "parts_by_number" cK e2 q9)(m6:gA K "unlike_entries" e3)(E:Fun K "unlike_entries" "unlike_entries" cR e3 r0)(m7:gA K "change_between" e4)(F:Fun K "change_between" "change_between" aZ e4 r1)(m8:gA K "joined" e5)(G:Fun K "joined" "joined" eJ e5 r2)(m9:gA K "applied" e6)(I:Fun K "applied" "applied" cD e6 r3)(n0:gA K "check_place" e7)(J:Fun K "check_place" "check_place" zJ e7 r4)(n1:gA K "with_node" e8)(L:Fun K "with_node" "with_node" sr e8 r5)(n3:gA K "make" f0)(N:Fun K "make" "make" vE f0 r7)(n4:gA K "write" f1)(O:Fun K "write" "write" qG f1 r8)(n5:gA K "move" f2)(P:Fun K "move" "move" vF f2 r9)(n6:gA K "drop" f3)(Q:Fun K "drop" "drop" su f3 s0)(n7:gA K "done" f4)(R:Fun K "done" "done" vG f4 s1)(c9:PySem.W.findIn K (.ref OWatch) "__init__"=some (some (.ref f25)))(h4:isFn K (.ref f25)=true)(S:Fun K "__init__" "Watch.__init__" fq f25 d2)(n8:PySem.W.findIn K (.ref OWatch) "deed"=some (some (.ref f26)))(v6:isFn K (.ref f26)=true)(U:Fun K "deed" "Watch.deed" ft f26 d3)(n9:PySem.W.findIn K (.ref OWatch) "now"=some (some (.ref f27)))(v7:isFn K (.ref f27)=true)(V:Fun K "now" "Watch.now" gP f27 d4)(o0:PySem.W.findIn K (.ref OWatch) "since"=some (some (.ref f28)))(v8:isFn K (.ref f28)=true)(Y:Fun K "since" "Watch.since" eU f28 d5)(o1:PySem.W.findIn K (.ref OWatch) "reader"=some (some (.ref f29)))(v9:isFn K (.ref f29)=true)(Z:Fun K "reader" "Watch.reader" dX f29 d6)(o3:PySem.W.findIn K (.ref OWatch) "read"=some (some (.ref f30)))(w0:isFn K (.ref f30)=true)(a1:Fun K "read" "Watch.read" fu f30 d7)(o4:gA K "_law_cell" f6)(a2:Fun K "_law_cell" "_law_cell" vH f6 s3)(o5:gA K "_law_pick" f7)(a3:Fun K "_law_pick" "_law_pick" vI f7 s4)(o6:gA K "_law_tree" f8)(a4:Fun K "_law_tree" "_law_tree" iO f8 s5)(o7:gA K "_law_book" f9)(a5:Fun K "_law_book" "_law_book" vJ f9 s6)(o8:gA K "_law_under" g0)(a6:Fun K "_law_under" "_law_under" qH g0 s7)(o9:gA K "_law_done" g1)(a7:Fun K "_law_done" "_law_done" cu g1 s8)(p0:gA K "_law_deed" g2)(a8:Fun K "_law_deed" "_law_deed" ja g2 s9)(p1:gA K "_law_word" g3)(a9:Fun K "_law_word" "_law_word" vK g3 t0)(p2:gA K "_law_read" g4)(b0:Fun K "_law_read" "_law_read" gQ g4 t1)(p4:gA K "law" g6)(c5:Fun K "law" "law" lr g6 b6)(z2:gN K "isinstance")(A3:gN K "dict")(A4:gN K "len")(A5:gN K "tuple")(A6:gN K "list")(A7:gN K "range")(A8:gN K "sorted")(A9:gN K "reversed")(B0:gN K "ValueError")(z3:gN K "str")(z4:gN K "set")(z5:gN K "max")(z6:gN K "min")(z7:gN K "sum")(z8:gN K "zip")(z9:gN K "enumerate")(A0:gN K "all")(A1:gN K "int")(A2:gN K "bool")(y6:nsIn K mainGlobals "TOP"=some (some (.int 0 y2))){y3:Tok}(y7:nsIn K mainGlobals "LETTERS"=some (some (.str "abcdefghijklmnopqrstuvwxyz" y3))){y4:Tok}(y8:nsIn K mainGlobals "LONGEST_NAME"=some (some (.int 5 y4))){y5:Tok}(y9:nsIn K mainGlobals "GREATEST_STAMP"=some (some (.int 999 y5))){DT m n o p q b r t u:Addr}(z1:nsIn K mainGlobals "TreeError"=some (some (.ref DT)))(v1:PySem.W.ktsIn K DT "BaseException"=true)(h5:nsIn K mainGlobals "Inside"=some (some (.ref m)))(h6:nsIn K mainGlobals "Known"=some (some (.ref n)))(h7:nsIn K mainGlobals "NoMark"=some (some (.ref o)))(h8:nsIn K mainGlobals "NoMatch"=some (some (.ref p)))(h9:nsIn K mainGlobals "NoNode"=some (some (.ref q)))(i0:nsIn K mainGlobals "NoReader"=some (some (.ref b)))(i1:nsIn K mainGlobals "NotFile"=some (some (.ref r)))(i2:nsIn K mainGlobals "NotFolder"=some (some (.ref t)))(i3:nsIn K mainGlobals "Taken"=some (some (.ref u)))(x1:excIn K m bmV "ValueError.__new__"=true)(x2:excIn K n bmV "ValueError.__new__"=true)(x3:excIn K o bmV "ValueError.__new__"=true)(x4:excIn K p bmV "ValueError.__new__"=true)(x5:excIn K q bmV "ValueError.__new__"=true)(x7:excIn K r bmV "ValueError.__new__"=true)(x8:excIn K t bmV "ValueError.__new__"=true)(x9:excIn K u bmV "ValueError.__new__"=true)(x6:excIn K b bmV "ValueError.__new__"=true)(t8:kitOne K (.ref b) (.ref m)=some false)(t9:kitOne K (.ref b) (.ref n)=some false)(u0:kitOne K (.ref b) (.ref o)=some false)(u1:kitOne K (.ref b) (.ref p)=some false)(u2:kitOne K (.ref b) (.ref q)=some false)(u3:kitOne K (.ref b) (.ref b)=some true)(u4:kitOne K (.ref b) (.ref r)=some false)(u5:kitOne K (.ref b) (.ref t)=some false)(u6:kitOne K (.ref b) (.ref u)=some false)(z0:kitOne K (.ref b) (.type "ValueError")=some true)(y0:subIn K (.ref b) (.ref DT)=some true)(u7:PySem.W.ktsIn K b "object"=true)(u8:PySem.W.findIn K (.ref b) "__getattribute__"=some (some (.builtin "BaseException.__getattribute__")))(u9:PySem.W.findIn K (.ref b) "__getattr__"=some none)(v0:PySem.W.findIn K (.ref b) "__class__"=some (some (.builtin "object.__class__")))(p9:nsIn K mainGlobals "Watch"=some (some (.ref OWatch)))(w9:plainGet K OWatch empty=true)(v3:hasDictIn K OWatch=true)(x0:plainOver K OWatch=true)(y1:PySem.W.findIn K (.ref OWatch) "__setattr__"=some (some (.builtin "object.__setattr__")))(w3:makesIn K OWatch=true)(w2:keepIn K (.ref OWatch)=true)(w4:PySem.W.findIn K (.ref OWatch) "tree"=some none)(w5:PySem.W.findIn K (.ref OWatch) "most"=some none)(w6:PySem.W.findIn K (.ref OWatch) "deeds_done"=some none)(w7:PySem.W.findIn K (.ref OWatch) "kept"=some none)(w8:PySem.W.findIn K (.ref OWatch) "marks_seen"=some none):
  ∃fd:FuncData,(∀(s:Shared)(v:Value),BindsTo s fd ⟨[v],[]⟩ [("_law_script",v)])∧∀base:Heap,K.In base→base.Ns mainGlobals mg→FnOk l.prog w K mg base CX0 6 h2 fd ["_law_script"] (sF K):=by
 have e:=v4.symm.trans (mg_of X a p4);cases e;have T:Txt mg:=⟨mg_none_of X a z2,mg_none_of X a A3,mg_none_of X a A4,mg_none_of X a A5,mg_none_of X a A6,mg_none_of X a A7,mg_none_of X a A8,mg_none_of X a A9,mg_none_of X a B0,mg_none_of X a z3,mg_none_of X a z4,mg_none_of X a z5,mg_none_of X a z6,mg_none_of X a z7,mg_none_of X a z8,mg_none_of X a z9,mg_none_of X a A0,mg_none_of X a A1,mg_none_of X a A2,⟨_,mg_of X a y6⟩,⟨_,mg_of X a y7⟩,⟨_,mg_of X a y8⟩,⟨_,mg_of X a y9⟩⟩
 let B:Nat→Addr:=λi=>match i with | 0=>m | 1=>n | 2=>o | 3=>p | 4=>q | 5=>b | 6=>r | 7=>t | _=>u
 have c7:Clss9 mg K B DT:=⟨λi hi=>match i,hi with | 0,_=>mg_of X a h5 | 1,_=>mg_of X a h6 | 2,_=>mg_of X a h7 | 3,_=>mg_of X a h8 | 4,_=>mg_of X a h9 | 5,_=>mg_of X a i0 | 6,_=>mg_of X a i1 | 7,_=>mg_of X a i2 | 8,_=>mg_of X a i3,mg_of X a z1,v1⟩
 have l7:One9 K B DT 5:=⟨by decide,(by show XI.tF K b=true;unfold XI.tF;rw[u7,u8,u9,v0];rfl),λw1 v5=>match w1,v5 with | 0,_=>t8 | 1,_=>t9 | 2,_=>u0 | 3,_=>u1 | 4,_=>u2 | 5,_=>u3 | 6,_=>u4 | 7,_=>u5 | 8,_=>u6,z0,y0⟩
 have f:WCls K mg OWatch:=⟨⟨w9,v3,x0,y1⟩,w4,w5,w6,w7,w8,mg_of X a p9⟩;have l6:Mk K OWatch f25:=⟨w3,c9,h4,w2⟩;have B1:Meth K OWatch "__init__" f25:=⟨c9,h4,S.kp⟩;have q0:bf K d2 ["self","tree","most"] []:=fb3 S;have l2:Meth K OWatch "deed" f26:=⟨n8,v6,U.kp⟩;have q1:bf K d3 ["self","deed"] []:=fb2 U;have l3:Meth K OWatch "now" f27:=⟨n9,v7,V.kp⟩;have q2:bf K d4 ["self"] []:=fb1 V;have l5:Meth K OWatch "since" f28:=⟨o0,v8,Y.kp⟩;have q4:bf K d5 ["self","mark"] []:=fb2 Y;have l4:Meth K OWatch "reader" f29:=⟨o1,v9,Z.kp⟩;have q3:bf K d6 ["self"] []:=fb1 Z;have c8:Meth K OWatch "read" f30:=⟨o3,w0,a1.kp⟩;have d1:bf K d7 ["self","number"] []:=fb2 a1;have v2:∀(s:Shared)(v:Value),BindsTo s b6 ⟨[v],[]⟩ [("_law_script",v)]:=by
  obtain⟨_,_,_,_,_,_,_,_,_,e,_,_⟩:=c5.ex;subst e;exact λs v=>.of_eq rfl
 refine⟨b6,v2,λbase KB _=>?_⟩
 let H:=Has l.prog w K mg base
 let d:=dU l.prog w K mg base
 have h:xF mg base (λc=>B (plW c)):=λc=>match c with | .inside=>eX KB (mg_of X a h5) x1 | .known=>eX KB (mg_of X a h6) x2 | .noNode=>eX KB (mg_of X a h9) x5 | .notFile=>eX KB (mg_of X a i1) x7 | .notFolder=>eX KB (mg_of X a i2) x8 | .taken=>eX KB (mg_of X a i3) x9
 have l8:gw "NoMark" mg base (B 2):=eX KB (mg_of X a h7) x3;have m0:gw "NoMatch" mg base (B 3):=eX KB (mg_of X a h8) x4;have l9:gw "NoReader" mg base (B 5):=eX KB (mg_of X a i0) x6;have c0:H 1 "is_whole" ["thing"] jw:=fh X a y m1 (fb1 y) (wE y T);have j9:H 1 "is_name" ["thing"] re:=fh X a M n2 (fb1 M) (yk M T);have k1:H 2 "is_stamp" ["thing"] nR:=fh X a a0 o2 (fb1 a0) (wF a0 T c0);have k0:H 3 "is_node" ["thing"] rf:=fh X a b1 p3 (fb1 b1) (yn b1 T c0 j9 k1);have j3:H 1 "are_rising" ["nodes"] rg:=fh X a b2 p5 (fb1 b2) (yo b2 T);have j8:H 1 "have_own_places" ["nodes"] wG:=fh X a b3 p6 (fb1 b3) (Aq b3 T);have c1:H 1 "numbers_inside" ["nodes","folder"] pz:=fh X a b4 p7 (fb2 b4) (zK b4 T);have k2:H 4 "is_tree" ["thing"] nU:=fh X a b5 p8 (fb1 b5) (wH b5 T k0 j3 j8 c1);have j:H 1 "by_number" ["tree"] km:=fh X a g d0 (fb1 g) (zL g T);have j4:H 1 "by_number" ["tree"] qS:=fh X a g d0 (fb1 g) (xV g T);have k:d 1 "node_of" ["nodes","number"] (kn (B 4)):=fhX X a z m2 (fb2 z) (zM z (h .noNode));have b8:d 2 "check_folder" ["nodes","number"] (sw (B 4) (B 7)):=fhX X a A m3 (fb2 A) (zO A T (h .notFolder) k);have b7:d 2 "below" ["tree","number"] (sv (B 4)):=fhX X a C m4 (fb2 C) (zN C T j k c1);have c2:H 1 "parts_by_number" ["tree"] nJ:=fh X a D m5 (fb1 D) (xT D T);have c3:H 1 "unlike_entries" ["entries"] pP:=fh X a E m6 (fb1 E) (zV E T);have j5:H 2 "change_between" ["one","other"] wb:=fh X a F m7 (fb2 F) (zW F T c2 c3);have k3:H 2 "joined" ["one","other"] zY:=fh X a G m8 (fb2 G) (Bj G T j4 c3);have j2:d 5 "applied" ["tree","change"] (pU (B 3)):=fhX X a I m9 (fb2 I) (Au I T m0 c2 k2);have b9:d 1 "check_place" ["tree","number","parent","name"] (pB (B 8)):=fhX X a J n0 (fb4 J) (zP J (h .taken));have c4:H 1 "with_node" ["tree","changed"] ko:=fh X a L n1 (fb2 L) (xH L T);have k4:d 3 "make" ["tree","number","parent","name","stamp"] (qI λc=>B (plW c)):=fhX X a N n3 (fb5 N) (xI N T h j b8 b9);have k6:d 2 "write" ["tree","number","stamp"] (nC λc=>B (plW c)):=fhX X a O n4 (fb3 O) (vN O h j k c4);have k5:d 3 "move" ["tree","number","parent","name"] (qJ λc=>B (plW c)):=fhX X a P n5 (fb4 P) (xJ P h j k b8 b7 b9 c4);have j7:d 3 "drop" ["tree","number"] (qL λc=>B (plW c)):=fhX X a Q n6 (fb2 Q) (xK Q T j k b7);have j6:d 4 "done" ["tree","deed"] (qM λc=>B (plW c)):=fhX X a R n7 (fb2 R) (xL R k4 k6 k5 j7);have k7:FnOk l.prog w K mg base CX0 1 f25 _ ["self","tree","most"] (qW OWatch):=xY S f;have k8:FnOk l.prog w K mg base (CX1 l.prog w) 5 f26 _ ["self","deed"] (jq OWatch λc=>B (plW c)):=wm U T f j6 j5;have k9:FnOk l.prog w K mg base CX0 1 f27 _ ["self"] (qX OWatch):=xZ V f;have l1:FnOk l.prog w K mg base (CX1 l.prog w) 3 f28 _ ["self","mark"] (kX OWatch (B 2)):=tY Y T f l8 k3;have l0:FnOk l.prog w K mg base CX0 1 f29 _ ["self"] (nO OWatch):=yc Z T f;have c6:FnOk l.prog w K mg base (CX1 l.prog w) 4 f30 _ ["self","number"] (gl OWatch (B 5)):=wq a1 T f l9 l1 l5 q4;have i5:H 1 "_law_cell" ["_law_script","_law_k"] (rc K):=fh X a a2 o4 (fb2 a2) (yg a2 T);have x:H 2 "_law_pick" ["_law_script","_law_k","_law_many"] (eW K):=fh X a a3 o5 (fb3 a3) (yh a3 T i5);have i9:H 3 "_law_tree" ["_law_script","_law_at","_law_most"] (nP K):=fh X a a4 o6 (fb3 a4) (wz a4 T x);have i4:H 1 "_law_book" ["_law_tree_here"] rb:=fh X a a5 o7 (fb1 a5) (yd a5 T);have j0:H 1 "_law_under" ["_law_book_here","_law_number","_law_goal"] kY:=fh X a a6 o8 (fb3 a6) (Ah a6);have i7:H 2 "_law_done" ["_law_tree_here","_law_deed_here"] jv:=fh X a a7 o9 (fb2 a7) (ww a7 T i4 j0);have i6:H 3 "_law_deed" ["_law_script","_law_at","_law_tree_here"] (nQ K):=fh X a a8 p0 (fb3 a8) (yi a8 T x);have j1:H 1 "_law_word" ["_law_kept"] (qY B DT K):=fh X a a9 p1 (fb1 a9) (yb a9 T c7);have i8:H 5 "_law_read" ["_law_watch","_law_number"] (jt OWatch):=fh X a b0 p2 (fb2 b0) (Af b0 f c7 l7 c6 c8 d1 j1);exact Av c5 T f l6 k7 q0 k8 l2 q1 c6 c8 d1 l0 l4 q3 k9 l3 q2 i9 x i6 i7 j2 i8
theorem walk{l:PySem.W.OpenLaw}{q:Program}{o:List Str}{XP:(Str→Option Value)→Heap→Prop}{b:World→Heap→Prop}{d:DefRec}{K:Params→PySem.W.Frag}(m:l.most=some 63)(i:d.params.defaults=[])(g:∀(w:World) (h:Heap),b w h→(K w.params).In h)(F:∀(w:World) (mg:Str→Option Value) (c:Addr) (h:Heap),(K w.params).In h→h.Ns mainGlobals mg→mg d.name=some (.ref c) →
   ∃fd:FuncData,(∀(s:Shared) (u:Value),BindsTo s fd ⟨[u],[]⟩ [("_law_script",u)])∧∀base:Heap,(K w.params).In base→base.Ns mainGlobals mg→FnOk l.prog w (K w.params) mg base CX0 6 c fd ["_law_script"] (sF (K w.params))):
  PySem.W.WalkO q o XP b l.row.toRowW d [] (λf vs=>PySem.call f vs) :=
 L2.wZ (n:=63) (k:=6) (x:="_law_script") (CX:=λ_=>CX0) (sp:=λw=>sF (K w.params)) m (by decide) i ⟨rfl,by decide,by decide⟩ g F (λ_ _ a p j _ e=>⟨a,p,rfl,e,j,λ_=>rfl⟩) λ_ _ _ _ _ z=>z
end TK
end
open PySem PySem.W PyProof.Rows
def PySem.W.Fast.tw17316052308083493837:Unit:=()
def PySem.W.Fast.tw13933210381122972157:Unit:=()
def PySem.W.Fast.tw8464962114795588814:Unit:=()
def PySem.W.Fast.tw14891259691509321252:Unit:=()
def PySem.W.Fast.tw5983614427763586517:Unit:=()
def PySem.W.Fast.tw13581642999803934053:Unit:=()
def PySem.W.Fast.tw437094901213898194:Unit:=()
def PySem.W.Fast.tw17628533980703389285:Unit:=()
def PySem.W.Fast.tw15952098184927917707:Unit:=()
def PySem.W.Fast.tw16710332330438557170:Unit:=()
def PySem.W.Fast.tw11469709597013393328:Unit:=()
def PySem.W.Fast.tw10510958700554221024:Unit:=()
def PySem.W.Fast.tw9610046376034045013:Unit:=()
def PySem.W.Fast.tw687897568395871020:Unit:=()
def PySem.W.Fast.tw6811008321522109865:Unit:=()
def PySem.W.Fast.tw6467064988925041771:Unit:=()
def PySem.W.Fast.tw2082300767368849583:Unit:=()
def PySem.W.Fast.tw18162963712027215413:Unit:=()
def PySem.W.Fast.tw5278284477149538308:Unit:=()
def PySem.W.Fast.tw6091272090553169031:Unit:=()
def PySem.W.Fast.tw12612658808354670270:Unit:=()
def PySem.W.Fast.tw13179472350872218211:Unit:=()
def PySem.W.Fast.tw4432199267407957280:Unit:=()
def PySem.W.Fast.tw4661092432157200308:Unit:=()
def PySem.W.Fast.tw12329899017766769621:Unit:=()
def PySem.W.Fast.tw14385804496507682499:Unit:=()
def PySem.W.Fast.tw8778102133805990071:Unit:=()
def PySem.W.Fast.tw12819929031927779881:Unit:=()
def PySem.W.Fast.tw10997720036763289841:Unit:=()
def PySem.W.Fast.tw11417473189535779628:Unit:=()
def PySem.W.Fast.tw11671642355404739868:Unit:=()
def PySem.W.Fast.tw2774520297708849296:Unit:=()
def PySem.W.Fast.tw13485251115071547943:Unit:=()
def PySem.W.Fast.tw13079508131116423817:Unit:=()
def PySem.W.Fast.tw4277560138970816420:Unit:=()
def PySem.W.Fast.tw593067460079867840:Unit:=()
def PySem.W.Fast.tw1861367117084790499:Unit:=()
def PySem.W.Fast.tw3146216812419124332:Unit:=()
def PySem.W.Fast.tw10169967475790291628:Unit:=()
def PySem.W.Fast.tw16156615502960575607:Unit:=()
def PySem.W.Fast.tw1256088671327995798:Unit:=()
def PySem.W.Fast.tw2829699056561464565:Unit:=()
def PySem.W.Fast.tw11580460873583944611:Unit:=()
def PySem.W.Fast.tw14374463133936156890:Unit:=()
def PySem.W.Fast.tw4915889180552200734:Unit:=()
def PySem.W.Fast.tw13613557434177049982:Unit:=()
def PySem.W.Fast.tw1416416904428174593:Unit:=()
def PySem.W.Fast.tw602655601501329727:Unit:=()
def PySem.W.Fast.tw5195678116162360091:Unit:=()
def PySem.W.Fast.tw15230617838860170206:Unit:=()
def PySem.W.Fast.tw8857105020923471338:Unit:=()
def PySem.W.Fast.tw10301900101136397854:Unit:=()
def PySem.W.Fast.tw9967819102104561571:Unit:=()
def PySem.W.Fast.tw14411234627739741294:Unit:=()
def PySem.W.Fast.tw1569264637630389828:Unit:=()
def PySem.W.Fast.tw9839081053395808684:Unit:=()
def PySem.W.Fast.tw16669099477045054392:Unit:=()
def PySem.W.Fast.tw4954214219491090752:Unit:=()
def PySem.W.Fast.tw12327605346438209989:Unit:=()
def PySem.W.Fast.tw14483678141858287282:Unit:=()
set_option maxRecDepth 100000 in
set_option maxHeartbeats 0 in
theorem PySem.Challenge.cw_treewatch_k41_whole_readers_holds : PySem.Challenge.rw_treewatch_k41_whole_readers.Holds := by
 w_on; o_law; k_head; (case hw=>w_witness2)
 k_fill
 refine TK.walk (l:=PySem.Challenge.rw_treewatch_k41_whole_readers) rfl rfl (λw h Y=>PySem.W.kIn_of Y) ?F
 case F =>
  intro w mg fa h KX G hmg
  refine' TK.Aw KX G hmg ?a1 ?F1 ?a2 ?F2 ?a3 ?F3 ?a4 ?F4 ?a5 ?F5 ?a6 ?F6 ?a7 ?F7 ?a8 ?F8 ?a9 ?F9 ?a10 ?F10 ?a11 ?F11 ?a12 ?F12 ?a13 ?F13 ?a14 ?F14 ?a15 ?F15 ?a16 ?F16 ?a17 ?F17 ?a18 ?F18 ?a19 ?F19 ?a20 ?F20 ?a21 ?F21 ?a22 ?F22 ?a23 ?F23 ?a24 ?F24 ?a25 ?i25 ?F25 ?a26 ?i26 ?F26 ?a27 ?i27 ?F27 ?a28 ?i28 ?F28 ?a29 ?i29 ?F29 ?a30 ?i30 ?F30 ?a31 ?F31 ?a32 ?F32 ?a33 ?F33 ?a34 ?F34 ?a35 ?F35 ?a36 ?F36 ?a37 ?F37 ?a38 ?F38 ?a39 ?F39 ?a40 ?F40 ?z1 ?z2 ?z3 ?z4 ?z5 ?z6 ?z7 ?z8 ?z9 ?z10 ?z11 ?z12 ?z13 ?z14 ?z15 ?z16 ?z17 ?z18 ?z19 ?v1t ?v2t ?v3t ?v4t ?xD ?gD ?x0 ?x1 ?x2 ?x3 ?x4 ?x5 ?x6 ?x7 ?x8 ?q0 ?q1 ?q2 ?q3 ?q4 ?q6 ?q7 ?q8 ?q5 ?e5_0 ?e5_1 ?e5_2 ?e5_3 ?e5_4 ?e5_5 ?e5_6 ?e5_7 ?e5_8 ?v5 ?s5 ?g51 ?g52 ?g53 ?g54 ?aWatch ?pgWatch ?hdWatch ?poWatch ?saWatch ?mkWatch ?kcWatch ?naWatch0 ?naWatch1 ?naWatch2 ?naWatch3 ?naWatch4
  (case aWatch=>k_is)
  (case a1|a2|a3|a4|a5|a6|a7|a8|a9|a10|a11|a12|a13|a14|a15|a16|a17|a18|a19|a20|a21|a22|a23|a24=>unfold TK.gA; k_is)
  (case F1|F2|F3|F4|F5|F6|F7|F8|F9|F10|F11|F12|F13|F14|F15|F16|F17|F18|F19|F20|F21|F22|F23|F24=>apply L2.gH <;> k_is)
  (case a25|i25=>k_is)
  (case F25=>apply L2.gH <;> k_is)
  (case a26|i26=>k_is)
  (case F26=>apply L2.gH <;> k_is)
  (case a27|i27=>k_is)
  (case F27=>apply L2.gH <;> k_is)
  (case a28|i28=>k_is)
  (case F28=>apply L2.gH <;> k_is)
  (case a29|i29=>k_is)
  (case F29=>apply L2.gH <;> k_is)
  (case a30|i30=>k_is)
  (case a31|a32|a33|a34|a35|a36|a37|a38|a39|a40=>unfold TK.gA; k_is)
  (case F30|F31|F32|F33|F34|F35|F36|F37|F38|F39|F40=>apply L2.gH <;> k_is)
  (case z1|z2|z3|z4|z5|z6|z7|z8|z9|z10|z11|z12|z13|z14|z15|z16|z17|z18|z19=>unfold TK.gN; k_is)
  (case v1t|v2t|v3t|v4t|xD=>k_is)
  (case gD=>kts_isx)
  (case x0|x1|x2|x3|x4|x5|x6|x7|x8=>k_is)
  (case q0|q1|q2|q3|q4|q6|q7|q8|q5=>k_exc)
  (case e5_0|e5_1|e5_2|e5_3|e5_4|e5_5|e5_6|e5_7|e5_8|v5=>kit_is)
  (case s5=>k_is)
  (case g51=>kts_isx)
  (case g52|g53|g54|pgWatch|hdWatch|poWatch|saWatch|mkWatch|kcWatch|naWatch0|naWatch1|naWatch2|naWatch3|naWatch4=>k_is)
