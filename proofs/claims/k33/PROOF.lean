import PyProof.Rows.All
import Wide.All
import OpenK.AllK
import Wide.FinOn
import Lean
import PyProof.EqAt
import PyProof.EqKinds
import PyProof.TupleCall
import PyProof.CompFree
import PySem.SetTable
import PyProof.SetScanFacts
import PyProof.TupleKey
import PyProof.SetKind
import PyProof.IsRules
import PyProof.SetRoads
import PyProof.InstSpecial
import PyProof.Rows.SetFrom
import KE.KSortTup
import PyProof.StrWalks
import PyProof.EnumMake
import PyProof.ConsumeWalk
import PyProof.ListRange
import PyProof.NeKinds
import PyProof.ZipIter
import KE.KTryDeep
import OpenK.KOwn
import PyProof.RulesAs
import PyProof.NsDelKeeps
import PyProof.ExcArgsOwn
import PyProof.ExcAttrAll.ValueError
import KE.KIsAll
import OpenK.KNot
import PyProof.IsiH_list
import PyProof.Rows.FStr
import KE.KDictOf
import PyProof.AttrMissHeap
import PyProof.DictIter
import PyProof.DictWalks
import PyProof.Rows.DictUnroll
import KE.KRevIter
import KE.KDictList
import PyProof.CollectIter
import PyProof.TupleOfGen
import KE.KSortKey
import PyProof.FactsAll.NoneType_1
import PyProof.CompUse
import PyProof.Rows.FStrParts
import PyProof.StrLaws
import PyProof.DictDisplay
import PySem.Challenge.RW_treewatch_k33_whole_rounds
set_option Elab.async false
set_option linter.all false
set_option maxRecDepth 100000
set_option maxHeartbeats 8000000
open PySem.W (instObj methodObj hideAll hideAll_get of_hideAll lookIn plainGet findIn mroIn kitOne kia_one kitx_list kitx_dict keepIn fnOf codeIn kat_cons KatTups kat_lt_int Looks subIn ktsIn excIn nsIn mg_of mg_none_of)
open PyProof.Rows (boot_dict boot_sorted boot_min boot_isinstance boot_int boot_bool boot_str boot_all boot_tuple)
open PySem.F (slot_tuple_add entry_tuple_add args_tuple_add_2 slot_dict_pop slot_dict_keyiterator_next plainAttrs_list slot_list_pop type_list_pop)
open List (mem_filter mem_range mem_cons_self mem_cons_of_mem mem_cons mem_append mem_append_left getElem_inj mem_filterMap mem_append_right size_toArray append_nil nodup_cons of_mem_zip replicate length length_take getElem?_append_left getElem?_map take_sublist mem_of_getElem? length_append length_map length_drop map_nil map_cons any_cons reverse_cons replicate_succ flatten_cons foldl append_assoc foldl_cons length_singleton nil_append find?_cons cons_append length_cons length_nil filter_cons length_filter_le Pairwise forIn_cons forIn_nil all_eq_true pairwise_cons mem_iff_getElem mem_of_mem_drop mem_of_mem_take mem_map filterMap_cons_none filterMap_cons_some length_range range_succ filter_cons_of_neg filter_cons_of_pos filter_sublist map_map getElem?_eq_getElem getElem_map map_take map_drop getD_eq_getElem?_getD ext_getElem? getElem?_range getElem?_eq_none getElem_mem map_congr_left nodup_nil Nodup mem_singleton not_mem_nil toArray take_succ map_append any_eq_true take_length filter_append all_map filter_eq_nil_iff filter_congr filter_eq_self pairwise_map filter_map Sublist nodup_append any_nil take_of_length_le getElem?_drop)
open Nat (lt_of_lt_of_le lt_irrefl ne_of_lt le_trans le_of_lt ne_of_gt le_refl zero_le le_succ lt_trans lt_of_le_of_lt lt_succ_of_lt zero_add mod_lt lt_or_ge le_add_right)
open Array (length_toList toList getElem?_toList getD_eq_getD_getElem?)
open Option (map_some isSome_map getD)
open Bool (and_eq_true or_eq_true false_eq_true)
open Int (toNat_natCast emod_nonneg)
open PySem.Heap (lt_size SameBut get?_push_of_some get?_push_size size_push ExtBut IsTuple FlyingW)
open PySem.Calls (spliced_cons evalArgs_plain)
open PySem.SeqAt (EqAt eq_listAt RcNeAt)
open PySem.Value (float type)
open PySem (boot_len)
open PySem.Str (empty ofString ext')
open Ne (symm)
noncomputable section
namespace L2
open PySem PySem.Spec PyProof.Rows
abbrev Key:=Sum Int Str
def jy:Key→Value→Bool
 |.inl k,v=>Value.isInt k v
 |.inr x,v=>Value.isStrOf x v
def yK(w:World):Key→Int
 |.inl k=>hashInt k
 |.inr x=>hashStr w x
theorem aV:∀{k:Key}{v:Value},jy k v=true→(∃i t,k=Sum.inl i∧v=Value.int i t)∨(∃x t,k=Sum.inr x∧v=Value.str x t)
 |.inl i,v,h=>by
  obtain⟨t,e⟩:=Value.isInt_shape (k:=i) (v:=v) h;exact .inl ⟨i,t,rfl,e⟩
 |.inr x,v,h=>by
  obtain⟨t,e⟩:=Value.isStrOf_shape (x:=x) (v:=v) h;exact .inr ⟨x,t,rfl,e⟩
theorem pY(i:Int)(t:Tok):jy (.inl i) (.int i t)=true:=by simp[jy,Value.isInt]
theorem pZ(x:Str)(t:Tok):jy (.inr x) (.str x t)=true:=by simp[jy,Value.isStrOf]
theorem vK(a b:Int):decide ((Sum.inl a:Key)=Sum.inl b)=(a==b):=by
 by_cases e:a=b
 ·subst e;simp
 ·have h:¬(Sum.inl a:Key)=Sum.inl b:=λq=>e (Sum.inl.inj q);rw[decide_eq_false h];exact(beq_eq_false_iff_ne.mpr e).symm
theorem vL(a b:Str):decide ((Sum.inr a:Key)=Sum.inr b)=decide (a=b):=by
 by_cases e:a=b
 ·subst e;simp
 ·have h:¬(Sum.inr a:Key)=Sum.inr b:=λq=>e (Sum.inr.inj q);rw[decide_eq_false h,decide_eq_false e]
theorem vM(a:Int)(b:Str):decide ((Sum.inl a:Key)=Sum.inr b)=false:=decide_eq_false (λq=>nomatch q)
theorem vN(a:Str)(b:Int):decide ((Sum.inr a:Key)=Sum.inl b)=false:=decide_eq_false (λq=>nomatch q)
def aQ(prog:Program)(w:World):PySem.KeyKind prog w Key where
 is:=jy
 hash:=yK w
 inj:=λv a b ha hb=>by
  rcases aV ha with⟨i,t,rfl,rfl⟩|⟨x,t,rfl,rfl⟩
  ·rcases aV hb with⟨j,u,rfl,e⟩|⟨y,u,rfl,e⟩
   ·injection e with e1 _;rw[e1]
   ·exact nomatch e
  ·rcases aV hb with⟨j,u,rfl,e⟩|⟨y,u,rfl,e⟩
   ·exact nomatch e
   ·injection e with e1 _;rw[e1]
 byValue:=λk v h=>by
  rcases aV h with⟨i,t,rfl,rfl⟩|⟨x,t,rfl,rfl⟩<;>rfl
 pyHash:=λhv h=>by
  rcases aV hv with⟨i,t,rfl,rfl⟩|⟨x,t,rfl,rfl⟩
  ·exact wpAny_pyHash_int h
  ·exact wpAny_pyHash_str h
 eqBool:=λhu hv h=>by
  rcases aV hu with⟨i,t,rfl,rfl⟩|⟨x,t,rfl,rfl⟩
  ·rcases aV hv with⟨j,u,rfl,rfl⟩|⟨y,u,rfl,rfl⟩
   ·rw[vK]at h;exact wpAny_eqBool_int h
   ·rw[vM]at h;exact EqAt.int_str i t y u _ _ _ _ h
  ·rcases aV hv with⟨j,u,rfl,rfl⟩|⟨y,u,rfl,rfl⟩
   ·rw[vN]at h;exact EqAt.str_int x t j u _ _ _ _ h
   ·rw[vL]at h;exact wpAny_eqBool_str h
 «strs»:=λk x t v h=>by
  rcases aV h with⟨i,u,rfl,e⟩|⟨y,u,rfl,e⟩
  ·exact nomatch e
  ·injection e with e1 _
   subst e1;cases v<;>rfl
theorem lz(prog:Program)(w:World)(i:Int)(t:Tok):(aQ prog w).is (.inl i) (.int i t)=true:=pY i t
theorem lA(prog:Program)(w:World)(x:Str)(t:Tok):(aQ prog w).is (.inr x) (.str x t)=true:=pZ x t
inductive V where
 |non|bl (b:Bool)|int (i:Int)|str (x:Str)|byt (b:Array UInt8)|flt (b:UInt64)|ref (a:Addr)|ty (n:String)
 deriving DecidableEq
def aI:V→Value→Prop
 |.non,u=>u=Value.none
 |.bl b,u=>u=Value.bool b
 |.int i,u=>∃t,u=Value.int i t
 |.str x,u=>∃t,u=Value.str x t
 |.byt b,u=>∃t,u=Value.bytes b t
 |.flt b,u=>∃t,u=float b t
 |.ref a,u=>u=Value.ref a
 |.ty n,u=>u=type n
abbrev aB:List V→List Value→Prop:=Paired aI
theorem aB.length{xs:List V}{us:List Value}(r:aB xs us):xs.length=us.length:=Paired.length r
theorem aB.get:∀{xs:List V}{us:List Value}{i:Nat}{x:V},aB xs us→xs[i]?=some x→∃u,us[i]?=some u∧aI x u
 |_,_,_,_,.nil,e=>by simp at e
 |_,_,0,_,.cons r _,e=>by simp at e;subst e;exact⟨_,rfl,r⟩
 |_,_,i+1,x,.cons _ t,e=>by
  obtain⟨u,h1,h2⟩:=aB.get (i:=i) (x:=x) t (by simpa using e);exact⟨u,by simpa using h1,h2⟩
theorem aB.append:∀{xs ys:List V}{us ws:List Value},aB xs us→aB ys ws→aB (xs++ys) (us++ws)
 |_,_,_,_,.nil,s=>s
 |_,_,_,_,.cons r t,s=>.cons r (aB.append t s)
theorem aB.take:∀{xs:List V}{us:List Value}(n:Nat),aB xs us→aB (xs.take n) (us.take n)
 |_,_,0,_=>.nil
 |_,_,_+1,.nil=>.nil
 |_,_,n+1,.cons r t=>.cons r (aB.take n t)
theorem aB.drop:∀{xs:List V}{us:List Value}(n:Nat),aB xs us→aB (xs.drop n) (us.drop n)
 |_,_,0,r=>r
 |_,_,_+1,.nil=>.nil
 |_,_,n+1,.cons _ t=>aB.drop n t
def fj:Option V→Option Value→Prop
 |some v,some u=>aI v u
 |none,none=>True
 |_,_=>False
def KV{κ:Type}:List (κ×V)→List (κ×Value)→Prop:=Paired λ(p:κ×V) (q:κ×Value)=>p.1=q.1∧aI p.2 q.2
def kV:Key→V
 |.inl i=>.int i
 |.inr x=>.str x
inductive HO where
 |lst (xs:List V)
 |tup (xs:List V)
 |dK (kvs:List (Key×V))|dT (kvs:List (List Key×V))
 |set (S:Int→Bool) (n:Nat)
 |ins (C dx:Addr) (fs:List (Str×V))
 |own (x:Addr)
 |xd (fs:List (Str×V))
 |met (f x:Addr)
 |rng (lo hi:Int)
 |frz (o:Obj) (u:HO)
 |tbl (ps:Array Value)
 |ext (φ:Heap→Prop)
abbrev Hp:=Addr→Option HO
def upd(H:Hp)(a:Addr)(o:HO):Hp:=λb=>if b=a then some o else H b
theorem ac{H:Hp}{a:Addr}{o:HO}:upd H a o a=some o:=by unfold upd;rw[if_pos rfl]
theorem al{H:Hp}{a b:Addr}{o:HO}(h:b≠a):upd H a o b=H b:=by unfold upd;rw[if_neg h]
theorem xP{H:Hp}{a b:Addr}{o u:HO}(h:H a=some o)(h':H b=some u)(d:o≠u):a≠b:=by
 intro e;subst e;rw[h]at h';exact d (Option.some.inj h')
theorem bH{H:Hp}{a b:Addr}{o:HO}(h:H a=some o)(h':H b=none):a≠b:=by
 intro e;subst e;rw[h]at h';cases h'
section
variable(P:Program)(w:World)
def ba(H:Hp)(h:Heap)(a:Addr):HO→Prop
 |.lst xs=>xs.length≤sizeLine∧∃(its:List Value) (n:Nat),aB xs its∧h.get? a=some {cls:=.type "list",data:=.seq its.toArray n}
 |.tup xs=>xs.length≤sizeLine∧∃its:List Value,aB xs its∧IsTup h a its.toArray
 |.dK kvs=>kvs.length≤sizeLine∧(a==sysModules)=false∧∃vs,KV kvs vs∧h.DictOf (aQ P w) a vs
 |.dT kvs=>kvs.length≤sizeLine∧(a==sysModules)=false∧∃xs:List (List Key×Addr×Value),
   Paired (λ(p:List Key×V) (q:List Key×Addr×Value)=>p.1=q.1∧H q.2.1=some (.tup (p.1.map kV))∧aI p.2 q.2.2) kvs xs ∧
   ∃o es ep,h.get? a=some o∧o.ExactDict∧o.data=.dict es ep∧es.toList=xs.map (entryOfKey (tupleKind (aQ P w)))∧(xs.map (·.1)).Nodup
 |.set S n=>h.SetOf (intKind P w) a S n
 |.ins C dx fs=>H dx=some (.own a)∧fs.length≤1000∧dx≠a∧h.get? a=some (instObj C dx) ∧
   ∃mA,h.Ns1 dx mA∧(∀f,fj (fs.lookup f) (mA f))∧PySem.Within mA (fs.map (·.1))
 |.own _=>∃o,h.get? a=some o
 |.xd fs=>∃mA,h.Ns1 a mA∧∀f,fj (fs.lookup f) (mA f)
 |.rng lo hi=>∃t u v,h.get? a=some {cls:=.type "range",data:=.fields #[.int lo t,.int hi u,.int 1 v]}
 |.frz o u=>h.get? a=some o∧ba H h a u
 |.tbl ps=>h.get? a=some {cls:=.none,data:=.fields ps}
 |.met f x=>h.get? a=some (methodObj (.ref f) (.ref x))
 |.ext φ=>φ h∧(∃o,h.get? a=some o)∧∀h1 h2:Heap,φ h1→(∀o,h1.get? a=some o→h2.get? a=some o)→φ h2
def HOk(H:Hp)(h:Heap):Prop:=∀a o,H a=some o→ba P w H h a o
end
section
variable{P:Program}{w:World}{H H':Hp}{h h':Heap}{a:Addr}{o:HO}
theorem ba.lt(x:ba P w H h a o):a<h.objs.size:=by
 cases o with
 |lst xs=>obtain⟨_,_,_,_,e⟩:=x;exact lt_size e
 |tup xs=>obtain⟨_,_,_,p⟩:=x;exact p.lt
 |dK kvs=>obtain⟨_,_,_,_,o,_,_,e,_⟩:=x;exact lt_size e
 |dT kvs=>obtain⟨_,_,_,_,o,_,_,e,_⟩:=x;exact lt_size e
 |set S n=>obtain⟨o,_,_,_,e,_⟩:=x;exact lt_size e
 |ins C dx fs=>obtain⟨_,_,_,e,_⟩:=x;exact lt_size e
 |own y=>obtain⟨_,e⟩:=x;exact lt_size e
 |xd fs=>obtain⟨_,⟨_,_,_,e,_⟩,_⟩:=x;exact lt_size e
 |rng lo hi=>obtain⟨_,_,_,e⟩:=x;exact lt_size e
 |frz ob u=>obtain⟨e,_⟩:=x;exact lt_size e
 |tbl ps=>exact lt_size (show h.get? a=some _ from x)
 |met f y=>exact lt_size (show h.get? a=some _ from x)
 |ext φ=>obtain⟨_,⟨_,e⟩,_⟩:=x;exact lt_size e
theorem Paired.mapP{α β:Type}{F G:α→β→Prop}:∀{l₁:List α}{l₂:List β},Paired F l₁ l₂→(∀a b,F a b→G a b)→Paired G l₁ l₂
 |_,_,.nil,_=>.nil
 |_,_,.cons r t,f=>.cons (f _ _ r) (Paired.mapP t f)
theorem ba.stay(x:ba P w H h a o)(k:∀b u,(b=a∨H b=some (.own a))→h.get? b=some u→h'.get? b=some u)(ho:∀b,H b=some (.own a)→H' b=some (.own a))(ht:∀b xs,H b=some (.tup xs)→H' b=some (.tup xs)):ba P w H' h' a o:=by
 induction o with
 |lst xs=>obtain⟨z,its,n,r,e⟩:=x;exact⟨z,its,n,r,k _ _ (.inl rfl) e⟩
 |tup xs=>obtain⟨z,its,r,ob,e,c⟩:=x;exact⟨z,its,r,ob,k _ _ (.inl rfl) e,c⟩
 |dK kvs=>obtain⟨z,y,vs,r,ob,es,ep,e,c⟩:=x;exact⟨z,y,vs,r,ob,es,ep,k _ _ (.inl rfl) e,c⟩
 |dT kvs =>
  obtain⟨z,y,xs,r,ob,es,ep,e,c⟩:=x;exact⟨z,y,xs,Paired.mapP r λp q z=>⟨z.1,ht _ _ z.2.1,z.2.2⟩,ob,es,ep,k _ _ (.inl rfl) e,c⟩
 |set S n=>obtain⟨ob,es,ep,t,e,c⟩:=x;exact⟨ob,es,ep,t,k _ _ (.inl rfl) e,c⟩
 |ins C dx fs =>
  obtain⟨d,z,ne,e,mA,⟨od,es,ep,e2,c⟩,r⟩:=x;exact⟨ho _ d,z,ne,k _ _ (.inl rfl) e,mA,⟨od,es,ep,k _ _ (.inr d) e2,c⟩,r⟩
 |own y=>obtain⟨ob,e⟩:=x;exact⟨ob,k _ _ (.inl rfl) e⟩
 |xd fs=>obtain⟨mA,⟨od,es,ep,e,c⟩,r⟩:=x;exact⟨mA,⟨od,es,ep,k _ _ (.inl rfl) e,c⟩,r⟩
 |rng lo hi=>obtain⟨t,u,v,e⟩:=x;exact⟨t,u,v,k _ _ (.inl rfl) e⟩
 |frz ob u ih=>obtain⟨e,q⟩:=x;exact⟨k _ _ (.inl rfl) e,ih q⟩
 |tbl ps =>
  have e:h.get? a=some {cls:=.none,data:=.fields ps}:=x;show h'.get? a=some {cls:=.none,data:=.fields ps};exact k a _ (.inl rfl) e
 |met f y =>
  have e:h.get? a=some (methodObj (.ref f) (.ref y)):=x;show h'.get? a=some (methodObj (.ref f) (.ref y));exact k a _ (.inl rfl) e
 |ext φ=>obtain⟨p,⟨o,e⟩,st⟩:=x;exact⟨st _ _ p λo q=>k _ _ (.inl rfl) q,⟨o,k _ _ (.inl rfl) e⟩,st⟩
theorem HOk.lt(x:HOk P w H h)(e:H a=some o):a<h.objs.size:=(x a o e).lt
theorem HOk.fresh(x:HOk P w H h)(e:h.objs.size≤a):H a=none:=by
 cases q:H a with
 |none=>rfl
 |some u=>exact absurd (lt_of_lt_of_le (x.lt q) e) (lt_irrefl _)
theorem HOk.kept(x:HOk P w H h)(k:∀b u,h.get? b=some u→h'.get? b=some u):HOk P w H h':=λa o e =>
 (x a o e).stay (λb u _ q=>k b u q) (λ_ q=>q) λ_ _ q=>q
theorem HOk.laid(x:HOk P w H h)(k:∀b u,h.get? b=some u→h'.get? b=some u)(hp:h.objs.size≤a)(new:ba P w (upd H a o) h' a o):HOk P w (upd H a o) h':=λb u e=>by
 have hn:=x.fresh hp
 by_cases hb:b=a
 ·subst hb;rw[ac]at e;cases e;exact new
 ·rw[al hb]at e;exact(x b u e).stay (λc v _ q=>k c v q) (λc q=>by rw[al (bH q hn)];exact q) λc xs q=>by rw[al (bH q hn)];exact q
end
def Rd(H:Hp)(a:Addr)(u:HO):Prop:=H a=some u∨∃o,H a=some (.frz o u)
theorem Rd.of{H:Hp}{a:Addr}{u:HO}(h:H a=some u):Rd H a u:=.inl h
theorem Rd.ok{P:Program}{w:World}{H:Hp}{h:Heap}{a:Addr}{u:HO}(r:Rd H a u)(x:HOk P w H h):ba P w H h a u:=by
 rcases r with r|⟨o,r⟩
 ·exact x a u r
 ·obtain⟨_,q⟩:=x a _ r;exact q
def Mut:Option HO→Prop
 |some (.lst _)=>True
 |some (.dK _)=>True
 |some (.dT _)=>True
 |some (.set _ _)=>True
 |some (.ins _ _ _)=>True
 |some (.ext _)=>True
 |_=>False
section
variable{P:Program}{w:World}{H:Hp}{h h':Heap}{x e:Addr}{o':HO}
theorem HOk.write(ok:HOk P w H h)(mu:Mut (H x))(he:e=x∨H e=some (.own x))(k:∀b u,b≠e→h.get? b=some u→h'.get? b=some u)(heo:∃u,h'.get? e=some u)(new:ba P w (upd H x o') h' x o'):HOk P w (upd H x o') h':=λb u q=>by
 have nown:∀c y,H c=some (.own y)→c≠x:=λc y r z=>by subst z;rw[r]at mu;exact mu
 have ntup:∀c xs,H c=some (.tup xs)→c≠x:=λc xs r z=>by subst z;rw[r]at mu;exact mu
 by_cases hb:b=x
 ·subst hb;rw[ac]at q;cases q;exact new
 ·rw[al hb]at q
  by_cases hbe:b=e
  ·have q':H b=some (.own x):=by
    rcases he with z|z
    ·exact absurd (hbe.trans z) hb
    ·rw[hbe];exact z
   rw[q]at q';cases q';obtain⟨v,hv⟩:=heo;exact⟨v,by rw[hbe];exact hv⟩
  ·refine(ok b u q).stay (λc v hc r=>k c v ?_ r) (λc r=>by rw[al (nown c b r)];exact r) λc xs r=>by rw[al (ntup c xs r)];exact r
   rcases hc with rfl|hc
   ·exact hbe
   ·rintro rfl;rcases he with z|z
    ·exact nown c b hc z
    ·rw[hc]at z;cases z;exact hb rfl
end
structure Un(fs ex:List Addr)(H H':Hp)(h h':Heap):Prop where
 keep:∀b o,h.get? b=some o→H b=none→b∉fs→b∉ex→h'.get? b=some o
 slot:∀b o,h.get? b=some o→H b=none→b∈fs→b∉ex→∃sl,h'.get? b=some {o with slots:=sl}
 free:∀b o,h.get? b=some o→H b=none→b∉ex→H' b=none
 there:∀b o,h.get? b=some o→b∉ex→∃o',h'.get? b=some o'
 tups:∀b xs,H b=some (.tup xs)→H' b=some (.tup xs)
 frzs:∀b o u,H b=some (.frz o u)→H' b=some (.frz o u)
 tbls:∀b ps,H b=some (.tbl ps)→∃more,H' b=some (.tbl (ps++more))
section
variable{fs fs' ex ex':List Addr}{H H1 H2:Hp}{h h1 h2 h':Heap}{a x e:Addr}{o:HO}
theorem Un.any(u:Un fs ex H H1 h h1){b:Addr}{ob:Obj}(q:h.get? b=some ob)(n:H b=none)(hx:b∉ex):∃sl,h1.get? b=some {ob with slots:=sl}:=by
 by_cases hb:b∈fs
 ·exact u.slot b ob q n hb hx
 ·exact⟨ob.slots,u.keep b ob q n hb hx⟩
theorem Un.kept(k:∀b u,h.get? b=some u→h'.get? b=some u):Un fs ex H H h h' :=
 ⟨λb ob q _ _ _=>k b ob q,λb ob q _ _ _=>⟨ob.slots,k b ob q⟩,λ_ _ _ n _=>n,λb ob q _=>⟨ob,k b ob q⟩,λ_ _ q=>q,λ_ _ _ q=>q,λ_ ps q=>⟨#[],by rw[q];simp⟩⟩
theorem Un.refl:Un fs ex H H h h:=Un.kept λ_ _ q=>q
theorem Un.laid(k:∀b u,h.get? b=some u→h'.get? b=some u)(hp:h.objs.size≤a)(hn:H a=none):Un fs ex H (upd H a o) h h' where
 keep:=λb u q _ _ _=>k b u q
 slot:=λb u q _ _ _=>⟨u.slots,k b u q⟩
 free:=λb u q n _=>by rw[al (ne_of_lt (lt_of_lt_of_le (lt_size q) hp))];exact n
 there:=λb u q _=>⟨u,k b u q⟩
 tups:=λb xs q=>by rw[al (bH q hn)];exact q
 frzs:=λb u xs q=>by rw[al (bH q hn)];exact q
 tbls:=λb ps q=>⟨#[],by rw[al (bH q hn),q];simp⟩
theorem Un.write(mu:Mut (H x))(he:e=x∨H e=some (.own x))(k:∀b u,b≠e→h.get? b=some u→h'.get? b=some u)(heo:∃u,h'.get? e=some u):Un fs ex H (upd H x o) h h':=by
 have hx:∀b,H b=none→b≠x:=λb n z=>by subst z;rw[n]at mu;exact mu
 have hb:∀b,H b=none→b≠e:=λb n z=>by
  subst z;rcases he with r|r
  ·exact hx b n r
  ·rw[n]at r;cases r
 have hm:∀b u,H b=some u→¬Mut (some u)→b≠x:=λb u q nm z=>by subst z;rw[q]at mu;exact nm mu
 refine⟨λb u q n _ _=>k b u (hb b n) q,λb u q n _ _=>⟨u.slots,k b u (hb b n) q⟩,λb u q n _=>by rw[al (hx b n)];exact n,λb u q _=>?_,
  λb xs q=>by rw[al (hm b _ q λz=>z)];exact q,λb u xs q=>by rw[al (hm b _ q λz=>z)];exact q,λb ps q=>⟨#[],by rw[al (hm b _ q λz=>z),q];simp⟩⟩
 by_cases hbe:b=e
 ·subst hbe;exact heo
 ·exact⟨u,k b u hbe q⟩
end
def trk(h:Heap)(H:Hp):List Addr:=(List.range h.objs.size).filter λa=>(H a).isSome
def kd(h:Heap)(H:Hp):Heap:=hideAll h (trk h H)
theorem qa(h:Heap)(H:Hp):(kd h H).objs.size=h.objs.size:=PySem.W.hideAll_size _ _
theorem qT{h:Heap}{H:Hp}{b:Addr}{o:Obj}(e:h.get? b=some o)(n:H b=none):(kd h H).get? b=some o :=
 hideAll_get _ e λhm=>by
  have q:(H b).isSome=true:=(mem_filter.mp hm).2;rw[n]at q;simp at q
theorem tT{h:Heap}{H:Hp}{b:Addr}{o:Obj}(e:(kd h H).get? b=some o):h.get? b=some o∧H b=none:=by
 have e':h.get? b=some o:=of_hideAll (trk h H) e;refine⟨e',?_⟩;cases q:H b with
 |none=>rfl
 |some x =>
  have hm:b∈trk h H:=mem_filter.mpr ⟨mem_range.mpr (lt_size e'),by simp[q]⟩;have z:(kd h H).get? b=none:=PySem.W.hideAll_none (trk h H) hm;rw[z]at e;cases e
structure Mod(K:PySem.W.Frag)(mg:Str→Option Value)(base:Heap):Prop where
 kin:K.In base
 glob:base.Ns mainGlobals mg
 blt:∃mb,base.Ns builtinsNs mb∧∀x:Str,x≠"__name__"→mb x=bootBuiltins x
 nolimit:base.NoLimit
structure Cx where
 prog:Program
 w:World
 K:PySem.W.Frag
 mg:Str→Option Value
 base:Heap
 A:Around
 N:List Str
 s₀:Shared
 H₀:Hp
 env:Env
 outer:List Env
 stack:List Env
 ex:List Addr
 fn:Str→Bool
 calm:Bool
 pn:List (Addr×Obj)
 xe:Value→Shared→Prop
def frs(l:List Env):List Addr:=l.filterMap (·.frame)
abbrev Cx.fs(X:Cx):List Addr:=frs X.outer
def Vis(sc:Scope)(x:Str):Prop:=sc.names.lookup x=some .local∨sc.names.lookup x=some .cell∨sc.names.lookup x=some .free
def Loc(sc:Scope)(x:Str):Prop:=sc.names.lookup x=some .local∨sc.names.lookup x=some .cell
def yL(env:Env)(h:Heap)(m:Str→Option Value)(x:Str)(u:Value):Prop :=
 (env.kindOf x=some .local∧m x=some u)∨((env.kindOf x=some .cell∨env.kindOf x=some .free)∧∃c,env.cells.lookup x=some c∧h.IsCell c (some u))
structure Cx.Ok(X:Cx):Prop where
 mod:Mod X.K X.mg X.base
 kind:X.env.scope.kind=.function
 glob:X.env.globals=mainGlobals
 blt:X.env.builtins=builtinsNs
 above:X.s₀.heap.objs.size≤X.env.locals
 inj:∀x y c,X.env.cells.lookup x=some c→X.env.cells.lookup y=some c→x=y
 has:∀x,(X.env.kindOf x=some .cell∨X.env.kindOf x=some .free)→∃c,X.env.cells.lookup x=some c
 cab:∀x c,X.fn x=true→X.env.cells.lookup x=some c→X.s₀.heap.objs.size≤c
 hd:X.calm=true→X.A.handled=none
 frames:X.A.frames=some X.stack
 stk:X.stack=X.outer∨(X.stack=X.env::X.outer∧X.env.frame=some X.env.locals)
 exf:∀b∈X.ex,b≠X.env.locals∧∀x c,X.env.cells.lookup x=some c→c≠b
 bs:∀b o,X.base.get? b=some o→X.s₀.heap.get? b=some o∧X.H₀ b=none
 bsz:X.base.objs.size≤X.s₀.heap.objs.size
 noex:∀b o,X.base.get? b=some o→b∉X.ex
 exfs:∀b∈X.ex,b∉X.fs
 funs:X.s₀.heap.FunFrames X.base X.outer
 frf:∀b∈X.fs,X.H₀ b=none
structure Inv(X:Cx)(pins:List (Addr×Obj))(σ:List (Option V))(H:Hp)(s:Shared):Prop where
 ok:X.Ok
 os:s.os=X.s₀.os
 bare:AllBare s.gens
 base:Un X.fs X.ex X.H₀ H X.s₀.heap s.heap
 loc:∃m,s.heap.Ns X.env.locals m∧∀(i:Nat)(x:Str)(v:V),X.N[i]?=some x→σ[i]?=some (some v)→Vis X.env.scope x→∃u,aI v u∧yL X.env s.heap m x u
 cell:∀x c,X.env.cells.lookup x=some c→∃v,s.heap.IsCell c v
 free:H X.env.locals=none
 freeC:∀x c,X.env.cells.lookup x=some c→H c=none
 pin:∀p∈X.pn++pins,s.heap.get? p.1=some p.2∧H p.1=none∧p.1≠X.env.locals∧p.1∉X.fs∧∀v,p.2.data≠.cell v
 hok:HOk X.prog X.w H s.heap
 len:σ.length=X.N.length
section
variable{X:Cx}{pins:List (Addr×Obj)}{σ:List (Option V)}{H H':Hp}{s:Shared}{h':Heap}
theorem Cx.Ok.nofr(ok:X.Ok){b:Addr}{o:Obj}(e:X.base.get? b=some o):b∉X.fs:=λhb=>by
 have:=(ok.funs.mem hb).1;rw[e]at this;cases this
theorem Inv.bs(I:Inv X pins σ H s):∀b o,X.base.get? b=some o→s.heap.get? b=some o∧H b=none:=λb o e =>
 ⟨I.base.keep b o (I.ok.bs b o e).1 (I.ok.bs b o e).2 (I.ok.nofr e) (I.ok.noex b o e),I.base.free b o (I.ok.bs b o e).1 (I.ok.bs b o e).2 (I.ok.noex b o e)⟩
theorem Inv.bk(I:Inv X pins σ H s):∀b o,X.base.get? b=some o→s.heap.get? b=some o:=λb o e=>(I.bs b o e).1
theorem Inv.mod(I:Inv X pins σ H s):Mod X.K X.mg X.base:=I.ok.mod
theorem Inv.kIn(I:Inv X pins σ H s):X.K.In s.heap:=I.ok.mod.kin.keeps I.bk
theorem Inv.lt(I:Inv X pins σ H s):X.env.locals<s.heap.objs.size:=let⟨_,hn,_⟩:=I.loc;hn.lt
theorem Inv.sz(I:Inv X pins σ H s):X.s₀.heap.objs.size≤s.heap.objs.size:=le_trans I.ok.above (le_of_lt I.lt)
theorem Inv.nofs(I:Inv X pins σ H s){a:Addr}(h:s.heap.objs.size≤a):a∉X.fs:=λhb=>by
 obtain⟨_,o,ho,_⟩:=I.ok.funs.mem hb;exact absurd (lt_of_lt_of_le (lt_size ho) (le_trans I.sz h)) (lt_irrefl _)
theorem Inv.cne(I:Inv X pins σ H s):∀x c,X.env.cells.lookup x=some c→c≠X.env.locals:=λx c e z=>by
 obtain⟨v,o,ho,hd⟩:=I.cell x c e;obtain⟨m,⟨o',es,ep,ho',hd',_⟩,_⟩:=I.loc;rw[z,ho']at ho;cases ho;rw[hd']at hd;cases hd
theorem Inv.funs(I:Inv X pins σ H s):s.heap.FunFrames X.base X.outer:=by
 have all:∀(l:List Env),(∀b∈frs l,b∈X.fs)→X.s₀.heap.FunFrames X.base l→s.heap.FunFrames X.base l:=by
  intro l
  induction l with
  |nil=>intro _ _;trivial
  |cons env r ih =>
   intro hs hl;obtain⟨hk,⟨L,o,hf,hn,ho,hd⟩,hr⟩:=hl;have hL:L∈X.fs:=hs L (by unfold frs;rw[List.filterMap_cons,hf];exact mem_cons_self);obtain⟨sl,e⟩:=I.base.slot L o ho (I.ok.frf L hL) hL λz=>I.ok.exfs L z hL;exact⟨hk,⟨L,_,hf,hn,e,hd⟩,ih (λb hb=>hs b (by unfold frs;rw[List.filterMap_cons,hf];exact mem_cons_of_mem _ hb)) hr⟩
 exact all X.outer (λ_ hb=>hb) I.ok.funs
theorem Inv.stack(I:Inv X pins σ H s):s.heap.FunFrames X.base X.stack:=by
 rcases I.ok.stk with e|⟨e,hf⟩
 ·rw[e];exact I.funs
 ·rw[e];obtain⟨m,hn,_⟩:=I.loc;refine .cons (by rw[I.ok.kind];decide) hf hn ?_ I.funs;exact Heap.get?_none_of_le (le_trans I.ok.bsz I.ok.above)
theorem Inv.stkSub(I:Inv X pins σ H s):∀b∈frs X.stack,b∈X.env.locals::X.fs:=λb hb=>by
 rcases I.ok.stk with e|⟨e,hf⟩
 ·rw[e]at hb;exact mem_cons_of_mem _ hb
 ·rw[e]at hb;unfold frs at hb;rw[List.filterMap_cons,hf]at hb;exact hb
theorem Inv.stkFree(I:Inv X pins σ H s):∀b∈frs X.stack,H b=none:=λb hb=>by
 rcases mem_cons.mp (I.stkSub b hb)with e|hb
 ·rw[e];exact I.free
 ·obtain⟨_,o,ho,_⟩:=I.ok.funs.mem hb;exact I.base.free b o ho (I.ok.frf b hb) λz=>I.ok.exfs b z hb
theorem Inv.step{g':Array GenState}{t':Nat}{d':Drawn}{ch:List Addr}(I:Inv X pins σ H s)(hch:∀b∈ch,(b∈X.ex∨X.s₀.heap.objs.size≤b)∧b≠X.env.locals∧(∀x c,X.env.cells.lookup x=some c→c≠b)∧∀p∈X.pn++pins,p.1≠b)(keep:∀b o,b≠X.env.locals→b∉X.fs→b∉ch→s.heap.get? b=some o→H b=none→h'.get? b=some o)(slot:∀b o,b≠X.env.locals→b∈X.fs→b∉ch→s.heap.get? b=some o→H b=none→∃sl,h'.get? b=some {o with slots:=sl})(free:∀b o,b∉ch→s.heap.get? b=some o→H b=none→H' b=none)(there:∀b o,b∉ch→s.heap.get? b=some o→∃o',h'.get? b=some o')(tups:∀b xs,H b=some (.tup xs)→H' b=some (.tup xs))(frzs:∀b o u,H b=some (.frz o u)→H' b=some (.frz o u))(tbls:∀b ps,H b=some (.tbl ps)→∃more,H' b=some (.tbl (ps++more)))(ns:∀m,s.heap.Ns X.env.locals m→h'.Ns X.env.locals m)(hok:HOk X.prog X.w H' h')(hg:AllBare g'):
  Inv X pins σ H' {s with heap:=h',gens:=g',drawn:=d',toks:=t'}:=by
 have neL:∀b o,X.s₀.heap.get? b=some o→b≠X.env.locals:=λb o e=>ne_of_lt (lt_of_lt_of_le (lt_size e) I.ok.above);have neC:∀b o,X.s₀.heap.get? b=some o→b∉X.ex→b∉ch:=λb o e hx hb=>by
  rcases (hch b hb).1 with z|z
  ·exact hx z
  ·exact absurd (lt_of_lt_of_le (lt_size e) z) (lt_irrefl _)
 have cellK:∀x c,X.env.cells.lookup x=some c→∀v,s.heap.IsCell c v→h'.IsCell c v:=λx c e v ⟨o,ho,hd⟩=>by
  have nch:c∉ch:=λz=>(hch c z).2.2.1 x c e rfl
  by_cases hc:c∈X.fs
  ·obtain⟨sl,q⟩:=slot c o (I.cne x c e) hc nch ho (I.freeC x c e);exact⟨_,q,hd⟩
  ·exact⟨o,keep c o (I.cne x c e) hc nch ho (I.freeC x c e),hd⟩
 refine⟨I.ok,I.os,hg,⟨λb o e n hb hx=>?_,λb o e n hb hx=>?_,λb o e n hx=>?_,λb o e hx=>?_,λb xs e=>tups b xs (I.base.tups b xs e),λb o xs e=>frzs b o xs (I.base.frzs b o xs e),λb ps e=>?_⟩,?_,λx c e=>?_,?_,λx c e=>?_,λp hp=>?_,hok,I.len⟩
 ·exact keep b o (neL b o e) hb (neC b o e hx) (I.base.keep b o e n hb hx) (I.base.free b o e n hx)
 ·obtain⟨sl,e1⟩:=I.base.slot b o e n hb hx;obtain⟨sl',e2⟩:=slot b _ (neL b o e) hb (neC b o e hx) e1 (I.base.free b o e n hx);exact⟨sl',e2⟩
 ·obtain⟨o',e1⟩:=I.base.there b o e hx;exact free b o' (neC b o e hx) e1 (I.base.free b o e n hx)
 ·obtain⟨o',e1⟩:=I.base.there b o e hx;exact there b o' (neC b o e hx) e1
 ·obtain⟨m1,e1⟩:=I.base.tbls b ps e;obtain⟨m2,e2⟩:=tbls b _ e1;exact⟨m1++m2,by rw[e2,Array.append_assoc]⟩
 ·obtain⟨m,hn,hl⟩:=I.loc;refine⟨m,ns m hn,λi x v e1 e2 e3=>?_⟩;obtain⟨u,r,l⟩:=hl i x v e1 e2 e3;refine⟨u,r,?_⟩;rcases l with l|⟨k,c,e,z⟩
  ·exact .inl l
  ·exact .inr ⟨k,c,e,cellK x c e _ z⟩
 ·obtain⟨v,z⟩:=I.cell x c e;exact⟨v,cellK x c e v z⟩
 ·obtain⟨m,⟨o,_,_,ho,_⟩,_⟩:=I.loc;exact free _ o (λz=>(hch _ z).2.1 rfl) ho I.free
 ·obtain⟨v,o,ho,hd⟩:=I.cell x c e;exact free c o (λz=>(hch c z).2.2.1 x c e rfl) ho (I.freeC x c e)
 ·obtain⟨e,n,ne,nf,d⟩:=I.pin p hp;have nch:p.1∉ch:=λz=>(hch p.1 z).2.2.2 p hp rfl;exact⟨keep p.1 p.2 ne nf nch e n,free p.1 p.2 nch e n,ne,nf,d⟩
theorem Inv.un{t':Nat}(I:Inv X pins σ H s)(u:Un X.fs [] H H' s.heap h')(hok:HOk X.prog X.w H' h'):Inv X pins σ H' {s with heap:=h',toks:=t'}:=by
 obtain⟨m,⟨o,es,ep,ho,r⟩,_⟩:=id I.loc;obtain⟨sl,hL⟩:=u.any ho I.free (by simp);exact I.step (g':=s.gens) (d':=s.drawn) (ch:=[]) (λ_ z=>nomatch z) (λb o _ hb _ e n=>u.keep b o e n hb (by simp)) (λb o _ hb _ e n=>u.slot b o e n hb (by simp)) (λb o _ e n=>u.free b o e n (by simp)) (λb o _ e=>u.there b o e (by simp)) u.tups u.frzs u.tbls (λm' hm=>by
  obtain⟨o',es',ep',ho',r'⟩:=hm;rw[ho]at ho';cases ho';exact⟨_,es',ep',hL,r'⟩) hok I.bare
theorem Inv.call{g':Array GenState}{t':Nat}{d':Drawn}{ch:List Addr}(I:Inv X pins σ H s)(u:Un (frs X.stack) ch H H' s.heap h')(hok:HOk X.prog X.w H' h')(hg:AllBare g')(hch:∀b∈ch,(b∈X.ex∨X.s₀.heap.objs.size≤b)∧b≠X.env.locals∧(∀x c,X.env.cells.lookup x=some c→c≠b)∧∀p∈X.pn++pins,p.1≠b):
  Inv X pins σ H' {s with heap:=h',gens:=g',drawn:=d',toks:=t'}:=by
 obtain⟨m,⟨o,es,ep,ho,r⟩,_⟩:=id I.loc;obtain⟨sl,hL⟩:=u.any ho I.free λz=>(hch _ z).2.1 rfl;exact I.step (ch:=ch) hch (λb o hL hb hc e n=>u.keep b o e n (λz=>(mem_cons.mp (I.stkSub b z)).elim hL hb) hc) (λb o _ _ hc e n=>u.any e n hc) (λb o hc e n=>u.free b o e n hc) (λb o hc e=>u.there b o e hc) u.tups u.frzs u.tbls (λm' hm=>by
  obtain⟨o',es',ep',ho',r'⟩:=hm;rw[ho]at ho';cases ho';exact⟨_,es',ep',hL,r'⟩) hok hg
theorem Inv.turned{t':Nat}{it:Addr}(I:Inv X pins σ H s)(k:∀b o,b≠it→s.heap.get? b=some o→h'.get? b=some o)(hn:H it=none)(hL:it≠X.env.locals)(h1:it∈X.ex∨X.s₀.heap.objs.size≤it)(h2:∀x c,X.env.cells.lookup x=some c→c≠it)(h3:∀p∈X.pn++pins,p.1≠it):Inv X pins σ H {s with heap:=h',toks:=t'}:=by
 have nit:∀b u,H b=some u→b≠it:=λb u e z=>by rw[z,hn]at e;cases e
 refine I.step (g':=s.gens) (d':=s.drawn) (ch:=[it]) (λb hb=>?_) (λb o _ _ hc e _=>k b o (λz=>hc (by simp[z])) e) (λb o _ _ hc e _=>⟨o.slots,k b o (λz=>hc (by simp[z])) e⟩) (λ_ _ _ _ n=>n)
  (λb o hc e=>⟨o,k b o (λz=>hc (by simp[z])) e⟩) (λ_ _ e=>e) (λ_ _ _ e=>e) (λb ps e=>⟨#[],by rw[e];simp⟩) (λm hm=>?_) (λb u e=>?_) I.bare
 ·have e:b=it:=by simpa using hb
  subst e;exact⟨h1,hL,h2,h3⟩
 ·obtain⟨o,es,ep,ho,r⟩:=hm;exact⟨o,es,ep,k _ o (symm hL) ho,r⟩
 ·refine(I.hok b u e).stay (λc v hc q=>k c v ?_ q) (λ_ q=>q) λ_ _ q=>q;rcases hc with z|z
  ·rw[z];exact nit b u e
  ·exact nit c _ z
theorem Inv.tok(I:Inv X pins σ H s)(t:Nat):Inv X pins σ H {s with toks:=t}:=I.un (h':=s.heap) (t':=t) Un.refl I.hok
theorem Inv.kept{t':Nat}(I:Inv X pins σ H s)(k:∀b u,s.heap.get? b=some u→h'.get? b=some u):Inv X pins σ H {s with heap:=h',toks:=t'}:=I.un (Un.kept k) (I.hok.kept k)
theorem Inv.laid{a:Addr}{o:HO}{t':Nat}(I:Inv X pins σ H s)(k:∀b u,s.heap.get? b=some u→h'.get? b=some u)(hp:s.heap.objs.size≤a)(new:ba X.prog X.w (upd H a o) h' a o):
  Inv X pins σ (upd H a o) {s with heap:=h',toks:=t'}:=I.un (Un.laid k hp (I.hok.fresh hp)) (I.hok.laid k hp new)
theorem Inv.write{x e:Addr}{o:HO}{t':Nat}(I:Inv X pins σ H s)(mu:Mut (H x))(he:e=x∨H e=some (.own x))(k:∀b u,b≠e→s.heap.get? b=some u→h'.get? b=some u)(heo:∃u,h'.get? e=some u)(new:ba X.prog X.w (upd H x o) h' x o):Inv X pins σ (upd H x o) {s with heap:=h',toks:=t'}:=I.un (Un.write mu he k heo) (I.hok.write mu he k heo new)
theorem Inv.pins_of{pins':List (Addr×Obj)}(I:Inv X pins σ H s)(h:∀p∈pins',s.heap.get? p.1=some p.2∧H p.1=none∧p.1≠X.env.locals∧p.1∉X.fs∧∀v,p.2.data≠.cell v):Inv X pins' σ H s :=
 ⟨I.ok,I.os,I.bare,I.base,I.loc,I.cell,I.free,I.freeC,λp hp=>(mem_append.mp hp).elim (λz=>I.pin p (mem_append_left _ z)) (h p),I.hok,I.len⟩
theorem lB{N:List Str}(hN:N.Nodup){i j:Nat}{x:Str}(a:N[i]?=some x)(b:N[j]?=some x):i=j:=by
 obtain⟨h1,e1⟩:=List.getElem?_eq_some_iff.mp a;obtain⟨h2,e2⟩:=List.getElem?_eq_some_iff.mp b;exact(getElem_inj hN).mp (e1.trans e2.symm)
theorem jz{M:Model}{A:Around}{E:Value→Shared→Prop}{i:Nat}{x:Str}{v:V}{u:Value}{Q:Unit→Shared→Prop}(I:Inv X pins σ H s)(hN:X.N.Nodup)(hi:X.N[i]?=some x)(hx:Loc X.env.scope x)(r:aI v u)(h:∀s',Inv X pins (σ.set i (some v)) H s'→(∃a,SameBut a s.heap s'.heap∧(a=X.env.locals∨X.env.cells.lookup x=some a))→Q () s')(hf:X.fn x=true∨X.env.scope.names.lookup x=some .local:=by first|exact .inl rfl|exact .inr rfl|assumption):wpAny M A (storeName X.env x u) Q E s:=by
 obtain⟨m,hn,hl⟩:=id I.loc;have hcls:(X.env.scope.kind==.class||(X.env.scope.kind==.module&&X.env.locals != X.env.globals))=false:=by rw[I.ok.kind];rfl
 have hiσ:i<σ.length:=by rw[I.len];exact(List.getElem?_eq_some_iff.mp hi).1
 have cne:=I.cne;have tracked:∀{a:Addr}{h':Heap},(∃o,s.heap.get? a=some o∧H a=none)→SameBut a s.heap h'→HOk X.prog X.w H h':=λ{a h'} ha hs b ob e=>by
  obtain⟨_,_,hfree⟩:=ha;refine(I.hok b ob e).stay (λc w' hc q=>(hs.2 c ?_).trans q) (λ_ q=>q) λ_ _ q=>q;rintro rfl;rcases hc with rfl|hc
  ·rw[hfree]at e;cases e
  ·rw[hfree]at hc;cases hc
 rcases hx with hk|hk
 ·refine wpAny_storeName_local hk hn (λh' hn' hs=>?_) hcls;obtain⟨oL,_,_,hoL,_⟩:=id hn;refine h _ ⟨I.ok,I.os,I.bare,⟨λb o e n hb hx=>?_,λb o e n hb hx=>?_,I.base.free,λb o e hx=>?_,I.base.tups,I.base.frzs,I.base.tbls⟩,⟨_,hn',λj y v' e1 e2 e3=>?_⟩,λy c e=>?_,I.free,I.freeC,λp hp=>?_,tracked ⟨oL,hoL,I.free⟩ hs,by simpa using I.len⟩ ⟨_,hs,.inl rfl⟩
  ·exact(hs.2 b (ne_of_lt (lt_of_lt_of_le (lt_size e) I.ok.above))).trans (I.base.keep b o e n hb hx)
  ·obtain⟨sl,e1⟩:=I.base.slot b o e n hb hx;exact⟨sl,(hs.2 b (ne_of_lt (lt_of_lt_of_le (lt_size e) I.ok.above))).trans e1⟩
  ·obtain⟨o',e1⟩:=I.base.there b o e hx;exact⟨o',(hs.2 b (ne_of_lt (lt_of_lt_of_le (lt_size e) I.ok.above))).trans e1⟩
  ·by_cases hj:j=i
   ·subst hj;rw[hi]at e1;cases e1;rw[List.getElem?_set_self hiσ]at e2;cases e2;exact⟨u,r,.inl ⟨hk,by simp⟩⟩
   ·rw[List.getElem?_set_ne (symm hj)]at e2;obtain⟨u',r',q⟩:=hl j y v' e1 e2 e3;refine⟨u',r',?_⟩;rcases q with⟨k,e⟩|⟨k,c,e,z⟩
    ·refine .inl ⟨k,?_⟩;have:y≠x:=λe=>hj (lB hN e1 (e ▸ hi));simp[this,e]
    ·exact .inr ⟨k,c,e,z.sameBut hs (cne y c e)⟩
  ·obtain⟨w',z⟩:=I.cell y c e;exact⟨w',z.sameBut hs (cne y c e)⟩
  ·obtain⟨e,n,ne,nf,d⟩:=I.pin p hp;exact⟨(hs.2 p.1 ne).trans e,n,ne,nf,d⟩
 ·have hfn:X.fn x=true:=by
   rcases hf with z|z
   ·exact z
   ·rw[z]at hk;cases hk
  obtain⟨c,hc⟩:=I.ok.has x (.inl hk);obtain⟨w',z⟩:=I.cell x c hc;refine wpAny_storeName_cell I.ok.kind hk hc z (λh' hc' hs=>?_);obtain⟨oc,hoc,hocd⟩:=id z;refine h {s with heap:=h'} ⟨I.ok,I.os,I.bare,⟨λb o e n hb hx=>?_,λb o e n hb hx=>?_,I.base.free,λb o e hx=>?_,I.base.tups,I.base.frzs,I.base.tbls⟩,⟨m,hn.sameBut hs (symm (cne x c hc)),λj y v' e1 e2 e3=>?_⟩,λy c' e=>?_,I.free,I.freeC,λp hp=>?_,tracked ⟨oc,hoc,I.freeC x c hc⟩ hs,by simpa using I.len⟩ ⟨c,hs,.inr hc⟩
  ·exact(hs.2 b (ne_of_lt (lt_of_lt_of_le (lt_size e) (I.ok.cab x c hfn hc)))).trans (I.base.keep b o e n hb hx)
  ·obtain⟨sl,e1⟩:=I.base.slot b o e n hb hx;exact⟨sl,(hs.2 b (ne_of_lt (lt_of_lt_of_le (lt_size e) (I.ok.cab x c hfn hc)))).trans e1⟩
  ·obtain⟨o',e1⟩:=I.base.there b o e hx;exact⟨o',(hs.2 b (ne_of_lt (lt_of_lt_of_le (lt_size e) (I.ok.cab x c hfn hc)))).trans e1⟩
  ·by_cases hj:j=i
   ·subst hj;rw[hi]at e1;cases e1;rw[List.getElem?_set_self hiσ]at e2;cases e2;exact⟨u,r,.inr ⟨.inl hk,c,hc,hc'⟩⟩
   ·rw[List.getElem?_set_ne (symm hj)]at e2;obtain⟨u',r',q⟩:=hl j y v' e1 e2 e3;refine⟨u',r',?_⟩;rcases q with q|⟨k,c',e,z'⟩
    ·exact .inl q
    ·refine .inr ⟨k,c',e,z'.sameBut hs ?_⟩;rintro rfl;exact hj (lB hN e1 (I.ok.inj _ _ _ e hc ▸ hi))
  ·by_cases hcc:c'=c
   ·subst hcc;exact⟨_,hc'⟩
   ·obtain⟨w2,z2⟩:=I.cell y c' e;exact⟨w2,z2.sameBut hs hcc⟩
  ·obtain⟨e,n,ne,nf,d⟩:=I.pin p hp;refine⟨(hs.2 p.1 ?_).trans e,n,ne,nf,d⟩;intro q;rw[q,hoc]at e;have q':oc=p.2:=Option.some.inj e;exact d w' (by rw[←q'];exact hocd)
theorem iC{M:Model}{A:Around}{E:Value→Shared→Prop}{i:Nat}{x:Str}{v:V}{u:Value}{Q:Unit→Shared→Prop}(I:Inv X pins σ H s)(hN:X.N.Nodup)(hi:X.N[i]?=some x)(hx:Loc X.env.scope x)(r:aI v u)(h:∀s',Inv X pins (σ.set i (some v)) H s'→Q () s')(hf:X.fn x=true∨X.env.scope.names.lookup x=some .local:=by first|exact .inl rfl|exact .inr rfl|assumption):wpAny M A (storeName X.env x u) Q E s :=
 jz I hN hi hx r (λs' I' _=>h s' I') hf
theorem Inv.call'{s':Shared}{ch:List Addr}(I:Inv X pins σ H s)(ho:s'.os=s.os)(u:Un (frs X.stack) ch H H' s.heap s'.heap)(hok:HOk X.prog X.w H' s'.heap)(hg:AllBare s'.gens)(hch:∀b∈ch,(b∈X.ex∨X.s₀.heap.objs.size≤b)∧b≠X.env.locals∧(∀x c,X.env.cells.lookup x=some c→c≠b)∧∀p∈X.pn++pins,p.1≠b):Inv X pins σ H' s':=by
 obtain⟨h',g',d',t',o'⟩:=s';have e:o'=s.os:=ho;subst e;exact I.call (g':=g') (t':=t') (d':=d') u hok hg hch
end
abbrev XK:=Value→Option Addr→Hp→Prop
abbrev St:=List (Option V)
abbrev VK:=V→Hp→Prop
abbrev TE:=St→Hp→VK→Prop
abbrev TT:=St→Hp→(Bool→Hp→Prop)→Prop
abbrev TA:=St→Hp→(List V→Hp→Prop)→Prop
structure Ends where
 nx:St→Hp→Prop
 rt:VK
 bk:St→Hp→Prop:=λ_ _=>False
 ct:St→Hp→Prop:=λ_ _=>False
abbrev TS:=Ends→St→Hp→Prop
def EP(X:Cx)(pins:List (Addr×Obj))(σ:St)(Q:VK)(u:Value)(s':Shared):Prop:=∃v H',Inv X pins σ H' s'∧aI v u∧Q v H'
def TP(X:Cx)(pins:List (Addr×Obj))(σ:St)(Q:Bool→Hp→Prop)(b:Bool)(s':Shared):Prop:=∃H',Inv X pins σ H' s'∧Q b H'
def AP(X:Cx)(pins:List (Addr×Obj))(σ:St)(Q:List V→Hp→Prop)(us:List Value)(s':Shared):Prop:=∃vs H',Inv X pins σ H' s'∧aB vs us∧Q vs H'
def SP(X:Cx)(pins:List (Addr×Obj))(D:Ends)(f:Flow)(s':Shared):Prop :=
 match f with
 |.next=>∃σ' H',Inv X pins σ' H' s'∧D.nx σ' H'
 |.brk=>∃σ' H',Inv X pins σ' H' s'∧D.bk σ' H'
 |.cont=>∃σ' H',Inv X pins σ' H' s'∧D.ct σ' H'
 |.ret u=>∃v σ' H',Inv X pins σ' H' s'∧aI v u∧D.rt v H'
def PE(X:Cx)(e:Expr)(t:TE):Prop :=
 ∀(pins:List (Addr×Obj))(s:Shared)(σ:St)(H:Hp)(Q:VK),Inv X pins σ H s→t σ H Q→wpAny (model X.prog X.w) X.A (eval e X.env) (EP X pins σ Q) X.xe s
def PT(X:Cx)(e:Expr)(t:TT):Prop :=
 ∀(pins:List (Addr×Obj))(s:Shared)(σ:St)(H:Hp)(Q:Bool→Hp→Prop),Inv X pins σ H s→t σ H Q→wpAny (model X.prog X.w) X.A (isTrue e X.env (eval e X.env)) (TP X pins σ Q) X.xe s
def PW(X:Cx)(e:Expr)(t:TT):Prop :=
 ∀(whole:Sem Value)(pins:List (Addr×Obj))(s:Shared)(σ:St)(H:Hp)(Q:Bool→Hp→Prop),Inv X pins σ H s→t σ H Q→wpAny (model X.prog X.w) X.A (isTrue e X.env whole) (TP X pins σ Q) X.xe s
theorem PW.pt{X:Cx}{e:Expr}{t:TT}(h:PW X e t):PT X e t:=h _
def PA(X:Cx)(es:List Expr)(t:TA):Prop :=
 ∀(pos:Pos)(pins:List (Addr×Obj))(s:Shared)(σ:St)(H:Hp)(Q:List V→Hp→Prop),Inv X pins σ H s→t σ H Q→wpAny (model X.prog X.w) X.A (spliced (backTo pos (starEach es X.env))) (AP X pins σ Q) X.xe s
def PS(X:Cx)(st:Stmt)(t:TS):Prop :=
 ∀(pins:List (Addr×Obj))(s:Shared)(σ:St)(H:Hp)(D:Ends),Inv X pins σ H s→t D σ H→wpAny (model X.prog X.w) X.A (exec st X.env) (SP X pins D) X.xe s
def PSs(X:Cx)(st:List Stmt)(t:TS):Prop :=
 ∀(pins:List (Addr×Obj))(s:Shared)(σ:St)(H:Hp)(D:Ends),Inv X pins σ H s→t D σ H→wpAny (model X.prog X.w) X.A (execs st X.env) (SP X pins D) X.xe s
theorem thn{α:Type}{t:Sem α}{Q Q':α→Shared→Prop}{M:Model}{A:Around}{E:Value→Shared→Prop}{s:Shared}(h:wpAny M A t Q E s)(hQ:∀a s,Q a s→Q' a s):wpAny M A t Q' E s:=wpAny_mono h hQ λ_ _ x=>x
section
variable{X:Cx}
def eX(i:Nat):TE:=λσ H Q=>∃v,σ[i]?=some (some v)∧Q v H
def tC(v:V):TE:=λ_ H Q=>Q v H
theorem vO{i:Nat}{x:Str}{pos:Pos}(hN:X.N[i]?=some x)(hv:Vis X.env.scope x)(hd:(x==("__debug__":Str))=false:=by decide)(hcd:(x==("__classdict__":Str))=false:=by decide):PE X (.Name x pos) (eX i):=by
 intro pins s σ H Q I h;obtain⟨v,e,h⟩:=h;obtain⟨m,hn,hl⟩:=I.loc;obtain⟨u,r,l⟩:=hl i x v hN e hv;have fin:EP X pins σ Q u s:=⟨v,H,I,r,h⟩;rcases l with⟨hk,hm⟩|⟨hk,c,hc,hcell⟩
 ·exact wpAny_Name (wpAny_loadName_local I.ok.kind hk hn hm fin) hd
 ·rcases hk with hk|hk
  ·exact wpAny_Name (wpAny_loadName_cell I.ok.kind hk hc hcell fin) hd
  ·exact wpAny_Name (wpAny_loadName_free I.ok.kind hk hc hcell fin hcd) hd
theorem ah{i j pos}:PE X (.Constant (.int i) j pos) (tC (.int i)):=λ_ _ _ H _ I h=>wpAny_Constant_int ⟨.int i,H,I.tok _,⟨_,rfl⟩,h⟩
theorem cF{b j pos}:PE X (.Constant (.bool b) j pos) (tC (.bl b)):=λ_ _ _ H _ I h=>Constant_bool ⟨.bl b,H,I,rfl,h⟩
theorem cp{j pos}:PE X (.Constant .none j pos) (tC .non):=λ_ _ _ H _ I h=>Constant_none ⟨.non,H,I,rfl,h⟩
theorem bx{x j pos}:PE X (.Constant (.str x) j pos) (tC (.str x)):=λ_ _ _ H _ I h=>Calls.Constant_str ⟨.str x,H,I.tok _,⟨_,rfl⟩,h⟩
def Gl(X:Cx)(x:Str):Prop:=X.env.kindOf x=some .globalImplicit
theorem ke{E:Value→Shared→Prop}{pins:List (Addr×Obj)}{s:Shared}{σ:St}{H:Hp}{x:Str}{u:Value}{pos:Pos}{Q:Value→Shared→Prop}(I:Inv X pins σ H s)(hg:Gl X x)(hm:X.mg x=some u)(h:Q u s)(hd:(x==("__debug__":Str))=false:=by decide):wpAny (model X.prog X.w) X.A (eval (.Name x pos) X.env) Q E s :=
 Calls.Name_function_global I.ok.kind hg (Calls.loadGlobal_global (by rw[I.ok.glob];exact I.mod.glob.keeps I.bk) hm h) hd
theorem iD{E:Value→Shared→Prop}{pins:List (Addr×Obj)}{s:Shared}{σ:St}{H:Hp}{x:Str}{u:Value}{pos:Pos}{Q:Value→Shared→Prop}(I:Inv X pins σ H s)(hg:Gl X x)(hm:X.mg x=none)(hv:bootBuiltins x=some u)(h:Q u s)(hn:x≠"__name__":=by decide)(hd:(x==("__debug__":Str))=false:=by decide):wpAny (model X.prog X.w) X.A (eval (.Name x pos) X.env) Q E s:=by
 obtain⟨mb,h1,h2⟩:=I.mod.blt;exact Calls.Name_function_global I.ok.kind hg (Calls.loadGlobal_builtin (by rw[I.ok.glob];exact I.mod.glob.keeps I.bk) hm (by rw[I.ok.blt];exact h1.keeps I.bk) ((h2 x hn).trans hv) h) hd
theorem bQ{x:Str}{v:V}{u:Value}{pos:Pos}(hg:Gl X x)(hm:X.mg x=some u)(r:aI v u)(hd:(x==("__debug__":Str))=false:=by decide):PE X (.Name x pos) (tC v) :=
 λ_ _ _ H _ I h=>ke I hg hm ⟨v,H,I,r,h⟩ hd
theorem gm{x:Str}{v:V}{u:Value}{pos:Pos}(hg:Gl X x)(hm:X.mg x=none)(hv:bootBuiltins x=some u)(r:aI v u)(hn:x≠"__name__":=by decide)(hd:(x==("__debug__":Str))=false:=by decide):PE X (.Name x pos) (tC v) :=
 λ_ _ _ H _ I h=>iD I hg hm hv ⟨v,H,I,r,h⟩ hn hd
variable{a b:Expr}{ta tb:TE}{pos:Pos}
def PC(X:Cx)(op:CmpOp)(a b:Expr)(t:TE):Prop :=
 ∀(pins:List (Addr×Obj))(s:Shared)(σ:St)(H:Hp)(Q:VK),Inv X pins σ H s→t σ H Q →
  wpAny (model X.prog X.w) X.A (eval a X.env) (λv s₁=>wpAny (model X.prog X.w) X.A (eval b X.env) (λu s₂=>wpAny (model X.prog X.w) X.A (compareOp op v u) (EP X pins σ Q) X.xe s₂) X.xe s₁) X.xe s
def tB(t:TE):TT:=λσ H Q=>t σ H λx H1=>∃c,x=.bl c∧Q c H1
theorem cU{op:CmpOp}{t:TE}(h:PC X op a b t)(h1:behindInMarks op b=false:=by first|exact nobehind _ (by decide) (by decide)|rfl):PT X (.Compare a [op] [b] pos) (tB t):=by
 intro pins s σ H Q I hw;refine wpAny_isTrue_Compare1 (thn (h pins s σ H _ I hw) λv s1 h1=>thn h1 λu s2 h2=>thn h2 λc s3 ⟨x,H1,I1,r1,q1⟩=>?_) h1;obtain⟨d,rfl,q⟩:=q1;cases r1;exact wpAny_truthy_bool ⟨H1,I1,q⟩
theorem dY{e:Expr}{t:TE}(h:PE X e t)(he:∀whole,isTrue e X.env whole=(do let v ← whole;standAt e.pos;holding [v] (truthy v)):=by intro _;rfl):PT X e (tB t):=by
 intro pins s σ H Q I hw;refine isTrue_plain (thn (h pins s σ H _ I hw) λv s1 ⟨x,H1,I1,r1,q1⟩=>?_) (he _);obtain⟨d,rfl,q⟩:=q1;cases r1;exact wpAny_truthy_bool ⟨H1,I1,q⟩
variable{tA tB':TT}{rest:List Expr}
def yM(t u:TT):TT:=λσ H Q=>t σ H λc H1=>if c=true then u σ H1 Q else Q false H1
def tOr(t u:TT):TT:=λσ H Q=>t σ H λc H1=>if c=true then Q true H1 else u σ H1 Q
def yN(t:TT):TT:=λσ H Q=>t σ H λc H1=>Q (!c) H1
theorem pw_and1(ha:PT X a tA):PW X (.BoolOp .And [a] pos) tA:=by
 intro wh pins s σ H Q I h;refine isTrue_and (thn (ha pins s σ H Q I h) λc s1 e=>?_);cases c with
 |true=>exact isTrue_and_nil e
 |false=>exact e
theorem pw_or1(ha:PT X a tA):PW X (.BoolOp .Or [a] pos) tA:=by
 intro wh pins s σ H Q I h;refine isTrue_or (thn (ha pins s σ H Q I h) λc s1 e=>?_);cases c with
 |false=>exact isTrue_or_nil e
 |true=>exact e
theorem pw_and(ha:PT X a tA)(hb:PW X (.BoolOp .And (b::rest) pos) tB'):PW X (.BoolOp .And (a::b::rest) pos) (yM tA tB'):=by
 intro wh pins s σ H Q I h;refine isTrue_and (thn (ha pins s σ H _ I h) λc s1 hpt=>?_);obtain⟨H1,I1,q1⟩:=hpt;cases c with
 |true=>exact hb wh pins s1 σ H1 Q I1 q1
 |false=>exact⟨H1,I1,q1⟩
theorem pw_or(ha:PT X a tA)(hb:PW X (.BoolOp .Or (b::rest) pos) tB'):PW X (.BoolOp .Or (a::b::rest) pos) (tOr tA tB'):=by
 intro wh pins s σ H Q I h;refine isTrue_or (thn (ha pins s σ H _ I h) λc s1 hpt=>?_);obtain⟨H1,I1,q1⟩:=hpt;cases c with
 |true=>exact⟨H1,I1,q1⟩
 |false=>exact hb wh pins s1 σ H1 Q I1 q1
theorem dE(ha:PT X a tA):PT X (.UnaryOp .Not a pos) (yN tA):=by
 intro pins s σ H Q I h;exact isTrue_not (ha pins s σ H (λc H1=>Q (!c) H1) I h)
def xQ(ta tb:TE):TE:=λσ H Q=>ta σ H λx H1=>∃c,x=.bl c∧if c=true then tb σ H1 Q else Q (.bl false) H1
def yO(ta tb:TE):TE:=λσ H Q=>ta σ H λx H1=>∃c,x=.bl c∧if c=true then Q (.bl true) H1 else tb σ H1 Q
def xR(ta:TE):TE:=λσ H Q=>ta σ H λx H1=>∃c,x=.bl c∧Q (.bl (!c)) H1
theorem kg{op}{t:TE}(h:PE X a t):PE X (.BoolOp op [a] pos) t:=λpins s σ H Q I hw=>BoolOp_one (h pins s σ H Q I hw)
theorem kh(ha:PE X a ta)(hb:PE X (.BoolOp .And (b::rest) pos) tb):PE X (.BoolOp .And (a::b::rest) pos) (xQ ta tb):=by
 intro pins s σ H Q I h;refine BoolOp_and (thn (ha pins s σ H _ I h) λv s1 hpt=>?_);obtain⟨x,H1,I1,r1,q1⟩:=hpt;obtain⟨c,rfl,q1⟩:=q1;cases r1;refine wpAny_truthy_bool ?_;cases c with
 |true=>exact hb pins s1 σ H1 Q I1 q1
 |false=>exact⟨.bl false,H1,I1,rfl,q1⟩
theorem xS(ha:PE X a ta)(hb:PE X (.BoolOp .Or (b::rest) pos) tb):PE X (.BoolOp .Or (a::b::rest) pos) (yO ta tb):=by
 intro pins s σ H Q I h;refine BoolOp_or (thn (ha pins s σ H _ I h) λv s1 hpt=>?_);obtain⟨x,H1,I1,r1,q1⟩:=hpt;obtain⟨c,rfl,q1⟩:=q1;cases r1;refine wpAny_truthy_bool ?_;cases c with
 |false=>exact hb pins s1 σ H1 Q I1 q1
 |true=>exact⟨.bl true,H1,I1,rfl,q1⟩
theorem vP(ha:PE X a ta):PE X (.UnaryOp .Not a pos) (xR ta):=by
 intro pins s σ H Q I h;refine UnaryOp_ (thn (ha pins s σ H _ I h) λv s1 hpt=>?_);obtain⟨x,H1,I1,r1,q1⟩:=hpt;obtain⟨c,rfl,q1⟩:=q1;cases r1;exact not_of (wpAny_truthy_bool ⟨.bl (!c),H1,I1,rfl,q1⟩)
def tIf(t:TT)(ta tb:TE):TE:=λσ H Q=>t σ H λc H1=>if c=true then ta σ H1 Q else tb σ H1 Q
theorem lC{c:Expr}(hc:PT X c tA)(ha:PE X a ta)(hb:PE X b tb):PE X (.IfExp c a b pos) (tIf tA ta tb):=by
 intro pins s σ H Q I h;refine wpAny_IfExp (thn (hc pins s σ H _ I h) λd s1 hpt=>?_);obtain⟨H1,I1,q1⟩:=hpt;cases d with
 |true=>exact ha pins s1 σ H1 Q I1 q1
 |false=>exact hb pins s1 σ H1 Q I1 q1
end
def SqL(K:PySem.W.Frag)(H:Hp)(a:Addr)(xs:List V):Prop :=
 Rd H a (.lst xs) ∨
  ∃(o:Obj) (its:Array Value) (n:Nat),K.lookup a=some o∧o.cls=.type "list"∧o.dict=none∧o.data=.seq its n∧its.size≤sizeLine∧aB xs its.toList
def SqT(K:PySem.W.Frag)(H:Hp)(a:Addr)(xs:List V):Prop :=
 Rd H a (.tup xs) ∨
  ∃(o:Obj) (its:Array Value) (n:Nat),K.lookup a=some o∧o.cls=.type "tuple"∧o.data=.seq its n∧its.size≤sizeLine∧aB xs its.toList
def yP:Value→Option V
 |.none=>some .non
 |.bool b=>some (.bl b)
 |.int i _=>some (.int i)
 |.str x _=>some (.str x)
 |.bytes b _=>some (.byt b)
 |.float b _=>some (.flt b)
 |.ref a=>some (.ref a)
 |.type n=>some (.ty n)
 |_=>none
theorem aI.abs{x:V}{u:Value}(r:aI x u):yP u=some x:=by
 cases x with
 |non=>cases r;rfl
 |bl _=>cases r;rfl
 |int _=>obtain⟨t,rfl⟩:=r;rfl
 |str _=>obtain⟨t,rfl⟩:=r;rfl
 |byt _=>obtain⟨t,rfl⟩:=r;rfl
 |flt _=>obtain⟨t,rfl⟩:=r;rfl
 |ref _=>cases r;rfl
 |ty _=>cases r;rfl
theorem aI.inj{x y:V}{u:Value}(r:aI x u)(q:aI y u):x=y:=Option.some.inj (r.abs.symm.trans q.abs)
theorem aB.inj:∀{xs ys:List V}{us:List Value},aB xs us→aB ys us→xs=ys
 |_,_,_,.nil,.nil=>rfl
 |_,_,_,.cons r t,.cons r' t'=>by rw[r.inj r',aB.inj t t']
section
variable{X:Cx}{pins:List (Addr×Obj)}{σ:St}{H:Hp}{s:Shared}{a:Addr}{xs ys:List V}
theorem SqL.of{K:PySem.W.Frag}(h:H a=some (.lst xs)):SqL K H a xs:=.inl (.inl h)
theorem SqT.of{K:PySem.W.Frag}(h:H a=some (.tup xs)):SqT K H a xs:=.inl (.inl h)
theorem Inv.list(I:Inv X pins σ H s)(h:SqL X.K H a xs):∃its:List Value,aB xs its∧PlainL s.heap a its.toArray∧xs.length≤sizeLine:=by
 rcases h with h|⟨o,its,n,hk,hc,hd,hs,hz,r⟩
 ·obtain⟨z,its,n,r,e⟩:=h.ok I.hok;exact⟨its,r,⟨_,n,e,rfl,rfl,rfl⟩,z⟩
 ·refine⟨its.toList,r,⟨o,n,I.kIn a o hk,hc,hd,by simpa using hs⟩,?_⟩
  have e:=r.length;simp only[length_toList]at e;omega
theorem Inv.tuple(I:Inv X pins σ H s)(h:SqT X.K H a xs):∃its:List Value,aB xs its∧IsTup s.heap a its.toArray∧xs.length≤sizeLine:=by
 rcases h with h|⟨o,its,n,hk,hc,hs,hz,r⟩
 ·obtain⟨z,its,r,p⟩:=h.ok I.hok;exact⟨its,r,p,z⟩
 ·refine⟨its.toList,r,⟨o,I.kIn a o hk,hc,n,by simpa using hs⟩,?_⟩
  have e:=r.length;simp only[length_toList]at e;omega
theorem Inv.list_inj(I:Inv X pins σ H s)(h:SqL X.K H a xs)(h':SqL X.K H a ys):xs=ys:=by
 obtain⟨its,r,⟨o,n,e,_,_,d⟩,_⟩:=I.list h;obtain⟨its',r',⟨o',n',e',_,_,d'⟩,_⟩:=I.list h';rw[e]at e';cases e';rw[d]at d';injection d' with d1 _
 have:its=its':=by simpa using congrArg toList d1
 subst this;exact r.inj r'
theorem Inv.tuple_inj(I:Inv X pins σ H s)(h:SqT X.K H a xs)(h':SqT X.K H a ys):xs=ys:=by
 obtain⟨its,r,⟨o,e,_,n,d⟩,_⟩:=I.tuple h;obtain⟨its',r',⟨o',e',_,n',d'⟩,_⟩:=I.tuple h';rw[e]at e';cases e';rw[d]at d';injection d' with d1 _
 have:its=its':=by simpa using congrArg toList d1
 subst this;exact r.inj r'
end
abbrev Cx.wish(X:Cx)(E:Value→Shared→Prop):Cx:={X with xe:=E}
abbrev Cx.nox(X:Cx):Cx:=X.wish λ_ _=>False
theorem Cx.Ok.wish{X:Cx}(ok:X.Ok)(E:Value→Shared→Prop):(X.wish E).Ok :=
 ⟨ok.mod,ok.kind,ok.glob,ok.blt,ok.above,ok.inj,ok.has,ok.cab,ok.hd,ok.frames,ok.stk,ok.exf,ok.bs,ok.bsz,ok.noex,ok.exfs,ok.funs,ok.frf⟩
theorem Cx.Ok.unwish{X:Cx}{E:Value→Shared→Prop}(ok:(X.wish E).Ok):X.Ok :=
 ⟨ok.mod,ok.kind,ok.glob,ok.blt,ok.above,ok.inj,ok.has,ok.cab,ok.hd,ok.frames,ok.stk,ok.exf,ok.bs,ok.bsz,ok.noex,ok.exfs,ok.funs,ok.frf⟩
section
variable{X:Cx}{pins:List (Addr×Obj)}{σ:St}{H:Hp}{s:Shared}{E:Value→Shared→Prop}
theorem Inv.wish(I:Inv X pins σ H s)(E:Value→Shared→Prop):Inv (X.wish E) pins σ H s:=⟨I.ok.wish E,I.os,I.bare,I.base,I.loc,I.cell,I.free,I.freeC,I.pin,I.hok,I.len⟩
theorem Inv.unwish(I:Inv (X.wish E) pins σ H s):Inv X pins σ H s:=⟨I.ok.unwish,I.os,I.bare,I.base,I.loc,I.cell,I.free,I.freeC,I.pin,I.hok,I.len⟩
theorem SP.unwish{D:Ends}{f:Flow}{s':Shared}(h:SP (X.wish E) pins D f s'):SP X pins D f s':=by
 cases f with
 |next=>obtain⟨σ',H',I,q⟩:=h;exact⟨σ',H',I.unwish,q⟩
 |brk=>obtain⟨σ',H',I,q⟩:=h;exact⟨σ',H',I.unwish,q⟩
 |cont=>obtain⟨σ',H',I,q⟩:=h;exact⟨σ',H',I.unwish,q⟩
 |ret u=>obtain⟨v,σ',H',I,r,q⟩:=h;exact⟨v,σ',H',I.unwish,r,q⟩
theorem PSs.nox{st:List Stmt}{t:TS}(h:PSs X.nox st t):PSs X st t:=λpins s σ H D I hw =>
 wpAny_mono (h pins s σ H D (I.wish _) hw) (λ_ _ q=>q.unwish) λ_ _ z=>False.elim z
end
section
variable{X:Cx}{st:Stmt}{rest:List Stmt}{t u:TS}{e:Expr}{te:TE}{pos:Pos}
def xT:TS:=λD σ H=>D.nx σ H
def lD(t u:TS):TS:=λD σ H=>t {D with nx:=u D} σ H
theorem aJ:PSs X [] xT:=λ_ _ σ H _ I h=>wpAny_execs_nil ⟨σ,H,I,h⟩
theorem ag(h1:PS X st t)(h2:PSs X rest u):PSs X (st::rest) (lD t u):=by
 intro pins s σ H D I h;refine wpAny_execs_cons (thn (h1 pins s σ H {D with nx:=u D} I h) λf s1 q=>?_);cases f with
 |next =>
  obtain⟨σ',H',I',q⟩:=q;exact h2 pins s1 σ' H' D I' q
 |ret v=>exact q
 |brk=>exact q
 |cont=>exact q
theorem aj(h1:PS X st t):PSs X [st] t:=by
 intro pins s σ H D I h;refine wpAny_execs_cons (thn (h1 pins s σ H D I h) λf s1 q=>?_);cases f with
 |next=>exact wpAny_execs_nil q
 |ret v=>exact q
 |brk=>exact q
 |cont=>exact q
theorem Inv.quiet{pins:List (Addr×Obj)}{σ:St}{H:Hp}{s:Shared}(I:Inv X pins σ H s):interactive X.env=false:=by simp[interactive,I.ok.kind]
def vt(te:TE):TS:=λD σ H=>te σ H λ_ H1=>D.nx σ H1
theorem bi(he:PE X e te)(hs:swapsWith e none pos.line X.env=pure false:=by rfl):PS X (.Expr e pos) (vt te):=by
 intro pins s σ H D I h;exact wpAny_Expr_any (thn (he pins s σ H _ I h) λv s1 ⟨x,H1,I1,r1,q1⟩=>⟨σ,H1,I1,q1⟩) I.quiet hs
def vQ(te:TE):TS:=λD σ H=>te σ H D.rt
theorem av(he:PE X e te):PS X (.Return (some e) pos) (vQ te):=by
 intro pins s σ H D I h;exact wpAny_Return_some (thn (he pins s σ H _ I h) λv s1 ⟨x,H1,I1,r1,q1⟩=>⟨x,σ,H1,I1,r1,q1⟩)
def yQ(c:TT)(t u:TS):TS:=λD σ H=>c σ H λb H1=>if b=true then t D σ H1 else u D σ H1
theorem bj{c:Expr}{a b:List Stmt}{tc:TT}(hc:PT X c tc)(ha:PSs X a t)(hb:PSs X b u):PS X (.If c a b pos) (yQ tc t u):=by
 intro pins s σ H D I h;refine wpAny_If (thn (hc pins s σ H _ I h) λd s1 hpt=>?_);obtain⟨H1,I1,q1⟩:=hpt;cases d with
 |true=>exact ha pins s1 σ H1 D I1 q1
 |false=>exact hb pins s1 σ H1 D I1 q1
def vR:TS:=λ_ _ _=>False
theorem qU:PS X st vR:=λ_ _ _ _ _ _ h=>h.elim
end
abbrev TG:=V→St→Hp→(St→Hp→Prop)→Prop
abbrev TGs:=List V→St→Hp→(St→Hp→Prop)→Prop
def PG(X:Cx)(target:Expr)(t:TG):Prop :=
 ∀(pins:List (Addr×Obj))(s:Shared)(σ:St)(H:Hp)(v:V)(u:Value)(Q:St→Hp→Prop),Inv X pins σ H s→aI v u→t v σ H Q →
  wpAny (model X.prog X.w) X.A (assign target X.env u) (λ_ s'=>∃σ' H',Inv X pins σ' H' s'∧Q σ' H') X.xe s
def PGs(X:Cx)(ts:List Expr)(t:TGs):Prop :=
 ∀(pins:List (Addr×Obj))(s:Shared)(σ:St)(H:Hp)(vs:List V)(us:List Value)(Q:St→Hp→Prop),Inv X pins σ H s→aB vs us→t vs σ H Q →
  wpAny (model X.prog X.w) X.A (assignInOrder ((assignEach ts X.env).map (·.2)) us) (λ_ s'=>∃σ' H',Inv X pins σ' H' s'∧Q σ' H') X.xe s
abbrev TIp:=V→V→Hp→VK→Prop
def PIp(X:Cx)(op:Operator)(t:TIp):Prop :=
 ∀(pins:List (Addr×Obj))(s:Shared)(σ:St)(H:Hp)(x y:V)(v u:Value)(Q:VK),Inv X pins σ H s→aI x v→aI y u→t x y H Q →
  wpAny (model X.prog X.w) X.A (inplaceOp op v u) (EP X pins σ Q) X.xe s
section
variable{X:Cx}{pos:Pos}
def aY(i:Nat):TG:=λv σ H Q=>Q (σ.set i (some v)) H
theorem aF{i:Nat}{x:Str}(hN:X.N.Nodup)(hi:X.N[i]?=some x)(hx:Loc X.env.scope x)(hf:X.fn x=true∨X.env.scope.names.lookup x=some .local:=by first|exact .inl rfl|exact .inr rfl|assumption):PG X (.Name x pos) (aY i):=by
 intro pins s σ H v u Q I r h;exact wpAny_assign_Name (iC I hN hi hx r (λs' I'=>⟨_,H,I',h⟩) hf)
def vS:TGs:=λvs σ H Q=>vs=[]∧Q σ H
def lE(t:TG)(u:TGs):TGs:=λvs σ H Q=>∃v r,vs=v::r∧t v σ H λσ' H'=>u r σ' H' Q
theorem tU:PGs X [] vS:=by
 intro pins s σ H vs us Q I r h;obtain⟨e,h⟩:=h;subst e;cases r;exact assignInOrder_nil ⟨σ,H,I,h⟩
theorem lF{e:Expr}{es:List Expr}{t:TG}{u:TGs}(h1:PG X e t)(h2:PGs X es u)(hs:(assignEach (e::es) X.env).map (·.2)=assign e X.env::(assignEach es X.env).map (·.2):=by rfl):PGs X (e::es) (lE t u):=by
 intro pins s σ H vs us Q I r h;obtain⟨v,vr,e1,h⟩:=h;subst e1;cases r with
 |cons r rr =>
  rw[hs];refine assignInOrder_cons (thn (h1 pins s σ H _ _ _ I r h) λ_ s1 hpt=>?_);obtain⟨σ1,H1,I1,q1⟩:=hpt;exact h2 pins s1 σ1 H1 _ _ Q I1 rr q1
def vT(K:PySem.W.Frag)(n:Nat)(t:TGs):TG:=λv σ H Q=>∃a xs,v=.ref a∧SqT K H a xs∧xs.length=n∧t xs σ H Q
theorem vU{es:List Expr}{k:Nat}{t:TGs}{n:Nat}(hc:X.calm=true)(h:PGs X es t)(hn:(assignEach es X.env).length=n:=by rfl)(hst:(assignEach es X.env).findIdx? (·.1)=none:=by rfl):PG X (.Tuple es k pos) (vT X.K n t):=by
 intro pins s σ H v u Q I r hw;obtain⟨a,xs,e1,hq,hl,hw⟩:=hw;subst e1;cases r;obtain⟨its,rv,ht,hz⟩:=I.tuple hq;refine assign_Tuple_tuple (I.ok.hd hc) ht (by simp[hn,←hl,rv.length]) hst λh' hx=>?_;have I1:Inv X pins σ H {s with heap:=h'}:=I.kept (t':=s.toks) λb o e=>hx b o (ne_of_lt (lt_size e)) e
 exact h pins _ σ H xs _ Q I1 (by simpa using rv) hw
def xU(te:TE)(g:TG):TS:=λD σ H=>te σ H λx H1=>g x σ H1 D.nx
theorem au{i:Nat}{x:Str}{e:Expr}{te:TE}{pos':Pos}(hN:X.N.Nodup)(hi:X.N[i]?=some x)(hx:Loc X.env.scope x)(he:PE X e te)(hs:swapsWith e (some (.Name x pos')) pos.line X.env=pure false:=by rfl)(hf:X.fn x=true∨X.env.scope.names.lookup x=some .local:=by first|exact .inl rfl|exact .inr rfl|assumption):
  PS X (.Assign [.Name x pos'] e pos) (xU te (aY i)):=by
 intro pins s σ H D I h;refine wpAny_Assign_Name (thn (he pins s σ H _ I h) λv s1 ⟨y,H1,I1,r1,q1⟩=>?_) hs;exact iC I1 hN hi hx r1 (λs2 I2=>⟨_,H1,I2,q1⟩) hf
def yR(i:Nat)(te:TE)(ti:TIp):TS:=λD σ H=>∃x,σ[i]?=some (some x)∧te σ H λy H1=>ti x y H1 λz H2=>D.nx (σ.set i (some z)) H2
theorem vV{i:Nat}{x:Str}{e:Expr}{te:TE}{op:Operator}{ti:TIp}{pos':Pos}(hN:X.N.Nodup)(hi:X.N[i]?=some x)(hx:Loc X.env.scope x)(he:PE X e te)(ho:PIp X op ti)(hf:X.fn x=true∨X.env.scope.names.lookup x=some .local:=by first|exact .inl rfl|exact .inr rfl|assumption):
  PS X (.AugAssign (.Name x pos') op e pos) (yR i te ti):=by
 intro pins s σ H D I h;obtain⟨v,e1,h⟩:=h;obtain⟨m,hn,hl⟩:=I.loc;have vis:Vis X.env.scope x:=by rcases hx with k|k;exact .inl k;exact .inr (.inl k)
 obtain⟨u,r,l⟩:=hl i x v hi e1 vis;refine wpAny_AugAssign_Name ?_;have go:wpAny (model X.prog X.w) X.A (eval e X.env) (λw s₂=>wpAny (model X.prog X.w) X.A (inplaceOp op u w) (λr s₃=>wpAny (model X.prog X.w) X.A (storeName X.env x r) (λ_=>SP X pins D .next) X.xe s₃) X.xe s₂) X.xe s:=by
  refine thn (he pins s σ H _ I h) λw s1 hpt=>?_;obtain⟨y,H1,I1,r1,q1⟩:=hpt;refine thn (ho pins s1 σ H1 v y u w _ I1 r r1 q1) λz s2 hpt=>?_;obtain⟨zv,H2,I2,r2,q2⟩:=hpt;exact iC I2 hN hi hx r2 (λs3 I3=>⟨_,H2,I3,q2⟩) hf
 rcases l with⟨hk,hm⟩|⟨hk,c,hc,hcell⟩
 ·exact wpAny_loadName_local I.ok.kind hk hn hm go
 ·rcases hk with hk|hk
  ·exact wpAny_loadName_cell I.ok.kind hk hc hcell go
  ·rcases hx with k|k
   ·have:X.env.scope.names.lookup x=some .free:=hk;rw[k]at this;cases this
   ·have:X.env.scope.names.lookup x=some .free:=hk;rw[k]at this;cases this
def qV(c:TT)(tb:TS):TS:=λD σ H=>∃W:Nat→St→Hp→Prop,(∃m,W m σ H)∧∀m σ H,W m σ H →
 c σ H λb H1=>if b=true then ∃N:St→Hp→Prop,(∀σ' H',N σ' H'→∃m',m'<m∧W m' σ' H')∧tb {D with nx:=N,ct:=N,bk:=D.nx} σ H1 else D.nx σ H1
theorem dZ{c:Expr}{body:List Stmt}{tc:TT}{tb:TS}(hp:PassesOwn (model X.prog X.w) X.A X.env X.xe)(hc:PT X c tc)(hb:PSs X body tb):PS X (.While c body [] pos) (qV tc tb):=by
 intro pins s σ H D I h;obtain⟨W,⟨m0,w0⟩,turn⟩:=h;refine wpAny_While (codeAny_whileLoop (λn s'=>∃σ' H',Inv X pins σ' H' s'∧W n σ' H') ?_ m0 ⟨σ,H,I,w0⟩);rintro n s1 ⟨σ1,H1,I1,w1⟩;refine wpAny_passesOwn hp (thn (hc pins s1 σ1 H1 _ I1 (turn n σ1 H1 w1)) λb s2 hpt=>?_);obtain⟨H2,I2,q2⟩:=hpt;cases b with
 |true =>
  obtain⟨N,hN,q2⟩:=q2;rw[if_pos rfl];refine wpAny_passesOwn hp (thn (hb pins s2 σ1 H2 _ I2 q2) λf s3 q3=>?_);cases f with
  |next =>
   obtain⟨σ3,H3,I3,n3⟩:=q3;obtain⟨m',hm,w3⟩:=hN σ3 H3 n3;exact⟨m',hm,σ3,H3,I3,w3⟩
  |cont =>
   obtain⟨σ3,H3,I3,n3⟩:=q3;obtain⟨m',hm,w3⟩:=hN σ3 H3 n3;exact⟨m',hm,σ3,H3,I3,w3⟩
  |brk=>exact q3
  |ret v=>exact q3
 |false =>
  rw[if_neg Bool.false_ne_true];exact wpAny_execs_nil ⟨σ1,H2,I2,q2⟩
end
structure It where
 go:Nat→Hp→Prop
 yld:Nat→Hp→V→Hp→Prop
 stop:Nat→Hp→Prop
def fk(X:Cx)(pins:List (Addr×Obj))(H:Hp)(b:Addr):Prop :=
 H b=none∧b≠X.env.locals∧b∉X.fs∧(b∈X.ex∨X.s₀.heap.objs.size≤b)∧(∀x c,X.env.cells.lookup x=some c→c≠b)∧∀p∈X.pn++pins,p.1≠b
theorem Inv.fpOk{X:Cx}{pins:List (Addr×Obj)}{σ:St}{H H':Hp}{s:Shared}{b:Addr}(I:Inv X pins σ H s)(hb:s.heap.objs.size≤b)(hn:H' b=none):fk X pins H' b:=by
 refine⟨hn,ne_of_gt (lt_of_lt_of_le I.lt hb),I.nofs hb,.inr (le_trans I.sz hb),λx c e z=>?_,λp hp z=>?_⟩
 ·obtain⟨v,q⟩:=I.cell x c e;exact absurd (lt_of_lt_of_le q.lt (by rw[z];exact hb)) (lt_irrefl _)
 ·exact absurd (lt_of_lt_of_le (lt_size (I.pin p hp).1) (by rw[z];exact hb)) (lt_irrefl _)
structure Turn(P:Program)(w:World)(K:PySem.W.Frag)(tg:Expr)(J:It)(fp:List Addr)(it:Addr)(tn:Nat→Heap→Prop):Prop where
 mem:it∈fp
 obj:∀i h,tn i h→∀b∈fp,∃o,h.get? b=some o∧∀v,o.data≠.cell v
 keep:∀i h h',tn i h→(∀b∈fp,∀o,h.get? b=some o→h'.get? b=some o)→tn i h'
 item:∀(X:Cx),X.prog=P→X.w=w→X.K=K→X.calm=true→∀(i:Nat)(pins:List (Addr×Obj))(s:Shared)(σ:St)(H:Hp)(E:Value→Shared→Prop),Inv X pins σ H s→(∀b∈fp,fk X pins H b)→tn i s.heap→J.go i H →
  wpAny (model P w) X.A (pyNext (.ref it)) (λr s1=>∃u,r=some u ∧
   wpAny (model P w) X.A (letOwnedTupleGo tg (.ref it) u) (λ_ s2=>∃x H',Inv X pins σ H' s2∧aI x u∧J.yld i H x H'∧tn (i+1) s2.heap∧∀b∈fp,H' b=none) E s1) E s
 done:∀(X:Cx),X.prog=P→X.w=w→X.K=K→X.calm=true→∀(i:Nat)(pins:List (Addr×Obj))(s:Shared)(σ:St)(H:Hp)(E:Value→Shared→Prop),Inv X pins σ H s→(∀b∈fp,fk X pins H b)→tn i s.heap→J.stop i H →
  wpAny (model P w) X.A (pyNext (.ref it)) (λr s1=>r=none∧Inv X pins σ H s1) E s
 self:∀(A:Around)(i:Nat)(s:Shared)(Q:Value→Shared→Prop)(E:Value→Shared→Prop),tn i s.heap→Q (.ref it) s→wpAny (model P w) A (pyIter (.ref it)) Q E s
abbrev TI:=St→Hp→(It→Hp→Prop)→Prop
def PIE(X:Cx)(pins:List (Addr×Obj))(σ:St)(tg:Expr)(R:It→Hp→Prop)(itv:Value)(s2:Shared):Prop :=
 ∃(it:Addr) (fp:List Addr) (tn:Nat→Heap→Prop) (J:It) (H':Hp),itv=.ref it∧Inv X pins σ H' s2∧Turn X.prog X.w X.K tg J fp it tn∧tn 0 s2.heap∧(∀b∈fp,fk X pins H' b)∧R J H'
def PI(X:Cx)(tg iter:Expr)(wi:TI):Prop :=
 ∀(pins:List (Addr×Obj))(s:Shared)(σ:St)(H:Hp)(R:It→Hp→Prop),Inv X pins σ H s→wi σ H R →
  wpAny (model X.prog X.w) X.A (eval iter X.env) (λv s1=>wpAny (model X.prog X.w) X.A (pyIter v) (PIE X pins σ tg R) X.xe s1) X.xe s
theorem lG{M:Model}{A:Around}{E:Value→Shared→Prop}{s:Shared}{tg:Expr}{it:Addr}{u:Value}{o:Obj}{n:String}{vs:Array Value}{Q:Unit→Shared→Prop}(ho:s.heap.get? it=some o)(hc:o.cls=.type n)(hd:o.data=.fields vs)(hn:["enumerate","zip","dict_itemiterator","dict_reverseitemiterator","odict_iterator","itertools.zip_longest","itertools.pairwise"].contains n=false)(hQ:Q () s):wpAny M A (letOwnedTupleGo tg (.ref it) u) Q E s:=by
 unfold letOwnedTupleGo;cases tg<;>first
  |exact wpAny_pure hQ
  | (cases u<;>first
    |exact wpAny_pure hQ
    | (refine wpAny_bind (wpAny_load ho ?_)
       rw[hc,hd];show wpAny M A (if (["enumerate","zip","dict_itemiterator","dict_reverseitemiterator","odict_iterator","itertools.zip_longest","itertools.pairwise"].contains n&&vs[0]?==some (rawInt _))=true then _ else _) Q E s
       rw[if_neg (by intro h;rw[hn,Bool.false_and]at h;cases h)];exact wpAny_pure hQ))
def Itl(K:PySem.W.Frag)(a:Addr):It :=
 ⟨λi H=>∃xs x,SqL K H a xs∧xs[i]?=some x,λi H x H'=>H'=H∧∀xs,SqL K H a xs→xs[i]?=some x,λi H=>∃xs,SqL K H a xs∧xs.length≤i⟩
def Itt(K:PySem.W.Frag)(a:Addr):It :=
 ⟨λi H=>∃xs x,SqT K H a xs∧xs[i]?=some x,λi H x H'=>H'=H∧∀xs,SqT K H a xs→xs[i]?=some x,λi H=>∃xs,SqT K H a xs∧xs.length≤i⟩
def Itr(lo:Int)(n:Nat):It:=⟨λi _=>i<n,λi H x H'=>H'=H∧x=.int (lo+i),λi _=>n≤i⟩
theorem qb{P:Program}{w:World}{K:PySem.W.Frag}{tg:Expr}(a it:Addr):Turn P w K tg (Itl K a) [it] it (λi h=>h.IsListIter it a i) where
 mem:=by simp
 obj:=λi h st b hb=>by
  have e:b=it:=by simpa using hb
  subst e;obtain⟨o,e,c,d⟩:=st;exact⟨o,e,λv z=>by rw[d]at z;cases z⟩
 keep:=λi h h' st k=>st.at λo e=>k it (by simp) o e
 item:=by
  intro X hP hw hK hc i pins s σ H E I hf st hg;subst hP hw hK;obtain⟨xs,x,hq,hx⟩:=hg;obtain⟨its,rv,p,hz⟩:=I.list hq;obtain⟨u,hu,ru⟩:=rv.get hx;obtain⟨f0,f1,f2,f3,f4,f5⟩:=hf it (by simp);refine wpAny_pyNext_list_item st p.isList (x:=u) (by simpa using hu) λh' st' sb=>?_;have I1:Inv X pins σ H {s with heap:=h'}:=I.turned (t':=s.toks) (λb o hb e=>(sb.2 b hb).trans e) f0 f1 f3 f4 f5
  obtain⟨o,e,c,d⟩:=id st';exact⟨u,rfl,lG (s:={s with heap:=h'}) e c d (by decide) ⟨x,H,I1,ru,⟨rfl,λys hy=>by rw[I.list_inj hy hq];exact hx⟩,st',λb hb=>(hf b hb).1⟩⟩
 done:=by
  intro X hP hw hK hc i pins s σ H E I hf st hg;subst hP hw hK;obtain⟨xs,hq,hx⟩:=hg;obtain⟨its,rv,p,hz⟩:=I.list hq;obtain⟨f0,f1,f2,f3,f4,f5⟩:=hf it (by simp);have hl:=rv.length;exact wpAny_pyNext_list_end (I.ok.hd hc) st p.isList (by simp;omega) λh' eb=>⟨rfl,I.turned (t':=s.toks) (λb o hb e=>eb b o hb e) f0 f1 f3 f4 f5⟩
 self:=λ_ _ _ _ _ st h=>wpAny_pyIter_listiter st h
theorem nJ{P:Program}{w:World}{K:PySem.W.Frag}{tg:Expr}(a it:Addr):Turn P w K tg (Itt K a) [it] it (λi h=>h.IsTupleIter it a i) where
 mem:=by simp
 obj:=λi h st b hb=>by
  have e:b=it:=by simpa using hb
  subst e;obtain⟨o,e,c,d⟩:=st;exact⟨o,e,λv z=>by rw[d]at z;cases z⟩
 keep:=λi h h' st k=>st.at λo e=>k it (by simp) o e
 item:=by
  intro X hP hw hK hc i pins s σ H E I hf st hg;subst hP hw hK;obtain⟨xs,x,hq,hx⟩:=hg;obtain⟨its,rv,p,hz⟩:=I.tuple hq;obtain⟨u,hu,ru⟩:=rv.get hx;obtain⟨f0,f1,f2,f3,f4,f5⟩:=hf it (by simp);refine wpAny_pyNext_tuple_item st (show s.heap.IsTuple a its.toArray from p) (x:=u) (by simpa using hu) λh' st' sb=>?_;have I1:Inv X pins σ H {s with heap:=h'}:=I.turned (t':=s.toks) (λb o hb e=>(sb.2 b hb).trans e) f0 f1 f3 f4 f5
  obtain⟨o,e,c,d⟩:=id st';exact⟨u,rfl,lG (s:={s with heap:=h'}) e c d (by decide) ⟨x,H,I1,ru,⟨rfl,λys hy=>by rw[I.tuple_inj hy hq];exact hx⟩,st',λb hb=>(hf b hb).1⟩⟩
 done:=by
  intro X hP hw hK hc i pins s σ H E I hf st hg;subst hP hw hK;obtain⟨xs,hq,hx⟩:=hg;obtain⟨its,rv,p,hz⟩:=I.tuple hq;obtain⟨f0,f1,f2,f3,f4,f5⟩:=hf it (by simp);have hl:=rv.length;exact wpAny_pyNext_tuple_end (I.ok.hd hc) st (show s.heap.IsTuple a its.toArray from p) (by simp;omega) λh' eb=>⟨rfl,I.turned (t':=s.toks) (λb o hb e=>eb b o hb e) f0 f1 f3 f4 f5⟩
 self:=λ_ _ _ _ _ st h=>wpAny_pyIter_tupleiter st h
theorem nK{P:Program}{w:World}{K:PySem.W.Frag}{tg:Expr}(it:Addr)(lo:Int)(n:Nat):Turn P w K tg (Itr lo n) [it] it (λi h=>IsRangeIter h it (lo+(i:Nat)*1) ((n:Int)-(i:Nat)) 1) where
 mem:=by simp
 obj:=λi h st b hb=>by
  have e:b=it:=by simpa using hb
  subst e;exact⟨_,st,λv z=>by
   have z':Data.fields _=Data.cell v:=z;cases z'⟩
 keep:=λi h h' st k=>k it (by simp) _ st
 item:=by
  intro X hP hw hK hc i pins s σ H E I hf st hg;subst hP hw hK;obtain⟨f0,f1,f2,f3,f4,f5⟩:=hf it (by simp);have W:=Walks.range (prog:=X.prog) (w:=X.w) (I.ok.hd hc) it lo 1 n;refine W.item i s _ _ hg st λv h' tk hv st' kk=>?_;obtain⟨t,rfl⟩:=hv;have I1:Inv X pins σ H {s with heap:=h',toks:=tk}:=I.turned (λb o hb e=>kk b o (by simpa using hb) e) f0 f1 f3 f4 f5
  refine⟨_,rfl,lG (s:={s with heap:=h',toks:=tk}) (n:="range_iterator") st' rfl rfl (by decide) ⟨.int (lo+i),H,I1,⟨t,?_⟩,⟨rfl,rfl⟩,st',λb hb=>(hf b hb).1⟩⟩;rw[Int.mul_one]
 done:=by
  intro X hP hw hK hc i pins s σ H E I hf st hg;subst hP hw hK;obtain⟨f0,f1,f2,f3,f4,f5⟩:=hf it (by simp);exact wpAny_pyNext_range_end (I.ok.hd hc) st (by have:n≤i:=hg;omega) λh' eb=>⟨rfl,I.turned (t':=s.toks) (λb o hb e=>eb b o hb e) f0 f1 f3 f4 f5⟩
 self:=λ_ _ _ _ _ st h=>wpAny_pyIter_rangeiter st h
section
variable{X:Cx}{tg:Expr}
def xV(K:PySem.W.Frag)(tl:TE):TI:=λσ H R=>tl σ H λx H1=>∃a,x=.ref a∧(∃xs,SqL K H1 a xs)∧R (Itl K a) H1
def yS(K:PySem.W.Frag)(tl:TE):TI:=λσ H R=>tl σ H λx H1=>∃a,x=.ref a∧(∃xs,SqT K H1 a xs)∧R (Itt K a) H1
theorem cI{l:Expr}{tl:TE}(hl:PE X l tl):PI X tg l (xV X.K tl):=by
 intro pins s σ H R I h;refine thn (hl pins s σ H _ I h) λv s1 hpt=>?_;obtain⟨x,H1,I1,r1,q1⟩:=hpt;obtain⟨a,e,⟨xs,hq⟩,q⟩:=q1;subst e;cases r1;obtain⟨its,rv,p,hz⟩:=I1.list hq;refine wpAny_pyIter_list p.isList ?_;refine⟨s1.heap.objs.size,[s1.heap.objs.size],_,_,H1,rfl,I1.kept (t':=s1.toks) λb o e=>get?_push_of_some _ e,qb a _,⟨_,get?_push_size _ rfl,rfl,rfl⟩,λb hb=>?_,q⟩;have e:b=s1.heap.objs.size:=by simpa using hb
 subst e;exact I1.fpOk (le_refl _) (I1.hok.fresh (le_refl _))
theorem cq{l:Expr}{tl:TE}(hl:PE X l tl):PI X tg l (yS X.K tl):=by
 intro pins s σ H R I h;refine thn (hl pins s σ H _ I h) λv s1 hpt=>?_;obtain⟨x,H1,I1,r1,q1⟩:=hpt;obtain⟨a,e,⟨xs,hq⟩,q⟩:=q1;subst e;cases r1;obtain⟨its,rv,p,hz⟩:=I1.tuple hq;refine wpAny_pyIter_tuple (show s1.heap.IsTuple a its.toArray from p) ?_;refine⟨s1.heap.objs.size,[s1.heap.objs.size],_,_,H1,rfl,I1.kept (t':=s1.toks) λb o e=>get?_push_of_some _ e,nJ a _,⟨_,get?_push_size _ rfl,rfl,rfl⟩,λb hb=>?_,q⟩;have e:b=s1.heap.objs.size:=by simpa using hb
 subst e;exact I1.fpOk (le_refl _) (I1.hok.fresh (le_refl _))
theorem qW{pins:List (Addr×Obj)}{σ:St}{H:Hp}{s:Shared}{R:It→Hp→Prop}{E:Value→Shared→Prop}{lo hi:Int}{t u v:Tok}{tk:Nat}(I:Inv X pins σ H s)(h1:-(2 ^ 62)≤lo)(h2:lo<2 ^ 62)(h3:-(2 ^ 62)≤hi)(h4:hi<2 ^ 62)(q:R (Itr lo (hi-lo).toNat) H):wpAny (model X.prog X.w) X.A (pyIter (.ref s.heap.objs.size)) (PIE X pins σ tg R) E {s with heap:=s.heap.push {cls:=.type "range",data:=.fields #[.int lo t,.int hi u,.int 1 v]},toks:=tk}:=by
 refine wpAny_pyIter_range (IsRange.new ..) (small_one h1 h2 h3 h4) ?_;have I1:Inv X pins σ H {s with heap:=s.heap.push {cls:=.type "range",data:=.fields #[.int lo t,.int hi u,.int 1 v]},toks:=tk}:=I.kept λb o e=>get?_push_of_some _ e
 refine⟨(s.heap.push {cls:=.type "range",data:=.fields #[.int lo t,.int hi u,.int 1 v]}).objs.size,[(s.heap.push {cls:=.type "range",data:=.fields #[.int lo t,.int hi u,.int 1 v]}).objs.size],_,_,H,rfl,
  I1.kept (t':=tk) λb o e=>get?_push_of_some _ e,nK _ lo (hi-lo).toNat,?_,λb hb=>?_,q⟩
 ·have e1:lo+((0:Nat):Int)*1=lo:=by simp
  have e2:(((hi-lo).toNat:Nat):Int)-((0:Nat):Int)=Builtin.Range.rangeSize lo hi 1:=by rw[rangeSize_one];split<;>omega
  show IsRangeIter _ _ (lo+((0:Nat):Int)*1) ((((hi-lo).toNat:Nat):Int)-((0:Nat):Int)) 1;rw[e1,e2];exact get?_push_size _ rfl
 ·have e:b=(s.heap.push {cls:=.type "range",data:=.fields #[.int lo t,.int hi u,.int 1 v]}).objs.size:=by simpa using hb
  subst e;exact I1.fpOk (le_refl _) (I1.hok.fresh (le_refl _))
def xW(ta:TA):TI:=λσ H R=>ta σ H λvs H1=>∃j:Int,vs=[.int j]∧-(2 ^ 62)≤j∧j<2 ^ 62∧R (Itr 0 j.toNat) H1
theorem gS{a:Expr}{ta:TA}{p pos:Pos}(hg:Gl X "range")(hm:X.mg "range"=none)(ha:PA X [a] ta)(hs:starEach [a] X.env=[(false,eval a X.env)]:=by rfl):PI X tg (.Call (.Name "range" p) [a] [] pos) (xW ta):=by
 intro pins s σ H R I h;refine Call_ (iD I hg hm boot_range (PyProof.Rows.callWith_type1 (thn (ha pos pins s σ H _ I h) λus s1 ⟨vs,H1,I1,r1,q1⟩=>?_) hs rfl));obtain⟨j,e,q1,q2,q⟩:=q1;subst e;cases r1 with
 |cons r rr =>
  cases rr;obtain⟨t,rfl⟩:=r;exact call_range_1 (qW I1 (by omega) (by omega) q1 q2 (by simpa using q))
def yT(wi:TI)(g:TG)(tb:TS):TS:=λD σ H=>wi σ H λJ H1=>∃W:Nat→Nat→St→Hp→Prop,(∃m,W 0 m σ H1)∧∀i m σ H,W i m σ H →
 (J.stop i H∧D.nx σ H)∨(J.go i H∧∃N:St→Hp→Prop,(∀σ' H',N σ' H'→∃m',m'<m∧W (i+1) m' σ' H')∧∀x H',J.yld i H x H'→g x σ H' λσ2 H2=>tb {D with nx:=N,ct:=N,bk:=D.nx} σ2 H2)
def ki(fp:List Addr)(h:Heap):List (Addr×Obj):=fp.filterMap λb=>(h.get? b).map λo=>(b,o)
theorem bn{fp:List Addr}{h:Heap}{b:Addr}{o:Obj}(hb:b∈fp)(e:h.get? b=some o):(b,o)∈ki fp h:=mem_filterMap.mpr ⟨b,hb,by rw[e];rfl⟩
theorem qc{fp:List Addr}{h:Heap}{p:Addr×Obj}(hp:p∈ki fp h):p.1∈fp∧h.get? p.1=some p.2:=by
 obtain⟨b,hb,e⟩:=mem_filterMap.mp hp;cases q:h.get? b with
 |none=>rw[q]at e;cases e
 |some o =>
  rw[q]at e;have e':(b,o)=p:=Option.some.inj e;subst e';exact⟨hb,q⟩
theorem Inv.pinned{pins:List (Addr×Obj)}{σ:St}{H:Hp}{s:Shared}{fp:List Addr}(I:Inv X pins σ H s)(hf:∀b∈fp,fk X pins H b)(ho:∀b∈fp,∃o,s.heap.get? b=some o∧∀v,o.data≠.cell v):Inv X (pins++ki fp s.heap) σ H s :=
 I.pins_of λp hp=>(mem_append.mp hp).elim (λz=>I.pin p (mem_append_right _ z)) λz=>by
  obtain⟨hb,e⟩:=qc z;obtain⟨f0,f1,f2,_⟩:=hf p.1 hb;obtain⟨o,e',d⟩:=ho p.1 hb;rw[e]at e';cases e';exact⟨e,f0,f1,f2,d⟩
theorem Inv.unpinned{pins pl:List (Addr×Obj)}{σ:St}{H:Hp}{s:Shared}(I:Inv X (pins++pl) σ H s):Inv X pins σ H s:=I.pins_of λp hp=>I.pin p (mem_append_right _ (mem_append_left _ hp))
theorem cD{iter:Expr}{body:List Stmt}{wi:TI}{g:TG}{tb:TS}{pos:Pos}(hp:PassesOwn (model X.prog X.w) X.A X.env X.xe)(hc:X.calm=true)(hi:PI X tg iter wi)(hg:PG X tg g)(hb:PSs X body tb)(hs:∀x,foldedSetIterable iter X.env x=pure x:=by intro _;rfl):PS X (.For tg iter body [] pos) (yT wi g tb):=by
 intro pins s σ H D I h;refine wpAny_For (thn (hi pins s σ H _ I h) λv s1 h1=>thn h1 λitv s2 h2=>?_) hs;obtain⟨it,fp,tn,J,H2,e,I2,T,st2,f2,W,⟨m0,w0⟩,turn⟩:=h2;subst e;have stat:∀{H':Hp},(∀b∈fp,H' b=none)→∀b∈fp,fk X pins H' b:=λhn b hb=>⟨hn b hb,(f2 b hb).2⟩;refine codeAny_forLoop_any (λn s'=>∃i σ' H',Inv X pins σ' H' s'∧tn i s'.heap∧(∀b∈fp,H' b=none)∧W i n σ' H') ?_ m0 ⟨0,σ,H2,I2,st2,λb hb=>(f2 b hb).1,w0⟩;rintro n s3 ⟨i,σ3,H3,I3,st3,fr3,w3⟩;rcases turn i n σ3 H3 w3 with⟨stop,qn⟩|⟨go,N,hN,step⟩
 ·refine wpAny_passesOwn hp (thn (T.done X rfl rfl rfl hc i pins s3 σ3 H3 X.xe I3 (stat fr3) st3 stop) λr s4 hpt=>?_);obtain⟨hr,I4⟩:=hpt;subst hr;exact wpAny_execs_nil ⟨σ3,H3,I4,qn⟩
 ·refine wpAny_passesOwn hp (thn (T.item X rfl rfl rfl hc i pins s3 σ3 H3 X.xe I3 (stat fr3) st3 go) λr s4 hpt=>?_);obtain⟨u,hr,h4⟩:=hpt;subst hr;refine wpAny_passesOwn hp (thn h4 λ_ s5 hpt=>?_);obtain⟨x,H5,I5,r5,y5,st5,fr5⟩:=hpt;have I5':=I5.pinned (stat fr5) (T.obj _ _ st5);refine wpAny_passesOwn hp (thn (hg _ s5 σ3 H5 x u _ I5' r5 (step x H5 y5)) λ_ s6 hpt=>?_);obtain⟨σ6,H6,I6,q6⟩:=hpt;refine wpAny_passesOwn hp (thn (hb _ s6 σ6 H6 _ I6 q6) λf s7 q7=>?_);have again:∀{σ7:St}{H7:Hp},Inv X (pins++ki fp s5.heap) σ7 H7 s7→N σ7 H7→∃m,m<n∧∃i σ' H',Inv X pins σ' H' s7∧tn i s7.heap∧(∀b∈fp,H' b=none)∧W i m σ' H':=λ{σ7 H7} I7 n7=>by
   obtain⟨m',hm,w7⟩:=hN σ7 H7 n7;refine⟨m',hm,i+1,σ7,H7,I7.unpinned,T.keep _ _ _ st5 λb hb o e=>(I7.pin (b,o) (mem_append_right _ (mem_append_right _ (bn hb e)))).1,λb hb=>?_,w7⟩;obtain⟨o,e,d⟩:=T.obj _ _ st5 b hb;exact(I7.pin (b,o) (mem_append_right _ (mem_append_right _ (bn hb e)))).2.1
  cases f with
  |next=>obtain⟨σ7,H7,I7,n7⟩:=q7;exact again I7 n7
  |cont=>obtain⟨σ7,H7,I7,n7⟩:=q7;exact again I7 n7
  |brk=>obtain⟨σ7,H7,I7,q7⟩:=q7;exact⟨σ7,H7,I7.unpinned,q7⟩
  |ret v=>obtain⟨x7,σ7,H7,I7,r7,q7⟩:=q7;exact⟨x7,σ7,H7,I7.unpinned,r7,q7⟩
end
theorem du{K:PySem.W.Frag}{a:Addr}{xs:List V}{g:TG}{tb:TS}{D:Ends}{σ:St}{H:Hp}(Pv:Nat→St→Hp→Prop)(h0:Pv 0 σ H)(hl:∀i σ H,i≤xs.length→Pv i σ H→SqL K H a xs)(hs:∀i x σ H,xs[i]?=some x→Pv i σ H→g x σ H λσ2 H2=>tb {D with nx:=Pv (i+1),ct:=Pv (i+1),bk:=D.nx} σ2 H2)(hd:∀σ H,Pv xs.length σ H→D.nx σ H):
  ∃W:Nat→Nat→St→Hp→Prop,(∃m,W 0 m σ H)∧∀i m σ H,W i m σ H →
   ((Itl K a).stop i H∧D.nx σ H)∨((Itl K a).go i H∧∃N:St→Hp→Prop,(∀σ' H',N σ' H'→∃m',m'<m∧W (i+1) m' σ' H')∧∀x H',(Itl K a).yld i H x H'→g x σ H' λσ2 H2=>tb {D with nx:=N,ct:=N,bk:=D.nx} σ2 H2):=by
 refine⟨λi m σ H=>m=xs.length-i∧i≤xs.length∧Pv i σ H,⟨xs.length,by simp,zero_le _,h0⟩,?_⟩;rintro i m σ H ⟨rfl,hi,p⟩;have q:=hl i σ H hi p
 by_cases hlt:i<xs.length
 ·refine .inr ⟨⟨xs,xs[i],q,by simp[hlt]⟩,Pv (i+1),λσ' H' p'=>⟨xs.length-(i+1),by omega,rfl,hlt,p'⟩,λx H' y=>?_⟩;obtain⟨e,y⟩:=y;subst e;exact hs i x σ _ (y xs q) p
 ·have e:i=xs.length:=by omega
  subst e;exact .inl ⟨⟨xs,q,le_refl _⟩,hd σ H p⟩
theorem gn{K:PySem.W.Frag}{a:Addr}{xs:List V}{g:TG}{tb:TS}{D:Ends}{σ:St}{H:Hp}(Pv:Nat→St→Hp→Prop)(h0:Pv 0 σ H)(hl:∀i σ H,i≤xs.length→Pv i σ H→SqT K H a xs)(hs:∀i x σ H,xs[i]?=some x→Pv i σ H→g x σ H λσ2 H2=>tb {D with nx:=Pv (i+1),ct:=Pv (i+1),bk:=D.nx} σ2 H2)(hd:∀σ H,Pv xs.length σ H→D.nx σ H):
  ∃W:Nat→Nat→St→Hp→Prop,(∃m,W 0 m σ H)∧∀i m σ H,W i m σ H →
   ((Itt K a).stop i H∧D.nx σ H)∨((Itt K a).go i H∧∃N:St→Hp→Prop,(∀σ' H',N σ' H'→∃m',m'<m∧W (i+1) m' σ' H')∧∀x H',(Itt K a).yld i H x H'→g x σ H' λσ2 H2=>tb {D with nx:=N,ct:=N,bk:=D.nx} σ2 H2):=by
 refine⟨λi m σ H=>m=xs.length-i∧i≤xs.length∧Pv i σ H,⟨xs.length,by simp,zero_le _,h0⟩,?_⟩;rintro i m σ H ⟨rfl,hi,p⟩;have q:=hl i σ H hi p
 by_cases hlt:i<xs.length
 ·refine .inr ⟨⟨xs,xs[i],q,by simp[hlt]⟩,Pv (i+1),λσ' H' p'=>⟨xs.length-(i+1),by omega,rfl,hlt,p'⟩,λx H' y=>?_⟩;obtain⟨e,y⟩:=y;subst e;exact hs i x σ _ (y xs q) p
 ·have e:i=xs.length:=by omega
  subst e;exact .inl ⟨⟨xs,q,le_refl _⟩,hd σ H p⟩
theorem qd{lo:Int}{n:Nat}{g:TG}{tb:TS}{D:Ends}{σ:St}{H:Hp}(Pv:Nat→St→Hp→Prop)(h0:Pv 0 σ H)(hs:∀i σ H,i<n→Pv i σ H→g (.int (lo+i)) σ H λσ2 H2=>tb {D with nx:=Pv (i+1),ct:=Pv (i+1),bk:=D.nx} σ2 H2)(hd:∀σ H,Pv n σ H→D.nx σ H):
  ∃W:Nat→Nat→St→Hp→Prop,(∃m,W 0 m σ H)∧∀i m σ H,W i m σ H →
   ((Itr lo n).stop i H∧D.nx σ H)∨((Itr lo n).go i H∧∃N:St→Hp→Prop,(∀σ' H',N σ' H'→∃m',m'<m∧W (i+1) m' σ' H')∧∀x H',(Itr lo n).yld i H x H'→g x σ H' λσ2 H2=>tb {D with nx:=N,ct:=N,bk:=D.nx} σ2 H2):=by
 refine⟨λi m σ H=>m=n-i∧i≤n∧Pv i σ H,⟨n,by simp,zero_le _,h0⟩,?_⟩;rintro i m σ H ⟨rfl,hi,p⟩
 by_cases hlt:i<n
 ·refine .inr ⟨hlt,Pv (i+1),λσ' H' p'=>⟨n-(i+1),by omega,rfl,hlt,p'⟩,λx H' y=>?_⟩;obtain⟨e,y⟩:=y;subst e y;exact hs i σ _ hlt p
 ·have e:i=n:=by omega
  subst e;exact .inl ⟨le_refl _,hd σ H p⟩
theorem gp{c:TT}{tb:TS}{D:Ends}{σ:St}{H:Hp}(Pv:St→Hp→Prop)(μ:St→Hp→Nat)(h0:Pv σ H)(hs:∀σ H,Pv σ H→c σ H λb H1=>if b=true then tb {D with nx:=λσ' H'=>Pv σ' H'∧μ σ' H'<μ σ H,ct:=λσ' H'=>Pv σ' H'∧μ σ' H'<μ σ H,bk:=D.nx} σ H1 else D.nx σ H1)(mono:∀σ H Q Q',(∀b H1,Q b H1→Q' b H1)→c σ H Q→c σ H Q'):qV c tb D σ H:=by
 refine⟨λm σ H=>m=μ σ H∧Pv σ H,⟨_,rfl,h0⟩,?_⟩;rintro m σ H ⟨rfl,p⟩;refine mono σ H _ _ (λb H1 q=>?_) (hs σ H p);cases b with
 |true=>exact⟨_,λσ' H' ⟨p',l⟩=>⟨_,l,rfl,p'⟩,q⟩
 |false=>exact q
abbrev R2:=V→V→Hp→VK→Prop
def OpR(X:Cx)(f:Value→Value→Sem Value)(r:R2):Prop :=
 ∀(pins:List (Addr×Obj))(s:Shared)(σ:St)(H:Hp)(x y:V)(v u:Value)(Q:VK),Inv X pins σ H s→aI x v→aI y u→r x y H Q →
  wpAny (model X.prog X.w) X.A (f v u) (EP X pins σ Q) X.xe s
def UnR(X:Cx)(f:Value→Sem Value)(r:V→Hp→VK→Prop):Prop :=
 ∀(pins:List (Addr×Obj))(s:Shared)(σ:St)(H:Hp)(x:V)(v:Value)(Q:VK),Inv X pins σ H s→aI x v→r x H Q →
  wpAny (model X.prog X.w) X.A (f v) (EP X pins σ Q) X.xe s
def cn(X:Cx)(f:Value)(r:List V→Hp→VK→Prop):Prop :=
 ∀(pins:List (Addr×Obj))(s:Shared)(σ:St)(H:Hp)(xs:List V)(us:List Value)(Q:VK),Inv X pins σ H s→aB xs us→r xs H Q →
  wpAny (model X.prog X.w) X.A (call f us) (EP X pins σ Q) X.xe s
def yU(X:Cx)(r:V→Hp→(Bool→Hp→Prop)→Prop):Prop :=
 ∀(pins:List (Addr×Obj))(s:Shared)(σ:St)(H:Hp)(x:V)(v:Value)(Q:Bool→Hp→Prop),Inv X pins σ H s→aI x v→r x H Q →
  wpAny (model X.prog X.w) X.A (truthy v) (TP X pins σ Q) X.xe s
def tOp(r:R2)(ta tb:TE):TE:=λσ H Q=>ta σ H λx H1=>tb σ H1 λy H2=>r x y H2 Q
def tUn(r:V→Hp→VK→Prop)(ta:TE):TE:=λσ H Q=>ta σ H λx H1=>r x H1 Q
def rI(C:Int→Int→Prop)(g:Int→Int→V):R2:=λx y H Q=>∃i j,x=.int i∧y=.int j∧C i j∧Q (g i j) H
def rI0(g:Int→Int→V):R2:=λx y H Q=>∃i j,x=.int i∧y=.int j∧Q (g i j) H
def rU(g:Int→V):V→Hp→VK→Prop:=λx H Q=>∃i,x=.int i∧Q (g i) H
section
variable{X:Cx}{a b c:Expr}{ta tb tc:TE}{pos:Pos}
theorem vW(ha:PE X a ta)(hb:PE X b tb){pins:List (Addr×Obj)}{s:Shared}{σ:St}{H:Hp}{R:V→V→Hp→Prop}(I:Inv X pins σ H s)(h:ta σ H λx H1=>tb σ H1 λy H2=>R x y H2){Q:Value→Shared→Prop}{f:Value→Value→Sem Value}(hf:∀v u s2 x y H2,Inv X pins σ H2 s2→aI x v→aI y u→R x y H2→wpAny (model X.prog X.w) X.A (f v u) Q X.xe s2):
  wpAny (model X.prog X.w) X.A (eval a X.env) (λv s₁=>wpAny (model X.prog X.w) X.A (eval b X.env) (λu s₂=>wpAny (model X.prog X.w) X.A (f v u) Q X.xe s₂) X.xe s₁) X.xe s:=by
 refine thn (ha pins s σ H _ I h) λv s1 hpt=>?_;obtain⟨x,H1,I1,r1,q1⟩:=hpt;refine thn (hb pins s1 σ H1 _ I1 q1) λu s2 hpt=>?_;obtain⟨y,H2,I2,r2,q2⟩:=hpt;exact hf v u s2 x y H2 I2 r1 r2 q2
theorem aK{op:Operator}{r:R2}(ho:OpR X (binaryOp op) r)(ha:PE X a ta)(hb:PE X b tb):PE X (.BinOp a op b pos) (tOp r ta tb):=by
 intro pins s σ H Q I h;exact wpAny_BinOp (vW ha hb I h λv u s2 x y H2 I2 rx ry q=>ho pins s2 σ H2 x y v u Q I2 rx ry q)
theorem xX{op:UnaryOp}{r:V→Hp→VK→Prop}(ho:UnR X (unaryOp op) r)(ha:PE X a ta):PE X (.UnaryOp op a pos) (tUn r ta):=by
 intro pins s σ H Q I h;exact UnaryOp_ (thn (ha pins s σ H _ I h) λv s1 ⟨x,H1,I1,r1,q1⟩=>ho pins s1 σ H1 x v Q I1 r1 q1)
theorem opI{f:Value→Value→Sem Value}{C:Int→Int→Prop}{g:Int→Int→Int}(rule:∀(i j:Int) (t u:Tok) (s:Shared) (Q:Value→Shared→Prop) (E:Value→Shared→Prop),C i j→Q (.int (g i j) s.toks) {s with toks:=s.toks+1}→wpAny (model X.prog X.w) X.A (f (.int i t) (.int j u)) Q E s):
  OpR X f (rI C λi j=>.int (g i j)):=by
 intro pins s σ H x y v u Q I rx ry h;obtain⟨i,j,rfl,rfl,hc,q⟩:=h;obtain⟨t,rfl⟩:=rx;obtain⟨t',rfl⟩:=ry;exact rule i j t t' s _ _ hc ⟨.int (g i j),H,I.tok _,⟨_,rfl⟩,q⟩
theorem vX{f:Value→Value→Sem Value}{g:Int→Int→Int}(rule:∀(i j:Int) (t u:Tok) (s:Shared) (Q:Value→Shared→Prop) (E:Value→Shared→Prop),Q (.int (g i j) s.toks) {s with toks:=s.toks+1}→wpAny (model X.prog X.w) X.A (f (.int i t) (.int j u)) Q E s):
  OpR X f (rI0 λi j=>.int (g i j)):=by
 intro pins s σ H x y v u Q I rx ry h;obtain⟨i,j,rfl,rfl,q⟩:=h;obtain⟨t,rfl⟩:=rx;obtain⟨t',rfl⟩:=ry;exact rule i j t t' s _ _ ⟨.int (g i j),H,I.tok _,⟨_,rfl⟩,q⟩
theorem vY{f:Value→Value→Sem Value}{g:Int→Int→Bool}(rule:∀(i j:Int) (t u:Tok) (s:Shared) (Q:Value→Shared→Prop) (E:Value→Shared→Prop),Q (.bool (g i j)) s→wpAny (model X.prog X.w) X.A (f (.int i t) (.int j u)) Q E s):
  OpR X f (rI0 λi j=>.bl (g i j)):=by
 intro pins s σ H x y v u Q I rx ry h;obtain⟨i,j,rfl,rfl,q⟩:=h;obtain⟨t,rfl⟩:=rx;obtain⟨t',rfl⟩:=ry;exact rule i j t t' s _ _ ⟨.bl (g i j),H,I,rfl,q⟩
def yV(i j:Int):Prop:=0<j∧j<1073741824
def vZ(i j:Int):Prop:=(-(2 ^ 64)<i∧i<2 ^ 64)∨(-(2 ^ 64)<j∧j<2 ^ 64)
theorem vZ.ok{i j:Int}(h:vZ i j):IntMulOk i j:=by
 rcases h with⟨h1,h2⟩|⟨h1,h2⟩
 ·exact .of_left (intBits_le_64 h1 h2)
 ·exact .of_right (intBits_le_64 h1 h2)
theorem cf:OpR X (binaryOp .Add) (rI0 λi j=>.int (i+j)):=vX λ_ _ _ _ _ _ _ q=>add_int q
theorem kj:OpR X (binaryOp .Sub) (rI0 λi j=>.int (i-j)):=vX λ_ _ _ _ _ _ _ q=>sub_int q
theorem kl:OpR X (binaryOp .Mult) (rI vZ λi j=>.int (i*j)):=opI λ_ _ _ _ _ _ _ hc q=>mul_int q hc.ok
theorem oP:OpR X (binaryOp .FloorDiv) (rI yV λi j=>.int (i / j)):=opI λi j _ _ _ _ _ hc q=>by
 have h1:(0:Int)<j:=hc.1;have h2:j<1073741824:=hc.2;exact floordiv_int (by omega) (by rw[Int.fdiv_eq_ediv_of_nonneg i (by omega)];exact q) (.inl (PyProof.noPylong_small (by omega)))
theorem fm:OpR X (binaryOp .Mod) (rI (λ_ j=>0<j) λi j=>.int (i % j)):=opI λi j _ _ _ _ _ hc q=>by
 have h1:(0:Int)<j:=hc;exact mod_int' (by omega) (by rw[Int.fmod_eq_emod_of_nonneg i (by omega)];exact q)
theorem tV:OpR X (inplaceOp .Add) (rI0 λi j=>.int (i+j)):=vX λ_ _ _ _ _ _ _ q=>iadd_int q
theorem unI{f:Value→Sem Value}{g:Int→Int}(rule:∀(i:Int) (t:Tok) (s:Shared) (Q:Value→Shared→Prop) (E:Value→Shared→Prop),Q (.int (g i) s.toks) {s with toks:=s.toks+1}→wpAny (model X.prog X.w) X.A (f (.int i t)) Q E s):
  UnR X f (rU λi=>.int (g i)):=by
 intro pins s σ H x v Q I rx h;obtain⟨i,rfl,q⟩:=h;obtain⟨t,rfl⟩:=rx;exact rule i t s _ _ ⟨.int (g i),H,I.tok _,⟨_,rfl⟩,q⟩
theorem wb:UnR X (unaryOp .USub) (rU λi=>.int (-i)):=unI λ_ _ _ _ _ q=>neg_int q
end
def wc:V→V→Bool
 |.non,.non=>true | .non,.int _=>true | .int _,.non=>true | .non,.bl _=>true | .bl _,.non=>true | .non,.str _=>true | .str _,.non=>true
 |.int _,.int _=>true | .bl _,.bl _=>true | .str _,.str _=>true | .byt _,.byt _=>true
 |.int _,.str _=>true | .str _,.int _=>true | .bl _,.str _=>true | .str _,.bl _=>true
 |_,_=>false
def rEq:R2:=λx y H Q=>wc x y=true∧Q (.bl (decide (x=y))) H
def rNe:R2:=λx y H Q=>wc x y=true∧Q (.bl (!decide (x=y))) H
theorem km{i j:Int}:decide (V.int i=V.int j)=(i==j):=by
 rw[Bool.eq_iff_iff];simp
theorem qX{i j:Bool}:decide (V.bl i=V.bl j)=(i==j):=by
 rw[Bool.eq_iff_iff];simp
theorem oQ{i j:Str}:decide (V.str i=V.str j)=(i==j):=by
 rw[Bool.eq_iff_iff];simp
theorem oR{i j:Array UInt8}:decide (V.byt i=V.byt j)=(i.toList==j.toList):=by
 rw[Bool.eq_iff_iff];cases i;cases j;simp
section
variable{X:Cx}{a b c:Expr}{ta tb tc:TE}{pos:Pos}
theorem aM{pins:List (Addr×Obj)}{σ:St}{H:Hp}{s:Shared}{Q:VK}{k k':Bool}(I:Inv X pins σ H s)(q:Q (.bl k) H)(e:k=k'):EP X pins σ Q (.bool k') s:=by
 subst e;exact⟨.bl k,H,I,rfl,q⟩
theorem cG:OpR X (compareOp .Eq) rEq:=by
 intro pins s σ H x y v u Q I rx ry h;obtain⟨hs,q⟩:=h;cases x with
 |non =>
  cases rx;cases y with
  |non=>cases ry;exact PySem.EqNone.eq_none_none (aM I q (by simp))
  |bl j=>cases ry;exact PySem.EqNone.eq_none_bool (aM I q (by simp))
  |int j=>obtain⟨t',rfl⟩:=ry;exact PySem.EqNone.eq_none_int (aM I q (by simp))
  |str j=>obtain⟨t',rfl⟩:=ry;exact PySem.EqNone.eq_none_str (aM I q (by simp))
  |_=>exact absurd (show false=true from hs) Bool.false_ne_true
 |bl i =>
  cases rx;cases y with
  |non=>cases ry;exact PySem.EqNone.eq_bool_none (aM I q (by simp))
  |bl j=>cases ry;exact eq_bool (aM I q qX)
  |str j=>obtain⟨t',rfl⟩:=ry;exact PySem.EqMixed.eq_bool_str (aM I q (by simp))
  |_=>exact absurd (show false=true from hs) Bool.false_ne_true
 |int i =>
  obtain⟨t,rfl⟩:=rx;cases y with
  |non=>cases ry;exact PySem.EqNone.eq_int_none (aM I q (by simp))
  |int j=>obtain⟨t',rfl⟩:=ry;exact eq_int (aM I q km)
  |str j=>obtain⟨t',rfl⟩:=ry;exact PySem.EqMixed.eq_int_str (aM I q (by simp))
  |_=>exact absurd (show false=true from hs) Bool.false_ne_true
 |str i =>
  obtain⟨t,rfl⟩:=rx;cases y with
  |non=>cases ry;exact PySem.EqNone.eq_str_none (aM I q (by simp))
  |bl j=>cases ry;exact PySem.EqMixed.eq_str_bool (aM I q (by simp))
  |int j=>obtain⟨t',rfl⟩:=ry;exact PySem.EqMixed.eq_str_int (aM I q (by simp))
  |str j=>obtain⟨t',rfl⟩:=ry;exact eq_str (aM I q oQ)
  |_=>exact absurd (show false=true from hs) Bool.false_ne_true
 |byt i =>
  obtain⟨t,rfl⟩:=rx;cases y with
  |byt j=>obtain⟨t',rfl⟩:=ry;exact PySem.W.eq_bytes (aM I q oR)
  |_=>exact absurd (show false=true from hs) Bool.false_ne_true
 |_=>cases y<;>exact absurd (show false=true from hs) Bool.false_ne_true
theorem ib:OpR X (compareOp .NotEq) rNe:=by
 intro pins s σ H x y v u Q I rx ry h;obtain⟨hs,q⟩:=h;cases x with
 |non =>
  cases rx;cases y with
  |non=>cases ry;exact PySem.EqNone.ne_none_none (aM I q (by simp))
  |bl j=>cases ry;exact PySem.EqNone.ne_none_bool (aM I q (by simp))
  |int j=>obtain⟨t',rfl⟩:=ry;exact PySem.EqNone.ne_none_int (aM I q (by simp))
  |str j=>obtain⟨t',rfl⟩:=ry;exact PySem.EqNone.ne_none_str (aM I q (by simp))
  |_=>exact absurd (show false=true from hs) Bool.false_ne_true
 |bl i =>
  cases rx;cases y with
  |non=>cases ry;exact PySem.EqNone.ne_bool_none (aM I q (by simp))
  |bl j=>cases ry;exact ne_bool (aM I q (congrArg not qX))
  |str j=>obtain⟨t',rfl⟩:=ry;exact PySem.EqMixed.ne_bool_str (aM I q (by simp))
  |_=>exact absurd (show false=true from hs) Bool.false_ne_true
 |int i =>
  obtain⟨t,rfl⟩:=rx;cases y with
  |non=>cases ry;exact PySem.EqNone.ne_int_none (aM I q (by simp))
  |int j=>obtain⟨t',rfl⟩:=ry;exact ne_int (aM I q (congrArg not km))
  |str j=>obtain⟨t',rfl⟩:=ry;exact PySem.EqMixed.ne_int_str (aM I q (by simp))
  |_=>exact absurd (show false=true from hs) Bool.false_ne_true
 |str i =>
  obtain⟨t,rfl⟩:=rx;cases y with
  |non=>cases ry;exact PySem.EqNone.ne_str_none (aM I q (by simp))
  |bl j=>cases ry;exact PySem.EqMixed.ne_str_bool (aM I q (by simp))
  |int j=>obtain⟨t',rfl⟩:=ry;exact PySem.EqMixed.ne_str_int (aM I q (by simp))
  |str j=>obtain⟨t',rfl⟩:=ry;exact ne_str (aM I q (congrArg not oQ))
  |_=>exact absurd (show false=true from hs) Bool.false_ne_true
 |byt i =>
  obtain⟨t,rfl⟩:=rx;cases y with
  |byt j=>obtain⟨t',rfl⟩:=ry;exact PySem.W.ne_bytes (aM I q (congrArg not oR))
  |_=>exact absurd (show false=true from hs) Bool.false_ne_true
 |_=>cases y<;>exact absurd (show false=true from hs) Bool.false_ne_true
theorem qY:OpR X (compareOp .Lt) (rI0 λi j=>.bl (decide (i<j))):=vY λ_ _ _ _ _ _ _ q=>lt_int q
theorem oS:OpR X (compareOp .LtE) (rI0 λi j=>.bl (decide (i≤j))):=vY λ_ _ _ _ _ _ _ q=>le_int q
theorem xY:OpR X (compareOp .Gt) (rI0 λi j=>.bl (decide (j<i))):=vY λ_ _ _ _ _ _ _ q=>gt_int q
theorem qe:OpR X (compareOp .In) (λx y H Q=>∃i j,x=.str i∧y=.str j∧Q (.bl (!(Builtin.Str.occurrences j i 0 j.length 1).isEmpty)) H):=by
 intro pins s σ H x y v u Q I rx ry h;obtain⟨i,j,rfl,rfl,q⟩:=h;obtain⟨t,rfl⟩:=rx;obtain⟨t',rfl⟩:=ry;exact in_str (aM I q rfl)
theorem iE:OpR X (compareOp .Is) (λx y H Q=>y=.non∧Q (.bl (decide (x=.non))) H):=by
 intro pins s σ H x y v u Q I rx ry h;obtain⟨rfl,q⟩:=h;cases ry;refine is_none_gen (aM I q ?_);cases x<;>first
  |(cases rx;rfl)
  |(obtain⟨t,rfl⟩:=rx;rfl)
theorem kn:OpR X (compareOp .IsNot) (λx y H Q=>y=.non∧Q (.bl (!decide (x=.non))) H):=by
 intro pins s σ H x y v u Q I rx ry h;obtain⟨rfl,q⟩:=h;cases ry;refine isnot_none_gen (aM I q ?_);cases x<;>first
  |(cases rx;rfl)
  |(obtain⟨t,rfl⟩:=rx;rfl)
theorem OpR.or{f:Value→Value→Sem Value}{r r':R2}(h:OpR X f r)(h':OpR X f r'):OpR X f (λx y H Q=>r x y H Q∨r' x y H Q):=by
 intro pins s σ H x y v u Q I rx ry q;rcases q with q|q
 ·exact h pins s σ H x y v u Q I rx ry q
 ·exact h' pins s σ H x y v u Q I rx ry q
theorem aC(b:Expr){op:CmpOp}(h:op≠.In:=by decide)(h2:op≠.NotIn:=by decide):behindInMarks op b=false:=by
 have e1:(op==CmpOp.In)=false:=by cases op<;>first|rfl|exact absurd rfl h
 have e2:(op==CmpOp.NotIn)=false:=by cases op<;>first|rfl|exact absurd rfl h2
 cases b<;>simp[behindInMarks,e1,e2]
theorem dg{op:CmpOp}{r:R2}(ho:OpR X (compareOp op) r)(ha:PE X a ta)(hb:PE X b tb)(hm:behindInMarks op b=false):PE X (.Compare a [op] [b] pos) (tOp r ta tb):=by
 intro pins s σ H Q I h;exact wpAny_Compare1 (vW ha hb I h λv u s2 x y H2 I2 rx ry q=>ho pins s2 σ H2 x y v u Q I2 rx ry q) hm
def vw(t:TE):TT:=λσ H Q=>t σ H λx H'=>∃k,x=.bl k∧Q k H'
theorem aw{op:CmpOp}{r:R2}(ho:OpR X (compareOp op) r)(ha:PE X a ta)(hb:PE X b tb)(hm:behindInMarks op b=false):PT X (.Compare a [op] [b] pos) (vw (tOp r ta tb)):=by
 intro pins s σ H Q I h;refine wpAny_isTrue_Compare1 (thn (ha pins s σ H _ I h) λv s1 ⟨x,H1,I1,r1,q1⟩=>thn (hb pins s1 σ H1 _ I1 q1) λu s2 ⟨y,H2,I2,r2,q2⟩ =>
  thn (ho pins s2 σ H2 x y v u _ I2 r1 r2 q2) λc s3 ⟨z,H3,I3,r3,k,e,q3⟩=>?_) hm
 subst e;cases r3;exact wpAny_truthy_bool ⟨H3,I3,q3⟩
def qZ(r r':R2)(ta tb tc:TE):TE:=λσ H Q=>ta σ H λx H1=>tb σ H1 λy H2=>r x y H2 λz H3=>∃k,z=.bl k ∧
 (if k=true then tc σ H3 λw' H4=>r' y w' H4 Q else Q (.bl false) H3)
theorem rb{op op':CmpOp}{r r':R2}(ho:OpR X (compareOp op) r)(ho':OpR X (compareOp op') r')(ha:PE X a ta)(hb:PE X b tb)(hc:PE X c tc)(hm:lastMarks [op,op'] [b,c]=false:=by with_unfolding_all rfl):PE X (.Compare a [op,op'] [b,c] pos) (qZ r r' ta tb tc):=by
 intro pins s σ H Q I h;refine Compare_chain (thn (ha pins s σ H _ I h) λv s1 ⟨x,H1,I1,r1,q1⟩=>chain_link (thn (hb pins s1 σ H1 _ I1 q1) λu s2 ⟨y,H2,I2,r2,q2⟩ =>
  thn (ho pins s2 σ H2 x y v u _ I2 r1 r2 q2) λd s3 ⟨z,H3,I3,r3,k,e,q3⟩=>?_)) hm
 subst e;cases r3;refine wpAny_truthy_bool ?_;cases k with
 |false=>exact ite_ff ⟨.bl false,H3,I3,rfl,q3⟩
 |true=>exact ite_tt (chain_last (thn (hc pins s3 σ H3 _ I3 q3) λw' s4 ⟨z',H4,I4,r4,q4⟩=>ho' pins s4 σ H4 y z' u w' Q I4 r2 r4 q4))
theorem rc{op op':CmpOp}{r r':R2}(ho:OpR X (compareOp op) r)(ho':OpR X (compareOp op') r')(ha:PE X a ta)(hb:PE X b tb)(hc:PE X c tc)(hm:lastMarks [op,op'] [b,c]=false:=by with_unfolding_all rfl):PT X (.Compare a [op,op'] [b,c] pos) (vw (qZ r r' ta tb tc)):=by
 intro pins s σ H Q I h;refine isTrue_chain (thn (ha pins s σ H _ I h) λv s1 ⟨x,H1,I1,r1,q1⟩=>test_link (thn (hb pins s1 σ H1 _ I1 q1) λu s2 ⟨y,H2,I2,r2,q2⟩ =>
  thn (ho pins s2 σ H2 x y v u _ I2 r1 r2 q2) λd s3 ⟨z,H3,I3,r3,k,e,q3⟩=>?_)) hm
 subst e;cases r3;refine wpAny_truthy_bool ?_;cases k with
 |false =>
  obtain⟨k',e',q'⟩:=q3;cases e';exact ite_ff ⟨H3,I3,q'⟩
 |true =>
  refine ite_tt (test_last (thn (hc pins s3 σ H3 _ I3 q3) λw' s4 ⟨z',H4,I4,r4,q4⟩=>thn (ho' pins s4 σ H4 y z' u w' _ I4 r2 r4 q4) λd' s5 hpt=>?_));obtain⟨z2,H5,I5,r5,k2,e2,q5⟩:=hpt;subst e2;cases r5;exact wpAny_truthy_bool ⟨H5,I5,q5⟩
def xZ(K:PySem.W.Frag)(x:V)(H:Hp)(k:Bool):Prop :=
 match x with
 |.non=>k=false
 |.bl b=>k=b
 |.int i=>k=(i != 0)
 |.str y=>y.length≤sizeLine∧k=((y.length:Int) != 0)
 |.byt y=>y.size≤sizeLine∧k=((y.size:Int) != 0)
 |.ref p=>(∃xs,SqL K H p xs∧k = !xs.isEmpty)∨(∃xs,SqT K H p xs∧k = !xs.isEmpty)∨∃kvs,H p=some (.dK kvs)∧k = !kvs.isEmpty
 |_=>False
theorem nL{κ:Type}{kvs:List (κ×V)}{vs:List (κ×Value)}(r:KV kvs vs):(!vs.isEmpty) = !kvs.isEmpty:=by
 cases r<;>rfl
theorem iF{xs:List V}{its:List Value}(r:aB xs its):(!its.toArray.isEmpty) = !xs.isEmpty:=by
 cases r<;>simp
theorem gT:(sizeLine:Nat)<2 ^ 63:=by rw[sizeLine_eq];decide
theorem we:yU X (λx H Q=>∃k,xZ X.K x H k∧Q k H):=by
 intro pins s σ H x v Q I rx h;obtain⟨k,e,q⟩:=h;have hl:=gT;have hs:sizeLine=16777216:=sizeLine_eq;cases x with
 |non =>
  cases rx;have e':k=false:=e;subst e';exact truthy_none ⟨H,I,q⟩
 |bl b =>
  cases rx;have e':k=b:=e;subst e';exact wpAny_truthy_bool ⟨H,I,q⟩
 |int i =>
  obtain⟨t,rfl⟩:=rx;have e':k=(i != 0):=e;subst e';exact PySem.P.truthy_int ⟨H,I,q⟩
 |str y =>
  obtain⟨t,rfl⟩:=rx;obtain⟨hy,e'⟩:y.length≤sizeLine∧k=((y.length:Int) != 0):=e;subst e';exact PySem.P.truthy_str (by omega) ⟨H,I.tok _,q⟩
 |byt y =>
  obtain⟨t,rfl⟩:=rx;obtain⟨hy,e'⟩:y.size≤sizeLine∧k=((y.size:Int) != 0):=e;subst e';exact PySem.W.truthy_bytes (by omega) ⟨H,I.tok _,q⟩
 |ref p =>
  cases rx;have e':(∃xs,SqL X.K H p xs∧k = !xs.isEmpty)∨(∃xs,SqT X.K H p xs∧k = !xs.isEmpty)∨∃kvs,H p=some (.dK kvs)∧k = !kvs.isEmpty:=e;rcases e' with⟨xs,hx,e'⟩|⟨xs,hx,e'⟩|⟨kvs,hx,e'⟩
  ·subst e';obtain⟨its,r,pl,hz⟩:=I.list hx;have hlen:=r.length;exact wpAny_truthy_list pl.isList (by simp only[size_toArray];omega) ⟨H,I.tok _,by rw[iF r];exact q⟩
  ·subst e';obtain⟨its,r,pl,hz⟩:=I.tuple hx;have hlen:=r.length;exact truthy_tuple pl (by simp only[size_toArray];omega) ⟨H,I.tok _,by rw[iF r];exact q⟩
  ·subst e';obtain⟨hz,hS,vs,r,m⟩:kvs.length≤sizeLine∧(p==sysModules)=false∧∃vs,KV kvs vs∧s.heap.DictOf (aQ X.prog X.w) p vs:=I.hok p _ hx;have hlen:kvs.length=vs.length:=Paired.length r;exact wpAny_truthy_dict hS m (by omega) ⟨H,I.tok _,by rw[nL r];exact q⟩
 |_=>exact(show False from e).elim
theorem re(ha:PE X a ta)(he:∀whole,isTrue a X.env whole=(do let v ← whole;standAt a.pos;holding [v] (truthy v))):
  PT X a (λσ H Q=>ta σ H λx H'=>∃k,xZ X.K x H' k∧Q k H'):=by
 intro pins s σ H Q I h;exact isTrue_plain (thn (ha pins s σ H _ I h) λv s1 ⟨x,H1,I1,r1,q1⟩=>we pins s1 σ H1 x v Q I1 r1 q1) (he _)
theorem nM:OpR X (binaryOp .Add) (λx y H Q=>∃i j,x=.str i∧y=.str j∧i.length+j.length≤sizeLine∧Q (.str (i++j)) H):=by
 intro pins s σ H x y v u Q I rx ry h;obtain⟨i,j,rfl,rfl,hz,q⟩:=h;obtain⟨t,rfl⟩:=rx;obtain⟨t',rfl⟩:=ry;exact add_str (λt' tk=>⟨.str (i++j),H,I.tok _,⟨_,rfl⟩,q⟩) hz
theorem ee{x:V}{us:List Value}(r:aB [x] us):∃u,us=[u]∧aI x u:=by
 cases r with
 |cons r1 r2=>cases r2;exact⟨_,rfl,r1⟩
theorem oT{x y:V}{us:List Value}(r:aB [x,y] us):∃u w',us=[u,w']∧aI x u∧aI y w':=by
 cases r with
 |cons r1 r2 =>
  cases r2 with
  |cons r3 r4=>cases r4;exact⟨_,_,rfl,r1,r3⟩
theorem qf(hc:X.calm=true):cn X (.builtin "min") (λxs H Q=>∃i j,xs=[.int i,.int j]∧Q (.int (if j<i then j else i)) H):=by
 intro pins s σ H xs us Q I r h;obtain⟨i,j,rfl,q⟩:=h;obtain⟨u,w',rfl,⟨t,rfl⟩,⟨t',rfl⟩⟩:=oT r;refine min_two_ints (I.ok.hd hc) λh' tk k=>⟨_,H,I.kept k,?_,q⟩
 by_cases hj:j<i
 ·rw[if_pos hj,if_pos hj];exact⟨_,rfl⟩
 ·rw[if_neg hj,if_neg hj];exact⟨_,rfl⟩
end
structure ObjM(h:Heap)(x dx C:Addr)(mA:Str→Option Value):Prop where
 obj:h.get? x=some (instObj C dx)
 ns:h.Ns1 dx mA
 ne:dx≠x
theorem qg{h:Heap}{dx:Addr}{mA:Str→Option Value}(n:h.Ns1 dx mA):∃od,h.get? dx=some od∧∀name,lookIn name od=some (mA name):=by
 obtain⟨o,es,ep,ho,hd,hk,_,hm⟩:=n;refine⟨o,ho,λname=>?_⟩;have e:=hm name;unfold nsFind findBy at e;rw[←Array.find?_toList]at e;unfold lookIn;rw[hd];dsimp only
 split
 ·rename_i y q
  rw[q]at e;exact congrArg some e
 ·rename_i q
  rw[q]at e;have a:es.toList.any (·.refKey)=false:=by
   rw[List.any_eq_false];intro y hy;obtain⟨z,t,hkey⟩:=hk y (Array.mem_toList_iff.mp hy);simp[DictEntry.refKey,hkey]
  have a':¬es.toList.any (·.refKey)=true:=by rw[a];exact Bool.false_ne_true
  rw[if_neg a'];exact congrArg some e
theorem ObjM.look{h:Heap}{x dx C:Addr}{mA:Str→Option Value}(I:ObjM h x dx C mA):∃od,PySem.W.InstAt h x (instObj C dx) C (some od)∧∀name,lookIn name od=some (mA name) :=
 let⟨od,ho,hl⟩:=qg I.ns
 ⟨od,⟨I.obj,rfl,rfl,ho⟩,hl⟩
section
variable{prog:Program}{w:World}{A:Around}{E:Value→Shared→Prop}{s:Shared}{K:PySem.W.Frag}{x dx C f:Addr}{mA:Str→Option Value}{name:Str}{v:Value}
end
theorem fj.some_of{v:V}{o:Option Value}(r:fj (some v) o):∃u,o=some u∧aI v u:=by
 cases o with
 |none=>exact(show False from r).elim
 |some u=>exact⟨u,rfl,r⟩
theorem fj.none_of{o:Option Value}(r:fj none o):o=none:=by
 cases o with
 |none=>rfl
 |some u=>exact(show False from r).elim
section
variable{P:Program}{w:World}{H H':Hp}{h h':Heap}{a C dx:Addr}{fs fs':List (Str×V)}
theorem tW(hok:HOk P w H h)(e:H a=some (.ins C dx fs)):∃mA,ObjM h a dx C mA∧(∀f,fj (fs.lookup f) (mA f))∧PySem.Within mA (fs.map (·.1))∧fs.length≤1000∧H dx=some (.own a):=by
 obtain⟨d,z,ne,ob,mA,n,r,q⟩:=(show ba P w H h a (.ins C dx fs)from hok a _ e);exact⟨mA,⟨ob,n,ne⟩,r,q,z,d⟩
end
structure Cls(K:PySem.W.Frag)(C:Addr):Prop where
 pg:plainGet K C empty=true
 hd:PySem.W.hasDictIn K C=true
 po:PySem.W.plainOver K C=true
 sa:findIn K (.ref C) "__setattr__"=some (some (.builtin "object.__setattr__"))
theorem Cls.get{K:PySem.W.Frag}{C:Addr}(c:Cls K C)(f:Str):plainGet K C f=true:=c.pg
section
variable{X:Cx}{pins:List (Addr×Obj)}{σ:St}{H:Hp}{s:Shared}{a C dx:Addr}{fs:List (Str×V)}{f:Str}{v:V}{A:Around}{E:Value→Shared→Prop}
end
section
variable{X:Cx}{o e value:Expr}{f:Str}{pos pos' tpos:Pos}{ta tv:TE}
end
section
variable{X:Cx}{pins:List (Addr×Obj)}{σ:St}{H:Hp}{s:Shared}{A:Around}{E:Value→Shared→Prop}{Q:Value→Shared→Prop}{c:Value}{b:Bool}
inductive TyOf(K:PySem.W.Frag)(H:Hp):V→Value→Prop where
 |non:TyOf K H .non (.type "NoneType")
 |bl (x:Bool):TyOf K H (.bl x) (.type "bool")
 |int (i:Int):TyOf K H (.int i) (.type "int")
 |str (x:Str):TyOf K H (.str x) (.type "str")
 |flt (x:UInt64):TyOf K H (.flt x) (.type "float")
 |lst {a:Addr} {xs:List V} (e:H a=some (.lst xs)):TyOf K H (.ref a) (.type "list")
 |frz {a:Addr} {o:Obj} {xs:List V} (e:H a=some (.frz o (.lst xs))):TyOf K H (.ref a) (.type "list")
 |tup {a:Addr} {xs:List V} (e:H a=some (.tup xs)):TyOf K H (.ref a) (.type "tuple")
 |dK {a:Addr} {kvs:List (Key×V)} (e:H a=some (.dK kvs)):TyOf K H (.ref a) (.type "dict")
 |dT {a:Addr} {kvs:List (List Key×V)} (e:H a=some (.dT kvs)):TyOf K H (.ref a) (.type "dict")
 |ins {a C dx:Addr} {fs:List (Str×V)} (e:H a=some (.ins C dx fs)) (cl:Cls K C) (ha:findIn K (.ref C) "__class__"=some (some (.builtin "object.__class__")))
   (hn:PySem.W.specialIn K (.builtin "object.__class__") "__get__"=some (some (.builtin "getset_descriptor.__get__"))) (htk:PySem.W.takesIn K (.builtin "object.__class__")=some true)
   (hm:mroIn K C (.type "object")=some true):TyOf K H (.ref a) (.ref C)
theorem qh{x:V}{u t:Value}(I:Inv X pins σ H s)(rx:aI x u)(ty:TyOf X.K H x t)(e:kitOne X.K t c=some b)(h:∀tk,Q (.bool b) {s with toks:=tk}):
  wpAny (model X.prog X.w) A (call (.builtin "isinstance") [u,c]) Q E s:=by
 cases ty with
 |non=>cases (show u=Value.none from rx);exact kia_one PySem.W.kitx_none I.kIn True.intro e (λz=>nomatch z) h
 |bl y=>cases (show u=Value.bool y from rx);exact kia_one PySem.W.kitx_bool I.kIn True.intro e (λz=>nomatch z) h
 |int i=>obtain⟨t,q⟩:=(show ∃t,u=Value.int i t from rx);cases q;exact kia_one PySem.W.kitx_int I.kIn True.intro e (λz=>nomatch z) h
 |str y=>obtain⟨t,q⟩:=(show ∃t,u=Value.str y t from rx);cases q;exact kia_one PySem.W.kitx_str I.kIn True.intro e (λz=>nomatch z) h
 |flt y=>obtain⟨t,q⟩:=(show ∃t,u=float y t from rx);cases q;exact kia_one PySem.W.kitx_float I.kIn True.intro e (λz=>nomatch z) h
 |@lst a xs ea =>
  cases (show u=Value.ref a from rx);obtain⟨_,_,n,_,h1⟩:=(show ba X.prog X.w H s.heap a (.lst xs)from I.hok a _ ea);exact kia_one kitx_list I.kIn ⟨_,h1,rfl⟩ e (λz=>nomatch z) h
 |@frz a ob xs ea =>
  cases (show u=Value.ref a from rx);obtain⟨_,_,_,n,_,h1⟩:=(show ba X.prog X.w H s.heap a (.frz ob (.lst xs))from I.hok a _ ea);exact kia_one kitx_list I.kIn ⟨_,h1,rfl⟩ e (λz=>nomatch z) h
 |@tup a xs ea =>
  cases (show u=Value.ref a from rx);obtain⟨_,_,_,p⟩:=(show ba X.prog X.w H s.heap a (.tup xs)from I.hok a _ ea);obtain⟨o,h1,h2,_⟩:=p;exact kia_one PySem.W.kitx_tuple I.kIn ⟨o,h1,h2⟩ e (λz=>nomatch z) h
 |@dK a kvs ea =>
  cases (show u=Value.ref a from rx);obtain⟨_,_,vs,_,p⟩:=(show ba X.prog X.w H s.heap a (.dK kvs)from I.hok a _ ea);obtain⟨o,es,ep,h1,h2,_⟩:=p;exact kia_one kitx_dict I.kIn ⟨o,h1,h2.1⟩ e (λz=>nomatch z) h
 |@dT a kvs ea =>
  cases (show u=Value.ref a from rx);obtain⟨_,_,xs,_,o,es,ep,h1,h2,_⟩:=(show ba X.prog X.w H s.heap a (.dT kvs)from I.hok a _ ea);exact kia_one kitx_dict I.kIn ⟨o,h1,h2.1⟩ e (λz=>nomatch z) h
 |@ins a C dx fs ea cl ha hn htk hm =>
  cases (show u=Value.ref a from rx);obtain⟨mA,O,_⟩:=tW I.hok ea;obtain⟨od,J,_⟩:=O.look;exact kia_one (PySem.W.kitx_own (cl.get _) cl.hd ha hn htk hm) I.kIn J e (λz=>nomatch z) h
end
structure Room(k:Nat)(A:Around):Prop where
 hd:A.handled=none
 dp:A.depth+3*k+5<recursionLimit
 un:A.units+16*k+200<cLine
 gd:A.guards=some []
theorem Room.mono{j k:Nat}{A:Around}(r:Room k A)(h:j≤k):Room j A:=⟨r.hd,by have:=r.dp;omega,by have:=r.un;omega,r.gd⟩
theorem Room.deeper{k:Nat}{A:Around}(r:Room (k+1) A)(env:Env):Room k (A.deeper env) :=
 ⟨r.hd,by have:=r.dp;show A.depth+1+3*k+5<_;omega,by have:=r.un;show A.units+3+16*k+200<_;omega,r.gd⟩
theorem Room.depth{k:Nat}{A:Around}(r:Room k A):A.depth<recursionLimit:=by have:=r.dp;omega
theorem Room.units{k:Nat}{A:Around}(r:Room k A):A.units+64<cLine:=by have:=r.un;omega
theorem Room.units0{k:Nat}{A:Around}(r:Room k A):A.units<cLine:=by have:=r.un;omega
def im:TA:=λ_ H Q=>Q [] H
def bv(ta:TE)(tr:TA):TA:=λσ H Q=>ta σ H λx H1=>tr σ H1 λxs H2=>Q (x::xs) H2
section
variable{X:Cx}{e:Expr}{es:List Expr}{te:TE}{t:TA}{pos:Pos}
theorem ae:PA X [] im:=λ_ _ _ _ H Q I h=>Calls.spliced_nil ⟨[],H,I,.nil,h⟩
theorem aa(ha:PE X e te)(hr:PA X es t)(hs:starEach (e::es) X.env=(false,eval e X.env)::starEach es X.env:=by rfl):PA X (e::es) (bv te t):=by
 intro pos pins s σ H Q I h;rw[hs];show wpAny _ _ (spliced ((false,eval e X.env)::backTo pos (starEach es X.env))) _ _ s;refine spliced_cons (thn (ha pins s σ H _ I h) λu s1 hpt=>?_);obtain⟨x,H1,I1,r1,q1⟩:=hpt;exact thn (hr pos pins s1 σ H1 _ I1 q1) λus s2 ⟨xs,H2,I2,r2,q2⟩=>⟨x::xs,H2,I2,.cons r1 r2,q2⟩
def tX(t:TA):TE:=λσ H Q=>t σ H λxs H1=>xs.length≤sizeLine∧∀p,H1 p=none→Q (.ref p) (upd H1 p (.tup xs))
def yW(t:TA):TE:=λσ H Q=>t σ H λxs H1=>xs.length≤sizeLine∧∀p,H1 p=none→Q (.ref p) (upd H1 p (.lst xs))
theorem aN{x1}(h:PA X es t):PE X (.Tuple es x1 pos) (tX t):=by
 intro pins s σ H Q I hq;refine wpAny_Tuple_spliced (thn (h pos pins s σ H _ I hq) λus s1 ⟨xs,H1,I1,r,z,q⟩=>⟨by rw[←r.length];exact z,?_⟩);have hf:H1 s1.heap.objs.size=none:=I1.hok.fresh (le_refl _);refine⟨.ref s1.heap.objs.size,upd H1 s1.heap.objs.size (.tup xs),I1.laid (t':=s1.toks) (λb u e=>get?_push_of_some _ e) (le_refl _) ?_,rfl,q _ hf⟩;exact⟨z,us,r,⟨_,get?_push_size _ rfl,rfl,_,rfl⟩⟩
theorem cg(h:PA X es t):PE X (.List es pos) (yW t):=by
 intro pins s σ H Q I hq;refine wpAny_List_spliced (thn (h pos pins s σ H _ I hq) λus s1 ⟨xs,H1,I1,r,z,q⟩=>⟨by rw[←r.length];exact z,?_⟩);have hf:H1 s1.heap.objs.size=none:=I1.hok.fresh (le_refl _);refine⟨.ref s1.heap.objs.size,upd H1 s1.heap.objs.size (.lst xs),I1.laid (t':=s1.toks) (λb u e=>get?_push_of_some _ e) (le_refl _) ?_,rfl,q _ hf⟩;exact⟨z,us,0,r,get?_push_size _ rfl⟩
end
abbrev Sp:=List V→Hp→VK→XK→Prop
abbrev CXT:=List Env→Hp→Shared→XK→Value→Shared→Prop
structure Env0(P:Program)(w:World)(K:PySem.W.Frag)(mg:Str→Option Value)(base:Heap)(A:Around)(outer:List Env)(s:Shared)(H:Hp):Prop where
 frames:A.frames=some outer
 mod:Mod K mg base
 bs:∀b o,base.get? b=some o→s.heap.get? b=some o∧H b=none
 bsz:base.objs.size≤s.heap.objs.size
 funs:s.heap.FunFrames base outer
 frf:∀b∈frs outer,H b=none
 hok:HOk P w H s.heap
 bare:AllBare s.gens
def CE(outer:List Env)(P:Program)(w:World)(H:Hp)(s:Shared)(Q:VK)(u:Value)(s':Shared):Prop :=
 ∃v H',s'.os=s.os∧AllBare s'.gens∧Un (frs outer) [] H H' s.heap s'.heap∧HOk P w H' s'.heap∧aI v u∧Q v H'
def CR(CX:CXT)(outer:List Env)(P:Program)(w:World)(H:Hp)(s:Shared)(Q:VK)(E:XK)(r:Result)(s':Shared):Prop :=
 match r with
 |.ok (.ret u)=>CE outer P w H s Q u s'
 |.ok _=>False
 |.error e=>CX outer H s E e s'
structure FnOk(P:Program)(w:World)(K:PySem.W.Frag)(mg:Str→Option Value)(base:Heap)(CX:CXT)(k:Nat)(f:Addr)(fd:FuncData)(ps:List Str)(sp:Sp):Prop where
 len:∀vs H Q E,sp vs H Q E→vs.length=ps.length
 run:∀(A:Around)(outer:List Env)(s:Shared)(H:Hp)(args:Args)(us:List Value)(vs:List V)(Q:VK)(E:XK),Room k A→Env0 P w K mg base A outer s H→BindsTo s fd args (ps.zip us)→aB vs us→sp vs H Q E →
  codeAny (model P w) A (.call (.ref f) args) (CR CX outer P w H s Q E) s
theorem FnOk.imp{P:Program}{w:World}{K:PySem.W.Frag}{mg:Str→Option Value}{base:Heap}{CX:CXT}{k:Nat}{f:Addr}{fd:FuncData}{ps:List Str}{sp sp':Sp}(F:FnOk P w K mg base CX k f fd ps sp)(h:∀vs H Q E,sp' vs H Q E→sp vs H Q E):FnOk P w K mg base CX k f fd ps sp' :=
 ⟨λvs H Q E q=>F.len vs H Q E (h _ _ _ _ q),λA outer s H args us vs Q E hr he hb hv hs=>F.run A outer s H args us vs Q E hr he hb hv (h _ _ _ _ hs)⟩
section
variable{X:Cx}{pins:List (Addr×Obj)}{σ:St}{H:Hp}{s s':Shared}
theorem Inv.env0(I:Inv X pins σ H s):Env0 X.prog X.w X.K X.mg X.base X.A X.stack s H :=
 ⟨I.ok.frames,I.ok.mod,I.bs,le_trans I.ok.bsz I.sz,I.stack,I.stkFree,I.hok,I.bare⟩
theorem Inv.after{Q:VK}{u:Value}(I:Inv X pins σ H s)(h:CE X.stack X.prog X.w H s Q u s'):EP X pins σ Q u s':=by
 obtain⟨v,H',os,bare,un,hok,r,q⟩:=h;obtain⟨hh,g,d,t,os'⟩:=s';obtain rfl:os'=s.os:=os;exact⟨v,H',I.call (h':=hh) (g':=g) (d':=d) (t':=t) (ch:=[]) un hok bare (λb z=>absurd z (by simp)),r,q⟩
end
def lH(sp:Sp)(dvs:List V)(E:XK)(t:TA):TE:=λσ H Q=>t σ H λvs H1=>sp (vs++dvs) H1 Q E
def bY(K:PySem.W.Frag)(fd:FuncData)(ps:List Str)(ds:List Value):Prop :=
 ∀(s:Shared)(us:List Value),K.In s.heap→(us++ds).length=ps.length→BindsTo s fd ⟨us,[]⟩ (ps.zip (us++ds))
theorem bY.all{K:PySem.W.Frag}{fd:FuncData}{ps:List Str}(h:∀us:List Value,us.length=ps.length→bindArgs fd ⟨us,[]⟩=pure (ps.zip us)):bY K fd ps []:=λs us _ hl=>by
 rw[append_nil]at hl⊢;exact .of_eq (h us hl)
def gU(CX:CXT)(X:Cx)(E:XK):Prop:=∀(pins:List (Addr×Obj))(σ:St)(H:Hp)(s:Shared)(e:Value)(s':Shared),Inv X pins σ H s→CX X.stack H s E e s'→X.xe e s'
section
variable{X:Cx}{CX:CXT}{k:Nat}{f C:Addr}{fd:FuncData}{ps:List Str}{sp:Sp}{dvs:List V}{ds:List Value}{E:XK}{x m:Str}{p pos apos:Pos}{e o:Expr}{es:List Expr}{ta:TE}{t:TA}
theorem wf{pins:List (Addr×Obj)}{σ:St}{H:Hp}{s:Shared}{Q:VK}{us:List Value}{vs:List V}(F:FnOk X.prog X.w X.K X.mg X.base CX k f fd ps sp)(hr:Room k X.A)(hb:bY X.K fd ps ds)(hd:aB dvs ds)(hx:gU CX X E)(I:Inv X pins σ H s)(r:aB vs us)(h:sp (vs++dvs) H Q E):wpAny (model X.prog X.w) X.A (call (.ref f) us) (EP X pins σ Q) X.xe s:=by
 have r2:aB (vs++dvs) (us++ds):=r.append hd;have hl:(us++ds).length=ps.length:=by rw[←r2.length];exact F.len _ _ _ _ h
 refine wpAny_call (codeAny_mono (F.run X.A X.stack s H ⟨us,[]⟩ (us++ds) (vs++dvs) Q E hr I.env0 (hb s us I.kIn hl) r2 h) λr s' hq=>?_);cases r with
 |error e=>exact hx pins σ H s e s' I hq
 |ok fl =>
  cases fl with
  |ret u=>exact I.after hq
  |next=>exact False.elim hq
  |brk=>exact False.elim hq
  |cont=>exact False.elim hq
theorem am(F:FnOk X.prog X.w X.K X.mg X.base CX k f fd ps sp)(hr:Room k X.A)(hg:Gl X x)(hm:X.mg x=some (.ref f))(hk:keepIn X.K (.ref f)=true)(hb:bY X.K fd ps ds)(hd:aB dvs ds)(hx:gU CX X E)(ha:PA X (e::es) t)(hdb:(x==("__debug__":Str))=false:=by decide)(he:starEach (e::es) X.env=(false,eval e X.env)::starEach es X.env:=by rfl)(hpl:(backTo pos (starEach es X.env)).any (·.1)=false:=by rfl):
  PE X (.Call (.Name x p) (e::es) [] pos) (lH sp dvs E t):=by
 intro pins s σ H Q I h;refine wpAny_Call_Name_kw (ke I hg hm ?_ hdb);refine PySem.W.callWith_K (h₀:=X.base) I.ok.mod.kin hk (thn (ha pos pins s σ H _ I h) λus s1 ⟨vs,H1,I1,r,q⟩=>⟨I1.kIn,?_⟩) he hpl;exact wf F hr hb hd hx I1 r q
end
section
variable{X:Cx}{CX:CXT}{k:Nat}{f C:Addr}{fd:FuncData}{ps ks:List Str}{sp:Sp}{E:XK}{x m:Str}{p pos apos kpos:Pos}{e o:Expr}{es:List Expr}{kws:List Keyword}{te ta:TE}{t tk:TA}{nm:Option Str}
variable{g:List Value→List Value→List Value}{gV:List V→List V→List V}
end
structure FnScope(N P:List Str)(sc:Scope):Prop where
 kind:sc.kind=.function
 co:sc.isCoroutine=false
 gen:sc.isGenerator=false
 nd:N.Nodup
 pre:N.take P.length=P
 par:∀x∈P,sc.names.lookup x=some .local∨sc.names.lookup x=some .cell
 nofree:∀y∈sc.names,y.2≠.free
theorem fsc{N P:List Str}{c:Scope}(a:c.kind=.function:=by rfl)(b:c.isCoroutine=false:=by rfl)(d:c.isGenerator=false:=by rfl)(e:N.Nodup:=by decide +kernel)(f:N.take P.length=P:=by rfl)(g:∀x∈P,c.names.lookup x=some .local∨c.names.lookup x=some .cell:=by decide +kernel)(h:∀y∈c.names,y.2≠.free:=by decide +kernel):FnScope N P c:=⟨a,b,d,e,f,g,h⟩
theorem jA{kindOf:Str→Option NameKind}{x:Str}:∀{binds:List (Str×Value)}{m:Str→Option Value},(∀v,(x,v)∉binds)→bindL kindOf binds m x=m x
 |[],_,_=>rfl
 |(n,v)::r,m,h=>by
  unfold bindL;rw[jA λw hw=>h w (mem_cons_of_mem _ hw)]
  split
  ·have:x≠n:=by rintro rfl;exact h v mem_cons_self
   simp[this]
  ·rfl
theorem jB{kindOf:Str→Option NameKind}{x:Str}:∀{binds:List (Str×Value)}{m:Str→Option Value},(∀v,(x,v)∉binds)→bindC kindOf binds m x=m x
 |[],_,_=>rfl
 |(n,v)::r,m,h=>by
  unfold bindC;rw[jB λw hw=>h w (mem_cons_of_mem _ hw)]
  split
  ·rfl
  ·have:x≠n:=by rintro rfl;exact h v mem_cons_self
   simp[this]
theorem jC{kindOf:Str→Option NameKind}{x:Str}{v:Value}:∀{P:List Str}{vs:List Value}{i:Nat}{m:Str→Option Value},P.Nodup→P[i]?=some x→vs[i]?=some v→kindOf x=some .local →
  bindL kindOf (P.zip vs) m x=some v
 |[],_,_,_,_,h,_,_=>by simp at h
 |_::_,[],_,_,_,_,h,_=>by simp at h
 |p::P,w::vs,0,m,nd,h1,h2,hk=>by
  simp at h1 h2;subst h1;subst h2;show bindL kindOf ((p,w)::P.zip vs) m p=_;unfold bindL;rw[jA λv hv=>(nodup_cons.mp nd).1 (of_mem_zip hv).1,if_pos hk];simp
 |p::P,w::vs,i+1,m,nd,h1,h2,hk=>by
  show bindL kindOf ((p,w)::P.zip vs) m x=_;unfold bindL;exact jC (i:=i) (nodup_cons.mp nd).2 (by simpa using h1) (by simpa using h2) hk
theorem jD{kindOf:Str→Option NameKind}{x:Str}{v:Value}:∀{P:List Str}{vs:List Value}{i:Nat}{m:Str→Option Value},P.Nodup→P[i]?=some x→vs[i]?=some v→kindOf x≠some .local →
  bindC kindOf (P.zip vs) m x=some v
 |[],_,_,_,_,h,_,_=>by simp at h
 |_::_,[],_,_,_,_,h,_=>by simp at h
 |p::P,w::vs,0,m,nd,h1,h2,hk=>by
  simp at h1 h2;subst h1;subst h2;show bindC kindOf ((p,w)::P.zip vs) m p=_;unfold bindC;rw[jB λv hv=>(nodup_cons.mp nd).1 (of_mem_zip hv).1,if_neg hk];simp
 |p::P,w::vs,i+1,m,nd,h1,h2,hk=>by
  show bindC kindOf ((p,w)::P.zip vs) m x=_;unfold bindC;exact jD (i:=i) (nodup_cons.mp nd).2 (by simpa using h1) (by simpa using h2) hk
def start(N:List Str)(vs:List V):St:=vs.map some++replicate (N.length-vs.length) none
def ko(CX:CXT)(P:Program)(w:World)(K:PySem.W.Frag)(mg:Str→Option Value)(base:Heap)(N:List Str)(qual:Str)(scope:Scope)(f:Addr)(cd:Value)(A:Around)(outer:List Env)(s:Shared)(H:Hp)(E:XK):Cx where
 prog:=P
 w:=w
 K:=K
 mg:=mg
 base:=base
 A:=A.deeper (envOfC qual scope s.heap.objs.size f cd)
 N:=N
 s₀:=s
 H₀:=H
 env:=envOfC qual scope s.heap.objs.size f cd
 outer:=outer
 stack:=envOfC qual scope s.heap.objs.size f cd::outer
 ex:=[]
 calm:=true
 fn:=λ_=>true
 pn:=[]
 xe:=λe s'=>wpAny (model P w) (A.deeper (envOfC qual scope s.heap.objs.size f cd)) (leaving (envOfC qual scope s.heap.objs.size f cd) e) (λ_ s''=>CX outer H s E e s'') (λe' s''=>CX outer H s E e' s'') s'
theorem lI{sc:Scope}{n:Nat}{x:Str}(h:sc.names.lookup x=some .cell):∃c,(cellsFrom n sc.names []).lookup x=some c:=by
 have q:=PySem.W.cellsFrom_some sc.names n [] (.inl h);exact Option.isSome_iff_exists.mp q
theorem qi{CX:CXT}{P:Program}{w:World}{K:PySem.W.Frag}{mg:Str→Option Value}{base:Heap}{N ps:List Str}{qual:Str}{scope:Scope}{f:Addr}{cd:Value}{A:Around}{outer:List Env}{s s1:Shared}{H:Hp}{E:XK}{us:List Value}{vs:List V}(S:FnScope N ps scope)(hd:A.handled=none)(e0:Env0 P w K mg base A outer s H)(hl:vs.length=ps.length)(r:aB vs us)(x:InCallC s s.heap.objs.size (bindL (envOfC qual scope s.heap.objs.size f cd).kindOf (ps.zip us) λ_=>none) (cellsFrom (s.heap.objs.size+1) scope.names []) (bindC (envOfC qual scope s.heap.objs.size f cd).kindOf (ps.zip us) λ_=>none) s1):
  Inv (ko CX P w K mg base N qual scope f cd A outer s H E) [] (start N vs) H s1:=by
 have hpl:ps.length≤N.length:=by have:=congrArg length S.pre;rw[length_take]at this;omega
 obtain⟨h1,tk,rfl,hk⟩:=x.done;have noA:∀b:Addr,b∉(ko CX P w K mg base N qual scope f cd A outer s H E).ex:=λb z=>absurd (show b∈([]:List Addr)from z) (by simp);refine⟨⟨e0.mod,S.kind,rfl,rfl,le_refl _,λy z c h1 h2=>?_,λy hy=>?_,λy c _ h=>?_,λ_=>hd,Around.frames_deeper e0.frames,.inr ⟨rfl,rfl⟩,λb z=>absurd z (noA b),e0.bs,e0.bsz,λb _ _=>noA b,λb z=>absurd z (noA b),e0.funs,e0.frf⟩,
  rfl,e0.bare,Un.kept hk,⟨_,x.toInCall.ns,λi y v h1 h2 h3=>?_⟩,λy c h=>⟨_,x.cell y c h⟩,e0.hok.fresh (le_refl _),λy c h=>?_,λp hp=>absurd (show p∈([]:List (Addr×Obj))from hp) (by simp),e0.hok.kept hk,?_⟩
 ·exact name_of_addr x.apart (PySem.mem_of_lookup h1) (PySem.mem_of_lookup h2)
 ·have hy:scope.names.lookup y=some .cell∨scope.names.lookup y=some .free:=hy;rcases hy with hy|hy
  ·exact lI hy
  ·exact absurd rfl (S.nofree _ (PySem.mem_of_lookup hy))
 ·exact le_of_lt (x.above y c (PySem.mem_of_lookup h))
 ·have hi:i<vs.length:=by
   unfold start at h2
   by_cases hi:i<vs.length
   ·exact hi
   ·rw[List.getElem?_append_right (by simpa using hi)]at h2;rw[List.getElem?_replicate]at h2
    split at h2<;>cases h2
  have ha:vs[i]?=some v:=by
   unfold start at h2;rw[getElem?_append_left (by simpa using hi),getElem?_map]at h2;cases e:vs[i]? with
   |none=>rw[e]at h2;cases h2
   |some a=>rw[e]at h2;cases h2;rfl
  obtain⟨u,hu,rv⟩:=r.get ha;have hp:ps[i]?=some y:=by
   rw[←S.pre,List.getElem?_take_of_lt (by omega)];exact h1
  have ndP:ps.Nodup:=by rw[←S.pre];exact S.nd.sublist (take_sublist _ _)
  refine⟨u,rv,?_⟩;rcases S.par y (mem_of_getElem? hp)with k|k
  ·exact .inl ⟨k,jC ndP hp hu k⟩
  ·obtain⟨c,e⟩:=lI (n:=s.heap.objs.size+1) k;refine .inr ⟨.inl k,c,e,?_⟩;have q:=x.cell y c e;rw[jD ndP hp hu (by show scope.names.lookup y≠_;rw[k];decide)]at q;exact q
 ·exact e0.hok.fresh (le_of_lt (x.above y c (PySem.mem_of_lookup h)))
 ·unfold start;show _=N.length;rw[length_append,length_map,List.length_replicate];omega
theorem vx{CX:CXT}{P:Program}{w:World}{K:PySem.W.Frag}{mg:Str→Option Value}{base:Heap}{k:Nat}{f:Addr}{name qual:Str}{params:Arguments}{body:List Stmt}{scope:Scope}{dV kV doc pm cdv ct oc:Value}{an od:Option Addr}{osl:Array (Option Value)}{N ps:List Str}{sp:Sp}(lk:K.lookup f=some ⟨oc,od,.func (fnOf name qual params body scope dV kV doc pm an cdv ct),osl⟩)(hcd:codeIn K cdv qual=true)(S:FnScope N ps scope)(len:∀vs H Q E,sp vs H Q E→vs.length=ps.length)(hbody:∀(A:Around) (outer:List Env) (s:Shared) (H:Hp) (vs:List V) (Q:VK) (E:XK),Room k (A.deeper (envOfC qual scope s.heap.objs.size f cdv))→sp vs H Q E →
   ∃t,PSs (ko CX P w K mg base N qual scope f cdv A outer s H E) body t∧t {nx:=λ_ H'=>Q .non H',rt:=Q} (start N vs) H):
  FnOk P w K mg base CX (k+1) f (fnOf name qual params body scope dV kV doc pm an cdv ct) ps sp:=by
 refine⟨len,λA outer s H args us vs Q E hr e0 hb r hsp=>?_⟩;have hl:=len _ _ _ _ hsp;have KX:K.In s.heap:=e0.mod.kin.keeps λb o e=>(e0.bs b o e).1;have lim:s.heap.NoLimit:=e0.mod.nolimit.keeps λb o e=>(e0.bs b o e).1;have hkind:∀y∈ps.zip us,scope.names.lookup y.1=some .local∨(scope.names.lookup y.1=some .cell∧((cellsFrom (s.heap.objs.size+1) scope.names []).lookup y.1).isSome=true):=λ⟨n,v⟩ hy=>by
  rcases S.par n (of_mem_zip hy).1 with q|q
  ·exact .inl q
  ·exact .inr ⟨q,PySem.W.cellsFrom_some _ _ _ (.inl q)⟩
 refine codeAny_call_function hr.depth (KX _ _ lk) rfl S.co S.gen rfl (PySem.W.codeRec_of KX hcd) (hb _ _ _ _ ?_);refine wpAny_newFunctionEnv_cells S.kind hkind λenv he s1 x=>?_;subst he;refine⟨lim.keeps x.toInCall.keep,codeAny_func ?_⟩;obtain⟨t,ht,hq⟩:=hbody A outer s H vs Q E (hr.deeper _) hsp;have I:Inv (ko CX P w K mg base N qual scope f cdv A outer s H E) [] (start N vs) H s1:=qi S hr.hd e0 hl r x;refine wpAny_mono (ht [] s1 (start N vs) H _ I hq) (λfl s' hs=>?_) λe s' hs=>hs;have fin:∀{σ':St}{H':Hp}{v:V}{u:Value},Inv (ko CX P w K mg base N qual scope f cdv A outer s H E) [] σ' H' s'→aI v u→Q v H'→CE outer P w H s Q u s' :=
  λ{σ' H' v u} J rv q=>⟨v,H',J.os,J.bare,J.base,J.hok,rv,q⟩
 cases fl with
 |ret u =>
  obtain⟨v,σ',H',J,rv,q⟩:=hs;exact fin J rv q
 |next =>
  obtain⟨σ',H',J,q⟩:=hs;exact fin (v:=V.non) (u:=Value.none) J rfl q
 |brk =>
  obtain⟨_,_,_,q⟩:=hs;exact False.elim q
 |cont =>
  obtain⟨_,_,_,q⟩:=hs;exact False.elim q
section
variable{X:Cx}{x:Str}{p pos:Pos}{e:Expr}{es:List Expr}{t:TA}{id T:String}{r:List V→Hp→VK→Prop}
def tCB(r:List V→Hp→VK→Prop)(t:TA):TE:=λσ H Q=>t σ H λvs H1=>r vs H1 Q
theorem aL(hc:cn X (.builtin id) r)(hg:Gl X x)(hm:X.mg x=none)(hv:bootBuiltins x=some (.builtin id))(ha:PA X (e::es) t)(hn:x≠"__name__":=by decide)(hdb:(x==("__debug__":Str))=false:=by decide)(he:starEach (e::es) X.env=(false,eval e X.env)::starEach es X.env:=by rfl)(hpl:(backTo pos (starEach es X.env)).any (·.1)=false:=by rfl):PE X (.Call (.Name x p) (e::es) [] pos) (tCB r t):=by
 intro pins s σ H Q I h;refine wpAny_Call_Name_kw (iD I hg hm hv ?_ hn hdb);exact PyProof.Rows.callWith_builtin1 (thn (ha pos pins s σ H _ I h) λus s1 ⟨vs,H1,I1,r1,q1⟩=>hc pins s1 σ H1 vs us Q I1 r1 q1) he hpl
theorem bf(hc:cn X (.type T) r)(hg:Gl X x)(hm:X.mg x=none)(hv:bootBuiltins x=some (.type T))(ha:PA X (e::es) t)(hn:x≠"__name__":=by decide)(hdb:(x==("__debug__":Str))=false:=by decide)(he:starEach (e::es) X.env=(false,eval e X.env)::starEach es X.env:=by rfl)(hpl:(backTo pos (starEach es X.env)).any (·.1)=false:=by rfl):PE X (.Call (.Name x p) (e::es) [] pos) (tCB r t):=by
 intro pins s σ H Q I h;refine wpAny_Call_Name_kw (iD I hg hm hv ?_ hn hdb);exact PyProof.Rows.callWith_type1 (thn (ha pos pins s σ H _ I h) λus s1 ⟨vs,H1,I1,r1,q1⟩=>hc pins s1 σ H1 vs us Q I1 r1 q1) he hpl
end
end L2
namespace HT
open PySem PyProof.Rows
section
open PySem.SeqAt
open PySem.AutoSeq1 (wpAny_loadPart')
open PySem.MeetsSeq PySem.MeetsSeq2 PySem.MeetsSeq3
end
section
variable{prog:Program}{w:World}{A:Around}{E:Value→Shared→Prop}{s:Shared}
theorem tY{t b:Addr}{vs ws:List Value}{Q:Value→Shared→Prop}(ht:IsTup s.heap t vs.toArray)(hb:IsTup s.heap b ws.toArray)(hv:vs≠[])(h1:ws=[]→Q (.ref t) s)(h2:ws≠[]→Q (.ref s.heap.objs.size) {s with heap:=s.heap.push {cls:=.type "tuple",data:=.seq (vs++ws).toArray}})(hsz:vs.length+ws.length≤sizeLine):wpAny (model prog w) A (binaryOp .Add (.ref t) (.ref b)) Q E s:=by
 obtain⟨⟨cls,dd,data,sl⟩,ho,hc,n,hd⟩:=id ht;obtain⟨⟨cls2,dd2,data2,sl2⟩,ho2,hc2,n2,hd2⟩:=id hb;simp only at hc hd hc2 hd2;subst hc hd hc2 hd2;have e:vs.toArray++ws.toArray=(vs++ws).toArray:=by simp
 by_cases hw:ws=[]
 ·exact concat_meets ⟨_,ho,rfl⟩ ⟨_,ho2,rfl⟩ noFill_tuple_add seq_tuple_add slot_tuple_add entry_tuple_add (args_tuple_add_2 _ _)
   (tuple_addW1 t b vs.toArray ws.toArray n n2 dd dd2 sl sl2 (by simpa using hv) (by simp[hw])) ⟨ho,ho2,h1 hw⟩
 ·refine concat_meets ⟨_,ho,rfl⟩ ⟨_,ho2,rfl⟩ noFill_tuple_add seq_tuple_add slot_tuple_add entry_tuple_add (args_tuple_add_2 _ _)
   (tuple_addW2 t b vs.toArray ws.toArray n n2 dd dd2 sl sl2 (by simpa using hv) (by simpa using hw) (by rw[size_toArray,size_toArray];exact hsz)) ⟨ho,ho2,?_⟩
  rw[e];exact h2 hw
def sIx(n d:Nat):Option Int→Nat
 |none=>d
 |some v=>if v<0 then (v+(n:Int)).toNat else min v.toNat n
theorem iG(n d:Nat):sIx n d none=d:=rfl
theorem dF(n d k:Nat):sIx n d (some (k:Int))=min k n:=by
 show(if (k:Int)<0 then ((k:Int)+(n:Int)).toNat else min (k:Int).toNat n)=min k n
 rw[if_neg (by omega),toNat_natCast]
theorem wg(n d:Nat)(hd:d≤n)(o:Option Int):sIx n d o≤n:=by
 cases o with
 |none=>exact hd
 |some v =>
  show(if v<0 then (v+(n:Int)).toNat else min v.toNat n)≤n
  by_cases hv:v<0
  ·rw[if_pos hv];omega
  ·rw[if_neg hv];exact Nat.min_le_right _ _
theorem oU(v:Int)(n d:Nat):(if v<0 then max (v+(n:Int)) 0 else min v (n:Int))=((sIx n d (some v):Nat):Int):=by
 show(if v<0 then max (v+(n:Int)) 0 else min v (n:Int))=(((if v<0 then (v+(n:Int)).toNat else min v.toNat n):Nat):Int)
 by_cases hv:v<0
 ·simp only[if_pos hv];omega
 ·simp only[if_neg hv];omega
theorem nN(lo hi:Option Int)(n:Nat):Builtin.Slice.sliceAdjust lo hi 1 (n:Int)=(((sIx n 0 lo:Nat):Int),((sIx n n hi:Nat):Int)):=by
 have h1:¬((1:Int)<0):=by omega
 unfold Builtin.Slice.sliceAdjust;simp only[h1,if_false];refine Prod.ext ?_ ?_
 ·cases lo with
  |none=>rfl
  |some v=>exact oU v n 0
 ·cases hi with
  |none=>rfl
  |some v=>exact oU v n n
theorem nO(i j:Nat):Builtin.Slice.slicePlaces (i:Int) (j:Int) 1=j-i:=by
 unfold Builtin.Slice.slicePlaces;have h1:(1:Int)>0:=by omega
 simp only[h1,if_true,Int.ediv_one]
 split<;>omega
theorem iH{v:Value}{o:Option Int}{Q:Option Int→Shared→Prop}(p:IsPart v o)(h:Q o s):wpAny (model prog w) A (Builtin.Slice.slicePartIndex v) Q E s:=by
 cases p with
 |none=>exact slicePart_none h
 |int i t=>exact slicePart_int h
theorem dw{sl:Addr}{vl vu:Value}{lo hi:Option Int}{n:Nat}{Q:Int×Int×Nat→Shared→Prop}(hs:s.heap.IsSliceOf sl vl vu .none)(pl:IsPart vl lo)(pu:IsPart vu hi)(h:Q (((sIx n 0 lo:Nat):Int),1,sIx n n hi-sIx n 0 lo) s):wpAny (model prog w) A (Builtin.Slice.sliceApplied (.ref sl) (pure (n:Int))) Q E s:=by
 obtain⟨os,hos,hcs,hds⟩:=id hs;unfold Builtin.Slice.sliceApplied Builtin.Slice.sliceFields;refine wpAny_bind (wpAny_bind (wpAny_field hos hds (x:=vl) rfl (wpAny_bind (wpAny_field hos hds (x:=vu) rfl (wpAny_bind (wpAny_field hos hds (x:=.none) rfl (wpAny_pure ?_)))))));refine wpAny_bind (slicePart_none ?_);show wpAny _ _ (if ((1:Int)==0)=true then _ else _) _ _ s
 rw[if_neg (by decide)];refine wpAny_bind (iH pl (wpAny_bind (iH pu (wpAny_bind (wpAny_pure ?_)))));show wpAny _ _ (match Builtin.Slice.sliceAdjust lo hi 1 (n:Int)with|(lo,hi)=>pure (lo,(1:Int),Builtin.Slice.slicePlaces lo hi 1)) _ _ s
 rw[nN lo hi n];show wpAny _ _ (pure (((sIx n 0 lo:Nat):Int),(1:Int),Builtin.Slice.slicePlaces ((sIx n 0 lo:Nat):Int) ((sIx n n hi:Nat):Int) 1)) _ _ s;rw[nO];exact wpAny_pure h
theorem rf(xs:Array Value)(i k:Nat):((List.range k).filterMap λ(m:Nat)=>xs[((i:Int)+(m:Int)*1).toNat]?).toArray=((xs.toList.drop i).take k).toArray:=by
 have e:(λ(m:Nat)=>xs[((i:Int)+(m:Int)*1).toNat]?)=λm=>xs[i+m]?:=by
  funext m
  have:((i:Int)+(m:Int)*1).toNat=i+m:=by omega
  rw[this]
 rw[e];have:=pick_run xs i k;rw[List.filterMap_map]at this;have e2:((λx=>xs[x]?)∘λx=>i+x)=λm=>xs[i+m]?:=rfl;rw[e2]at this;rw[this]
theorem gv{t sl:Addr}{items:Array Value}{vl vu:Value}{lo hi:Option Int}{Q:Value→Shared→Prop}(ht:IsTup s.heap t items)(hs:s.heap.IsSliceOf sl vl vu .none)(pl:IsPart vl lo)(pu:IsPart vu hi)(hw:¬(sIx items.size 0 lo=0∧sIx items.size items.size hi=items.size))(h:Q (.ref s.heap.objs.size) {s with heap:=s.heap.push {cls:=.type "tuple",data:=.seq ((items.toList.drop (sIx items.size 0 lo)).take (sIx items.size items.size hi-sIx items.size 0 lo)).toArray}})(hsz:items.size≤sizeLine):wpAny (model prog w) A (getItem (.ref t) (.ref sl)) Q E s:=by
 have htake:sizeOk (.seq ((items.toList.drop (sIx items.size 0 lo)).take (sIx items.size items.size hi-sIx items.size 0 lo)).toArray):=by
  show((items.toList.drop (sIx items.size 0 lo)).take (sIx items.size items.size hi-sIx items.size 0 lo)).toArray.size≤sizeLine;rw[size_toArray,length_take,length_drop,length_toList];omega
 have hj:sIx items.size items.size hi≤items.size:=wg _ _ (le_refl _) hi;obtain⟨os,hos,hcs,hds⟩:=id hs;have hTs:s.TypeIs (.ref sl) "slice":=⟨os,hos,hcs⟩;unfold getItem
 try with_reducible refine wpAny_holding ?_
 first|refine wpAny_bind (wpAny_pure ?_)|skip
 refine wpAny_bind (wpAny_sequenceKey ht.typeIs (by decide) ?_);refine wpAny_bind (wpAny_callSpecial?_slot (name:=ofString "__getitem__") ht.typeIs PyProof.Rows.slot_tuple_getitem
  (wpAny_call_entry PyProof.Rows.slot_tuple_getitem ht.typeIs entry_tuple_getitem ?_ (args_tuple_getitem _ _)))
 show wpAny _ _ (Builtin.Tuple.tupleItemsOf (.ref t) >>= _) _ _ s;refine wpAny_bind (tupleItemsOf_ ht ?_);refine wpAny_bind (wpAny_typeOf hTs ?_);rw[if_pos (by decide)];refine wpAny_bind (dw hs pl pu ?_);have hno:¬((((sIx items.size 0 lo:Nat):Int)==0&&(1:Int)==1&&(sIx items.size items.size hi-sIx items.size 0 lo)==items.size)=true):=by
  intro q;rw[and_eq_true,and_eq_true]at q;have q1:((sIx items.size 0 lo:Nat):Int)=0:=eq_of_beq q.1.1;have q2:sIx items.size items.size hi-sIx items.size 0 lo=items.size:=eq_of_beq q.2;exact hw ⟨by omega,by omega⟩
 show wpAny _ _ (if (((sIx items.size 0 lo:Nat):Int)==0&&(1:Int)==1&&(sIx items.size items.size hi-sIx items.size 0 lo)==items.size)=true then _ else _) _ _ s
 rw[if_neg hno,rf]
 first
  |exact wpAny_bind (m:=Builtin.Tuple.tupleExact _) (wpAny_newObj_type (wpAny_pure ⟨_,rfl,wpAny_pure h⟩) htake)
  |exact wpAny_bind (m:=Builtin.Tuple.tupleExact _) (wpAny_newObj_type (wpAny_bind (wpAny_pure (wpAny_pure ⟨_,rfl,wpAny_pure h⟩))) htake)
  |exact wpAny_bind (wpAny_bind (m:=Builtin.Tuple.tupleExact _) (wpAny_newObj_type (wpAny_pure (wpAny_pure ⟨_,rfl,wpAny_pure h⟩)) htake))
  |exact wpAny_bind (wpAny_bind (m:=Builtin.Tuple.tupleExact _) (wpAny_newObj_type (wpAny_pure ⟨_,rfl,wpAny_pure h⟩) htake))
end
end HT
namespace L2
open PySem PySem.Spec PyProof.Rows
abbrev TO:=St→Hp→(Option Int→Hp→Prop)→Prop
def PO(X:Cx)(e:Option Expr)(t:TO):Prop :=
 ∀(pins:List (Addr×Obj))(s:Shared)(σ:St)(H:Hp)(Q:Option Int→Hp→Prop),Inv X pins σ H s→t σ H Q →
  wpAny (model X.prog X.w) X.A (evalPart e X.env) (λu s'=>∃o H',Inv X pins σ H' s'∧IsPart u o∧Q o H') X.xe s
def tZ:TO:=λ_ H Q=>Q none H
def ya(t:TE):TO:=λσ H Q=>t σ H λx H1=>∃i,x=.int i∧Q (some i) H1
theorem nP{ns:List Int}:∀{us:List Value},aB (ns.map V.int) us→IntsAre us ns:=by
 induction ns with
 |nil=>intro us r;rw[map_nil]at r;cases r;exact .nil
 |cons n ns ih =>
  intro us r;rw[map_cons]at r;cases r with
  |cons r1 r2 =>
   obtain⟨t,e⟩:=r1;subst e;exact .cons n t (ih r2)
section
variable{X:Cx}{e:Expr}{te:TE}{lo hi:Option Expr}{tl th:TO}{pos p2:Pos}
theorem gw:PO X none tZ:=by
 intro pins s σ H Q I h;rw[evalPart_none];exact wpAny_pure ⟨none,H,I,.none,h⟩
theorem cJ(h:PE X e te):PO X (some e) (ya te):=by
 intro pins s σ H Q I hw;rw[evalPart_some];refine thn (h pins s σ H _ I hw) λu s1 hpt=>?_;obtain⟨x,H1,I1,r1,q1⟩:=hpt;obtain⟨i,rfl,q⟩:=q1;obtain⟨t,rfl⟩:=r1;exact⟨some i,H1,I1,.int i t,q⟩
def SlR(X:Cx)(r:V→Option Int→Option Int→Hp→VK→Prop):Prop :=
 ∀(pins:List (Addr×Obj))(s:Shared)(σ:St)(H:Hp)(x:V)(v vl vu:Value)(lo hi:Option Int)(sl:Addr)(Q:VK),Inv X pins σ H s→aI x v→s.heap.IsSliceOf sl vl vu .none→IsPart vl lo→IsPart vu hi→r x lo hi H Q →
  ∃T id,typeLookup (.type T) "__getitem__"=pure (some (.builtin id))∧s.TypeIs v T∧wpAny (model X.prog X.w) X.A (getItem v (.ref sl)) (EP X pins σ Q) X.xe s
theorem SlR.or{r r':V→Option Int→Option Int→Hp→VK→Prop}(h:SlR X r)(h':SlR X r'):SlR X (λx lo hi H Q=>r x lo hi H Q∨r' x lo hi H Q):=by
 intro pins s σ H x v vl vu lo hi sl Q I rx hs pl pu q;rcases q with q|q
 ·exact h pins s σ H x v vl vu lo hi sl Q I rx hs pl pu q
 ·exact h' pins s σ H x v vl vu lo hi sl Q I rx hs pl pu q
def tSl(r:V→Option Int→Option Int→Hp→VK→Prop)(te:TE)(tl th:TO):TE:=λσ H Q=>te σ H λx H1=>tl σ H1 λl H2=>th σ H2 λu H3=>r x l u H3 Q
theorem cV{r:V→Option Int→Option Int→Hp→VK→Prop}(hr:SlR X r)(he:PE X e te)(hl:PO X lo tl)(hu:PO X hi th):PE X (.Subscript e (.Slice lo hi none p2) pos) (tSl r te tl th):=by
 intro pins s σ H Q I h;refine Subscript_ (thn (he pins s σ H _ I h) λv s1 hpt=>?_);obtain⟨x,H1,I1,r1,q1⟩:=hpt;refine wpAny_Slice (thn (hl pins s1 σ H1 _ I1 q1) λvl s2 ⟨l,H2,I2,pl,q2⟩=>thn (hu pins s2 σ H2 _ I2 q2) λvu s3 hpt=>?_);obtain⟨u,H3,I3,pu,q3⟩:=hpt;rw[evalPart_none];refine wpAny_pure ?_;have I4:Inv X pins σ H3 {s3 with heap:=s3.heap.push {cls:=.type "slice",data:=.fields #[vl,vu,.none]}}:=I3.kept (t':=s3.toks) λb ob q=>get?_push_of_some _ q
 obtain⟨T,id,hT,ht,hg⟩:=hr pins {s3 with heap:=s3.heap.push {cls:=.type "slice",data:=.fields #[vl,vu,.none]}} σ H3 x v vl vu l u s3.heap.objs.size Q I4 r1 (Heap.IsSliceOf.new ..) pl pu q3
 show wpAny (model X.prog X.w) X.A (subscriptTail e (.Slice lo hi none p2) v (.ref s3.heap.objs.size)) (EP X pins σ Q) X.xe {s3 with heap:=s3.heap.push {cls:=.type "slice",data:=.fields #[vl,vu,.none]}}
 exact tail_any (ops:=[.ref s3.heap.objs.size,v]) ht hT hg (by with_unfolding_all rfl)
def io(xs:List V)(lo hi:Option Int):List V:=(xs.drop (HT.sIx xs.length 0 lo)).take (HT.sIx xs.length xs.length hi-HT.sIx xs.length 0 lo)
theorem lJ(xs:List V)(lo hi:Option Int):(io xs lo hi).length≤xs.length:=by
 unfold io;rw[length_take,length_drop];omega
def ua(K:PySem.W.Frag):V→Option Int→Option Int→Hp→VK→Prop:=λx lo hi H Q=>∃a xs,x=.ref a∧SqT K H a xs ∧
 ¬(HT.sIx xs.length 0 lo=0∧HT.sIx xs.length xs.length hi=xs.length)∧∀p,H p=none→Q (.ref p) (upd H p (.tup (io xs lo hi)))
theorem fo:SlR X (ua X.K):=by
 intro pins s σ H x v vl vu lo hi sl Q I rx hs pl pu h;obtain⟨a,xs,rfl,hx,hw,q⟩:=h;cases rx;obtain⟨its,r,ht,hz⟩:=I.tuple hx;have hlen:its.toArray.size=xs.length:=by rw[size_toArray];exact r.length.symm
 refine⟨"tuple",_,PyProof.Rows.slot_tuple_getitem.lookup,ht.typeIs,?_⟩;refine HT.gv ht hs pl pu (by rw[hlen];exact hw) ?_ (by rw[hlen];exact hz);rw[hlen];refine⟨.ref s.heap.objs.size,_,I.laid (t':=s.toks) (o:=.tup (io xs lo hi)) (λb ob q=>get?_push_of_some _ q) (le_refl _) ?_,rfl,q _ (I.hok.fresh (le_refl _))⟩;exact⟨le_trans (lJ xs lo hi) hz,_,(r.drop (HT.sIx xs.length 0 lo)).take (HT.sIx xs.length xs.length hi-HT.sIx xs.length 0 lo),IsTup.new _ _⟩
def oV(K:PySem.W.Frag):R2:=λx y H Q=>∃a b xs ys,x=.ref a∧y=.ref b∧SqT K H a xs∧SqT K H b ys∧xs≠[]∧xs.length+ys.length≤sizeLine ∧
 (ys=[]→Q (.ref a) H)∧(ys≠[]→∀p,H p=none→Q (.ref p) (upd H p (.tup (xs++ys))))
theorem aB.nil_iff{xs:List V}{us:List Value}(r:aB xs us):us=[]↔xs=[]:=by
 cases r with
 |nil=>simp
 |cons _ _=>simp
theorem eQ:OpR X (binaryOp .Add) (oV X.K):=by
 intro pins s σ H x y v u Q I rx ry h;obtain⟨a,b,xs,ys,rfl,rfl,ha,hb,hx,hz,q1,q2⟩:=h;cases rx;cases ry;obtain⟨its,r1,p1,_⟩:=I.tuple ha;obtain⟨its2,r2,p2,_⟩:=I.tuple hb;refine HT.tY p1 p2 (λz=>hx (r1.nil_iff.mp z)) (λz=>⟨.ref a,H,I,rfl,q1 (r2.nil_iff.mp z)⟩) (λz=>?_) (by rw[←r1.length,←r2.length];exact hz);refine⟨.ref s.heap.objs.size,_,I.laid (t':=s.toks) (o:=.tup (xs++ys)) (λb ob q=>get?_push_of_some _ q) (le_refl _) ?_,rfl,q2 (λw=>z (r2.nil_iff.mpr w)) _ (I.hok.fresh (le_refl _))⟩;exact⟨by rw[length_append];exact hz,_,r1.append r2,IsTup.new _ _⟩
end
def ixN(n:Nat)(i:Int):Option Nat:=if 0≤i then (if i<n then some i.toNat else none)else if -(n:Int)≤i then some (i+n).toNat else none
def atI{α:Type}(xs:List α)(i:Int):Option α:=(ixN xs.length i).bind λj=>xs[j]?
theorem oW{n:Nat}{i:Int}{j:Nat}(h:ixN n i=some j):seqIndex? i n=some j∧j<n∧-(n:Int)≤i∧i<n:=by
 unfold ixN at h
 by_cases h0:0≤i
 ·rw[if_pos h0]at h
  by_cases h1:i<n
  ·rw[if_pos h1]at h;have e:i.toNat=j:=Option.some.inj h;exact⟨by rw[seqIndex_of h0 h1,e],by omega,by omega,h1⟩
  ·rw[if_neg h1]at h;cases h
 ·rw[if_neg h0]at h
  by_cases h1:-(n:Int)≤i
  ·rw[if_pos h1]at h;have e:(i+n).toNat=j:=Option.some.inj h;exact⟨by rw[seqIndex_neg (by omega) h1,e],by omega,h1,by omega⟩
  ·rw[if_neg h1]at h;cases h
theorem kq{α:Type}{xs:List α}{i:Int}{v:α}(h:atI xs i=some v):∃j,seqIndex? i xs.length=some j∧xs[j]?=some v∧j<xs.length∧-(xs.length:Int)≤i∧i<xs.length:=by
 unfold atI at h;cases e:ixN xs.length i with
 |none=>rw[e]at h;cases h
 |some j =>
  rw[e]at h;obtain⟨h1,h2,h3,h4⟩:=oW e;exact⟨j,h1,h,h2,h3,h4⟩
theorem bG{α:Type}{xs:List α}{j:Nat}{v:α}(h:xs[j]?=some v):atI xs (j:Int)=some v:=by
 have hj:j<xs.length:=(List.getElem?_eq_some_iff.mp h).1;have e:ixN xs.length (j:Int)=some j:=by
  unfold ixN;rw[if_pos (by omega),if_pos (by omega)];simp
 unfold atI;rw[e];exact h
theorem rg{α:Type}(xs:List α)(v:α):atI (xs++[v]) (-1)=some v:=by
 have hl:(xs++[v]).length=xs.length+1:=by simp
 have e:ixN (xs++[v]).length (-1)=some xs.length:=by
  unfold ixN;rw[hl,if_neg (by decide),if_pos (by omega)]
  congr 1
  omega
 unfold atI;rw[e];show(xs++[v])[xs.length]?=some v;simp
def uc(b:Expr):Prop:=∀o i,subscripted b false o i=operate [o,i] (getItem o i)
def IxR(X:Cx)(r:R2):Prop :=
 ∀(value slice:Expr)(pins:List (Addr×Obj))(s:Shared)(σ:St)(H:Hp)(x y:V)(v u:Value)(Q:VK),Inv X pins σ H s→aI x v→aI y u→r x y H Q →
  subscripted slice false v u=operate [v,u] (getItem v u)→wpAny (model X.prog X.w) X.A (subscriptTail value slice v u) (EP X pins σ Q) X.xe s
def MtR(X:Cx)(id:String)(r:V→List V→Hp→VK→Prop):Prop :=
 ∀(pins:List (Addr×Obj))(s:Shared)(σ:St)(H:Hp)(x:V)(xs:List V)(v:Value)(us:List Value)(Q:VK),Inv X pins σ H s→aI x v→aB xs us→r x xs H Q →
  wpAny (model X.prog X.w) X.A (call (.builtin id) (v::us)) (EP X pins σ Q) X.xe s
section
variable{X:Cx}{a b:Expr}{ta tb:TE}{pos:Pos}
theorem ar{r:R2}(hr:IxR X r)(ha:PE X a ta)(hb:PE X b tb)(hs:uc b):PE X (.Subscript a b pos) (tOp r ta tb):=by
 intro pins s σ H Q I h;exact Subscript_ (vW ha hb I h λv u s2 x y H2 I2 rx ry q=>hr a b pins s2 σ H2 x y v u Q I2 rx ry q (hs _ _))
def nQ(K:PySem.W.Frag):R2:=λx y H Q=>∃p xs i v,x=.ref p∧y=.int i∧SqL K H p xs∧atI xs i=some v∧Q v H
def dc(K:PySem.W.Frag):R2:=λx y H Q=>∃p xs i v,x=.ref p∧y=.int i∧SqT K H p xs∧atI xs i=some v∧Q v H
def yX:R2:=λx y H Q=>∃z i c,x=.str z∧y=.int i∧z.length≤sizeLine∧atI z.cps.toList i=some c∧Q (.str ⟨#[c]⟩) H
theorem cK:IxR X (nQ X.K):=by
 intro value slice pins s σ H x y v u Q I rx ry h hs;obtain⟨p,xs,i,z,rfl,rfl,hq,he,q⟩:=h;cases rx;obtain⟨t,rfl⟩:=ry;obtain⟨its,r,pl,hz⟩:=I.list hq;obtain⟨j,h1,h2,h3,h4,h5⟩:=kq he;obtain⟨w,ew,rw'⟩:=r.get h2;have hl:=r.length;have hn:=gT;have fin:EP X pins σ Q w s:=⟨z,H,I,rw',q⟩
 by_cases h0:0≤i
 ·have hj:i.toNat=j:=by
   rw[seqIndex_of h0 h5]at h1;exact Option.some.inj h1
  exact item_listR pl.isList h0 (by omega) (by rw[hj];simpa using ew) fin hs
 ·have hj:(i+(its.toArray.size:Int)).toNat=j:=by
   rw[seqIndex_neg (by omega) h4]at h1;rw[size_toArray,←hl];exact Option.some.inj h1
  exact subscriptTail_builtinR (x:=w) pl.isList.typeIs slot_list_getitem.lookup
   (wpAny_getItem_list_neg (Q:=λr s'=>r=w∧EP X pins σ Q r s') pl.isList (by omega) (by rw[size_toArray]<;>omega) (by omega) (by rw[hj];simpa using ew) ⟨rfl,fin⟩) hs
theorem ap:IxR X (dc X.K):=by
 intro value slice pins s σ H x y v u Q I rx ry h hs;obtain⟨p,xs,i,z,rfl,rfl,hq,he,q⟩:=h;cases rx;obtain⟨t,rfl⟩:=ry;obtain⟨its,r,pl,hz⟩:=I.tuple hq;obtain⟨j,h1,h2,h3,h4,h5⟩:=kq he;obtain⟨w,ew,rw'⟩:=r.get h2;have hl:=r.length;have hn:=gT;have fin:EP X pins σ Q w s:=⟨z,H,I,rw',q⟩;exact subscriptTail_builtinR (x:=w) pl.typeIs slot_tuple_getitem.lookup
  (getItem_tuple (j:=j) (Q:=λr s'=>r=w∧EP X pins σ Q r s') pl (by omega) (by omega) (by rw[size_toArray,←hl];exact h1) (by simpa using ew) ⟨rfl,fin⟩) hs
theorem wj:IxR X yX:=by
 intro value slice pins s σ H x y v u Q I rx ry h hs;obtain⟨z,i,c,rfl,rfl,hz,he,q⟩:=h;obtain⟨t,rfl⟩:=rx;obtain⟨t',rfl⟩:=ry;obtain⟨j,h1,h2,h3,h4,h5⟩:=kq he;have hl:z.cps.toList.length=z.length:=by simp[Str.length]
 rw[hl]at h1 h4 h5;have hn:=gT;exact tail_any (typeIs_str s z t) slot_str_getitem.lookup (getItem_str (c:=c) (by
  have e1:decide (i < -(2 ^ 63:Int))=false:=decide_eq_false (by omega);have e2:decide (i≥2 ^ 63)=false:=decide_eq_false (by omega);rw[e1,e2,Bool.or_false]) (by rw[h1];simpa using h2) ⟨.str ⟨#[c]⟩,H,I.tok _,⟨_,rfl⟩,q⟩) hs
def cy:V→Bool
 |.non=>true
 |.bl _=>true
 |.int _=>true
 |.str _=>true
 |_=>false
def eqV:V→V→Bool
 |.non,.non=>true
 |.bl a,.bl b=>a==b
 |.bl a,.int b=>(if a then 1 else 0)==b
 |.int a,.bl b=>a==(if b then 1 else 0)
 |.int a,.int b=>a==b
 |.str a,.str b=>a==b
 |_,_=>false
theorem kr{A:Around}{s:Shared}{y x:V}{u v:Value}(ry:aI y u)(rx:aI x v)(fy:cy y=true)(fx:cy x=true):EqAt A s u v (eqV y x):=by
 cases y with
 |non =>
  cases ry;cases x with
  |non=>cases rx;exact EqAt.same _
  |bl b=>cases rx;exact EqAt.none_bool b
  |int b=>obtain⟨t,rfl⟩:=rx;exact EqAt.none_int b t
  |str b=>obtain⟨t,rfl⟩:=rx;exact EqAt.none_str b t
  |_=>exact absurd (show false=true from fx) Bool.false_ne_true
 |bl a =>
  cases ry;cases x with
  |non=>cases rx;exact EqAt.bool_none a
  |bl b=>cases rx;exact EqAt.bool_bool a b
  |int b=>obtain⟨t,rfl⟩:=rx;exact EqAt.bool_int a b t
  |str b=>obtain⟨t,rfl⟩:=rx;exact EqAt.bool_str a b t
  |_=>exact absurd (show false=true from fx) Bool.false_ne_true
 |int a =>
  obtain⟨t',rfl⟩:=ry;cases x with
  |non=>cases rx;exact EqAt.int_none a t'
  |bl b=>cases rx;exact EqAt.int_bool a t' b
  |int b=>obtain⟨t,rfl⟩:=rx;exact EqAt.int_int a t' b t
  |str b=>obtain⟨t,rfl⟩:=rx;exact EqAt.int_str a t' b t
  |_=>exact absurd (show false=true from fx) Bool.false_ne_true
 |str a =>
  obtain⟨t',rfl⟩:=ry;cases x with
  |non=>cases rx;exact EqAt.str_none a t'
  |bl b=>cases rx;exact EqAt.str_bool a t' b
  |int b=>obtain⟨t,rfl⟩:=rx;exact EqAt.str_int a t' b t
  |str b=>obtain⟨t,rfl⟩:=rx;exact EqAt.str_str a t' b t
  |_=>exact absurd (show false=true from fx) Bool.false_ne_true
 |_=>exact absurd (show false=true from fy) Bool.false_ne_true
def eqU(x:V)(u:Value):Bool:=match u with
 |.none=>eqV .non x
 |.bool b=>eqV (.bl b) x
 |.int i _=>eqV (.int i) x
 |.str z _=>eqV (.str z) x
 |_=>false
theorem rh{x y:V}{u:Value}(r:aI y u)(f:cy y=true):eqU x u=eqV y x:=by
 cases y with
 |non=>cases r;rfl
 |bl b=>cases r;rfl
 |int i=>obtain⟨t,rfl⟩:=r;rfl
 |str z=>obtain⟨t,rfl⟩:=r;rfl
 |_=>exact absurd (show false=true from f) Bool.false_ne_true
theorem kt{x:V}:∀{xs:List V}{us:List Value},aB xs us→xs.all cy=true→us.any (eqU x)=xs.any λy=>eqV y x
 |_,_,.nil,_=>rfl
 |y::xs,u::us,.cons r t,f=>by
  rw[List.all_cons,and_eq_true]at f;rw[any_cons,any_cons,rh r f.1,kt t f.2]
theorem iI{A:Around}{s:Shared}{x:V}{v:Value}(rx:aI x v)(fx:cy x=true):∀{xs:List V}{us:List Value},aB xs us→xs.all cy=true→∀u∈us,EqAt A s u v (eqU x u)
 |_,_,.nil,_=>λu hu=>by cases hu
 |y::xs,u::us,.cons r t,f=>λu' hu=>by
  rw[List.all_cons,and_eq_true]at f;rcases mem_cons.mp hu with rfl|hu
  ·rw[rh r f.1];exact kr r rx f.1 fx
  ·exact iI rx fx t f.2 u' hu
def inV(x:V)(xs:List V):Bool:=xs.any λy=>eqV y x
def rIn(K:PySem.W.Frag)(neg:Bool):R2:=λx y H Q=>∃p xs,y=.ref p∧(SqL K H p xs∨SqT K H p xs)∧cy x=true∧xs.all cy=true∧Q (.bl (if neg then !inV x xs else inV x xs)) H
theorem qj:OpR X (compareOp .In) (rIn X.K false):=by
 intro pins s σ H x y v u Q I rx ry h;obtain⟨p,xs,rfl,hq,fx,fs,q⟩:=h;cases ry;rcases hq with hq|hq
 ·obtain⟨its,r,pl,hz⟩:=I.list hq;refine SeqAt.in_listAt (eqU x) pl.isList (λw hw=>iI rx fx r fs w (by simpa using hw)) ⟨.bl _,H,I,rfl,?_⟩;rw[show its.toArray.any (eqU x)=its.any (eqU x)by simp,kt r fs];exact q
 ·obtain⟨its,r,pl,hz⟩:=I.tuple hq;refine SeqAt.in_tupleAt (eqU x) pl (λw hw=>iI rx fx r fs w (by simpa using hw)) ⟨.bl _,H,I,rfl,?_⟩;rw[show its.toArray.any (eqU x)=its.any (eqU x)by simp,kt r fs];exact q
theorem bt:cn X (.builtin "len") (λxs H Q=>∃p ys,xs=[.ref p]∧(SqL X.K H p ys∨SqT X.K H p ys)∧Q (.int ys.length) H):=by
 intro pins s σ H xs us Q I r h;obtain⟨p,ys,rfl,hq,q⟩:=h;obtain⟨u,rfl,rx⟩:=ee r;cases rx;have hn:=gT;rcases hq with hq|hq
 ·obtain⟨its,r',pl,hz⟩:=I.list hq;have hlen:=r'.length;exact Calls.call_len_list pl.isList (by simp only[size_toArray]<;>omega) ⟨.int ys.length,H,I.tok _,⟨s.toks+1,by rw[size_toArray,hlen]⟩,q⟩
 ·obtain⟨its,r',pl,hz⟩:=I.tuple hq;have hlen:=r'.length;exact len_tuple pl (by simp only[size_toArray]<;>omega) ⟨.int ys.length,H,I.tok _,⟨s.toks+1,by rw[size_toArray,hlen]⟩,q⟩
theorem dG:cn X (.builtin "len") (λxs H Q=>∃z,xs=[.str z]∧z.length≤sizeLine∧Q (.int z.length) H):=by
 intro pins s σ H xs us Q I r h;obtain⟨z,rfl,hz,q⟩:=h;obtain⟨u,rfl,t,rfl⟩:=ee r;have hn:=gT;exact len_str (by omega) ⟨.int z.length,H,I.tok _,⟨_,rfl⟩,q⟩
theorem bZ:cn X (.type "tuple") (λxs H Q=>∃p ys,xs=[.ref p]∧((SqL X.K H p ys∧∀l,H l=none→Q (.ref l) (upd H l (.tup ys)))∨(SqT X.K H p ys∧Q (.ref p) H))):=by
 intro pins s σ H xs us Q I r h;obtain⟨p,ys,rfl,h⟩:=h;obtain⟨u,rfl,rx⟩:=ee r;cases rx;rcases h with⟨hq,q⟩|⟨hq,q⟩
 ·obtain⟨its,r',pl,hz⟩:=I.list hq;have hlen:=r'.length;refine call_tuple_list pl.isList (λh' kp=>?_) (by simp only[size_toArray]<;>omega);have I1:Inv X pins σ H {s with heap:=h'}:=I.kept (t':=s.toks) kp
  have I2:Inv X pins σ (upd H h'.objs.size (.tup ys)) {s with heap:=h'.push {cls:=.type "tuple",data:=.seq its.toArray}} :=
   I1.laid (t':=s.toks) (λb o e=>get?_push_of_some _ e) (le_refl _) (show ba X.prog X.w _ _ _ (.tup ys)from⟨hz,its,r',IsTup.new _ _⟩)
  exact⟨.ref h'.objs.size,_,I2,rfl,q _ (I1.hok.fresh (le_refl _))⟩
 ·obtain⟨its,r',pl,hz⟩:=I.tuple hq;exact call_tuple_same pl ⟨.ref p,H,I,rfl,q⟩
def tyV(K:PySem.W.Frag)(T:String)(x:V)(H:Hp):Prop:=match x with
 |.str _=>T="str"
 |.int _=>T="int"
 |.ref p=>(T="list"∧∃xs,SqL K H p xs)∨(T="tuple"∧∃o,K.lookup p=some o∧o.cls=.type "tuple"∧o.dict=none) ∨
   (T="dict"∧((∃kvs,H p=some (.dK kvs))∨∃kvs,H p=some (.dT kvs)))∨(T="set"∧∃S n,H p=some (.set S n))
 |_=>False
theorem ri{pins:List (Addr×Obj)}{σ:St}{H:Hp}{s:Shared}{T:String}{x:V}{v:Value}(I:Inv X pins σ H s)(r:aI x v)(ty:tyV X.K T x H):
  s.TypeIs v T∧∀a,v=.ref a→∃ob,s.heap.get? a=some ob∧ob.dict=none:=by
 cases x with
 |str z =>
  obtain⟨t,rfl⟩:=r;cases (show T="str" from ty);exact⟨typeIs_str s z t,λ_ e=>nomatch e⟩
 |int i =>
  obtain⟨t,rfl⟩:=r;cases (show T="int" from ty);exact⟨typeIs_int s i t,λ_ e=>nomatch e⟩
 |ref p =>
  cases r;rcases ty with⟨rfl,xs,hq⟩|⟨rfl,o,hk,hc,hd⟩|⟨rfl,hk⟩|⟨rfl,S,n,hk⟩
  ·obtain⟨its,_,pl,_⟩:=I.list hq;refine⟨pl.isList.typeIs,λa e=>?_⟩;cases e;obtain⟨o,n,e,c,hd,_⟩:=pl;exact⟨o,e,hd⟩
  ·refine⟨⟨o,I.kIn p o hk,hc⟩,λa e=>?_⟩;cases e;exact⟨o,I.kIn _ o hk,hd⟩
  ·have z:∃o,s.heap.get? p=some o∧o.ExactDict:=by
    rcases hk with⟨kvs,hk⟩|⟨kvs,hk⟩
    ·obtain⟨_,_,_,_,o,_,_,e,ex,_⟩:=I.hok p _ hk;exact⟨o,e,ex⟩
    ·obtain⟨_,_,_,_,o,_,_,e,ex,_⟩:=I.hok p _ hk;exact⟨o,e,ex⟩
   obtain⟨o,e,ex⟩:=z;refine⟨⟨o,e,ex.1⟩,λa e2=>?_⟩;cases e2;exact⟨o,e,ex.2.1⟩
  ·obtain⟨o,_,_,_,e,ex,_⟩:=I.hok p _ hk;refine⟨⟨o,e,ex.1⟩,λa e2=>?_⟩;cases e2;exact⟨o,e,ex.2.1⟩
 |_=>exact False.elim ty
def yY(K:PySem.W.Frag)(T:String)(r:V→List V→Hp→VK→Prop)(to:TE):TE:=λσ H Q=>to σ H λx H1=>tyV K T x H1∧r x [] H1 Q
def tBM(K:PySem.W.Frag)(T:String)(r:V→List V→Hp→VK→Prop)(to:TE)(t:TA):TE:=λσ H Q=>to σ H λx H1=>tyV K T x H1∧t σ H1 λxs H2=>r x xs H2 Q
variable{o e:Expr}{es:List Expr}{to:TE}{t:TA}{name:Str}{apos cpos:Pos}{T id:String}{r:V→List V→Hp→VK→Prop}
theorem wm(pa:PlainAttrs T)(slot:Slot T name id)(hty:typeOf (.builtin id)=pure (.type "method_descriptor"))(hm:MtR X id r)(ho:PE X o to)(hbase:attributeBase o name X.env (eval o X.env)=eval o X.env:=by rfl)(hline:(apos.endLine==cpos.line)=true:=by rfl):PE X (.Call (.Attribute o name apos) [] [] cpos) (yY X.K T r to):=by
 intro pins s σ H Q I h;refine wpAny_Call_method0_late hbase hline (thn (ho pins s σ H _ I h) λv s1 hpt=>?_);obtain⟨x,H1,I1,r1,ty,q1⟩:=hpt;obtain⟨h1,h2⟩:=ri I1 r1 ty;exact⟨T,id,pa,slot,hty,h1,h2,Calls.callWith_builtin rfl (PySem.evalArgs_none (hm pins s1 σ H1 x [] v [] Q I1 r1 .nil q1))⟩
theorem eA(pa:PlainAttrs T)(slot:Slot T name id)(hty:typeOf (.builtin id)=pure (.type "method_descriptor"))(hm:MtR X id r)(ho:PE X o to)(ha:PA X (e::es) t)(hbase:attributeBase o name X.env (eval o X.env)=eval o X.env:=by rfl)(hfew:((backTo cpos (starEach (e::es) X.env)).all (λx=>!x.1)&&(backToKw cpos (keywordEach [] X.env)).all (λx=>x.1.isSome)
   && decide ((e::es).length+([]:List Keyword).length+(if ([]:List Keyword).isEmpty then 0 else 1)<30))=true:=by rfl)(hline:(apos.endLine==cpos.line)=true:=by rfl)(hs:starEach (e::es) X.env=(false,eval e X.env)::starEach es X.env:=by rfl)(hplain:(backTo cpos (starEach es X.env)).any (·.1)=false:=by rfl):
  PE X (.Call (.Attribute o name apos) (e::es) [] cpos) (tBM X.K T r to t):=by
 intro pins s σ H Q I h;refine wpAny_Call_method_late hbase hfew hline rfl (thn (ho pins s σ H _ I h) λv s1 hpt=>?_);obtain⟨x,H1,I1,r1,ty,q1⟩:=hpt;obtain⟨h1,h2⟩:=ri I1 r1 ty;refine⟨T,id,pa,slot,hty,h1,h2,?_⟩;have hA:=ha cpos pins s1 σ H1 _ I1 q1;rw[hs]at hA⊢;refine Calls.callWith_builtin (by show(false||(backTo cpos (starEach es X.env)).any (·.1))=false;rw[hplain]<;>rfl) (evalArgs_plain ?_);exact thn hA λus s2 ⟨vs,H2,I2,r2,q2⟩=>hm pins s2 σ H2 x vs v us Q I2 r1 r2 q2
end
def MtM(X:Cx)(id:String)(r:V→List V→Hp→VK→Prop):Prop :=
 ∀(pins:List (Addr×Obj))(s:Shared)(σ:St)(H:Hp)(x:V)(xs:List V)(v:Value)(us:List Value)(Q:VK),Inv X pins σ H s→aI x v→aB xs us→r x xs H Q →
  wpAny (model X.prog X.w) X.A (call (.builtin id) (v::us)) (EP X pins σ Q) X.xe s
theorem aB.one:∀{x:V}{us:List Value},aB [x] us→∃u,us=[u]∧aI x u
 |_,_,.cons r .nil=>⟨_,rfl,r⟩
theorem aB.two:∀{x y:V}{us:List Value},aB [x,y] us→∃u v,us=[u,v]∧aI x u∧aI y v
 |_,_,_,.cons r (.cons q .nil)=>⟨_,_,rfl,r,q⟩
theorem aB.zero:∀{us:List Value},aB [] us→us=[]
 |_,.nil=>rfl
theorem aB.dropLast{xs:List V}{us:List Value}(h:aB xs us):aB xs.dropLast us.dropLast:=by
 induction h with
 |nil=>exact .nil
 |cons r t ih =>
  cases t with
  |nil=>exact .nil
  |cons q t'=>exact .cons r ih
theorem aB.eraseIdx:∀{xs:List V}{us:List Value}(i:Nat),aB xs us→aB (xs.eraseIdx i) (us.eraseIdx i)
 |_,_,_,.nil=>.nil
 |_,_,0,.cons _ t=>t
 |_,_,i+1,.cons r t=>.cons r (aB.eraseIdx i t)
theorem aB.reverse{xs:List V}{us:List Value}(h:aB xs us):aB xs.reverse us.reverse:=by
 induction h with
 |nil=>exact .nil
 |cons r t ih=>rw[reverse_cons,reverse_cons];exact aB.append ih (.cons r .nil)
theorem aB.rep{xs:List V}{us:List Value}(h:aB xs us):∀k:Nat,aB (replicate k xs).flatten (replicate k us).flatten
 |0=>.nil
 |k+1=>by
  rw[replicate_succ,replicate_succ,flatten_cons,flatten_cons];exact aB.append h (aB.rep h k)
theorem nR{α:Type}(l:List α):l.eraseIdx (l.length-1)=l.dropLast:=by
 induction l with
 |nil=>rfl
 |cons a r ih =>
  cases r with
  |nil=>rfl
  |cons b r =>
   have e:(a::b::r).length-1=((b::r).length-1)+1:=by
    have h1:(a::b::r).length=r.length+2:=rfl;have h2:(b::r).length=r.length+1:=rfl;omega
   rw[e,List.eraseIdx_cons_succ,ih]
   all_goals rfl
theorem jE{α:Type}:∀(l:List α)(i:Nat),(l.eraseIdx i).length≤l.length
 |[],_=>le_refl _
 |_::_,0=>le_succ _
 |_::r,i+1=>Nat.succ_le_succ (jE r i)
theorem jF(its:List Value):∀(k:Nat)(acc:List Value),
  foldl (λx1 x2=>x1++x2) acc.toArray (replicate k its.toArray)=(acc++(replicate k its).flatten).toArray
 |0,acc=>by simp
 |k+1,acc=>by
  have e:acc.toArray++its.toArray=(acc++its).toArray:=by simp
  have e2:(acc++its)++(replicate k its).flatten=acc++(replicate (k+1) its).flatten:=by
   rw[replicate_succ,flatten_cons,append_assoc]
  rw[←e2,←jF its k (acc++its),←e,replicate_succ,foldl_cons]
section
variable{X:Cx}{pins:List (Addr×Obj)}{σ:St}{H:Hp}{s:Shared}{l b:Addr}{xs ys zs:List V}
theorem Inv.lset{its its':List Value}{n:Nat}{f:Array Value→Array Value}{t':Nat}(I:Inv X pins σ H s)(hH:H l=some (.lst xs))(e:s.heap.get? l=some {cls:=.type "list",data:=.seq its.toArray n})(hf:f its.toArray=its'.toArray)(hv:aB ys its')(hz:ys.length≤sizeLine):
  Inv X pins σ (upd H l (.lst ys)) {s with heap:=s.heap.update l (Obj.mapSeq f),toks:=t'}:=by
 have q:=PySem.IsL.update e f;rw[hf]at q;refine I.write (x:=l) (e:=l) (by rw[hH];exact trivial) (.inl rfl) (λb' u hb hu=>(Heap.get?_update_other s.heap (Obj.mapSeq f) (symm hb)).trans hu) ⟨_,q⟩ ?_;exact⟨hz,its',_,hv,q⟩
theorem Inv.lnew{its:List Value}{t':Nat}(I:Inv X pins σ H s)(hv:aB ys its)(hz:ys.length≤sizeLine):
  Inv X pins σ (upd H s.heap.objs.size (.lst ys)) {s with heap:=s.heap.push {cls:=.type "list",data:=.seq its.toArray},toks:=t'} :=
 I.laid (λ_ _ q=>get?_push_of_some _ q) (le_refl _) ⟨hz,its,0,hv,get?_push_size _ rfl⟩
theorem Inv.fresh(I:Inv X pins σ H s):H s.heap.objs.size=none:=I.hok.fresh (le_refl _)
theorem Inv.lstM(I:Inv X pins σ H s)(hH:H l=some (.lst xs)):xs.length≤sizeLine∧∃(its:List Value) (n:Nat),aB xs its∧xs.length=its.length∧s.heap.get? l=some {cls:=.type "list",data:=.seq its.toArray n}:=by
 obtain⟨z,its,n,r,e⟩:=I.hok l _ hH;exact⟨z,its,n,r,r.length,e⟩
theorem rj{n:Nat}(h:n≤sizeLine):Builtin.List.listTooLong n=false:=by
 unfold Builtin.List.listTooLong;exact decide_eq_false (by omega)
def ud:V→List V→Hp→VK→Prop:=λx vs H Q=>∃l xs y,x=.ref l∧vs=[y]∧H l=some (.lst xs)∧xs.length<sizeLine∧Q .non (upd H l (.lst (xs++[y])))
theorem bg:MtM X "list.append" ud:=by
 intro pins s σ H x vs v us Q I rx rv h;obtain⟨l,xs,y,rfl,rfl,hH,hz,q⟩:=h;cases rx;obtain⟨u,rfl,ru⟩:=rv.one;obtain⟨z,its,n,r,hl,e⟩:=I.lstM hH;refine call_meets F.slot_list_append ⟨_,e,rfl⟩ F.entry_list_append (F.args_list_append_2 _ _) (PySem.list_append l its.toArray n u (by rw[size_toArray];omega)) ⟨e,?_⟩;refine⟨.non,_,I.lset (its':=its++[u]) hH e (by simp) (r.append (.cons ru .nil)) ?_,rfl,q⟩;rw[length_append,length_singleton];omega
def yZ:V→List V→Hp→VK→Prop:=λx vs H Q=>∃l xs y,x=.ref l∧vs=[]∧H l=some (.lst xs)∧xs[xs.length-1]?=some y∧Q y (upd H l (.lst xs.dropLast))
theorem wn:MtM X "list.pop" yZ:=by
 intro pins s σ H x vs v us Q I rx rv h;obtain⟨l,xs,y,rfl,rfl,hH,hy,q⟩:=h;cases rx;have hus:=rv.zero;subst hus;obtain⟨z,its,n,r,hl,e⟩:=I.lstM hH;obtain⟨u,hu,ru⟩:=r.get hy;have hy':its.toArray[its.toArray.size-1]?=some u:=by
  show its.toArray[its.length-1]?=some u;rw[←getElem?_toList,←hl];exact hu
 refine call_meets F.slot_list_pop ⟨_,e,rfl⟩ F.entry_list_pop (F.args_list_pop_1 _) (MeetsSeq.list_pop_last l its.toArray n u hy' (by rw[size_toArray];omega)) ⟨e,?_⟩;refine⟨y,_,I.lset (its':=its.dropLast) hH e ?_ r.dropLast ?_,ru,q⟩
 ·show its.toArray.eraseIdxIfInBounds (its.toArray.size-1)=its.dropLast.toArray;rw[size_toArray,List.eraseIdxIfInBounds_toArray,nR]
 ·rw[List.length_dropLast];omega
def wo:V→List V→Hp→VK→Prop:=λx vs H Q=>∃l xs i k y,x=.ref l∧vs=[.int i]∧H l=some (.lst xs)∧-(2 ^ 63)≤i∧i<2 ^ 63∧seqIndex? i xs.length=some k∧xs[k]?=some y∧Q y (upd H l (.lst (xs.eraseIdx k)))
theorem rk:MtM X "list.pop" wo:=by
 intro pins s σ H x vs v us Q I rx rv h;obtain⟨l,xs,i,k,y,rfl,rfl,hH,h1,h2,hk,hy,q⟩:=h;cases rx;obtain⟨u,rfl,ru⟩:=rv.one;obtain⟨t,rfl⟩:=ru;obtain⟨z,its,n,r,hl,e⟩:=I.lstM hH;obtain⟨w,hw,rw'⟩:=r.get hy;refine call_meets F.slot_list_pop ⟨_,e,rfl⟩ F.entry_list_pop (F.args_list_pop_2 _ _)
  (MeetsSeq.list_pop_at l its.toArray n i t k w (fitsIndex_both h1 h2) (by rw[size_toArray,←hl];exact hk) (by rw[←getElem?_toList];exact hw) (by rw[size_toArray];omega)) ⟨e,?_⟩
 refine⟨y,_,I.lset (its':=its.eraseIdx k) hH e ?_ (r.eraseIdx k) ?_,rw',q⟩
 ·show its.toArray.eraseIdxIfInBounds k=(its.eraseIdx k).toArray;rw[List.eraseIdxIfInBounds_toArray]
 ·have:=jE xs k;omega
def za:R2:=λx y H Q=>∃l b xs zs,x=.ref l∧y=.ref b∧H l=some (.lst xs)∧H b=some (.lst zs)∧xs.length+zs.length≤sizeLine∧∀p,H p=none→Q (.ref p) (upd H p (.lst (xs++zs)))
theorem wp:OpR X (binaryOp .Add) za:=by
 intro pins s σ H x y v u Q I rx ry h;obtain⟨l,b,xs,zs,rfl,rfl,hH,hB,hz,q⟩:=h;cases rx;cases ry;obtain⟨z,its,n,r,hl,e⟩:=I.lstM hH;obtain⟨z2,its2,n2,r2,hl2,e2⟩:=I.lstM hB;refine PySem.P.add_list e e2 ?_ (by rw[size_toArray,size_toArray];omega);have ea:its.toArray++its2.toArray=(its++its2).toArray:=by simp
 rw[ea];exact⟨.ref _,_,I.lnew (t':=s.toks) (r.append r2) (by rw[length_append];omega),rfl,q _ I.fresh⟩
def zb:R2:=λx y H Q=>∃l k xs,x=.ref l∧y=.int k∧H l=some (.lst xs)∧-(2 ^ 63)≤k∧k<2 ^ 63∧xs.length*k.toNat≤sizeLine ∧
 ∀p,H p=none→Q (.ref p) (upd H p (.lst (replicate k.toNat xs).flatten))
theorem ue{α:Type}(xs:List α)(k:Nat):(replicate k xs).flatten.length=k*xs.length:=by
 induction k with
 |zero=>simp
 |succ k ih=>rw[replicate_succ,flatten_cons,length_append,ih,Nat.succ_mul,Nat.add_comm]
theorem ro:OpR X (binaryOp .Mult) zb:=by
 intro pins s σ H x y v u Q I rx ry h;obtain⟨l,k,xs,rfl,rfl,hH,h1,h2,hz,q⟩:=h;cases rx;obtain⟨t,rfl⟩:=ry;obtain⟨z,its,n,r,hl,e⟩:=I.lstM hH;have hlen:its.toArray.size*k.toNat≤sizeLine:=by rw[size_toArray,←hl];exact hz
 have hcap:¬its.toArray.size*k.toNat>(2 ^ 63-1) / 8:=by
  have:(sizeLine:Nat)≤(2 ^ 63-1) / 8:=by decide
  omega
 have hfit:¬(!Builtin.List.listFitsIndex k)=true:=by
  rw[fitsIndex_both h1 h2];exact Bool.false_ne_true
 have hlong:¬Builtin.List.listTooLong (its.toArray.size*k.toNat)=true:=by
  rw[rj hlen];exact Bool.false_ne_true
 have hnew:foldl (λx1 x2=>x1++x2) #[] (replicate (if its.toArray.isEmpty=true then 0 else k.toNat) its.toArray)=(replicate k.toNat its).flatten.toArray:=by
  have f0:∀m:Nat,foldl (λx1 x2=>x1++x2) #[] (replicate m its.toArray)=(replicate m its).flatten.toArray:=λm=>by
   have:=jF its m [];rw[nil_append]at this;exact this
  rw[f0];cases its with
  |nil=>simp
  |cons a r'=>rw[if_neg (by simp)]
 refine wpAny_binaryOp_repeat_ref (T:="list") (U:="int") (by decide) ⟨_,e,rfl⟩ (λs'=>typeIs_int s' k t) noFill_list_mul F.fills_int_mul F.slot_int_rmul repeat_list F.slot_int_index.lookup
  (call_meets F.slot_int_rmul (typeIs_int s k t) F.entry_int_rmul (F.args_int_rmul_2 _ _) (int___rmul___int_list k t l its.toArray n)
   ⟨e,rfl,⟨_,e,rfl⟩,call_meets F.slot_list_mul ⟨_,e,rfl⟩ F.entry_list_mul (F.args_list_mul_2 _ _) (AutoListH.list___mul___list_int_3 l its.toArray n k t hfit hcap hlong) ⟨e,?_⟩⟩)
 rw[hnew];exact⟨.ref _,_,I.lnew (t':=s.toks) (r.rep k.toNat) (by rw[ue,Nat.mul_comm];exact hz),rfl,q _ I.fresh⟩
end
section
variable{prog:Program}{w:World}{A:Around}{E:Value→Shared→Prop}{s:Shared}
end
section
variable{X:Cx}
end
section
variable{κ:Type}[DecidableEq κ]
def aT(kvs:List (κ×V))(k:κ):Option V:=(kvs.find? λkv=>decide (kv.1=k)).map (·.2)
def ce(kvs:List (κ×V))(k:κ)(v:V):List (κ×V) :=
 if (kvs.any λkv=>decide (kv.1=k))=true then kvs.map (λkv=>if kv.1=k then (kv.1,v)else kv)else kvs++[(k,v)]
def cH(kvs:List (κ×V))(k:κ):List (κ×V):=kvs.filter λkv=>decide (kv.1≠k)
theorem bc{p:κ×V}{r:List (κ×V)}{k:κ}(e:p.1=k):aT (p::r) k=some p.2:=by simp[aT,find?_cons,e]
theorem aS{p:κ×V}{r:List (κ×V)}{k:κ}(e:¬p.1=k):aT (p::r) k=aT r k:=by simp[aT,find?_cons,e]
theorem ca(k:κ):∀kvs:List (κ×V),(kvs.any λkv=>decide (kv.1=k))=(aT kvs k).isSome
 |[]=>rfl
 |p::r=>by
  rw[any_cons]
  by_cases e:p.1=k
  ·simp only[bc e,decide_eq_true e,Bool.true_or,Option.isSome_some]
  ·rw[aS e,decide_eq_false e,Bool.false_or];exact ca k r
theorem lK(k j:κ)(y:V):∀kvs:List (κ×V),aT (kvs.map λkv=>if kv.1=k then (kv.1,y)else kv) j=(aT kvs j).map λx=>if j=k then y else x
 |[]=>rfl
 |p::r=>by
  have ih:=lK k j y r;rw[map_cons]
  by_cases h:p.1=k
  ·rw[if_pos h]
   by_cases e:p.1=j
   ·rw[bc (p:=(p.1,y)) e,bc e,map_some,if_pos (e.symm.trans h)]
   ·rw[aS (p:=(p.1,y)) e,aS e,ih]
  ·rw[if_neg h]
   by_cases e:p.1=j
   ·rw[bc (p:=p) e,bc e,map_some,if_neg (λz=>h (e.trans z))]
   ·rw[aS (p:=p) e,aS e,ih]
theorem jG(k j:κ)(y:V):∀kvs:List (κ×V),aT kvs k=none→aT (kvs++[(k,y)]) j=if j=k then some y else aT kvs j
 |[],_=>by
  by_cases e:k=j
  ·rw[if_pos e.symm];exact bc (p:=(k,y)) e
  ·rw[if_neg (λz=>e z.symm)];exact aS (p:=(k,y)) e
 |p::r,hn=>by
  rw[cons_append];have hk:¬p.1=k:=λz=>by rw[bc z]at hn;cases hn
  rw[aS hk]at hn;have ih:=jG k j y r hn
  by_cases e:p.1=j
  ·rw[bc e,bc e,if_neg (λz=>hk (e.trans z))]
  ·rw[aS e,aS e,ih]
theorem iJ(kvs:List (κ×V))(k j:κ)(y:V):aT (ce kvs k y) j=if j=k then some y else aT kvs j:=by
 unfold ce
 by_cases a:(kvs.any λkv=>decide (kv.1=k))=true
 ·rw[if_pos a,lK];rw[ca]at a
  by_cases e:j=k
  ·obtain⟨x,hx⟩:=Option.isSome_iff_exists.mp a;rw[if_pos e,e,hx,map_some,if_pos rfl]
  ·rw[if_neg e];cases aT kvs j with
   |none=>rfl
   |some x=>rw[map_some,if_neg e]
 ·rw[if_neg a];refine jG k j y kvs ?_;rw[ca]at a;cases q:aT kvs k with
  |none=>rfl
  |some x=>rw[q]at a;exact(a rfl).elim
theorem dh(kvs:List (κ×V))(k:κ)(v:V):(ce kvs k v).length≤kvs.length+1:=by
 unfold ce
 split
 ·rw[length_map];omega
 ·rw[length_append,length_cons,length_nil];omega
theorem rp{kvs:List (κ×V)}{k:κ}(v:V)(h:aT kvs k=none):ce kvs k v=kvs++[(k,v)]:=by
 unfold ce;rw[ca,h];exact if_neg (by decide)
theorem fj.isSome_eq{o:Option V}{u:Option Value}(r:fj o u):o.isSome=u.isSome:=by
 cases o with
 |none=>cases u with
  |none=>rfl
  |some _=>exact(show False from r).elim
 |some _=>cases u with
  |none=>exact(show False from r).elim
  |some _=>rfl
theorem KV.val{kvs:List (κ×V)}{vs:List (κ×Value)}(r:KV kvs vs)(k:κ):fj (aT kvs k) (valueAt vs k):=by
 unfold KV at r
 induction r with
 |nil=>exact True.intro
 |@cons p q ps qs h t ih =>
  obtain⟨h1,h2⟩:=h
  by_cases e:p.1=k
  ·have e':q.1=k:=h1.symm.trans e;have b:valueAt (q::qs) k=some q.2:=by simp[valueAt,find?_cons,e']
   rw[bc e,b];exact h2
  ·have e':¬q.1=k:=λz=>e (h1.trans z);have b:valueAt (q::qs) k=valueAt qs k:=by simp[valueAt,find?_cons,e']
   rw[aS e,b];exact ih
theorem KV.any{kvs:List (κ×V)}{vs:List (κ×Value)}(r:KV kvs vs)(k:κ):(kvs.any λkv=>decide (kv.1=k))=vs.any λkv=>decide (kv.1=k):=by
 unfold KV at r
 induction r with
 |nil=>rfl
 |cons h t ih=>rw[any_cons,any_cons,ih,h.1]
theorem KV.repl{kvs:List (κ×V)}{vs:List (κ×Value)}(r:KV kvs vs)(k:κ){y:V}{u:Value}(ry:aI y u):
  KV (kvs.map λkv=>if kv.1=k then (kv.1,y)else kv) (vs.map λkv=>if kv.1=k then (kv.1,u)else kv):=by
 unfold KV at r⊢
 induction r with
 |nil=>exact .nil
 |@cons p q ps qs h t ih =>
  rw[map_cons,map_cons];refine .cons ?_ ih;obtain⟨h1,h2⟩:=h
  by_cases e:p.1=k
  ·rw[if_pos e,if_pos (h1.symm.trans e)];exact⟨h1,ry⟩
  ·rw[if_neg e,if_neg (λz=>e (h1.trans z))];exact⟨h1,h2⟩
theorem KV.put{kvs:List (κ×V)}{vs:List (κ×Value)}(r:KV kvs vs)(k:κ){y:V}{u:Value}(ry:aI y u):KV (ce kvs k y) (stored vs k u):=by
 unfold ce stored;rw[r.any k]
 by_cases e:(vs.any λkv=>decide (kv.1=k))=true
 ·rw[if_pos e,if_pos e];exact r.repl k ry
 ·rw[if_neg e,if_neg e];exact Paired.snoc r ⟨rfl,ry⟩
theorem KV.drop{kvs:List (κ×V)}{vs:List (κ×Value)}(r:KV kvs vs)(k:κ):KV (cH kvs k) (without vs k):=by
 unfold KV at r⊢;unfold cH without
 induction r with
 |nil=>exact .nil
 |@cons p q ps qs h t ih =>
  obtain⟨h1,h2⟩:=h;rw[filter_cons,filter_cons]
  by_cases e:p.1=k
  ·have a:¬decide (p.1≠k)=true:=by simp[e]
   have b:¬decide (q.1≠k)=true:=by simp[h1.symm.trans e]
   rw[if_neg a,if_neg b];exact ih
  ·have e':¬q.1=k:=λz=>e (h1.trans z);have a:decide (p.1≠k)=true:=by simp[e]
   have b:decide (q.1≠k)=true:=by simp[e']
   rw[if_pos a,if_pos b];exact .cons ⟨h1,h2⟩ ih
theorem KV.length{kvs:List (κ×V)}{vs:List (κ×Value)}(r:KV kvs vs):kvs.length=vs.length:=Paired.length r
theorem lL(kvs:List (κ×V))(k:κ):(cH kvs k).length≤kvs.length:=length_filter_le _ _
end
theorem eY{P:Program}{w:World}{k:Key}{u:Value}(r:aI (kV k) u):(aQ P w).is k u=true:=by
 cases k with
 |inl i=>obtain⟨t,e⟩:=(show ∃t,u=Value.int i t from r);subst e;exact lz P w i t
 |inr x=>obtain⟨t,e⟩:=(show ∃t,u=Value.str x t from r);subst e;exact lA P w x t
theorem gW{P:Program}{w:World}:∀{ks:List Key}{us:List Value},aB (ks.map kV) us→ItemsAre (aQ P w) ks us
 |[],_,r=>by rw[map_nil]at r;cases r;exact .nil
 |k::ks,_,r=>by
  rw[map_cons]at r;cases r with
  |cons h t=>exact .cons (eY h) (gW t)
abbrev KT(H:Hp):List (List Key×V)→List (List Key×Addr×Value)→Prop:=Paired λp q=>p.1=q.1∧H q.2.1=some (.tup (p.1.map kV))∧aI p.2 q.2.2
theorem KT.val{H:Hp}{kvs:List (List Key×V)}{xs:List (List Key×Addr×Value)}(r:KT H kvs xs)(k:List Key):fj (aT kvs k) ((atKey xs k).map (·.2)):=by
 induction r with
 |nil=>exact True.intro
 |@cons p q ps qs h t ih =>
  obtain⟨h1,_,h2⟩:=h
  by_cases e:p.1=k
  ·have e':q.1=k:=h1.symm.trans e;have b:atKey (q::qs) k=some q.2:=by simp[atKey,find?_cons,e']
   rw[bc e,b];exact h2
  ·have e':¬q.1=k:=λz=>e (h1.trans z);have b:atKey (q::qs) k=atKey qs k:=by simp[atKey,find?_cons,e']
   rw[aS e,b];exact ih
theorem KT.repl{H:Hp}{kvs:List (List Key×V)}{xs:List (List Key×Addr×Value)}(r:KT H kvs xs)(k:List Key){y:V}{u:Value}(ry:aI y u):
  KT H (kvs.map λkv=>if kv.1=k then (kv.1,y)else kv) (xs.map (putAt k u)):=by
 induction r with
 |nil=>exact .nil
 |@cons p q ps qs h t ih =>
  rw[map_cons,map_cons];refine .cons ?_ ih;obtain⟨h1,h2,h3⟩:=h;unfold putAt
  by_cases e:p.1=k
  ·rw[if_pos e,if_pos (h1.symm.trans e)];exact⟨h1,h2,ry⟩
  ·rw[if_neg e,if_neg (λz=>e (h1.trans z))];exact⟨h1,h2,h3⟩
theorem KT.put{H:Hp}{kvs:List (List Key×V)}{xs:List (List Key×Addr×Value)}(r:KT H kvs xs)(k:List Key){b:Addr}{y:V}{u:Value}(hb:H b=some (.tup (k.map kV)))(ry:aI y u):
  KT H (ce kvs k y) (storedH xs k b u):=by
 have e:(kvs.any λkv=>decide (kv.1=k))=(atKey xs k).isSome:=by
  rw[ca,(r.val k).isSome_eq,isSome_map]
 unfold ce storedH;rw[e]
 by_cases q:(atKey xs k).isSome=true
 ·rw[if_pos q,if_pos q];exact r.repl k ry
 ·rw[if_neg q,if_neg q];exact Paired.snoc r ⟨rfl,hb,ry⟩
theorem KT.keeps{H H':Hp}{kvs:List (List Key×V)}{xs:List (List Key×Addr×Value)}(r:KT H kvs xs)(ht:∀b ys,H b=some (.tup ys)→H' b=some (.tup ys)):KT H' kvs xs :=
 Paired.mapP r λ_ _ z=>⟨z.1,ht _ _ z.2.1,z.2.2⟩
section
variable{P:Program}{w:World}{H:Hp}{h:Heap}{a:Addr}
theorem vz{u:HO}(ok:HOk P w H h)(e:Rd H a u):ba P w H h a u:=e.ok ok
theorem jH{kvs:List (Key×V)}(ok:HOk P w H h)(e:Rd H a (.dK kvs)):kvs.length≤sizeLine∧(a==sysModules)=false∧∃vs,KV kvs vs∧h.DictOf (aQ P w) a vs :=
 show ba P w H h a (.dK kvs)from vz ok e
theorem oX{kvs:List (Key×V)}(ok:HOk P w H h)(e:H a=some (.dK kvs)):kvs.length≤sizeLine∧(a==sysModules)=false∧∃vs,KV kvs vs∧h.DictOf (aQ P w) a vs:=jH ok (.inl e)
theorem iK{ks:List Key}(ok:HOk P w H h)(e:H a=some (.tup (ks.map kV))):(tupleKind (aQ P w)).is h ks a:=by
 obtain⟨_,its,r,o,h1,h2,n,h3⟩:=(show ba P w H h a (.tup (ks.map kV))from ok a _ e);exact⟨o,its.toArray,n,h1,h2,h3,by simpa using gW r⟩
theorem jI{kvs:List (List Key×V)}(ok:HOk P w H h)(e:Rd H a (.dT kvs)):kvs.length≤sizeLine∧(a==sysModules)=false ∧
  ∃xs,KT H kvs xs∧h.DictOfH (tupleKind (aQ P w)) a xs:=by
 obtain⟨z,y,xs,r,o,es,ep,h1,h2,h3,h4,h5⟩:=(show ba P w H h a (.dT kvs)from vz ok e);refine⟨z,y,xs,r,o,es,ep,h1,h2,h3,h4,λx hx=>?_,h5⟩;have all:∀{l:List (List Key×V)}{m:List (List Key×Addr×Value)},KT H l m→∀x∈m,(tupleKind (aQ P w)).is h x.1 x.2.1:=by
  intro l m q
  induction q with
  |nil=>intro x hx;exact nomatch hx
  |@cons p q ps qs hq t ih =>
   intro x hx;rcases mem_cons.mp hx with e|hx
   ·subst e;exact iK ok (by rw[←hq.1];exact hq.2.1)
   ·exact ih x hx
 exact all r x hx
theorem yb{kvs:List (List Key×V)}(ok:HOk P w H h)(e:H a=some (.dT kvs)):kvs.length≤sizeLine∧(a==sysModules)=false ∧
  ∃xs,KT H kvs xs∧h.DictOfH (tupleKind (aQ P w)) a xs:=jI ok (.inl e)
end
def eB(H:Hp)(a:Addr)(y:V)(r:Option V):Prop :=
 (∃kvs k,Rd H a (.dK kvs)∧y=kV k∧r=aT kvs k)∨∃kvs k b,Rd H a (.dT kvs)∧y=.ref b∧H b=some (.tup (k.map kV))∧r=aT kvs k
def qk(H:Hp)(a:Addr)(y v:V)(H':Hp):Prop :=
 (∃kvs k,H a=some (.dK kvs)∧y=kV k∧kvs.length<sizeLine∧H'=upd H a (.dK (ce kvs k v))) ∨
 ∃kvs k b,H a=some (.dT kvs)∧y=.ref b∧H b=some (.tup (k.map kV))∧kvs.length<sizeLine∧H'=upd H a (.dT (ce kvs k v))
theorem eB.k{H:Hp}{a:Addr}{kvs:List (Key×V)}{k:Key}(e:H a=some (.dK kvs)):eB H a (kV k) (aT kvs k):=.inl ⟨kvs,k,.inl e,rfl,rfl⟩
theorem qk.k{H:Hp}{a:Addr}{kvs:List (Key×V)}{k:Key}{v:V}(e:H a=some (.dK kvs))(hl:kvs.length<sizeLine):qk H a (kV k) v (upd H a (.dK (ce kvs k v))):=.inl ⟨kvs,k,e,rfl,hl,rfl⟩
section
variable{X:Cx}{pins:List (Addr×Obj)}{σ:St}{H:Hp}{s:Shared}{a:Addr}{y v:V}{u r:Value}{o:Option V}{A:Around}{E:Value→Shared→Prop}
theorem Inv.big(I:Inv X pins σ H s):sysModules<s.heap.objs.size:=by
 have h:mainGlobals<s.heap.objs.size:=(I.mod.glob.keeps I.bk).lt;exact lt_trans (by decide) h
theorem ql{Q:Value→Shared→Prop}(hu:A.units+1<cLine)(I:Inv X pins σ H s)(g:eB H a y (some v))(ry:aI y u)(h:∀w' s',Inv X pins σ H s'→aI v w'→Q w' s'):
  wpAny (model X.prog X.w) A (getItem (.ref a) u) Q E s:=by
 rcases g with⟨kvs,k,e,ey,l⟩|⟨kvs,k,b,e,ey,eb,l⟩
 ·subst ey;obtain⟨z,hd,vs,rel,dd⟩:=jH I.hok e;obtain⟨w',hw,rw'⟩:=fj.some_of (v:=v) (o:=valueAt vs k) (by rw[l];exact rel.val k);exact wpAny_getItem_of (eY ry) dd.mapOf hw (h w' _ (I.tok _) rw')
 ·subst ey;cases (show u=Value.ref b from ry);obtain⟨z,hd,xs,rel,dd⟩:=jI I.hok e;obtain⟨w',hw,rw'⟩:=fj.some_of (v:=v) (o:=(atKey xs k).map (·.2)) (by rw[l];exact rel.val k);obtain⟨p,hp,hp2⟩:=Option.map_eq_some_iff.mp hw;refine wpAny_getItem_heap (tupleKind_room_in1 hu) (iK I.hok eb) dd hp ?_;rw[hp2];exact h w' _ (I.tok _) rw'
theorem zc{Q:Value→Shared→Prop}(hu:A.units+1<cLine)(I:Inv X pins σ H s)(g:eB H a y o)(ry:aI y u)(h:∀s',Inv X pins σ H s'→Q (.bool o.isSome) s'):
  wpAny (model X.prog X.w) A (compareOp .In u (.ref a)) Q E s:=by
 rcases g with⟨kvs,k,e,ey,l⟩|⟨kvs,k,b,e,ey,eb,l⟩
 ·subst ey;obtain⟨z,hd,vs,rel,dd⟩:=jH I.hok e;refine wpAny_in_of (eY ry) hd dd.mapOf ?_;rw[←(rel.val k).isSome_eq,←l];exact h _ (I.tok _)
 ·subst ey;cases (show u=Value.ref b from ry);obtain⟨z,hd,xs,rel,dd⟩:=jI I.hok e;refine wpAny_in_heap (tupleKind_room_in1 hu) (iK I.hok eb) hd dd ?_;have q:=(rel.val k).isSome_eq;rw[isSome_map]at q;rw[←q,←l];exact h _ (I.tok _)
theorem uf{Q:Value→Shared→Prop}(hu:A.units+1<cLine)(I:Inv X pins σ H s)(g:eB H a y o)(ry:aI y u)(h:∀s',Inv X pins σ H s'→Q (.bool (!o.isSome)) s'):
  wpAny (model X.prog X.w) A (compareOp .NotIn u (.ref a)) Q E s:=by
 rcases g with⟨kvs,k,e,ey,l⟩|⟨kvs,k,b,e,ey,eb,l⟩
 ·subst ey;obtain⟨z,hd,vs,rel,dd⟩:=jH I.hok e;refine wpAny_notIn_of (eY ry) hd dd.mapOf ?_;rw[←(rel.val k).isSome_eq,←l];exact h _ (I.tok _)
 ·subst ey;cases (show u=Value.ref b from ry);obtain⟨z,hd,xs,rel,dd⟩:=jI I.hok e;refine wpAny_notIn_heap (tupleKind_room_in1 hu) (iK I.hok eb) hd dd ?_;have q:=(rel.val k).isSome_eq;rw[isSome_map]at q;rw[←q,←l];exact h _ (I.tok _)
theorem iw{h':Heap}{t':Nat}{ob:HO}(I:Inv X pins σ H s)(mu:Mut (H a))(hs:SameBut a s.heap h')(he:∃q,h'.get? a=some q)(new:ba X.prog X.w (upd H a ob) h' a ob):
  Inv X pins σ (upd H a ob) {s with heap:=h',toks:=t'} :=
 I.write (x:=a) (e:=a) mu (.inl rfl) (λb q hb z=>(hs.2 b hb).trans z) he new
theorem iL{P:Program}{w:World}{H':Hp}{h':Heap}{kvs:List (Key×V)}{vs:List (Key×Value)}(z:kvs.length≤sizeLine)(hd:(a==sysModules)=false)(rel:KV kvs vs)(dd:h'.DictOf (aQ P w) a vs):
  ba P w H' h' a (.dK kvs):=⟨z,hd,vs,rel,dd⟩
theorem qm{H':Hp}{Q:Unit→Shared→Prop}(hu:A.units+1<cLine)(I:Inv X pins σ H s)(g:qk H a y v H')(ry:aI y u)(rv:aI v r)(h:∀s',Inv X pins σ H' s'→Q () s'):
  wpAny (model X.prog X.w) A (setItem (.ref a) u r) Q E s:=by
 rcases g with⟨kvs,k,e,ey,l,eH⟩|⟨kvs,k,b,e,ey,eb,l,eH⟩
 ·subst ey eH;obtain⟨z,hd,vs,rel,dd⟩:=oX I.hok e;have hz:vs.length≤sizeLine:=by rw[←rel.length];exact z
  have hl:(ce kvs k v).length≤sizeLine:=by have:=dh kvs k v;omega
  refine wpAny_setItem_pairs (hsz:=hz) (eY ry) dd λh' dd' hs=>h _ ?_;have he:∃q,h'.get? a=some q:=let⟨q,_,_,hq,_⟩:=dd';⟨q,hq⟩;exact iw I (by rw[e];exact True.intro) hs he (iL hl hd (rel.put k rv) dd')
 ·subst ey eH;cases (show u=Value.ref b from ry);obtain⟨z,hd,xs,rel,dd⟩:=yb I.hok e;have hz:xs.length≤sizeLine:=by rw[←Paired.length rel];exact z
  have hl:(ce kvs k v).length≤sizeLine:=by have:=dh kvs k v;omega
  refine wpAny_setItem_heap (hsz:=hz) (tupleKind_room_in1 hu) (iK I.hok eb) dd λh' dd' hs=>h _ ?_;obtain⟨q,es,ep,hq,h2,h3,h4,_,h5⟩:=dd';refine iw I (by rw[e];exact True.intro) hs ⟨q,hq⟩ ⟨hl,hd,_,(rel.put k eb rv).keeps λc ys ec=>?_,q,es,ep,hq,h2,h3,h4,h5⟩;rw[al (xP ec e (λz=>nomatch z))];exact ec
end
section
variable{X:Cx}{pins:List (Addr×Obj)}{σ:St}{H:Hp}{s:Shared}{a:Addr}{kvs:List (Key×V)}{k:Key}{u:Value}{A:Around}{E:Value→Shared→Prop}
theorem yc{v:V}{more:List Value}{Q:Value→Shared→Prop}(I:Inv X pins σ H s)(e:H a=some (.dK kvs))(ry:aI (kV k) u)(l:aT kvs k=some v)(hm:more=[]∨∃x,more=[x])(h:∀w' s',Inv X pins σ (upd H a (.dK (cH kvs k))) s'→aI v w'→Q w' s'):wpAny (model X.prog X.w) A (call (.builtin "dict.pop") (.ref a::u::more)) Q E s:=by
 obtain⟨z,hd,vs,rel,dd⟩:=oX I.hok e;obtain⟨w',hw,rw'⟩:=fj.some_of (v:=v) (o:=valueAt vs k) (by rw[←l];exact rel.val k);have hp:(keyPart u).isSome=true:=by
  cases k with
  |inl i=>obtain⟨t,q⟩:=(show ∃t,u=Value.int i t from ry);subst q;rfl
  |inr x=>obtain⟨t,q⟩:=(show ∃t,u=Value.str x t from ry);subst q;rfl
 have ha:argsOk "dict.pop" ⟨.ref a::u::more,[]⟩:=by
  rcases hm with q|⟨x,q⟩
  ·subst q;exact PySem.F.args_dict_pop_2 _ _
  ·subst q;exact PySem.F.args_dict_pop_3 _ _ _
 refine call_meetsIn slot_dict_pop dd.typeIs PySem.F.entry_dict_pop ha (meets_dict_pop_there (aQ X.prog X.w) a (eY ry) more hm hp)
  ⟨vs,w',dd,by rw[←rel.length];exact z,hw,λh' dd' hs=>h w' _ ?_ rw'⟩
 have he:∃q,h'.get? a=some q:=let⟨q,_,_,hq,_⟩:=dd';⟨q,hq⟩;exact iw I (by rw[e];exact True.intro) hs he (iL (le_trans (lL kvs k) z) hd (rel.drop k) dd')
theorem wq{r:Value}{Q:Value→Shared→Prop}(I:Inv X pins σ H s)(e:H a=some (.dK kvs))(ry:aI (kV k) u)(l:aT kvs k=none)(h:∀s',Inv X pins σ H s'→Q r s'):
  wpAny (model X.prog X.w) A (call (.builtin "dict.pop") [.ref a,u,r]) Q E s:=by
 obtain⟨z,hd,vs,rel,dd⟩:=oX I.hok e;have hn:valueAt vs k=none:=fj.none_of (by rw[←l];exact rel.val k);have hp:(keyPart u).isSome=true:=by
  cases k with
  |inl i=>obtain⟨t,q⟩:=(show ∃t,u=Value.int i t from ry);subst q;rfl
  |inr x=>obtain⟨t,q⟩:=(show ∃t,u=Value.str x t from ry);subst q;rfl
 exact call_meetsIn slot_dict_pop dd.typeIs PySem.F.entry_dict_pop (PySem.F.args_dict_pop_3 _ _ _) (meets_dict_pop_default (aQ X.prog X.w) a (eY ry) hd hp r) ⟨vs,dd,hn,h _ (I.tok _)⟩
end
def yd(i:Expr):Prop:=∀ov iv,subscripted i false ov iv=operate [ov,iv] (getItem ov iv)
theorem ug{prog:Program}{w:World}{A:Around}{E:Value→Shared→Prop}{s:Shared}{env:Env}{value slice:Expr}{pos:Pos}{T id:String}{Q:Value→Shared→Prop}(hl:typeLookup (.type T) "__getitem__"=pure (some (.builtin id)))(hs:yd slice)(h:wpAny (model prog w) A (eval value env) (λo s₁=>wpAny (model prog w) A (eval slice env) (λi s₂=>s₂.TypeIs o T∧wpAny (model prog w) A (getItem o i) Q E s₂) E s₁) E s):
  wpAny (model prog w) A (eval (.Subscript value slice pos) env) Q E s:=by
 refine Subscript_ (wpAny_mono h (λo s₁ h₁=>wpAny_mono h₁ (λi s₂ h₂=>?_) λ_ _ x=>x) λ_ _ x=>x);obtain⟨hT,h₂⟩:=h₂;unfold subscriptTail;refine wpAny_bind ?_;rw[getitemInPython_of_ne hT.not_modules];refine wpAny_bind (wpAny_specialOf hT hl ?_);have fin:wpAny (model prog w) A (subscripted slice false o i) (λr s₃=>wpAny (model prog w) A (letTemporaryGo value o r >>= λ_=>pure r) Q E s₃) E s₂:=by
  rw[hs o i];exact wpAny_operating (wpAny_mono h₂ (λr s₃ h₃=>wpAny_bind (wpAny_letTemporaryGo (wpAny_pure h₃))) λ_ _ x=>x)
 first
  |exact wpAny_pure (wpAny_bind fin)
  |exact wpAny_bind (wpAny_pure (wpAny_bind fin))
  |exact wpAny_bind fin
theorem lM{X:Cx}{pins:List (Addr×Obj)}{σ:St}{H:Hp}{s:Shared}{a:Addr}{y:V}{o:Option V}(I:Inv X pins σ H s)(g:eB H a y o):s.TypeIs (.ref a) "dict":=by
 rcases g with⟨kvs,k,e,_,_⟩|⟨kvs,k,b,e,_,_,_⟩
 ·obtain⟨_,_,vs,_,dd⟩:=jH I.hok e;exact dd.typeIs
 ·obtain⟨_,_,xs,_,dd⟩:=jI I.hok e;exact dd.typeIs
def ye(td ty:TE):TE:=λσ H Q=>td σ H λx H1=>ty σ H1 λy H2=>∃a v,x=.ref a∧eB H2 a y (some v)∧Q v H2
def zd(ty td:TE):TE:=λσ H Q=>ty σ H λy H1=>td σ H1 λx H2=>∃a o,x=.ref a∧eB H2 a y o∧Q (.bl o.isSome) H2
def uh(ty td:TE):TE:=λσ H Q=>ty σ H λy H1=>td σ H1 λx H2=>∃a o,x=.ref a∧eB H2 a y o∧Q (.bl (!o.isSome)) H2
def yf(td ty tv:TE):TS:=λD σ H=>tv σ H λv H1=>td σ H1 λx H2=>ty σ H2 λy H3=>∃a H4,x=.ref a∧qk H3 a y v H4∧D.nx σ H4
section
variable{X:Cx}{o i e value:Expr}{pos pos' tpos:Pos}{td ty tv:TE}
theorem eR(hu:X.A.units+1<cLine)(ho:PE X o td)(hi:PE X i ty)(hs:yd i):PE X (.Subscript o i pos) (ye td ty):=by
 intro pins s σ H Q I h;refine ug PySem.F.slot_dict_getitem.lookup hs (thn (ho pins s σ H _ I h) λu s1 ⟨x,H1,I1,rx,q1⟩=>thn (hi pins s1 σ H1 _ I1 q1) λiv s2 hpt=>?_);obtain⟨y,H2,I2,ry,a,v,ex,g,q2⟩:=hpt;subst ex;obtain rfl:u=Value.ref a:=rx;exact⟨lM I2 g,ql hu I2 g ry λw' s3 I3 rw'=>⟨v,H2,I3,rw',q2⟩⟩
theorem iM(hu:X.A.units+1<cLine)(hi:PE X i ty)(ho:PE X o td):PC X .In i o (zd ty td):=by
 intro pins s σ H Q I h;refine thn (hi pins s σ H _ I h) λiv s1 ⟨y,H1,I1,ry,q1⟩=>thn (ho pins s1 σ H1 _ I1 q1) λu s2 hpt=>?_;obtain⟨x,H2,I2,rx,a,ov,ex,g,q2⟩:=hpt;subst ex;obtain rfl:u=Value.ref a:=rx;exact zc hu I2 g ry λs3 I3=>⟨.bl ov.isSome,H2,I3,rfl,q2⟩
theorem cQ(hu:X.A.units+1<cLine)(hi:PE X i ty)(ho:PE X o td):PC X .NotIn i o (uh ty td):=by
 intro pins s σ H Q I h;refine thn (hi pins s σ H _ I h) λiv s1 ⟨y,H1,I1,ry,q1⟩=>thn (ho pins s1 σ H1 _ I1 q1) λu s2 hpt=>?_;obtain⟨x,H2,I2,rx,a,ov,ex,g,q2⟩:=hpt;subst ex;obtain rfl:u=Value.ref a:=rx;exact uf hu I2 g ry λs3 I3=>⟨.bl (!ov.isSome),H2,I3,rfl,q2⟩
theorem oY(hu:X.A.units+1<cLine)(ho:PE X o td)(hi:PE X i ty)(hv:PE X value tv)(hs:swapsWith value (some (.Subscript o i pos')) pos.line X.env=pure false):
  PS X (.Assign [.Subscript o i pos'] value pos) (yf td ty tv):=by
 intro pins s σ H D I h;refine wpAny_Assign_Subscript (thn (hv pins s σ H _ I h) λr s1 ⟨v,H1,I1,rv,q1⟩=>thn (ho pins s1 σ H1 _ I1 q1) λu s2 ⟨x,H2,I2,rx,q2⟩=>thn (hi pins s2 σ H2 _ I2 q2) λiv s3 ⟨y,H3,I3,ry,a,H4,ex,g,q3⟩=>?_) hs;subst ex;obtain rfl:u=Value.ref a:=rx;exact qm hu I3 g ry rv λs4 I4=>⟨σ,H4,I4,q3⟩
end
theorem rq{P:Program}{w:World}{H:Hp}(h:Heap)(hb:sysModules<h.objs.size):ba P w H (h.push {cls:=.type "dict",data:=.dict #[]}) h.objs.size (.dK []) :=
 ⟨zero_le _,beq_eq_false_iff_ne.mpr (symm (ne_of_lt hb)),[],.nil,Heap.DictOf.new h⟩
def wt:TE:=λ_ H Q=>∀p,H p=none→Q (.ref p) (upd H p (.dK []))
section
variable{X:Cx}{pos:Pos}
theorem lN:PE X (.Dict [] [] pos) wt:=λpins s σ H Q I h =>
 wpAny_Dict_empty ⟨.ref s.heap.objs.size,_,I.laid (a:=s.heap.objs.size) (o:=.dK []) (t':=s.toks) (λ_ _ q=>get?_push_of_some _ q) (le_refl _) (rq s.heap I.big),rfl,h _ (I.hok.fresh (le_refl _))⟩
end
structure M2(X:Cx)(o:Expr)(m:Str)(apos:Pos)(e f:Expr)(cpos:Pos):Prop where
 base:attributeBase o m X.env (eval o X.env)=eval o X.env
 few:((backTo cpos (starEach [e,f] X.env)).all (λx=>!x.1)&&(backToKw cpos (keywordEach [] X.env)).all (λx=>x.1.isSome)
  && decide (([e,f]:List Expr).length+([]:List Keyword).length+(if ([]:List Keyword).isEmpty then 0 else 1)<30))=true
 line:(apos.endLine==cpos.line)=true
 trees:backTo cpos (starEach [e,f] X.env)=[(false,eval e X.env),(false,eval f X.env)]
def IsD(H:Hp)(a:Addr):Prop:=(∃kvs,Rd H a (.dK kvs))∨∃kvs,Rd H a (.dT kvs)
theorem wu{X:Cx}{pins:List (Addr×Obj)}{σ:St}{H:Hp}{s:Shared}{a:Addr}(I:Inv X pins σ H s)(d:IsD H a):
  s.TypeIs (.ref a) "dict"∧(∀b,Value.ref a=.ref b→∃ob,s.heap.get? b=some ob∧ob.dict=none)∧(a==sysModules)=false:=by
 rcases d with⟨kvs,e⟩|⟨kvs,e⟩
 ·obtain⟨_,hd,vs,_,dd⟩:=jH I.hok e;refine⟨dd.typeIs,λb q=>?_,hd⟩;cases q;obtain⟨ob,_,_,h1,h2,_⟩:=dd;exact⟨ob,h1,h2.2.1⟩
 ·obtain⟨_,hd,xs,_,dd⟩:=jI I.hok e;refine⟨dd.typeIs,λb q=>?_,hd⟩;cases q;obtain⟨ob,_,_,h1,h2,_⟩:=dd;exact⟨ob,h1,h2.2.1⟩
section
variable{X:Cx}{pins:List (Addr×Obj)}{σ:St}{H:Hp}{s:Shared}{a:Addr}{y d:V}{u r:Value}{o:Option V}{A:Around}{E:Value→Shared→Prop}
end
def wv(td ty tx:TE):TE:=λσ H Q=>td σ H λx H1=>∃a,x=.ref a∧IsD H1 a∧ty σ H1 λy H2=>tx σ H2 λz H3=>∃kvs k,H3 a=some (.dK kvs)∧y=kV k ∧
 (∀v,aT kvs k=some v→Q v (upd H3 a (.dK (cH kvs k))))∧(aT kvs k=none→Q z H3)
section
variable{X:Cx}{o e f:Expr}{apos cpos:Pos}{td ty tx:TE}
theorem rs(ho:PE X o td)(he:PE X e ty)(hf:PE X f tx)(m:M2 X o "pop" apos e f cpos):PE X (.Call (.Attribute o "pop" apos) [e,f] [] cpos) (wv td ty tx):=by
 intro pins s σ H Q I h;refine wpAny_Call_method m.base m.few m.line PySem.F.plainAttrs_dict slot_dict_pop PySem.F.type_dict_pop (thn (ho pins s σ H _ I h) λu s1 hpt=>?_);obtain⟨x,H1,I1,rx,a,ex,d,q1⟩:=hpt;subst ex;obtain rfl:u=Value.ref a:=rx;obtain⟨t1,t2,_⟩:=wu I1 d;refine⟨t1,t2,?_⟩;rw[m.trees];refine Calls.callWith_builtin rfl (evalArgs_plain (spliced_cons (thn (he pins s1 σ H1 _ I1 q1) λiv s2 ⟨y,H2,I2,ry,q2⟩ =>
  spliced_cons (thn (hf pins s2 σ H2 _ I2 q2) λfv s3 ⟨z,H3,I3,rz,kvs,k,ea,ey,q3,q4⟩=>Calls.spliced_nil ?_))))
 subst ey;cases l:aT kvs k with
 |some v=>exact yc I3 ea ry l (.inr ⟨fv,rfl⟩) λw' s4 I4 rw'=>⟨v,_,I4,rw',q3 v l⟩
 |none=>exact wq I3 ea ry l λs4 I4=>⟨z,H3,I4,rz,q4 l⟩
end
section
variable{X:Cx}{pins:List (Addr×Obj)}{σ:St}{H:Hp}{s:Shared}{a:Addr}{kvs:List (Key×V)}{A:Around}{E:Value→Shared→Prop}
end
section
variable{X:Cx}{pins:List (Addr×Obj)}{σ:St}{H:Hp}{s:Shared}{a:Addr}{y:V}{u:Value}{A:Around}{E:Value→Shared→Prop}
end
end L2
namespace Att
open PySem PySem.W PySem.Calls PyProof.Rows
theorem ip{P:Params}{h:Heap}:∀(ns:List Int)(vs:List Value),WellAll P h vs (ns.map WData.int)→IntsAre vs ns:=by
 intro ns
 induction ns with
 |nil =>
  intro vs w;rw[map_nil]at w;cases w;exact .nil
 |cons n ns ih =>
  intro vs w;rw[map_cons]at w;cases w with
  |cons a b =>
   cases a;exact .cons _ _ (ih _ b)
theorem qp{l:OpenLaw}{n:Nat}(hn:l.most=some n){P:Params}{h:Heap}{args:List WData}{vals:List Value}(hpre:l.row.toRowW.claim.pre args=true)(hwl:WellAll P h vals args):
  ∃a vs ns,vals=[Value.ref a]∧args=[WData.list (ns.map WData.int)]∧h.get? a=some {cls:=.type "list",data:=.seq vs.toArray}∧IntsAre vs ns∧ns.length≤n:=by
 have hsh:WShape.hasAll [] args [.list .int]=true:=(pre_splitW hpre).1;have hc:l.pre.holds [] {args:=args}=true:=(pre_splitW hpre).2;obtain⟨d,r,rfl,h1,h2⟩:=hasAllW_cons hsh;obtain rfl:=hasAllW_nil h2;obtain⟨xs,rfl,h3⟩:=hasW_list h1;obtain⟨ns,rfl⟩:=items_int h3;have hlen:ns.length≤n:=by
  unfold OpenLaw.pre at hc;have h4:(WTm.not (.lt (.lit (.int (n:Int))) (.len (.arg 0)))).holds [] {args:=[.list (ns.map .int)]}=true:=by
   have h4:=(holds_andW hc).1;rw[hn]at h4;exact h4
  have h5:=condW_of h4 (w_not (w_lt w_lit (w_len_list (w_arg rfl))));rw[length_map]at h5;refine Nat.le_of_not_lt λq=>?_;have q':(n:Int)<((ns.length:Nat):Int):=by omega
  first
   |(rw[decide_eq_true q']at h5;exact absurd h5 (by decide))
   |(simp at h5;omega)
 cases hwl with
 |cons w1 w2 =>
  cases w2;cases w1 with
  |list ho hall=>exact⟨_,_,ns,rfl,rfl,ho,ip ns _ hall,hlen⟩
theorem qq(l:OpenLaw)(args:List WData):l.row.toRowW.claim.post args (.bool true) args=true :=
 postW_of (r:=l.row.toRowW) (X:=(true==true))
  (show WShape.has [] (.bool true) .bool=true by first|rfl|decide|simp[WShape.has,WShape.arms,WShape.armsAll])
  (show(WTm.eq .res (.lit (.bool true))).value [] {args:=args,res:=some (.bool true),after:=args}=some (.bool (true==true))from w_eq_bool (w_res rfl) w_lit) rfl
theorem lO{l:OpenLaw}{n:Nat}{q:Program}{loose:List Str}{XP:(Str→Option Value)→Heap→Prop}{YP:World→Heap→Prop}{d:DefRec}(hn:l.most=some n)(hdf:d.params.defaults=[])(call:∀(w:World) (s₀ s₁:Shared) (mg mb:Str→Option Value) (fa:Addr) (o:Obj) (pm cd doc:Value) (a:Addr) (vs:List Value) (ns:List Int),
   Ground q loose [] XP w s₀ mg mb s₁.heap→YP w s₁.heap →
   s₁.heap.get? fa=some o→o.data=.func (docDef d.name d.params d.body d.scope pm cd doc)→s₁.heap.CodeRec cd d.name→mg d.name=some (.ref fa) →
   s₁.heap.get? a=some {cls:=.type "list",data:=.seq vs.toArray}→IntsAre vs ns→ns.length≤n→s₁.gens=#[] →
   codeAny (model l.prog w) callerA (.call (.ref fa) ⟨[.ref a],[]⟩) (λr s'=>r=.ok (.ret (.bool true))∧OldK s₁.heap s'.heap∧s'.os=s₁.os∧AllBare s'.gens) s₁):
  WalkO q loose XP YP l.row.toRowW d [] (λf vs=>PySem.call f vs):=by
 intro w s₀ s₁ mg mb G Y fa o pm cd doc dV kV ho hd hcd hD hmg hg args vals as hpre hlay hrd hwl hlo;obtain rfl:dV=.none:=Dflts.none hD hdf;obtain rfl:kV=.none:=Dflts.noKw hD;obtain⟨a,vs,ns,rfl,rfl,hobj,hints,hlen⟩:=qp hn hpre hwl;refine enter_call (codeAny_mono (call w s₀ s₁ mg mb fa o pm cd doc a vs ns G Y ho (fd_plain hd) hcd hmg hobj hints hlen hg) λr s' hq=>?_);obtain⟨rfl,h2,h3,h4⟩:=hq;exact⟨.inl ⟨.bool true,.bool true,[],rfl,λ_=>rfl,.bool true,qq l _,λ_=>⟨Pairwise.nil,λ_ hm=>(nomatch hm)⟩⟩,h2,h3,h4⟩
section
variable{prog:Program}{w:World}{A:Around}{E:Value→Shared→Prop}{s:Shared}{K:Frag}
end
end Att
namespace L2
open PySem PySem.Spec PyProof.Rows
theorem jJ:∀{vs:List Value}{ns:List Int},IntsAre vs ns→aB (ns.map V.int) vs
 |_,_,.nil=>.nil
 |_,_,.cons n t h=>.cons ⟨t,rfl⟩ (jJ h)
def ww(H:Hp):Prop:=∀b,H b=none∨∃o xs,H b=some (.frz o (.lst xs))
theorem rA{P:Program}{w:World}{K:PySem.W.Frag}{mg mb:Str→Option Value}{CX:CXT}{k:Nat}{fa a:Addr}{fd:FuncData}{x:Str}{sp:Sp}{s₁:Shared}{vs:List Value}{ns:List Int}(KX:K.In s₁.heap)(hns:s₁.heap.Ns mainGlobals mg)(hb:s₁.heap.Ns builtinsNs mb)(hbb:∀x:Str,x≠"__name__"→mb x=bootBuiltins x)(hlim:s₁.heap.NoLimit)(hg:s₁.gens=#[])(ha:s₁.heap.get? a=some {cls:=.type "list",data:=.seq vs.toArray})(hi:IntsAre vs ns)(hl:ns.length≤sizeLine)(hr:Room k callerA)(F:∀base:Heap,K.In base→base.Ns mainGlobals mg→FnOk P w K mg base CX k fa fd [x] sp)(hbind:∀(s:Shared) (u:Value),BindsTo s fd ⟨[u],[]⟩ [(x,u)])(hsp:∀H:Hp,ww H→SqL K H a (ns.map V.int)→sp [.ref a] H (λv _=>v=.bl true) λ_ _ _=>False)(hCX:∀H e s',CX [] H s₁ (λ_ _ _=>False) e s'→False):
  codeAny (model P w) callerA (.call (.ref fa) ⟨[.ref a],[]⟩) (λr s'=>r=.ok (.ret (.bool true))∧OldK s₁.heap s'.heap∧s'.os=s₁.os∧AllBare s'.gens) s₁:=by
 have rv:=jJ hi;have lenV:=hi.length;have core:∀H:Hp,ww H→SqL K H a (ns.map V.int)→HOk P w H s₁.heap→(∀b,H b≠none→b=a)→(H a≠none→K.lookup a=none) →
   codeAny (model P w) callerA (.call (.ref fa) ⟨[.ref a],[]⟩) (λr s'=>r=.ok (.ret (.bool true))∧OldK s₁.heap s'.heap∧s'.os=s₁.os∧AllBare s'.gens) s₁:=by
  intro H hO hS hok hA hK;have base_of:∀{b:Addr}{o:Obj},s₁.heap.get? b=some o→H b=none→(kd s₁.heap H).get? b=some o:=λe n=>qT e n;have noA:∀{b:Addr}{o:Obj}{es:Array DictEntry}{ep:Nat},s₁.heap.get? b=some o→o.data=.dict es ep→H b=none:=λ{b o es ep} e d=>by
   cases q:H b with
   |none=>rfl
   |some u =>
    have e':b=a:=hA b (by rw[q];simp);subst e';rw[ha]at e;cases e;have d':Data.seq vs.toArray _=Data.dict es ep:=d;cases d'
  have nsK:∀{b:Addr}{m:Str→Option Value},s₁.heap.Ns b m→(kd s₁.heap H).Ns b m:=λ{b m} ⟨o,es,ep,e,d,r⟩=>⟨o,es,ep,base_of e (noA e d),d,r⟩;have hKb:K.In (kd s₁.heap H):=λb o e=>base_of (KX b o e) (by
   cases q:H b with
   |none=>rfl
   |some u =>
    have e':b=a:=hA b (by rw[q];simp);subst e';rw[hK (by rw[q];simp)]at e;cases e)
  have hM:Mod K mg (kd s₁.heap H):=⟨hKb,nsK hns,⟨mb,nsK hb,hbb⟩,let⟨mc,h1,h2⟩:=hlim;⟨mc,nsK h1,h2⟩⟩;have e0:Env0 P w K mg (kd s₁.heap H) callerA [] s₁ H:=⟨rfl,hM,λb o e=>tT e,Nat.le_of_eq (qa _ _),trivial,λb hb=>absurd (show b∈([]:List Addr)from hb) (by simp),hok,.of_eq hg⟩;refine codeAny_mono ((F _ hKb (nsK hns)).run callerA [] s₁ H ⟨[.ref a],[]⟩ [.ref a] [.ref a] _ _ hr e0 (hbind s₁ (.ref a)) (.cons rfl .nil) (hsp H hO hS)) λr s' h=>?_;cases r with
  |error e=>exact(hCX H e s' h).elim
  |ok fl =>
   cases fl with
   |next=>exact False.elim h
   |brk=>exact False.elim h
   |cont=>exact False.elim h
   |ret u =>
    obtain⟨v,H',os,bare,un,hok',r',q⟩:=h;have q':v=.bl true:=q;subst q';obtain rfl:u=Value.bool true:=r';refine⟨rfl,OldK.of_keep λb o e=>?_,os,bare⟩;cases q:H b with
    |none=>exact un.keep b o e q (by intro z;exact absurd (show b∈([]:List Addr)from z) (by simp)) (by simp)
    |some u =>
     rcases hO b with z|⟨ob,xs,z⟩
     ·rw[q]at z;cases z
     ·have z2:=un.frzs b ob _ z;obtain⟨e1,_⟩:=hok b _ z;obtain⟨e2,_⟩:=hok' b _ z2;rw[e]at e1;cases e1;exact e2
 cases hk:K.lookup a with
 |some o =>
  have e:=KX a o hk;rw[ha]at e;cases e;refine core (λ_=>none) (λ_=>.inl rfl) (.inr ⟨_,vs.toArray,_,hk,rfl,rfl,rfl,by rw[size_toArray,lenV];exact hl,by simpa using rv⟩) (λb u z=>by have z':(none:Option HO)=some u:=z;cases z') (λb z=>absurd rfl z) λz=>absurd rfl z
 |none =>
  refine core (λb=>if b=a then some (.frz {cls:=.type "list",data:=.seq vs.toArray} (.lst (ns.map V.int)))else none) (λb=>?_) (.inl (.inr ⟨{cls:=.type "list",data:=.seq vs.toArray},if_pos rfl⟩)) (λb u z=>?_) (λb z=>?_) λ_=>hk
  ·by_cases hb:b=a
   ·exact .inr ⟨_,_,if_pos hb⟩
   ·exact .inl (if_neg hb)
  ·by_cases hb:b=a
   ·have z':=(if_pos hb).symm.trans z;cases z';subst hb;exact⟨ha,by rw[length_map];exact hl,vs,_,rv,ha⟩
   ·have z':=(if_neg hb).symm.trans z;cases z'
  ·by_cases hb:b=a
   ·exact hb
   ·exact absurd (if_neg hb) z
theorem ui{l:PySem.W.OpenLaw}{n k:Nat}{q:Program}{loose:List Str}{XP:(Str→Option Value)→Heap→Prop}{YP:World→Heap→Prop}{d:DefRec}{K:Params→PySem.W.Frag}{CX:World→CXT}{sp:World→Sp}{x:Str}(hn:l.most=some n)(hn2:n≤sizeLine)(hdf:d.params.defaults=[])(hr:Room k callerA)(hY:∀(w:World) (h:Heap),YP w h→(K w.params).In h)(F:∀(w:World) (mg:Str→Option Value) (fa:Addr) (h:Heap),(K w.params).In h→h.Ns mainGlobals mg→mg d.name=some (.ref fa) →
   ∃fd:FuncData,(∀(s:Shared) (u:Value),BindsTo s fd ⟨[u],[]⟩ [(x,u)]) ∧
    ∀base:Heap,(K w.params).In base→base.Ns mainGlobals mg→FnOk l.prog w (K w.params) mg base (CX w) k fa fd [x] (sp w))(hsp:∀(w:World) (H:Hp) (a:Addr) (ns:List Int),ns.length≤n→ww H→SqL (K w.params) H a (ns.map V.int)→sp w [.ref a] H (λv _=>v=.bl true) λ_ _ _=>False)(hCX:∀(w:World) (H:Hp) (s:Shared) (e:Value) (s':Shared),CX w [] H s (λ_ _ _=>False) e s'→False):
  PySem.W.WalkO q loose XP YP l.row.toRowW d [] (λf vs=>PySem.call f vs):=by
 refine Att.lO hn hdf λw s₀ s₁ mg mb fa o pm cd doc a vs ns G Y ho hd hcd hmg hobj hints hlen hg=>?_;have KX:=hY w _ Y;obtain⟨fd,hb,hF⟩:=F w mg fa _ KX G.T.g hmg;exact rA KX G.T.g G.T.b G.T.builtins G.T.nolimit hg hobj hints (le_trans hlen hn2) hr hF hb (λH hO hS=>hsp w H a ns hlen hO hS) λH e s'=>hCX w H s₁ e s'
def cL(s:Stmt):Arguments:=match s with
 |.FunctionDef _ a _ _ _ _ _ _ _ _=>a
 |_=>{posonlyargs:=[],args:=[],vararg:=none,kwonlyargs:=[],kw_defaults:=[],kwarg:=none,defaults:=[]}
def bU(s:Stmt):List Stmt:=match s with
 |.FunctionDef _ _ b _ _ _ _ _ _ _=>b
 |_=>[]
def ai(s:Stmt):Scope:=match s with
 |.FunctionDef _ _ _ _ _ _ sc _ _ _=>sc
 |_=>{kind:=.function,names:=[],isGenerator:=false,isCoroutine:=false}
abbrev CX0:CXT:=λ_ _ _ _ _ _=>False
abbrev E0:XK:=λ_ _ _=>False
theorem aP{X:Cx}:gU CX0 X E0:=λ_ _ _ _ _ _ _ h=>h.elim
structure Fun(K:PySem.W.Frag)(x qual:Str)(st:Stmt)(f:Addr)(fd:FuncData):Prop where
 ex:∃(oc:Value) (od:Option Addr) (kV doc pm:Value) (an:Option Addr) (cdv ct:Value) (osl:Array (Option Value)),
  fd=fnOf x qual (cL st) (bU st) (ai st) .none kV doc pm an cdv ct∧K.lookup f=some ⟨oc,od,.func fd,osl⟩∧codeIn K cdv qual=true
 kp:keepIn K (.ref f)=true
section
variable{P:Program}{w:World}{K:PySem.W.Frag}{mg:Str→Option Value}{base:Heap}
theorem Fun.ok{x qual:Str}{st:Stmt}{f:Addr}{fd:FuncData}{N ps:List Str}{k:Nat}{sp:Sp}(F:Fun K x qual st f fd)(S:FnScope N ps (ai st))(len:∀vs H Q E,sp vs H Q E→vs.length=ps.length)(hbody:∀(cdv:Value) (A:Around) (outer:List Env) (s:Shared) (H:Hp) (vs:List V) (Q:VK) (E:XK),Room k (A.deeper (envOfC qual (ai st) s.heap.objs.size f cdv))→sp vs H Q E →
   ∃t,PSs (ko CX0 P w K mg base N qual (ai st) f cdv A outer s H E).nox (bU st) t∧t {nx:=λ_ H'=>Q .non H',rt:=Q} (start N vs) H):FnOk P w K mg base CX0 (k+1) f fd ps sp:=by
 obtain⟨oc,od,kV,doc,pm,an,cdv,ct,osl,rfl,lk,hcd⟩:=F.ex;refine vx lk hcd S len λA outer s H vs Q E hr hsp=>?_;obtain⟨t,h,q⟩:=hbody cdv A outer s H vs Q E hr hsp;exact⟨t,h.nox,q⟩
theorem Fun.binds{x qual:Str}{st:Stmt}{f:Addr}{fd:FuncData}{ps:List Str}(F:Fun K x qual st f fd)(h:∀(kV doc pm:Value) (an:Option Addr) (cdv ct:Value) (us:List Value),us.length=ps.length→bindArgs (fnOf x qual (cL st) (bU st) (ai st) .none kV doc pm an cdv ct) ⟨us,[]⟩=pure (ps.zip us)):bY K fd ps []:=by
 obtain⟨oc,od,kV,doc,pm,an,cdv,ct,osl,rfl,lk,hcd⟩:=F.ex;exact .all (h kV doc pm an cdv ct)
theorem wx{x qual:Str}{st:Stmt}{f:Addr}{oc:Value}{od an:Option Addr}{osl:Array (Option Value)}{kV doc pm cdv ct:Value}(l:K.lookup f=some ⟨oc,od,.func (fnOf x qual (cL st) (bU st) (ai st) .none kV doc pm an cdv ct),osl⟩)(c:codeIn K cdv qual=true)(k:keepIn K (.ref f)=true):Fun K x qual st f (fnOf x qual (cL st) (bU st) (ai st) .none kV doc pm an cdv ct):=⟨⟨oc,od,kV,doc,pm,an,cdv,ct,osl,rfl,l,c⟩,k⟩
end
theorem cc{A:Around}{k:Nat}(hr:Room k A):A.units+1<cLine:=lt_of_le_of_lt (Nat.add_le_add_left (by decide:1≤64) _) hr.units
theorem ax{n:Nat}(h:n≤1000):n<sizeLine:=lt_of_le_of_lt h (by decide)
section
variable{X:Cx}
theorem pv(i:Nat){x:Str}{pos:Pos}(hN:X.N[i]?=some x:=by rfl)(hv:Vis X.env.scope x:=by first|exact Or.inl rfl|exact Or.inr (Or.inl rfl)|exact Or.inr (Or.inr rfl))(hd:(x==("__debug__":Str))=false:=by decide)(hcd:(x==("__classdict__":Str))=false:=by decide):PE X (.Name x pos) (eX i):=vO hN hv hd hcd
end
theorem aD{A B:Prop}(h:B):if false=true then A else B:=by
 rw[if_neg Bool.false_ne_true];exact h
theorem aA{A B:Prop}(h:A):if true=true then A else B:=by
 rw[if_pos rfl];exact h
theorem ze{c A B:Prop}[Decidable c](h1:c→A)(h2:¬c→B):if c then A else B:=by
 by_cases h:c
 ·rw[if_pos h];exact h1 h
 ·rw[if_neg h];exact h2 h
theorem yg{c A B:Prop}[Decidable c](hc:c)(h:B):if (!decide c)=true then A else B:=by
 rw[decide_eq_true hc];exact aD h
def ak(H H':Hp):Prop:=∀b o,H b=some o→H' b=some o
theorem ak.refl(H:Hp):ak H H:=λ_ _ h=>h
theorem ak.trans{H H1 H2:Hp}(a:ak H H1)(b:ak H1 H2):ak H H2:=λc o h=>b c o (a c o h)
theorem ak.free{H H':Hp}(e:ak H H'){l:Addr}(h:H' l=Option.none):H l=Option.none:=by
 cases q:H l with
 |none=>rfl
 |some o =>
  rw[e l o q]at h;cases h
theorem ak.seq{K:PySem.W.Frag}{H H':Hp}{a:Addr}{xs:List V}(e:ak H H')(h:SqL K H a xs):SqL K H' a xs:=by
 rcases h with (h|⟨o,h⟩)|h
 ·exact .inl (.inl (e _ _ h))
 ·exact .inl (.inr ⟨o,e _ _ h⟩)
 ·exact .inr h
section
variable{κ:Type}[DecidableEq κ]
theorem qt{p:κ×V}{r:List (κ×V)}{k:κ}(e:p.1=k):cH (p::r) k=cH r k:=by
 unfold cH;rw[filter_cons,if_neg (by simp[e])]
theorem qu{p:κ×V}{r:List (κ×V)}{k:κ}(e:¬p.1=k):cH (p::r) k=p::cH r k:=by
 unfold cH;rw[filter_cons,if_pos (by simp[e])]
end
structure LcOk(X:Cx)(scope:Scope)(cl:List (Str×Addr)):Prop where
 kind:scope.kind=.function
 clos:closureFor scope X.env=pure cl
 names:∀x∈scope.names,x.2=.local→scope.names.lookup x.1=some .local
 nocell:∀x∈scope.names,x.2≠.cell
 cells:∀x c,cl.lookup x=some c→X.env.cells.lookup x=some c
 has:∀x,((relabel scope X.env).names.lookup x=some .cell∨(relabel scope X.env).names.lookup x=some .free)→∃c,cl.lookup x=some c
abbrev cz(X:Cx)(N:List Str)(scope:Scope)(cl:List (Str×Addr))(s:Shared)(H:Hp)(ex:List Addr):Cx :=
 {X with N:=N,s₀:=s,H₀:=H,env:=compEnvC scope cl s.heap.objs.size X.env,outer:=X.stack,stack:=X.stack,ex:=ex,fn:=λ_=>false,pn:=[],xe:=λ_ _=>False}
section
variable{X:Cx}{pins:List (Addr×Obj)}{σ:St}{H:Hp}{s:Shared}{N:List Str}{scope:Scope}{cl:List (Str×Addr)}{fp:List Addr}
theorem oZ(I:Inv X pins σ H s)(L:LcOk X scope cl)(hf:∀b∈fp,fk X pins H b)(ho:∀b∈fp,b<s.heap.objs.size):(cz X N scope cl s H fp).Ok where
 mod:=I.ok.mod
 kind:=L.kind
 glob:=I.ok.glob
 blt:=I.ok.blt
 above:=le_refl _
 inj:=λx y c h1 h2=>I.ok.inj x y c (L.cells x c h1) (L.cells y c h2)
 has:=λx hx=>L.has x hx
 cab:=λx c h _=>absurd h (by simp)
 hd:=I.ok.hd
 frames:=I.ok.frames
 stk:=.inl rfl
 exf:=λb hb=>⟨ne_of_lt (ho b hb),λx c h=>(hf b hb).2.2.2.2.1 x c (L.cells x c h)⟩
 bs:=I.bs
 bsz:=le_trans I.ok.bsz I.sz
 noex:=λb o e hb=>by
  rcases (hf b hb).2.2.2.1 with z|z
  ·exact I.ok.noex b o e z
  ·exact absurd (lt_of_lt_of_le (lt_size e) (le_trans I.ok.bsz z)) (lt_irrefl _)
 exfs:=λb hb hs=>by
  rcases mem_cons.mp (I.stkSub b hs)with z|z
  ·exact(hf b hb).2.1 z
  ·exact(hf b hb).2.2.1 z
 funs:=I.stack
 frf:=I.stkFree
def cM(k:Nat)(js:List Nat)(σ:St):St:=replicate k none++js.map λj=>(σ[j]?).getD none
theorem iN{h₁:Heap}{tk:Nat}{k:Nat}{js:List Nat}(I:Inv X pins σ H s)(L:LcOk X scope cl)(hf:∀b∈fp,fk X pins H b)(ho:∀b∈fp,b<s.heap.objs.size)(hns:∃m,h₁.Ns s.heap.objs.size m)(hk:∀b o,s.heap.get? b=some o→h₁.get? b=some o)(hN:N.length=k+js.length)(hj:∀(i j:Nat) x,js[i]?=some j→N[k+i]?=some x→X.N[j]?=some x∧Vis X.env.scope x∧X.env.scope.names.lookup x≠some .local∧((relabel scope X.env).names.lookup x=some .cell∨(relabel scope X.env).names.lookup x=some .free)):
  Inv (cz X N scope cl s H fp) [] (cM k js σ) H {s with heap:=h₁,toks:=tk}:=by
 obtain⟨m,hm⟩:=hns;have cellK:∀c v,s.heap.IsCell c v→h₁.IsCell c v:=λc v ⟨o,e,d⟩=>⟨o,hk c o e,d⟩;refine⟨oZ I L hf ho,rfl,I.bare,Un.kept hk,⟨m,hm,λi x v e1 e2 e3=>?_⟩,λx c e=>?_,I.hok.fresh (le_refl _),λx c e=>I.freeC x c (L.cells x c e),λp hp=>absurd (show p∈([]:List (Addr×Obj))from hp) (by simp),I.hok.kept hk,?_⟩
 ·unfold cM at e2
  by_cases hi:i<k
  ·rw[getElem?_append_left (by simpa using hi),List.getElem?_replicate]at e2
   split at e2<;>cases e2
  ·obtain⟨i',rfl⟩:∃i',i=k+i':=⟨i-k,by omega⟩;rw[List.getElem?_append_right (by simp),List.length_replicate,Nat.add_sub_cancel_left,getElem?_map]at e2;cases ej:js[i']? with
   |none=>rw[ej]at e2;cases e2
   |some j =>
    rw[ej]at e2;have e2':(σ[j]?).getD none=some v:=Option.some.inj e2;obtain⟨h1,h2,h3,h4⟩:=hj i' j x ej e1;have e4:σ[j]?=some (some v):=by
     cases q:σ[j]? with
     |none=>rw[q]at e2';cases e2'
     |some y=>rw[q]at e2';exact congrArg some e2'
    obtain⟨m0,_,hl⟩:=I.loc;obtain⟨u,r,lk⟩:=hl j x v h1 e4 h2;refine⟨u,r,.inr ⟨h4,?_⟩⟩;rcases lk with⟨q,_⟩|⟨_,c,e5,e6⟩
    ·exact absurd q h3
    ·obtain⟨c',e7⟩:=L.has x h4;have:c'=c:=Option.some.inj ((L.cells x c' e7).symm.trans e5);subst this;exact⟨c',e7,cellK c' _ e6⟩
 ·obtain⟨v,e1⟩:=I.cell x c (L.cells x c e);exact⟨v,cellK c v e1⟩
 ·unfold cM;rw[length_append,List.length_replicate,length_map];exact hN.symm
theorem nS{H':Hp}{σ':St}{s':Shared}{h':Heap}(I:Inv X pins σ H s)(hf:∀b∈fp,fk X pins H b)(J:Inv (cz X N scope cl s H fp) [] σ' H' s')(hs:SameBut s.heap.objs.size s'.heap h'):Inv X pins σ H' {s' with heap:=h'}:=by
 have ne:∀b o,s.heap.get? b=some o→b≠s.heap.objs.size:=λb o e=>ne_of_lt (lt_size e);have u:=J.base;have u':Un (frs X.stack) fp H H' s.heap h' :=
  ⟨λb o e n hb hx=>(hs.2 b (ne b o e)).trans (u.keep b o e n hb hx),λb o e n hb hx=>by
   obtain⟨sl,q⟩:=u.slot b o e n hb hx;exact⟨sl,(hs.2 b (ne b o e)).trans q⟩,u.free,λb o e hx=>by
   obtain⟨o',q⟩:=u.there b o e hx;exact⟨o',(hs.2 b (ne b o e)).trans q⟩,u.tups,u.frzs,u.tbls⟩
 have nt:∀b o,H' b=some o→b≠s.heap.objs.size:=λb o e z=>by
  have:=J.free;rw[show(cz X N scope cl s H fp).env.locals=s.heap.objs.size from rfl,←z,e]at this;cases this
 refine I.call' (s':={s' with heap:=h'}) J.os u' (λb o e=>?_) J.bare λb hb=>?_
 ·refine(J.hok b o e).stay (λc v hc q=>(hs.2 c ?_).trans q) (λ_ q=>q) λ_ _ q=>q;rcases hc with z|z
  ·rw[z];exact nt b o e
  ·exact nt c _ z
 ·obtain⟨f0,f1,f2,f3,f4,f5⟩:=hf b hb;exact⟨f3,f1,f4,f5⟩
end
section
variable{prog:Program}{w:World}{A:Around}{R:Result→Shared→Prop}{s:Shared}
theorem pb{elt target iter:Expr}{scope:Scope}{pos:Pos}{it acc:Value}{env:Env}(I:Nat→Shared→Prop)(turn:∀n s,I n s→wpAny (model prog w) A (pyNext it) (λr s₁=>match r with
   |none=>R (.ok .next) s₁
   | some v=>wpAny (model prog w) A (letOwnedTupleGo target it v) (λ_ s₂=>wpAny (model prog w) A (assign target env v) (λ_ s₃=>wpAny (model prog w) A (eval elt env) (λx s₄ =>
     wpAny (model prog w) A (call (.builtin "list.append") [acc,x]) (λ_ s₅=>∃m,m<n∧I m s₅) (λ_ _=>False) s₄) (λ_ _=>False) s₃) (λ_ _=>False) s₂) (λ_ _=>False) s₁) (λ_ _=>False) s)(n:Nat)(h:I n s):codeAny (model prog w) A (.compLoop (.ListComp elt [⟨target,iter,[],0⟩] scope pos) 0 it acc env) R s:=by
 refine codeAny_loop rfl I (λn s hI=>?_) n h;show wpAny _ _ ((compTurn (.ListComp elt [⟨target,iter,[],0⟩] scope pos) 0 it acc env).onRaise (λx=>do noteFrame x env;theTreesLotGoes x)) _ _ s;refine wpAny_noted ?_;rw[compTurn_list1];refine wpAny_bind (wpAny_standAt (wpAny_bind (wpAny_mono (turn n s hI) (λr s₁ h₁=>?_) λ_ _ h'=>h'.elim)));cases r with
 |none=>exact wpAny_pure h₁
 |some v =>
  refine wpAny_bind (wpAny_mono h₁ (λ_ s₂ h₂=>?_) λ_ _ h'=>h'.elim);exact wpAny_bind (wpAny_mono h₂ (λ_ s₂ h₂=>wpAny_bind (wpAny_bind (wpAny_mono h₂ (λx s₃ h₃=>wpAny_bind (wpAny_mono h₃
   (λ_ s₄ h₄=>wpAny_pure (wpAny_pure ⟨rfl,h₄⟩)) λ_ _ h'=>h'.elim)) λ_ _ h'=>h'.elim))) λ_ _ h'=>h'.elim)
theorem iO(elt target iter c:Expr)(scope:Scope)(pos:Pos)(it acc:Value)(env:Env):
  compTurn (.ListComp elt [⟨target,iter,[c],0⟩] scope pos) 0 it acc env=(standAt iter.pos >>= λ_=>pyNext it >>= λr=>match r with
   |none=>pure (.done .next)
   |some v=>letOwnedTupleGo target it v >>= λ_=>assign target env v >>= λ_ =>
    (forIn [c] true λc r=>if r=true then do let ok ← isTrue c env (eval c env);pure (ForInStep.yield ok)else pure (ForInStep.yield r)) >>= λok =>
    if ok=true then (eval elt env >>= λx=>call (.builtin "list.append") [acc,x] >>= λ_=>pure ()) >>= λ_ =>
     again (.compLoop (.ListComp elt [⟨target,iter,[c],0⟩] scope pos) 0 it acc env)
    else again (.compLoop (.ListComp elt [⟨target,iter,[c],0⟩] scope pos) 0 it acc env)):=by rfl
theorem rB{elt target iter c:Expr}{scope:Scope}{pos:Pos}{it acc:Value}{env:Env}(I:Nat→Shared→Prop)(turn:∀n s,I n s→wpAny (model prog w) A (pyNext it) (λr s₁=>match r with
   |none=>R (.ok .next) s₁
   | some v=>wpAny (model prog w) A (letOwnedTupleGo target it v) (λ_ s₂=>wpAny (model prog w) A (assign target env v) (λ_ s₃=>wpAny (model prog w) A (isTrue c env (eval c env)) (λok s₃ =>
     if ok=true then wpAny (model prog w) A (eval elt env) (λx s₄ =>
      wpAny (model prog w) A (call (.builtin "list.append") [acc,x]) (λ_ s₅=>∃m,m<n∧I m s₅) (λ_ _=>False) s₄) (λ_ _=>False) s₃
     else ∃m,m<n∧I m s₃) (λ_ _=>False) s₃) (λ_ _=>False) s₂) (λ_ _=>False) s₁) (λ_ _=>False) s)(n:Nat)(h:I n s):codeAny (model prog w) A (.compLoop (.ListComp elt [⟨target,iter,[c],0⟩] scope pos) 0 it acc env) R s:=by
 refine codeAny_loop rfl I (λn s hI=>?_) n h;show wpAny _ _ ((compTurn (.ListComp elt [⟨target,iter,[c],0⟩] scope pos) 0 it acc env).onRaise (λx=>do noteFrame x env;theTreesLotGoes x)) _ _ s;refine wpAny_noted ?_;rw[iO];refine wpAny_bind (wpAny_standAt (wpAny_bind (wpAny_mono (turn n s hI) (λr s₁ h₁=>?_) λ_ _ h'=>h'.elim)));cases r with
 |none=>exact wpAny_pure h₁
 |some v =>
  refine wpAny_bind (wpAny_mono h₁ (λ_ s₂ h₂=>?_) λ_ _ h'=>h'.elim);refine wpAny_bind (wpAny_mono h₂ (λ_ s₃ h₃=>?_) λ_ _ h'=>h'.elim);rw[forIn_cons];simp only[if_true];refine wpAny_bind (wpAny_bind (wpAny_bind (wpAny_mono h₃ (λok s₄ h₄=>wpAny_pure ?_) λ_ _ h'=>h'.elim)));simp only[forIn_nil];refine wpAny_pure ?_;cases ok with
  |true =>
   rw[if_pos rfl]at h₄⊢;exact wpAny_bind (wpAny_bind (wpAny_mono h₄ (λx s₃ h₃=>wpAny_bind (wpAny_mono h₃ (λ_ s₄ h₄=>wpAny_pure (wpAny_pure ⟨rfl,h₄⟩)) λ_ _ h'=>h'.elim)) λ_ _ h'=>h'.elim))
  |false =>
   rw[if_neg (by simp)]at h₄⊢;exact wpAny_pure ⟨rfl,h₄⟩
end
def LcW(k:Nat)(js:List Nat)(g:TG)(te:TE)(σ:St)(Q:VK)(J:It)(H1:Hp)(p:Addr):Prop:=∃W:Nat→Nat→List V→St→Hp→Prop,
 (∃m,W 0 m [] (cM k js σ) (upd H1 p (.lst [])))∧∀i m ys σ' H',W i m ys σ' H'→(J.stop i H'∧Q (.ref p) H') ∨
  (J.go i H'∧ys.length<sizeLine∧∀x H2,J.yld i H' x H2→g x σ' H2 λσ2 H3=>te σ2 H3 λy H4=>H4 p=some (.lst ys)∧∃m',m'<m∧W (i+1) m' (ys++[y]) σ2 (upd H4 p (.lst (ys++[y]))))
def tLc(k:Nat)(js:List Nat)(wi:TI)(g:TG)(te:TE):TE:=λσ H Q=>wi σ H λJ H1=>∀p,H1 p=none→LcW k js g te σ Q J H1 p
def yh(k:Nat)(js:List Nat)(g:TG)(tc:TT)(te:TE)(σ:St)(Q:VK)(J:It)(H1:Hp)(p:Addr):Prop:=∃W:Nat→Nat→List V→St→Hp→Prop,
 (∃m,W 0 m [] (cM k js σ) (upd H1 p (.lst [])))∧∀i m ys σ' H',W i m ys σ' H'→(J.stop i H'∧Q (.ref p) H') ∨
  (J.go i H'∧ys.length<sizeLine∧∀x H2,J.yld i H' x H2→g x σ' H2 λσ2 H3=>tc σ2 H3 λb H4=>if b=true then te σ2 H4 λy H5=>H5 p=some (.lst ys)∧∃m',m'<m∧W (i+1) m' (ys++[y]) σ2 (upd H5 p (.lst (ys++[y])))
   else ∃m',m'<m∧W (i+1) m' ys σ2 H4)
def zf(k:Nat)(js:List Nat)(wi:TI)(g:TG)(tc:TT)(te:TE):TE:=λσ H Q=>wi σ H λJ H1=>∀p,H1 p=none→yh k js g tc te σ Q J H1 p
section
variable{X:Cx}{N:List Str}{scope:Scope}{cl:List (Str×Addr)}{k:Nat}{js:List Nat}
theorem eD{elt tg iter:Expr}{pos:Pos}{wi:TI}{g:TG}{te:TE}(hc:X.calm=true)(L:LcOk X scope cl)(hN:N.length=k+js.length)(hj:∀(i j:Nat) x,js[i]?=some j→N[k+i]?=some x→X.N[j]?=some x∧Vis X.env.scope x∧X.env.scope.names.lookup x≠some .local∧((relabel scope X.env).names.lookup x=some .cell∨(relabel scope X.env).names.lookup x=some .free))(hi:PI X tg iter wi)(hg:∀s H fp,PG (cz X N scope cl s H fp) tg g)(he:∀s H fp,PE (cz X N scope cl s H fp) elt te)(hs:∀x,foldedSetIterable iter X.env x=pure x:=by intro _;rfl):PE X (.ListComp elt [⟨tg,iter,[],0⟩] scope pos) (tLc k js wi g te):=by
 intro pins s σ H Q I h;rw[eval_ListComp];refine wpAny_comprehension_free (use:=none) rfl hs L.clos L.kind L.names ?_;refine thn (hi pins s σ H _ I h) λv s1 h1=>thn h1 λitv s2 h2=>?_;obtain⟨it,fp,tn,J,H2,e,I2,T,st2,f2,hW⟩:=h2;subst e;have hfp:∀b∈fp,b<s2.heap.objs.size:=λb hb=>by
  obtain⟨o,e,_⟩:=T.obj _ _ st2 b hb;exact lt_size e
 refine wpAny_newObj_type (wpAny_newFunctionEnv L.nocell (by intro y hy;simp at hy) (λh₁ hns hsb=>?_) L.kind);dsimp only at hns hsb⊢;obtain⟨W,⟨m0,w0⟩,turn⟩:=hW s2.heap.objs.size (I2.hok.fresh (le_refl _));have I3:Inv X pins σ (upd H2 s2.heap.objs.size (.lst [])) {s2 with heap:=s2.heap.push {cls:=.type "list",dict:=none,data:=.seq ([]:List Value).toArray}}:=I2.lnew (t':=s2.toks) .nil (zero_le _)
 generalize hA:s2.heap.push {cls:=.type "list",dict:=none,data:=.seq ([]:List Value).toArray}=hpA at hns hsb I3⊢;have hszA:hpA.objs.size=s2.heap.objs.size+1:=by rw[←hA,size_push]
 have keepA:∀b o,s2.heap.get? b=some o→hpA.get? b=some o:=λb o e=>by rw[←hA];exact get?_push_of_some _ e
 have f3:∀b∈fp,fk X pins (upd H2 s2.heap.objs.size (.lst [])) b:=λb hb=>⟨by rw[al (ne_of_lt (hfp b hb))];exact(f2 b hb).1,(f2 b hb).2⟩;have hfp3:∀b∈fp,b<hpA.objs.size:=λb hb=>by rw[hszA];exact lt_succ_of_lt (hfp b hb)
 have keep1:∀b o,hpA.get? b=some o→h₁.get? b=some o:=λb o e=>hsb.extBut b o (ne_of_lt (lt_size e)) (get?_push_of_some _ e);have J0:=iN (N:=N) (k:=k) (js:=js) (tk:=s2.toks+([]:List (Str×Value)).length) I3 L f3 hfp3 ⟨_,hns⟩ keep1 hN hj;have st1:tn 0 h₁:=T.keep _ _ _ st2 λb hb o e=>keep1 b o (keepA b o e);have stat:∀{H':Hp},(∀b∈fp,H' b=none)→∀b∈fp,fk (cz X N scope cl {s2 with heap:=hpA} (upd H2 s2.heap.objs.size (.lst [])) fp) [] H' b:=λhn b hb =>
  ⟨hn b hb,ne_of_lt (hfp3 b hb),(oZ (N:=N) I3 L f3 hfp3).exfs b hb,.inl hb,λx c h=>(f3 b hb).2.2.2.2.1 x c (L.cells x c h),λp hp=>absurd (show p∈([]:List (Addr×Obj))from hp) (by simp)⟩
 have loop:codeAny (model X.prog X.w) X.A (.compLoop (.ListComp elt [⟨tg,iter,[],0⟩] scope pos) 0 (.ref it) (.ref s2.heap.objs.size) (compEnvC scope cl hpA.objs.size X.env))
   (compPost (model X.prog X.w) X.A X.xe none (EP X pins σ Q) (.ref s2.heap.objs.size) hpA.objs.size) {s2 with heap:=h₁,toks:=s2.toks+([]:List (Str×Value)).length}:=by
  refine pb (λn s'=>∃i ys σ' H',Inv (cz X N scope cl {s2 with heap:=hpA} (upd H2 s2.heap.objs.size (.lst [])) fp) [] σ' H' s'∧tn i s'.heap∧(∀b∈fp,H' b=none)∧W i n ys σ' H') ?_ m0 ⟨0,[],_,_,J0,st1,λb hb=>(f3 b hb).1,w0⟩
  rintro n s3 ⟨i,ys,σ3,H3,J3,st3,fr3,w3⟩;rcases turn i n ys σ3 H3 w3 with⟨stop,qn⟩|⟨go,hlen,step⟩
  ·refine thn (T.done (cz X N scope cl {s2 with heap:=hpA} (upd H2 s2.heap.objs.size (.lst [])) fp) rfl rfl rfl hc i [] s3 σ3 H3 (λ_ _=>False) J3 (stat fr3) st3 stop) λr s4 hpt=>?_
   obtain⟨hr,J4⟩:=hpt;subst hr;obtain⟨m,hm,_⟩:=J4.loc;exact⟨m,hm,λh' hs'=>⟨.ref s2.heap.objs.size,H3,nS I3 f3 J4 hs',rfl,qn⟩⟩
  ·refine thn (T.item (cz X N scope cl {s2 with heap:=hpA} (upd H2 s2.heap.objs.size (.lst [])) fp) rfl rfl rfl hc i [] s3 σ3 H3 (λ_ _=>False) J3 (stat fr3) st3 go) λr s4 hpt=>?_
   obtain⟨u,hr,h4⟩:=hpt;subst hr;refine thn h4 λ_ s5 hpt=>?_;obtain⟨x,H5,J5,r5,y5,st5,fr5⟩:=hpt;have J5':=J5.pinned (stat fr5) (T.obj _ _ st5);refine thn (hg _ _ _ _ s5 σ3 H5 x u _ J5' r5 (step x H5 y5)) λ_ s6 hpt=>?_;obtain⟨σ6,H6,J6,q6⟩:=hpt;refine thn (he _ _ _ _ s6 σ6 H6 _ J6 q6) λy s7 hpt=>?_;obtain⟨vy,H7,J7,r7,q7,m',hm',w7⟩:=hpt;refine thn (bg _ s7 σ6 H7 (.ref s2.heap.objs.size) [vy] _ _ (λ_ H8=>H8=upd H7 s2.heap.objs.size (.lst (ys++[vy]))) J7 rfl (.cons r7 .nil) ⟨_,ys,vy,rfl,rfl,q7,hlen,rfl⟩) λ_ s8 hpt=>?_;obtain⟨_,H8,J8,_,e8⟩:=hpt;subst e8;refine⟨m',hm',i+1,ys++[vy],σ6,_,J8.unpinned,T.keep _ _ _ st5 λb hb o e=>(J8.pin (b,o) (mem_append_right _ (mem_append_right _ (bn hb e)))).1,λb hb=>?_,w7⟩;obtain⟨o,e,d⟩:=T.obj _ _ st5 b hb;exact(J8.pin (b,o) (mem_append_right _ (mem_append_right _ (bn hb e)))).2.1
 exact codeAny_compStart_list loop (T.self _ 0 _ _ _ st1 loop)
theorem iP{elt tg iter c:Expr}{pos:Pos}{wi:TI}{g:TG}{tc:TT}{te:TE}(hc:X.calm=true)(L:LcOk X scope cl)(hN:N.length=k+js.length)(hj:∀(i j:Nat) x,js[i]?=some j→N[k+i]?=some x→X.N[j]?=some x∧Vis X.env.scope x∧X.env.scope.names.lookup x≠some .local∧((relabel scope X.env).names.lookup x=some .cell∨(relabel scope X.env).names.lookup x=some .free))(hi:PI X tg iter wi)(hg:∀s H fp,PG (cz X N scope cl s H fp) tg g)(ht:∀s H fp,PT (cz X N scope cl s H fp) c tc)(he:∀s H fp,PE (cz X N scope cl s H fp) elt te)(hs:∀x,foldedSetIterable iter X.env x=pure x:=by intro _;rfl):PE X (.ListComp elt [⟨tg,iter,[c],0⟩] scope pos) (zf k js wi g tc te):=by
 intro pins s σ H Q I h;rw[eval_ListComp];refine wpAny_comprehension_free (use:=none) rfl hs L.clos L.kind L.names ?_;refine thn (hi pins s σ H _ I h) λv s1 h1=>thn h1 λitv s2 h2=>?_;obtain⟨it,fp,tn,J,H2,e,I2,T,st2,f2,hW⟩:=h2;subst e;have hfp:∀b∈fp,b<s2.heap.objs.size:=λb hb=>by
  obtain⟨o,e,_⟩:=T.obj _ _ st2 b hb;exact lt_size e
 refine wpAny_newObj_type (wpAny_newFunctionEnv L.nocell (by intro y hy;simp at hy) (λh₁ hns hsb=>?_) L.kind);dsimp only at hns hsb⊢;obtain⟨W,⟨m0,w0⟩,turn⟩:=hW s2.heap.objs.size (I2.hok.fresh (le_refl _));have I3:Inv X pins σ (upd H2 s2.heap.objs.size (.lst [])) {s2 with heap:=s2.heap.push {cls:=.type "list",dict:=none,data:=.seq ([]:List Value).toArray}}:=I2.lnew (t':=s2.toks) .nil (zero_le _)
 generalize hA:s2.heap.push {cls:=.type "list",dict:=none,data:=.seq ([]:List Value).toArray}=hpA at hns hsb I3⊢;have hszA:hpA.objs.size=s2.heap.objs.size+1:=by rw[←hA,size_push]
 have keepA:∀b o,s2.heap.get? b=some o→hpA.get? b=some o:=λb o e=>by rw[←hA];exact get?_push_of_some _ e
 have f3:∀b∈fp,fk X pins (upd H2 s2.heap.objs.size (.lst [])) b:=λb hb=>⟨by rw[al (ne_of_lt (hfp b hb))];exact(f2 b hb).1,(f2 b hb).2⟩;have hfp3:∀b∈fp,b<hpA.objs.size:=λb hb=>by rw[hszA];exact lt_succ_of_lt (hfp b hb)
 have keep1:∀b o,hpA.get? b=some o→h₁.get? b=some o:=λb o e=>hsb.extBut b o (ne_of_lt (lt_size e)) (get?_push_of_some _ e);have J0:=iN (N:=N) (k:=k) (js:=js) (tk:=s2.toks+([]:List (Str×Value)).length) I3 L f3 hfp3 ⟨_,hns⟩ keep1 hN hj;have st1:tn 0 h₁:=T.keep _ _ _ st2 λb hb o e=>keep1 b o (keepA b o e);have stat:∀{H':Hp},(∀b∈fp,H' b=none)→∀b∈fp,fk (cz X N scope cl {s2 with heap:=hpA} (upd H2 s2.heap.objs.size (.lst [])) fp) [] H' b:=λhn b hb =>
  ⟨hn b hb,ne_of_lt (hfp3 b hb),(oZ (N:=N) I3 L f3 hfp3).exfs b hb,.inl hb,λx c h=>(f3 b hb).2.2.2.2.1 x c (L.cells x c h),λp hp=>absurd (show p∈([]:List (Addr×Obj))from hp) (by simp)⟩
 have loop:codeAny (model X.prog X.w) X.A (.compLoop (.ListComp elt [⟨tg,iter,[c],0⟩] scope pos) 0 (.ref it) (.ref s2.heap.objs.size) (compEnvC scope cl hpA.objs.size X.env))
   (compPost (model X.prog X.w) X.A X.xe none (EP X pins σ Q) (.ref s2.heap.objs.size) hpA.objs.size) {s2 with heap:=h₁,toks:=s2.toks+([]:List (Str×Value)).length}:=by
  refine rB (λn s'=>∃i ys σ' H',Inv (cz X N scope cl {s2 with heap:=hpA} (upd H2 s2.heap.objs.size (.lst [])) fp) [] σ' H' s'∧tn i s'.heap∧(∀b∈fp,H' b=none)∧W i n ys σ' H') ?_ m0 ⟨0,[],_,_,J0,st1,λb hb=>(f3 b hb).1,w0⟩
  rintro n s3 ⟨i,ys,σ3,H3,J3,st3,fr3,w3⟩;rcases turn i n ys σ3 H3 w3 with⟨stop,qn⟩|⟨go,hlen,step⟩
  ·refine thn (T.done (cz X N scope cl {s2 with heap:=hpA} (upd H2 s2.heap.objs.size (.lst [])) fp) rfl rfl rfl hc i [] s3 σ3 H3 (λ_ _=>False) J3 (stat fr3) st3 stop) λr s4 hpt=>?_
   obtain⟨hr,J4⟩:=hpt;subst hr;obtain⟨m,hm,_⟩:=J4.loc;exact⟨m,hm,λh' hs'=>⟨.ref s2.heap.objs.size,H3,nS I3 f3 J4 hs',rfl,qn⟩⟩
  ·refine thn (T.item (cz X N scope cl {s2 with heap:=hpA} (upd H2 s2.heap.objs.size (.lst [])) fp) rfl rfl rfl hc i [] s3 σ3 H3 (λ_ _=>False) J3 (stat fr3) st3 go) λr s4 hpt=>?_
   obtain⟨u,hr,h4⟩:=hpt;subst hr;refine thn h4 λ_ s5 hpt=>?_;obtain⟨x,H5,J5,r5,y5,st5,fr5⟩:=hpt;have J5':=J5.pinned (stat fr5) (T.obj _ _ st5);refine thn (hg _ _ _ _ s5 σ3 H5 x u _ J5' r5 (step x H5 y5)) λ_ s6 hpt=>?_;obtain⟨σ6,H6,J6,q6⟩:=hpt;refine thn (ht _ _ _ _ s6 σ6 H6 _ J6 q6) λb s6 hpt=>?_;obtain⟨H6,J6,q6⟩:=hpt;cases b with
   |true =>
    rw[if_pos rfl]at q6⊢;refine thn (he _ _ _ _ s6 σ6 H6 _ J6 q6) λy s7 hpt=>?_;obtain⟨vy,H7,J7,r7,q7,m',hm',w7⟩:=hpt;refine thn (bg _ s7 σ6 H7 (.ref s2.heap.objs.size) [vy] _ _ (λ_ H8=>H8=upd H7 s2.heap.objs.size (.lst (ys++[vy]))) J7 rfl (.cons r7 .nil) ⟨_,ys,vy,rfl,rfl,q7,hlen,rfl⟩) λ_ s8 hpt=>?_;obtain⟨_,H8,J8,_,e8⟩:=hpt;subst e8;refine⟨m',hm',i+1,ys++[vy],σ6,_,J8.unpinned,T.keep _ _ _ st5 λb hb o e=>(J8.pin (b,o) (mem_append_right _ (mem_append_right _ (bn hb e)))).1,λb hb=>?_,w7⟩;obtain⟨o,e,d⟩:=T.obj _ _ st5 b hb;exact(J8.pin (b,o) (mem_append_right _ (mem_append_right _ (bn hb e)))).2.1
   |false =>
    rw[if_neg (by simp)]at q6⊢;obtain⟨m',hm',w7⟩:=q6;refine⟨m',hm',i+1,ys,σ6,_,J6.unpinned,T.keep _ _ _ st5 λb hb o e=>(J6.pin (b,o) (mem_append_right _ (mem_append_right _ (bn hb e)))).1,λb hb=>?_,w7⟩;obtain⟨o,e,d⟩:=T.obj _ _ st5 b hb;exact(J6.pin (b,o) (mem_append_right _ (mem_append_right _ (bn hb e)))).2.1
 exact codeAny_compStart_list loop (T.self _ 0 _ _ _ st1 loop)
end
end L2
namespace TB
open PySem PySem.SetTable
def adv(mask:Nat)(p:Probe):Probe :=
 if p.more>0 then {p with j:=p.j+1,more:=p.more-1} else
 {p with j:=(leap mask p.i p.perturb).1,more:=runEnd mask (leap mask p.i p.perturb).1-(leap mask p.i p.perturb).1,i:=(leap mask p.i p.perturb).1,perturb:=(leap mask p.i p.perturb).2}
theorem fq(t:SetTable)(p:Probe):advance t p=adv t.mask p:=rfl
def lvP(mask:Nat)(x:Nat×Nat):Probe:={j:=x.1,more:=runEnd mask x.1-x.1,i:=x.1,perturb:=x.2,dummy:=none}
def st(mask:Nat)(h:Int):Probe:=lvP mask (bits h % (mask+1),bits h)
def nth(mask:Nat):Probe→Nat→Probe
 |p,0=>p
 |p,n+1=>nth mask (adv mask p) n
theorem dH(mask:Nat):∀(a b:Nat)(p:Probe),nth mask p (a+b)=nth mask (nth mask p a) b
 |0,b,p=>by rw[zero_add];rfl
 |a+1,b,p=>by
  rw[show a+1+b=(a+b)+1 by omega];show nth mask (adv mask p) (a+b)=nth mask (nth mask (adv mask p) a) b;exact dH mask a b _
theorem rC(mask:Nat)(p:Probe)(n:Nat):nth mask p (n+1)=adv mask (nth mask p n):=by
 rw[dH];rfl
def pos(mask:Nat)(h:Int)(n:Nat):Nat:=(nth mask (st mask h) n).j
theorem jK(mask:Nat):∀(m:Nat)(p:Probe),p.more=m→nth mask p m={p with j:=p.j+m,more:=0}
 |0,p,h=>by
  show p=_;cases p;simp at h;subst h;rfl
 |m+1,p,h=>by
  show nth mask (adv mask p) m=_;have e:adv mask p={p with j:=p.j+1,more:=m}:=by
   unfold adv;rw[if_pos (by omega),h];rfl
  rw[e,jK mask m _ rfl];simp only[Probe.mk.injEq,and_true];omega
theorem lP(mask:Nat):∀(m:Nat)(p:Probe),m≤p.more→nth mask p m={p with j:=p.j+m,more:=p.more-m}
 |0,p,h=>by
  show p=_;cases p;rfl
 |m+1,p,h=>by
  show nth mask (adv mask p) m=_;have e:adv mask p={p with j:=p.j+1,more:=p.more-1}:=by
   unfold adv;rw[if_pos (by omega)]
  rw[e,lP mask m _ (by show m≤p.more-1;omega)];simp only[Probe.mk.injEq,and_true];omega
theorem ft(mask:Nat)(x:Nat×Nat):nth mask (lvP mask x) (runEnd mask x.1-x.1+1)=lvP mask (leap mask x.1 x.2):=by
 have e:=jK mask (runEnd mask x.1-x.1) (lvP mask x) rfl;rw[rC,e];unfold adv;rw[if_neg (by simp)];rfl
theorem wy(mask i:Nat):runEnd mask i-i≤9:=by unfold runEnd;split<;>omega
def lv(mask:Nat):Nat→Nat×Nat→Nat×Nat
 |0,x=>x
 |k+1,x=>lv mask k (leap mask x.1 x.2)
theorem nT(mask:Nat):∀(a b:Nat)(x:Nat×Nat),lv mask (a+b) x=lv mask b (lv mask a x)
 |0,b,x=>by rw[zero_add];rfl
 |a+1,b,x=>by
  rw[show a+1+b=(a+b)+1 by omega];exact nT mask a b _
theorem lQ(mask:Nat):∀(k:Nat)(x:Nat×Nat),∃n,n≤10*k∧nth mask (lvP mask x) n=lvP mask (lv mask k x)
 |0,x=>⟨0,by omega,rfl⟩
 |k+1,x=>by
  obtain⟨n,hn,e⟩:=lQ mask k (leap mask x.1 x.2);refine⟨(runEnd mask x.1-x.1+1)+n,?_,?_⟩
  ·have:=wy mask x.1;omega
  ·rw[dH,ft];exact e
theorem fu(mask:Nat):∀(k:Nat)(x:Nat×Nat),(lv mask k x).2=x.2 / 32 ^ k
 |0,x=>by simp[lv]
 |k+1,x=>by
  show(lv mask k (leap mask x.1 x.2)).2=_;rw[fu mask k];show x.2 / 32 / 32 ^ k=_;rw[Nat.div_div_eq_div_mul,Nat.pow_succ,Nat.mul_comm 32]
theorem pc(mask:Nat):∀(k:Nat)(x:Nat×Nat),x.1≤mask→(lv mask k x).1≤mask
 |0,x,h=>h
 |k+1,x,h=>pc mask k _ (by show(x.1*5+1+x.2 / 32) % (mask+1)≤mask;have:=mod_lt (x.1*5+1+x.2 / 32) (show 0<mask+1 by omega);omega)
theorem pe(h:Int):bits h<2 ^ 64:=by
 unfold bits;have h1:=emod_nonneg h (b:=2 ^ 64) (by decide);have h2:=Int.emod_lt_of_pos h (b:=2 ^ 64) (by decide);omega
def gB(mask:Nat):Nat→Nat→Nat
 |0,i=>i
 |k+1,i=>gB mask k ((i*5+1) % (mask+1))
theorem iQ(mask:Nat):∀(k i:Nat),lv mask k (i,0)=(gB mask k i,0)
 |0,i=>rfl
 |k+1,i=>by
  show lv mask k ((i*5+1+0 / 32) % (mask+1),0 / 32)=_;simp only[Nat.zero_div,Nat.add_zero];exact iQ mask k _
def Cyc(mask:Nat):Prop:=∀i,i≤mask→∀j,j≤mask→∃k,k≤mask∧gB mask k i=j
theorem eS(mask:Nat):∀(a b i:Nat),gB mask (a+b) i=gB mask b (gB mask a i)
 |0,b,i=>by rw[zero_add];rfl
 |a+1,b,i=>by
  rw[show a+1+b=(a+b)+1 by omega];exact eS mask a b _
def uk(mask:Nat):Nat→Nat→List Nat
 |0,_=>[]
 |n+1,i=>i::uk mask n ((i*5+1) % (mask+1))
theorem lR{mask j:Nat}:∀{n i:Nat},j∈uk mask n i→∃k,k<n∧gB mask k i=j
 |0,_,h=>by simp[uk]at h
 |n+1,i,h=>by
  rcases mem_cons.mp h with e|e
  ·exact⟨0,by omega,e.symm⟩
  ·obtain⟨k,hk,e'⟩:=lR e;exact⟨k+1,by omega,e'⟩
theorem rD{mask:Nat}(h0:gB mask (mask+1) 0=0)(h:(List.range (mask+1)).all (λj=>(uk mask (mask+1) 0).contains j)=true):Cyc mask:=by
 have all:∀j,j≤mask→∃k,k≤mask∧gB mask k 0=j:=λj hj=>by
  rw[all_eq_true]at h;have h1:=h j (mem_range.mpr (by omega));rw[List.contains_iff_mem]at h1;obtain⟨k,hk,e⟩:=lR h1;exact⟨k,by omega,e⟩
 intro i hi j hj;obtain⟨a,ha,ea⟩:=all i hi;obtain⟨b,hb,eb⟩:=all j hj
 by_cases hab:a≤b
 ·refine⟨b-a,by omega,?_⟩;rw[←ea,←eS,show a+(b-a)=b by omega];exact eb
 ·refine⟨mask+1-a+b,by omega,?_⟩;rw[←ea,←eS,show a+(mask+1-a+b)=(mask+1)+b by omega,eS,h0];exact eb
def Mk(m:Nat):Prop:=m=7∨m=15∨m=31∨m=63∨m=127∨m=255
theorem Mk.cyc{m:Nat}(h:Mk m):Cyc m:=by
 rcases h with e|e|e|e|e|e<;>subst e<;>exact rD (by decide +kernel) (by decide +kernel)
theorem Mk.ge{m:Nat}(h:Mk m):7≤m∧m≤255:=by rcases h with e|e|e|e|e|e<;>subst e<;>omega
theorem Mk.odd{m:Nat}(h:Mk m):m % 2=1:=by rcases h with e|e|e|e|e|e<;>subst e<;>rfl
def mkB(m:Nat):Bool:=m==7||m==15||m==31||m==63||m==127||m==255
theorem wz:(List.range 256).all (λw=>mkB (sizeAbove w-1)&&decide (w≤sizeAbove w-1)&&decide (sizeAbove w≤256))=true:=by decide +kernel
theorem rE{w:Nat}(h:w≤255):Mk (sizeAbove w-1)∧w≤sizeAbove w-1∧sizeAbove w≤256:=by
 have h1:=(all_eq_true.mp wz) w (mem_range.mpr (by omega));rw[and_eq_true,and_eq_true,decide_eq_true_eq,decide_eq_true_eq]at h1;refine⟨?_,h1.1.2,h1.2⟩;have h2:=h1.1.1;unfold mkB at h2;rw[or_eq_true,or_eq_true,or_eq_true,or_eq_true,or_eq_true,beq_iff_eq,beq_iff_eq,beq_iff_eq,beq_iff_eq,beq_iff_eq,beq_iff_eq]at h2;rcases h2 with ((((h|h)|h)|h)|h)|h
 ·exact .inl h
 ·exact .inr (.inl h)
 ·exact .inr (.inr (.inl h))
 ·exact .inr (.inr (.inr (.inl h)))
 ·exact .inr (.inr (.inr (.inr (.inl h))))
 ·exact .inr (.inr (.inr (.inr (.inr h))))
theorem cover{mask:Nat}(c:Cyc mask)(h:Int){j:Nat}(hj:j≤mask):∃n,n<10*turns mask∧pos mask h n=j:=by
 have h0:(lv mask 13 (bits h % (mask+1),bits h)).2=0:=by
  rw[fu];have:=pe h;exact Nat.div_eq_of_lt (by have e:(32:Nat) ^ 13=36893488147419103232:=(by decide);rw[e];show bits h<_;omega)
 have h1:(lv mask 13 (bits h % (mask+1),bits h)).1≤mask:=pc mask _ _ (by have:=mod_lt (bits h) (show 0<mask+1 by omega);show bits h % (mask+1)≤mask;omega);obtain⟨k,hk,e⟩:=c _ h1 j hj;obtain⟨n,hn,en⟩:=lQ mask (13+k) (bits h % (mask+1),bits h);refine⟨n,by unfold turns;omega,?_⟩;unfold pos st;rw[en,nT];have ex:lv mask 13 (bits h % (mask+1),bits h)=((lv mask 13 (bits h % (mask+1),bits h)).1,0):=by rw[←h0]
 rw[ex,iQ];exact e
def InT(mask:Nat)(p:Probe):Prop:=p.j+p.more≤mask
theorem gX{mask i:Nat}(h:i≤mask):runEnd mask i≤mask∧i≤runEnd mask i:=by unfold runEnd;split<;>omega
theorem um{mask:Nat}{p:Probe}(h:InT mask p):InT mask (adv mask p):=by
 unfold adv InT at *
 split
 ·show p.j+1+(p.more-1)≤mask;omega
 ·have hl:(leap mask p.i p.perturb).1≤mask:=by
   show(p.i*5+1+p.perturb / 32) % (mask+1)≤mask;have:=mod_lt (p.i*5+1+p.perturb / 32) (show 0<mask+1 by omega);omega
  have:=gX hl;show(leap mask p.i p.perturb).1+(runEnd mask (leap mask p.i p.perturb).1-(leap mask p.i p.perturb).1)≤mask;omega
theorem ph{mask:Nat}:∀(n:Nat){p:Probe},InT mask p→InT mask (nth mask p n)
 |0,_,h=>h
 |n+1,_,h=>ph n (um h)
theorem wA{mask:Nat}{x:Nat×Nat}(h:x.1≤mask):InT mask (lvP mask x):=by
 have:=gX h;show x.1+(runEnd mask x.1-x.1)≤mask;omega
theorem iR(mask:Nat)(h:Int)(n:Nat):pos mask h n≤mask:=by
 have:InT mask (nth mask (st mask h) n):=ph n (wA (by have:=mod_lt (bits h) (show 0<mask+1 by omega);show bits h % (mask+1)≤mask;omega));unfold InT at this;unfold pos;omega
theorem lS(E:Nat→Prop):∀N,E N→∃n,n≤N∧E n∧∀m,m<n→¬E m
 |N,h=>by
  induction N using Nat.strongRecOn with
  |_ N ih =>
   by_cases z:∃m,m<N∧E m
   ·obtain⟨m,hm,e⟩:=z;obtain⟨n,hn,e',no⟩:=ih m hm e;exact⟨n,by omega,e',no⟩
   ·exact⟨N,le_refl _,h,λm hm e=>z ⟨m,hm,e⟩⟩
theorem gY(mask:Nat):∀(n:Nat)(p:Probe),(nth mask p n).dummy=p.dummy
 |0,_=>rfl
 |n+1,p=>by
  show(nth mask (adv mask p) n).dummy=_;rw[gY mask n];unfold adv
  split<;>rfl
theorem lT(t:SetTable)(ha:Nat→Int)(h:Int):∀(n:Nat)(p:Probe)(fuel:Nat),n<fuel →
  (∀m,m<n→∃i,t.slot (nth t.mask p m).j=.live i∧(ha i==h)=false)→t.slot (nth t.mask p n).j=.empty →
  probe.go t ha h fuel p=some (.empty (nth t.mask p n).j p.dummy)
 |0,p,fuel+1,_,_,e=>by
  have e':t.slot p.j=.empty:=e;unfold probe.go;rw[e'];rfl
 |n+1,p,fuel+1,hf,hl,e=>by
  obtain⟨i,h1,h2⟩:=hl 0 (by omega);have h1':t.slot p.j=.live i:=h1;unfold probe.go;rw[h1'];simp only[h2,false_eq_true,if_false,fq];rw[lT t ha h n (adv t.mask p) fuel (by omega) (λm hm=>hl (m+1) (by omega)) e]
  congr 2
  exact gY t.mask 1 p
theorem pi(t:SetTable)(ha:Nat→Int)(h:Int)(i:Nat):∀(n:Nat)(p:Probe)(fuel:Nat),n<fuel →
  (∀m,m<n→∃i,t.slot (nth t.mask p m).j=.live i∧(ha i==h)=false)→t.slot (nth t.mask p n).j=.live i→(ha i==h)=true →
  probe.go t ha h fuel p=some (.candidate (nth t.mask p n).j i (nth t.mask p (n+1)))
 |0,p,fuel+1,_,_,e,hh=>by
  have e':t.slot p.j=.live i:=e;unfold probe.go;rw[e'];simp only[hh,if_true,fq];rfl
 |n+1,p,fuel+1,hf,hl,e,hh=>by
  obtain⟨i',h1,h2⟩:=hl 0 (by omega);have h1':t.slot p.j=.live i':=h1;unfold probe.go;rw[h1'];simp only[h2,false_eq_true,if_false,fq];rw[pi t ha h i n (adv t.mask p) fuel (by omega) (λm hm=>hl (m+1) (by omega)) e hh];rfl
theorem iS(xs:Array Nat)(j:Nat)(hs:∀a b,a<b→b<xs.size→xs.getD a 0<xs.getD b 0):∀(fuel lo hi:Nat),hi-lo≤fuel→lo≤hi→hi≤xs.size →
  (∀k,k<lo→xs.getD k 0<j)→(∀k,hi≤k→k<xs.size→j≤xs.getD k 0) →
  below.go xs j fuel lo hi≤xs.size∧(∀k,k<below.go xs j fuel lo hi→xs.getD k 0<j)∧(∀k,below.go xs j fuel lo hi≤k→k<xs.size→j≤xs.getD k 0)
 |0,lo,hi,hf,hl,hh,h1,h2=>by
  have e:lo=hi:=by omega
  subst e;exact⟨hh,h1,h2⟩
 |fuel+1,lo,hi,hf,hl,hh,h1,h2=>by
  unfold below.go
  by_cases hlt:lo<hi
  ·rw[if_pos hlt];have hm:(lo+hi) / 2<hi:=by omega
   have hm2:lo≤(lo+hi) / 2:=by omega
   have eg:xs.getD ((lo+hi) / 2) j=xs.getD ((lo+hi) / 2) 0:=by
    rw[getD_eq_getD_getElem?,getD_eq_getD_getElem?,Array.getElem?_eq_getElem (by omega)];rfl
   simp only[eg]
   split
   ·rename_i hc
    refine iS xs j hs fuel _ hi (by omega) (by omega) hh (λk hk=>?_) h2
    by_cases e:k=(lo+hi) / 2
    ·rw[e];exact hc
    ·have:=hs k ((lo+hi) / 2) (by omega) (by omega);omega
   ·rename_i hc
    refine iS xs j hs fuel lo _ (by omega) (by omega) (by omega) h1 (λk hk hk2=>?_)
    by_cases e:k=(lo+hi) / 2
    ·rw[e];omega
    ·have:=hs ((lo+hi) / 2) k (by omega) hk2;omega
  ·rw[if_neg hlt];have e:lo=hi:=by omega
   subst e;exact⟨hh,h1,h2⟩
def Up(l:List Nat):Prop:=l.Pairwise (· < ·)
theorem wB{l:List Nat}(h:Up l){a b:Nat}(hab:a<b)(hb:b<l.length):l.toArray.getD a 0<l.toArray.getD b 0:=by
 unfold Up at h;have:=List.pairwise_iff_getElem.mp h a b (by omega) hb hab;simp[getD_eq_getD_getElem?,show a<l.length by omega,hb];exact this
theorem iT{l:List Nat}(h:Up l)(j:Nat):below l.toArray j≤l.length∧(∀k (hk:k<l.length),k<below l.toArray j→l[k]<j)∧(∀k (hk:k<l.length),below l.toArray j≤k→j≤l[k]):=by
 have:=iS l.toArray j (λa b hab hb=>wB h hab (by simpa using hb)) l.toArray.size 0 l.toArray.size (by omega) (by omega) (le_refl _) (by intro k hk;omega) (by intro k hk hk2;omega);unfold below;refine⟨by simpa using this.1,λk hk h1=>?_,λk hk h1=>?_⟩
 ·have:=this.2.1 k h1;simpa [getD_eq_getD_getElem?,hk]using this
 ·have:=this.2.2 k h1 (by simpa using hk);simpa [getD_eq_getD_getElem?,hk]using this
structure Tb(t:SetTable)(l:List Nat):Prop where
 pl:t.place=l.toArray
 nd:t.dummies=#[]
 up:Up l
 le:∀j∈l,j≤t.mask
theorem pj(j:Nat):has #[] j=false:=by
 unfold has;simp
theorem ku{t:SetTable}{l:List Nat}(T:Tb t l){i j:Nat}(h:l[i]?=some j):t.slot j=.live i:=by
 obtain⟨hi,e⟩:=List.getElem?_eq_some_iff.mp h;obtain⟨b1,b2,b3⟩:=iT T.up j;have eb:below l.toArray j=i:=by
  rcases Nat.lt_trichotomy (below l.toArray j) i with z|z|z
  ·have:=b3 (below l.toArray j) (by omega) (le_refl _);have:=List.pairwise_iff_getElem.mp T.up (below l.toArray j) i (by omega) hi z;omega
  ·exact z
  ·have:=b2 i hi z;omega
 unfold SetTable.slot;rw[T.pl,eb];simp[h]
theorem rF{t:SetTable}{l:List Nat}(T:Tb t l){j:Nat}(h:j∉l):t.slot j=.empty:=by
 unfold SetTable.slot;rw[T.pl,T.nd,pj];have:¬(l.toArray[below l.toArray j]?==some j)=true:=by
  intro z;have z':l[below l.toArray j]?=some j:=by simpa using z
  exact h (mem_of_getElem? z')
 simp only[this,false_eq_true,if_false]
theorem qv{l:List Nat}(h:Up l){j:Nat}(hj:j∉l):Up (l.take (below l.toArray j)++j::l.drop (below l.toArray j)):=by
 obtain⟨b1,b2,b3⟩:=iT h j;unfold Up;rw[List.pairwise_append,pairwise_cons];have hsub1:(l.take (below l.toArray j)).Pairwise (· < ·):=Pairwise.sublist (take_sublist _ _) h;have hsub2:(l.drop (below l.toArray j)).Pairwise (· < ·):=Pairwise.sublist (List.drop_sublist _ _) h;have h1:∀a∈l.take (below l.toArray j),a<j:=by
  intro a ha;obtain⟨k,hk,e⟩:=mem_iff_getElem.mp ha;rw[length_take]at hk;rw[List.getElem_take]at e;rw[←e];exact b2 k (by omega) (by omega)
 have h2:∀a∈l.drop (below l.toArray j),j<a:=by
  intro a ha;have hne:a≠j:=λe=>hj (e ▸ mem_of_mem_drop ha);obtain⟨k,hk,e⟩:=mem_iff_getElem.mp ha;rw[length_drop]at hk;rw[List.getElem_drop]at e;have:=b3 (below l.toArray j+k) (by omega) (by omega);omega
 refine⟨hsub1,⟨h2,hsub2⟩,λa ha b hb=>?_⟩;rcases mem_cons.mp hb with rfl|hb
 ·exact h1 a ha
 ·have:=h1 a ha;have:=h2 b hb;omega
theorem wC{t:SetTable}{l:List Nat}(T:Tb t l){j:Nat}(hj:j∉l)(hm:j≤t.mask):Tb (t.put j).1 (l.take (below l.toArray j)++j::l.drop (below l.toArray j))∧(t.put j).2=below l.toArray j∧(t.put j).1.mask=t.mask:=by
 refine⟨⟨?_,?_,qv T.up hj,?_⟩,?_,rfl⟩
 ·show insertAt t.place (below t.place j) j=_;rw[T.pl];apply Array.toList_inj.mp;rw[SetTable.toList_insertAt]
 ·show(if has t.dummies j=true then _ else t.dummies)=#[];rw[T.nd,pj];rfl
 ·intro a ha;rcases mem_append.mp ha with h|h
  ·exact T.le a (mem_of_mem_take h)
  ·rcases mem_cons.mp h with rfl|h
   ·exact hm
   ·exact T.le a (mem_of_mem_drop h)
 ·show below t.place j=_;rw[T.pl]
def eZ(mask:Nat)(zs:List (Nat×Int)):Prop:=∀z∈zs,∃n,pos mask z.2 n=z.1∧∀m,m<n→pos mask z.2 m∈zs.map (·.1)
theorem eZ.nil(mask:Nat):eZ mask []:=by intro z hz;simp at hz
theorem eZ.mono{mask:Nat}{zs ys:List (Nat×Int)}(h:eZ mask zs)(new:Nat×Int)(hm:∀z∈ys,z∈zs∨z=new)(hs:∀z∈zs,z∈ys)(hn:∃n,pos mask new.2 n=new.1∧∀m,m<n→pos mask new.2 m∈zs.map (·.1)):eZ mask ys:=by
 intro z hz;have up:∀j,j∈zs.map (·.1)→j∈ys.map (·.1):=λj hj=>by
  obtain⟨y,hy,e⟩:=mem_map.mp hj;exact mem_map.mpr ⟨y,hs y hy,e⟩
 rcases hm z hz with h1|h1
 ·obtain⟨n,e,p⟩:=h z h1;exact⟨n,e,λm hm=>up _ (p m hm)⟩
 ·subst h1;obtain⟨n,e,p⟩:=hn;exact⟨n,e,λm hm=>up _ (p m hm)⟩
def emp(owner:Array (Option Nat))(j:Nat):Bool:=(owner.getD j (some 0)).isNone
theorem jL(mask:Nat)(owner:Array (Option Nat)):∀(fuel:Nat)(x:Nat×Nat),x.1≤mask→(∃k,k<fuel∧emp owner (lv mask k x).1=true) →
  ∃j n,layClean.free mask owner fuel x.1 x.2=some j∧(nth mask (lvP mask x) n).j=j∧emp owner j=true∧∀m,m<n→emp owner (nth mask (lvP mask x) m).j=false
 |0,x,_,h=>by obtain⟨k,hk,_⟩:=h;omega
 |fuel+1,x,hx,h=>by
  unfold layClean.free;have hr:=gX hx;have hpart:∀m,m≤runEnd mask x.1-x.1→(nth mask (lvP mask x) m).j=x.1+m:=λm hm=>by
   rw[lP mask m (lvP mask x) hm];rfl
  cases e:(List.range (runEnd mask x.1+1-x.1)).find? (λk=>(owner.getD (x.1+k) (some 0)).isNone)with
  |some k =>
   rw[List.find?_range_eq_some]at e;obtain⟨e1,e2,e3⟩:=e;have hk:k≤runEnd mask x.1-x.1:=by have:=mem_range.mp e2;omega
   refine⟨x.1+k,k,rfl,hpart k hk,e1,λm hm=>?_⟩;rw[hpart m (by omega)];have:=e3 m hm;simpa [emp]using this
  |none =>
   rw[List.find?_range_eq_none]at e;obtain⟨k,hk,h1⟩:=h;have hk0:k≠0:=by
    rintro rfl;have:=e 0 (by omega);have h1':(owner.getD x.1 (some 0)).isNone=true:=h1;rw[Nat.add_zero,h1']at this;simp at this
   obtain⟨k',rfl⟩:∃k',k=k'+1:=⟨k-1,by omega⟩;have hl:(leap mask x.1 x.2).1≤mask:=pc mask 1 x hx;obtain⟨j,n,f1,f2,f3,f4⟩:=jL mask owner fuel (leap mask x.1 x.2) hl ⟨k',by omega,h1⟩;refine⟨j,(runEnd mask x.1-x.1+1)+n,f1,?_,f3,λm hm=>?_⟩
   ·rw[dH,ft];exact f2
   ·by_cases hm2:m≤runEnd mask x.1-x.1
    ·rw[hpart m hm2];have:=e m (by omega);simpa [emp]using this
    ·obtain⟨m',rfl⟩:∃m',m=(runEnd mask x.1-x.1+1)+m':=⟨m-(runEnd mask x.1-x.1+1),by omega⟩;rw[dH,ft];exact f4 m' (by omega)
theorem uo{mask:Nat}(c:Cyc mask)(owner:Array (Option Nat))(h:Int){j₀:Nat}(hj:j₀≤mask)(he:emp owner j₀=true):
  ∃j n,layClean.free mask owner (turns mask) (bits h % (mask+1)) (bits h)=some j∧pos mask h n=j∧emp owner j=true∧∀m,m<n→emp owner (pos mask h m)=false:=by
 have h0:(lv mask 13 (bits h % (mask+1),bits h)).2=0:=by
  rw[fu];have:=pe h;exact Nat.div_eq_of_lt (by have e:(32:Nat) ^ 13=36893488147419103232:=(by decide);rw[e];show bits h<_;omega)
 have hx:bits h % (mask+1)≤mask:=by have:=mod_lt (bits h) (show 0<mask+1 by omega);omega
 have h1:(lv mask 13 (bits h % (mask+1),bits h)).1≤mask:=pc mask _ _ hx;obtain⟨k,hk,e⟩:=c _ h1 j₀ hj;refine jL mask owner (turns mask) (bits h % (mask+1),bits h) hx ⟨13+k,by unfold turns;omega,?_⟩;rw[nT];have ex:lv mask 13 (bits h % (mask+1),bits h)=((lv mask 13 (bits h % (mask+1),bits h)).1,0):=by rw[←h0]
 rw[ex,iQ,e];exact he
def live(mask:Nat)(owner:Array (Option Nat)):List (Nat×Nat):=(List.range (mask+1)).filterMap λj=>(owner.getD j none).map (j,·)
theorem eE{α β:Type}{f g:α→Option β}:∀{l:List α},(∀x∈l,g x=f x)→l.filterMap g=l.filterMap f
 |[],_=>rfl
 |x::l,h=>by
  have ih:=eE (l:=l) λy hy=>h y (mem_cons_of_mem _ hy);have hx:=h x mem_cons_self;cases e:f x with
  |none=>rw[filterMap_cons_none e,filterMap_cons_none (hx.trans e),ih]
  |some b=>rw[filterMap_cons_some e,filterMap_cons_some (hx.trans e),ih]
theorem fb{α β:Type}(f g:α→Option β)(a:α)(v:β)(hf:f a=none)(hg:g a=some v)(hne:∀x,x≠a→g x=f x):∀(l:List α),l.Nodup→a∈l →
  (l.filterMap g).Perm (v::l.filterMap f)
 |[],_,h=>by simp at h
 |x::l,hn,h=>by
  obtain⟨h1,h2⟩:=nodup_cons.mp hn
  by_cases e:x=a
  ·subst e;rw[filterMap_cons_some hg,filterMap_cons_none hf];have:l.filterMap g=l.filterMap f:=eE λy hy=>hne y (λe=>h1 (e ▸ hy));rw[this]
  ·have ha:a∈l:=by
    rcases mem_cons.mp h with z|z
    ·exact absurd z.symm e
    ·exact z
   have ih:=fb f g a v hf hg hne l h2 ha;cases ef:f x with
   |none =>
    rw[filterMap_cons_none ef,filterMap_cons_none (by rw[hne x e,ef])];exact ih
   |some b =>
    rw[filterMap_cons_some ef,filterMap_cons_some (by rw[hne x e,ef])];exact(ih.cons b).trans (List.Perm.swap _ _ _)
structure Lay(mask:Nat)(owner:Array (Option Nat))(hs:List Int):Prop where
 size:owner.size=mask+1
 perm:((live mask owner).map (·.2)).Perm (List.range hs.length)
 path:∀j i,owner.getD j none=some i→∃h,hs[i]?=some h∧∃n,pos mask h n=j∧∀m,m<n→emp owner (pos mask h m)=false
theorem gC{mask:Nat}{owner:Array (Option Nat)}(hs:owner.size=mask+1){j:Nat}(hj:j≤mask):emp owner j=(owner.getD j none).isNone:=by
 unfold emp;rw[getD_eq_getD_getElem?,getD_eq_getD_getElem?,Array.getElem?_eq_getElem (by omega)];rfl
theorem uq(mask:Nat):Lay mask (Array.replicate (mask+1) none) []:=by
 have e:∀j,(Array.replicate (mask+1) (none:Option Nat)).getD j none=none:=λj=>by
  rw[getD_eq_getD_getElem?,Array.getElem?_replicate]
  split<;>rfl
 refine⟨by simp,?_,λj i h=>?_⟩
 ·have:live mask (Array.replicate (mask+1) none)=[]:=by
   unfold live;rw[List.filterMap_eq_nil_iff];intro j _;rw[e];rfl
  rw[this];simp
 ·rw[e]at h;cases h
theorem rG{mask:Nat}{owner:Array (Option Nat)}{hs:List Int}(L:Lay mask owner hs)(hl:hs.length≤mask):∃j,j≤mask∧emp owner j=true:=by
 by_cases h:∃j,j≤mask∧emp owner j=true
 ·exact h
 ·exfalso
  have all:∀j,j≤mask→∃i,owner.getD j none=some i:=λj hj=>by
   cases e:owner.getD j none with
   |some i=>exact⟨i,rfl⟩
   |none=>exact(h ⟨j,hj,by rw[gC L.size hj,e];rfl⟩).elim
  have len:(live mask owner).length=mask+1:=by
   have key:∀l:List Nat,(∀j∈l,j≤mask)→(l.filterMap λj=>(owner.getD j none).map (j,·)).length=l.length:=by
    intro l
    induction l with
    |nil=>intro _;rfl
    |cons x l ih =>
     intro hl;obtain⟨i,e⟩:=all x (hl x (by simp));rw[filterMap_cons_some (by rw[e];rfl),length_cons,length_cons,ih λj hj=>hl j (by simp[hj])]
   unfold live;rw[key _ (λj hj=>by have:=mem_range.mp hj;omega),length_range]
  have:=L.perm.length_eq;rw[length_map,length_range,len]at this;omega
theorem gE{owner:Array (Option Nat)}{j k:Nat}{v:Option Nat}(hj:j<owner.size):(owner.setIfInBounds j v).getD k none=if k=j then v else owner.getD k none:=by
 rw[getD_eq_getD_getElem?,getD_eq_getD_getElem?,Array.getElem?_setIfInBounds]
 by_cases e:j=k
 ·subst e;simp[hj]
 ·rw[if_neg e,if_neg (λz=>e z.symm)]
theorem pk{mask:Nat}{owner:Array (Option Nat)}{j k i:Nat}(hs:owner.size=mask+1)(hj:j≤mask)(hk:k≤mask)(h:emp owner k=false):emp (owner.setIfInBounds j (some i)) k=false:=by
 rw[gC (by simpa using hs) hk,gE (by omega)];rw[gC hs hk]at h
 split
 ·rfl
 ·exact h
theorem rH{mask:Nat}(c:Cyc mask){owner:Array (Option Nat)}{hs:List Int}(L:Lay mask owner hs)(hl:hs.length≤mask)(h:Int):
  ∃j,layClean.free mask owner (turns mask) (bits h % (mask+1)) (bits h)=some j∧Lay mask (owner.setIfInBounds j (some hs.length)) (hs++[h]):=by
 obtain⟨j₀,hj₀,e₀⟩:=rG L hl;obtain⟨j,n,e1,e2,e3,e4⟩:=uo c owner h hj₀ e₀;have hj:j≤mask:=by rw[←e2];exact iR mask h n
 have hjn:owner.getD j none=none:=by
  rw[gC L.size hj]at e3;exact Option.isNone_iff_eq_none.mp e3
 refine⟨j,e1,by simpa using L.size,?_,λk i hk=>?_⟩
 ·have p:=fb (λk=>(owner.getD k none).map (k,·)) (λk=>((owner.setIfInBounds j (some hs.length)).getD k none).map (k,·)) j (j,hs.length) (by simp[hjn])
   (by show((owner.setIfInBounds j (some hs.length)).getD j none).map (j,·)=_;rw[gE (by rw[L.size];omega),if_pos rfl];rfl) (λx hx=>by show((owner.setIfInBounds j (some hs.length)).getD x none).map (x,·)=(owner.getD x none).map (x,·);rw[gE (by rw[L.size];omega),if_neg hx]) (List.range (mask+1)) List.nodup_range (mem_range.mpr (by omega))
  have p2:((live mask (owner.setIfInBounds j (some hs.length))).map (·.2)).Perm (hs.length::(live mask owner).map (·.2)):=p.map (·.2);rw[length_append,length_singleton,range_succ];exact p2.trans ((L.perm.cons _).trans (List.perm_append_singleton _ _).symm)
 ·rw[gE (by rw[L.size];omega)]at hk
  by_cases e:k=j
  ·subst e;rw[if_pos rfl]at hk;cases hk;exact⟨h,by simp,n,e2,λm hm=>pk L.size hj (iR _ _ _) (e4 m hm)⟩
  ·rw[if_neg e]at hk;obtain⟨h',a1,n',a2,a3⟩:=L.path k i hk;have hi:i<hs.length:=(List.getElem?_eq_some_iff.mp a1).1;exact⟨h',by rw[getElem?_append_left hi];exact a1,n',a2,λm hm=>pk L.size hj (iR _ _ _) (a3 m hm)⟩
theorem lU{mask:Nat}(c:Cyc mask)(hashes:Array Int)(hl:hashes.size≤mask+1):∃owner,layClean mask hashes=some owner∧Lay mask owner hashes.toList:=by
 have key:∀(r hs:List Int)(owner:Array (Option Nat)),Lay mask owner hs→hs.length+r.length≤mask+1 →
   ∃owner',r.foldl (λacc h=>do
    let(owner,k) ← acc
    let j ← layClean.free mask owner (turns mask) (bits h % (mask+1)) (bits h)
    pure (owner.setIfInBounds j (some k),k+1)) (some (owner,hs.length))=some (owner',hs.length+r.length)∧Lay mask owner' (hs++r):=by
  intro r
  induction r with
  |nil=>intro hs owner L _;exact⟨owner,rfl,by simpa using L⟩
  |cons h r ih =>
   intro hs owner L hle;rw[length_cons]at hle;obtain⟨j,e,L'⟩:=rH c L (by omega) h;obtain⟨owner',e',L''⟩:=ih (hs++[h]) _ L' (by rw[length_append,length_singleton];omega);refine⟨owner',?_,by rw[append_assoc]at L'';exact L''⟩;rw[foldl_cons];have eb:(do
    let(owner,k) ← some (owner,hs.length)
    let j ← layClean.free mask owner (turns mask) (bits h % (mask+1)) (bits h)
    pure (owner.setIfInBounds j (some k),k+1))=some (owner.setIfInBounds j (some hs.length),hs.length+1):=by
    show(layClean.free mask owner (turns mask) (bits h % (mask+1)) (bits h)).bind _=_;rw[e];rfl
   rw[eb];rw[length_append,length_singleton]at e';rw[e',length_cons]
   congr 2
   omega
 obtain⟨owner',e,L⟩:=key hashes.toList [] _ (uq mask) (by simpa using hl);refine⟨owner',?_,by simpa using L⟩
 unfold layClean;rw[←Array.foldl_toList];have e2:(0:Nat)=([]:List Int).length:=rfl;rw[e2,e];rfl
theorem qw{t:SetTable}{hashes:Array Int}{wanted:Nat}(c:Cyc (sizeAbove wanted-1))(hl:hashes.size≤sizeAbove wanted-1+1):
  ∃(t':SetTable) (zs:List (Nat×Nat)),t.relaid hashes wanted=some (t',(zs.map (·.2)).toArray)∧t'.mask=sizeAbove wanted-1∧t'.led=t.led∧t'.plain=t.plain ∧
   Tb t' (zs.map (·.1))∧(zs.map (·.2)).Perm (List.range hashes.size)∧eZ t'.mask (zs.map λz=>(z.1,hashes.getD z.2 0)):=by
 obtain⟨owner,e,L⟩:=lU c hashes hl;refine⟨{mask:=sizeAbove wanted-1,place:=((live (sizeAbove wanted-1) owner).map (·.1)).toArray,dummies:=#[],finger:=t.finger,led:=t.led,moves:=t.movedTo (sizeAbove wanted-1),plain:=t.plain},live (sizeAbove wanted-1) owner,?_,rfl,rfl,rfl,⟨rfl,rfl,?_,?_⟩,?_,?_⟩
 ·unfold relaid laid;rw[e];rfl
 ·unfold Up live;rw[List.map_filterMap];have e1:((List.range (sizeAbove wanted-1+1)).filterMap λj=>((owner.getD j none).map (j,·)).map (·.1))=(List.range (sizeAbove wanted-1+1)).filter λj=>(owner.getD j none).isSome:=by
   generalize List.range (sizeAbove wanted-1+1)=l
   induction l with
   |nil=>rfl
   |cons x l ih =>
    cases ex:owner.getD x none with
    |none=>rw[filterMap_cons_none (by rw[ex];rfl),filter_cons_of_neg (by simp[ex])];exact ih
    |some i=>rw[filterMap_cons_some (b:=x) (by rw[ex];rfl),filter_cons_of_pos (by simp[ex]),ih]
  rw[e1];exact Pairwise.sublist filter_sublist List.pairwise_lt_range
 ·intro j hj;obtain⟨z,hz,rfl⟩:=mem_map.mp hj;unfold live at hz;obtain⟨k,hk,e1⟩:=mem_filterMap.mp hz;cases ex:owner.getD k none with
  |none=>rw[ex]at e1;cases e1
  |some i =>
   rw[ex]at e1;have e2:(k,i)=z:=Option.some.inj e1;subst e2;have:=mem_range.mp hk;show k≤sizeAbove wanted-1;omega
 ·have:=L.perm;rw[length_toList]at this;exact this
 ·intro y hy;obtain⟨z,hz,rfl⟩:=mem_map.mp hy;have key:∀z:Nat×Nat,z∈live (sizeAbove wanted-1) owner↔z.1≤sizeAbove wanted-1∧owner.getD z.1 none=some z.2:=by
   intro z;unfold live;rw[mem_filterMap];constructor
   ·rintro⟨k,hk,e1⟩;cases ex:owner.getD k none with
    |none=>rw[ex]at e1;cases e1
    |some i =>
     rw[ex]at e1;have e2:(k,i)=z:=Option.some.inj e1;subst e2;have:=mem_range.mp hk;exact⟨by omega,ex⟩
   ·rintro⟨h1,h2⟩;exact⟨z.1,mem_range.mpr (by omega),by rw[h2];rfl⟩
  obtain⟨z1,z2⟩:=(key z).mp hz;obtain⟨h,a1,n,a2,a3⟩:=L.path _ _ z2;have eh:hashes.getD z.2 0=h:=by
   have a1':hashes[z.2]?=some h:=by simpa using a1
   rw[getD_eq_getD_getElem?,a1'];rfl
  refine⟨n,by rw[eh];exact a2,λm hm=>?_⟩;have:=a3 m hm;have hle:=iR (sizeAbove wanted-1) h m;rw[gC L.size hle]at this;cases ex:owner.getD (pos (sizeAbove wanted-1) h m) none with
  |none=>rw[ex]at this;cases this
  |some i =>
   rw[map_map];show pos (sizeAbove wanted-1) (hashes.getD z.2 0) m∈_;rw[eh];exact mem_map.mpr ⟨(pos (sizeAbove wanted-1) h m,i),(key _).mpr ⟨hle,ex⟩,rfl⟩
section
variable{prog:Program}{w:World}{K:Type}[DecidableEq K]{knd:KeyKind prog w K}{A:Around}{E:Value→Shared→Prop}{s:Shared}
theorem iq(n:Nat){v:Value}(h:carriedByValue v=true):ofAClassStatement n v=pure false:=by
 cases v with
 |ref a=>simp[carriedByValue]at h
 |_=>cases n<;>rfl
theorem fe{ks:List K}{a:Addr}{Q:Bool→Shared→Prop}(hk:IsTupleKey knd s.heap ks a)(h:Q false s):wpAny (model prog w) A (ofAClassStatement 8 (.ref a)) Q E s:=by
 have hT:=hk.typeIs;obtain⟨o,items,n,ho,_,hd,hi⟩:=hk;unfold ofAClassStatement;refine wpAny_bind (wpAny_typeOf hT ?_);dsimp only;rw[if_pos (by decide)];refine wpAny_bind (wpAny_pure ?_);simp only[Bool.not_true,false_eq_true,if_false];refine wpAny_bind (wpAny_seqItems ho hd ?_);dsimp only;refine wpAny_bind ?_;rw[←Array.forIn_toList];refine wpAny_forIn_list _ (λrest r s'=>r.1=none∧s'=s∧∀v∈rest,carriedByValue v=true) _ ?_ ?_ _ _ ⟨rfl,rfl,hi.byValue⟩
 ·rintro v rest r s' ⟨hr,rfl,hall⟩;rw[iq _ (hall v mem_cons_self)];refine wpAny_bind (wpAny_pure ?_);simp only[false_eq_true,if_false];exact wpAny_pure ⟨rfl,rfl,λu hu'=>hall u (mem_cons_of_mem _ hu')⟩
 ·rintro⟨r1,r2⟩ s' ⟨hr,rfl,_⟩;simp only at hr;subst hr;exact wpAny_pure h
theorem rJ(n:Nat){x:Value}(hx:x.scannable=true):∃b,hashByValue n x=pure b:=⟨_,hashByValue_scannable n hx⟩
theorem qx{ks:List K}{a:Addr}{Q:Bool→Shared→Prop}(hk:IsTupleKey knd s.heap ks a)(hsc:∀k v,knd.is k v=true→v.scannable=true)(h:∀b,Q b s):wpAny (model prog w) A (hashByValue 8 (.ref a)) Q E s:=by
 have hT:=hk.typeIs;obtain⟨o,items,n,ho,_,hd,hi⟩:=hk;have hall:∀v∈items.toList,v.scannable=true:=by
  generalize items.toList=l at hi
  induction hi with
  |nil=>intro v hv;simp at hv
  |cons h1 _ ih =>
   intro v hv;rcases mem_cons.mp hv with rfl|hv
   ·exact hsc _ _ h1
   ·exact ih v hv
 unfold hashByValue;refine wpAny_bind (wpAny_specialOf hT F.slot_tuple_hash.lookup ?_);show wpAny _ _ (seqItems? (.ref a) >>= _) _ _ s;refine wpAny_bind (wpAny_seqItems ho hd ?_);refine wpAny_bind ?_;show wpAny _ _ (forIn items _ _) _ _ s;rw[←Array.forIn_toList];refine wpAny_forIn_list _ (λrest r s'=>r.1=none∧s'=s∧∀v∈rest,v.scannable=true) _ ?_ ?_ _ _ ⟨rfl,rfl,hall⟩
 ·rintro v rest r s' ⟨hr,rfl,hall⟩;obtain⟨b,e⟩:=rJ 7 (hall v mem_cons_self);rw[e];refine wpAny_bind (wpAny_pure ?_);cases b with
  |true =>
   simp only[Bool.not_true,false_eq_true,if_false];exact wpAny_pure ⟨rfl,rfl,λu hu'=>hall u (mem_cons_of_mem _ hu')⟩
  |false =>
   simp only[Bool.not_false,if_true];exact wpAny_pure (wpAny_pure (h false))
 ·rintro⟨r1,r2⟩ s' ⟨hr,rfl,_⟩;simp only at hr;subst hr;exact wpAny_pure (h true)
theorem ut{k:List K}{b:Addr}(hb:IsTupleKey knd s.heap k b)(stored:List Value)(hs:∀v∈stored,∃k' b',v=.ref b'∧IsTupleKey knd s.heap k' b'){Q:Bool→Shared→Prop}(h:Q false s):
  wpAny (model prog w) A (searchCouldBeSeen (.ref b) stored) Q E s:=by
 unfold searchCouldBeSeen;refine wpAny_bind ?_;refine wpAny_forIn_list _ (λrest r s'=>r.1=none∧s'=s∧∀v∈rest,∃k' b',v=.ref b'∧IsTupleKey knd s.heap k' b') _ ?_ ?_ _ _ ⟨rfl,rfl,hs⟩
 ·rintro v rest r s' ⟨hr,rfl,hall⟩;obtain⟨k',b',rfl,hb'⟩:=hall v mem_cons_self;have hall':=λu hu'=>hall u (mem_cons_of_mem _ hu')
  by_cases hv:(b==b')=true
  ·simp only[hv,Bool.true_or,if_true];exact wpAny_pure ⟨rfl,rfl,hall'⟩
  ·have hv':(b==b')=false:=by simpa using hv
   have hc:carriedByValue (.ref b)=false:=rfl;simp only[hv',hc,Bool.false_and,Bool.or_false,false_eq_true,if_false];refine wpAny_bind (wpAny_eqIsQuiet_tuple hb ?_);simp only[Bool.not_true,false_eq_true,if_false];refine wpAny_bind (wpAny_eqIsQuiet_tuple hb' ?_);simp only[Bool.not_true,false_eq_true,if_false];refine wpAny_bind (fe hb ?_);simp only[false_eq_true,if_false];refine wpAny_bind (fe hb' ?_);simp only[false_eq_true,if_false];exact wpAny_pure ⟨rfl,rfl,hall'⟩
 ·rintro⟨r1,r2⟩ s' ⟨hr,rfl,_⟩;simp only at hr;subst hr;exact wpAny_pure h
end
section
variable{prog:Program}{w:World}{K:Type}[DecidableEq K](knd:KeyKind prog w K)
abbrev Ent(K:Type):=Nat×Addr×List K
def ent(z:Ent K):Int×Value:=(tupleKeyHash knd z.2.2,.ref z.2.1)
def pth(z:Ent K):Nat×Int:=(z.1,tupleKeyHash knd z.2.2)
structure TS(h:Heap)(a:Addr)(zs:List (Ent K)):Prop where
 ob:∃o es ep t,h.get? a=some o∧o.ExactSet∧o.data=.set es ep t∧es.toList=zs.map (ent knd)∧Tb t (zs.map (·.1))∧Mk t.mask∧zs.length*5<t.mask*3∧eZ t.mask (zs.map (pth knd))
 keys:∀z∈zs,IsTupleKey knd h z.2.2 z.2.1
 nd:(zs.map (·.2.2)).Nodup
variable{knd}
variable{A:Around}{E:Value→Shared→Prop}{s:Shared}
theorem pq{t:SetTable}{l:List Nat}(T:Tb t l):t.fill=l.length:=by
 unfold SetTable.fill;rw[T.pl,T.nd];simp
theorem kw{t:SetTable}{l:List Nat}(T:Tb t l){n:Nat}(hn:l.length=n)(hf:n≤t.mask):t.fits n=true:=by
 unfold SetTable.fits;rw[pq T,T.pl];simp[hn,hf]
theorem iU{mask:Nat}{h:Int}(n0 m:Nat):(nth mask (nth mask (st mask h) n0) m).j=pos mask h (n0+m):=by
 unfold pos;rw[dH]
theorem lV{a b:Addr}{o:Obj}{es:Array (Int×Value)}{ep:Nat}{t:SetTable}{zs:List (Ent K)}{k:List K}{Q:SetFound→Shared→Prop}(hu:A.units<cLine)(ho:s.heap.get? a=some o)(hd:o.data=.set es ep t)(hes:es.toList=zs.map (ent knd))(T:Tb t (zs.map (·.1)))(hf:t.fits es.size=true)(hodd:t.gaveWay=false)(hk:∀z∈zs,IsTupleKey knd s.heap z.2.2 z.2.1)(hb:IsTupleKey knd s.heap k b){N:Nat}(hN:pos t.mask (tupleKeyHash knd k) N∉zs.map (·.1))(hNb:N<10*turns t.mask)(hN1:∀m,m<N→pos t.mask (tupleKeyHash knd k) m∈zs.map (·.1))(q1:(∃z∈zs,z.2.2=k)→Q (.there none) s)(q2:(∀m,m<N→∀z∈zs,z.1=pos t.mask (tupleKeyHash knd k) m→z.2.2≠k)→Q (.free (pos t.mask (tupleKeyHash knd k) N) false) s):
  ∀(d n0 fuel:Nat)(stand:Option SetTable.Probe),N-n0=d→n0≤N→d<fuel→stand.getD (t.probeStart (tupleKeyHash knd k))=nth t.mask (st t.mask (tupleKeyHash knd k)) n0 →
   (∀m,m<n0→∀z∈zs,z.1=pos t.mask (tupleKeyHash knd k) m→z.2.2≠k) →
   wpAny (model prog w) A (setSearchFrom a (.ref b) (tupleKeyHash knd k) true fuel stand) Q E s:=by
 intro d
 induction d using Nat.strongRecOn with
 |_ d ih =>
  intro n0 fuel stand hdd hn0 hfuel hst hpast;obtain⟨fuel,rfl⟩:∃f,fuel=f+1:=⟨fuel-1,by omega⟩;unfold setSearchFrom;refine wpAny_bind (wpAny_setState_of ho hd hf ?_);dsimp only;rw[hodd];simp only[false_eq_true,if_false];rw[hst];have hget:∀{i:Nat}{z:Ent K},zs[i]?=some z→es[i]?=some (ent knd z):=λ{i z} e=>by
   rw[←getElem?_toList,hes,getElem?_map,e];rfl
  obtain⟨n,hn,hev,hno⟩:=lS (λm=>pos t.mask (tupleKeyHash knd k) (n0+m)∉zs.map (·.1)∨∃z∈zs,z.1=pos t.mask (tupleKeyHash knd k) (n0+m)∧tupleKeyHash knd z.2.2=tupleKeyHash knd k) (N-n0)
   (.inl (by rw[show n0+(N-n0)=N by omega];exact hN))
  have hlive:∀m,pos t.mask (tupleKeyHash knd k) m∈zs.map (·.1)→∃i z,t.slot (pos t.mask (tupleKeyHash knd k) m)=.live i∧zs[i]?=some z∧z.1=pos t.mask (tupleKeyHash knd k) m:=λm hm=>by
   obtain⟨i,hi,e⟩:=mem_iff_getElem.mp hm;have hi':i<zs.length:=by simpa using hi
   have e1:(zs.map (·.1))[i]?=some (pos t.mask (tupleKeyHash knd k) m):=by rw[getElem?_eq_getElem hi,e]
   refine⟨i,zs[i],ku T e1,by simp[hi'],?_⟩;rw[getElem_map]at e;exact e
  have hskip:∀m,m<n→∃i,t.slot (nth t.mask (nth t.mask (st t.mask (tupleKeyHash knd k)) n0) m).j=.live i∧((es[i]?.map (·.1)).getD 0==tupleKeyHash knd k)=false:=λm hm=>by
   have h1:pos t.mask (tupleKeyHash knd k) (n0+m)∈zs.map (·.1):=by
    by_cases z:pos t.mask (tupleKeyHash knd k) (n0+m)∈zs.map (·.1)
    ·exact z
    ·exact(hno m hm (.inl z)).elim
   obtain⟨i,z,e1,e2,e3⟩:=hlive _ h1;refine⟨i,by rw[iU];exact e1,?_⟩;rw[hget e2];show(tupleKeyHash knd z.2.2==tupleKeyHash knd k)=false;rw[beq_eq_false_iff_ne];intro e4;exact hno m hm (.inr ⟨z,mem_of_getElem? e2,e3,e4⟩)
  by_cases hmem:pos t.mask (tupleKeyHash knd k) (n0+n)∈zs.map (·.1)
  ·
   have hcand:∃z∈zs,z.1=pos t.mask (tupleKeyHash knd k) (n0+n)∧tupleKeyHash knd z.2.2=tupleKeyHash knd k:=by
    rcases hev with e|e
    ·exact(e hmem).elim
    ·exact e
   obtain⟨i,z,e1,e2,e3⟩:=hlive _ hmem;have hz:z∈zs:=mem_of_getElem? e2;have hzh:tupleKeyHash knd z.2.2=tupleKeyHash knd k:=by
    obtain⟨z',hz',f1,f2⟩:=hcand;have hinj:z'=z:=by
     obtain⟨i',hi',ei'⟩:=mem_iff_getElem.mp hz';have g1:(zs.map (·.1))[i']?=some (pos t.mask (tupleKeyHash knd k) (n0+n)):=by rw[getElem?_map,getElem?_eq_getElem hi',ei',←f1];rfl
     have g2:=ku T g1;rw[e1]at g2;cases g2;rw[getElem?_eq_getElem hi',ei']at e2;exact Option.some.inj e2
    rw[←hinj];exact f2
   have hnN:n0+n<N:=by
    rcases lt_or_ge (n0+n) N with z'|z'
    ·exact z'
    ·have:n0+n=N:=by omega
     rw[this]at hmem;exact(hN hmem).elim
   have hp:=pi t (λi=>(es[i]?.map (·.1)).getD 0) (tupleKeyHash knd k) i n (nth t.mask (st t.mask (tupleKeyHash knd k)) n0) (10*turns t.mask) (by omega) hskip (by rw[iU];exact e1)
    (by rw[hget e2];show(tupleKeyHash knd z.2.2==tupleKeyHash knd k)=true;rw[hzh];simp)
   generalize hg:SetTable.probe t _ (tupleKeyHash knd k) (nth t.mask (st t.mask (tupleKeyHash knd k)) n0)=met;have hmet:met=some (.candidate (nth t.mask (nth t.mask (st t.mask (tupleKeyHash knd k)) n0) n).j i (nth t.mask (nth t.mask (st t.mask (tupleKeyHash knd k)) n0) (n+1))):=hg.symm.trans hp;subst hmet;dsimp only;have cont:wpAny (model prog w) A (match es[i]? with
      |some (_,y)=>do
       let equal ← holding [y] (eqBool y (.ref b))
       let(es',_,t') ← setState a
       if (true&&equal)=true then return SetFound.there none
       let some same:=t'.sameMemory t.moves t.mask|unsupported "set.changed-during-lookup:is-the-new-block-at-the-old-address"
       let still ← match (if same then t'.slot (nth t.mask (nth t.mask (st t.mask (tupleKeyHash knd k)) n0) n).j else .empty)with
        |.live i'=>match es'[i']? with
         |some (_,y')=>do pure (if ← isSame y' y then some i' else none)
         |none=>pure none
        |_=>pure none
       match still with
       |none=>rule "set.search.anew";setSearchFrom a (.ref b) (tupleKeyHash knd k) true fuel none
       |some i'=>if equal then return SetFound.there (some i')else setSearchFrom a (.ref b) (tupleKeyHash knd k) true fuel (some (nth t.mask (nth t.mask (st t.mask (tupleKeyHash knd k)) n0) (n+1)))
      | _=>unsupported "internal:set-entry") Q E s:=by
    rw[hget e2];show wpAny _ _ (holding [Value.ref z.2.1] (eqBool (.ref z.2.1) (.ref b)) >>= _) _ _ _;refine wpAny_bind (wpAny_holding (wpAny_eqBool_tuple hu (hk z hz) hb ?_));refine wpAny_bind (wpAny_setState_of ho hd hf ?_);dsimp only
    by_cases hkk:z.2.2=k
    ·rw[decide_eq_true hkk];simp only[Bool.and_self,if_true];exact wpAny_pure (q1 ⟨z,hz,hkk⟩)
    ·rw[decide_eq_false hkk];simp only[Bool.and_false,false_eq_true,if_false];have hsm:t.sameMemory t.moves t.mask=some true:=by unfold SetTable.sameMemory;simp
     rw[hsm];simp only[if_true];rw[iU,e1];dsimp only;rw[hget e2];dsimp only;refine wpAny_bind (wpAny_isSame_ref_self ?_);simp only[if_true];refine wpAny_bind (wpAny_pure ?_);dsimp only;refine ih (N-(n0+n+1)) (by omega) (n0+n+1) fuel _ rfl (by omega) (by omega) ?_ ?_
     ·show nth t.mask (nth t.mask (st t.mask (tupleKeyHash knd k)) n0) (n+1)=_;rw[←dH];rfl
     ·intro m hm z' hz' e
      by_cases hlt:m<n0
      ·exact hpast m hlt z' hz' e
      ·intro hzk;have hm2:pos t.mask (tupleKeyHash knd k) m∈zs.map (·.1):=mem_map.mpr ⟨z',hz',e⟩;obtain⟨m',rfl⟩:∃m',m=n0+m':=⟨m-n0,by omega⟩;rcases lt_or_ge m' n with hlt'|hge
       ·exact hno m' hlt' (.inr ⟨z',hz',e,by rw[hzk]⟩)
       ·have:m'=n:=by omega
        subst this;obtain⟨i',hi',ei'⟩:=mem_iff_getElem.mp hz';have g1:(zs.map (·.1))[i']?=some (pos t.mask (tupleKeyHash knd k) (n0+m')):=by rw[getElem?_map,getElem?_eq_getElem hi',ei',←e];rfl
        have g2:=ku T g1;rw[e1]at g2;cases g2;rw[getElem?_eq_getElem hi',ei']at e2;have:z'=z:=Option.some.inj e2;exact hkk (this ▸ hzk)
   cases hl:t.led with
   |true =>
    simp only[Bool.not_true,false_eq_true,if_false];exact cont
   |false =>
    simp only[Bool.not_false,if_true];refine wpAny_bind (ut hb _ ?_ ?_)
    ·intro v hv;obtain⟨e,he,rfl⟩:=mem_map.mp hv;rw[Array.toList_filter,hes]at he;obtain⟨he1,_⟩:=mem_filter.mp he;obtain⟨z',hz',rfl⟩:=mem_map.mp he1;exact⟨z'.2.2,z'.2.1,rfl,hk z' hz'⟩
    ·simp only[false_eq_true,if_false];exact cont
  ·
   have hnN:n0+n=N:=by
    rcases lt_or_ge (n0+n) N with z|z
    ·exact(hmem (hN1 _ z)).elim
    ·omega
   have hp:=lT t (λi=>(es[i]?.map (·.1)).getD 0) (tupleKeyHash knd k) n (nth t.mask (st t.mask (tupleKeyHash knd k)) n0) (10*turns t.mask) (by omega) hskip (by rw[iU];exact rF T hmem);generalize hg:SetTable.probe t _ (tupleKeyHash knd k) (nth t.mask (st t.mask (tupleKeyHash knd k)) n0)=met;have hmet:met=some (.empty (nth t.mask (nth t.mask (st t.mask (tupleKeyHash knd k)) n0) n).j (nth t.mask (st t.mask (tupleKeyHash knd k)) n0).dummy):=hg.symm.trans hp;subst hmet;have hdm:(nth t.mask (st t.mask (tupleKeyHash knd k)) n0).dummy=none:=gY _ _ _;rw[hdm];dsimp only;rw[iU,hnN];refine wpAny_pure (q2 λm hm z hz e hzk=>?_)
   by_cases hlt:m<n0
   ·exact hpast m hlt z hz e hzk
   ·obtain⟨m',rfl⟩:∃m',m=n0+m':=⟨m-n0,by omega⟩;exact hno m' (by omega) (.inr ⟨z,hz,e,by rw[hzk]⟩)
end
theorem pr:∀(n:Nat)(l:List Nat),(∀j,j<n→j∈l)→n≤l.length
 |0,_,_=>zero_le _
 |n+1,l,h=>by
  have hn:=h n (by omega);have ih:=pr n (l.erase n) λj hj=>(List.mem_erase_of_ne (by omega)).mpr (h j (by omega));rw[List.length_erase_of_mem hn]at ih;have:0<l.length:=List.length_pos_of_mem hn;omega
theorem nU(n:Nat)(l:List Nat)(h:l.length≤n):∃j,j≤n∧j∉l:=by
 by_cases z:∃j,j≤n∧j∉l
 ·exact z
 ·exfalso
  have:=pr (n+1) l λj hj=>by
   by_cases e:j∈l
   ·exact e
   ·exact(z ⟨j,by omega,e⟩).elim
  omega
section
variable{prog:Program}{w:World}{K:Type}[DecidableEq K]{knd:KeyKind prog w K}{A:Around}{E:Value→Shared→Prop}{s:Shared}
theorem IsTupleKey.same{h h':Heap}{ks:List K}{a d:Addr}{o:Obj}{es ep t}(x:IsTupleKey knd h ks a)(ho:h.get? d=some o)(hd:o.data=.set es ep t)(hs:SameBut d h h'):IsTupleKey knd h' ks a:=by
 obtain⟨o',items,n,ho',hc,hd',hi⟩:=x;have hne:a≠d:=by
  rintro rfl;obtain rfl:o'=o:=Option.some.inj (ho'.symm.trans ho);rw[hd]at hd';exact nomatch hd'
 exact⟨o',items,n,(hs.2 a hne).trans ho',hc,hd',hi⟩
theorem rK{t:SetTable}{l:List Nat}(T:Tb t l)(b:Bool):Tb {t with plain:=b} l:=⟨T.pl,T.nd,T.up,T.le⟩
theorem stored{a:Addr}{o:Obj}{es:Array (Int×Value)}{ep:Nat}{t:SetTable}(ho:s.heap.get? a=some o)(hd:o.data=.set es ep t)(es':Array (Int×Value))(t':SetTable):
  (s.heap.update a (Obj.putSet es' t')).get? a=some {o with data:=.set es' (ep+1) t'}:=by
 have:=Heap.get?_update_self (Obj.putSet es' t') ho (by rw[putSet_of es' t' hd];rfl);rw[putSet_of es' t' hd]at this;exact this
theorem rL{n:Nat}(h:n≤64):n≤sizeLine:=by rw[sizeLine_eq];omega
theorem qy{a b:Addr}{zs:List (Ent K)}{k:List K}{Q:Bool→Shared→Prop}(hu:A.units<cLine)(hsc:∀k v,knd.is k v=true→v.scannable=true)(hS:TS knd s.heap a zs)(hb:IsTupleKey knd s.heap k b)(hroom:zs.length<60)(h:∀r h' zs',SameBut a s.heap h'→TS knd h' a zs'→((k∈zs.map (·.2.2)∧zs'=zs)∨(k∉zs.map (·.2.2)∧(zs'.map (·.2)).Perm ((b,k)::zs.map (·.2))))→Q r {s with heap:=h'}):
  wpAny (model prog w) A (setAddHashed a (.ref b) (tupleKeyHash knd k)) Q E s:=by
 obtain⟨⟨o,es,ep,t,ho,hex,hd,hes,T,hmask,hfull,hpath⟩,hk,hnd⟩:=id hS;have hlen:es.size=zs.length:=by rw[←length_toList,hes,length_map]
 have hge:=hmask.ge;have hle:zs.length≤t.mask:=by omega
 have hf:t.fits es.size=true:=kw T (by rw[length_map,hlen]) (by rw[hlen];exact hle);have hodd:t.gaveWay=false:=by unfold SetTable.gaveWay;rw[hmask.odd];rfl
 have cyc:=hmask.cyc;obtain⟨j₀,hj₀,hj₀'⟩:=nU t.mask (zs.map (·.1)) (by rw[length_map];exact hle);obtain⟨n₀,hn₀,en₀⟩:=cover cyc (tupleKeyHash knd k) hj₀;obtain⟨N,hNle,hN,hNno⟩:=lS (λm=>pos t.mask (tupleKeyHash knd k) m∉zs.map (·.1)) n₀ (by rw[en₀];exact hj₀');have hN1:∀m,m<N→pos t.mask (tupleKeyHash knd k) m∈zs.map (·.1):=λm hm=>by
  by_cases z:pos t.mask (tupleKeyHash knd k) m∈zs.map (·.1)
  ·exact z
  ·exact(hNno m hm z).elim
 have hturns:10*turns t.mask<100000:=by unfold turns;omega
 unfold setAddHashed setAddHashedIn;refine wpAny_holding (wpAny_bind (wpAny_setState_of ho hd hf ?_));dsimp only;have hby:byScan (.ref b) es=false:=rfl;rw[hby];simp only[false_eq_true,if_false];refine wpAny_bind ?_;unfold setSearch;refine lV hu ho hd hes T hf hodd hk hb hN (by omega) hN1 ?_ ?_ N 0 100000 none rfl (by omega) (by omega) rfl (λm hm=>by omega)
 ·intro hex';dsimp only;have e:s={s with heap:=s.heap}:=by cases s;rfl
  have hq:=h false s.heap zs (SameBut.refl a s.heap) hS (.inl ⟨by
   obtain⟨z,hz,e⟩:=hex';exact mem_map.mpr ⟨z,hz,e⟩,rfl⟩)
  rw[e];exact wpAny_pure hq
 ·intro hnone;have hknew:k∉zs.map (·.2.2):=by
   intro hm;obtain⟨z,hz,ez⟩:=mem_map.mp hm;obtain⟨n,e1,e2⟩:=hpath (pth knd z) (mem_map.mpr ⟨z,hz,rfl⟩);have e1':pos t.mask (tupleKeyHash knd k) n=z.1:=by rw[←ez];exact e1
   have e2':∀m,m<n→pos t.mask (tupleKeyHash knd k) m∈zs.map (·.1):=λm hm=>by
    have:=e2 m hm;rw[map_map]at this;rw[←ez];exact this
   have hnN:n<N:=by
    rcases lt_or_ge n N with z'|z'
    ·exact z'
    ·exfalso
     rcases lt_or_ge N n with z''|z''
     ·exact hN (e2' N z'')
     ·have:n=N:=by omega
      subst this;exact hN (by rw[e1'];exact mem_map.mpr ⟨z,hz,rfl⟩)
   exact hnone n hnN z hz e1'.symm ez
  dsimp only;refine wpAny_bind (wpAny_setState_of ho hd hf ?_);dsimp only;have hpl:pos t.mask (tupleKeyHash knd k) N≤t.mask:=iR _ _ _;obtain⟨T1,hp1,hm1⟩:=wC T hN hpl;generalize hput:t.put (pos t.mask (tupleKeyHash knd k) N)=tp at T1 hp1 hm1⊢;obtain⟨t1,p⟩:=tp;dsimp only at T1 hp1 hm1⊢;obtain⟨zs1,hzs1⟩:∃zs1,zs1=zs.take p++(pos t.mask (tupleKeyHash knd k) N,b,k)::zs.drop p:=⟨_,rfl⟩;have hT1:zs1.map (·.1)=(zs.map (·.1)).take (below (zs.map (·.1)).toArray (pos t.mask (tupleKeyHash knd k) N))++(pos t.mask (tupleKeyHash knd k) N)::(zs.map (·.1)).drop (below (zs.map (·.1)).toArray (pos t.mask (tupleKeyHash knd k) N)):=by
   rw[hzs1,←hp1];simp[map_take,map_drop]
  rw[←hT1]at T1;have hperm:zs1.Perm ((pos t.mask (tupleKeyHash knd k) N,b,k)::zs):=by
   rw[hzs1];refine List.perm_middle.trans ?_;rw[List.take_append_drop]
  have hlen1:zs1.length=zs.length+1:=by rw[hperm.length_eq,length_cons]
  have hes1:(insertAt es p (tupleKeyHash knd k,Value.ref b)).toList=zs1.map (ent knd):=by
   rw[SetTable.toList_insertAt,hes,hzs1];simp[map_take,map_drop,ent]
  have hpath1:eZ t.mask (zs1.map (pth knd)):=by
   refine eZ.mono hpath (pos t.mask (tupleKeyHash knd k) N,tupleKeyHash knd k) (λz hz=>?_) (λz hz=>?_) ⟨N,rfl,λm hm=>by rw[map_map];exact hN1 m hm⟩
   ·obtain⟨y,hy,rfl⟩:=mem_map.mp hz;rcases mem_cons.mp (hperm.mem_iff.mp hy)with e|e
    ·right;rw[e];rfl
    ·left;exact mem_map.mpr ⟨y,e,rfl⟩
   ·obtain⟨y,hy,rfl⟩:=mem_map.mp hz;exact mem_map.mpr ⟨y,hperm.mem_iff.mpr (mem_cons_of_mem _ hy),rfl⟩
  have hkeys1:∀z∈zs1,IsTupleKey knd s.heap z.2.2 z.2.1:=λz hz=>by
   rcases mem_cons.mp (hperm.mem_iff.mp hz)with e|e
   ·rw[e];exact hb
   ·exact hk z e
  have hkp1:(zs1.map (·.2.2)).Perm (k::zs.map (·.2.2)):=hperm.map _;have hkq1:(zs1.map (·.2)).Perm ((b,k)::zs.map (·.2)):=hperm.map _;have hnd1:(zs1.map (·.2.2)).Nodup:=hkp1.nodup_iff.mpr (nodup_cons.mpr ⟨hknew,hnd⟩);have hsz1:(insertAt es p (tupleKeyHash knd k,Value.ref b)).size=zs.length+1:=by rw[←length_toList,hes1,length_map,hlen1]
  have tail:∀t2:SetTable,Tb t2 (zs1.map (·.1))→t2.mask=t.mask→wpAny (model prog w) A (do
    storeSet a (insertAt es p (tupleKeyHash knd k,Value.ref b)) t2
    if (!false&&t2.tooFull)=true then do
      setRelay a (SetTable.grown (es.size+1))
      pure true
     else pure true) Q E s:=by
   intro t2 T2 hm2;refine wpAny_bind (wpAny_storeSet_of ho hd ?_ (by rw[hsz1];exact rL (by omega)));have ho1:=stored ho hd (insertAt es p (tupleKeyHash knd k,Value.ref b)) t2;have hsb1:=SameBut.update s.heap a (Obj.putSet (insertAt es p (tupleKeyHash knd k,Value.ref b)) t2);have hfill:t2.fill=zs.length+1:=by rw[pq T2,length_map,hlen1]
   by_cases hfull2:t2.tooFull=true
   ·rw[hfull2];simp only[Bool.not_false,Bool.and_self,if_true];refine wpAny_bind ?_;unfold setRelay;have hf2:t2.fits (insertAt es p (tupleKeyHash knd k,Value.ref b)).size=true:=kw T2 (by rw[length_map,hlen1,hsz1]) (by rw[hsz1,hm2];omega);refine wpAny_bind (wpAny_setState_of ho1 rfl hf2 ?_);dsimp only;obtain⟨nn,hnn⟩:∃nn,nn=zs.length+1:=⟨_,rfl⟩;have hw:SetTable.grown (es.size+1)=nn*4:=by rw[hlen,hnn];unfold SetTable.grown;rw[if_neg (by omega)]
    obtain⟨hmk,hsz,hsz256⟩:=rE (w:=nn*4) (by omega);rw[hw];rw[if_neg (by rw[sizeLine_eq];omega)];have hhs:((insertAt es p (tupleKeyHash knd k,Value.ref b)).map (·.1)).size=nn:=by rw[Array.size_map,hsz1,hnn]
    obtain⟨t3,zi,hrel,hm3,hl3,hp3,T3,hperm3,hpath3⟩:=qw (t:=t2) (hashes:=(insertAt es p (tupleKeyHash knd k,Value.ref b)).map (·.1)) (wanted:=nn*4) hmk.cyc (by rw[hhs];omega);rw[hhs]at hperm3;have hidx:∀z∈zi,z.2<nn:=λz hz=>mem_range.mp (hperm3.mem_iff.mp (mem_map.mpr ⟨z,hz,rfl⟩));have hlen5:zs1.length=nn:=by rw[hlen1,hnn]
    obtain⟨zs2,hzs2⟩:∃zs2:List (Ent K),zs2=zi.map λz=>(z.1,(zs1.getD z.2 (0,0,[])).2):=⟨_,rfl⟩;have hgetE:∀i,i<nn→(insertAt es p (tupleKeyHash knd k,Value.ref b))[i]?=some (ent knd (zs1.getD i (0,0,[]))):=λi hi=>by
     rw[←getElem?_toList,hes1,getElem?_map,getD_eq_getElem?_getD,getElem?_eq_getElem (by omega)];rfl
    have hes2:(((zi.map (·.2)).toArray).filterMap (λi=>(insertAt es p (tupleKeyHash knd k,Value.ref b))[i]?)).toList=zs2.map (ent knd):=by
     rw[Array.toList_filterMap,hzs2];show(zi.map (·.2)).filterMap _=_;rw[List.filterMap_map,map_map];have:∀l:List (Nat×Nat),(∀z∈l,z.2<nn)→l.filterMap ((λi=>(insertAt es p (tupleKeyHash knd k,Value.ref b))[i]?)∘λx=>x.2)=l.map (ent knd∘λz=>(z.1,(zs1.getD z.2 (0,0,[])).2)):=by
      intro l
      induction l with
      |nil=>intro _;rfl
      |cons x l ih =>
       intro hl;rw[filterMap_cons_some (b:=ent knd (zs1.getD x.2 (0,0,[]))) (by show(insertAt es p (tupleKeyHash knd k,Value.ref b))[x.2]?=_;exact hgetE _ (hl x (by simp))),map_cons,ih λz hz=>hl z (by simp[hz])];rfl
     exact this zi hidx
    have hsz2:(((zi.map (·.2)).toArray).filterMap (λi=>(insertAt es p (tupleKeyHash knd k,Value.ref b))[i]?)).size=nn:=by
     rw[←length_toList,hes2,length_map,hzs2,length_map];have:=hperm3.length_eq;rw[length_map,length_range]at this;exact this
    refine wpAny_bind ?_;rw[hrel];show wpAny _ _ (@ite _ _ _ _ _) _ _ _;rw[if_neg (by rw[hsz2,hsz1,hnn];simp)];refine wpAny_pure ?_;dsimp only;refine wpAny_storeSet_of ho1 rfl ?_ (by rw[hsz2];exact rL (by omega));have ho2:=stored (s:={s with heap:=s.heap.update a (Obj.putSet (insertAt es p (tupleKeyHash knd k,Value.ref b)) t2)}) ho1 rfl (((zi.map (·.2)).toArray).filterMap (λi=>(insertAt es p (tupleKeyHash knd k,Value.ref b))[i]?)) t3
    have hsb2:=hsb1.trans (SameBut.update (s.heap.update a (Obj.putSet (insertAt es p (tupleKeyHash knd k,Value.ref b)) t2)) a (Obj.putSet (((zi.map (·.2)).toArray).filterMap (λi=>(insertAt es p (tupleKeyHash knd k,Value.ref b))[i]?)) t3));have hkq2:(zs2.map (·.2)).Perm (zs1.map (·.2)):=by
     rw[hzs2,map_map];have e1:zi.map ((λz:Ent K=>z.2)∘λz=>(z.1,(zs1.getD z.2 (0,0,[])).2))=(zi.map (·.2)).map λi=>(zs1.getD i (0,0,[])).2:=by rw[map_map];rfl
     have e2:zs1.map (·.2)=(List.range nn).map λi=>(zs1.getD i (0,0,[])).2:=by
      apply ext_getElem?;intro i;rw[getElem?_map,getElem?_map]
      by_cases hi:i<nn
      ·rw[getElem?_eq_getElem (by omega),getElem?_range hi];have e3:zs1.getD i (0,0,[])=zs1[i]'(by omega):=by rw[getD_eq_getElem?_getD,getElem?_eq_getElem (by omega)];rfl
       show some (zs1[i]'(by omega)).2=some (zs1.getD i (0,0,[])).2;rw[e3]
      ·rw[getElem?_eq_none (by omega),getElem?_eq_none (by rw[length_range];omega)];rfl
     rw[e1,e2];exact hperm3.map _
    have hkp2:(zs2.map (·.2.2)).Perm (zs1.map (·.2.2)):=by
     have:=hkq2.map (·.2);rw[map_map,map_map]at this;exact this
    have hmem2:∀z∈zs2,∃y∈zs1,y.2=z.2:=λz hz=>by
     rw[hzs2]at hz;obtain⟨y,hy,rfl⟩:=mem_map.mp hz;have:=hidx y hy;refine⟨zs1[y.2]'(by omega),getElem_mem _,?_⟩;rw[getD_eq_getElem?_getD,getElem?_eq_getElem (by omega)];rfl
    refine wpAny_pure (h true _ zs2 hsb2 ⟨⟨_,_,_,t3,ho2,hex,rfl,hes2,?_,by rw[hm3];exact hmk,?_,?_⟩,λz hz=>?_,hkp2.nodup_iff.mpr hnd1⟩ (.inr ⟨hknew,hkq2.trans hkq1⟩))
    ·have e1:zs2.map (·.1)=zi.map (·.1):=by rw[hzs2,map_map];rfl
     rw[e1];exact T3
    ·have:zs2.length=nn:=by
      have:=hkp2.length_eq;rw[length_map,length_map,hlen5]at this;exact this
     rw[this,hm3];omega
    ·have e1:zs2.map (pth knd)=zi.map λz=>(z.1,((insertAt es p (tupleKeyHash knd k,Value.ref b)).map (·.1)).getD z.2 0):=by
      rw[hzs2,map_map];apply map_congr_left;intro z hz;show(z.1,tupleKeyHash knd (zs1.getD z.2 (0,0,[])).2.2)=_
      congr 1
      rw[getD_eq_getD_getElem?,Array.getElem?_map,hgetE _ (hidx z hz)];rfl
     rw[e1];exact hpath3
    ·obtain⟨y,hy,e⟩:=hmem2 z hz;rw[←e];exact IsTupleKey.same (hkeys1 y hy) ho hd hsb2
   ·have hnf:t2.tooFull=false:=by simpa using hfull2
    rw[hnf];simp only[Bool.and_false,false_eq_true,if_false];refine wpAny_pure (h true _ zs1 hsb1 ⟨⟨_,_,_,t2,ho1,hex,rfl,hes1,T2,by rw[hm2];exact hmask,?_,by rw[hm2];exact hpath1⟩,λz hz=>IsTupleKey.same (hkeys1 z hz) ho hd hsb1,hnd1⟩ (.inr ⟨hknew,hkq1⟩));unfold SetTable.tooFull at hnf;rw[decide_eq_false_iff_not,hfill]at hnf;rw[hlen1];omega
  cases hpl2:t1.plain with
  |true =>
   simp only[if_true];refine wpAny_bind (qx hb hsc λbb=>?_);cases bb with
   |true =>
    simp only[if_true];exact tail t1 T1 hm1
   |false =>
    simp only[false_eq_true,if_false];exact tail _ (rK T1 false) hm1
  |false =>
   simp only[false_eq_true,if_false];refine wpAny_bind (wpAny_pure ?_);simp only[if_true];exact tail t1 T1 hm1
end
theorem jM{α:Type}[DecidableEq α]:∀l:List α,¬l.Nodup→∃l':List α,l'.length+1=l.length∧∀x∈l,x∈l'
 |[],h=>(h nodup_nil).elim
 |x::r,h=>by
  by_cases hx:x∈r
  ·refine⟨r,rfl,λy hy=>?_⟩;rcases mem_cons.mp hy with e|e
   ·rw[e];exact hx
   ·exact e
  ·have hr:¬r.Nodup:=λz=>h (nodup_cons.mpr ⟨hx,z⟩);obtain⟨r',e,s⟩:=jM r hr;refine⟨x::r',by simp[←e],λy hy=>?_⟩;rcases mem_cons.mp hy with e'|e'
   ·rw[e'];simp
   ·exact mem_cons_of_mem _ (s y e')
theorem lW{α:Type}[DecidableEq α]{z l:List α}(hz:z.Nodup)(h:∀x,x∈z↔x∈l):z.length=l.length↔l.Nodup:=by
 constructor
 ·intro e
  by_cases hl:l.Nodup
  ·exact hl
  ·obtain⟨l',e',s⟩:=jM l hl;have:=Nodup.length_le_of_subset hz (λx hx=>s x ((h x).mp hx));omega
 ·intro hl;exact((List.perm_ext_iff_of_nodup hz hl).mpr h).length_eq
section
variable{prog:Program}{w:World}{K:Type}[DecidableEq K]{knd:KeyKind prog w K}{A:Around}{R:Result→Shared→Prop}{I:Addr}{fp wr:List Addr}{G:Array GenState→Array GenState→Prop}{n:Nat}{P:Nat→Value→Prop}{St:Nat→Shared→Prop}
theorem iV{wr:List Addr}{s s':Shared}{k:List K}{b:Addr}(m:Moved wr G s s')(hb:b∉wr)(h:IsTupleKey knd s.heap k b):IsTupleKey knd s'.heap k b:=by
 obtain⟨o,items,n,ho,r⟩:=h;exact⟨o,items,n,m.heap b o hb ho,r⟩
theorem lX{wr:List Addr}{s s':Shared}{S:Addr}{zs:List (Ent K)}(m:Moved wr G s s')(hS:S∉wr)(hz:∀z∈zs,z.2.1∉wr)(h:TS knd s.heap S zs):TS knd s'.heap S zs:=by
 obtain⟨⟨o,es,ep,t,ho,r⟩,hk,hn⟩:=h;exact⟨⟨o,es,ep,t,m.heap S o hS ho,r⟩,λz hz'=>iV m (hz z hz') (hk z hz'),hn⟩
theorem dj(W:WalksS prog w A.in1 I fp wr G n P St)(S:Addr)(hSf:S∉fp)(hu:A.in1.units<cLine)(hsc:∀k v,knd.is k v=true→v.scannable=true)(key:Nat→List K)(ad:Nat→Addr)(hval:∀i v,P i v→v=.ref (ad i))(had:∀i,i<n→ad i∉S::fp)(hn:n≤60):
  ∀(k i:Nat)(s:Shared)(zs:List (Ent K)),n-i=k→i≤n→St i s→TS knd s.heap S zs→zs.length≤i→(∀z∈zs,∃j,j<n∧z.2.1=ad j)→(∀k',k'∈zs.map (·.2.2)↔∃j,j<i∧key j=k')→(∀j,j<n→IsTupleKey knd s.heap (key j) (ad j)) →
   (∀s' zs',Moved (S::wr) G s s'→TS knd s'.heap S zs'→zs'.length≤n→(∀k',k'∈zs'.map (·.2.2)↔∃j,j<n∧key j=k')→R (.ok (.ret .none)) s') →
   codeAny (model prog w) A (.builtin "set.update.loop" ⟨[.ref S,.ref I],[]⟩) R s:=by
 have hSw:S∉wr:=λh=>hSf (W.sub _ h);have hsub:∀b∈wr,b∈S::wr:=λb hb=>mem_cons_of_mem _ hb;have hadw:∀i,i<n→ad i∉wr:=λi hi h=>had i hi (mem_cons_of_mem _ (W.sub _ h));have hadS:∀i,i<n→ad i≠S:=λi hi h=>had i hi (by rw[h];exact mem_cons_self);intro k
 induction k with
 |zero =>
  intro i s zs hk hi hst hS hl hza hmem hks hR;have hin:i=n:=by omega
  subst hin;refine codeAny_builtin PyProof.Rows.F.entry_set_update_loop ?_;rw[Around.under_plainId PyProof.Rows.F.plain_set_update_loop _];show wpAny _ A.in1 (pyNext (.ref I) >>= _) _ _ s;refine wpAny_bind (W.done s _ _ hst λs' hm=>?_);show wpAny _ A.in1 (ret Value.none) _ _ s';exact wpAny_pure (hR s' zs (hm.mono hsub) (lX hm hSw (λz hz=>by obtain⟨j,hj,e⟩:=hza z hz;rw[e];exact hadw j hj) hS) hl hmem)
 |succ k ih =>
  intro i s zs hk hi hst hS hl hza hmem hks hR;have hlt:i<n:=by omega
  refine codeAny_builtin PyProof.Rows.F.entry_set_update_loop ?_;rw[Around.under_plainId PyProof.Rows.F.plain_set_update_loop _];show wpAny _ A.in1 (pyNext (.ref I) >>= _) _ _ s;refine wpAny_bind (W.item i s _ _ hlt hst λv s' hP hst' hm=>?_);have hv:=hval i v hP;subst hv;have hS':TS knd s'.heap S zs:=lX hm hSw (λz hz=>by obtain⟨j,hj,e⟩:=hza z hz;rw[e];exact hadw j hj) hS;have hks':∀j,j<n→IsTupleKey knd s'.heap (key j) (ad j):=λj hj=>iV hm (hadw j hj) (hks j hj);show wpAny _ A.in1 (holding [Value.ref (ad i)] (setAdd S (.ref (ad i))) >>= _) _ _ s';refine wpAny_bind (wpAny_holding ?_);unfold setAdd;refine wpAny_holding ?_;refine wpAny_bind (wpAny_pyHash_tuple hu (hks' i hlt) ?_);refine qy (s:={s' with toks:=s'.toks+((key i).length+1)}) hu hsc hS' (hks' i hlt) (by omega) λr h' zs' hsb hS2 hor=>?_
  have hsb':SameBut S s'.heap h':=hsb;have hlen':zs'.length≤i+1:=by
   rcases hor with⟨_,e⟩|⟨_,e⟩
   ·rw[e];omega
   ·have:=e.length_eq;rw[length_map,length_cons,length_map]at this;omega
  have hor2:(key i∈zs.map (·.2.2)∧zs'=zs)∨(zs'.map (·.2.2)).Perm (key i::zs.map (·.2.2)):=by
   rcases hor with e|⟨_,e⟩
   ·exact .inl e
   ·have:=e.map (·.2);rw[map_map,map_cons,map_map]at this;exact .inr this
  have hmem':∀k',k'∈zs'.map (·.2.2)↔∃j,j<i+1∧key j=k':=λk'=>by
   rcases hor2 with⟨hin,e⟩|e
   ·rw[e,hmem k'];constructor
    ·rintro⟨j,hj,e'⟩;exact⟨j,by omega,e'⟩
    ·rintro⟨j,hj,e'⟩
     by_cases hji:j=i
     ·rw[←e',hji];exact(hmem _).mp hin
     ·exact⟨j,by omega,e'⟩
   ·rw[e.mem_iff,mem_cons,hmem k'];constructor
    ·rintro(e'|⟨j,hj,e'⟩)
     ·exact⟨i,by omega,e'.symm⟩
     ·exact⟨j,by omega,e'⟩
    ·rintro⟨j,hj,e'⟩
     by_cases hji:j=i
     ·left;rw[←e',hji]
     ·exact .inr ⟨j,by omega,e'⟩
  have hkeep:∀b o,b∉S::wr→s'.heap.get? b=some o→h'.get? b=some o:=λb o hb e=>by
   rw[hsb'.2 b (λz:b=S=>hb (by rw[z];exact mem_cons_self))];exact e
  have hks2:∀j,j<n→IsTupleKey knd h' (key j) (ad j):=λj hj=>by
   obtain⟨o,items,m,ho,r⟩:=hks' j hj;exact⟨o,items,m,(hsb'.2 _ (hadS j hj)).trans ho,r⟩
  have hza2:∀z∈zs',∃j,j<n∧z.2.1=ad j:=by
   rcases hor with⟨_,e⟩|⟨_,e⟩
   ·rw[e];exact hza
   ·intro z hz;have hz2:z.2∈zs'.map (·.2):=mem_map.mpr ⟨z,hz,rfl⟩;rcases mem_cons.mp (e.mem_iff.mp hz2)with e'|e'
    ·exact⟨i,hlt,by rw[e']⟩
    ·obtain⟨y,hy,ey⟩:=mem_map.mp e';obtain⟨j,hj,ej⟩:=hza y hy;exact⟨j,hj,by rw[←ey];exact ej⟩
  refine wpAny_pure ⟨plainId_quiet PyProof.Rows.F.plain_set_update_loop _,ih (i+1) _ zs' (by omega) hlt (W.frame _ s' _ _ hst' (le_add_right _ _) λb hb o e=>?_) hS2 hlen' hza2 hmem' hks2 λs'' zs'' hm'' hS'' hl'' hmm''=>?_⟩
  ·rw[hsb'.2 b (λh:b=S=>hSf (by rw[←h];exact hb))];exact e
  ·refine hR s'' zs'' (Moved.trans W.gtrans ((hm.mono hsub).then_heap (le_add_right _ _) λb o hb e=>?_) hm'') hS'' hl'' hmm'';rw[hsb'.2 b (λh:b=S=>hb (by rw[h];exact mem_cons_self))];exact e
end
section
variable{prog:Program}{w:World}{K:Type}[DecidableEq K]{knd:KeyKind prog w K}{A:Around}{E:Value→Shared→Prop}{s:Shared}
theorem rM{h:Heap}{a:Addr}(led:Bool)(ho:h.get? a=some {cls:=.type "set",dict:=none,data:=.set #[] 0 (.fresh 0 0 led)}):TS knd h a [] :=
 ⟨⟨_,#[],0,_,ho,⟨rfl,rfl,rfl⟩,rfl,rfl,⟨rfl,rfl,Pairwise.nil,λ_ h=>by simp at h⟩,Or.inl rfl,(by show 0<21;decide),eZ.nil _⟩,λ_ h=>by simp at h,nodup_nil⟩
set_option maxRecDepth 100000 in
set_option maxHeartbeats 3200000 in
theorem ir{l:Addr}{items:Array Value}{key:Nat→List K}{ad:Nat→Addr}{Q:Value→Shared→Prop}(hh:A.handled=none)(hu:A.units+4<cLine)(hsc:∀k v,knd.is k v=true→v.scannable=true)(hl:s.heap.IsList l items)(hi:∀(i:Nat) (v:Value),items[i]?=some v→v=Value.ref (ad i))(hk:∀i,i<items.size→IsTupleKey knd s.heap (key i) (ad i))(hb:items.size≤60)(h:∀(h':Heap) (tk:Nat) (zs:List (Ent K)),TS knd h' s.heap.objs.size zs→zs.length≤items.size→(∀k',k'∈zs.map (·.2.2)↔∃j,j<items.size∧key j=k') →
   (∀b o,b<s.heap.objs.size→s.heap.get? b=some o→h'.get? b=some o)→Q (.ref s.heap.objs.size) {s with heap:=h',toks:=tk}):
  wpAny (model prog w) A (call (.type "set") [.ref l]) Q E s:=by
 obtain⟨c,tl,hmro⟩:=F.called_set.mro;have hmade:=F.called_set.made;have hsub:=F.called_set.sub;refine wpAny_call (codeAny_of_tree ?_);show wpAny _ _ (callAny (.type "set") _) _ _ _;refine wpAny_pure ⟨Code.quiet_builtin _ (by decide +kernel),codeAny_builtin F.entry_type_call ?_⟩;rw[Around.under_plain (weight_type_call_type "set" [.ref l] []) rfl];have h1:=F.called_set.notType;have h2:=F.called_set.canCreate;have hct:=F.typeCall_set_1 (.ref l)
 repeat (any_goals (first|assumption|wp_step))
 refine codeAny_mono (code_set_new_1 (.ref l) (E:=E) (Q₁:=λobj s₁=>∃led:Bool,obj=.ref s.heap.objs.size∧s₁={s with heap:=s.heap.push {cls:=.type "set",dict:=none,data:=.set #[] 0 (.fresh 0 0 led)}}) λled=>⟨led,rfl,rfl⟩) λr s₁ hr=>?_
 cases r with
 |error e=>exact hr
 |ok fl =>
  cases fl with
  |ret obj =>
   obtain⟨led,rfl,rfl⟩:=hr;have hS:(s.heap.push {cls:=.type "set",dict:=none,data:=.set #[] 0 (.fresh 0 0 led)}).get? s.heap.objs.size=some {cls:=.type "set",dict:=none,data:=.set #[] 0 (.fresh 0 0 led)}:=get?_push_size _ rfl;have hT:Shared.TypeIs {s with heap:=s.heap.push {cls:=.type "set",dict:=none,data:=.set #[] 0 (.fresh 0 0 led)}} (.ref s.heap.objs.size) "set":=⟨_,hS,rfl⟩
   have hli:=F.called_set.init.lookup;have hbi:=F.called_set.init.bind (.ref s.heap.objs.size)
   repeat (any_goals (first|assumption|wp_step))
   refine codeAny_mono (codeAny_call_builtin (R:=wants (λr s₂=>r=.none∧∃h' tk zs,s₂={s with heap:=h',toks:=tk}∧TS knd h' s.heap.objs.size zs∧zs.length≤items.size∧(∀k',k'∈zs.map (·.2.2)↔∃j,j<items.size∧key j=k') ∧
     (∀b o,b<s.heap.objs.size→s.heap.get? b=some o→h'.get? b=some o)) E) F.called_set.init.plain F.entry_set_init (check_set_init_1 hT ?_)) λr₂ s₂ hr₂=>?_
   ·obtain⟨ol,hol,hcl,nl,hdl⟩:=hl;obtain⟨ocls,odict,odata,oslots⟩:=ol;simp only at hcl hdl;subst hcl;subst hdl;have hol':(s.heap.push {cls:=.type "set",dict:=none,data:=.set #[] 0 (.fresh 0 0 led)}).get? l=some {cls:=.type "list",dict:=odict,data:=.seq items nl,slots:=oslots}:=get?_push_of_some _ hol;have hsls:=F.sub_list_set;have hslf:=F.sub_list_frozenset;have hne:(type "list"==type "dict")=false:=by decide
    have hl1:(s.heap.push {cls:=.type "set",dict:=none,data:=.set #[] 0 (.fresh 0 0 led)}).IsList l items:=⟨_,hol',rfl,nl,rfl⟩;unfold Builtin.«set.__init__» noKeywords Builtin.Frozenset.updateFrom;generalize hPI:pyIter=PI
    wp_walk
    subst hPI;refine wpAny_pyIter_list hl1 ?_;refine wpAny_bind (wpAny_runValue ?_);have hlS:l<s.heap.objs.size:=lt_size hol;have hh3:A.in1.in1.in1.handled=none:=by simp[hh]
    have hneI:l≠(s.heap.push {cls:=.type "set",dict:=none,data:=.set #[] 0 (.fresh 0 0 led)}).objs.size:=by
     rw[size_push];exact ne_of_lt (lt_succ_of_lt hlS)
    have hSf:s.heap.objs.size∉[(s.heap.push {cls:=.type "set",dict:=none,data:=.set #[] 0 (.fresh 0 0 led)}).objs.size,l]:=by
     rw[size_push];simp only[mem_cons,mem_singleton,not_mem_nil,or_false,not_or];exact⟨ne_of_lt (Nat.lt_succ_self _),ne_of_gt hlS⟩
    have hadlt:∀i,i<items.size→ad i<s.heap.objs.size:=λi hi'=>by
     obtain⟨o,_,_,ho,_⟩:=hk i hi';exact lt_size ho
    have hadl:∀i,i<items.size→ad i≠l:=λi hi' e=>by
     obtain⟨o,_,_,ho,hc,_⟩:=hk i hi';rw[e,hol]at ho;cases ho;have h':type "list"=type "tuple":=hc;injection h' with h'
     exact absurd h' (by decide)
    have had:∀i,i<items.size→ad i∉s.heap.objs.size::[(s.heap.push {cls:=.type "set",dict:=none,data:=.set #[] 0 (.fresh 0 0 led)}).objs.size,l]:=λi hi'=>by
     rw[size_push];have q1:ad i<s.heap.objs.size:=hadlt i hi';have q2:=hadl i hi';simp only[mem_cons,mem_singleton,not_mem_nil,or_false,not_or];exact⟨ne_of_lt q1,ne_of_lt (lt_succ_of_lt q1),q2⟩
    refine dj (knd:=knd) ((Walks.list hh3 _ l hneI items).toS) s.heap.objs.size
     hSf (by simp[Around.in1_units];omega) hsc key ad hi had hb (items.size-0) 0 _ [] (by omega) (zero_le _)
     ⟨⟨_,get?_push_size _ rfl,rfl,rfl⟩,(hl1.push _)⟩ ?hS0 (zero_le _) (λ_ h=>by simp at h) (λk'=>⟨λh=>by simp at h,λ⟨j,hj,_⟩=>by omega⟩) ?hks ?hR
    case hS0 =>
     exact rM led (get?_push_of_some _ hS)
    case hks =>
     intro j hj;obtain⟨o,its,m,ho,r⟩:=hk j hj;exact⟨o,its,m,get?_push_of_some _ (get?_push_of_some _ ho),r⟩
    case hR =>
     intro s' zs hm hS' hl' hm';obtain⟨h',g',d',tk',os'⟩:=s';have eg:g'=s.gens:=hm.gens;have ed:d'=s.drawn:=hm.drawn;have eo:os'=s.os:=hm.os;subst eg;subst ed;subst eo;show wpAny _ _ _ _ _ _;refine wpAny_pure ?_;show wpAny _ _ (ret Value.none) _ _ _;refine wpAny_pure ⟨rfl,h',tk',zs,rfl,hS',hl',hm',λb o hb e=>?_⟩;have hb1:b≠s.heap.objs.size:=ne_of_lt hb;have hb2:b≠(s.heap.push {cls:=.type "set",dict:=none,data:=.set #[] 0 (.fresh 0 0 led)}).objs.size:=by
      rw[size_push];exact ne_of_lt (lt_succ_of_lt hb)
     exact hm.heap b o (by simp only[mem_cons,mem_singleton,not_mem_nil,or_false,not_or];exact⟨hb1,hb2⟩) (get?_push_of_some _ (get?_push_of_some _ e))
   ·cases r₂ with
    |error e=>exact hr₂
    |ok fl₂ =>
     cases fl₂ with
     |ret r =>
      obtain⟨rfl,h',tk,zs,rfl,hS',hl',hm',hk'⟩:=hr₂
      repeat (any_goals (first|assumption|wp_step))
      exact h _ _ zs hS' hl' hm' hk'
     |_=>exact hr₂.elim
  |_=>exact hr.elim
end
end TB
namespace SRT
open PySem PySem.W PyProof.Rows
def run{α:Type}(f:Nat→Nat→Bool):KasT α→α
 |.ret a=>a
 |.ask i j k=>run f (k (f i j))
theorem dy{α β:Type}(f:Nat→Nat→Bool)(g:α→KasT β):∀t:KasT α,run f (t.bind g)=run f (g (run f t))
 |.ret a=>rfl
 |.ask i j k=>dy f g (k (f i j))
def path{α:Type}(f:Nat→Nat→Bool)(n:Nat):KasT α→Prop
 |.ret _=>True
 |.ask i j k=>i<n∧j<n∧path f n (k (f i j))
theorem cR{α β:Type}{f:Nat→Nat→Bool}{n:Nat}{g:α→KasT β}:∀{t:KasT α},path f n t→path f n (g (run f t))→path f n (t.bind g)
 |.ret a,_,h=>h
 |.ask i j k,h,h'=>⟨h.1,h.2.1,cR (t:=k (f i j)) h.2.2 h'⟩
theorem pw{α:Type}{f:Nat→Nat→Bool}{n:Nat}{cmp:Nat→Nat→(Bool→Shared→Prop)→Shared→Prop}{s:Shared}(hc:∀i j C,i<n→j<n→C (f i j) s→cmp i j C s)(Q:α→Shared→Prop):∀t:KasT α,path f n t→Q (run f t) s→t.kasWp cmp Q s
 |.ret a,_,h=>h
 |.ask i j k,p,h=>hc i j _ p.1 p.2.1 (pw hc Q (k (f i j)) p.2.2 h)
structure Ord(f:Nat→Nat→Bool)(n:Nat):Prop where
 irr:∀i,i<n→f i i=false
 tr:∀i j k,i<n→j<n→k<n→f i j=true→f j k=true→f i k=true
 tot:∀i j,i<n→j<n→i≠j→f i j=true∨f j i=true
section
variable{f:Nat→Nat→Bool}{n:Nat}
structure Row(n:Nat)(p:Array Nat):Prop where
 perm:p.toList.Perm (List.range n)
theorem Row.size{p:Array Nat}(r:Row n p):p.size=n:=by have:=r.perm.length_eq;simpa using this
theorem Row.lt{p:Array Nat}(r:Row n p){i:Nat}(hi:i<n):p.getD i 0<n:=by
 have hs:=r.size;have:p.getD i 0∈p.toList:=by
  rw[getD_eq_getD_getElem?,Array.getElem?_eq_getElem (by omega)];exact Array.getElem_mem_toList (by omega)
 exact mem_range.mp (r.perm.mem_iff.mp this)
theorem Row.ne{p:Array Nat}(r:Row n p){i j:Nat}(hi:i<n)(hj:j<n)(hij:i≠j):p.getD i 0≠p.getD j 0:=by
 have hs:=r.size;have nd:p.toList.Nodup:=r.perm.nodup_iff.mpr List.nodup_range;rw[getD_eq_getD_getElem?,getD_eq_getD_getElem?,Array.getElem?_eq_getElem (by omega),Array.getElem?_eq_getElem (by omega)];intro e;have e':p.toList[i]'(by simpa using (by omega:i<p.size))=p.toList[j]'(by simpa using (by omega:j<p.size)):=by simpa using e
 exact hij ((getElem_inj nd).mp e')
theorem Row.rev{p:Array Nat}(r:Row n p)(i j:Nat):Row n (kas_rev p i j):=⟨(Array.perm_iff_toList_perm.mp (mirror_perm p i j _)).trans r.perm⟩
theorem Row.bub{p:Array Nat}(r:Row n p)(i j:Nat):Row n (bubble p i j):=⟨(Array.perm_iff_toList_perm.mp (bubble_perm p i j)).trans r.perm⟩
def Up(f:Nat→Nat→Bool)(p:Array Nat)(m:Nat):Prop:=∀i j,i<j→j<m→f (p.getD i 0) (p.getD j 0)=true
theorem uu(O:Ord f n){p:Array Nat}(r:Row n p){m:Nat}(hm:m<n)(h1:1≤m)(u:Up f p m)(h:f (p.getD m 0) (p.getD (m-1) 0)=false):Up f p (m+1):=by
 have hl:f (p.getD (m-1) 0) (p.getD m 0)=true:=by
  rcases O.tot _ _ (r.lt (i:=m) hm) (r.lt (i:=m-1) (by omega)) (r.ne hm (by omega) (by omega))with z|z
  ·rw[h]at z;cases z
  ·exact z
 intro i j hij hj
 by_cases e:j=m
 ·subst e
  by_cases e2:i=j-1
  ·rw[e2];exact hl
  ·exact O.tr _ _ _ (r.lt (by omega)) (r.lt (by omega)) (r.lt hm) (u i (j-1) (by omega) (by omega)) hl
 ·exact u i j hij (by omega)
theorem kx(O:Ord f n){p:Array Nat}(r:Row n p):∀(fuel m:Nat),1≤m→m+fuel≤n→Up f p m →
  m≤run f (kas_asc p fuel m)∧run f (kas_asc p fuel m)≤m+fuel∧Up f p (run f (kas_asc p fuel m))∧(run f (kas_asc p fuel m)<m+fuel→f (p.getD (run f (kas_asc p fuel m)) 0) (p.getD (run f (kas_asc p fuel m)-1) 0)=true)
 |0,m,_,_,u=>⟨le_refl _,le_refl _,u,λh=>absurd h (by simp[kas_asc,run])⟩
 |fuel+1,m,h1,hm,u=>by
  cases e:f (p.getD m 0) (p.getD (m-1) 0)with
  |true =>
   have er:run f (kas_asc p (fuel+1) m)=m:=by
    show run f (if f (p.getD m 0) (p.getD (m-1) 0)=true then KasT.ret m else kas_asc p fuel (m+1))=m
    rw[e,if_pos rfl];rfl
   rw[er];exact⟨le_refl _,by omega,u,λ_=>e⟩
  |false =>
   have er:run f (kas_asc p (fuel+1) m)=run f (kas_asc p fuel (m+1)):=by
    show run f (if f (p.getD m 0) (p.getD (m-1) 0)=true then KasT.ret m else kas_asc p fuel (m+1))=_
    rw[e,if_neg (by simp)]
   rw[er];obtain⟨a1,a2,a3,a4⟩:=kx O r fuel (m+1) (by omega) (by omega) (uu O r (by omega) h1 u e);exact⟨by omega,by omega,a3,λh=>a4 (by omega)⟩
def wD(f:Nat→Nat→Bool)(p:Array Nat)(m:Nat):Prop:=∀i j,i<j→j<m→f (p.getD j 0) (p.getD i 0)=true
theorem ky(O:Ord f n){p:Array Nat}(r:Row n p):∀(fuel m:Nat),1≤m→m+fuel≤n→wD f p m →
  ∃m',run f (kas_desc fuel p m 0)=(p,m',0)∧m≤m'∧m'≤m+fuel∧wD f p m'
 |0,m,_,_,u=>⟨m,rfl,le_refl _,le_refl _,u⟩
 |fuel+1,m,h1,hm,u=>by
  cases e:f (p.getD m 0) (p.getD (m-1) 0)with
  |true =>
   have er:run f (kas_desc (fuel+1) p m 0)=run f (kas_desc fuel p (m+1) 0):=by
    show run f (if f (p.getD m 0) (p.getD (m-1) 0)=true then (if 0>0 then _ else kas_desc fuel p (m+1) 0)else _)=_
    rw[e,if_pos rfl,if_neg (by omega)]
   rw[er];obtain⟨m',a1,a2,a3,a4⟩:=ky O r fuel (m+1) (by omega) (by omega) (by
    intro i j hij hj
    by_cases ej:j=m
    ·subst ej
     by_cases e2:i=j-1
     ·rw[e2];exact e
     ·exact O.tr _ _ _ (r.lt (by omega)) (r.lt (i:=j-1) (by omega)) (r.lt (by omega)) e (u i (j-1) (by omega) (by omega))
    ·exact u i j hij (by omega))
   exact⟨m',a1,by omega,by omega,a4⟩
  |false =>
   have e2:f (p.getD (m-1) 0) (p.getD m 0)=true:=by
    rcases O.tot _ _ (r.lt (i:=m) (by omega)) (r.lt (i:=m-1) (by omega)) (r.ne (by omega) (by omega) (by omega))with z|z
    ·rw[e]at z;cases z
    ·exact z
   have er:run f (kas_desc (fuel+1) p m 0)=(p,m,0):=by
    show run f (if f (p.getD m 0) (p.getD (m-1) 0)=true then _ else KasT.ask (p.getD (m-1) 0) (p.getD m 0) λd=>if d=true then .ret (p,m,0)else kas_desc fuel p (m+1) (0+1))=_
    rw[e,if_neg (by simp)];show run f (if f (p.getD (m-1) 0) (p.getD m 0)=true then KasT.ret (p,m,0)else kas_desc fuel p (m+1) (0+1))=_
    rw[e2,if_pos rfl];rfl
   exact⟨m,er,le_refl _,by omega,u⟩
theorem pz{p:Array Nat}{m:Nat}(hm:m≤p.size)(k:Nat)(hk:k<m):(kas_rev p 0 m).getD k 0=p.getD (m-1-k) 0:=by
 unfold kas_rev;rw[getD_eq_getD_getElem?,getElem?_mirror_all hm k,if_pos ⟨by omega,hk⟩,getD_eq_getD_getElem?]
 congr 2
 omega
theorem wE{p:Array Nat}{m:Nat}(hm:m≤p.size)(d:wD f p m):Up f (kas_rev p 0 m) m:=by
 intro i j hij hj;rw[pz hm i (by omega),pz hm j hj];exact d _ _ (by omega) (by omega)
theorem lY(O:Ord f n){p:Array Nat}(r:Row n p)(h2:1≤n):∃m p',run f (kas_count n p)=(m,p')∧1≤m∧m≤n∧Row n p'∧Up f p' m:=by
 obtain⟨a1,a2,a3,a4⟩:=kx O r (n-1) 1 (by omega) (by omega) (by intro i j hij hj;omega);have er:run f (kas_count n p)=run f (if (run f (kas_asc p (n-1) 1)==n)=true then KasT.ret (run f (kas_asc p (n-1) 1),p)else if run f (kas_asc p (n-1) 1)>1 then .ask (p.getD 0 0) (p.getD (run f (kas_asc p (n-1) 1)-1) 0) λc=>if c=true then .ret (run f (kas_asc p (n-1) 1),p)else kas_descPart (run f (kas_asc p (n-1) 1)) n (kas_rev p 0 (run f (kas_asc p (n-1) 1)))
  else kas_descPart (run f (kas_asc p (n-1) 1)) n p):=by
  unfold kas_count;rw[dy]
 rw[er];generalize run f (kas_asc p (n-1) 1)=m at a1 a2 a3 a4⊢
 by_cases e:m=n
 ·rw[if_pos (by simp[e])];exact⟨m,p,rfl,a1,by omega,r,a3⟩
 ·rw[if_neg (by simpa using e)]
  by_cases e1:m>1
  ·rw[if_pos e1];refine⟨m,p,?_,a1,by omega,r,a3⟩;show run f (if f (p.getD 0 0) (p.getD (m-1) 0)=true then KasT.ret (m,p)else _)=_
   rw[a3 0 (m-1) (by omega) (by omega),if_pos rfl];rfl
  ·rw[if_neg e1];have em:m=1:=by omega
   subst em;have hd:=a4 (by omega);unfold kas_descPart;obtain⟨m',b1,b2,b3,b4⟩:=ky O r (n-(1+1)) (1+1) (by omega) (by omega) (by
    intro i j hij hj;have:i=0∧j=1:=by omega
    rw[this.1,this.2];exact hd)
   rw[dy,b1];dsimp only;rw[if_neg (by omega)];unfold kas_tail3;have hs:=r.size;have ur:=wE (f:=f) (by omega:m'≤p.size) b4;obtain⟨c1,c2,c3,c4⟩:=kx O (r.rev 0 m') (n-m') m' (by omega) (by omega) ur;rw[dy];exact⟨_,_,rfl,by omega,by omega,r.rev 0 m',c3⟩
theorem gF(O:Ord f n){p:Array Nat}(r:Row n p){k:Nat}(hk:k<n)(u:Up f p k):∀(fuel l r':Nat),r'-l≤fuel→l≤r'→r'≤k →
  (∀i,i<l→f (p.getD i 0) (p.getD k 0)=true)→(∀i,r'≤i→i<k→f (p.getD k 0) (p.getD i 0)=true) →
  run f (kas_place p k fuel l r')≤k∧(∀i,i<run f (kas_place p k fuel l r')→f (p.getD i 0) (p.getD k 0)=true)∧(∀i,run f (kas_place p k fuel l r')≤i→i<k→f (p.getD k 0) (p.getD i 0)=true)
 |0,l,r',h1,h2,h3,h4,h5=>by
  have:l=r':=by omega
  subst this;exact⟨h3,h4,h5⟩
 |fuel+1,l,r',h1,h2,h3,h4,h5=>by
  unfold kas_place
  by_cases e:l≥r'
  ·rw[if_pos e];have:l=r':=by omega
   subst this;exact⟨h3,h4,h5⟩
  ·rw[if_neg e];have hmid:(l+r') / 2<k:=by omega
   cases c:f (p.getD k 0) (p.getD ((l+r') / 2) 0)with
   |true =>
    have er:run f (KasT.ask (p.getD k 0) (p.getD ((l+r') / 2) 0) λc=>if c=true then kas_place p k fuel l ((l+r') / 2)else kas_place p k fuel ((l+r') / 2+1) r')=run f (kas_place p k fuel l ((l+r') / 2)):=by
     show run f (if f (p.getD k 0) (p.getD ((l+r') / 2) 0)=true then _ else _)=_
     rw[c,if_pos rfl]
    rw[er];refine gF O r hk u fuel l _ (by omega) (by omega) (by omega) h4 (λi hi hik=>?_)
    by_cases ei:i=(l+r') / 2
    ·rw[ei];exact c
    ·exact O.tr _ _ _ (r.lt hk) (r.lt (i:=(l+r') / 2) (by omega)) (r.lt (by omega)) c (u _ _ (by omega) hik)
   |false =>
    have er:run f (KasT.ask (p.getD k 0) (p.getD ((l+r') / 2) 0) λc=>if c=true then kas_place p k fuel l ((l+r') / 2)else kas_place p k fuel ((l+r') / 2+1) r')=run f (kas_place p k fuel ((l+r') / 2+1) r'):=by
     show run f (if f (p.getD k 0) (p.getD ((l+r') / 2) 0)=true then _ else _)=_
     rw[c,if_neg (by simp)]
    rw[er];have c':f (p.getD ((l+r') / 2) 0) (p.getD k 0)=true:=by
     rcases O.tot _ _ (r.lt (i:=k) hk) (r.lt (i:=(l+r') / 2) (by omega)) (r.ne hk (by omega) (by omega))with z|z
     ·rw[c]at z;cases z
     ·exact z
    refine gF O r hk u fuel _ r' (by omega) (by omega) h3 (λi hi=>?_) h5
    by_cases ei:i=(l+r') / 2
    ·rw[ei];exact c'
    ·exact O.tr _ _ _ (r.lt (by omega)) (r.lt (i:=(l+r') / 2) (by omega)) (r.lt hk) (u i _ (by omega) (by omega)) c'
theorem ix{p:Array Nat}{k l:Nat}(hk:k<p.size)(hl:l≤k)(i:Nat):(bubble p k (k-l)).getD i 0=if i=l then p.getD k 0 else if l<i∧i≤k then p.getD (i-1) 0 else p.getD i 0:=by
 simp only[getD_eq_getD_getElem?];rw[getElem?_bubble hk (k-l) (by omega) i];have e:k-(k-l)=l:=by omega
 rw[e]
 by_cases h1:i=l
 ·rw[if_pos h1,if_pos h1]
 ·rw[if_neg h1,if_neg h1]
  by_cases h2:l<i∧i≤k
  ·rw[if_pos h2,if_pos h2]
  ·rw[if_neg h2,if_neg h2]
theorem rN(O:Ord f n):∀(fuel:Nat)(p:Array Nat)(k:Nat),Row n p→k+fuel=n→Up f p k→Row n (run f (kas_bin fuel p k))∧Up f (run f (kas_bin fuel p k)) n
 |0,p,k,r,hk,u=>by
  have:k=n:=by omega
  subst this;exact⟨r,u⟩
 |fuel+1,p,k,r,hk,u=>by
  have hkn:k<n:=by omega
  obtain⟨a1,a2,a3⟩:=gF O r hkn u k 0 k (by omega) (by omega) (le_refl _) (λi hi=>by omega) (λi h1 h2=>by omega);have er:run f (kas_bin (fuel+1) p k)=run f (kas_bin fuel (bubble p k (k-run f (kas_place p k k 0 k))) (k+1)):=by
   show run f ((kas_place p k k 0 k).bind λl=>kas_bin fuel (bubble p k (k-l)) (k+1))=_;rw[dy]
  rw[er];generalize run f (kas_place p k k 0 k)=l at a1 a2 a3⊢;have hs:=r.size;refine rN O fuel _ (k+1) (r.bub _ _) (by omega) ?_;intro i j hij hj;rw[ix (by omega) a1 i,ix (by omega) a1 j]
  by_cases ei:i=l
  ·rw[if_pos ei,if_neg (by omega),if_pos ⟨by omega,by omega⟩];exact a3 (j-1) (by omega) (by omega)
  ·rw[if_neg ei]
   by_cases ej:j=l
   ·rw[if_pos ej,if_neg (by omega)];exact a2 i (by omega)
   ·rw[if_neg ej]
    by_cases hi2:l<i∧i≤k
    ·rw[if_pos hi2,if_pos ⟨by omega,by omega⟩];exact u _ _ (by omega) (by omega)
    ·rw[if_neg hi2]
     by_cases hj2:l<j∧j≤k
     ·rw[if_pos hj2]
      by_cases e3:i=j-1
      ·omega
      ·exact u i (j-1) (by omega) (by omega)
     ·rw[if_neg hj2];exact u i j hij (by omega)
theorem iW{p:Array Nat}(r:Row n p):∀(fuel m:Nat),1≤m→m+fuel≤n→path f n (kas_asc p fuel m)
 |0,m,_,_=>trivial
 |fuel+1,m,h1,hm=>by
  refine⟨r.lt (by omega),r.lt (by omega),?_⟩;show path f n (if f (p.getD m 0) (p.getD (m-1) 0)=true then KasT.ret m else kas_asc p fuel (m+1))
  split
  ·exact trivial
  ·exact iW r fuel (m+1) (by omega) (by omega)
theorem jN(O:Ord f n){p:Array Nat}(r:Row n p):∀(fuel m:Nat),1≤m→m+fuel≤n→path f n (kas_desc fuel p m 0)
 |0,m,_,_=>trivial
 |fuel+1,m,h1,hm=>by
  refine⟨r.lt (by omega),r.lt (by omega),?_⟩;show path f n (if f (p.getD m 0) (p.getD (m-1) 0)=true then (if 0>0 then _ else kas_desc fuel p (m+1) 0)else KasT.ask (p.getD (m-1) 0) (p.getD m 0) λd=>if d=true then .ret (p,m,0)else kas_desc fuel p (m+1) (0+1))
  cases e:f (p.getD m 0) (p.getD (m-1) 0)with
  |true =>
   rw[if_pos rfl,if_neg (by omega)];exact jN O r fuel (m+1) (by omega) (by omega)
  |false =>
   rw[if_neg (by simp)];have e2:f (p.getD (m-1) 0) (p.getD m 0)=true:=by
    rcases O.tot _ _ (r.lt (i:=m) (by omega)) (r.lt (i:=m-1) (by omega)) (r.ne (by omega) (by omega) (by omega))with z|z
    ·rw[e]at z;cases z
    ·exact z
   refine⟨r.lt (by omega),r.lt (by omega),?_⟩;dsimp only;rw[e2,if_pos rfl];exact trivial
theorem nV(O:Ord f n){p:Array Nat}(r:Row n p)(h2:1≤n):path f n (kas_count n p):=by
 obtain⟨a1,a2,a3,a4⟩:=kx O r (n-1) 1 (by omega) (by omega) (by intro i j hij hj;omega);unfold kas_count;refine cR (iW r _ _ (by omega) (by omega)) ?_;generalize run f (kas_asc p (n-1) 1)=m at a1 a2 a3 a4⊢
 by_cases e:m=n
 ·rw[if_pos (by simp[e])];exact trivial
 ·rw[if_neg (by simpa using e)]
  by_cases e1:m>1
  ·rw[if_pos e1];refine⟨r.lt (by omega),r.lt (by omega),?_⟩;dsimp only;rw[a3 0 (m-1) (by omega) (by omega),if_pos rfl];exact trivial
  ·rw[if_neg e1];have em:m=1:=by omega
   subst em;have hd:=a4 (by omega);unfold kas_descPart;refine cR (jN O r _ _ (by omega) (by omega)) ?_;obtain⟨m',b1,b2,b3,b4⟩:=ky O r (n-(1+1)) (1+1) (by omega) (by omega) (by
    intro i j hij hj;have:i=0∧j=1:=by omega
    rw[this.1,this.2];exact hd)
   rw[b1];dsimp only;rw[if_neg (by omega)];unfold kas_tail3;exact cR (iW (r.rev 0 m') _ _ (by omega) (by omega)) trivial
theorem fw{p:Array Nat}(r:Row n p){k:Nat}(hk:k<n):∀(fuel l r':Nat),r'≤k→path f n (kas_place p k fuel l r')
 |0,l,r',_=>trivial
 |fuel+1,l,r',h=>by
  unfold kas_place
  by_cases e:l≥r'
  ·rw[if_pos e];exact trivial
  ·rw[if_neg e];refine⟨r.lt hk,r.lt (by omega),?_⟩;dsimp only
   split
   ·exact fw r hk fuel _ _ (by omega)
   ·exact fw r hk fuel _ _ h
theorem lZ(O:Ord f n):∀(fuel:Nat)(p:Array Nat)(k:Nat),Row n p→k+fuel=n→Up f p k→path f n (kas_bin fuel p k)
 |0,p,k,r,hk,u=>trivial
 |fuel+1,p,k,r,hk,u=>by
  have hkn:k<n:=by omega
  show path f n ((kas_place p k k 0 k).bind λl=>kas_bin fuel (bubble p k (k-l)) (k+1));refine cR (fw r hkn _ _ _ (le_refl _)) ?_;obtain⟨a1,a2,a3⟩:=gF O r hkn u k 0 k (by omega) (by omega) (le_refl _) (λi hi=>by omega) (λi h1 h2=>by omega);generalize run f (kas_place p k k 0 k)=l at a1 a2 a3⊢;have hs:=r.size;refine lZ O fuel _ (k+1) (r.bub _ _) (by omega) ?_;intro i j hij hj;rw[ix (by omega) a1 i,ix (by omega) a1 j]
  by_cases ei:i=l
  ·rw[if_pos ei,if_neg (by omega),if_pos ⟨by omega,by omega⟩];exact a3 (j-1) (by omega) (by omega)
  ·rw[if_neg ei]
   by_cases ej:j=l
   ·rw[if_pos ej,if_neg (by omega)];exact a2 i (by omega)
   ·rw[if_neg ej]
    by_cases hi2:l<i∧i≤k
    ·rw[if_pos hi2,if_pos ⟨by omega,by omega⟩];exact u _ _ (by omega) (by omega)
    ·rw[if_neg hi2]
     by_cases hj2:l<j∧j≤k
     ·rw[if_pos hj2]
      by_cases e3:i=j-1
      ·omega
      ·exact u i (j-1) (by omega) (by omega)
     ·rw[if_neg hj2];exact u i j hij (by omega)
theorem qz(O:Ord f n)(h:1≤n):path f n (kas_sort n):=by
 have r0:Row n (toArray (List.range n)):=⟨by simp⟩;obtain⟨m,p',e,h1,h2,r,u⟩:=lY O r0 h;unfold kas_sort;refine cR (nV O r0 h) ?_;rw[e];dsimp only
 by_cases hm:m<n
 ·rw[if_pos hm];have:max m 1=m:=by omega
  rw[this];exact lZ O (n-m) p' m r (by omega) u
 ·rw[if_neg hm];exact trivial
theorem uv(O:Ord f n)(h:1≤n):Row n (run f (kas_sort n))∧Up f (run f (kas_sort n)) n:=by
 have r0:Row n (toArray (List.range n)):=⟨by simp⟩;obtain⟨m,p',e,h1,h2,r,u⟩:=lY O r0 h;unfold kas_sort;rw[dy,e];dsimp only
 by_cases hm:m<n
 ·rw[if_pos hm];have:max m 1=m:=by omega
  rw[this];exact rN O (n-m) p' m r (by omega) u
 ·rw[if_neg hm];have:m=n:=by omega
  subst this;exact⟨r,u⟩
end
section
variable{prog:Program}{w:World}{A:Around}{E:Value→Shared→Prop}{s:Shared}
theorem uw{vs:List Value}(h:vs.length<2):((vs.toArray.zip vs.toArray).map (·.2)).toList=(toArray ((toArray (List.range vs.length)).toList.map λi=>vs.getD i Value.none)).toList:=by
 cases vs with
 |nil=>simp
 |cons v r =>
  cases r with
  |nil=>simp
  |cons u r=>exact absurd h (by simp)
theorem kG{f:Nat→Nat→Bool}{a:Addr}{vs:List Value}{n:Nat}{κ:SortKind}{P:PySem.Fin→Shared→Prop}(O:Ord f vs.length)(ho:s.heap.get? a=some (seqObj "list" vs.toArray n))(h64:vs.length<64)(hk:∀s':Shared,(∀b o,b≠a→s.heap.get? b=some o→s'.heap.get? b=some o)→∀Q:SortKind→Shared→Prop,2≤vs.length→Q κ s'→wpAny (model prog w) A (keyKind' vs.toArray) Q (λ_ _=>False) s')(hlt:∀s':Shared,(∀b o,b≠a→s.heap.get? b=some o→s'.heap.get? b=some o)→∀(i j:Nat) (C:Bool→Shared→Prop),i<vs.length→j<vs.length→C (f i j) s'→wpAny (model prog w) A (keyLt' κ (vs.getD i Value.none) (vs.getD j Value.none)) C (λ_ _=>False) s')(h:∀p:Array Nat,Row vs.length p→Up f p vs.length→P (.done (.ret .none)) {s with heap:=sortedHeap s.heap a vs (toArray (p.toList.map λi=>vs.getD i Value.none))}):
  wpAny (model prog w) A (Builtin.«list.sort» ⟨[.ref a],[]⟩) P E s:=by
 have ha:a<s.heap.objs.size:=lt_size ho;have s1:=SameBut.update s.heap a (Obj.mapSeq λ_=>(#[]:Array Value));obtain⟨e1,ho1⟩:∃e1,(s.heap.update a (Obj.mapSeq λ_=>(#[]:Array Value))).get? a=some (seqObj "list" #[] e1):=⟨_,get?_update_seq ho λ_=>#[]⟩;rw[list_sort_plain];refine wpAny_bind (listItems_at ho rfl ?_);refine wpAny_bind (listUpdate_at ho rfl ?_ (by rw[size_toArray,sizeLine_eq];omega) (zero_le _));refine wpAny_bind (seqEpoch_at ho1 rfl ?_);refine wpAny_bind (wpAny_newTuple ?_ (by show vs.length≤_;rw[sizeLine_eq];omega));refine wpAny_bind (wpAny_newList ?_ (zero_le _));refine wpAny_holding ?_;have ho6:(((s.heap.update a (Obj.mapSeq λ_=>(#[]:Array Value))).push (seqObj "tuple" vs.toArray 0)).push (seqObj "list" #[] 0)).get? a=some (seqObj "list" #[] e1):=get?_push_of_some _ (get?_push_of_some _ ho1);have keep:∀b o,b≠a→s.heap.get? b=some o→(((s.heap.update a (Obj.mapSeq λ_=>(#[]:Array Value))).push (seqObj "tuple" vs.toArray 0)).push (seqObj "list" #[] 0)).get? b=some o:=λb o hb e =>
  get?_push_of_some _ (get?_push_of_some _ ((s1.2 b hb).trans e))
 show wpAny (model prog w) A _ P E {s with heap:=((s.heap.update a (Obj.mapSeq λ_=>(#[]:Array Value))).push (seqObj "tuple" vs.toArray 0)).push (seqObj "list" #[] 0)}
 dsimp only
 by_cases hn2:vs.toArray.size<2
 ·rw[if_pos hn2,if_pos hn2];refine wpAny_bind (wpAny_pure ?_);rw[StateT.run_pure];refine wpAny_bind (wpAny_pure ?_);dsimp only;have hn2':vs.length<2:=by simpa using hn2
  have hr:Row vs.length (toArray (List.range vs.length)):=⟨by simp⟩;have hu:Up f (toArray (List.range vs.length)) vs.length:=λi j hij hj=>by omega
  have e2:(arrOf (SortSt.mk' general' (vs.toArray.zip vs.toArray) #[] 7 none)).map (·.2)=toArray ((toArray (List.range vs.length)).toList.map λi=>vs.getD i Value.none):=by
   show(vs.toArray.zip vs.toArray).map (·.2)=_;apply Array.toList_inj.mp;exact uw hn2'
  refine wpAny_bind (seqEpoch_at ho6 rfl ?_);rw[e2];refine wpAny_bind (listUpdate_at ho6 rfl ?_ (zero_le _) (by rw[size_toArray,length_map,length_toList,hr.size,sizeLine_eq];omega));show wpAny _ _ (if (e1 != e1)=true then _ else _) _ _ _
  simp only[bne_self_eq_false,false_eq_true,if_false];exact wpAny_pure (h _ hr hu)
 ·have hn2':2≤vs.length:=by rw[size_toArray]at hn2;omega
  rw[if_neg hn2,if_neg hn2];refine wpAny_bind (wpAny_mono (hk {s with heap:=((s.heap.update a (Obj.mapSeq λ_=>(#[]:Array Value))).push (seqObj "tuple" vs.toArray 0)).push (seqObj "list" #[] 0)} keep (λk' s'=>k'=κ∧s'={s with heap:=((s.heap.update a (Obj.mapSeq λ_=>(#[]:Array Value))).push (seqObj "tuple" vs.toArray 0)).push (seqObj "list" #[] 0)}) hn2' ⟨rfl,rfl⟩) (λκ' s0 hes=>?_) λ_ _ x=>x.elim)
  obtain⟨ek,es⟩:=hes;subst ek es;obtain⟨hrow,hup⟩:=uv O (by omega:1≤vs.length);refine wpAny_bind (wpAny_mono (kat_run (Q:=λst' s'=>∃p:Array Nat,p.size=vs.length∧arrOf st'=p.map (kas_item (vs.toArray.zip vs.toArray))∧failedOf st'=none∧p=run f (kas_sort vs.length)∧s'={s with heap:=((s.heap.update a (Obj.mapSeq λ_=>(#[]:Array Value))).push (seqObj "tuple" vs.toArray 0)).push (seqObj "list" #[] 0)})
   rfl hn2' h64 (λp' st' s' a1 a2 a3 a4=>⟨p',a1,a2,a3,a4⟩) (pw (n:=vs.length) (λi j C hi hj hC=>hlt _ keep i j C hi hj hC) (λp s'=>p=run f (kas_sort vs.length)∧s'={s with heap:=((s.heap.update a (Obj.mapSeq λ_=>(#[]:Array Value))).push (seqObj "tuple" vs.toArray 0)).push (seqObj "list" #[] 0)}) _ (qz O (by omega)) ⟨rfl,rfl⟩)) ?_ λ_ _ e=>e)
  rintro⟨⟨⟩,st'⟩ s' ⟨p,hp,har,hf,ep,es⟩;subst es;dsimp only;have hout:=kat_snds (ks:=vs) rfl har;refine wpAny_bind (seqEpoch_at ho6 rfl ?_);rw[hout];refine wpAny_bind (listUpdate_at ho6 rfl ?_ (zero_le _) (by rw[size_toArray,length_map,length_toList,hp,sizeLine_eq];omega));rw[hf];simp only[bne_self_eq_false,false_eq_true,if_false];rw[ep];exact wpAny_pure (h _ hrow hup)
theorem ma{l:Addr}{vs:List Value}{Q:List Value→Shared→Prop}(hl:IsTup s.heap l vs.toArray)(h:Q vs {s with heap:=(s.heap.push (seqObj "list" #[] 0)).update s.heap.objs.size (Obj.mapSeq (· ++ vs.toArray))})(hsz:vs.length≤sizeLine):
  wpAny (model prog w) A (collect (.ref l)) Q E s:=by
 obtain⟨o,ho,hc,n,hd⟩:=id hl;unfold collect;refine wpAny_bind (wpAny_runValue (codeAny_builtin entry_proto_collect' ?_));show wpAny _ _ (do again (.builtin "list.__iadd__" ⟨[←newList [],.ref l],[]⟩)) _ _ s
 refine wpAny_bind (wpAny_newList (wpAny_pure ⟨Code.quiet_builtin _ (by decide +kernel),codeAny_builtin entry_list_iadd' ?_⟩));show wpAny _ _ (Builtin.List.listExtendWith (.ref s.heap.objs.size) (.ref l) (.ref s.heap.objs.size)) _ _ {s with heap:=s.heap.push (seqObj "list" #[] 0)}
 unfold Builtin.List.listExtendWith;have ho':(s.heap.push (seqObj "list" #[] 0)).get? l=some o:=get?_push_of_some _ ho;refine wpAny_bind (wpAny_typeOf (T:="tuple") ⟨o,ho',hc⟩ ?_);have ht:(type "tuple"==type "tuple")=true:=by rfl
 rw[if_pos (by rw[ht];simp)];refine wpAny_bind (listItems_at ho' hd ?_);refine wpAny_bind (listItems_at (xs:=#[]) (n:=0) (get?_push_size _ rfl) rfl ?_);rw[if_neg (by simp)];refine wpAny_bind (listUpdate_at (xs:=#[]) (n:=0) (get?_push_size _ rfl) rfl ?_ (zero_le _) (by show(#[]++vs.toArray).size≤sizeLine+1;simp only[Array.size_append,size_toArray,length_nil];omega));refine wpAny_pure ?_;show wpAny (model prog w) A (do
   let o ← load s.heap.objs.size
   match o.data with
   |.seq xs _=>pure xs.toList
   | _=>unsupported "internal:collect") Q E {s with heap:=(s.heap.push (seqObj "list" #[] 0)).update s.heap.objs.size (Obj.mapSeq (· ++ vs.toArray))}
 refine wpAny_bind (wpAny_load (get?_update_seq (get?_push_size _ rfl) _) ?_);show wpAny _ _ (pure ((#[]:Array Value)++vs.toArray).toList) Q E _;rw[show((#[]:Array Value)++vs.toArray).toList=vs by simp];exact wpAny_pure h
theorem mf{l:Addr}{vs:List Value}{Q:List Value→Shared→Prop}(hl:s.heap.IsList l vs.toArray∨IsTup s.heap l vs.toArray)(h:Q vs {s with heap:=(s.heap.push (seqObj "list" #[] 0)).update s.heap.objs.size (Obj.mapSeq (· ++ vs.toArray))})(hsz:vs.length≤sizeLine):
  wpAny (model prog w) A (collect (.ref l)) Q E s:=by
 rcases hl with hl|hl
 ·exact collect_list hl h hsz
 ·exact ma hl h hsz
theorem iX{f:Nat→Nat→Bool}{l:Addr}{vs:List Value}{κ:SortKind}{Q:Value→Shared→Prop}(O:Ord f vs.length)(hl:s.heap.IsList l vs.toArray∨IsTup s.heap l vs.toArray)(h64:vs.length<64)(hk:∀(A':Around) (s':Shared),A'.units≤A.units+2→(∀b o,s.heap.get? b=some o→s'.heap.get? b=some o)→∀Q:SortKind→Shared→Prop,2≤vs.length→Q κ s'→wpAny (model prog w) A' (keyKind' vs.toArray) Q (λ_ _=>False) s')(hlt:∀(A':Around) (s':Shared),A'.units≤A.units+2→(∀b o,s.heap.get? b=some o→s'.heap.get? b=some o)→∀(i j:Nat) (C:Bool→Shared→Prop),i<vs.length→j<vs.length→C (f i j) s'→wpAny (model prog w) A' (keyLt' κ (vs.getD i Value.none) (vs.getD j Value.none)) C (λ_ _=>False) s')(h:∀(p:Array Nat) (h':Heap),Row vs.length p→Up f p vs.length→(∀b o,s.heap.get? b=some o→h'.get? b=some o)→s.heap.objs.size≤s.heap.objs.size+1→(∃k,h'.get? (s.heap.objs.size+1)=some (seqObj "list" (toArray (p.toList.map λi=>vs.getD i Value.none)) k))→Q (.ref (s.heap.objs.size+1)) {s with heap:=h'}):
  wpAny (model prog w) A (call (.builtin "sorted") [.ref l]) Q E s:=by
 refine Calls.call_function_entry kind_sorted plain_sorted entry_sorted (args_sorted1 _) ?_;unfold Builtin.«sorted»;refine wpAny_bind (m:=checkCount "sorted" 1 1 _) (wpAny_pure ?_);refine wpAny_bind (mf hl ?_ (by rw[sizeLine_eq];omega));refine wpAny_bind (wpAny_newList ?_ (by rw[sizeLine_eq];omega));have hsz:((s.heap.push (seqObj "list" #[] 0)).update s.heap.objs.size (Obj.mapSeq (· ++ vs.toArray))).objs.size=s.heap.objs.size+1:=by
  rw[Heap.size_update,size_push']
 have hoL:(((s.heap.push (seqObj "list" #[] 0)).update s.heap.objs.size (Obj.mapSeq (· ++ vs.toArray))).push (seqObj "list" vs.toArray 0)).get? (s.heap.objs.size+1)=some (seqObj "list" vs.toArray 0):=by
  rw[←hsz];exact get?_push_size _ rfl
 have keep:∀b o,s.heap.get? b=some o→(((s.heap.push (seqObj "list" #[] 0)).update s.heap.objs.size (Obj.mapSeq (· ++ vs.toArray))).push (seqObj "list" vs.toArray 0)).get? b=some o:=λb o q=>by
  have hlt:b<s.heap.objs.size:=lt_size q;rw[Heap.get?_push_ne _ _ _ (by rw[hsz];exact ne_of_lt (lt_succ_of_lt hlt)),Heap.get?_update_ne _ _ _ _ (ne_of_lt hlt),Heap.get?_push_ne _ _ _ (ne_of_lt hlt)];exact q
 have neD:∀b o,s.heap.get? b=some o→b≠s.heap.objs.size+1:=λb o q=>ne_of_lt (lt_succ_of_lt (lt_size q));show wpAny _ _ _ _ _ {s with heap:=((s.heap.push (seqObj "list" #[] 0)).update s.heap.objs.size (Obj.mapSeq (· ++ vs.toArray))).push (seqObj "list" vs.toArray 0)}
 rw[hsz];refine wpAny_bind (wpAny_holding (wpAny_call_entry slot_list_sort ⟨_,hoL,rfl⟩ entry_list_sort (kG (κ:=κ) (s:={s with heap:=((s.heap.push (seqObj "list" #[] 0)).update s.heap.objs.size (Obj.mapSeq (· ++ vs.toArray))).push (seqObj "list" vs.toArray 0)}) O hoL h64 ?_ ?_ λp hr hu=>⟨_,rfl,?_⟩) (args_list_sort _)))
 ·intro s' hs' Q' h2 hq;exact hk _ s' (by simp[Around.in1_units]) (λb o e=>hs' b o (neD b o e) (keep b o e)) Q' h2 hq
 ·intro s' hs' i j C hi hj hC;exact hlt _ s' (by simp[Around.in1_units]) (λb o e=>hs' b o (neD b o e) (keep b o e)) i j C hi hj hC
 ·refine wpAny_pure ⟨_,rfl,h p _ hr hu (λb o e=>?_) (le_succ _) ?_⟩
  ·unfold sortedHeap;rw[Heap.get?_update_ne _ _ _ _ (neD b o e)];refine get?_push_of_some _ (get?_push_of_some _ ?_);rw[Heap.get?_update_ne _ _ _ _ (neD b o e)];exact keep b o e
  ·unfold sortedHeap;obtain⟨e1,ho1⟩:∃e1,((((s.heap.push (seqObj "list" #[] 0)).update s.heap.objs.size (Obj.mapSeq (· ++ vs.toArray))).push (seqObj "list" vs.toArray 0)).update (s.heap.objs.size+1) (Obj.mapSeq λ_=>(#[]:Array Value))).get? (s.heap.objs.size+1)=some (seqObj "list" #[] e1):=⟨_,get?_update_seq hoL λ_=>#[]⟩;exact⟨_,get?_update_seq (get?_push_of_some _ (get?_push_of_some _ ho1)) _⟩
theorem qA{f:Nat→Nat→Bool}{l:Addr}{vs:List Value}{κ:SortKind}{Q:Value→Shared→Prop}(O:Ord f vs.length)(hl:s.heap.IsList l vs.toArray)(h64:vs.length<64)(hk:∀(A':Around) (s':Shared),A'.units≤A.units+2→(∀b o,s.heap.get? b=some o→s'.heap.get? b=some o)→∀Q:SortKind→Shared→Prop,2≤vs.length→Q κ s'→wpAny (model prog w) A' (keyKind' vs.toArray) Q (λ_ _=>False) s')(hlt:∀(A':Around) (s':Shared),A'.units≤A.units+2→(∀b o,s.heap.get? b=some o→s'.heap.get? b=some o)→∀(i j:Nat) (C:Bool→Shared→Prop),i<vs.length→j<vs.length→C (f i j) s'→wpAny (model prog w) A' (keyLt' κ (vs.getD i Value.none) (vs.getD j Value.none)) C (λ_ _=>False) s')(h:∀(p:Array Nat) (h':Heap),Row vs.length p→Up f p vs.length→(∀b o,s.heap.get? b=some o→h'.get? b=some o)→s.heap.objs.size≤s.heap.objs.size+1→(∃k,h'.get? (s.heap.objs.size+1)=some (seqObj "list" (toArray (p.toList.map λi=>vs.getD i Value.none)) k))→Q (.ref (s.heap.objs.size+1)) {s with heap:=h'}):
  wpAny (model prog w) A (call (.builtin "sorted") [.ref l]) Q E s:=iX O (.inl hl) h64 hk hlt h
end
end SRT
namespace L2
open PySem PySem.Spec PyProof.Rows
section
variable{X:Cx}{tg:Expr}
theorem iy:∀{bs:List Bool}{us:List Value},aB (bs.map V.bl) us→us=bs.map Value.bool
 |[],_,.nil=>rfl
 |b::bs,_,.cons r t=>by
  have e:_=Value.bool b:=r;rw[e,iy t];rfl
theorem iY(hc:X.calm=true):cn X (.builtin "all") (λxs H Q=>∃a,∃bs:List Bool,xs=[.ref a]∧SqL X.K H a (bs.map V.bl)∧Q (.bl (bs.all id)) H):=by
 intro pins s σ H xs us Q I r h;obtain⟨a,bs,rfl,hq,q⟩:=h;obtain⟨u,rfl,ru⟩:=ee r;cases ru;obtain⟨its,rv,pl,hz⟩:=I.list hq;have e:=iy rv;subst e;refine call_all_walk (wpAny_pyIter_list pl.isList ?_);have hlt:a<s.heap.objs.size:=by obtain⟨o,e,_⟩:=pl.isList;exact lt_size e
 have hne:a≠s.heap.objs.size:=ne_of_lt hlt;refine⟨s.heap.objs.size,_,_,_,_,_,λi=>bs.getD i false,rfl,Walks.list (by simp[I.ok.hd hc]) s.heap.objs.size a hne (bs.map Value.bool).toArray,⟨⟨_,get?_push_size _ rfl,rfl,rfl⟩,pl.isList.push _⟩,?_,?_⟩
 ·intro i v s' Q' E' hP hQ;have hP':(bs.map Value.bool)[i]?=some v:=by simpa using hP
  rw[getElem?_map]at hP';cases eb:bs[i]? with
  |none=>rw[eb]at hP';cases hP'
  |some b =>
   rw[eb]at hP';have ev:Value.bool b=v:=Option.some.inj hP';subst ev;refine wpAny_truthy_bool ?_;have hQ':Q' (bs.getD i false) s':=hQ;rw[getD_eq_getElem?_getD,eb]at hQ';exact hQ'
 ·intro h' tk hk;refine⟨.bl (bs.all id),H,I.kept (t':=tk) (λb o e=>hk b o (by simp only[mem_singleton];exact ne_of_lt (lt_size e)) (get?_push_of_some _ e)),?_,q⟩;have e1:((List.range (bs.map Value.bool).toArray.size).all λi=>bs.getD i false)=bs.all id:=by
   rw[size_toArray,length_map];rw[Bool.eq_iff_iff,all_eq_true,all_eq_true];constructor
   ·intro hh x hx;obtain⟨i,hi,e⟩:=mem_iff_getElem.mp hx;have:=hh i (mem_range.mpr hi);rw[getD_eq_getElem?_getD,getElem?_eq_getElem hi,e]at this;exact this
   ·intro hh i hi;have hi':=mem_range.mp hi;rw[getD_eq_getElem?_getD,getElem?_eq_getElem hi'];exact hh _ (getElem_mem hi')
  show _=Value.bool _;rw[e1]
theorem cA:cn X (.builtin "isinstance") (λxs H Q=>∃x n t b,xs=[x,.ty n]∧TyOf X.K H x t∧kitOne X.K t (.type n)=some b∧Q (.bl b) H):=by
 intro pins s σ H xs us Q I r h;obtain⟨x,n,t,b,rfl,ty,e,q⟩:=h;obtain⟨u,u',rfl,ru,ru'⟩:=oT r;cases (show u'=type n from ru');exact qh I ru ty e λtk=>⟨.bl b,H,I.tok tk,rfl,q⟩
def Its(x:Str):It:=⟨λi _=>i<x.cps.size,λi H v H'=>H'=H∧∃c,x.cps[i]?=some c∧v=.str ⟨#[c]⟩,λi _=>x.cps.size≤i⟩
theorem rO{P:Program}{w:World}{K:PySem.W.Frag}(x:Str)(t:Tok)(it:Addr):Turn P w K tg (Its x) [it] it (λi h=>h.IsStrIter it (strIterType x) x t i) where
 mem:=by simp
 obj:=λi h st b hb=>by
  have e:b=it:=by simpa using hb
  subst e;obtain⟨o,e,c,d⟩:=st;exact⟨o,e,λv z=>by rw[d]at z;cases z⟩
 keep:=λi h h' st k=>by
  obtain⟨o,e,r⟩:=st;exact⟨o,k it (by simp) o e,r⟩
 item:=by
  intro X hP hw hK hc i pins s σ H E I hf st hg;subst hP hw hK;obtain⟨f0,f1,f2,f3,f4,f5⟩:=hf it (by simp);have hg':i<x.cps.size:=hg;have fin:∀(h':Heap)(tk:Nat),h'.IsStrIter it (strIterType x) x t (i+1)→SameBut it s.heap h'→∃u',some (Value.str ⟨#[x.cps[i]]⟩ s.toks)=some u'∧wpAny (model X.prog X.w) X.A (letOwnedTupleGo tg (.ref it) u') (λ_ s2=>∃y H',Inv X pins σ H' s2∧aI y u'∧(Its x).yld i H y H'∧s2.heap.IsStrIter it (strIterType x) x t (i+1)∧∀b∈[it],H' b=none) E {s with heap:=h',toks:=tk}:=λh' tk st' sb=>by
   have I1:Inv X pins σ H {s with heap:=h',toks:=tk}:=I.turned (t':=tk) (λb o hb e=>(sb.2 b hb).trans e) f0 f1 f3 f4 f5
   obtain⟨o,e,c,d⟩:=id st';refine⟨_,rfl,lG (s:={s with heap:=h',toks:=tk}) e c d ?_ ⟨.str ⟨#[x.cps[i]]⟩,H,I1,⟨_,rfl⟩,⟨rfl,x.cps[i],by simp[hg'],rfl⟩,st',λb hb=>(hf b hb).1⟩⟩;unfold strIterType
   split<;>decide
  cases ha:x.cps.all (· < 128)with
  |true =>
   have et:strIterType x="str_ascii_iterator":=by simp[strIterType,ha]
   rw[et]at st fin⊢;exact wpAny_pyNext_ascii_item st (c:=x.cps[i]) (by simp[hg']) λh' st' sb=>fin h' _ st' sb
  |false =>
   have et:strIterType x="str_iterator":=by simp[strIterType,ha]
   rw[et]at st fin⊢;exact wpAny_pyNext_wide_item st (c:=x.cps[i]) (by simp[hg']) λh' st' sb=>fin h' _ st' sb
 done:=by
  intro X hP hw hK hc i pins s σ H E I hf st hg;subst hP hw hK;obtain⟨f0,f1,f2,f3,f4,f5⟩:=hf it (by simp);have hg':x.cps.size≤i:=hg;cases ha:x.cps.all (· < 128)with
  |true =>
   have et:strIterType x="str_ascii_iterator":=by simp[strIterType,ha]
   rw[et]at st;exact wpAny_pyNext_ascii_end (I.ok.hd hc) st (by simp[hg']) λh' eb=>⟨rfl,I.turned (t':=s.toks) (λb o hb e=>eb b o hb e) f0 f1 f3 f4 f5⟩
  |false =>
   have et:strIterType x="str_iterator":=by simp[strIterType,ha]
   rw[et]at st;exact wpAny_pyNext_wide_end (I.ok.hd hc) st (by simp[hg']) λh' eb=>⟨rfl,I.turned (t':=s.toks) (λb o hb e=>eb b o hb e) f0 f1 f3 f4 f5⟩
 self:=λA i s Q E st h=>by
  cases ha:x.cps.all (· < 128)with
  |true =>
   have et:strIterType x="str_ascii_iterator":=by simp[strIterType,ha]
   rw[et]at st;exact wpAny_pyIter_striter_ascii st h
  |false =>
   have et:strIterType x="str_iterator":=by simp[strIterType,ha]
   rw[et]at st;exact wpAny_pyIter_striter_wide st h
def zg(tl:TE):TI:=λσ H R=>tl σ H λv H1=>∃x,v=.str x∧R (Its x) H1
theorem rP{l:Expr}{tl:TE}(hl:PE X l tl):PI X tg l (zg tl):=by
 intro pins s σ H R I h;refine thn (hl pins s σ H _ I h) λv s1 hpt=>?_;obtain⟨y,H1,I1,r1,q1⟩:=hpt;obtain⟨x,e,q⟩:=q1;subst e;obtain⟨t,rfl⟩:=r1;refine wpAny_pyIter_strU ?_;refine⟨s1.heap.objs.size,[s1.heap.objs.size],_,_,H1,rfl,I1.kept (t':=s1.toks) λb o e=>get?_push_of_some _ e,rO x t _,⟨_,get?_push_size _ rfl,rfl,rfl⟩,λb hb=>?_,q⟩;have e:b=s1.heap.objs.size:=by simpa using hb
 subst e;exact I1.fpOk (le_refl _) (I1.hok.fresh (le_refl _))
theorem zh{pins:List (Addr×Obj)}{σ:St}{H:Hp}{s:Shared}{a:Addr}{ks:List Key}(I:Inv X pins σ H s)(h:H a=some (.tup (ks.map kV)))(P:Program)(w:World):IsTupleKey (aQ P w) s.heap ks a:=by
 obtain⟨_,its,r,o,e,c,n,d⟩:=I.hok a _ h;exact⟨o,its.toArray,n,e,c,d,by simpa using gW r⟩
theorem dz:∀{as:List Addr}{us:List Value},aB (as.map V.ref) us→us=as.map Value.ref
 |[],_,.nil=>rfl
 |b::bs,_,.cons r t=>by
  have e:_=Value.ref b:=r;rw[e,dz t];rfl
def kH(a:Addr)(n:Nat)(h:Heap):Prop:=∃o es ep t,h.get? a=some o∧o.ExactSet∧o.data=.set es ep t∧t.fits es.size=true∧es.size=n
theorem rQ(P:Program)(w:World):∀k v,(aQ P w).is k v=true→v.scannable=true:=λk v h=>by
 rcases aV h with⟨i,t,_,rfl⟩|⟨x,t,_,rfl⟩<;>rfl
theorem ju(hc:X.calm=true)(hu:X.A.units+4<cLine):cn X (.type "set") (λxs H Q=>∃p,∃kss:List (Addr×List Key),xs=[.ref p]∧SqL X.K H p ((kss.map (·.1)).map V.ref)∧(∀z∈kss,H z.1=some (.tup (z.2.map kV)))∧kss.length≤60 ∧
  ∀n,n≤kss.length→(n=kss.length↔(kss.map (·.2)).Nodup)→∀q,H q=none→Q (.ref q) (upd H q (.ext (kH q n)))):=by
 intro pins s σ H xs us Q I r h;obtain⟨p,kss,rfl,hq,hk,hl,q⟩:=h;obtain⟨u,rfl,ru⟩:=ee r;cases ru;obtain⟨its,rv,pl,hz⟩:=I.list hq;have e:=dz rv;subst e;have hsz:(((kss.map (·.1)).map Value.ref).toArray).size=kss.length:=by simp
 have hget:∀i,i<kss.length→kss.getD i (0,[])∈kss:=λi hi=>by
  rw[getD_eq_getElem?_getD,getElem?_eq_getElem hi];exact getElem_mem hi
 refine TB.ir (knd:=aQ X.prog X.w) (key:=λi=>(kss.getD i (0,[])).2) (ad:=λi=>(kss.getD i (0,[])).1) (I.ok.hd hc) hu (rQ _ _) pl.isList (λi v hv=>?_) (λi hi=>?_) (by rw[hsz];exact hl) λh' tk zs hS hzl hm hkeep=>?_
 ·have hv':((kss.map (·.1)).map Value.ref)[i]?=some v:=by simpa using hv
  rw[getElem?_map,getElem?_map]at hv';rw[getD_eq_getElem?_getD];cases ei:kss[i]? with
  |none=>rw[ei]at hv';cases hv'
  |some z=>rw[ei]at hv';exact(Option.some.inj hv').symm
 ·exact zh I (hk _ (hget i (by omega))) _ _
 ·rw[hsz]at hm hzl;have hcount:zs.length=kss.length↔(kss.map (·.2)).Nodup:=by
   have:=TB.lW (z:=zs.map (·.2.2)) (l:=kss.map (·.2)) hS.nd λk'=>by
    rw[hm k'];constructor
    ·rintro⟨j,hj,e⟩;rw[←e];exact mem_map.mpr ⟨_,hget j hj,rfl⟩
    ·intro h1;obtain⟨z,hz',e⟩:=mem_map.mp h1;obtain⟨j,hj,e2⟩:=mem_iff_getElem.mp hz';exact⟨j,hj,by rw[getD_eq_getElem?_getD,getElem?_eq_getElem hj,e2];exact e⟩
   rw[length_map,length_map]at this;exact this
  obtain⟨⟨o,es,ep,t,ho,hex,hd,hes,T,hmask,hfull,hpath⟩,_,_⟩:=hS;have hlen:es.size=zs.length:=by rw[←length_toList,hes,length_map]
  have hf:t.fits es.size=true:=TB.kw T (by rw[length_map,hlen]) (by rw[hlen];omega);refine⟨.ref s.heap.objs.size,_,I.laid (t':=tk) (o:=.ext (kH s.heap.objs.size zs.length)) (λb o e=>hkeep b o (lt_size e) e) (le_refl _) ⟨⟨o,es,ep,t,ho,hex,hd,hf,hlen⟩,⟨o,ho⟩,?_⟩,rfl,q zs.length hzl hcount _ (I.hok.fresh (le_refl _))⟩;rintro h1 h2 ⟨o,es,ep,t,a1,a2⟩ hh;exact⟨o,es,ep,t,hh o a1,a2⟩
theorem mh:cn X (.builtin "len") (λxs H Q=>∃p n,xs=[.ref p]∧H p=some (.ext (kH p n))∧n≤60∧Q (.int n) H):=by
 intro pins s σ H xs us Q I r h;obtain⟨p,n,rfl,hp,hn,q⟩:=h;obtain⟨u,rfl,ru⟩:=ee r;cases ru;obtain⟨⟨o,es,ep,t,ho,hex,hd,hf,hlen⟩,_,_⟩:=I.hok p _ hp;refine call_len_set ho hex hd hf (by rw[hlen];omega) ⟨.int n,H,I.tok _,?_,q⟩;rw[hlen];exact⟨_,rfl⟩
def ux:V→List V→Hp→VK→Prop:=λx vs H Q=>∃d kvs k y,x=.ref d∧vs=[kV k,y]∧H d=some (.dK kvs)∧kvs.length<sizeLine∧(∀v,aT kvs k=some v→Q v H)∧(aT kvs k=none→Q y (upd H d (.dK (ce kvs k y))))
theorem jv:MtM X "dict.setdefault" ux:=by
 intro pins s σ H x vs v us Q I rx rv h;obtain⟨d,kvs,k,y,rfl,rfl,hd,hz,q1,q2⟩:=h;cases rx;obtain⟨u,u',rfl,ru,ru'⟩:=rv.two;obtain⟨z,hs,ws,rel,dd⟩:=oX I.hok hd;have hzw:ws.length≤sizeLine:=by rw[←rel.length];exact z
 refine call_meetsIn F.slot_dict_setdefault dd.typeIs F.entry_dict_setdefault (F.args_dict_setdefault_3 _ _ _) (kt_meets_setdefault (aQ X.prog X.w) d (eY ru) hs u') ⟨ws,dd,hzw,λw' hw=>?_,λhw h' dd' sb=>?_⟩
 ·have:=rel.val k;rw[hw]at this;cases e:aT kvs k with
  |none=>rw[e]at this;cases this
  |some v =>
   rw[e]at this;exact⟨v,H,I.tok _,this,q1 v e⟩
 ·have:=rel.val k;rw[hw]at this;cases e:aT kvs k with
  |some v=>rw[e]at this;cases this
  |none =>
   have he:∃q,h'.get? d=some q:=let⟨q,_,_,hq,_⟩:=dd';⟨q,hq⟩;have hl:(ce kvs k y).length≤sizeLine:=by have:=dh kvs k y;omega
   exact⟨y,_,iw I (by rw[hd];exact True.intro) sb he (iL hl hs (rel.put k ru') dd'),ru',q2 e⟩
theorem qB:cn X (.type "range") (λxs H Q=>∃i j,xs=[.int i,.int j]∧∀p,H p=none→Q (.ref p) (upd H p (.rng i j))):=by
 intro pins s σ H xs us Q I r h;obtain⟨i,j,rfl,q⟩:=h;obtain⟨u,u',rfl,⟨t,rfl⟩,⟨t',rfl⟩⟩:=oT r;refine call_range_2 ⟨.ref s.heap.objs.size,_,I.laid (t':=s.toks+1) (o:=.rng i j) (λb ob q=>get?_push_of_some _ q) (le_refl _) ?_,rfl,q _ (I.hok.fresh (le_refl _))⟩;exact⟨t,t',_,get?_push_size _ rfl⟩
theorem nW{lo:Int}{n:Nat}{acc:Array Value}(h:ItemsOf (λi v=>∃t,v=.int (lo+i*1) t) acc n):aB ((List.range n).map λk=>V.int (lo+(k:Nat))) acc.toList:=by
 obtain⟨h1,h2⟩:=h;have key:∀(l:List Value)(k:Nat),(∀(i:Nat)(v:Value),l[i]?=some v→∃t,v=Value.int (lo+(k+i:Nat)) t)→aB ((List.range' k l.length).map λk=>V.int (lo+(k:Nat))) l:=by
  intro l
  induction l with
  |nil=>intro k _;exact .nil
  |cons v l ih =>
   intro k hv;rw[length_cons,List.range'_succ,map_cons];refine .cons ?_ (ih (k+1) λi w hw=>?_)
   ·obtain⟨t,e⟩:=hv 0 v rfl;exact⟨t,e⟩
   ·obtain⟨t,e⟩:=hv (i+1) w hw;exact⟨t,by rw[e,show k+(i+1)=k+1+i by omega]⟩
 have hl:acc.toList.length=n:=by simpa using h1
 have:=key acc.toList 0 λi v hv=>by
  have hv':acc[i]?=some v:=by simpa using hv
  obtain⟨t,e⟩:=h2 i v hv';exact⟨t,by rw[e,Int.mul_one,zero_add]⟩
 rw[hl]at this;rw[List.range_eq_range'];exact this
theorem jw(hc:X.calm=true):cn X (.type "list") (λxs H Q=>∃p i j,xs=[.ref p]∧H p=some (.rng i j)∧(-(2 ^ 62)≤i∧i<2 ^ 62∧-(2 ^ 62)≤j∧j<2 ^ 62)∧(j-i).toNat≤1000 ∧
  ∀l,H l=none→Q (.ref l) (upd H l (.lst ((List.range (j-i).toNat).map λk=>V.int (i+(k:Nat)))))):=by
 intro pins s σ H xs us Q I r h;obtain⟨p,i,j,rfl,hp,⟨b1,b2,b3,b4⟩,hn,q⟩:=h;obtain⟨u,rfl,rx⟩:=ee r;cases rx;obtain⟨t,t',t'',e⟩:=(show ba X.prog X.w H s.heap p (.rng i j)from I.hok p _ hp);have hsz:Builtin.Range.rangeSize i j 1=((j-i).toNat:Nat):=by rw[rangeSize_one];split<;>omega
 refine call_list_range (n:=(j-i).toNat) (I.ok.hd hc) e (small_one b1 b2 b3 b4) hsz (by omega) λh' tk acc c' kp hg hi=>?_;refine⟨.ref s.heap.objs.size,_,I.laid (t':=tk) kp (le_refl _) (show ba X.prog X.w _ h' _ (.lst _)from⟨?_,acc.toList,c',nW hi,by simpa using hg⟩),rfl,q _ (I.hok.fresh (le_refl _))⟩
 rw[length_map,length_range,sizeLine_eq];omega
theorem ml:OpR X (binaryOp .Add) (λx y H Q=>∃a b ys,x=.ref a∧y=.ref b∧SqT X.K H a []∧SqT X.K H b ys∧Q (.ref b) H):=by
 intro pins s σ H x y v u Q I rx ry h;obtain⟨a,b,ys,rfl,rfl,ha,hb,q⟩:=h;cases rx;cases ry;obtain⟨its,r1,ht,_⟩:=I.tuple ha;obtain⟨its2,r2,hb',_⟩:=I.tuple hb;cases r1;obtain⟨⟨cls,dd,data,sl⟩,ho,hc,n,hd⟩:=id ht;obtain⟨⟨cls2,dd2,data2,sl2⟩,ho2,hc2,n2,hd2⟩:=id hb';simp only at hc hd hc2 hd2;subst hc hd hc2 hd2;exact concat_meets ⟨_,ho,rfl⟩ ⟨_,ho2,rfl⟩ noFill_tuple_add seq_tuple_add slot_tuple_add entry_tuple_add (args_tuple_add_2 _ _)
  (tuple_addW0 a b _ its2.toArray n n2 dd dd2 sl sl2 (by rfl)) ⟨ho,ho2,⟨.ref b,H,I,rfl,q⟩⟩
theorem gG{prog:Program}{w:World}{A:Around}{E:Value→Shared→Prop}{s:Shared}{t sl:Addr}{items:Array Value}{vl vu:Value}{lo hi:Option Int}{Q:Value→Shared→Prop}(ht:IsTup s.heap t items)(hs:s.heap.IsSliceOf sl vl vu .none)(pl:IsPart vl lo)(pu:IsPart vu hi)(hw:HT.sIx items.size 0 lo=0∧HT.sIx items.size items.size hi=items.size)(h:Q (.ref t) s):wpAny (model prog w) A (getItem (.ref t) (.ref sl)) Q E s:=by
 obtain⟨os,hos,hcs,hds⟩:=id hs;have hTs:s.TypeIs (.ref sl) "slice":=⟨os,hos,hcs⟩;unfold getItem
 try with_reducible refine wpAny_holding ?_
 first|refine wpAny_bind (wpAny_pure ?_)|skip
 refine wpAny_bind (wpAny_sequenceKey ht.typeIs (by decide) ?_);refine wpAny_bind (wpAny_callSpecial?_slot (name:=ofString "__getitem__") ht.typeIs PyProof.Rows.slot_tuple_getitem
  (wpAny_call_entry PyProof.Rows.slot_tuple_getitem ht.typeIs entry_tuple_getitem ?_ (args_tuple_getitem _ _)))
 show wpAny _ _ (Builtin.Tuple.tupleItemsOf (.ref t) >>= _) _ _ s;refine wpAny_bind (tupleItemsOf_ ht ?_);refine wpAny_bind (wpAny_typeOf hTs ?_);rw[if_pos (by decide)];refine wpAny_bind (HT.dw hs pl pu ?_);have hyes:((((HT.sIx items.size 0 lo:Nat):Int)==0&&(1:Int)==1&&(HT.sIx items.size items.size hi-HT.sIx items.size 0 lo)==items.size)=true):=by
  rw[hw.1,hw.2];simp
 show wpAny _ _ (if (((HT.sIx items.size 0 lo:Nat):Int)==0&&(1:Int)==1&&(HT.sIx items.size items.size hi-HT.sIx items.size 0 lo)==items.size)=true then _ else _) _ _ s
 rw[if_pos hyes];refine wpAny_bind ?_;unfold Builtin.Tuple.tupleIsExact;refine wpAny_bind (wpAny_typeOf ht.typeIs (wpAny_pure ?_));rw[if_pos (by decide)];exact wpAny_bind (wpAny_rule (wpAny_pure ⟨_,rfl,wpAny_pure h⟩))
theorem nX:SlR X (λx lo hi H Q=>∃a xs,x=.ref a∧SqT X.K H a xs∧HT.sIx xs.length 0 lo=0∧HT.sIx xs.length xs.length hi=xs.length∧Q (.ref a) H):=by
 intro pins s σ H x v vl vu lo hi sl Q I rx hs pl pu h;obtain⟨a,xs,rfl,hx,h1,h2,q⟩:=h;cases rx;obtain⟨its,r,ht,hz⟩:=I.tuple hx;have hlen:its.toArray.size=xs.length:=by rw[size_toArray];exact r.length.symm
 exact⟨"tuple",_,PyProof.Rows.slot_tuple_getitem.lookup,ht.typeIs,gG ht hs pl pu (by rw[hlen];exact⟨h1,h2⟩) ⟨.ref a,H,I,rfl,q⟩⟩
theorem nY(hu:X.A.units<cLine):OpR X (compareOp .Eq) (λx y H Q=>∃a b xs,x=.ref a∧y=.ref b∧SqL X.K H a xs∧SqL X.K H b []∧Q (.bl (decide (xs=[]))) H):=by
 intro pins s σ H x y v u Q I rx ry h;obtain⟨a,b,xs,rfl,rfl,ha,hb,q⟩:=h;cases rx;cases ry;obtain⟨its,r1,ht,_⟩:=I.list ha;obtain⟨its2,r2,hb',_⟩:=I.list hb;cases r2
 by_cases e:xs=[]
 ·subst e;cases r1;refine eq_listAt (e:=λ_=>true) ht.isList hb'.isList rfl hu (λj h1 h2=>absurd h2 (by simp)) ⟨.bl _,H,I,?_,q⟩;rfl
 ·have e2:its≠[]:=λz=>e (r1.nil_iff.mp z);have e3:its.length≠0:=λz=>e2 (List.length_eq_zero_iff.mp z);refine SeqAt.eq_list_lengthsAt ht.isList hb'.isList (by simp[e3]) hu ⟨.bl _,H,I,?_,q⟩;show _=Value.bool _;simp[e]
theorem qC(hu:X.A.units<cLine):OpR X (compareOp .NotEq) (λx y H Q=>∃a b,∃xs ys:List Bool,x=.ref a∧y=.ref b∧SqL X.K H a (xs.map V.bl)∧SqL X.K H b (ys.map V.bl)∧xs=ys∧Q (.bl false) H):=by
 intro pins s σ H x y v u Q I rx ry h;obtain⟨a,b,xs,ys,rfl,rfl,ha,hb,rfl,q⟩:=h;cases rx;cases ry;obtain⟨its,r1,ht,_⟩:=I.list ha;obtain⟨its2,r2,hb',_⟩:=I.list hb;have e1:=iy r1;have e2:=iy r2;subst e1 e2;refine RcNeAt.lists (e:=λ_=>true) ht.isList hb'.isList rfl hu (λj h1 h2=>?_) _ _ _ _ ⟨.bl false,H,I,?_,q⟩
 ·have hj:j<xs.length:=by simpa using h1
  simp only[List.getElem_toArray,getElem_map];have:=EqAt.bool_bool (A:=X.A.in1) (s:=s) (xs[j]'hj) (xs[j]'hj);rw[beq_self_eq_true]at this;exact this
 ·show _=Value.bool false;simp
end
end L2
namespace ZT
open PySem PySem.SeqAt
section
variable{prog:Program}{w:World}{A:Around}{E:Value→Shared→Prop}{s:Shared}
theorem fG{it t:Addr}{i:Nat}{items:Array Value}{x:Value}{Q:Value→Shared→Prop}(hi:s.heap.IsTupleIter it t i)(ht:s.heap.IsTuple t items)(hx:items[i]?=some x)(q:∀g,g.IsTupleIter it t (i+1)→SameBut it s.heap g→Q x {s with heap:=g}):wpAny (model prog w) A (Builtin.SmallTypes.nextOf (.ref it)) Q E s:=by
 obtain⟨oi,e1,e2,e3⟩:=id hi;obtain⟨ot,e4,_,k,e5⟩:=ht;unfold Builtin.SmallTypes.nextOf;refine wpAny_bind (wpAny_callSpecial?_slot (name:=ofString "__next__") hi.typeIs F.slot_tuple_iterator_next (wpAny_call_entry F.slot_tuple_iterator_next hi.typeIs F.entry_tuple_iterator_next ?body (F.args_tuple_iterator_next_1 _)))
 case body =>
  refine wpAny_bind (m:=field (.ref it) 0) (wpAny_field e1 e3 (x:=.ref t) rfl ?_);rw[if_neg (show ¬((Value.ref t==Value.none)=true)by simp)];refine wpAny_bind (m:=field (.ref it) 1) (wpAny_field e1 e3 (x:=.int i 0) rfl ?_);refine wpAny_bind (m:=seqItems? (.ref t)) (wpAny_seqItems e4 e5 ?_);simp only[toNat_natCast,hx];have up:(Obj.mapFields (·.setIfInBounds 1 (rawInt ((i:Int)+1))) oi).data=.fields #[.ref t,.int ((i+1:Nat):Int) 0]:=by rw[Obj.data_mapFields e3];simp[rawInt]
  exact wpAny_bind (wpAny_setField e1 e3 (by simp) (wpAny_pure ⟨x,rfl,wpAny_pure (q _ ⟨_,Heap.get?_update_self _ e1 (Obj.isFreed_of_fields (Obj.data_mapFields e3 _)),(Obj.cls_mapFields ..).trans e2,up⟩ (SameBut.update ..))⟩))
theorem jO{it t:Addr}{i:Nat}{items:Array Value}{Q:Value→Shared→Prop}(hh:A.handled=none)(hi:s.heap.IsTupleIter it t i)(ht:s.heap.IsTuple t items)(hx:items[i]?=none)(q:∀g e,ExtBut it s.heap g→(∃o,g.get? e=some o∧o.cls=.type "StopIteration")→E (.ref e) {s with heap:=g}):wpAny (model prog w) A (Builtin.SmallTypes.nextOf (.ref it)) Q E s:=by
 obtain⟨oi,e1,e2,e3⟩:=id hi;obtain⟨ot,e4,_,k,e5⟩:=ht;unfold Builtin.SmallTypes.nextOf;refine wpAny_bind (wpAny_callSpecial?_slot (name:=ofString "__next__") hi.typeIs F.slot_tuple_iterator_next (wpAny_call_entry F.slot_tuple_iterator_next hi.typeIs F.entry_tuple_iterator_next ?body (F.args_tuple_iterator_next_1 _)))
 case body =>
  refine wpAny_bind (m:=field (.ref it) 0) (wpAny_field e1 e3 (x:=.ref t) rfl ?_);rw[if_neg (show ¬((Value.ref t==Value.none)=true)by simp)];refine wpAny_bind (m:=field (.ref it) 1) (wpAny_field e1 e3 (x:=.int i 0) rfl ?_);refine wpAny_bind (m:=seqItems? (.ref t)) (wpAny_seqItems e4 e5 ?_);simp only[toNat_natCast,hx];refine wpAny_bind (wpAny_rule (wpAny_bind (wpAny_setField e1 e3 (by simp) ?_)));refine wpAny_bind (m:=newExc (.type "StopIteration") []) ?_;unfold newExc newTuple;refine wpAny_bind (wpAny_newObj_type (hd:=by size_fits) ?_);refine wpAny_bind (m:=firstArgMember _ _) (wpAny_of_eq (a:=Value.none) (by first|rfl|(unfold firstArgMember;rfl)) (wpAny_newObj_type (hd:=by size_fits) ?_))
  unfold raiseNew;refine wpAny_bind (wpAny_handled ?_)
  first|rw[show A.in1.handled=none from hh]|rw[hh]
  exact wpAny_bind (wpAny_pure (wpAny_throw (q _ _ (((SameBut.update ..).extBut.push _).push _) ⟨_,get?_push_size _ rfl,rfl⟩)))
structure Rec(h:Heap)(z a b i1 i2 t1 t2:Addr)(out:Value)(k:Nat):Prop where
 zz:IsZip h z a b out
 ti:IsPair h a (.ref i1) (.ref i2)
 to:∃u v,IsPair h b u v
 n1:h.IsTupleIter i1 t1 k
 n2:h.IsTupleIter i2 t2 k
structure Apart(z a b i1 i2 t1 t2:Nat):Prop where
 az:a≠z
 bz:b≠z
 z1:i1≠z
 z2:i2≠z
 ab:a≠b
 a1:a≠i1
 a2:a≠i2
 b1:b≠i1
 b2:b≠i2
 d12:i1≠i2
 tz:t1≠z∧t2≠z
 tb:t1≠b∧t2≠b
 t1n:t1≠i1∧t2≠i1
 t2n:t1≠i2∧t2≠i2
theorem rR(n t1 t2:Nat)(h1:t1<n)(h2:t2<n):Apart (n+4) (n+2) (n+3) n (n+1) t1 t2 :=
 ⟨by omega,by omega,by omega,by omega,by omega,by omega,by omega,by omega,by omega,by omega,⟨by omega,by omega⟩,⟨by omega,by omega⟩,⟨by omega,by omega⟩,⟨by omega,by omega⟩⟩
theorem qD{z a b i1 i2 t1 t2:Addr}{k:Nat}{xs ys:Array Value}{x y:Value}{Q:Value→Shared→Prop}(D:Apart z a b i1 i2 t1 t2)(R:Rec s.heap z a b i1 i2 t1 t2 .none k)(h1:s.heap.IsTuple t1 xs)(h2:s.heap.IsTuple t2 ys)(hx:xs[k]?=some x)(hy:ys[k]?=some y)(q:∀g,Rec g z a b i1 i2 t1 t2 (rawInt s.heap.objs.size) (k+1)→IsPair g s.heap.objs.size x y→(∀c o,c≠z→c≠b→c≠i1→c≠i2→s.heap.get? c=some o→g.get? c=some o)→Q (.ref s.heap.objs.size) {s with heap:=g}):
  wpAny (model prog w) A (Builtin.«zip.__next__» ⟨[.ref z],[]⟩) (λfin s'=>∃v,fin=.done (.ret v)∧Q v s') E s:=by
 obtain⟨hz,hti,⟨u,v,hto⟩,n1,n2⟩:=R;refine wpAny_bind (m:=field (.ref z) 2) (wpAny_field hz rfl (x:=.bool false) rfl ?_);refine wpAny_bind (m:=field (.ref z) 3) (wpAny_field hz rfl (x:=.ref a) rfl ?_);refine wpAny_bind (m:=seqItems? (.ref a)) (wpAny_seqItems hti rfl ?_);refine wpAny_bind (m:=Builtin.SmallTypes.ownedTupleIsFree (.ref z)) ?_;unfold Builtin.SmallTypes.ownedTupleIsFree;refine wpAny_bind (wpAny_field hz rfl (x:=.none) rfl (wpAny_pure ?_));simp only[if_true];refine wpAny_bind (wpAny_rule (wpAny_bind (wpAny_field hz rfl (x:=.ref b) rfl (wpAny_bind (wpAny_setField_rec hz (by simp) λg1 z1 s1=>?_)))));have z1':IsZip g1 z a b .ellipsis:=z1;refine wpAny_bind ?_;simp only[List.zipIdx_cons,List.zipIdx_nil,forIn_cons,forIn_nil];refine wpAny_bind (wpAny_bind (wpAny_onRaise (wpAny_bind (m:=Builtin.SmallTypes.nextOf (.ref i1)) (fG (n1.extBut s1.extBut D.z1) (h1.extBut s1.extBut D.tz.1) hx λg2 m1 s2=>wpAny_pure ?_))));have to2:IsPair g2 b u v:=s2.extBut _ _ D.b1 (s1.extBut _ _ D.bz hto);refine wpAny_bind (wpAny_seqItems to2 rfl (wpAny_bind (wpAny_updateSeq_pair to2 λg3 to3 s3=>wpAny_bind (wpAny_letGo (wpAny_pure ?_)))));have to3':IsPair g3 b x v:=to3;refine wpAny_bind (wpAny_bind (wpAny_onRaise (wpAny_bind (m:=Builtin.SmallTypes.nextOf (.ref i2)) (fG (((n2.extBut s1.extBut D.z2).extBut s2.extBut D.d12.symm).extBut s3.extBut D.b2.symm)
  (((h2.extBut s1.extBut D.tz.2).extBut s2.extBut D.t1n.2).extBut s3.extBut D.tb.2) hy λg4 m2 s4=>wpAny_pure ?_))))
 have to4:IsPair g4 b x v:=s4.extBut _ _ D.b2 to3';refine wpAny_bind (wpAny_seqItems to4 rfl (wpAny_bind (wpAny_updateSeq_pair to4 λg5 to5 s5=>wpAny_bind (wpAny_letGo (wpAny_pure (wpAny_pure ?_))))));have to5':IsPair g5 b x y:=to5;refine wpAny_bind (wpAny_seqItems to5' rfl (wpAny_bind (wpAny_newTuple ?_)));have size5:g5.objs.size=s.heap.objs.size:=by rw[s5.1,s4.1,s3.1,s2.1,s1.1]
 have keep5:∀c o,c≠z→c≠b→c≠i1→c≠i2→s.heap.get? c=some o→g5.get? c=some o:=λc o c1 c2 c3 c4 e=>s5.extBut _ _ c2 (s4.extBut _ _ c4 (s3.extBut _ _ c2 (s2.extBut _ _ c3 (s1.extBut _ _ c1 e))));have z5:IsZip g5 z a b .ellipsis:=s5.extBut _ _ D.bz.symm (s4.extBut _ _ D.z2.symm (s3.extBut _ _ D.bz.symm (s2.extBut _ _ D.z1.symm z1')));have m15:g5.IsTupleIter i1 t1 (k+1):=((m1.extBut s3.extBut D.b1.symm).extBut s4.extBut D.d12).extBut s5.extBut D.b1.symm;have m25:g5.IsTupleIter i2 t2 (k+1):=m2.extBut s5.extBut D.b2.symm;have ti5:IsPair g5 a (.ref i1) (.ref i2):=keep5 _ _ D.az D.ab D.a1 D.a2 hti;refine wpAny_bind (m:=Builtin.SmallTypes.ownedTupleHandOut (.ref z) (.ref g5.objs.size)) ?_;unfold Builtin.SmallTypes.ownedTupleHandOut;have z6:IsZip (g5.push {cls:=.type "tuple",data:=.seq #[x,y]}) z a b .ellipsis:=get?_push_of_some _ z5;refine wpAny_bind (wpAny_setField_rec z6 (by simp) λg7 z7 s7=>?_);have z7':IsZip g7 z a b (rawInt g5.objs.size):=z7;refine wpAny_setField_rec z7' (by simp) λg8 z8 s8=>?_;have z8':IsZip g8 z a b (rawInt g5.objs.size):=z8;have up:∀c o,c≠z→g5.get? c=some o→g8.get? c=some o:=λc o c1 e=>s8.extBut _ _ c1 (s7.extBut _ _ c1 (get?_push_of_some _ e));have nz:g5.objs.size≠z:=ne_of_gt (lt_size z5);have new8:IsPair g8 g5.objs.size x y:=s8.extBut _ _ nz (s7.extBut _ _ nz (get?_push_size _ rfl));rw[size5]at z8' new8;refine wpAny_pure ⟨_,rfl,?_⟩;show Q (.ref g5.objs.size) _;rw[size5];exact q g8 ⟨z8',up _ _ D.az ti5,⟨_,_,up _ _ D.bz to5'⟩,(let⟨o,e,r⟩:=m15;⟨o,up _ o D.z1 e,r⟩),(let⟨o,e,r⟩:=m25;⟨o,up _ o D.z2 e,r⟩)⟩ new8 λc o c1 c2 c3 c4 e=>up c o c1 (keep5 c o c1 c2 c3 c4 e)
theorem rS{z a b i1 i2 t1 t2:Addr}{k:Nat}{xs ys:Array Value}{Q:PySem.Fin→Shared→Prop}(hh:A.handled=none)(D:Apart z a b i1 i2 t1 t2)(R:Rec s.heap z a b i1 i2 t1 t2 .none k)(h1:s.heap.IsTuple t1 xs)(h2:s.heap.IsTuple t2 ys)(hend:xs[k]?=none∨ys[k]?=none)(q:∀g e,(∀c o,c≠z→c≠b→c≠i1→c≠i2→s.heap.get? c=some o→g.get? c=some o)→(∃o,g.get? e=some o∧o.cls=.type "StopIteration")→E (.ref e) {s with heap:=g}):
  wpAny (model prog w) A (Builtin.«zip.__next__» ⟨[.ref z],[]⟩) Q E s:=by
 obtain⟨hz,hti,⟨u,v,hto⟩,n1,n2⟩:=R;refine wpAny_bind (m:=field (.ref z) 2) (wpAny_field hz rfl (x:=.bool false) rfl ?_);refine wpAny_bind (m:=field (.ref z) 3) (wpAny_field hz rfl (x:=.ref a) rfl ?_);refine wpAny_bind (m:=seqItems? (.ref a)) (wpAny_seqItems hti rfl ?_);refine wpAny_bind (m:=Builtin.SmallTypes.ownedTupleIsFree (.ref z)) ?_;unfold Builtin.SmallTypes.ownedTupleIsFree;refine wpAny_bind (wpAny_field hz rfl (x:=.none) rfl (wpAny_pure ?_));simp only[if_true];refine wpAny_bind (wpAny_rule (wpAny_bind (wpAny_field hz rfl (x:=.ref b) rfl (wpAny_bind (wpAny_setField_rec hz (by simp) λg1 z1 s1=>?_)))));have z1':IsZip g1 z a b .ellipsis:=z1;refine wpAny_bind ?_;simp only[List.zipIdx_cons,List.zipIdx_nil,forIn_cons,forIn_nil];refine wpAny_bind (wpAny_bind (wpAny_onRaise ?_));refine wpAny_bind (m:=Builtin.SmallTypes.nextOf (.ref i1)) ?_;cases hx:xs[k]? with
 |none =>
  refine jO hh (n1.extBut s1.extBut D.z1) (h1.extBut s1.extBut D.tz.1) hx λg2 e s2 he=>?_;obtain⟨oe,e1,e2⟩:=he;have z2':IsZip g2 z a b .ellipsis:=s2 _ _ D.z1.symm z1';have ne:e≠z:=λc=>by rw[c,z2']at e1;cases e1;simp at e2
  exact wpAny_setField_rec z2' (by simp) λg3 _ s3=>q g3 e (λc o c1 _ c3 _ h=>s3.extBut _ _ c1 (s2 _ _ c3 (s1.extBut _ _ c1 h))) ⟨oe,s3.extBut _ _ ne e1,e2⟩
 |some x =>
  have hy:ys[k]?=none:=hend.resolve_left (by rw[hx];simp);refine fG (n1.extBut s1.extBut D.z1) (h1.extBut s1.extBut D.tz.1) hx λg2 m1 s2=>wpAny_pure ?_;have to2:IsPair g2 b u v:=s2.extBut _ _ D.b1 (s1.extBut _ _ D.bz hto);refine wpAny_bind (wpAny_seqItems to2 rfl (wpAny_bind (wpAny_updateSeq_pair to2 λg3 to3 s3=>wpAny_bind (wpAny_letGo (wpAny_pure ?_)))));refine wpAny_bind (wpAny_bind (wpAny_onRaise (wpAny_bind (m:=Builtin.SmallTypes.nextOf (.ref i2)) (jO hh (((n2.extBut s1.extBut D.z2).extBut s2.extBut D.d12.symm).extBut s3.extBut D.b2.symm)
   (((h2.extBut s1.extBut D.tz.2).extBut s2.extBut D.t1n.2).extBut s3.extBut D.tb.2) hy λg4 e s4 he=>?_))))
  obtain⟨oe,e1,e2⟩:=he;have z4':IsZip g4 z a b .ellipsis:=s4 _ _ D.z2.symm (s3.extBut _ _ D.bz.symm (s2.extBut _ _ D.z1.symm z1'));have ne:e≠z:=λc=>by rw[c,z4']at e1;cases e1;simp at e2
  exact wpAny_setField_rec z4' (by simp) λg5 _ s5=>q g5 e (λc o c1 c2 c3 c4 h=>s5.extBut _ _ c1 (s4 _ _ c4 (s3.extBut _ _ c2 (s2.extBut _ _ c3 (s1.extBut _ _ c1 h))))) ⟨oe,s5.extBut _ _ ne e1,e2⟩
theorem nZ{z a b i1 i2 t1 t2:Addr}{k:Nat}{xs ys:Array Value}{x y:Value}{Q:Option Value→Shared→Prop}(D:Apart z a b i1 i2 t1 t2)(R:Rec s.heap z a b i1 i2 t1 t2 .none k)(h1:s.heap.IsTuple t1 xs)(h2:s.heap.IsTuple t2 ys)(hx:xs[k]?=some x)(hy:ys[k]?=some y)(q:∀g,Rec g z a b i1 i2 t1 t2 (rawInt s.heap.objs.size) (k+1)→IsPair g s.heap.objs.size x y→(∀c o,c≠z→c≠b→c≠i1→c≠i2→s.heap.get? c=some o→g.get? c=some o)→Q (some (.ref s.heap.objs.size)) {s with heap:=g}):
  wpAny (model prog w) A (pyNext (.ref z)) Q E s:=by
 have hT:s.TypeIs (.ref z) "zip":=⟨_,R.zz,rfl⟩;unfold pyNext;exact wpAny_bind (wpAny_attempt (wpAny_callSpecial?_slot (name:=ofString "__next__") hT F.slot_zip_next (wpAny_call_entry F.slot_zip_next hT F.entry_zip_next (qD D R h1 h2 hx hy λg r n k=>wpAny_pure (q g r n k)) (F.args_zip_next_1 _))))
theorem qF{z a b i1 i2 t1 t2:Addr}{k:Nat}{xs ys:Array Value}{Q:Option Value→Shared→Prop}(hh:A.handled=none)(D:Apart z a b i1 i2 t1 t2)(R:Rec s.heap z a b i1 i2 t1 t2 .none k)(h1:s.heap.IsTuple t1 xs)(h2:s.heap.IsTuple t2 ys)(hend:xs[k]?=none∨ys[k]?=none)(q:∀g,(∀c o,c≠z→c≠b→c≠i1→c≠i2→s.heap.get? c=some o→g.get? c=some o)→Q none {s with heap:=g}):wpAny (model prog w) A (pyNext (.ref z)) Q E s:=by
 have hT:s.TypeIs (.ref z) "zip":=⟨_,R.zz,rfl⟩;unfold pyNext;refine wpAny_bind (wpAny_attempt (wpAny_callSpecial?_slot (name:=ofString "__next__") hT F.slot_zip_next (wpAny_call_entry F.slot_zip_next hT F.entry_zip_next (rS hh D R h1 h2 hend λg e k he=>?_) (F.args_zip_next_1 _))));obtain⟨o,e1,e2⟩:=he;exact wpAny_bind (wpAny_isInstance (T:="StopIteration") (b:=true) ⟨o,e1,e2⟩ isSubtype_stop (wpAny_pure (q g k)))
def made(h:Heap)(t1 t2:Addr):Heap :=
 ((((h.push {cls:=.type "tuple_iterator",data:=.fields #[.ref t1,.int 0 0]}).push {cls:=.type "tuple_iterator",data:=.fields #[.ref t2,.int 0 0]}).push {cls:=.type "tuple",data:=.seq #[.ref h.objs.size,.ref (h.objs.size+1)]}).push
  {cls:=.type "tuple",data:=.seq #[.none,.none]}).push {cls:=.type "zip",data:=.fields #[.none,.bool false,.bool false,.ref (h.objs.size+2),.ref (h.objs.size+3)]}
theorem uy(t1 t2:Addr)(xs ys:Array Value):Meets (Builtin.«zip.__new__» ⟨[.type "zip",.ref t1,.ref t2],[]⟩) (λ_ R s=>s.heap.IsTuple t1 xs∧s.heap.IsTuple t2 ys∧R (.ok (.ret (.ref (s.heap.objs.size+4)))) {s with heap:=made s.heap t1 t2}) :=
 .of_wp λprog w A R s h=>by
  obtain⟨hp,g,d,tk,os⟩:=s;obtain⟨k1,k2,h⟩:=h;have hsub:=sub_zip;have u1:IsTuple (Shared.heap ⟨hp,g,d,tk,os⟩) t1 xs:=k1;have u2:IsTuple (Shared.heap ⟨hp.push {cls:=.type "tuple_iterator",data:=.fields #[.ref t1,.int 0 0]},g,d,tk,os⟩) t2 ys:=IsTuple.push k2 _
  wp_walk using wpAny_pyIter_tuple u1,wpAny_pyIter_tuple u2
  refine⟨_,rfl,?_⟩;unfold made at h;simp only[size_push];exact h
theorem rT{t1 t2:Addr}{xs ys:Array Value}{Q:Value→Shared→Prop}(h1:s.heap.IsTuple t1 xs)(h2:s.heap.IsTuple t2 ys)(q:Q (.ref (s.heap.objs.size+4)) {s with heap:=made s.heap t1 t2}):wpAny (model prog w) A (call (.type "zip") [.ref t1,.ref t2]) Q E s:=by
 refine callType_new F.called_zip (by decide) (F.typeCall_zip_2 _ _) (F.newCall_zip_2 _ _) (λobj=>F.args_object_init_3 obj _ _) F.entry_zip_new (uy t1 t2 xs ys) ⟨h1,h2,?_⟩;have e:(made s.heap t1 t2).get? (s.heap.objs.size+4)=some {cls:=.type "zip",data:=.fields #[.none,.bool false,.bool false,.ref (s.heap.objs.size+2),.ref (s.heap.objs.size+3)]}:=by
  unfold made;have:=get?_push_size ((((s.heap.push {cls:=.type "tuple_iterator",data:=.fields #[.ref t1,.int 0 0]}).push {cls:=.type "tuple_iterator",data:=.fields #[.ref t2,.int 0 0]}).push {cls:=.type "tuple",data:=.seq #[.ref s.heap.objs.size,.ref (s.heap.objs.size+1)]}).push {cls:=.type "tuple",data:=.seq #[.none,.none]})
   (o:={cls:=.type "zip",data:=.fields #[.none,.bool false,.bool false,.ref (s.heap.objs.size+2),.ref (s.heap.objs.size+3)]}) rfl
  simpa only [size_push]using this
 exact⟨⟨_,e,rfl⟩,q⟩
end
end ZT
namespace L2
open PySem PySem.Spec PyProof.Rows
section
variable{X:Cx}{tg:Expr}
def Itz(K:PySem.W.Frag)(t1 t2:Addr):It :=
 ⟨λi H=>∃xs ys x y,SqT K H t1 xs∧SqT K H t2 ys∧xs[i]?=some x∧ys[i]?=some y,λi H v H'=>∃p x y,H p=none∧v=.ref p∧(∀xs,SqT K H t1 xs→xs[i]?=some x)∧(∀ys,SqT K H t2 ys→ys[i]?=some y)∧H'=upd H p (.tup [x,y]),
  λi H=>∃xs ys,SqT K H t1 xs∧SqT K H t2 ys∧(xs.length≤i∨ys.length≤i)⟩
theorem rV{P:Program}{w:World}{K:PySem.W.Frag}{es:List Expr}{k:Nat}{p0:Pos}(z a b i1 i2 t1 t2:Addr)(D:ZT.Apart z a b i1 i2 t1 t2):
  Turn P w K (.Tuple es k p0) (Itz K t1 t2) [z,a,b,i1,i2] z (λi h=>ZT.Rec h z a b i1 i2 t1 t2 .none i) where
 mem:=by simp
 obj:=λi h R c hc=>by
  obtain⟨z1,z2,⟨u,v,z3⟩,⟨o4,z4,_,z4'⟩,⟨o5,z5,_,z5'⟩⟩:=R;simp only[mem_cons,not_mem_nil,or_false]at hc;rcases hc with rfl|rfl|rfl|rfl|rfl
  ·exact⟨_,z1,λv z=>nomatch z⟩
  ·exact⟨_,z2,λv z=>nomatch z⟩
  ·exact⟨_,z3,λv z=>nomatch z⟩
  ·exact⟨_,z4,λv z=>by rw[z4']at z;cases z⟩
  ·exact⟨_,z5,λv z=>by rw[z5']at z;cases z⟩
 keep:=λi h h' R kp=>by
  obtain⟨z1,z2,⟨u,v,z3⟩,⟨o4,z4,r4⟩,⟨o5,z5,r5⟩⟩:=R;exact⟨kp _ (by simp) _ z1,kp _ (by simp) _ z2,⟨u,v,kp _ (by simp) _ z3⟩,⟨o4,kp _ (by simp) _ z4,r4⟩,⟨o5,kp _ (by simp) _ z5,r5⟩⟩
 item:=by
  intro X hP hw hK hc i pins s σ H E I hf st hg;subst hP hw hK;obtain⟨xs,ys,x,y,hq1,hq2,hx,hy⟩:=hg;obtain⟨its1,rv1,k1,_⟩:=I.tuple hq1;obtain⟨its2,rv2,k2,_⟩:=I.tuple hq2;obtain⟨u1,hu1,ru1⟩:=rv1.get hx;obtain⟨u2,hu2,ru2⟩:=rv2.get hy;refine ZT.nZ D st k1 k2 (x:=u1) (y:=u2) (by simpa using hu1) (by simpa using hu2) λg R' new kp=>⟨_,rfl,?_⟩;refine wpAny_letOwnedTupleGo_zip R'.zz λg' z' sb=>?_;have nz:s.heap.objs.size≠z:=ne_of_gt (lt_size st.zz);have kp':∀c o,c≠z→c≠b→c≠i1→c≠i2→s.heap.get? c=some o→g'.get? c=some o:=λc o c1 c2 c3 c4 e=>(sb.2 c c1).trans (kp c o c1 c2 c3 c4 e);have kpO:∀c o,c∉[z,a,b,i1,i2]→s.heap.get? c=some o→g'.get? c=some o:=λc o hn e=>kp' c o (λq=>hn (by simp[q])) (λq=>hn (by simp[q])) (λq=>hn (by simp[q])) (λq=>hn (by simp[q])) e;have hnot:∀c o,H c=some o→c∉[z,a,b,i1,i2]:=λc o e hm=>by rw[(hf c hm).1]at e;cases e
  have nsz:∀c o,s.heap.get? c=some o→c≠s.heap.objs.size:=λc o e=>ne_of_lt (lt_size e);have trk:∀c o,H c=some o→c≠s.heap.objs.size:=λc o e=>ne_of_lt (I.hok.lt e);have new':g'.get? s.heap.objs.size=some {cls:=.type "tuple",data:=.seq #[u1,u2]}:=(sb.2 _ nz).trans new;have R2:ZT.Rec g' z a b i1 i2 t1 t2 .none (i+1):=by
   obtain⟨_,z2,⟨u,v,z3⟩,⟨o4,z4,r4⟩,⟨o5,z5,r5⟩⟩:=R';exact⟨z',(sb.2 _ D.az).trans z2,⟨u,v,(sb.2 _ D.bz).trans z3⟩,⟨o4,(sb.2 _ D.z1).trans z4,r4⟩,⟨o5,(sb.2 _ D.z2).trans z5,r5⟩⟩
  have okH:HOk X.prog X.w (upd H s.heap.objs.size (.tup [x,y])) g':=λc o e=>by
   by_cases ec:c=s.heap.objs.size
   ·subst ec;rw[ac]at e;cases e;exact⟨by show 2≤sizeLine;rw[sizeLine_eq];decide,[u1,u2],.cons ru1 (.cons ru2 .nil),⟨_,new',rfl,0,rfl⟩⟩
   ·rw[al ec]at e;refine(I.hok c o e).stay (λd v hd q=>kpO d v ?_ q) (λd q=>by rw[al (trk d _ q)];exact q) λd zs q=>by rw[al (trk d _ q)];exact q
    rcases hd with rfl|hd
    ·exact hnot _ _ e
    ·exact hnot _ _ hd
  have I2:Inv X pins σ (upd H s.heap.objs.size (.tup [x,y])) {s with heap:=g'}:=by
   refine I.step (g':=s.gens) (t':=s.toks) (d':=s.drawn) (ch:=[z,a,b,i1,i2]) (λc hc'=>?_) (λc o _ _ hn e _=>kpO c o hn e) (λc o _ _ hn e _=>⟨o.slots,kpO c o hn e⟩) (λc o _ e n=>by rw[al (nsz c o e)];exact n) (λc o hn e=>⟨o,kpO c o hn e⟩)
    (λc zs q=>by rw[al (trk c _ q)];exact q) (λc o u q=>by rw[al (trk c _ q)];exact q) (λc ps q=>⟨#[],by rw[al (trk c _ q),q];simp⟩) (λm hm=>?_) okH I.bare
   ·obtain⟨f0,f1,f2,f3,f4,f5⟩:=hf c hc';exact⟨f3,f1,f4,f5⟩
   ·obtain⟨o,es',ep,ho,r⟩:=hm;exact⟨o,es',ep,kpO _ o (λhm'=>(hf _ hm').2.1 rfl) ho,r⟩
  refine⟨.ref s.heap.objs.size,_,I2,rfl,⟨s.heap.objs.size,x,y,I.hok.fresh (le_refl _),rfl,λzs hz=>?_,λzs hz=>?_,rfl⟩,R2,λc hc'=>?_⟩
  ·rw[I.tuple_inj hz hq1];exact hx
  ·rw[I.tuple_inj hz hq2];exact hy
  ·obtain⟨o,e,_⟩:∃o,s.heap.get? c=some o∧True:=by
    obtain⟨z1,z2,⟨u,v,z3⟩,⟨o4,z4,_⟩,⟨o5,z5,_⟩⟩:=st;simp only[mem_cons,not_mem_nil,or_false]at hc';rcases hc' with rfl|rfl|rfl|rfl|rfl
    ·exact⟨_,z1,trivial⟩
    ·exact⟨_,z2,trivial⟩
    ·exact⟨_,z3,trivial⟩
    ·exact⟨_,z4,trivial⟩
    ·exact⟨_,z5,trivial⟩
   rw[al (nsz c o e)];exact(hf c hc').1
 done:=by
  intro X hP hw hK hc i pins s σ H E I hf st hg;subst hP hw hK;obtain⟨xs,ys,hq1,hq2,hle⟩:=hg;obtain⟨its1,rv1,k1,_⟩:=I.tuple hq1;obtain⟨its2,rv2,k2,_⟩:=I.tuple hq2;have e1:=rv1.length;have e2:=rv2.length;refine ZT.qF (I.ok.hd hc) D st k1 k2 (by rcases hle with h|h;left;simp;omega;right;simp;omega) λg kp=>⟨rfl,?_⟩;have kpO:∀c o,c∉[z,a,b,i1,i2]→s.heap.get? c=some o→g.get? c=some o:=λc o hn e=>kp c o (λq=>hn (by simp[q])) (λq=>hn (by simp[q])) (λq=>hn (by simp[q])) (λq=>hn (by simp[q])) e;have hnot:∀c o,H c=some o→c∉[z,a,b,i1,i2]:=λc o e hm=>by rw[(hf c hm).1]at e;cases e
  refine I.step (g':=s.gens) (t':=s.toks) (d':=s.drawn) (ch:=[z,a,b,i1,i2]) (λc hc'=>?_) (λc o _ _ hn e _=>kpO c o hn e) (λc o _ _ hn e _=>⟨o.slots,kpO c o hn e⟩) (λc o _ e n=>n) (λc o hn e=>⟨o,kpO c o hn e⟩)
   (λc zs q=>q) (λc o u q=>q) (λc ps q=>⟨#[],by rw[q];simp⟩) (λm hm=>?_) (λc o e=>?_) I.bare
  ·obtain⟨f0,f1,f2,f3,f4,f5⟩:=hf c hc';exact⟨f3,f1,f4,f5⟩
  ·obtain⟨o,es',ep,ho,r⟩:=hm;exact⟨o,es',ep,kpO _ o (λhm'=>(hf _ hm').2.1 rfl) ho,r⟩
  ·refine(I.hok c o e).stay (λd v hd q=>kpO d v ?_ q) (λd q=>q) λd zs q=>q;rcases hd with rfl|hd
   ·exact hnot _ _ e
   ·exact hnot _ _ hd
 self:=λA i s Q E st hq=>wpAny_pyIter_zip st.zz hq
theorem wF{es:List Expr}{k:Nat}{p0:Pos}{a b:Expr}{ta:TA}{p pos:Pos}(hg:Gl X "zip")(hm:X.mg "zip"=none)(ha:PA X [a,b] ta)(hs:starEach [a,b] X.env=[(false,eval a X.env),(false,eval b X.env)]:=by rfl)(hs2:starEach [b] X.env=[(false,eval b X.env)]:=by rfl):
  PI X (.Tuple es k p0) (.Call (.Name "zip" p) [a,b] [] pos) (λσ H R=>ta σ H λvs H1=>∃t1 t2 xs ys,vs=[.ref t1,.ref t2]∧H1 t1=some (.tup xs)∧H1 t2=some (.tup ys)∧R (Itz X.K t1 t2) H1):=by
 intro pins s σ H R I h;refine Call_ (iD I hg hm boot_zip (PyProof.Rows.callWith_type1 (thn (ha pos pins s σ H _ I h) λus s1 ⟨vs,H1,I1,r1,q1⟩=>?_) (by rw[hs,hs2]) (by rw[hs2];rfl)));obtain⟨t1,t2,xs,ys,e,ht1,ht2,q⟩:=q1;subst e;obtain⟨u1,u2,rfl,ru1,ru2⟩:=oT r1;cases ru1;cases ru2;obtain⟨its1,rv1,k1,hz1⟩:=I1.tuple (SqT.of ht1);obtain⟨its2,rv2,k2,hz2⟩:=I1.tuple (SqT.of ht2);refine ZT.rT k1 k2 ?_;generalize hn:s1.heap.objs.size=n;have keep:∀c o,s1.heap.get? c=some o→(ZT.made s1.heap t1 t2).get? c=some o:=λc o e=>by
  unfold ZT.made;exact get?_push_of_some _ (get?_push_of_some _ (get?_push_of_some _ (get?_push_of_some _ (get?_push_of_some _ e))))
 have rec0:ZT.Rec (ZT.made s1.heap t1 t2) (n+4) (n+2) (n+3) n (n+1) t1 t2 .none 0:=by
  subst hn;unfold ZT.made;refine⟨?_,?_,⟨.none,.none,?_⟩,⟨{cls:=.type "tuple_iterator",data:=.fields #[.ref t1,.int 0 0]},?_,rfl,rfl⟩,⟨{cls:=.type "tuple_iterator",data:=.fields #[.ref t2,.int 0 0]},?_,rfl,rfl⟩⟩
  ·have:=get?_push_size ((((s1.heap.push {cls:=.type "tuple_iterator",data:=.fields #[.ref t1,.int 0 0]}).push {cls:=.type "tuple_iterator",data:=.fields #[.ref t2,.int 0 0]}).push {cls:=.type "tuple",data:=.seq #[.ref s1.heap.objs.size,.ref (s1.heap.objs.size+1)]}).push {cls:=.type "tuple",data:=.seq #[.none,.none]})
    (o:={cls:=.type "zip",data:=.fields #[.none,.bool false,.bool false,.ref (s1.heap.objs.size+2),.ref (s1.heap.objs.size+3)]}) rfl
   simpa only [size_push]using this
  ·refine get?_push_of_some _ (get?_push_of_some _ ?_);have:=get?_push_size ((s1.heap.push {cls:=.type "tuple_iterator",data:=.fields #[.ref t1,.int 0 0]}).push {cls:=.type "tuple_iterator",data:=.fields #[.ref t2,.int 0 0]}) (o:={cls:=.type "tuple",data:=.seq #[.ref s1.heap.objs.size,.ref (s1.heap.objs.size+1)]}) rfl;simpa only [size_push]using this
  ·refine get?_push_of_some _ ?_;have:=get?_push_size (((s1.heap.push {cls:=.type "tuple_iterator",data:=.fields #[.ref t1,.int 0 0]}).push {cls:=.type "tuple_iterator",data:=.fields #[.ref t2,.int 0 0]}).push {cls:=.type "tuple",data:=.seq #[.ref s1.heap.objs.size,.ref (s1.heap.objs.size+1)]}) (o:={cls:=.type "tuple",data:=.seq #[.none,.none]}) rfl;simpa only [size_push]using this
  ·exact get?_push_of_some _ (get?_push_of_some _ (get?_push_of_some _ (get?_push_of_some _ (get?_push_size _ rfl))))
  ·refine get?_push_of_some _ (get?_push_of_some _ (get?_push_of_some _ ?_));have:=get?_push_size (s1.heap.push {cls:=.type "tuple_iterator",data:=.fields #[.ref t1,.int 0 0]}) (o:={cls:=.type "tuple_iterator",data:=.fields #[.ref t2,.int 0 0]}) rfl;simpa only [size_push]using this
 have l1:t1<n:=by rw[←hn];exact I1.hok.lt ht1
 have l2:t2<n:=by rw[←hn];exact I1.hok.lt ht2
 have D:=ZT.rR n t1 t2 l1 l2;refine wpAny_pyIter_zip rec0.zz ?_;refine⟨n+4,[n+4,n+2,n+3,n,n+1],_,Itz X.K t1 t2,H1,rfl,I1.kept (t':=s1.toks) keep,rV _ _ _ _ _ _ _ D,rec0,λc hc=>?_,q⟩;have hle:s1.heap.objs.size≤c:=by
  rw[hn];simp only[mem_cons,not_mem_nil,or_false]at hc;rcases hc with rfl|rfl|rfl|rfl|rfl
  ·exact le_add_right _ _
  ·exact le_add_right _ _
  ·exact le_add_right _ _
  ·exact le_refl _
  ·exact le_add_right _ _
 exact I1.fpOk hle (I1.hok.fresh hle)
theorem rW(xs:Array Value):((List.range xs.size).filterMap λ(m:Nat)=>xs[((xs.size:Int)-1+(m:Int)*(-1)).toNat]?)=xs.toList.reverse:=by
 apply ext_getElem?;intro i;have e:((List.range xs.size).filterMap λ(m:Nat)=>xs[((xs.size:Int)-1+(m:Int)*(-1)).toNat]?)=(List.range xs.size).map λm=>xs.getD (xs.size-1-m) Value.none:=by
  have:∀l:List Nat,(∀m∈l,m<xs.size)→(l.filterMap λ(m:Nat)=>xs[((xs.size:Int)-1+(m:Int)*(-1)).toNat]?)=l.map λm=>xs.getD (xs.size-1-m) Value.none:=by
   intro l
   induction l with
   |nil=>intro _;rfl
   |cons m l ih =>
    intro hl;have hm:=hl m (by simp);have en:((xs.size:Int)-1+(m:Int)*(-1)).toNat=xs.size-1-m:=by omega
    rw[filterMap_cons_some (b:=xs.getD (xs.size-1-m) Value.none) (by rw[en,getD_eq_getD_getElem?,Array.getElem?_eq_getElem (by omega)];rfl),map_cons,ih λk hk=>hl k (by simp[hk])]
  exact this _ λm hm=>mem_range.mp hm
 rw[e,getElem?_map]
 by_cases hi:i<xs.size
 ·rw[getElem?_range hi,List.getElem?_reverse (by simpa using hi)];show some (xs.getD (xs.size-1-i) Value.none)=_;rw[getD_eq_getD_getElem?,Array.getElem?_eq_getElem (by omega),length_toList,getElem?_toList,Array.getElem?_eq_getElem (by omega)];rfl
 ·rw[getElem?_eq_none (by rw[length_range];omega),getElem?_eq_none (by simp;omega)];rfl
abbrev iu:=Addr×Int×List V
def numAt(zs:List iu)(i:Nat):Int:=(zs.getD i (0,0,[])).2.1
theorem rX{zs:List iu}(h:(zs.map (·.2.1)).Nodup):SRT.Ord (λi j=>decide (numAt zs i<numAt zs j)) zs.length:=by
 refine⟨λi _=>by simp,λi j k _ _ _ h1 h2=>?_,λi j hi hj hij=>?_⟩
 ·simp only[decide_eq_true_eq]at *;omega
 ·simp only[decide_eq_true_eq];have:numAt zs i≠numAt zs j:=by
   unfold numAt;rw[getD_eq_getElem?_getD,getD_eq_getElem?_getD,getElem?_eq_getElem hi,getElem?_eq_getElem hj];intro e;have e':(zs.map (·.2.1))[i]'(by simpa using hi)=(zs.map (·.2.1))[j]'(by simpa using hj):=by simpa using e
   exact hij ((getElem_inj h).mp e')
  omega
theorem mn{prog:Program}{w:World}{A:Around}{s:Shared}{b:Bool}{Q:Bool→Shared→Prop}(h:Q false s):∀(l:List Value)(i:Nat),PySem.W.KatLex prog w A b false Q (l.zip l) i s
 |[],i=>h
 |v::l,i=>kat_cons (EqAt.same v prog w _ _ (PySem.W.kat_yes (mn h l (i+1))))
theorem gH:cn X (.builtin "sorted") (λxs H Q=>∃l,∃zs:List iu,xs=[.ref l]∧(SqL X.K H l ((zs.map (·.1)).map V.ref)∨SqT X.K H l ((zs.map (·.1)).map V.ref))∧(∀z∈zs,H z.1=some (.tup (.int z.2.1::z.2.2)))∧(zs.map (·.2.1)).Nodup∧zs.length<64 ∧
  ∀zs':List iu,zs'.Perm zs→zs'.Pairwise (λa b=>a.2.1<b.2.1)→∀p,H p=none→Q (.ref p) (upd H p (.lst ((zs'.map (·.1)).map V.ref)))):=by
 intro pins s σ H xs us Q I r h;obtain⟨l,zs,rfl,hq,hk,hnd,h64,q⟩:=h;obtain⟨u,rfl,ru⟩:=ee r;cases ru;obtain⟨its,rv,pl⟩:∃its,aB ((zs.map (·.1)).map V.ref) its∧(s.heap.IsList l its.toArray∨IsTup s.heap l its.toArray):=by
  rcases hq with hq|hq
  ·obtain⟨its,rv,pl,hz⟩:=I.list hq;exact⟨its,rv,.inl pl.isList⟩
  ·obtain⟨its,rv,pl,hz⟩:=I.tuple hq;exact⟨its,rv,.inr pl⟩
 have e:=dz rv;subst e;have hlen:((zs.map (·.1)).map Value.ref).length=zs.length:=by simp
 have hobj:∀z∈zs,∃o its n t,s.heap.get? z.1=some o∧o.cls=.type "tuple"∧o.data=.seq its n∧its.toList=.int z.2.1 t::its.toList.drop 1:=λz hz'=>by
  obtain⟨_,its,rr,o,e1,e2,n,e3⟩:=I.hok z.1 _ (hk z hz');cases rr with
  |cons r1 r2 =>
   obtain⟨t,rfl⟩:=r1;exact⟨o,_,n,t,e1,e2,e3,by simp⟩
 have hget:∀i,i<zs.length→((zs.map (·.1)).map Value.ref).getD i Value.none=.ref (zs.getD i (0,0,[])).1∧zs.getD i (0,0,[])∈zs:=λi hi=>by
  rw[getD_eq_getElem?_getD,getD_eq_getElem?_getD,getElem?_map,getElem?_map,getElem?_eq_getElem hi];exact⟨rfl,getElem_mem hi⟩
 refine SRT.iX (κ:=tuples' true) (f:=λi j=>decide (numAt zs i<numAt zs j)) (by rw[hlen];exact rX hnd) pl (by rw[hlen];exact h64) ?kind ?less ?fin
 case kind =>
  intro A' s' _ kp Q' h2 hQ';have key:∀ys:List iu,(∀z∈ys,z∈zs)→∃fs:List Value,KatTups s'.heap ((ys.map (·.1)).map Value.ref) fs∧fs.length=ys.length∧∀v∈fs,∃i t,v=Value.int i t:=by
   intro ys
   induction ys with
   |nil=>intro _;exact⟨[],KatTups.nil,rfl,λv hv=>by simp at hv⟩
   |cons z ys ih =>
    intro hm;obtain⟨fs,h1,h2',h3⟩:=ih λy hy=>hm y (by simp[hy]);obtain⟨o,its,n,t,e1,e2,e3,e4⟩:=hobj z (hm z (by simp));refine⟨.int z.2.1 t::fs,KatTups.cons (kp _ _ e1) e2 e3 ?_ h1,by simp[h2'],λv hv=>?_⟩
    ·rw[←getElem?_toList,e4];rfl
    ·rcases mem_cons.mp hv with rfl|hv
     ·exact⟨_,_,rfl⟩
     ·exact h3 v hv
  obtain⟨fs,h1,h2',h3⟩:=key zs λz hz'=>hz';refine PySem.W.kat_kind (T:=.type "int") h1 (by rw[h2'];rw[hlen]at h2;omega) (λv hv=>?_) (by rfl) hQ';obtain⟨i,t,rfl⟩:=h3 v hv;exact .now
 case less =>
  intro A' s' _ kp i j C hi hj hC;rw[hlen]at hi hj;obtain⟨gi,mi⟩:=hget i hi;obtain⟨gj,mj⟩:=hget j hj;rw[gi,gj];obtain⟨oi,ii,ni,ti,a1,a2,a3,a4⟩:=hobj _ mi;obtain⟨oj,ij,nj,tj,b1,b2,b3,b4⟩:=hobj _ mj;refine PySem.W.kat_lt (kp _ _ a1) a3 (kp _ _ b1) b3 ?_
  by_cases hij:i=j
  ·subst hij;rw[a1]at b1;cases b1;rw[a3]at b3;cases b3;have:C false s':=by simpa using hC
   have e2:decide (ii.size<ii.size)=false:=by simp
   rw[e2];exact mn this _ _
  ·have hne:numAt zs i≠numAt zs j:=by
    rcases (rX hnd).tot i j hi hj hij with h1|h1<;>simp only[decide_eq_true_eq]at h1<;>omega
   rw[a4,b4];refine kat_cons (wpAny_eqBool_int ?_);have e2:((zs.getD i (0,0,[])).2.1==(zs.getD j (0,0,[])).2.1)=false:=beq_eq_false_iff_ne.mpr hne;rw[e2];refine PySem.W.kat_no ?_;exact kat_lt_int hC
 case fin =>
  intro p h' hrow hup kp _ hg;obtain⟨c,hg⟩:=hg;rw[hlen]at hrow hup;obtain⟨zs',hzs'⟩:∃zs',zs'=p.toList.map λi=>zs.getD i (0,0,[]):=⟨_,rfl⟩;have hperm:zs'.Perm zs:=by
   rw[hzs'];refine(hrow.perm.map _).trans ?_;have:(List.range zs.length).map (λi=>zs.getD i (0,0,[]))=zs:=by
    apply ext_getElem?;intro i;rw[getElem?_map]
    by_cases hi:i<zs.length
    ·rw[getElem?_range hi,getElem?_eq_getElem hi];show some (zs.getD i (0,0,[]))=_;rw[getD_eq_getElem?_getD,getElem?_eq_getElem hi];rfl
    ·rw[getElem?_eq_none (by rw[length_range];omega),getElem?_eq_none (by omega)];rfl
   rw[this]
  have hpl:p.size=zs.length:=hrow.size;have hpw:zs'.Pairwise (λa b=>a.2.1<b.2.1):=by
   rw[List.pairwise_iff_getElem];intro i j hi hj hij;have hi':i<p.size:=by rw[hzs',length_map,length_toList]at hi;exact hi
   have hj':j<p.size:=by rw[hzs',length_map,length_toList]at hj;exact hj
   have:=hup i j hij (by omega);simp only[decide_eq_true_eq,numAt]at this;rw[getD_eq_getD_getElem?,getD_eq_getD_getElem?,Array.getElem?_eq_getElem hi',Array.getElem?_eq_getElem hj']at this;simpa [hzs']using this
  have hout:(toArray (p.toList.map λi=>((zs.map (·.1)).map Value.ref).getD i Value.none))=((zs'.map (·.1)).map Value.ref).toArray:=by
   congr 1
   rw[hzs'];simp only[map_map];apply map_congr_left;intro i hi;have hi':i<zs.length:=mem_range.mp (hrow.perm.mem_iff.mp hi);have:=(hget i hi').1;simp only[map_map]at this;exact this
  rw[hout]at hg;have hv:aB ((zs'.map (·.1)).map V.ref) ((zs'.map (·.1)).map Value.ref):=by
   generalize zs'.map (·.1)=as
   induction as with
   |nil=>exact .nil
   |cons a as ih=>exact .cons rfl ih
  refine⟨.ref (s.heap.objs.size+1),_,I.laid (t':=s.toks) (o:=.lst ((zs'.map (·.1)).map V.ref)) kp (le_succ _) ⟨?_,_,c,hv,hg⟩,rfl,q zs' hperm hpw _ (I.hok.fresh (le_succ _))⟩;rw[length_map,length_map,hperm.length_eq,sizeLine_eq];omega
end
theorem kJ{scope:Scope}{env:Env}(h:∀y∈scope.names,y.2≠.free):relabel scope env=scope:=by
 unfold relabel;rw[map_eq_self (l:=scope.names) (λx hx=>by
  obtain⟨n,k⟩:=x;have:(k==NameKind.free)=false:=by simpa using h _ hx
  simp[this])]
theorem cW{X:Cx}{scope:Scope}(hk:scope.kind=.function)(hf:∀y∈scope.names,y.2≠.free)(hc:∀y∈scope.names,y.2≠.cell)(hn:∀x∈scope.names,x.2=.local→scope.names.lookup x.1=some .local):LcOk X scope [] :=
 ⟨hk,closureFor_none hf,hn,hc,λx c h=>by simp at h,λx h=>by
  rw[kJ hf]at h;rcases h with h|h
  ·exact absurd rfl (hc _ (PySem.mem_of_lookup h))
  ·exact absurd rfl (hf _ (PySem.mem_of_lookup h))⟩
theorem mq{k:Nat}{js:List Nat}{J:It}{g:TG}{te:TE}{σ:St}{H1:Hp}{Q:VK}{p:Addr}(n:Nat)(hn:n≤1000)(Pv:Nat→List V→St→Hp→Prop)(h0:Pv 0 [] (cM k js σ) (upd H1 p (.lst [])))(hy:∀i ys σ' H',Pv i ys σ' H'→ys.length≤i)(go:∀i ys σ' H',i<n→Pv i ys σ' H'→J.go i H')(stop:∀ys σ' H',Pv n ys σ' H'→J.stop n H'∧Q (.ref p) H')(step:∀i ys σ' H',i<n→Pv i ys σ' H'→∀x H2,J.yld i H' x H2→g x σ' H2 λσ2 H3=>te σ2 H3 λy H4=>H4 p=some (.lst ys)∧Pv (i+1) (ys++[y]) σ2 (upd H4 p (.lst (ys++[y]))))(mg:∀x σ H (Q Q':St→Hp→Prop),(∀σ H,Q σ H→Q' σ H)→g x σ H Q→g x σ H Q')(me:∀σ H (Q Q':VK),(∀y H,Q y H→Q' y H)→te σ H Q→te σ H Q'):
  LcW k js g te σ Q J H1 p:=by
 refine⟨λi m ys σ' H'=>m=n-i∧i≤n∧Pv i ys σ' H',⟨n,by simp,zero_le _,h0⟩,?_⟩;rintro i m ys σ' H' ⟨rfl,hi,hp⟩
 by_cases hlt:i<n
 ·refine .inr ⟨go i ys σ' H' hlt hp,?_,λx H2 y=>?_⟩
  ·have:=hy i ys σ' H' hp;exact lt_of_le_of_lt this (ax (by omega))
  ·refine mg _ _ _ _ _ (λσ2 H3 h3=>me _ _ _ _ (λz H4 h4=>⟨h4.1,n-(i+1),by omega,rfl,hlt,h4.2⟩) h3) (step i ys σ' H' hlt hp x H2 y)
 ·have e:i=n:=by omega
  subst e;exact .inl (stop ys σ' H' hp)
theorem af{H:Hp}{p:Addr}{o:HO}(h:H p=none):ak H (upd H p o):=λb u e=>by rw[al (bH e h)];exact e
theorem aW{H:Hp}{p a:Addr}{o u:HO}(h:H p=none)(e:H a=some u):upd H p o a=some u:=by rw[al (bH e h)];exact e
theorem aZ{H0 H:Hp}{p:Addr}{o:HO}(h0:H0 p=none)(s:ak H0 H):ak H0 (upd H p o):=λb u e=>by
 rw[al (bH e h0)];exact s b u e
structure Fly(P:Program)(w:World)(outer:List Env)(H:Hp)(s:Shared)(H':Hp)(ea C:Addr)(s':Shared):Prop where
 os:s'.os=s.os
 bare:AllBare s'.gens
 un:Un (frs outer) [] H H' s.heap s'.heap
 new:H' ea=none
 fly:∃B a0,FlyingW B outer ea (.ref C) a0 s'.heap∧HOk P w H' B∧(∀b o,s.heap.get? b=some o→H b=none→b∉frs outer→B.get? b=some o) ∧
  ∀b o,s.heap.get? b=some o→b∉frs outer→∃o',B.get? b=some o'
def CX1(P:Program)(w:World):CXT:=λouter H s E e s'=>∃ea C H',e=.ref ea∧Fly P w outer H s H' ea C s'∧E (.ref C) none H'
theorem ba.ex{P:Program}{w:World}{H:Hp}{h:Heap}{a:Addr}{o:HO}(x:ba P w H h a o):∃ob,h.get? a=some ob:=by
 cases o with
 |lst xs=>obtain⟨_,_,_,_,e⟩:=x;exact⟨_,e⟩
 |tup xs=>obtain⟨_,_,_,ob,e,_⟩:=x;exact⟨ob,e⟩
 |dK kvs=>obtain⟨_,_,_,_,o,_,_,e,_⟩:=x;exact⟨_,e⟩
 |dT kvs=>obtain⟨_,_,_,_,o,_,_,e,_⟩:=x;exact⟨_,e⟩
 |set S n=>obtain⟨o,_,_,_,e,_⟩:=x;exact⟨_,e⟩
 |ins C dx fs=>obtain⟨_,_,_,e,_⟩:=x;exact⟨_,e⟩
 |own y=>obtain⟨_,e⟩:=x;exact⟨_,e⟩
 |xd fs=>obtain⟨_,⟨_,_,_,e,_⟩,_⟩:=x;exact⟨_,e⟩
 |rng lo hi=>obtain⟨_,_,_,e⟩:=x;exact⟨_,e⟩
 |frz ob u=>obtain⟨e,_⟩:=x;exact⟨_,e⟩
 |tbl ps=>exact⟨_,(show h.get? a=some _ from x)⟩
 |met f y=>exact⟨_,(show h.get? a=some _ from x)⟩
 |ext φ=>obtain⟨_,⟨_,e⟩,_⟩:=x;exact⟨_,e⟩
theorem rY{P:Program}{w:World}{H:Hp}{h:Heap}{l:List Addr}(x:HOk P w H h)(hl:∀b∈l,H b=none):HOk P w H (hideAll h l):=λa o e =>
 (x a o e).stay (λb u hb q=>hideAll_get l q λz=>by
  have:=hl b z;rcases hb with hb|hb
  ·rw[hb,e]at this;cases this
  ·rw[hb]at this;cases this) (λ_ q=>q) λ_ _ q=>q
section
variable{P:Program}{w:World}{l:List Env}{H H':Hp}{h1 h2 h3 B:Heap}{ea:Addr}{cls a0:Value}
theorem mr(un:Un (frs l) [] H H' h1 h2)(fl:FlyingW B l ea cls a0 h2)(hB:HOk P w H' B)(kp:∀b o,h1.get? b=some o→H b=none→b∉frs l→B.get? b=some o)(th:∀b o,h1.get? b=some o→b∉frs l→∃o',B.get? b=some o')(st:B.StaysIn h3)(hs:h2.UpToSlots h3):Un (frs l) [] H H' h1 h3∧HOk P w H' h3:=by
 refine⟨⟨λb o e n hb _=>st b o (kp b o e n hb),λb o e n hb hx=>?_,un.free,λb o e _=>?_,un.tups,un.frzs,un.tbls⟩,hB.kept st⟩
 ·obtain⟨sl,q⟩:=un.slot b o e n hb hx;obtain⟨_,o',ho',hd⟩:=fl.2.2.1.mem hb;rw[q]at ho';cases ho';obtain⟨sl',q'⟩:=hs b _ q hd;exact⟨sl',q'⟩
 ·by_cases hb:b∈frs l
  ·obtain⟨_,o',ho',hd⟩:=fl.2.2.1.mem hb;obtain⟨sl',q'⟩:=hs b _ ho' hd;exact⟨_,q'⟩
  ·obtain⟨o',q⟩:=th b o e hb;exact⟨o',st b o' q⟩
end
section
variable{X:Cx}{pins:List (Addr×Obj)}{σ:St}{H H':Hp}{s s':Shared}{ea C:Addr}{E:XK}
theorem Inv.fly_up(I:Inv X pins σ H s)(hex:X.ex=[])(J:Inv X pins σ H' s')(new:H' ea=none){B:Heap}{a0:Value}(fl:FlyingW B X.outer ea (.ref C) a0 s'.heap)(hB:HOk X.prog X.w H' B)(kp:∀b o,s.heap.get? b=some o→H b=none→b∉frs X.stack→B.get? b=some o)(th:∀b o,s.heap.get? b=some o→b∉frs X.stack→∃o',B.get? b=some o'):Fly X.prog X.w X.outer X.H₀ X.s₀ H' ea C s':=by
 have ub:=I.base;rw[hex]at ub;have uj:=J.base;rw[hex]at uj;have ne:∀b o,X.s₀.heap.get? b=some o→b∉frs X.outer→b∉frs X.stack:=λb o e n hb=>by
  rcases mem_cons.mp (I.stkSub b hb)with z|z
  ·have:=lt_size e;rw[z]at this;exact absurd (lt_of_lt_of_le this I.ok.above) (lt_irrefl _)
  ·exact n z
 refine⟨J.os,J.bare,uj,new,B,a0,fl,hB,λb o e n hb=>?_,λb o e hb=>?_⟩
 ·exact kp b o (ub.keep b o e n hb (by simp)) (ub.free b o e n (by simp)) (ne b o e hb)
 ·obtain⟨o',q⟩:=ub.there b o e (by simp);exact th b o' q (ne b o e hb)
structure Lv(X:Cx)(E:XK):Prop where
 ex:X.ex=[]
 stk:X.stack=X.env::X.outer
 fr:X.env.frame=some X.env.locals
 xe:X.xe=λe s'=>wpAny (model X.prog X.w) X.A (leaving X.env e) (λ_ s''=>CX1 X.prog X.w X.outer X.H₀ X.s₀ E e s'') (λe' s''=>CX1 X.prog X.w X.outer X.H₀ X.s₀ E e' s'') s'
theorem bp{P:Program}{w:World}{K:PySem.W.Frag}{mg:Str→Option Value}{base:Heap}{N:List Str}{qual:Str}{scope:Scope}{f:Addr}{cd:Value}{A:Around}{outer:List Env}{s:Shared}{H:Hp}{E:XK} :
  Lv (ko (CX1 P w) P w K mg base N qual scope f cd A outer s H E) E:=⟨rfl,rfl,rfl,rfl⟩
theorem cB(L:Lv X E):gU (CX1 X.prog X.w) X E:=by
 intro pins σ H s e s' I h;obtain⟨ea,C,H',rfl,F,hE⟩:=h;rw[L.xe];obtain⟨B,a0,fl,hB,kp,th⟩:=id F.fly;have fl':=fl;rw[L.stk]at fl';refine wpAny_leaves_onW (by rw[I.ok.frames,L.stk]) L.fr fl' λh' fl2 hs=>?_;obtain⟨u,ok⟩:=mr F.un fl hB kp th fl2.1 hs;have J:Inv X pins σ H' {s' with heap:=h'}:=I.call' (s':={s' with heap:=h'}) F.os u ok F.bare λb z=>absurd z (by simp)
 exact⟨ea,C,H',rfl,I.fly_up L.ex J F.new fl2 hB kp th,hE⟩
theorem Inv.ground(I:Inv X pins σ H s):(hideAll s.heap (frs X.stack)).StaysIn s.heap∧s.heap.FunFrames (hideAll s.heap (frs X.stack)) X.stack∧HOk X.prog X.w H (hideAll s.heap (frs X.stack)) :=
 ⟨λb o q=>of_hideAll _ q,PySem.W.funFrames_hide I.stack λenv he b hb=>mem_filterMap.mpr ⟨env,he,hb⟩,rY I.hok I.stkFree⟩
theorem yi(L:Lv X E)(I:Inv X pins σ H s){h':Heap}{vs:List Value}(hx:Heap.MadeExcOf s.heap h' ea (.ref C) vs)(hE:E (.ref C) none H):X.xe (.ref ea) {s with heap:=h'}:=by
 rw[L.xe];obtain⟨g1,g2,g3⟩:=I.ground;have g2':s.heap.FunFrames (hideAll s.heap (frs X.stack)) (X.env::X.outer):=L.stk ▸ g2;refine wpAny_leaves_madeW (s:={s with heap:=h'}) (by rw[I.ok.frames,L.stk]) L.fr g1 g2' hx λh'' t fl _ _ hs=>?_;have hs':s.heap.UpToSlots h'':=(Heap.UpToSlots.of_keeps hx.keeps).trans hs;have u:Un (frs X.stack) [] H H s.heap h'':=⟨λb o e n hb _=>fl.1 b o (hideAll_get _ e hb),λb o e n hb _=>by
   obtain⟨_,o',ho',hd⟩:=g2.mem hb;rw[e]at ho';cases ho';exact hs' b o e hd,λb o e n _=>n,λb o e _=>by
   by_cases hb:b∈frs X.stack
   ·obtain⟨_,o',ho',hd⟩:=g2.mem hb;obtain⟨sl,q⟩:=hs' b o' ho' hd;exact⟨_,q⟩
   ·exact⟨o,fl.1 b o (hideAll_get _ e hb)⟩,λ_ _ q=>q,λ_ _ _ q=>q,λb ps q=>⟨#[],by simpa using q⟩⟩
 have J:Inv X pins σ H {s with heap:=h''}:=I.call' (s':={s with heap:=h''}) rfl u (g3.kept fl.1) I.bare λb z=>absurd z (by simp)
 have new:H ea=none:=by
  cases q:H ea with
  |none=>rfl
  |some o =>
   obtain⟨ob,e⟩:=(I.hok ea o q).ex;have h2:=hx.new;rw[e]at h2;cases h2
 exact⟨ea,C,H,rfl,I.fly_up L.ex J new fl g3 (λb o e _ hb=>hideAll_get _ e hb) λb o e hb=>⟨o,hideAll_get _ e hb⟩,hE⟩
end
end L2
namespace XI
open PySem PySem.Spec PySem.W
section
variable{prog:Program}{w:World}{A:Around}{E:Value→Shared→Prop}{h:Heap}{g:Array GenState}{d:Drawn}{t:Nat}{os:OsState}{a:Addr}{o:Obj}{vs:Array Value}{nm q:Str}{C N:Addr}{bs bm:List Value}{hdct:Bool}{sn:List Str}{sub:List Value}{ab:Bool}{col:Option Bool}{dd:Option Addr}{k0 k1 k2 k3 k5:Option Value}{newId:String}
end
def vA(e C:Addr)(h:Heap):Prop:=∃o vs,h.get? e=some o∧o.cls=.ref C∧o.data=.fields vs
end XI
namespace L2
open PySem PySem.Spec PyProof.Rows
section
variable{X:Cx}{pins:List (Addr×Obj)}{σ:St}{H:Hp}{s:Shared}
abbrev bmV:List Value:=[.type "ValueError",.type "Exception",.type "BaseException",.type "object"]
abbrev yj(X:Cx)(x:Str)(C:Addr):Prop:=OwnCls x C bmV "ValueError.__new__" X.mg X.base
def wG(C:Addr)(E:XK)(ta:TE):TS:=λ_ σ H=>bv ta im σ H λvs H1=>vs.length≤sizeLine∧E (.ref C) none H1
theorem cX{E:XK}(L:Lv X E){x:Str}{C:Addr}{np cpos pos:Pos}{a:Expr}{ta:TE}(O:yj X x C)(hh:X.A.handled=none)(hg:Gl X x)(ha:PE X a ta)(hs:starEach [a] X.env=[(false,eval a X.env)]:=by rfl)(hd:(x==("__debug__":Str))=false:=by decide):PS X (.Raise (some (.Call (.Name x np) [a] [] cpos)) none pos) (wG C E ta):=by
 intro pins s σ H D I h;obtain⟨tl,N,nm,q,bs,hdct,sn,sub,ab,col,dd,k0,k1,k2,k3,k5,mN,hC,hN,hni,T⟩:=O.obj;refine wpAny_Raise_call_subT (C:=C) (nm:=nm) (q:=q) (N:=N) (bs:=bs) (bm:=tl) (hdct:=hdct) (sn:=sn) (sub:=sub) (ab:=ab) (col:=col) (dd:=dd) (k0:=k0) (k1:=k1) (k2:=k2) (k3:=k3) (k5:=k5)
  PySem.F.excBase_ValueError (mN:=mN) (T.hasType PySem.F.excBase_ValueError.hasBase) hh (by rw[hs];rfl) hni (ke I hg O.bound ⟨rfl,?_⟩ hd)
 have hA:PA X [a] (bv ta im):=aa ha ae hs;have h':=hA cpos pins s σ H (λvs H1=>vs.length≤sizeLine∧E (.ref C) none H1) I h;rw[hs]at h'⊢;refine evalArgs_plain (thn h' λus s2 hpt=>?_);obtain⟨vs,H2,I2,r2,q2⟩:=hpt;exact⟨rfl,by rw[←r2.length];exact q2.1,I2.bk _ _ hC,hN.keeps I2.bk,T.keeps I2.bk,λh' e hx=>yi L I2 hx q2.2⟩
theorem uz{M:Model}{A:Around}{E:Value→Shared→Prop}{nm q:Str}{C N:Addr}{bs bm:List Value}{hdct:Bool}{sn:List Str}{sub:List Value}{ab:Bool}{col:Option Bool}{dd:Option Addr}{k0 k1 k2 k3 k5:Option Value}{newId:String}{h:Heap}{g:Array GenState}{d:Drawn}{t:Nat}{os:OsState}{e T:Addr}{oe:Obj}{Q:Bool→Shared→Prop}(hT:h.get? T=some (excClassObj nm q T N bs bm hdct sn sub ab col dd k0 k1 k2 k3 k5 newId))(hbase:bm.contains (.type "BaseException")=true)(LCT:Looks M h (isSubtype (.ref C) (.ref T)) true)(he:h.get? e=some oe)(hcls:oe.cls=.ref C)(hq:Q true ⟨h,g,d,t,os⟩):wpAny M A (excMatches (.ref e) (.ref T)) Q E ⟨h,g,d,t,os⟩:=by
 have hcB:(Value.ref T::bm).contains (.type "BaseException")=true:=by rw[List.contains_cons,hbase,Bool.or_true]
 have f:=tc_notTuple;unfold excMatches
 repeat (first|(with_reducible refine wpAny_loadPart_at he ?_;rw[hcls])|with_reducible refine LCT.at ?_|with_reducible refine wpAny_loadPart_at hT ?_|(with_reducible refine wpAny_isSubtype_exc hT ?_;rw[hcB])|wp_step)
 exact hq
theorem Inv.caught{H':Hp}{ea C:Addr}{s':Shared}{B h6:Heap}{a0:Value}(I:Inv X pins σ H s)(F:Fly X.prog X.w X.stack H s H' ea C s')(fl:FlyingW B X.stack ea (.ref C) a0 s'.heap)(hB:HOk X.prog X.w H' B)(kp:∀b o,s.heap.get? b=some o→H b=none→b∉frs X.stack→B.get? b=some o)(th:∀b o,s.heap.get? b=some o→b∉frs X.stack→∃o',B.get? b=some o')(f6:FlyingW B X.stack ea (.ref C) a0 h6)(hs:s'.heap.UpToSlots h6):
  Inv X pins σ (upd H' ea (.ext (XI.vA ea C))) {s' with heap:=h6}:=by
 obtain⟨u,ok⟩:=mr F.un fl hB kp th f6.1 hs;obtain⟨oe,vs,g1,g2,g3,_⟩:=f6.first;have ne:∀b o,s.heap.get? b=some o→b≠ea:=λb o e z=>by
  by_cases hb:b∈frs X.stack
  ·obtain⟨_,o',ho',hd⟩:=f6.2.2.1.mem hb;rw[z,g1]at ho';cases ho';exact hd _ g3
  ·obtain⟨o',q⟩:=th b o e hb;rw[z,f6.2.1]at q;cases q
 have ner:∀b u,H' b=some u→b≠ea:=λb u e z=>by rw[z,F.new]at e;cases e
 refine I.call' (s':={s' with heap:=h6}) F.os ⟨u.keep,u.slot,λb o e n hx=>?_,u.there,λb xs e=>?_,λb o v e=>?_,λb ps e=>?_⟩ (λb ob e=>?_) F.bare λb z=>absurd z (by simp)
 ·rw[al (ne b o e)];exact u.free b o e n hx
 ·have:=u.tups b xs e;rw[al (ner b _ this)];exact this
 ·have:=u.frzs b o v e;rw[al (ner b _ this)];exact this
 ·obtain⟨more,this⟩:=u.tbls b ps e;exact⟨more,by rw[al (ner b _ this)];exact this⟩
 ·by_cases hb:b=ea
  ·subst hb;rw[ac]at e;cases e;refine⟨⟨oe,vs,g1,g2,g3⟩,⟨oe,g1⟩,λh1 h2 ⟨o,vs,a1,a2,a3⟩ k=>⟨o,vs,k o a1,a2,a3⟩⟩
  ·rw[al hb]at e;exact(ok b ob e).stay (λ_ _ _ q=>q) (λc q=>by rw[al (ner c _ q)];exact q) λc xs q=>by rw[al (ner c _ q)];exact q
structure TryOk(X:Cx):Prop where
 no:∀e s,¬X.xe e s
 stk:X.stack=X.env::X.outer
 fr:X.env.frame=some X.env.locals
end
end L2
namespace DL
open PySem PySem.Spec PyProof.Rows
theorem iZ:entryFor table "dict.update.loop"=some Builtin.«dict.update.loop»:=entryFor_of_tree (by kernel_rfl)
theorem dI:plainId "dict.update.loop"=true:=by decide +kernel
theorem kQ:typeLookup (.type "list") "keys"=pure none:=by rw[typeLookup_type,builtinLookup_eq_fast];kernel_rfl
section
variable{prog:Program}{w:World}{A:Around}{E:Value→Shared→Prop}{s:Shared}
theorem uA{a:Addr}{xs:Array Value}{k:Nat}{sl:Array (Option Value)}{u:Tok}{Q:Value→Shared→Prop}(hx:s.heap.get? a=some {cls:=.type "list",dict:=none,data:=.seq xs k,slots:=sl})(hA:A.handled=none)(h:∀h' tk e,Heap.NewExcOf s.heap h' e "AttributeError"→E (.ref e) {s with heap:=h',toks:=tk}):
  wpAny (model prog w) A (getAttrBy (.ref a) (.str "keys" u) false) Q E s:=by
 obtain⟨hp,g,d,tk,os⟩:=s;have hT:∀tk',(⟨hp,g,d,tk',os⟩:Shared).TypeIs (.ref a) "list":=λ_=>⟨_,hx,rfl⟩;have f1:=sub_AttributeError;have f3:=F.slot_list_getattribute.lookup;have f4:=F.slot_list_getattribute.bind (.ref a);have f5:=am_list_getattr_none;unfold getAttrBy
 repeat (any_goals (first|assumption|exact hT _|((with_reducible show wpAny _ _ (call (Value.builtin "list.__getattribute__") _ _) _ _ _);refine call_meets F.slot_list_getattribute (hT _) am_entry_list_getattribute (F.args_list_getattribute_2 _ _) (meets_getattribute_miss_list a xs k sl "keys" _ kQ (by decide) (by size_fits)) ⟨hx,hA,λh' tk' e hx'=>?_⟩)|wp_step))
 obtain⟨t',u',he⟩:=hx'.there;show wpAny _ _ (getattributeRaised _ _ _ _ _ _ _) _ _ _;unfold getattributeRaised
 repeat (any_goals (first|assumption|wp_step))
 exact h _ _ _ hx'.of
theorem uB{a:Addr}{xs:Array Value}{k:Nat}{sl:Array (Option Value)}{Q:Option Value→Shared→Prop}(hx:s.heap.get? a=some {cls:=.type "list",dict:=none,data:=.seq xs k,slots:=sl})(hA:A.handled=none)(h:∀h' tk,(∀b o,s.heap.get? b=some o→h'.get? b=some o)→Q none {s with heap:=h',toks:=tk}):
  wpAny (model prog w) A (getAttr? (.ref a) "keys") Q E s:=by
 obtain⟨hp,g,d,tk,os⟩:=s;have f1:=sub_AttributeError;unfold getAttr? getAttrBy?
 repeat (any_goals (first|assumption|((with_reducible show wpAny _ _ (getAttrBy _ _ false) _ _ _);refine uA (s:=⟨hp,g,d,_,os⟩) hx hA λh' tk' e hx'=>?_)|wp_step))
 obtain⟨⟨oc,od,odt,osl⟩,vs,he,hc,_,_⟩:=hx'.there;simp only at hc;subst hc
 repeat (any_goals (first|assumption|with_reducible refine wpAny_loadPart_at he ?_|wp_step))
 exact h h' tk' λb o e=>hx'.keeps b o e
end
section
variable{prog:Program}{w:World}{A:Around}{E:Value→Shared→Prop}{R:Result→Shared→Prop}{I:Addr}{fp wr:List Addr}{G:Array GenState→Array GenState→Prop}{n:Nat}{P:Nat→Value→Prop}{St:Nat→Shared→Prop}
theorem qG(W:WalksS prog w A.in1 I fp wr G n P St)(d:Addr)(hdf:d∉fp)(ad:Nat→Addr)(kk vv:Nat→Value)(hval:∀i v,P i v→v=.ref (ad i))(had:∀i,i<n→ad i∉d::wr)(D:Nat→Heap→Prop)(hD:∀i (h h':Heap),D i h→(∀b o,b∉wr→h.get? b=some o→h'.get? b=some o)→D i h')(step:∀i (s:Shared) (E:Value→Shared→Prop) (Q:Unit→Shared→Prop),i<n→D i s.heap→(∀h' tk,s.toks≤tk→SameBut d s.heap h'→D (i+1) h'→Q () {s with heap:=h',toks:=tk})→wpAny (model prog w) A.in1 (dictSet d (kk i) (vv i)) Q E s):
  ∀(k i:Nat)(s:Shared)(tk:Tok),n-i=k→i≤n→St i s→D i s.heap→(∀j,j<n→IsTup s.heap (ad j) #[kk j,vv j]) →
   (∀s',Moved (d::wr) G s s'→D n s'.heap→R (.ok (.ret .none)) s') →
   codeAny (model prog w) A (.builtin "dict.update.loop" ⟨[.ref d,.ref I,.int i tk,.none],[]⟩) R s:=by
 have hdw:d∉wr:=λh=>hdf (W.sub _ h);have hsub:∀b∈wr,b∈d::wr:=λb hb=>mem_cons_of_mem _ hb;have hadw:∀i,i<n→ad i∉wr:=λi hi h=>had i hi (mem_cons_of_mem _ h);have hadd:∀i,i<n→ad i≠d:=λi hi h=>had i hi (by rw[h];exact mem_cons_self);intro k
 induction k with
 |zero =>
  intro i s tk hk hi hst hDi htp hR;have hin:i=n:=by omega
  subst hin;refine codeAny_builtin iZ ?_;rw[Around.under_plainId dI _];show wpAny _ A.in1 (pyNext (.ref I) >>= _) _ _ s;refine wpAny_bind (W.done s _ _ hst λs' hm=>?_);show wpAny _ A.in1 (Builtin.Dict.addKeywords d [] >>= λ_=>ret Value.none) _ _ s';exact wpAny_bind (wpAny_pure (wpAny_pure (hR s' (hm.mono hsub) (hD _ _ _ hDi hm.heap))))
 |succ k ih =>
  intro i s tk hk hi hst hDi htp hR;have hlt:i<n:=by omega
  refine codeAny_builtin iZ ?_;rw[Around.under_plainId dI _];show wpAny _ A.in1 (pyNext (.ref I) >>= _) _ _ s;refine wpAny_bind (W.item i s _ _ hlt hst λv s' hP hst' hm=>?_);have hv:=hval i v hP;subst hv;have hDi':D i s'.heap:=hD _ _ _ hDi hm.heap;have htp':∀j,j<n→IsTup s'.heap (ad j) #[kk j,vv j]:=λj hj=>by
   obtain⟨o,ho,r⟩:=htp j hj;exact⟨o,hm.heap _ o (hadw j hj) ho,r⟩
  obtain⟨ot,hot,hct,nt,hdt⟩:=htp' i hlt;have hT:s'.TypeIs (.ref (ad i)) "tuple":=⟨ot,hot,hct⟩;refine wpAny_bind (wpAny_holding ?_);refine wpAny_bind (wpAny_tryCatch ?_);unfold Builtin.Dict.pairItems;refine wpAny_bind (wpAny_typeOf hT ?_);rw[if_pos (by decide)];generalize hDS:dictSet=DS;obtain⟨hp,g,dr,t,os⟩:=s';obtain⟨ocls,odict,odata,oslots⟩:=ot;simp only at hct hdt;subst hct hdt
  repeat (any_goals (first|assumption|with_reducible refine wpAny_loadPart_at hot ?_|wp_step))
  subst hDS;refine step i _ _ _ hlt hDi' λh' tk' htk hsb hD'=>?_;have hsb':SameBut d hp h':=hsb;have hkeep:∀b o,b∉d::wr→hp.get? b=some o→h'.get? b=some o:=λb o hb e=>by
   rw[hsb'.2 b (λz:b=d=>hb (by rw[z];exact mem_cons_self))];exact e
  refine wpAny_pure ⟨plainId_quiet dI _,?_⟩;refine ih (i+1) _ _ (by omega) hlt (W.frame _ _ _ _ hst' htk λb hb o e=>?_) hD' (λj hj=>?_) λs'' hm'' hD''=>?_
  ·rw[hsb'.2 b (λh:b=d=>hdf (by rw[←h];exact hb))];exact e
  ·obtain⟨o,ho,r⟩:=htp' j hj;exact⟨o,hkeep _ o (had j hj) ho,r⟩
  ·exact hR s'' (Moved.trans W.gtrans ((hm.mono hsub).then_heap htk λb o hb e=>hkeep b o hb e) hm'') hD''
end
section
variable{prog:Program}{w:World}{A:Around}{E:Value→Shared→Prop}{s:Shared}
theorem eF{l:Addr}{items:Array Value}{nl:Nat}{sl:Array (Option Value)}{Q:Value→Shared→Prop}(hh:A.handled=none)(hl:s.heap.get? l=some {cls:=.type "list",dict:=none,data:=.seq items nl,slots:=sl})(ad:Nat→Addr)(kk vv:Nat→Value)(hi:∀(i:Nat) (v:Value),items[i]?=some v→v=Value.ref (ad i))(ht:∀i,i<items.size→IsTup s.heap (ad i) #[kk i,vv i])(D:Nat→Heap→Prop)(hD0:∀h',h'.get? s.heap.objs.size=some {cls:=.type "dict",data:=.dict #[]}→(∀b o,s.heap.get? b=some o→h'.get? b=some o)→D 0 h')(hD:∀i (h h':Heap),D i h→(∀b o,b≤s.heap.objs.size→h.get? b=some o→h'.get? b=some o)→D i h')(step:∀i (s':Shared) (E:Value→Shared→Prop) (Q:Unit→Shared→Prop),i<items.size→D i s'.heap→(∀h' tk,s'.toks≤tk→SameBut s.heap.objs.size s'.heap h'→D (i+1) h'→Q () {s' with heap:=h',toks:=tk}) →
   wpAny (model prog w) A.in1.in1 (dictSet s.heap.objs.size (kk i) (vv i)) Q E s')(h:∀h' tk,D items.size h'→(∀b o,s.heap.get? b=some o→h'.get? b=some o)→Q (.ref s.heap.objs.size) {s with heap:=h',toks:=tk}):
  wpAny (model prog w) A (call (.type "dict") [.ref l]) Q E s:=by
 refine callType_codes (Q₁:=λobj s₁=>obj=.ref s.heap.objs.size∧s₁={s with heap:=s.heap.push {cls:=.type "dict",data:=.dict #[]}}) F.kt_called_dict (F.kt_typeCall_dict_1 _) F.entry_dict_init (kt_code_dict_new _ ⟨rfl,rfl⟩) ?_;rintro obj s₁ ⟨rfl,rfl⟩;have hnew:(s.heap.push {cls:=.type "dict",data:=.dict #[]}).get? s.heap.objs.size=some {cls:=.type "dict",data:=.dict #[]}:=get?_push_size _ rfl;have hTd:Shared.TypeIs {s with heap:=s.heap.push {cls:=.type "dict",data:=.dict #[]}} (.ref s.heap.objs.size) "dict":=⟨_,hnew,rfl⟩
 have hl':(s.heap.push {cls:=.type "dict",data:=.dict #[]}).get? l=some {cls:=.type "list",dict:=none,data:=.seq items nl,slots:=sl}:=get?_push_of_some _ hl;have hTl:Shared.TypeIs {s with heap:=s.heap.push {cls:=.type "dict",data:=.dict #[]}} (.ref l) "list":=⟨_,hl',rfl⟩
 refine⟨hTd,F.args_dict_init_2 _ _,?_⟩;unfold Builtin.«dict.__init__»;refine wpAny_bind ?_;unfold Builtin.Dict.selfAndRest;refine wpAny_bind (wpAny_notOrdered_dict hTd ?_);show wpAny _ _ (pure (s.heap.objs.size,[Value.ref l])) _ _ _;refine wpAny_pure ?_;show wpAny _ _ (Builtin.Dict.updateFrom "dict.__init__" s.heap.objs.size (.ref l) [] .none) _ _ _;unfold Builtin.Dict.updateFrom;refine wpAny_bind (wpAny_typeOf hTl ?_);rw[if_pos (by decide)];refine wpAny_bind (uB (s:={s with heap:=s.heap.push {cls:=.type "dict",data:=.dict #[]}}) hl' (show A.in1.in1.handled=none by simp[hh]) λh1 tk1 hk1=>?_);have hk1':∀b o,(s.heap.push {cls:=.type "dict",data:=.dict #[]}).get? b=some o→h1.get? b=some o:=hk1;have hL1:h1.IsList l items:=⟨_,hk1' _ _ hl',rfl,nl,rfl⟩;rw[if_pos (show(none:Option Value).isNone=true from rfl)];refine wpAny_bind (wpAny_rule ?_);refine wpAny_bind (wpAny_pyIter_list hL1 ?_);have hlS:l<s.heap.objs.size:=lt_size hl;have hS1:s.heap.objs.size<h1.objs.size:=lt_size (hk1' _ _ hnew);have k0:∀b o,s.heap.get? b=some o→h1.get? b=some o:=λb o e=>hk1' b o (get?_push_of_some _ e);have hadlt:∀i,i<items.size→ad i<s.heap.objs.size:=λi hi'=>by
  obtain⟨o,ho,_⟩:=ht i hi';exact lt_size ho
 refine wpAny_pure ⟨plainId_quiet dI _,qG (A:=A.in1) ((Walks.list (show A.in1.in1.handled=none by simp[hh]) h1.objs.size l (ne_of_lt (lt_trans hlS hS1)) items).toS) s.heap.objs.size ?hdf ad kk vv hi ?had D ?hD' (λi s' E Q hi' hDi hq=>step i s' E Q hi' hDi hq)
  (items.size-0) 0 _ 0 (by omega) (zero_le _) ⟨⟨_,get?_push_size _ rfl,rfl,rfl⟩,hL1.push _⟩ ?hD0' ?ht' λs' hm hDn=>?_⟩
 case hdf =>
  simp only[mem_cons,not_mem_nil,or_false,not_or];exact⟨ne_of_lt hS1,ne_of_gt hlS⟩
 case had =>
  intro i hi';simp only[mem_cons,not_mem_nil,or_false,not_or];exact⟨ne_of_lt (hadlt i hi'),ne_of_lt (lt_trans (hadlt i hi') hS1)⟩
 case hD' =>
  intro i g g' hDi hk;refine hD i g g' hDi λb o hb e=>hk b o ?_ e;simp only[mem_cons,not_mem_nil,or_false];exact ne_of_lt (lt_of_le_of_lt hb hS1)
 case hD0' =>
  exact hD0 _ (get?_push_of_some _ (hk1' _ _ hnew)) λb o e=>get?_push_of_some _ (k0 b o e)
 case ht' =>
  intro j hj;obtain⟨o,ho,r⟩:=ht j hj;exact⟨o,get?_push_of_some _ (k0 _ _ ho),r⟩
 obtain⟨h',g',d',tk',os'⟩:=s';have eg:g'=s.gens:=hm.gens;have ed:d'=s.drawn:=hm.drawn;have eo:os'=s.os:=hm.os;subst eg;subst ed;subst eo;refine⟨rfl,h h' tk' hDn λb o e=>?_⟩;have hb:b<s.heap.objs.size:=lt_size e;refine hm.heap b o ?_ (get?_push_of_some _ (k0 b o e));simp only[mem_cons,not_mem_nil,or_false,not_or];exact⟨ne_of_lt hb,ne_of_lt (lt_trans hb hS1)⟩
end
end DL
namespace L2
open PySem PySem.Spec PyProof.Rows
section
variable{X:Cx}
theorem wH{pins:List (Addr×Obj)}{σ:St}{H:Hp}{s:Shared}(I:Inv X pins σ H s){a:Addr}{x y:V}(h:H a=some (.tup [x,y])):∃u v,aI x u∧aI y v∧IsTup s.heap a #[u,v]:=by
 obtain⟨_,its,r,ht⟩:=I.hok a _ h;cases r with
 |cons r1 r =>
  cases r with
  |cons r2 r=>cases r;exact⟨_,_,r1,r2,by simpa using ht⟩
theorem mw{κ:Type}{pins:List (Addr×Obj)}{σ:St}{H:Hp}{s:Shared}(I:Inv X pins σ H s){zs:List (Addr×κ×V)}(kf:Addr×κ×V→V)(hk:∀z∈zs,H z.1=some (.tup [kf z,z.2.2])):
  ∃f:Addr×κ×V→Value×Value,∀z∈zs,aI (kf z) (f z).1∧aI z.2.2 (f z).2∧IsTup s.heap z.1 #[(f z).1,(f z).2]:=by
 have hch:∀z:Addr×κ×V,∃p:Value×Value,z∈zs→aI (kf z) p.1∧aI z.2.2 p.2∧IsTup s.heap z.1 #[p.1,p.2]:=λz=>by
  by_cases hz':z∈zs
  ·obtain⟨u,v,a,b,c⟩:=wH I (hk z hz');exact⟨(u,v),λ_=>⟨a,b,c⟩⟩
  ·exact⟨(.none,.none),λh=>absurd h hz'⟩
 exact⟨λz=>Classical.choose (hch z),λz hz=>Classical.choose_spec (hch z) hz⟩
theorem cY{α:Type}{l:List α}{i:Nat}{d:α}(h:i<l.length):l.getD i d∈l∧l[i]?=some (l.getD i d):=by
 rw[getD_eq_getElem?_getD,getElem?_eq_getElem h];exact⟨getElem_mem h,rfl⟩
theorem jP{κ:Type}{zs:List (Addr×κ×V)}{d:Addr×κ×V}{i:Nat}{v:Value}(h:(((zs.map (·.1)).map Value.ref).toArray)[i]?=some v):v=Value.ref (zs.getD i d).1:=by
 have h':((zs.map (·.1)).map Value.ref)[i]?=some v:=by simpa using h
 rw[getElem?_map,getElem?_map]at h';rw[getD_eq_getElem?_getD];cases e:zs[i]? with
 |none=>rw[e]at h';cases h'
 |some z=>rw[e]at h';exact(Option.some.inj h').symm
theorem bh{α:Type}{l:List α}{i:Nat}{x:α}(h:l[i]?=some x):l.take (i+1)=l.take i++[x]:=by rw[take_succ,h];rfl
theorem qH{α κ:Type}{l:List α}{f:α→κ}{i:Nat}{x:α}(hn:(l.map f).Nodup)(h:l[i]?=some x):f x∉(l.take i).map f:=by
 intro hm;obtain⟨y,hy,e⟩:=mem_map.mp hm;obtain⟨j,hj,e2⟩:=mem_iff_getElem.mp hy;have hj':j<i:=by rw[length_take]at hj;omega
 have hi:i<l.length:=(List.getElem?_eq_some_iff.mp h).1;have e3:(l.map f)[j]'(by rw[length_map];omega)=(l.map f)[i]'(by rw[length_map];omega):=by
  rw[getElem_map,getElem_map];rw[List.getElem_take]at e2;rw[e2,e,(List.getElem?_eq_some_iff.mp h).2]
 have:=(getElem_inj hn).mp e3;omega
theorem ic(hc:X.calm=true):cn X (.type "dict") (λxs H Q=>∃l,∃zs:List (Addr×Key×V),xs=[.ref l]∧H l=some (.lst ((zs.map (·.1)).map V.ref))∧(∀z∈zs,H z.1=some (.tup [kV z.2.1,z.2.2]))∧zs.length≤1000 ∧
  (zs.map (·.2.1)).Nodup∧((∀d o,H d=none→Q (.ref d) (upd H d (.frz o (.dK (zs.map (·.2))))))∨∀d,H d=none→Q (.ref d) (upd H d (.dK (zs.map (·.2)))))):=by
 intro pins s σ H xs us Q I r h;obtain⟨l,zs,rfl,hl,hk,hz,hnd,q⟩:=h;obtain⟨u,rfl,ru⟩:=ee r;cases ru;obtain⟨_,its,nl,rv,ho⟩:=I.hok l _ hl;have e:=dz rv;subst e;obtain⟨f,hf⟩:=mw I (λz=>kV z.2.1) hk;have hsz:(((zs.map (·.1)).map Value.ref).toArray).size=zs.length:=by simp
 refine DL.eF (s:=s) (I.ok.hd hc) ho (λi=>(zs.getD i (0,.inl 0,.non)).1) (λi=>(f (zs.getD i (0,.inl 0,.non))).1) (λi=>(f (zs.getD i (0,.inl 0,.non))).2) (λi v hv=>jP hv) (λi hi=>?_)
  (λi h'=>h'.DictOf (aQ X.prog X.w) s.heap.objs.size ((zs.take i).map λz=>(z.2.1,(f z).2))) (λh' hg _=>?_) (λi g g' hd hk=>?_) (λi s' E Q hi hd hq=>?_) λh' tk hd hkeep=>?_
 ·rw[hsz]at hi;exact(hf _ (cY hi).1).2.2
 ·exact⟨_,#[],0,hg,⟨rfl,rfl,rfl⟩,rfl,λ_ he=>by simp at he,Pairs.nil,nodup_nil⟩
 ·obtain⟨o,es,ep,ho,r⟩:=hd;exact⟨o,es,ep,hk _ o (le_refl _) ho,r⟩
 ·rw[hsz]at hi;obtain⟨hm,hg⟩:=cY (d:=((0,.inl 0,.non):Addr×Key×V)) hi;refine wpAny_dictSet_pairs (hsz:=by rw[length_map,length_take];have:=ax hz;omega) (k:=(zs.getD i (0,.inl 0,.non)).2.1) (eY (hf _ hm).1) hd λh' hd' hs=>hq h' _ (le_succ _) hs ?_;have e1:=bh hg;have e2:=qH hnd hg;rw[e1,map_append];unfold stored at hd';rw[if_neg]at hd'
  ·exact hd'
  ·intro ha;obtain⟨p,hp,he⟩:=any_eq_true.mp ha;obtain⟨z,hz',rfl⟩:=mem_map.mp hp;exact e2 (mem_map.mpr ⟨z,hz',of_decide_eq_true he⟩)
 ·rw[hsz,take_length]at hd;obtain⟨ob,hob⟩:∃ob,h'.get? s.heap.objs.size=some ob:=let⟨o,_,_,ho,_⟩:=hd;⟨o,ho⟩;have hrel:KV (zs.map (·.2)) (zs.map λz=>(z.2.1,(f z).2)):=by
   have:∀ys:List (Addr×Key×V),(∀z∈ys,z∈zs)→KV (ys.map (·.2)) (ys.map λz=>(z.2.1,(f z).2)):=by
    intro ys
    induction ys with
    |nil=>intro _;exact .nil
    |cons z ys ih=>intro hm;exact .cons ⟨rfl,(hf z (hm z (by simp))).2.1⟩ (ih λy hy=>hm y (by simp[hy]))
   exact this zs λz hz=>hz
  have hdk:∀H':Hp,ba X.prog X.w H' h' s.heap.objs.size (.dK (zs.map (·.2))):=λH'=>iL (le_of_lt (ax (by rw[length_map];exact hz))) (beq_eq_false_iff_ne.mpr (symm (ne_of_lt I.big))) hrel hd;rcases q with q|q
  ·exact⟨.ref s.heap.objs.size,_,I.laid (t':=tk) (o:=.frz ob (.dK (zs.map (·.2)))) hkeep (le_refl _) ⟨hob,hdk _⟩,rfl,q _ ob (I.hok.fresh (le_refl _))⟩
  ·exact⟨.ref s.heap.objs.size,_,I.laid (t':=tk) (o:=.dK (zs.map (·.2))) hkeep (le_refl _) (hdk _),rfl,q _ (I.hok.fresh (le_refl _))⟩
theorem oa(hc:X.calm=true):cn X (.type "dict") (λxs H Q=>∃l,∃zs:List (Addr×Key×V),xs=[.ref l]∧H l=some (.lst ((zs.map (·.1)).map V.ref))∧(∀z∈zs,H z.1=some (.tup [kV z.2.1,z.2.2]))∧zs.length≤1000∧(zs.map (·.2.1)).Nodup∧∀d o,H d=none→Q (.ref d) (upd H d (.frz o (.dK (zs.map (·.2)))))) :=
 λpins s σ H xs us Q I r ⟨l,zs,h1,h2,h3,h4,h5,q⟩=>ic hc pins s σ H xs us Q I r ⟨l,zs,h1,h2,h3,h4,h5,.inl q⟩
theorem mG(hc:X.calm=true):cn X (.type "dict") (λxs H Q=>∃l,∃zs:List (Addr×Key×V),xs=[.ref l]∧H l=some (.lst ((zs.map (·.1)).map V.ref))∧(∀z∈zs,H z.1=some (.tup [kV z.2.1,z.2.2]))∧zs.length≤1000∧(zs.map (·.2.1)).Nodup∧∀d,H d=none→Q (.ref d) (upd H d (.dK (zs.map (·.2))))) :=
 λpins s σ H xs us Q I r ⟨l,zs,h1,h2,h3,h4,h5,q⟩=>ic hc pins s σ H xs us Q I r ⟨l,zs,h1,h2,h3,h4,h5,.inr q⟩
end
def wI(h:Heap)(d:Addr)(es:Array DictEntry)(ep:Nat):Prop:=∃o,h.get? d=some o∧o.ExactDict∧o.data=.dict es ep
section
variable{prog:Program}{w:World}{A:Around}{E:Value→Shared→Prop}{s:Shared}
theorem rZ{d:Addr}{es:Array DictEntry}{ep:Nat}{Q:Value→Shared→Prop}(hd:(d==sysModules)=false)(hm:wI s.heap d es ep)(hQ:Q (.ref s.heap.objs.size) {s with heap:=s.heap.push {cls:=.type "dict_keyiterator",data:=.fields #[.ref d,.int 0 0,.int es.size 0,.int ep 0]}}):
  wpAny (model prog w) A (pyIter (.ref d)) Q E s:=by
 obtain⟨o,ho,hc,hdat⟩:=id hm;have hT:s.TypeIs (.ref d) "dict":=⟨o,ho,hc.1⟩;refine wpAny_pyIter_slot hT PySem.F.slot_dict_iter (wpAny_call_entry PySem.F.slot_dict_iter hT PySem.F.entry_dict_iter ?_ (PySem.F.args_dict_iter_1 _));unfold Builtin.«dict.__iter__»;refine wpAny_bind ?_;unfold Builtin.Dict.dictSlotNone;refine wpAny_bind (wpAny_notOrdered_dict hT ?_);show wpAny _ _ (pure (Value.ref d)) _ _ s;refine wpAny_pure ?_;show wpAny _ _ (Builtin.Dict.showsAll d >>= _) _ _ s;unfold Builtin.Dict.showsAll;rw[if_neg (by rw[hd];exact Bool.false_ne_true)];refine wpAny_bind (wpAny_pure ?_);refine wpAny_bind (wpAny_dictEntries ho hdat ?_);refine wpAny_bind (wpAny_dictEpoch ho hdat ?_);refine wpAny_bind (wpAny_newObj_type (wpAny_pure ⟨_,rfl,"dict_keyiterator",_,⟨_,get?_push_size _ rfl,rfl⟩,slot_dict_keyiterator_next.lookup,?_⟩));simpa [rawInt]using hQ
theorem si{it d:Addr}{i ep:Nat}{es:Array DictEntry}{e:DictEntry}{Q:Option Value→Shared→Prop}(hit:s.heap.IsKeyIter it d i es.size ep)(hm:wI s.heap d es ep)(hx:es[i]?=some e)(hQ:∀h',h'.IsKeyIter it d (i+1) es.size ep→SameBut it s.heap h'→Q (some e.key) {s with heap:=h'}):
  wpAny (model prog w) A (pyNext (.ref it)) Q E s:=by
 obtain⟨o,ho,hc,hd⟩:=id hit;obtain⟨od,hod,hcd,hdd⟩:=id hm;unfold pyNext;refine wpAny_bind (wpAny_attempt (wpAny_callSpecial?_slot (name:=ofString "__next__") hit.typeIs slot_dict_keyiterator_next
  (wpAny_call_entry slot_dict_keyiterator_next hit.typeIs PySem.F.entry_dict_keyiterator_next ?_ (PySem.F.args_dict_keyiterator_next_1 _))))
 refine wpAny_bind (wpAny_pure ?_);refine wpAny_bind ?_;refine wpAny_bind ?_
 first|refine wpAny_bind (wpAny_typeNameOfWhole_keyiter hit.typeIs (wpAny_pure ?_))|refine wpAny_bind (wpAny_typeNameOf_keyiter hit.typeIs (wpAny_pure ?_))
 refine wpAny_bind (wpAny_fieldsOf ho hd ?_);have hown:Builtin.Dict_items.ownsTuple "dict_keyiterator"=false:=by decide
 simp only[hown,false_eq_true,if_false];show wpAny _ _ (if (Value.ref d==Value.none)=true then _ else _) _ _ s
 rw[if_neg (show ¬((Value.ref d==Value.none)=true)from Bool.false_ne_true)];refine wpAny_bind (wpAny_pure ?_);refine wpAny_bind (wpAny_dictEntries hod hdd ?_);rw[if_neg (by simp)];refine wpAny_bind (wpAny_pure ?_);refine wpAny_bind (wpAny_dictEpoch hod hdd ?_);rw[if_neg (by simp)];refine wpAny_pure ?_;have hlt':i<es.size:=(Array.getElem?_eq_some_iff.mp hx).1;have he:es[i]=e:=(Array.getElem?_eq_some_iff.mp hx).2;simp only[show ¬((i:Int)<0)from by omega,if_false,toNat_natCast,Array.getElem?_eq_getElem hlt'];refine wpAny_bind ?_
 first|refine wpAny_bind (wpAny_typeNameOfWhole_keyiter hit.typeIs (wpAny_pure ?_))|refine wpAny_bind (wpAny_typeNameOf_keyiter hit.typeIs (wpAny_pure ?_))
 refine wpAny_bind (wpAny_isOneOf_keyiter hit.typeIs ?_);show wpAny _ _ (setField (.ref it) 1 (rawInt ((i:Int)+1)) >>= _) _ _ s;refine wpAny_bind (wpAny_setField ho hd (by simp) ?_);have hit':(s.heap.update it (Obj.mapFields (·.setIfInBounds 1 (rawInt ((i:Int)+1))))).IsKeyIter it d (i+1) es.size ep :=
  ⟨_,Heap.get?_update_self _ ho (Obj.isFreed_of_fields (Obj.data_mapFields hd _)),(Obj.cls_mapFields ..).trans hc,by rw[Obj.data_mapFields hd];simp[rawInt]⟩
 refine wpAny_bind (wpAny_holding ?_);refine wpAny_bind (wpAny_isOneOf_keyiter (s:={s with heap:=s.heap.update it (Obj.mapFields (·.setIfInBounds 1 (rawInt ((i:Int)+1))))}) hit'.typeIs ?_)
 show wpAny _ _ (pure es[i].key) _ _ _;rw[he];exact wpAny_pure (wpAny_pure ⟨_,rfl,wpAny_pure (hQ _ hit' (SameBut.update ..))⟩)
theorem uC{it d:Addr}{i ep:Nat}{es:Array DictEntry}{Q:Option Value→Shared→Prop}(hh:A.handled=none)(hit:s.heap.IsKeyIter it d i es.size ep)(hm:wI s.heap d es ep)(hge:es.size≤i)(hQ:∀h',ExtBut it s.heap h'→Q none {s with heap:=h'}):wpAny (model prog w) A (pyNext (.ref it)) Q E s:=by
 obtain⟨o,ho,hc,hd⟩:=id hit;obtain⟨od,hod,hcd,hdd⟩:=id hm;unfold pyNext;refine wpAny_bind (wpAny_attempt (wpAny_callSpecial?_slot (name:=ofString "__next__") hit.typeIs slot_dict_keyiterator_next
  (wpAny_call_entry slot_dict_keyiterator_next hit.typeIs PySem.F.entry_dict_keyiterator_next ?_ (PySem.F.args_dict_keyiterator_next_1 _))))
 refine wpAny_bind (wpAny_pure ?_);refine wpAny_bind ?_;refine wpAny_bind ?_
 first|refine wpAny_bind (wpAny_typeNameOfWhole_keyiter hit.typeIs (wpAny_pure ?_))|refine wpAny_bind (wpAny_typeNameOf_keyiter hit.typeIs (wpAny_pure ?_))
 refine wpAny_bind (wpAny_fieldsOf ho hd ?_);have hown:Builtin.Dict_items.ownsTuple "dict_keyiterator"=false:=by decide
 simp only[hown,false_eq_true,if_false];show wpAny _ _ (if (Value.ref d==Value.none)=true then _ else _) _ _ s
 rw[if_neg (show ¬((Value.ref d==Value.none)=true)from Bool.false_ne_true)];refine wpAny_bind (wpAny_pure ?_);refine wpAny_bind (wpAny_dictEntries hod hdd ?_);rw[if_neg (by simp)];refine wpAny_bind (wpAny_pure ?_);refine wpAny_bind (wpAny_dictEpoch hod hdd ?_);rw[if_neg (by simp)];refine wpAny_pure ?_;simp only[show ¬((i:Int)<0)from by omega,if_false,toNat_natCast,Array.getElem?_eq_none hge];refine wpAny_bind ?_
 first|refine wpAny_bind (wpAny_typeNameOfWhole_keyiter hit.typeIs (wpAny_pure ?_))|refine wpAny_bind (wpAny_typeNameOf_keyiter hit.typeIs (wpAny_pure ?_))
 show wpAny _ _ (setField (.ref it) 0 .none >>= _) _ _ s;refine wpAny_bind (wpAny_setField ho hd (by simp) ?_);show wpAny _ _ (newExc (.type "StopIteration") [] >>= _) _ _ _;refine wpAny_bind ?_;simp only[newExc,newTuple];refine wpAny_bind (wpAny_newObj_type ?_ (by size_fits));refine wpAny_bind (m:=firstArgMember _ _) (wpAny_of_eq (a:=Value.none) (by first|rfl|(simp only[firstArgMember];rfl)) ?_)
 refine wpAny_newObj_type ?_ (by size_fits);simp only[raiseNew];refine wpAny_bind (wpAny_handled ?_);rw[show A.in1.handled=none from hh];refine wpAny_bind (wpAny_pure (wpAny_throw ?_));refine wpAny_bind (wpAny_isInstance (T:="StopIteration") (b:=true) ⟨_,get?_push_size _ rfl,rfl⟩ isSubtype_stop ?_);exact wpAny_pure (hQ _ (((SameBut.update ..).extBut.push _).push _))
end
def Itk(d:Addr)(o:Obj)(u:HO)(ks:List V):It:=⟨λi H=>H d=some (.frz o u)∧i<ks.length,λi H x H'=>H'=H∧ks[i]?=some x,λi H=>H d=some (.frz o u)∧ks.length≤i⟩
theorem qI{P:Program}{w:World}{K:PySem.W.Frag}{tg:Expr}{d it:Addr}{o:Obj}{u:HO}{es:Array DictEntry}{ep:Nat}{ks:List V}(hx:o.ExactDict)(hd:o.data=.dict es ep)(hv:aB ks (es.toList.map (·.key))):
  Turn P w K tg (Itk d o u ks) [it] it (λi h=>h.IsKeyIter it d i es.size ep) where
 mem:=by simp
 obj:=λi h st b hb=>by
  have e:b=it:=by simpa using hb
  subst e;obtain⟨o,e,c,d⟩:=st;exact⟨o,e,λv z=>by rw[d]at z;cases z⟩
 keep:=λi h h' st k=>st.at λo e=>k it (by simp) o e
 item:=by
  intro X hP hw hK hc i pins s σ H E I hf st hg;subst hP hw hK;obtain⟨hH,hi⟩:=hg;have ho:=(I.hok d _ hH).1;have hl:ks.length=es.size:=by rw[hv.length,length_map,length_toList]
  have hi':i<es.size:=by omega
  obtain⟨v,hv1,hv2⟩:=hv.get (getElem?_eq_getElem hi);obtain⟨f0,f1,f2,f3,f4,f5⟩:=hf it (by simp);have ev:v=es[i].key:=by
   rw[getElem?_map,getElem?_toList,Array.getElem?_eq_getElem hi']at hv1;exact(Option.some.inj hv1).symm
  refine si st ⟨o,ho,hx,hd⟩ (Array.getElem?_eq_getElem hi') λh' st' sb=>?_;have I1:Inv X pins σ H {s with heap:=h'}:=I.turned (t':=s.toks) (λb o hb e=>(sb.2 b hb).trans e) f0 f1 f3 f4 f5
  obtain⟨oi,e,c,dd⟩:=id st';exact⟨_,rfl,lG (s:={s with heap:=h'}) e c dd (by decide) ⟨ks[i],H,I1,ev ▸ hv2,⟨rfl,getElem?_eq_getElem hi⟩,st',λb hb=>(hf b hb).1⟩⟩
 done:=by
  intro X hP hw hK hc i pins s σ H E I hf st hg;subst hP hw hK;obtain⟨hH,hi⟩:=hg;have ho:=(I.hok d _ hH).1;have hl:ks.length=es.size:=by rw[hv.length,length_map,length_toList]
  obtain⟨f0,f1,f2,f3,f4,f5⟩:=hf it (by simp);exact uC (I.ok.hd hc) st ⟨o,ho,hx,hd⟩ (by omega) λh' eb=>⟨rfl,I.turned (t':=s.toks) (λb o hb e=>eb b o hb e) f0 f1 f3 f4 f5⟩
 self:=λ_ _ _ _ _ st h=>wpAny_pyIter_keyiter st h
section
variable{X:Cx}{tg:Expr}
def iDF(td:TE):TI:=λσ H R=>td σ H λv H1=>∃d o kvs,v=.ref d∧H1 d=some (.frz o (.dK kvs))∧R (Itk d o (.dK kvs) (kvs.map λp=>kV p.1)) H1
theorem yk{l:Expr}{tl:TE}(hl:PE X l tl):PI X tg l (iDF tl):=by
 intro pins s σ H R I h;refine thn (hl pins s σ H _ I h) λv s1 hpt=>?_;obtain⟨x,H1,I1,r1,q1⟩:=hpt;obtain⟨d,o,kvs,e,hH,q⟩:=q1;subst e;cases r1;obtain⟨ho,_,hsm,vs,rel,o',es,ep,ho',hx,hd,hk,hp,hn⟩:=I1.hok d _ hH;rw[ho]at ho';cases ho';refine rZ hsm ⟨o,ho,hx,hd⟩ ?_;refine⟨s1.heap.objs.size,[s1.heap.objs.size],_,_,H1,rfl,I1.kept (t':=s1.toks) λb o e=>get?_push_of_some _ e,qI hx hd ?_,⟨_,get?_push_size _ rfl,rfl,rfl⟩,λb hb=>?_,q⟩
 ·have key:∀(es:List DictEntry)(vs:List (Key×Value))(kvs:List (Key×V)),Pairs (aQ X.prog X.w) es vs→KV kvs vs→aB (kvs.map λp=>kV p.1) (es.map (·.key)):=by
   intro es vs kvs hp
   induction hp generalizing kvs with
   |nil=>intro r;cases r;exact .nil
   |cons h1 h2 _ ih =>
    intro r;cases r with
    |cons r1 r2 =>
     refine .cons ?_ (ih _ r2);dsimp only;rw[r1.1];rcases aV h1 with⟨i,t,e1,e2⟩|⟨x,t,e1,e2⟩
     ·rw[e1,e2];exact⟨t,rfl⟩
     ·rw[e1,e2];exact⟨t,rfl⟩
  exact key _ _ _ hp rel
 ·have e:b=s1.heap.objs.size:=by simpa using hb
  subst e;exact I1.fpOk (le_refl _) (I1.hok.fresh (le_refl _))
end
section
variable{prog:Program}{w:World}{A:Around}{E:Value→Shared→Prop}{s:Shared}
end
section
variable{X:Cx}
end
end L2
namespace HT
open PySem PyProof.Rows
section
open PySem.SeqAt
open PySem.AutoSeq1 (wpAny_loadPart')
open PySem.MeetsSeq PySem.MeetsSeq2 PySem.MeetsSeq3
end
section
variable{prog:Program}{w:World}{A:Around}{E:Value→Shared→Prop}{s:Shared}
end
end HT
namespace L2
open PySem PySem.Spec PyProof.Rows
section
variable{X:Cx}
theorem qJ{α:Type}{zs:List α}{val:α→V}{d:α}:∀{us:List Value},aB (zs.map val) us→∀(ps:List Nat),(∀i∈ps,i<zs.length)→aB ((ps.map λi=>zs.getD i d).map val) (ps.map λi=>us.getD i Value.none):=by
 intro us rv ps
 induction ps with
 |nil=>intro _;exact .nil
 |cons i ps ih =>
  intro h;refine .cons ?_ (ih λj hj=>h j (by simp[hj]));have hi:=h i (by simp);obtain⟨u,hu,r⟩:=rv.get (i:=i) (x:=val (zs.getD i d)) (by rw[getElem?_map,(cY (d:=d) hi).2];rfl);have:us.getD i Value.none=u:=by rw[getD_eq_getElem?_getD,hu];rfl
  show aI (val (zs.getD i d)) (us.getD i Value.none);rw[this];exact r
theorem mH{α:Type}{zs:List α}{val:α→V}{d:α}{us:List Value}{f:α→α→Bool}{l:Addr}{pins:List (Addr×Obj)}{σ:St}{H:Hp}{s:Shared}{Q:VK}{κ:SortKind}{E:Value→Shared→Prop}(I:Inv X pins σ H s)(rv:aB (zs.map val) us)(O:SRT.Ord (λi j=>f (zs.getD i d) (zs.getD j d)) zs.length)(pl:s.heap.IsList l us.toArray)(h64:zs.length<64)(hk:∀(A':Around) (s':Shared),A'.units≤X.A.units+2→(∀b o,s.heap.get? b=some o→s'.heap.get? b=some o)→∀Q:SortKind→Shared→Prop,2≤zs.length→Q κ s'→wpAny (model X.prog X.w) A' (keyKind' us.toArray) Q (λ_ _=>False) s')(hlt:∀(A':Around) (s':Shared),A'.units≤X.A.units+2→(∀b o,s.heap.get? b=some o→s'.heap.get? b=some o)→∀(i j:Nat) (C:Bool→Shared→Prop),i<zs.length→j<zs.length→C (f (zs.getD i d) (zs.getD j d)) s'→wpAny (model X.prog X.w) A' (keyLt' κ (us.getD i Value.none) (us.getD j Value.none)) C (λ_ _=>False) s')(q:∀zs':List α,zs'.Perm zs→zs'.Pairwise (λa b=>f a b=true)→∀p,H p=none→Q (.ref p) (upd H p (.lst (zs'.map val)))):wpAny (model X.prog X.w) X.A (call (.builtin "sorted") [.ref l]) (EP X pins σ Q) E s:=by
 have hlen:us.length=zs.length:=by rw[←rv.length,length_map]
 refine SRT.qA (κ:=κ) (f:=λi j=>f (zs.getD i d) (zs.getD j d)) (by rw[hlen];exact O) pl (by rw[hlen];exact h64) (λA' s' h1 h2 Q' h3=>hk A' s' h1 h2 Q' (by omega)) (λA' s' h1 h2 i j C hi hj=>hlt A' s' h1 h2 i j C (by omega) (by omega)) ?_;intro p h' hrow hup kp _ hg;obtain⟨c,hg⟩:=hg;rw[hlen]at hrow hup;have hin:∀i∈p.toList,i<zs.length:=λi hi=>mem_range.mp (hrow.perm.mem_iff.mp hi);have hperm:(p.toList.map λi=>zs.getD i d).Perm zs:=by
  refine(hrow.perm.map _).trans ?_;have:(List.range zs.length).map (λi=>zs.getD i d)=zs:=by
   apply ext_getElem?;intro i;rw[getElem?_map]
   by_cases hi:i<zs.length
   ·rw[getElem?_range hi,(cY (d:=d) hi).2];rfl
   ·rw[getElem?_eq_none (by rw[length_range];omega),getElem?_eq_none (by omega)];rfl
  rw[this]
 have hpl:p.size=zs.length:=hrow.size;have hpw:(p.toList.map λi=>zs.getD i d).Pairwise (λa b=>f a b=true):=by
  rw[List.pairwise_iff_getElem];intro i j hi hj hij;have hi':i<p.size:=by rw[length_map,length_toList]at hi;exact hi
  have hj':j<p.size:=by rw[length_map,length_toList]at hj;exact hj
  have:=hup i j hij (by omega);simp only[]at this;rw[getD_eq_getD_getElem?,getD_eq_getD_getElem?,Array.getElem?_eq_getElem hi',Array.getElem?_eq_getElem hj']at this;simpa using this
 refine⟨.ref (s.heap.objs.size+1),_,I.laid (t':=s.toks) (o:=.lst ((p.toList.map λi=>zs.getD i d).map val)) kp (le_succ _) ⟨?_,_,c,qJ rv p.toList hin,hg⟩,rfl,q _ hperm hpw _ (I.hok.fresh (le_succ _))⟩;rw[length_map,hperm.length_eq,sizeLine_eq];omega
theorem uD{ns:List Int}{us:List Value}(r:aB (ns.map V.int) us):IntsAre us ns:=nP r
theorem gZ:cn X (.builtin "sorted") (λxs H Q=>∃l,∃ns:List Int,xs=[.ref l]∧H l=some (.lst (ns.map V.int))∧ns.Nodup∧ns.length<64 ∧
  ∀ms:List Int,ms.Perm ns→ms.Pairwise (λa b=>a<b)→∀p,H p=none→Q (.ref p) (upd H p (.lst (ms.map V.int)))):=by
 intro pins s σ H xs us Q I r h;obtain⟨l,ns,rfl,hl,hnd,h64,q⟩:=h;obtain⟨u,rfl,ru⟩:=ee r;cases ru;obtain⟨_,its,n,rv,ho⟩:=I.hok l _ hl;have hI:=uD rv;have hlen:its.length=ns.length:=by rw[←rv.length,length_map]
 refine mH (val:=V.int) (d:=(0:Int)) (f:=λa b=>decide (a<b)) (κ:=oneType') I rv ⟨λi _=>by simp,λi j k _ _ _ h1 h2=>?_,λi j hi hj hij=>?_⟩ ⟨_,ho,rfl,n,rfl⟩ h64 (λA' s' _ _ Q' h2 hQ=>?_) (λA' s' _ _ i j C hi hj hC=>?_) λzs' h1 h2 p hp=>q zs' h1 (h2.imp λh=>by simpa using h) p hp
 ·simp only[decide_eq_true_eq]at *;omega
 ·simp only[decide_eq_true_eq];have:ns.getD i 0≠ns.getD j 0:=by
   rw[getD_eq_getElem?_getD,getD_eq_getElem?_getD,getElem?_eq_getElem hi,getElem?_eq_getElem hj];exact λe=>hij ((getElem_inj hnd).mp e)
  omega
 ·rw[ksk_kind (keys:=its.toArray) (kz:=ns) (by simpa using hI) (by rw[size_toArray];omega)];exact wpAny_pure hQ
 ·have gi:∀i,i<ns.length→∃t,its.getD i Value.none=.int (ns.getD i 0) t:=λi hi=>by
   obtain⟨v,hv,r⟩:=rv.get (i:=i) (x:=.int (ns.getD i 0)) (by rw[getElem?_map,(cY (d:=(0:Int)) hi).2];rfl);obtain⟨t,rfl⟩:=r;exact⟨t,by rw[getD_eq_getElem?_getD,hv];rfl⟩
  obtain⟨t,e1⟩:=gi i hi;obtain⟨t',e2⟩:=gi j hj;rw[e1,e2];exact kat_lt_int hC
end
def mJ(H:Hp):Nat→V→V→Prop
 |0,x,y=>x=y∧cy x=true
 |n+1,x,y=>(x=y∧cy x=true)∨∃a b xs ys,x=.ref a∧y=.ref b∧H a=some (.tup xs)∧H b=some (.tup ys)∧xs.length=ys.length∧∀(i:Nat) x' y',xs[i]?=some x'→ys[i]?=some y'→mJ H n x' y'
theorem mQ{x:V}(f:cy x=true):eqV x x=true:=by
 cases x<;>first|rfl|(simp[eqV];done) | (exact absurd (show false=true from f) Bool.false_ne_true)
theorem fH{H:Hp}{n:Nat}{x y:V}(h:x=y∧cy x=true):mJ H n x y:=by
 cases n with
 |zero=>exact h
 |succ n=>exact .inl h
section
variable{X:Cx}{pins:List (Addr×Obj)}{σ:St}{H:Hp}{s:Shared}
theorem sj(I:Inv X pins σ H s):∀(n:Nat){A:Around}{x y:V}{u v:Value},aI x u→aI y v→mJ H n x y→A.units+n<cLine→EqAt A s u v true:=by
 intro n
 induction n with
 |zero =>
  intro A x y u v ru rv h hu;obtain⟨e,f⟩:=h;subst e;have:=kr (A:=A) (s:=s) ru rv f f;rw[mQ f]at this;exact this
 |succ n ih =>
  intro A x y u v ru rv h hu;rcases h with⟨e,f⟩|⟨a,b,xs,ys,rfl,rfl,ha,hb,hl,hx⟩
  ·subst e;have:=kr (A:=A) (s:=s) ru rv f f;rw[mQ f]at this;exact this
  ·cases ru;cases rv
   by_cases hab:a=b
   ·subst hab;exact EqAt.same _
   ·obtain⟨_,us,r1,t1⟩:=I.hok a _ ha;obtain⟨_,ws,r2,t2⟩:=I.hok b _ hb;have l1:=r1.length;have l2:=r2.length;have:=SeqAt.RcAt.tuples (A:=A) (s:=s) (e:=λ_=>true) t1 t2 (by omega) (λj h1 h2=>by
     have h1':j<xs.length:=by rw[l1];simpa using h1
     have h2':j<ys.length:=by rw[l2];simpa using h2
     obtain⟨u',hu1,hu2⟩:=r1.get (getElem?_eq_getElem h1');obtain⟨v',hv1,hv2⟩:=r2.get (getElem?_eq_getElem h2');have e1:us.toArray[j]=u':=by
      have:us[j]?=some us.toArray[j]:=by rw[getElem?_eq_getElem (by simpa using h1)];simp
      rw[hu1]at this;exact(Option.some.inj this).symm
     have e2:ws.toArray[j]=v':=by
      have:ws[j]?=some ws.toArray[j]:=by rw[getElem?_eq_getElem (by simpa using h2)];simp
      rw[hv1]at this;exact(Option.some.inj this).symm
     rw[e1,e2];exact ih hu2 hv2 (hx j _ _ (getElem?_eq_getElem h1') (getElem?_eq_getElem h2')) (by simp[Around.in1_units];omega))
    have e3:((List.range (min us.toArray.size ws.toArray.size)).all (λ_=>true)&&us.toArray.size==ws.toArray.size)=true:=by
     have:us.toArray.size=ws.toArray.size:=by simp only[size_toArray];omega
     simp[this]
    rw[e3]at this;exact EqAt.of_refs hab this
def dA(H:Hp)(xs ys:List V):Prop:=xs.length=ys.length∧∀(i:Nat) x y,xs[i]?=some x→ys[i]?=some y→mJ H 3 x y
theorem gI{pins:List (Addr×Obj)}{σ:St}{H:Hp}{s:Shared}(I:Inv X pins σ H s){xs ys:List V}{us ws:List Value}(r1:aB xs us)(r2:aB ys ws)(h:dA H xs ys){A:Around}(hu:A.units+3<cLine):
  ∀j (h1:j<us.toArray.size) (h2:j<ws.toArray.size),EqAt A s us.toArray[j] ws.toArray[j] true:=λj h1 h2=>by
 have h1':j<xs.length:=by rw[r1.length];simpa using h1
 have h2':j<ys.length:=by rw[r2.length];simpa using h2
 obtain⟨u',hu1,hu2⟩:=r1.get (getElem?_eq_getElem h1');obtain⟨v',hv1,hv2⟩:=r2.get (getElem?_eq_getElem h2');have e1:us.toArray[j]=u':=by
  have:us[j]?=some us.toArray[j]:=by rw[getElem?_eq_getElem (by simpa using h1)];simp
  rw[hu1]at this;exact(Option.some.inj this).symm
 have e2:ws.toArray[j]=v':=by
  have:ws[j]?=some ws.toArray[j]:=by rw[getElem?_eq_getElem (by simpa using h2)];simp
  rw[hv1]at this;exact(Option.some.inj this).symm
 rw[e1,e2];exact sj I 3 hu2 hv2 (h.2 j _ _ (getElem?_eq_getElem h1') (getElem?_eq_getElem h2')) hu
theorem sm(hu:X.A.units+4<cLine):OpR X (compareOp .NotEq) (λx y H Q=>rNe x y H Q∨(∃a b xs ys,x=.ref a∧y=.ref b∧dA H xs ys∧((H a=some (.lst xs)∧H b=some (.lst ys))∨(H a=some (.tup xs)∧H b=some (.tup ys)))∧Q (.bl false) H)):=by
 intro pins s σ H x y v u Q I rx ry h;rcases h with h|⟨a,b,xs,ys,rfl,rfl,hx,h,q⟩
 ·exact ib pins s σ H x y v u Q I rx ry h
 ·cases rx;cases ry;rcases h with⟨ha,hb⟩|⟨ha,hb⟩
  ·obtain⟨_,us,n1,r1,o1⟩:=I.hok a _ ha;obtain⟨_,ws,n2,r2,o2⟩:=I.hok b _ hb;have hl:=hx.1;have l1:=r1.length;have l2:=r2.length;refine RcNeAt.lists (e:=λ_=>true) ⟨_,o1,rfl,n1,rfl⟩ ⟨_,o2,rfl,n2,rfl⟩ (by simp only[size_toArray];omega) (by omega) (gI I r1 r2 hx (by simp[Around.in1_units];omega)) _ _ _ _ ⟨.bl false,H,I,?_,q⟩;show _=Value.bool false;simp
  ·obtain⟨_,us,r1,t1⟩:=I.hok a _ ha;obtain⟨_,ws,r2,t2⟩:=I.hok b _ hb;have hl:=hx.1;have l1:=r1.length;have l2:=r2.length;refine RcNeAt.tuples (e:=λ_=>true) t1 t2 (by omega) (gI I r1 r2 hx (by simp[Around.in1_units];omega)) _ _ _ _ ⟨.bl false,H,I,?_,q⟩;show _=Value.bool false;have:us.toArray.size=ws.toArray.size:=by simp only[size_toArray];omega
   simp[this]
end
section
variable{prog:Program}{w:World}{A:Around}{E:Value→Shared→Prop}{s:Shared}
end
section
variable{P:Program}{w:World}
end
section
variable{X:Cx}{o e:Expr}{td ty:TE}{apos cpos:Pos}
end
def Ext(p:Addr)(H H':Hp):Prop:=∀b o,b≠p→H b=some o→H' b=some o
theorem Ext.of{p:Addr}{H H':Hp}(s:ak H H'):Ext p H H':=λb o _ e=>s b o e
theorem Ext.upd{p:Addr}{H:Hp}{o:HO}:Ext p H (upd H p o):=λb u hb e=>by rw[al hb];exact e
theorem Ext.trans{p:Addr}{H H1 H2:Hp}(a:Ext p H H1)(b:Ext p H1 H2):Ext p H H2:=λc o hc e=>b c o hc (a c o hc e)
def ym(te:TE):Prop:=∀σ H (Q Q':VK),(∀y H,Q y H→Q' y H)→te σ H Q→te σ H Q'
theorem wJ{js:List Nat}{J:It}{te:TE}{σ:St}{H1:Hp}{Q:VK}{p:Addr}{fr:List (Option V)}(n:Nat)(hn:n≤1000)(hp:H1 p=none)(hfr:cM 1 js σ=none::fr)(R:Nat→V→Hp→Prop)(hR:∀i y H H',R i y H→Ext p H H'→R i y H')(go:∀i H',i<n→ak H1 H'→J.go i H')(stop:∀H',ak H1 H'→J.stop n H')(me:ym te)(step:∀i H' x H2,i<n→ak H1 H'→(∃ys,H' p=some (.lst ys))→J.yld i H' x H2→H2=H'∧te (some x::fr) H' λy H4=>ak H' H4∧R i y H4)(fin:∀ys H',ak H1 H'→H' p=some (.lst ys)→ys.length=n→(∀(j:Nat) y,ys[j]?=some y→R j y H')→Q (.ref p) H'):LcW 1 js (aY 0) te σ Q J H1 p:=by
 refine mq (k:=1) (js:=js) (J:=J) (p:=p) n hn (λi ys σ' H'=>(∃o,σ'=o::fr)∧ak H1 H'∧H' p=some (.lst ys)∧ys.length=i∧∀(j:Nat) y,ys[j]?=some y→R j y H') ⟨⟨none,hfr⟩,af hp,ac,rfl,λj y h=>by simp at h⟩
  (λi ys σ' H' h=>by have:=h.2.2.2.1;omega) (λi ys σ' H' hi h=>go i H' hi h.2.1) (λys σ' H' h=>⟨stop H' h.2.1,fin ys H' h.2.1 h.2.2.1 h.2.2.2.1 h.2.2.2.2⟩) (λi ys σ' H' hi h x H2 hy=>?_) ?_ me
 ·obtain⟨⟨o,rfl⟩,s1,hl,hlen,hrs⟩:=h;obtain⟨rfl,ht⟩:=step i H' x H2 hi s1 ⟨ys,hl⟩ hy;refine me _ _ _ _ (λy H4 h4=>?_) ht;obtain⟨s4,r4⟩:=h4;refine⟨s4 _ _ hl,⟨some x,rfl⟩,aZ hp (s1.trans s4),ac,by rw[length_append,hlen];rfl,λj z hz=>?_⟩;have ex:Ext p H2 (upd H4 p (.lst (ys++[y]))):=(Ext.of s4).trans Ext.upd
  by_cases hj:j<ys.length
  ·rw[getElem?_append_left hj]at hz;exact hR _ _ _ _ (hrs j z hz) ex
  ·rw[List.getElem?_append_right (by omega)]at hz;have hj':j-ys.length=0:=by
    cases e:j-ys.length with
    |zero=>rfl
    |succ m=>rw[e]at hz;simp at hz
   rw[hj']at hz;have ez:y=z:=by simpa using hz
   subst ez;have ej:j=i:=by omega
   subst ej;exact hR _ _ _ _ r4 Ext.upd
 ·intro _ _ _ _ _ m q;exact m _ _ q
theorem fJ{H:Hp}{p q:Addr}(hp:∃ys,H p=some (.lst ys))(hq:H q=none):q≠p:=λe=>by
 obtain⟨ys,h⟩:=hp;rw[←e,hq]at h;cases h
section
variable{X:Cx}{N:List Str}{scope:Scope}{cl:List (Str×Addr)}{k:Nat}{js:List Nat}
theorem so{elt tg iter:Expr}{pos spos py:Pos}{y:Str}{ii:Nat}{wi:TI}{g:TG}{te:TE}(hXN:X.N.Nodup)(hii:X.N[ii]?=some y)(hx:Loc X.env.scope y)(hc:X.calm=true)(L:LcOk X scope cl)(hN:N.length=k+js.length)(hj:∀(i j:Nat) x,js[i]?=some j→N[k+i]?=some x→X.N[j]?=some x∧Vis X.env.scope x∧X.env.scope.names.lookup x≠some .local∧((relabel scope X.env).names.lookup x=some .cell∨(relabel scope X.env).names.lookup x=some .free))(hi:PI X tg iter wi)(hg:∀s H fp,PG (cz X N scope cl s H fp) tg g)(he:∀s H fp,PE (cz X N scope cl s H fp) elt te)(hs:∀x,foldedSetIterable iter X.env x=pure x:=by intro _;rfl)(hsw:swapsWith (.ListComp elt [⟨tg,iter,[],0⟩] scope pos) (some (.Name y py)) spos.line X.env=pure true:=by rfl)(hf:X.fn y=true∨X.env.scope.names.lookup y=some .local:=by first|exact .inl rfl|exact .inr rfl|assumption):PS X (.Assign [.Name y py] (.ListComp elt [⟨tg,iter,[],0⟩] scope pos) spos) (xU (tLc k js wi g te) (aY ii)):=by
 intro pins s σ H D I h;rw[exec_Assign_Name_used _ _ _ _ hsw];refine wpAny_bind (wpAny_standAt (wpAny_bind ?_));show wpAny _ X.A (do let _ ← comprehension (.ListComp elt [⟨tg,iter,[],0⟩] scope pos) scope X.env _ (newList []) false (eval iter X.env) (some (assign (.Name y py) X.env))) _ _ s
 refine wpAny_bind (wpAny_mono (wpAny_comprehension_free (use:=some (assign (.Name y py) X.env)) (Q:=λ_ s'=>∃σ' H',Inv X pins σ' H' s'∧D.nx σ' H') rfl hs L.clos L.kind L.names ?_) (λ_ s' hq=>wpAny_pure (wpAny_pure hq)) λ_ _ e=>e);refine thn (hi pins s σ H _ I h) λv s1 h1=>thn h1 λitv s2 h2=>?_;obtain⟨it,fp,tn,J,H2,e,I2,T,st2,f2,hW⟩:=h2;subst e;have hfp:∀b∈fp,b<s2.heap.objs.size:=λb hb=>by
  obtain⟨o,e,_⟩:=T.obj _ _ st2 b hb;exact lt_size e
 refine wpAny_newObj_type (wpAny_newFunctionEnv L.nocell (by intro y hy;simp at hy) (λh₁ hns hsb=>?_) L.kind);dsimp only at hns hsb⊢;obtain⟨W,⟨m0,w0⟩,turn⟩:=hW s2.heap.objs.size (I2.hok.fresh (le_refl _));have I3:Inv X pins σ (upd H2 s2.heap.objs.size (.lst [])) {s2 with heap:=s2.heap.push {cls:=.type "list",dict:=none,data:=.seq ([]:List Value).toArray}}:=I2.lnew (t':=s2.toks) .nil (zero_le _)
 generalize hA:s2.heap.push {cls:=.type "list",dict:=none,data:=.seq ([]:List Value).toArray}=hpA at hns hsb I3⊢;have hszA:hpA.objs.size=s2.heap.objs.size+1:=by rw[←hA,size_push]
 have keepA:∀b o,s2.heap.get? b=some o→hpA.get? b=some o:=λb o e=>by rw[←hA];exact get?_push_of_some _ e
 have f3:∀b∈fp,fk X pins (upd H2 s2.heap.objs.size (.lst [])) b:=λb hb=>⟨by rw[al (ne_of_lt (hfp b hb))];exact(f2 b hb).1,(f2 b hb).2⟩;have hfp3:∀b∈fp,b<hpA.objs.size:=λb hb=>by rw[hszA];exact lt_succ_of_lt (hfp b hb)
 have keep1:∀b o,hpA.get? b=some o→h₁.get? b=some o:=λb o e=>hsb.extBut b o (ne_of_lt (lt_size e)) (get?_push_of_some _ e);have J0:=iN (N:=N) (k:=k) (js:=js) (tk:=s2.toks+([]:List (Str×Value)).length) I3 L f3 hfp3 ⟨_,hns⟩ keep1 hN hj;have st1:tn 0 h₁:=T.keep _ _ _ st2 λb hb o e=>keep1 b o (keepA b o e);have stat:∀{H':Hp},(∀b∈fp,H' b=none)→∀b∈fp,fk (cz X N scope cl {s2 with heap:=hpA} (upd H2 s2.heap.objs.size (.lst [])) fp) [] H' b:=λhn b hb =>
  ⟨hn b hb,ne_of_lt (hfp3 b hb),(oZ (N:=N) I3 L f3 hfp3).exfs b hb,.inl hb,λx c h=>(f3 b hb).2.2.2.2.1 x c (L.cells x c h),λp hp=>absurd (show p∈([]:List (Addr×Obj))from hp) (by simp)⟩
 have loop:codeAny (model X.prog X.w) X.A (.compLoop (.ListComp elt [⟨tg,iter,[],0⟩] scope pos) 0 (.ref it) (.ref s2.heap.objs.size) (compEnvC scope cl hpA.objs.size X.env))
   (compPost (model X.prog X.w) X.A X.xe (some (assign (.Name y py) X.env)) (λ_ s'=>∃σ' H',Inv X pins σ' H' s'∧D.nx σ' H') (.ref s2.heap.objs.size) hpA.objs.size) {s2 with heap:=h₁,toks:=s2.toks+([]:List (Str×Value)).length}:=by
  refine pb (λn s'=>∃i ys σ' H',Inv (cz X N scope cl {s2 with heap:=hpA} (upd H2 s2.heap.objs.size (.lst [])) fp) [] σ' H' s'∧tn i s'.heap∧(∀b∈fp,H' b=none)∧W i n ys σ' H') ?_ m0 ⟨0,[],_,_,J0,st1,λb hb=>(f3 b hb).1,w0⟩
  rintro n s3 ⟨i,ys,σ3,H3,J3,st3,fr3,w3⟩;rcases turn i n ys σ3 H3 w3 with⟨stop,qn⟩|⟨go,hlen,step⟩
  ·refine thn (T.done (cz X N scope cl {s2 with heap:=hpA} (upd H2 s2.heap.objs.size (.lst [])) fp) rfl rfl rfl hc i [] s3 σ3 H3 (λ_ _=>False) J3 (stat fr3) st3 stop) λr s4 hpt=>?_
   obtain⟨hr,J4⟩:=hpt;subst hr;obtain⟨m,hm,_⟩:=J4.loc;have I4:Inv X pins σ H3 s4:=nS I3 f3 J4 (SameBut.refl _ _);obtain⟨f0,f1,f2,f3',f4,f5⟩:=I3.fpOk (b:=hpA.objs.size) (le_refl _) (H':=H3) J4.free;show wpAny _ _ (assign (.Name y py) X.env (.ref s2.heap.objs.size)) _ _ _;refine wpAny_assign_Name (jz I4 hXN hii hx (v:=.ref s2.heap.objs.size) rfl (λs5 I5 ⟨a,sb,ha⟩=>⟨m,hm.sameBut sb ?_,λh' hs'=>⟨_,H3,I5.turned (t':=s5.toks) (λb o hb e=>(hs'.2 b hb).trans e) f0 f1 f3' f4 f5,qn⟩⟩) hf);rcases ha with e|e
   ·rw[e];exact f1
   ·exact λz=>f4 _ _ e z.symm
  ·refine thn (T.item (cz X N scope cl {s2 with heap:=hpA} (upd H2 s2.heap.objs.size (.lst [])) fp) rfl rfl rfl hc i [] s3 σ3 H3 (λ_ _=>False) J3 (stat fr3) st3 go) λr s4 hpt=>?_
   obtain⟨u,hr,h4⟩:=hpt;subst hr;refine thn h4 λ_ s5 hpt=>?_;obtain⟨x,H5,J5,r5,y5,st5,fr5⟩:=hpt;have J5':=J5.pinned (stat fr5) (T.obj _ _ st5);refine thn (hg _ _ _ _ s5 σ3 H5 x u _ J5' r5 (step x H5 y5)) λ_ s6 hpt=>?_;obtain⟨σ6,H6,J6,q6⟩:=hpt;refine thn (he _ _ _ _ s6 σ6 H6 _ J6 q6) λy s7 hpt=>?_;obtain⟨vy,H7,J7,r7,q7,m',hm',w7⟩:=hpt;refine thn (bg _ s7 σ6 H7 (.ref s2.heap.objs.size) [vy] _ _ (λ_ H8=>H8=upd H7 s2.heap.objs.size (.lst (ys++[vy]))) J7 rfl (.cons r7 .nil) ⟨_,ys,vy,rfl,rfl,q7,hlen,rfl⟩) λ_ s8 hpt=>?_;obtain⟨_,H8,J8,_,e8⟩:=hpt;subst e8;refine⟨m',hm',i+1,ys++[vy],σ6,_,J8.unpinned,T.keep _ _ _ st5 λb hb o e=>(J8.pin (b,o) (mem_append_right _ (mem_append_right _ (bn hb e)))).1,λb hb=>?_,w7⟩;obtain⟨o,e,d⟩:=T.obj _ _ st5 b hb;exact(J8.pin (b,o) (mem_append_right _ (mem_append_right _ (bn hb e)))).2.1
 exact codeAny_compStart_list loop (T.self _ 0 _ _ _ st1 loop)
end
abbrev TJ:=St→Hp→(Hp→Prop)→Prop
section
variable{X:Cx}{tg:Expr}
def PJ(X:Cx)(ps:List Expr)(b:Nat)(t:TJ):Prop :=
 ∀(out:Str)(pins:List (Addr×Obj))(s:Shared)(σ:St)(H:Hp)(Q:VK),Inv X pins σ H s→out.length+b≤1000→(t σ H λH1=>∀y,Q (.str y) H1)→wpAny (model X.prog X.w) X.A (joinParts out (evalEach ps X.env)) (EP X pins σ Q) X.xe s
theorem fQ:PJ X [] 0 (λσ H k=>k H):=by
 intro out pins s σ H Q I hb h;exact joinParts_nilE (joinParts_nil ⟨.str _,H,I.tok _,⟨_,rfl⟩,h _⟩ (le_of_lt (ax (by omega))))
theorem cr{x:Str}{c b:Nat}{j:Nat}{p:Pos}{ps:List Expr}{t:TJ}(hx:x.length≤c)(h:PJ X ps b t):PJ X (.Constant (.str x) j p::ps) (c+b) t:=by
 intro out pins s σ H Q I hb hq;refine joinParts_cons (Calls.Constant_str ?_);have hl:(out++x).length=out.length+x.length:=strLen_append ..;exact⟨le_of_lt (ax (by omega)),h _ pins _ σ H Q (I.tok _) (by omega) hq⟩
theorem wK{e:Expr}{te:TE}{b:Nat}{p:Pos}{ps:List Expr}{t:TJ}(he:PE X e te)(h:PJ X ps b t):PJ X (.FormattedValue e (-1) none p::ps) (100+b) (λσ H k=>te σ H λv H1=>∃x:Str,v=.str x∧x.length≤100∧t σ H1 k):=by
 intro out pins s σ H Q I hb hq;refine joinParts_cons (FormattedValue_plain (thn (he pins _ σ H _ I hq) λv s1 hpt=>?_));obtain⟨y,H1,I1,r1,q1⟩:=hpt;obtain⟨x,rfl,h2,q⟩:=q1;obtain⟨tk,rfl⟩:=r1;have hl:(out++x).length=out.length+x.length:=strLen_append ..;refine formatField_str (λt' tk=>⟨le_of_lt (ax (by omega)),?_⟩) (le_of_lt (ax (by omega)));exact h _ pins _ σ H1 Q (I1.tok _) (by omega) q
def yn(t:TJ):TE:=λσ H Q=>t σ H λH1=>∀y,Q (.str y) H1
theorem dJ{p1 p2:Expr}{ps:List Expr}{pos:Pos}{b:Nat}{t:TJ}(h:PJ X (p1::p2::ps) b t)(hb:b≤1000):PE X (.JoinedStr (p1::p2::ps) pos) (yn t):=by
 intro pins s σ H Q I hq;exact JoinedStr_many (h empty pins s σ H Q I (by show 0+b≤1000;omega) hq)
theorem wL{E:XK}(L:Lv X E):PassesOwn (model X.prog X.w) X.A X.env X.xe:=by
 rw[L.xe];exact PassesOwn.leaving
theorem wM(hu:X.A.units+4<cLine):OpR X (compareOp .Eq) (λx y H Q=>rEq x y H Q∨(∃a b xs ys,x=.ref a∧y=.ref b∧dA H xs ys∧((H a=some (.lst xs)∧H b=some (.lst ys))∨(H a=some (.tup xs)∧H b=some (.tup ys)))∧Q (.bl true) H)):=by
 intro pins s σ H x y v u Q I rx ry h;rcases h with h|⟨a,b,xs,ys,rfl,rfl,hx,h,q⟩
 ·exact cG pins s σ H x y v u Q I rx ry h
 ·cases rx;cases ry;rcases h with⟨ha,hb⟩|⟨ha,hb⟩
  ·obtain⟨_,us,n1,r1,o1⟩:=I.hok a _ ha;obtain⟨_,ws,n2,r2,o2⟩:=I.hok b _ hb;have hl:=hx.1;have l1:=r1.length;have l2:=r2.length;refine eq_listAt (e:=λ_=>true) ⟨_,o1,rfl,n1,rfl⟩ ⟨_,o2,rfl,n2,rfl⟩ (by simp only[size_toArray];omega) (by omega) (gI I r1 r2 hx (by simp[Around.in1_units];omega)) ⟨.bl true,H,I,?_,q⟩;show _=Value.bool true;simp
  ·obtain⟨_,us,r1,t1⟩:=I.hok a _ ha;obtain⟨_,ws,r2,t2⟩:=I.hok b _ hb;have hl:=hx.1;have l1:=r1.length;have l2:=r2.length;refine SeqAt.eq_tupleAt (e:=λ_=>true) t1 t2 (by omega) (gI I r1 r2 hx (by simp[Around.in1_units];omega)) ⟨.bl true,H,I,?_,q⟩;show _=Value.bool true;have:us.toArray.size=ws.toArray.size:=by simp only[size_toArray];omega
   simp[this]
end
theorem ak.seqT{K:PySem.W.Frag}{H H':Hp}{a:Addr}{xs:List V}(e:ak H H')(h:SqT K H a xs):SqT K H' a xs:=by
 rcases h with (h|⟨o,h⟩)|h
 ·exact .inl (.inl (e _ _ h))
 ·exact .inl (.inr ⟨o,e _ _ h⟩)
 ·exact .inr h
structure Src(J:It)(H1:Hp)(xs:List V):Prop where
 go:∀i H',i<xs.length→ak H1 H'→J.go i H'
 stop:∀H',ak H1 H'→J.stop xs.length H'
 yl:∀i H' x H2,i<xs.length→ak H1 H'→J.yld i H' x H2→H2=H'∧xs[i]?=some x
theorem gJ{K:PySem.W.Frag}{a:Addr}{xs:List V}{H1:Hp}(h:SqT K H1 a xs):Src (Itt K a) H1 xs :=
 ⟨λi H' hi s=>⟨xs,xs[i],s.seqT h,getElem?_eq_getElem hi⟩,λH' s=>⟨xs,s.seqT h,le_refl _⟩,λi H' x H2 _ s ⟨e,y⟩=>⟨e,y xs (by subst e;exact s.seqT h)⟩⟩
theorem kS{K:PySem.W.Frag}{a:Addr}{xs:List V}{H1:Hp}(h:SqL K H1 a xs):Src (Itl K a) H1 xs :=
 ⟨λi H' hi s=>⟨xs,xs[i],s.seq h,getElem?_eq_getElem hi⟩,λH' s=>⟨xs,s.seq h,le_refl _⟩,λi H' x H2 _ s ⟨e,y⟩=>⟨e,y xs (by subst e;exact s.seq h)⟩⟩
theorem sq{d:Addr}{o:Obj}{u:HO}{ks:List V}{H1:Hp}(h:H1 d=some (.frz o u)):Src (Itk d o u ks) H1 ks :=
 ⟨λi H' hi s=>⟨s _ _ h,hi⟩,λH' s=>⟨s _ _ h,le_refl _⟩,λi H' x H2 _ s ⟨e,y⟩=>⟨e,y⟩⟩
theorem pA{lo:Int}{n:Nat}{H1:Hp}:Src (Itr lo n) H1 ((List.range n).map λi=>V.int (lo+(i:Nat))) :=
 ⟨λi H' hi s=>by show i<n;simpa using hi,λH' s=>by show n≤_;simp,λi H' x H2 hi s ⟨e,y⟩=>⟨e,by
  have hi':i<n:=by simpa using hi
  rw[getElem?_map,getElem?_range hi',y];rfl⟩⟩
theorem Paired.snoc{α β:Type}{R:α→β→Prop}:∀{as:List α}{bs:List β}{a:α}{b:β},Paired R as bs→R a b→Paired R (as++[a]) (bs++[b])
 |_,_,_,_,.nil,h=>.cons h .nil
 |_,_,_,_,.cons r t,h=>.cons r (Paired.snoc t h)
theorem ja{α:Type}{js:List Nat}{J:It}{tc:TT}{te:TE}{σ:St}{H1:Hp}{Q:VK}{p:Addr}{fr:List (Option V)}(zs:List α)(val:α→V)(hn:zs.length≤1000)(hp:H1 p=none)(S:Src J H1 (zs.map val))(hfr:cM 1 js σ=none::fr)(g:α→Bool)(R:α→V→Hp→Prop)(hR:∀z y H H',R z y H→Ext p H H'→R z y H')(cond:∀z H' (k:Bool→Hp→Prop),z∈zs→ak H1 H'→(∃ys,H' p=some (.lst ys))→(∀H4,ak H' H4→k (g z) H4)→tc (some (val z)::fr) H' k)(elt:∀z H' (k:VK),z∈zs→g z=true→ak H1 H'→(∃ys,H' p=some (.lst ys))→(∀y H4,ak H' H4→R z y H4→k y H4)→te (some (val z)::fr) H' k)(fin:∀ys H',ak H1 H'→H' p=some (.lst ys)→Paired (λz y=>R z y H') (zs.filter g) ys→Q (.ref p) H'):yh 1 js (aY 0) tc te σ Q J H1 p:=by
 have grow:∀{as:List α}{ys:List V}{H H':Hp},Ext p H H'→Paired (λz y=>R z y H) as ys→Paired (λz y=>R z y H') as ys:=λex r=>Paired.mapP r λa b h=>hR a b _ _ h ex;have hlen:∀{as:List α}{ys:List V}{H:Hp},Paired (λz y=>R z y H) as ys→ys.length=as.length:=λr=>(Paired.length r).symm;refine⟨λi m ys σ' H'=>m=zs.length-i∧i≤zs.length∧(∃o,σ'=o::fr)∧ak H1 H'∧H' p=some (.lst ys)∧Paired (λz y=>R z y H') ((zs.take i).filter g) ys,⟨zs.length,by simp,zero_le _,⟨none,hfr⟩,af hp,ac,.nil⟩,?_⟩;rintro i m ys σ' H' ⟨rfl,hi,⟨o,rfl⟩,s1,hl,hys⟩
 by_cases hlt:i<zs.length
 ·have hlt':i<(zs.map val).length:=by rw[length_map];exact hlt
  refine .inr ⟨S.go i H' hlt' s1,?_,λx H2 hy=>?_⟩
  ·have h1:ys.length≤zs.length:=by
    rw[hlen hys];exact le_trans (length_filter_le _ _) (by rw[length_take];omega)
   exact lt_of_le_of_lt h1 (ax hn)
  ·obtain⟨rfl,hx⟩:=S.yl i H' x H2 hlt' s1 hy;have gz:zs[i]?=some zs[i]:=getElem?_eq_getElem hlt;have mz:=mem_of_getElem? gz;rw[getElem?_map,gz]at hx;have ex:val zs[i]=x:=Option.some.inj hx;have et:zs.take (i+1)=zs.take i++[zs[i]]:=bh gz;subst ex;generalize zs[i]=z at gz mz et⊢;refine cond z H2 _ mz s1 ⟨ys,hl⟩ λH4 s4=>?_;cases hb:g z with
   |true =>
    rw[if_pos rfl];refine elt z H4 _ mz hb (s1.trans s4) ⟨ys,s4 _ _ hl⟩ λy H5 s5 r5=>⟨s5 _ _ (s4 _ _ hl),zs.length-(i+1),by omega,rfl,hlt,⟨_,rfl⟩,aZ hp ((s1.trans s4).trans s5),ac,?_⟩;rw[et,filter_append,filter_cons_of_pos hb];exact Paired.snoc (grow ((Ext.of (s4.trans s5)).trans Ext.upd) hys) (hR _ _ _ _ r5 Ext.upd)
   |false =>
    rw[if_neg (by simp)];refine⟨zs.length-(i+1),by omega,rfl,hlt,⟨_,rfl⟩,s1.trans s4,s4 _ _ hl,?_⟩;rw[et,filter_append,filter_cons_of_neg (by simp[hb]),List.filter_nil,append_nil];exact grow (Ext.of s4) hys
 ·have e:i=zs.length:=by omega
  subst e;have st:=S.stop H' s1;rw[length_map]at st;refine .inl ⟨st,fin ys H' s1 hl ?_⟩;rw[take_length]at hys;exact hys
theorem dL{α:Type}{js:List Nat}{J:It}{te:TE}{σ:St}{H1:Hp}{Q:VK}{p:Addr}{fr:List (Option V)}(zs:List α)(val:α→V)(hn:zs.length≤1000)(hp:H1 p=none)(S:Src J H1 (zs.map val))(hfr:cM 1 js σ=none::fr)(R:α→V→Hp→Prop)(hR:∀z y H H',R z y H→Ext p H H'→R z y H')(elt:∀z H' (k:VK),z∈zs→ak H1 H'→(∃ys,H' p=some (.lst ys))→(∀y H4,ak H' H4→R z y H4→k y H4)→te (some (val z)::fr) H' k)(fin:∀ys H',ak H1 H'→H' p=some (.lst ys)→Paired (λz y=>R z y H') zs ys→Q (.ref p) H'):LcW 1 js (aY 0) te σ Q J H1 p:=by
 have grow:∀{as:List α}{ys:List V}{H H':Hp},Ext p H H'→Paired (λz y=>R z y H) as ys→Paired (λz y=>R z y H') as ys:=λex r=>Paired.mapP r λa b h=>hR a b _ _ h ex;have hlen:∀{as:List α}{ys:List V}{H:Hp},Paired (λz y=>R z y H) as ys→ys.length=as.length:=λr=>(Paired.length r).symm;refine⟨λi m ys σ' H'=>m=zs.length-i∧i≤zs.length∧(∃o,σ'=o::fr)∧ak H1 H'∧H' p=some (.lst ys)∧Paired (λz y=>R z y H') (zs.take i) ys,⟨zs.length,by simp,zero_le _,⟨none,hfr⟩,af hp,ac,.nil⟩,?_⟩;rintro i m ys σ' H' ⟨rfl,hi,⟨o,rfl⟩,s1,hl,hys⟩
 by_cases hlt:i<zs.length
 ·have hlt':i<(zs.map val).length:=by rw[length_map];exact hlt
  refine .inr ⟨S.go i H' hlt' s1,?_,λx H2 hy=>?_⟩
  ·have h1:ys.length≤zs.length:=by
    rw[hlen hys,length_take];omega
   exact lt_of_le_of_lt h1 (ax hn)
  ·obtain⟨rfl,hx⟩:=S.yl i H' x H2 hlt' s1 hy;have gz:zs[i]?=some zs[i]:=getElem?_eq_getElem hlt;have mz:=mem_of_getElem? gz;rw[getElem?_map,gz]at hx;have ex:val zs[i]=x:=Option.some.inj hx;have et:zs.take (i+1)=zs.take i++[zs[i]]:=bh gz;subst ex;generalize zs[i]=z at gz mz et⊢;refine elt z H2 _ mz s1 ⟨ys,hl⟩ λy H5 s5 r5=>⟨s5 _ _ hl,zs.length-(i+1),by omega,rfl,hlt,⟨_,rfl⟩,aZ hp (s1.trans s5),ac,?_⟩;rw[et];exact Paired.snoc (grow ((Ext.of s5).trans Ext.upd) hys) (hR _ _ _ _ r5 Ext.upd)
 ·have e:i=zs.length:=by omega
  subst e;have st:=S.stop H' s1;rw[length_map]at st;refine .inl ⟨st,fin ys H' s1 hl ?_⟩;rw[take_length]at hys;exact hys
theorem cS{α β:Type}{R:α→V→Prop}{val:β→V}{S:α→β→Prop}{zs:List α}{ys:List V}(h:Paired R zs ys)(f:∀z y,z∈zs→R z y→∃b,y=val b∧S z b):
  ∃bs:List (α×β),bs.map (·.1)=zs∧ys=bs.map (λx=>val x.2)∧∀x∈bs,S x.1 x.2:=by
 induction h with
 |nil=>exact⟨[],rfl,rfl,by simp⟩
 |@cons a y as bs r _ ih =>
  obtain⟨cs,e1,e2,e3⟩:=ih λz y hz=>f z y (by simp[hz]);obtain⟨b,e,s⟩:=f _ _ (by simp) r;refine⟨(a,b)::cs,by rw[map_cons,e1],by rw[map_cons,←e2,e],λx hx=>?_⟩;rcases mem_cons.mp hx with rfl|hx
  ·exact s
  ·exact e3 x hx
theorem cu{α:Type}{R:α→V→Prop}{f:α→V}{zs:List α}{ys:List V}(h:Paired R zs ys)(hf:∀z y,z∈zs→R z y→y=f z):ys=zs.map f:=by
 induction h with
 |nil=>rfl
 |cons r _ ih=>rw[map_cons,←ih λz y hz=>hf z y (by simp[hz]),hf _ _ (by simp) r]
theorem uE(p:Int)(ms:List Int):inV (.int p) (ms.map V.int)=decide (p∈ms):=by
 unfold inV;rw[List.any_map,Bool.eq_iff_iff,any_eq_true,decide_eq_true_eq];constructor
 ·rintro⟨x,hx,e⟩;have:x=p:=by simpa [eqV]using e
  rw[←this];exact hx
 ·intro h;exact⟨p,h,by simp[eqV]⟩
theorem qK(ms:List Int):(ms.map V.int).all cy=true:=by
 rw[all_map,all_eq_true];intro x _;rfl
theorem sr{X:Cx}:gU (CX1 X.prog X.w) X E0:=λ_ _ _ _ _ _ _ ⟨_,_,_,_,_,h⟩=>h.elim
end L2
namespace TW
structure Nd(S:Type) where
 num:Int
 par:Int
 nm:S
 st:Option Int
section
variable{S:Type}
inductive Reach(ns:List (Nd S))(f:Int):Nd S→Prop where
 |base {n:Nd S}:n∈ns→n.par=f→Reach ns f n
 |step {m n:Nd S}:Reach ns f m→m.st=none→n∈ns→n.par=m.num→Reach ns f n
theorem Reach.mem{ns:List (Nd S)}{f:Int}{n:Nd S}(h:Reach ns f n):n∈ns:=by
 cases h<;>assumption
theorem Reach.mono{ns ms:List (Nd S)}{f:Int}{n:Nd S}(h:Reach ns f n)(hs:∀x∈ns,x∈ms):Reach ms f n:=by
 induction h with
 |base hm hp=>exact .base (hs _ hm) hp
 |step _ hf hm hp ih=>exact .step ih hf (hs _ hm) hp
def inside(ns:List (Nd S))(k:Int):List (Nd S):=ns.filter λn=>decide (n.par=k)
def di(dn:List Int)(n:Nd S):Bool:=decide (n.par∈dn)
structure Walk(ns:List (Nd S))(f:Int)(dn:List Int)(fd:List (Nd S))(pd:List Int):Prop where
 perm:fd.Perm (ns.filter (di dn))
 reach:∀n∈fd,Reach ns f n
 cover:∀k,(k∈pd∨k∈dn)↔(k=f∨∃m∈fd,m.st=none∧m.num=k)
theorem Walk.start(ns:List (Nd S))(f:Int):Walk ns f [] [] [f]:=by
 refine⟨?_,by simp,λk=>by simp⟩;have e:ns.filter (di [])=[]:=by
  rw[filter_eq_nil_iff];intro a _;simp[di]
 rw[e]
theorem eG{α:Type}(p q:α→Bool)(hd:∀x,p x=true→q x=true→False):∀l:List α,
  (l.filter p++l.filter q).Perm (l.filter λx=>p x||q x)
 |[]=>by simp
 |x::l=>by
  have ih:=eG p q hd l;cases hp:p x with
  |true =>
   have hq:q x=false:=by
    cases h:q x with
    |false=>rfl
    |true=>exact(hd x hp h).elim
   rw[filter_cons_of_pos hp,filter_cons_of_neg (by simp[hq]),filter_cons_of_pos (by simp[hp])];exact List.Perm.cons x ih
  |false =>
   cases hq:q x with
   |true =>
    rw[filter_cons_of_neg (by simp[hp]),filter_cons_of_pos hq,filter_cons_of_pos (by simp[hq])];exact List.perm_middle.trans (List.Perm.cons x ih)
   |false =>
    rw[filter_cons_of_neg (by simp[hp]),filter_cons_of_neg (by simp[hq]),filter_cons_of_neg (by simp[hp,hq])];exact ih
def here(ns:List (Nd S))(dn:List Int)(x:Int):List (Nd S):=if x∈dn then []else inside ns x
def bo(l:List (Nd S)):List Int:=(l.filter λn=>n.st.isNone).map (·.num)
theorem mU{l:List (Nd S)}{k:Int}:k∈bo l↔∃m∈l,m.st=none∧m.num=k:=by
 unfold bo;rw[mem_map];constructor
 ·rintro⟨m,hm,e⟩;rw[mem_filter]at hm;exact⟨m,hm.1,by simpa using hm.2,e⟩
 ·rintro⟨m,hm,h,e⟩;exact⟨m,mem_filter.mpr ⟨hm,by simp[h]⟩,e⟩
theorem Walk.turn{ns:List (Nd S)}{f x:Int}{dn:List Int}{fd:List (Nd S)}{pd:List Int}(w:Walk ns f dn fd (pd++[x])):
  Walk ns f (x::dn) (fd++here ns dn x) (pd++bo (here ns dn x)):=by
 have hx:=(w.cover x).mp (.inl (by simp))
 by_cases hd:x∈dn
 ·have eh:here ns dn x=[]:=by unfold here;rw[if_pos hd]
  rw[eh];refine⟨?_,by simpa using w.reach,λk=>?_⟩
  ·have e:ns.filter (di (x::dn))=ns.filter (di dn):=by
    apply filter_congr;intro n _;simp only[di,mem_cons,decide_eq_decide];constructor
    ·rintro(h|h)
     ·rw[h];exact hd
     ·exact h
    ·exact .inr
   rw[e,append_nil];exact w.perm
  ·have c:=w.cover k;rw[append_nil,←c];simp only[bo,List.filter_nil,map_nil,append_nil,mem_append,mem_cons,not_mem_nil,or_false];constructor
   ·rintro(h|h|h)
    ·exact .inl (.inl h)
    ·exact .inl (.inr h)
    ·exact .inr h
   ·rintro((h|h)|h)
    ·exact .inl h
    ·exact .inr (.inl h)
    ·exact .inr (.inr h)
 ·have eh:here ns dn x=inside ns x:=by unfold here;rw[if_neg hd]
  rw[eh];refine⟨?_,λn hn=>?_,λk=>?_⟩
  ·have e:ns.filter (di (x::dn))=ns.filter λn=>di dn n||decide (n.par=x):=by
    apply filter_congr;intro n _;rw[Bool.eq_iff_iff];simp only[di,mem_cons,decide_eq_true_eq,or_eq_true];constructor
    ·rintro(h|h)
     ·exact .inr h
     ·exact .inl h
    ·rintro(h|h)
     ·exact .inr h
     ·exact .inl h
   rw[e];refine(List.Perm.append_right _ w.perm).trans (eG _ _ (λy h1 h2=>?_) ns);simp only[di,decide_eq_true_eq]at h1 h2;rw[h2]at h1;exact hd h1
  ·rcases mem_append.mp hn with h|h
   ·exact w.reach n h
   ·unfold inside at h;rw[mem_filter]at h;obtain⟨hm,hp⟩:=h;simp only[decide_eq_true_eq]at hp;rcases hx with e|⟨m,hm',hf,e⟩
    ·exact .base hm (hp.trans e)
    ·exact .step (w.reach m hm') hf hm (hp.trans e.symm)
  ·have c:=w.cover k;simp only[mem_append,mem_cons,not_mem_nil,or_false]at c⊢;rw[mU];constructor
   ·rintro((h|⟨m,hm,h1,h2⟩)|h|h)
    ·rcases c.mp (.inl (.inl h))with e|⟨m,hm,z⟩
     ·exact .inl e
     ·exact .inr ⟨m,.inl hm,z⟩
    ·exact .inr ⟨m,.inr hm,h1,h2⟩
    ·rcases c.mp (.inl (.inr h))with e|⟨m,hm,z⟩
     ·exact .inl e
     ·exact .inr ⟨m,.inl hm,z⟩
    ·rcases c.mp (.inr h)with e|⟨m,hm,z⟩
     ·exact .inl e
     ·exact .inr ⟨m,.inl hm,z⟩
   ·rintro(e|⟨m,hm|hm,z⟩)
    ·rcases c.mpr (.inl e)with (h|h)|h
     ·exact .inl (.inl h)
     ·exact .inr (.inl h)
     ·exact .inr (.inr h)
    ·rcases c.mpr (.inr ⟨m,hm,z⟩)with (h|h)|h
     ·exact .inl (.inl h)
     ·exact .inr (.inl h)
     ·exact .inr (.inr h)
    ·exact .inl (.inr ⟨m,hm,z⟩)
theorem Walk.len{ns:List (Nd S)}{f:Int}{dn:List Int}{fd:List (Nd S)}{pd:List Int}(w:Walk ns f dn fd pd):fd.length≤ns.length:=by
 rw[w.perm.length_eq];exact length_filter_le _ _
theorem eI(l:List (Nd S)):(bo l).length≤l.length:=by
 unfold bo;rw[length_map];exact length_filter_le _ _
theorem Walk.mem{ns:List (Nd S)}{f:Int}{dn:List Int}{fd:List (Nd S)}(w:Walk ns f dn fd [])(n:Nd S):n∈fd↔Reach ns f n:=by
 constructor
 ·exact w.reach n
 ·have cov:∀k,(k=f∨∃m∈fd,m.st=none∧m.num=k)→k∈dn:=λk h=>by
   rcases (w.cover k).mpr h with z|z
   ·simp at z
   ·exact z
  have back:∀x,x∈ns→x.par∈dn→x∈fd:=λx hx hp=>w.perm.mem_iff.mpr (mem_filter.mpr ⟨hx,by simp[di,hp]⟩);intro h
  induction h with
  |base hm hp=>exact back _ hm (cov _ (.inl hp))
  |step _ hf hm hp ih=>exact back _ hm (cov _ (.inr ⟨_,ih,hf,hp.symm⟩))
theorem Walk.all{ns:List (Nd S)}{f:Int}{dn:List Int}{fd:List (Nd S)}(w:Walk ns f dn fd []):fd.length=ns.length↔∀n∈ns,Reach ns f n:=by
 rw[w.perm.length_eq];constructor
 ·intro h n hn;have e:ns.filter (di dn)=ns:=by
   rw[filter_eq_self];exact List.length_filter_eq_length_iff.mp h
  have:n∈ns.filter (di dn):=by rw[e];exact hn
  exact(w.mem n).mp (w.perm.mem_iff.mpr this)
 ·intro h;rw[List.length_filter_eq_length_iff];intro n hn;have:=w.perm.mem_iff.mp ((w.mem n).mpr (h n hn));exact(mem_filter.mp this).2
def cN(ns:List (Nd S)):Prop:=ns.Pairwise λa b=>a.num<b.num
def dM(ns:List (Nd S)):Prop:=(ns.map λn=>(n.par,n.nm)).Nodup
structure Tree(ns:List (Nd S)):Prop where
 rise:cN ns
 own:dM ns
 down:∀n∈ns,Reach ns 0 n
def adj:List (Nd S)→Bool
 |a::b::r=>decide (a.num<b.num)&&adj (b::r)
 |_=>true
theorem kU:∀ns:List (Nd S),adj ns=true↔cN ns
 |[]=>by simp[adj,cN]
 |[a]=>by simp[adj,cN]
 |a::b::r=>by
  have ih:=kU (b::r);unfold adj;rw[and_eq_true,ih,decide_eq_true_eq];unfold cN;rw[pairwise_cons (a:=a)];constructor
  ·rintro⟨h,p⟩;refine⟨λx hx=>?_,p⟩;rcases mem_cons.mp hx with rfl|hx
   ·exact h
   ·have:=(pairwise_cons.mp p).1 x hx;omega
  ·rintro⟨h,p⟩;exact⟨h b (by simp),p⟩
theorem pB:∀ns:List (Nd S),adj ns=((ns.zip (ns.drop 1)).all λp=>decide (p.1.num<p.2.num))
 |[]=>rfl
 |[a]=>rfl
 |a::b::r=>by
  have ih:=pB (b::r);unfold adj;rw[ih];rfl
theorem ss{t:List (Nd S)}(h:cN t){a b:Nd S}(ha:a∈t)(hb:b∈t)(e:a.num=b.num):a=b:=by
 unfold cN at h
 induction t with
 |nil=>simp at ha
 |cons x r ih =>
  rw[pairwise_cons]at h;rcases mem_cons.mp ha with ea|ha'
  ·rcases mem_cons.mp hb with eb|hb'
   ·rw[ea,eb]
   ·have:=h.1 b hb';rw[←ea]at this;omega
  ·rcases mem_cons.mp hb with eb|hb'
   ·have:=h.1 a ha';rw[←eb]at this;omega
   ·exact ih h.2 ha' hb'
end
end TW
namespace TW
section
variable{S:Type}
inductive PathTo(ns:List (Nd S)):Int→List S→Prop where
 |top:PathTo ns 0 []
 |node {n:Nd S} {p:List S}:n∈ns→PathTo ns n.par p→PathTo ns n.num (p++[n.nm])
structure Tree1(ns:List (Nd S)):Prop extends Tree ns where
 pos:∀n∈ns,1≤n.num
theorem Tree1.inj{ns:List (Nd S)}(T:Tree1 ns){a b:Nd S}(ha:a∈ns)(hb:b∈ns)(e:a.num=b.num):a=b:=ss T.rise ha hb e
theorem PathTo.zero{ns:List (Nd S)}(T:Tree1 ns){k:Int}{p:List S}(h:PathTo ns k p)(e:k=0):p=[]:=by
 cases h with
 |top=>rfl
 |@node n p hm _=>have:=T.pos n hm;omega
theorem PathTo.inv{ns:List (Nd S)}(T:Tree1 ns){k:Int}{p:List S}(h:PathTo ns k p){n:Nd S}(hn:n∈ns)(e:k=n.num):∃q,p=q++[n.nm]∧PathTo ns n.par q:=by
 cases h with
 |top=>have:=T.pos n hn;omega
 |@node m q hm hq =>
  have:m=n:=T.inj hm hn e;subst this;exact⟨q,rfl,hq⟩
theorem PathTo.uniq{ns:List (Nd S)}(T:Tree1 ns){k:Int}{p:List S}(h:PathTo ns k p):∀{q:List S},PathTo ns k q→p=q:=by
 induction h with
 |top=>intro q hq;exact(hq.zero T rfl).symm
 |@node n p hm _ ih =>
  intro q hq;obtain⟨q',e,hq'⟩:=hq.inv T hm rfl;rw[e,ih hq']
theorem PathTo.ex{ns:List (Nd S)}(T:Tree1 ns){n:Nd S}(hn:n∈ns):∃p,PathTo ns n.num p:=by
 have key:∀x,Reach ns 0 x→∃p,PathTo ns x.num p:=by
  intro x r
  induction r with
  |base hm hp=>exact⟨_,.node hm (by rw[hp];exact .top)⟩
  |step _ _ hm hp ih =>
   obtain⟨p,h⟩:=ih;exact⟨_,.node hm (by rw[hp];exact h)⟩
 exact key n (T.down n hn)
inductive Und(ns:List (Nd S))(g:Int):Int→Prop where
 |here:Und ns g g
 |up {n:Nd S}:n∈ns→Und ns g n.par→Und ns g n.num
theorem Und.zero{ns:List (Nd S)}(T:Tree1 ns){g k:Int}(h:Und ns g k)(e:k=0):g=0:=by
 cases h with
 |here=>exact e
 |@up n hm _=>have:=T.pos n hm;omega
theorem Und.inv{ns:List (Nd S)}(T:Tree1 ns){g k:Int}(h:Und ns g k){n:Nd S}(hn:n∈ns)(e:k=n.num)(hg:k≠g):Und ns g n.par:=by
 cases h with
 |here=>exact absurd rfl hg
 |@up m hm hu =>
  have:m=n:=T.inj hm hn e;subst this;exact hu
theorem hJ{ns:List (Nd S)}(T:Tree1 ns){n:Nd S}(hn:n∈ns):n.par=0∨∃m∈ns,m.st=none∧m.num=n.par:=by
 have:=T.down n hn;cases this with
 |base _ hp=>exact .inl hp
 |@step m _ hr hf _ hp=>exact .inr ⟨m,hr.mem,hf,hp.symm⟩
theorem jQ{ns:List (Nd S)}(T:Tree1 ns){g:Int}{n:Nd S}(h:Reach ns g n):Und ns g n.num∧∃p q,PathTo ns n.num (p++q)∧q≠[]∧PathTo ns g p:=by
 induction h with
 |@base n hm hp =>
  obtain⟨p,h⟩:=PathTo.ex T hm;obtain⟨q,e,hq⟩:=h.inv T hm rfl;refine⟨.up hm (by rw[hp];exact .here),q,[n.nm],by rw[←e];exact h,by simp,by rw[←hp];exact hq⟩
 |@step m n hr hf hm hp ih =>
  obtain⟨hu,p,q,h1,h2,h3⟩:=ih;refine⟨.up hm (by rw[hp];exact hu),p,q++[n.nm],?_,by simp,h3⟩;rw[←append_assoc];exact .node hm (by rw[hp];exact h1)
theorem eJ{ns:List (Nd S)}(T:Tree1 ns){g:Int}{n:Nd S}(h:Reach ns g n):n.num≠g:=by
 obtain⟨_,p,q,h1,h2,h3⟩:=jQ T h;intro e;rw[e]at h1;have:=h1.uniq T h3;have hl:=congrArg length this;rw[length_append]at hl;have:q.length≠0:=λz=>h2 (List.length_eq_zero_iff.mp z);omega
theorem qL{ns:List (Nd S)}(T:Tree1 ns){g:Int}(hg:1≤g):∀{k:Int}{p:List S},PathTo ns k p→∀{n:Nd S},n∈ns→k=n.num→Und ns g k→k≠g→Reach ns g n:=by
 intro k p h
 induction h with
 |top=>intro n hn e;have:=T.pos n hn;omega
 |@node m p hm hp ih =>
  intro n hn e hu hne;have:m=n:=T.inj hm hn e;subst this;have hu':=hu.inv T hm rfl hne
  by_cases hpg:m.par=g
  ·exact .base hm hpg
  ·rcases hJ T hm with h0|⟨r,hr,hf,er⟩
   ·have:=hu'.zero T h0;omega
   ·exact .step (ih hr er.symm hu' hpg) hf hm er.symm
theorem cT{ns:List (Nd S)}(T:Tree1 ns){g:Int}(hg:1≤g){n:Nd S}(hn:n∈ns):Reach ns g n↔n.num≠g∧Und ns g n.num:=by
 constructor
 ·intro h;exact⟨eJ T h,(jQ T h).1⟩
 ·rintro⟨h1,h2⟩;obtain⟨p,hp⟩:=PathTo.ex T hn;exact qL T hg hp hn rfl h2 h1
end
end TW
namespace TW
section
variable{S:Type}
theorem jR{t:List (Nd S)}:cN t↔(t.map (·.num)).Pairwise (λa b:Int=>a<b):=by
 unfold cN;rw[pairwise_map]
def jx(t:List (Nd S))(p:Int):Prop:=p=0∨∃m∈t,m.st=none∧m.num=p
theorem made{t u:List (Nd S)}{n:Nd S}(T:Tree1 t)(hp:u.Perm (n::t))(hr:cN u)(h1:1≤n.num)(hf:jx t n.par)(ho:∀m∈t,¬(m.par=n.par∧m.nm=n.nm)):Tree1 u:=by
 have hm:∀x,x∈u↔x=n∨x∈t:=λx=>by rw[hp.mem_iff,mem_cons]
 have ht:∀x,x∈t→x∈u:=λx hx=>(hm x).mpr (.inr hx);refine⟨⟨hr,?_,λx hx=>?_⟩,λx hx=>?_⟩
 ·unfold dM;rw[(hp.map λn:Nd S=>(n.par,n.nm)).nodup_iff,map_cons,nodup_cons];refine⟨λhx=>?_,T.own⟩;obtain⟨m,h2,e⟩:=mem_map.mp hx;injection e with e1 e2
  exact ho m h2 ⟨e1,e2⟩
 ·rcases (hm x).mp hx with e|hx
  ·subst e;rcases hf with e|⟨m,h2,h3,e⟩
   ·exact .base hx e
   ·exact .step ((T.down m h2).mono ht) h3 hx e.symm
  ·exact(T.down x hx).mono ht
 ·rcases (hm x).mp hx with e|hx
  ·subst e;exact h1
  ·exact T.pos x hx
def put(z:Nd S)(m:Nd S):Nd S:=if m.num=z.num then z else m
theorem pC(z m:Nd S):(put z m).num=m.num:=by
 unfold put
 split
 ·rename_i h;exact h.symm
 ·rfl
theorem bq{z m:Nd S}(h:m.num≠z.num):put z m=m:=by unfold put;rw[if_neg h]
theorem dB{z m:Nd S}(h:m.num=z.num):put z m=z:=by unfold put;rw[if_pos h]
theorem su(z:Nd S)(t:List (Nd S)):(t.map (put z)).map (·.num)=t.map (·.num):=by
 rw[map_map];apply map_congr_left;intro m _;exact pC z m
theorem mX{z:Nd S}{t:List (Nd S)}(h:cN t):cN (t.map (put z)):=by
 rw[jR,su,←jR];exact h
theorem pD{z:Nd S}{t:List (Nd S)}(T:Tree1 t):∀n∈t.map (put z),1≤n.num:=λn hn=>by
 obtain⟨m,hm,rfl⟩:=mem_map.mp hn;rw[pC];exact T.pos m hm
theorem wrote{t:List (Nd S)}{y z:Nd S}(T:Tree1 t)(hy:y∈t)(e1:z.num=y.num)(e2:z.par=y.par)(e3:z.nm=y.nm)(hs:y.st≠none):Tree1 (t.map (put z)):=by
 have par:∀m∈t,(put z m).par=m.par∧(put z m).nm=m.nm:=λm hm=>by
  by_cases h:m.num=z.num
  ·have:m=y:=T.inj hm hy (h.trans e1);subst this;rw[dB h];exact⟨e2,e3⟩
  ·rw[bq h];exact⟨rfl,rfl⟩
 refine⟨⟨mX T.rise,?_,λn hn=>?_⟩,pD T⟩
 ·have:(t.map (put z)).map (λn=>(n.par,n.nm))=t.map (λn=>(n.par,n.nm)):=by
   rw[map_map];apply map_congr_left;intro m hm;show((put z m).par,(put z m).nm)=_;rw[(par m hm).1,(par m hm).2]
  unfold dM;rw[this];exact T.own
 ·obtain⟨m,hm,rfl⟩:=mem_map.mp hn;have key:∀x,Reach t 0 x→Reach (t.map (put z)) 0 (put z x):=by
   intro x r
   induction r with
   |@base x hx hp=>exact .base (mem_map.mpr ⟨x,hx,rfl⟩) (by rw[(par x hx).1];exact hp)
   |@step a x ra hf hx hp ih =>
    have ha:put z a=a:=bq λe=>hs (by rw[←T.inj ra.mem hy (e.trans e1)];exact hf);rw[ha]at ih;exact .step ih hf (mem_map.mpr ⟨x,hx,rfl⟩) (by rw[(par x hx).1];exact hp)
  exact key m (T.down m hm)
theorem jS{t:List (Nd S)}{k:Int}{n:Nd S}(r:Reach t 0 n)(h:¬Und t k n.num){u:List (Nd S)}(hu:∀x∈t,¬Und t k x.num→x∈u):Reach u 0 n:=by
 induction r with
 |@base n hm hp=>exact .base (hu n hm h) hp
 |@step m n rm hf hn hp ih=>exact .step (ih λhx=>h (.up hn (by rw[hp];exact hx))) hf (hu n hn h) hp
theorem dropped{t:List (Nd S)}{k:Int}(T:Tree1 t){p:Nd S→Bool}(hp:∀n∈t,p n=true↔¬Und t k n.num):Tree1 (t.filter p):=by
 refine⟨⟨T.rise.sublist filter_sublist,T.own.sublist (filter_sublist.map _),λn hn=>?_⟩,λn hn=>T.pos n (mem_filter.mp hn).1⟩;obtain⟨h1,h2⟩:=mem_filter.mp hn;exact jS (T.down n h1) ((hp n h1).mp h2) λx hx hu=>mem_filter.mpr ⟨hx,(hp x hx).mpr hu⟩
theorem moved{t:List (Nd S)}{y z:Nd S}(T:Tree1 t)(hy:y∈t)(e1:z.num=y.num)(e4:z.st=y.st)(hf:jx t z.par)(hi:z.par≠0→¬Und t y.num z.par)(ho:∀m∈t,m.num≠y.num→¬(m.par=z.par∧m.nm=z.nm)):Tree1 (t.map (put z)):=by
 have hz:z∈t.map (put z):=mem_map.mpr ⟨y,hy,dB e1.symm⟩;have other:∀m∈t,m.num≠y.num→m∈t.map (put z):=λm hm h=>mem_map.mpr ⟨m,hm,bq (by rw[e1];exact h)⟩;have free:∀n∈t,¬Und t y.num n.num→Reach (t.map (put z)) 0 n:=λn hn h=>jS (T.down n hn) h λx hx hu=>other x hx λe=>hu (by rw[e];exact .here);have rz:Reach (t.map (put z)) 0 z:=by
  rcases hf with e|⟨m,h2,h3,e⟩
  ·exact .base hz e
  ·have h0:z.par≠0:=λe'=>by have:=T.pos m h2;omega
   exact .step (free m h2 (by rw[e];exact hi h0)) h3 hz e.symm
 refine⟨⟨mX T.rise,?_,λn hn=>?_⟩,pD T⟩
 ·have h:=T.own;have hr:=T.rise;unfold dM cN Nodup at *;rw[pairwise_map]at h;rw[map_map,pairwise_map];have both:=h.and hr;refine both.imp_of_mem λ{a b} ha hb hab=>?_;obtain⟨h1,h2⟩:=hab;show((put z a).par,(put z a).nm)≠((put z b).par,(put z b).nm)
  by_cases ea:a.num=y.num
  ·have eb:b.num≠y.num:=by omega
   rw[dB (by rw[e1];exact ea),bq (by rw[e1];exact eb)];intro e;injection e with q1 q2
   exact ho b hb eb ⟨q1.symm,q2.symm⟩
  ·by_cases eb:b.num=y.num
   ·rw[dB (m:=b) (by rw[e1];exact eb),bq (by rw[e1];exact ea)];intro e;injection e with q1 q2
    exact ho a ha ea ⟨q1,q2⟩
   ·rw[bq (by rw[e1];exact ea),bq (by rw[e1];exact eb)];exact h1
 ·obtain⟨m,hm,rfl⟩:=mem_map.mp hn
  by_cases em:m.num=y.num
  ·rw[dB (by rw[e1];exact em)];exact rz
  ·rw[bq (by rw[e1];exact em)]
   by_cases hu:Und t y.num m.num
   ·have r:Reach t y.num m:=(cT T (T.pos y hy) hm).mpr ⟨em,hu⟩;clear hu em hm hn
    induction r with
    |@base n hn hp =>
     have hzs:z.st=none:=by
      rcases hJ T hn with e|⟨a,ha,h3,e⟩
      ·have:=T.pos y hy;omega
      ·have:a=y:=T.inj ha hy (e.trans hp);subst this;rw[e4];exact h3
     have hne:n.num≠y.num:=eJ T (.base hn hp);exact .step rz hzs (other n hn hne) (by rw[hp,e1])
    |@step a n ra hfa hn hp ih=>exact .step ih hfa (other n hn (eJ T (.step ra hfa hn hp))) hp
   ·exact free m hm hu
end
end TW
namespace TW
section
variable{S:Type}
inductive Deed(S:Type) where
 |make (n p:Int) (nm:S) (st:Option Int)
 |write (n st:Int)
 |move (n p:Int) (nm:S)
 |drop (n:Int)
inductive Wd where
 |known|noNode|notFile|notFolder|inside|taken
def bu(t:List (Nd S))(k:Int):Prop:=∃m∈t,m.num=k
inductive Told(t:List (Nd S)):Deed S→Sum Wd (List (Nd S))→Prop where
 |mKnown {n p:Int} {nm:S} {st:Option Int}:bu t n→Told t (.make n p nm st) (.inl .known)
 |mNo {n p:Int} {nm:S} {st:Option Int}:¬bu t n→p≠0→¬bu t p→Told t (.make n p nm st) (.inl .noNode)
 |mFile {n p:Int} {nm:S} {st:Option Int} {m:Nd S}:¬bu t n→p≠0→m∈t→m.num=p→m.st≠none→Told t (.make n p nm st) (.inl .notFolder)
 |mTaken {n p:Int} {nm:S} {st:Option Int} {m:Nd S}:¬bu t n→jx t p→m∈t→m.par=p→m.nm=nm→Told t (.make n p nm st) (.inl .taken)
 |made {n p:Int} {nm:S} {st:Option Int} {u:List (Nd S)}:¬bu t n→jx t p→(∀m∈t,¬(m.par=p∧m.nm=nm))→u.Perm (⟨n,p,nm,st⟩::t)→cN u→Told t (.make n p nm st) (.inr u)
 |wNo {n st:Int}:¬bu t n→Told t (.write n st) (.inl .noNode)
 |wFold {n st:Int} {y:Nd S}:y∈t→y.num=n→y.st=none→Told t (.write n st) (.inl .notFile)
 |wrote {n st:Int} {y:Nd S}:y∈t→y.num=n→y.st≠none→Told t (.write n st) (.inr (t.map (put ⟨n,y.par,y.nm,some st⟩)))
 |vNo {n p:Int} {nm:S}:¬bu t n→Told t (.move n p nm) (.inl .noNode)
 |vNoP {n p:Int} {nm:S}:bu t n→p≠0→¬bu t p→Told t (.move n p nm) (.inl .noNode)
 |vFile {n p:Int} {nm:S} {m:Nd S}:bu t n→p≠0→m∈t→m.num=p→m.st≠none→Told t (.move n p nm) (.inl .notFolder)
 |vIn {n p:Int} {nm:S}:bu t n→jx t p→p≠0→Und t n p→Told t (.move n p nm) (.inl .inside)
 |vTaken {n p:Int} {nm:S} {m:Nd S}:bu t n→jx t p→(p≠0→¬Und t n p)→m∈t→m.num≠n→m.par=p→m.nm=nm→Told t (.move n p nm) (.inl .taken)
 |moved {n p:Int} {nm:S} {y:Nd S}:y∈t→y.num=n→jx t p→(p≠0→¬Und t n p)→(∀m∈t,m.num≠n→¬(m.par=p∧m.nm=nm))→Told t (.move n p nm) (.inr (t.map (put ⟨n,p,nm,y.st⟩)))
 |dNo {n:Int}:¬bu t n→Told t (.drop n) (.inl .noNode)
 |dropped {n:Int} {f:Nd S→Bool}:bu t n→(∀m∈t,f m=true↔¬Und t n m.num)→Told t (.drop n) (.inr (t.filter f))
theorem cv{t:List (Nd S)}{p:Int}(h:jx t p)(h0:p≠0)(hn:¬bu t p):False:=by
 rcases h with h|⟨m,hm,_,e⟩
 ·exact h0 h
 ·exact hn ⟨m,hm,e⟩
theorem bw{t:List (Nd S)}(T:Tree1 t){p:Int}{m:Nd S}(h:jx t p)(h0:p≠0)(hm:m∈t)(e:m.num=p)(hs:m.st≠none):False:=by
 rcases h with h|⟨y,hy,h2,e2⟩
 ·exact h0 h
 ·have:=T.inj hm hy (e.trans e2.symm);subst this;exact hs h2
theorem sv{t u:List (Nd S)}(ht:cN t)(hu:cN u)(h:t.Perm u):t=u:=by
 have main:∀{l m:List (Nd S)},cN l→cN m→(∀x,x∈l↔x∈m)→l=m:=by
  intro l
  induction l with
  |nil =>
   intro m _ _ h;cases m with
   |nil=>rfl
   |cons b m=>exact absurd ((h b).mpr (by simp)) (by simp)
  |cons a l ih =>
   intro m hl hm h;cases m with
   |nil=>exact absurd ((h a).mp (by simp)) (by simp)
   |cons b m =>
    unfold cN at hl hm ih;rw[pairwise_cons]at hl hm;have e:a=b:=by
     rcases mem_cons.mp ((h a).mp (by simp))with e|h1
     ·exact e
     ·rcases mem_cons.mp ((h b).mpr (by simp))with e|h2
      ·exact e.symm
      ·have:=hl.1 b h2;have:=hm.1 a h1;omega
    subst e;rw[ih hl.2 hm.2 λx=>?_];constructor
    ·intro hx;rcases mem_cons.mp ((h x).mp (by simp[hx]))with e|h1
     ·subst e;have:=hl.1 x hx;omega
     ·exact h1
    ·intro hx;rcases mem_cons.mp ((h x).mpr (by simp[hx]))with e|h1
     ·subst e;have:=hm.1 x hx;omega
     ·exact h1
 exact main ht hu λx=>h.mem_iff
theorem Told.one{t:List (Nd S)}(T:Tree1 t){d:Deed S}{r r':Sum Wd (List (Nd S))}(h:Told t d r)(h':Told t d r'):r=r':=by
 have hno:∀{k:Int}{m:Nd S},m∈t→m.num=k→¬bu t k→False:=λhm e hn=>hn ⟨_,hm,e⟩;have one:∀{k:Int}{a b:Nd S},a∈t→a.num=k→b∈t→b.num=k→a=b:=λha ea hb eb=>T.inj ha hb (ea.trans eb.symm);cases h with
 |mKnown a1=>cases h'<;>first|rfl|(exfalso;contradiction)
 |mNo a1 a2 a3=>cases h' with
  |mKnown b1=>exact absurd b1 a1
  |mNo=>rfl
  |mFile b1 b2 b3 b4 b5=>exact(hno b3 b4 a3).elim
  |mTaken b1 b2=>exact(cv b2 a2 a3).elim
  |made b1 b2=>exact(cv b2 a2 a3).elim
 |mFile a1 a2 a3 a4 a5=>cases h' with
  |mKnown b1=>exact absurd b1 a1
  |mNo b1 b2 b3=>exact(hno a3 a4 b3).elim
  |mFile=>rfl
  |mTaken b1 b2=>exact(bw T b2 a2 a3 a4 a5).elim
  |made b1 b2=>exact(bw T b2 a2 a3 a4 a5).elim
 |mTaken a1 a2 a3 a4 a5=>cases h' with
  |mKnown b1=>exact absurd b1 a1
  |mNo b1 b2 b3=>exact(cv a2 b2 b3).elim
  |mFile b1 b2 b3 b4 b5=>exact(bw T a2 b2 b3 b4 b5).elim
  |mTaken=>rfl
  |made b1 b2 b3=>exact(b3 _ a3 ⟨a4,a5⟩).elim
 |made a1 a2 a3 a4 a5=>cases h' with
  |mKnown b1=>exact absurd b1 a1
  |mNo b1 b2 b3=>exact(cv a2 b2 b3).elim
  |mFile b1 b2 b3 b4 b5=>exact(bw T a2 b2 b3 b4 b5).elim
  |mTaken b1 b2 b3 b4 b5=>exact(a3 _ b3 ⟨b4,b5⟩).elim
  |made b1 b2 b3 b4 b5=>rw[sv a5 b5 (a4.trans b4.symm)]
 |wNo a1=>cases h' with
  |wNo=>rfl
  |wFold b1 b2=>exact(hno b1 b2 a1).elim
  |wrote b1 b2=>exact(hno b1 b2 a1).elim
 |wFold a1 a2 a3=>cases h' with
  |wNo b1=>exact(hno a1 a2 b1).elim
  |wFold=>rfl
  |wrote b1 b2 b3=>rw[one a1 a2 b1 b2]at a3;exact absurd a3 b3
 |wrote a1 a2 a3=>cases h' with
  |wNo b1=>exact(hno a1 a2 b1).elim
  |wFold b1 b2 b3=>rw[one b1 b2 a1 a2]at b3;exact absurd b3 a3
  |wrote b1 b2 b3=>rw[one b1 b2 a1 a2]
 |vNo a1=>cases h' with
  |vNo=>rfl
  |vNoP=>rfl
  |vFile b1=>exact absurd b1 a1
  |vIn b1=>exact absurd b1 a1
  |vTaken b1=>exact absurd b1 a1
  |moved b1 b2=>exact(hno b1 b2 a1).elim
 |vNoP a1 a2 a3=>cases h' with
  |vNo=>rfl
  |vNoP=>rfl
  |vFile b1 b2 b3 b4=>exact(hno b3 b4 a3).elim
  |vIn b1 b2=>exact(cv b2 a2 a3).elim
  |vTaken b1 b2=>exact(cv b2 a2 a3).elim
  |moved b1 b2 b3=>exact(cv b3 a2 a3).elim
 |vFile a1 a2 a3 a4 a5=>cases h' with
  |vNo b1=>exact absurd a1 b1
  |vNoP b1 b2 b3=>exact(hno a3 a4 b3).elim
  |vFile=>rfl
  |vIn b1 b2=>exact(bw T b2 a2 a3 a4 a5).elim
  |vTaken b1 b2=>exact(bw T b2 a2 a3 a4 a5).elim
  |moved b1 b2 b3=>exact(bw T b3 a2 a3 a4 a5).elim
 |vIn a1 a2 a3 a4=>cases h' with
  |vNo b1=>exact absurd a1 b1
  |vNoP b1 b2 b3=>exact(cv a2 b2 b3).elim
  |vFile b1 b2 b3 b4 b5=>exact(bw T a2 b2 b3 b4 b5).elim
  |vIn=>rfl
  |vTaken b1 b2 b3=>exact absurd a4 (b3 a3)
  |moved b1 b2 b3 b4=>exact absurd a4 (b4 a3)
 |vTaken a1 a2 a3 a4 a5 a6 a7=>cases h' with
  |vNo b1=>exact absurd a1 b1
  |vNoP b1 b2 b3=>exact(cv a2 b2 b3).elim
  |vFile b1 b2 b3 b4 b5=>exact(bw T a2 b2 b3 b4 b5).elim
  |vIn b1 b2 b3 b4=>exact absurd b4 (a3 b3)
  |vTaken=>rfl
  |moved b1 b2 b3 b4 b5=>exact(b5 _ a4 a5 ⟨a6,a7⟩).elim
 |moved a1 a2 a3 a4 a5=>cases h' with
  |vNo b1=>exact(hno a1 a2 b1).elim
  |vNoP b1 b2 b3=>exact(cv a3 b2 b3).elim
  |vFile b1 b2 b3 b4 b5=>exact(bw T a3 b2 b3 b4 b5).elim
  |vIn b1 b2 b3 b4=>exact absurd b4 (a4 b3)
  |vTaken b1 b2 b3 b4 b5 b6 b7=>exact(a5 _ b4 b5 ⟨b6,b7⟩).elim
  |moved b1 b2=>rw[one b1 b2 a1 a2]
 |dNo a1=>cases h' with
  |dNo=>rfl
  |dropped b1=>exact absurd b1 a1
 |dropped a1 a2=>cases h' with
  |dNo b1=>exact absurd a1 b1
  |dropped b1 b2 =>
   congr 1
   apply filter_congr;intro m hm;rw[Bool.eq_iff_iff,a2 m hm,b2 m hm]
def Deed.pos:Deed S→Prop
 |.make n _ _ _=>1≤n
 |_=>True
theorem Told.tree{t u:List (Nd S)}(T:Tree1 t){d:Deed S}(h:Told t d (.inr u))(hp:d.pos):Tree1 u:=by
 generalize er:(Sum.inr u:Sum Wd (List (Nd S)))=r at h;cases h with
 |made a1 a2 a3 a4 a5 =>
  injection er with er
  subst er;exact TW.made T a4 a5 hp a2 λm hm=>a3 m hm
 |wrote a1 a2 a3 =>
  injection er with er
  subst er a2;exact TW.wrote T a1 rfl rfl rfl a3
 |moved a1 a2 a3 a4 a5 =>
  injection er with er
  subst er a2;exact TW.moved T a1 rfl rfl a3 a4 a5
 |dropped a1 a2 =>
  injection er with er
  subst er;exact TW.dropped T a2
 |_=>cases er
end
end TW
namespace TW
section
variable{S:Type}
inductive Chain:List (Nd S)→List (Deed S)→List (Nd S)→Prop where
 |nil {t:List (Nd S)}:Chain t [] t
 |cons {t u v:List (Nd S)} {d:Deed S} {ds:List (Deed S)}:Told t d (.inr u)→Chain u ds v→Chain t (d::ds) v
theorem Chain.snoc{t u v:List (Nd S)}{ds:List (Deed S)}{d:Deed S}(h:Chain t ds u)(hd:Told u d (.inr v)):Chain t (ds++[d]) v:=by
 induction h with
 |nil=>exact .cons hd .nil
 |cons h1 _ ih=>exact .cons h1 (ih hd)
theorem Chain.head{t v:List (Nd S)}{d:Deed S}{ds:List (Deed S)}(h:Chain t (d::ds) v):∃u,Told t d (.inr u)∧Chain u ds v:=by
 cases h with
 |cons h1 h2=>exact⟨_,h1,h2⟩
theorem Chain.end{t v:List (Nd S)}(h:Chain t [] v):t=v:=by cases h;rfl
end
end TW
namespace L2
open PySem PySem.Spec PyProof.Rows
section
variable{P:Program}{w:World}{K:PySem.W.Frag}{mg:Str→Option Value}{base:Heap}
theorem Fun.okX{x qual:Str}{st:Stmt}{f:Addr}{fd:FuncData}{N ps:List Str}{k:Nat}{sp:Sp}(F:Fun K x qual st f fd)(S:FnScope N ps (ai st))(len:∀vs H Q E,sp vs H Q E→vs.length=ps.length)(hbody:∀(cdv:Value) (A:Around) (outer:List Env) (s:Shared) (H:Hp) (vs:List V) (Q:VK) (E:XK),Room k (A.deeper (envOfC qual (ai st) s.heap.objs.size f cdv))→sp vs H Q E →
   ∃t,PSs (ko (CX1 P w) P w K mg base N qual (ai st) f cdv A outer s H E) (bU st) t∧t {nx:=λ_ H'=>Q .non H',rt:=Q} (start N vs) H):FnOk P w K mg base (CX1 P w) (k+1) f fd ps sp:=by
 obtain⟨oc,od,kV,doc,pm,an,cdv,ct,osl,rfl,lk,hcd⟩:=F.ex;exact vx lk hcd S len λA outer s H vs Q E hr hsp=>hbody cdv A outer s H vs Q E hr hsp
theorem LcOk.mk'{X:Cx}{scope:Scope}{cl:List (Str×Addr)}(fs:List Str)(hk:scope.kind=.function)(hc:closureFor scope X.env=pure cl)(hn:∀x∈scope.names,x.2=.local→scope.names.lookup x.1=some .local)(hnc:∀x∈scope.names,x.2≠.cell)(hcl:∀y∈cl,X.env.cells.lookup y.1=some y.2)(hfs:cl.map (·.1)=fs)(hall:scope.names.all (λy=>!(y.2==.free)||fs.contains y.1)=true):LcOk X scope cl:=by
 refine⟨hk,hc,hn,hnc,λx c h=>hcl (x,c) (PySem.mem_of_lookup h),λx h=>?_⟩;have hm:∃k,(x,k)∈(relabel scope X.env).names∧(k=.cell∨k=.free):=by
  rcases h with h|h
  ·exact⟨_,PySem.mem_of_lookup h,.inl rfl⟩
  ·exact⟨_,PySem.mem_of_lookup h,.inr rfl⟩
 obtain⟨k,hm,hk'⟩:=hm;unfold relabel at hm;obtain⟨⟨y,k0⟩,hy,e⟩:=mem_map.mp hm;have hfree:x=y∧k0=.free:=by
  cases k0 with
  |free =>
   simp only at e
   split at e
   ·injection e with e1 e2;exact⟨e1.symm,rfl⟩
   ·injection e with e1 e2;exact⟨e1.symm,rfl⟩
  |cell=>exact absurd rfl (hnc _ hy)
  |_ =>
   exfalso
   have e2:k=_:=(congrArg Prod.snd e).symm;simp at e2;rcases hk' with z|z<;>rw[z]at e2<;>cases e2
 obtain⟨rfl,rfl⟩:=hfree;have:=all_eq_true.mp hall _ hy;have hin:fs.contains x=true:=by simpa using this
 rw[←hfs]at hin;have hmem:x∈cl.map (·.1):=List.contains_iff_mem.mp hin;cases e:cl.lookup x with
 |some c=>exact⟨c,rfl⟩
 |none =>
  exfalso
  obtain⟨y,hy,ey⟩:=mem_map.mp hmem;have:=List.lookup_eq_none_iff.mp e y hy;rw[ey]at this;simp at this
end
end L2
namespace TK
open PySem L2
abbrev Nd:=TW.Nd Str
def stV:Option Int→V
 |none=>.non
 |some i=>.int i
def vals(n:Nd):List V:=[.int n.num,.int n.par,.str n.nm,stV n.st]
abbrev ZN:=List (Addr×Nd)
def aq(zs:ZN):List V:=(zs.map (·.1)).map V.ref
def nds(zs:ZN):List Nd:=zs.map (·.2)
def At(H:Hp)(zs:ZN):Prop:=∀z∈zs,H z.1=some (.tup (vals z.2))
theorem At.same{H H':Hp}{zs:ZN}(h:At H zs)(s:ak H H'):At H' zs:=λz hz=>s _ _ (h z hz)
theorem aE(zs:ZN):(aq zs).length=zs.length:=by simp[aq]
theorem aR(zs:ZN):(nds zs).length=zs.length:=by simp[nds]
theorem br{zs:ZN}{i:Nat}{x:V}(h:(aq zs)[i]?=some x):∃z,zs[i]?=some z∧x=.ref z.1:=by
 unfold aq at h;rw[getElem?_map,getElem?_map]at h;cases e:zs[i]? with
 |none=>rw[e]at h;cases h
 |some z=>rw[e]at h;exact⟨z,rfl,(Option.some.inj h).symm⟩
theorem gK{zs:ZN}{i:Nat}{z:Addr×Nd}(h:zs[i]?=some z):(aq zs)[i]?=some (.ref z.1):=by
 unfold aq;rw[getElem?_map,getElem?_map,h];rfl
theorem at0(n:Nd):atI (vals n) 0=some (.int n.num):=rfl
theorem at1(n:Nd):atI (vals n) 1=some (.int n.par):=rfl
theorem at2(n:Nd):atI (vals n) 2=some (.str n.nm):=rfl
theorem at3(n:Nd):atI (vals n) 3=some (stV n.st):=rfl
theorem wN{σ:St}(h:σ.length=2):∃a b,σ=[a,b]:=by
 match σ,h with
 |[a,b],_=>exact⟨a,b,rfl⟩
theorem sw{σ:St}(h:σ.length=1):∃a,σ=[a]:=by
 match σ,h with
 |[a],_=>exact⟨a,rfl⟩
theorem ao{n:Nat}(h:n≤1000):n≤sizeLine:=le_of_lt (ax h)
theorem le2:2≤sizeLine:=ao (by decide)
theorem kX{A:Around}{k:Nat}(hr:Room k A):A.units+4<cLine:=lt_of_le_of_lt (Nat.add_le_add_left (by decide:4≤64) _) hr.units
def plK(n:Nd):List Key:=[.inl n.par,.inr n.nm]
theorem qM(zs:List Nd):(zs.map plK).Nodup↔TW.dM zs:=by
 unfold TW.dM Nodup;rw[pairwise_map,pairwise_map];have e:∀a b:Nd,(plK a≠plK b)=((a.par,a.nm)≠(b.par,b.nm)):=λa b=>by
  simp[plK]
 simp only[e]
def ins(zs:ZN)(k:Int):ZN:=zs.filter λz=>decide (z.2.par=k)
theorem pE(zs:ZN)(k:Int):nds (ins zs k)=TW.inside (nds zs) k:=by
 unfold nds ins TW.inside;rw[filter_map];rfl
theorem eK(zs:ZN)(z:Addr×Nd)(k:Int):ins (zs++[z]) k=if z.2.par=k then ins zs k++[z]else ins zs k:=by
 unfold ins;rw[filter_append]
 by_cases h:z.2.par=k
 ·rw[if_pos h,filter_cons_of_pos (by simp[h])];rfl
 ·rw[if_neg h,filter_cons_of_neg (by simp[h])];simp
theorem uF{zs:ZN}{k:Int}{z:Addr×Nd}(h:z∈ins zs k):z∈zs:=(mem_filter.mp h).1
theorem jT(zs:ZN)(z:Addr×Nd):aq (zs++[z])=aq zs++[.ref z.1]:=by simp[aq]
theorem sx{zs:ZN}(h:aq zs=[]):zs=[]:=by
 cases zs with
 |nil=>rfl
 |cons a r=>simp[aq]at h
structure Mem(H0 H:Hp)(d:Addr)(L:Int→Addr)(kvs:List (Key×V))(xs:ZN)(dn:List Int):Prop where
 dict:H d=some (.dK kvs)
 d0:H0 d=none
 len:kvs.length≤xs.length
 val:∀k:Int,aT kvs (Sum.inl k:Key)=if k∈dn∨ins xs k=[]then none else some (.ref (L k))
 at':∀k,k∉dn→ins xs k≠[]→H (L k)=some (.lst (aq (ins xs k)))∧H0 (L k)=none
 inj:∀k k',k∉dn→k'∉dn→ins xs k≠[]→ins xs k'≠[]→L k=L k'→k=k'
 same:ak H0 H
theorem Mem.grow{H0 H H':Hp}{d:Addr}{L:Int→Addr}{kvs:List (Key×V)}{xs:ZN}{dn:List Int}(m:Mem H0 H d L kvs xs dn)(s:ak H H'):Mem H0 H' d L kvs xs dn :=
 ⟨s _ _ m.dict,m.d0,m.len,m.val,λk h1 h2=>⟨s _ _ (m.at' k h1 h2).1,(m.at' k h1 h2).2⟩,m.inj,m.same.trans s⟩
theorem Mem.other{H0 H:Hp}{d p:Addr}{L:Int→Addr}{kvs:List (Key×V)}{xs:ZN}{dn:List Int}{is:List Int}{o:HO}(m:Mem H0 H d L kvs xs dn)(hp:H p=some (.lst (is.map V.int)))(h0:H0 p=none):Mem H0 (upd H p o) d L kvs xs dn:=by
 refine⟨?_,m.d0,m.len,m.val,λk h1 h2=>⟨?_,(m.at' k h1 h2).2⟩,m.inj,aZ h0 m.same⟩
 ·rw[al]
  ·exact m.dict
  ·intro e;have:=m.dict;rw[e,hp]at this;cases this
 ·have e1:=(m.at' k h1 h2).1;rw[al]
  ·exact e1
  ·intro e;rw[e,hp]at e1;injection e1 with e1
   injection e1 with e1
   have hne:=h2;cases hk:ins xs k with
   |nil=>exact h2 hk
   |cons a r =>
    rw[hk]at e1;cases is with
    |nil=>simp[aq]at e1
    |cons i r'=>simp[aq]at e1
theorem Mem.start{H0:Hp}{d:Addr}(h:H0 d=none):Mem H0 (upd H0 d (.dK [])) d (λ_=>d) [] [] [] :=
 ⟨ac,h,by simp,λk=>by rw[if_pos (.inr rfl)];rfl,λk _ h=>absurd rfl h,λk k' _ _ h=>absurd rfl h,af h⟩
theorem Mem.hit{H0 H:Hp}{d:Addr}{L:Int→Addr}{kvs:List (Key×V)}{xs:ZN}{z:Addr×Nd}(m:Mem H0 H d L kvs xs [])(hp:ins xs z.2.par≠[]):
  Mem H0 (upd H (L z.2.par) (.lst (aq (ins xs z.2.par)++[.ref z.1]))) d L kvs (xs++[z]) []:=by
 have e1:=(m.at' z.2.par (by simp) hp);have hd:d≠L z.2.par:=λe=>by
  have:=m.dict;rw[e,e1.1]at this;cases this
 have ne:∀k,ins (xs++[z]) k=[]↔ins xs k=[]:=λk=>by
  rw[eK]
  by_cases h:z.2.par=k
  ·rw[if_pos h];subst h;simp[hp]
  ·rw[if_neg h]
 refine⟨by rw[al hd];exact m.dict,m.d0,by have:=m.len;simp;omega,λk=>?_,λk h1 h2=>?_,λk k' _ _ h2 h3 e=>m.inj k k' (by simp) (by simp) (λh=>h2 ((ne k).mpr h)) (λh=>h3 ((ne k').mpr h)) e,aZ e1.2 m.same⟩
 ·rw[m.val k];simp only[ne k]
 ·have h2':ins xs k≠[]:=λh=>h2 ((ne k).mpr h);refine⟨?_,(m.at' k h1 h2').2⟩
  by_cases h:z.2.par=k
  ·subst h;rw[ac,eK,if_pos rfl,jT]
  ·rw[al,eK,if_neg h]
   ·exact(m.at' k h1 h2').1
   ·intro e;exact h (m.inj _ _ (by simp) (by simp) hp h2' e.symm)
theorem Mem.fresh{H0 H:Hp}{d q:Addr}{L:Int→Addr}{kvs:List (Key×V)}{xs:ZN}{z:Addr×Nd}(m:Mem H0 H d L kvs xs [])(hp:ins xs z.2.par=[])(hq:H q=none):
  Mem H0 (upd (upd (upd H q (.lst [])) d (.dK (ce kvs (Sum.inl z.2.par:Key) (.ref q)))) q (.lst ([]++[.ref z.1]))) d (λk=>if k=z.2.par then q else L k) (ce kvs (Sum.inl z.2.par:Key) (.ref q)) (xs++[z]) []:=by
 have hdq:d≠q:=λe=>by
  have:=m.dict;rw[e,hq]at this;cases this
 have lq:∀k,ins xs k≠[]→L k≠q:=λk h e=>by
  have:=(m.at' k (by simp) h).1;rw[e,hq]at this;cases this
 have ld:∀k,ins xs k≠[]→L k≠d:=λk h e=>by
  have:=(m.at' k (by simp) h).1;rw[e,m.dict]at this;cases this
 have q0:H0 q=none:=m.same.free hq;have e2:∀k,k≠z.2.par→ins (xs++[z]) k=ins xs k:=λk h=>by rw[eK,if_neg (λe=>h e.symm)]
 have e3:ins (xs++[z]) z.2.par=[z]:=by rw[eK,if_pos rfl,hp];rfl
 refine⟨by rw[al hdq,ac],m.d0,?_,λk=>?_,λk h1 h2=>?_,λk k' _ _ h2 h3 e=>?_,?_⟩
 ·have h1:=m.len;have h2:=dh kvs (Sum.inl z.2.par:Key) (.ref q);rw[length_append,length_singleton];omega
 ·rw[iJ]
  by_cases h:k=z.2.par
  ·subst h;rw[if_pos rfl,if_neg (by rw[e3];simp),if_pos rfl]
  ·rw[if_neg (λe=>h (Sum.inl.inj e)),m.val k,e2 k h,if_neg h]
 ·by_cases h:k=z.2.par
  ·subst h;simp only[if_true];exact⟨by rw[ac,e3];rfl,q0⟩
  ·rw[e2 k h]at h2;simp only[if_neg h];refine⟨?_,(m.at' k h1 h2).2⟩;rw[al (lq k h2),al (ld k h2),al (lq k h2),e2 k h];exact(m.at' k h1 h2).1
 ·by_cases h:k=z.2.par
  ·by_cases h':k'=z.2.par
   ·rw[h,h']
   ·rw[e2 k' h']at h3;simp only[if_pos h,if_neg h']at e;exact absurd e.symm (lq k' h3)
  ·rw[e2 k h]at h2
   by_cases h':k'=z.2.par
   ·simp only[if_neg h,if_pos h']at e;exact absurd e (lq k h2)
   ·rw[e2 k' h']at h3;simp only[if_neg h,if_neg h']at e;exact m.inj k k' (by simp) (by simp) h2 h3 e
 ·exact aZ q0 (aZ m.d0 (m.same.trans (af hq)))
theorem qO{κ:Type}[DecidableEq κ](kvs:List (κ×V))(k j:κ):aT (cH kvs k) j=if j=k then none else aT kvs j:=by
 induction kvs with
 |nil=>simp[cH,aT]
 |cons p r ih =>
  by_cases e:p.1=k
  ·rw[qt e,ih]
   by_cases h:j=k
   ·rw[if_pos h,if_pos h]
   ·rw[if_neg h,if_neg h,aS (λz=>h (z.symm.trans e))]
  ·rw[qu e]
   by_cases h:p.1=j
   ·rw[bc h,if_neg (λz=>e (h.trans z)),bc h]
   ·rw[aS h,ih,aS h]
theorem Mem.drop{H0 H:Hp}{d:Addr}{L:Int→Addr}{kvs:List (Key×V)}{xs:ZN}{dn:List Int}(m:Mem H0 H d L kvs xs dn)(x:Int):Mem H0 (upd H d (.dK (cH kvs (Sum.inl x:Key)))) d L (cH kvs (Sum.inl x:Key)) xs (x::dn):=by
 have ld:∀k,k∉dn→ins xs k≠[]→L k≠d:=λk h0 h e=>by
  have:=(m.at' k h0 h).1;rw[e,m.dict]at this;cases this
 have no:∀k,k∉x::dn→k∉dn:=λk h h'=>h (mem_cons_of_mem _ h');refine⟨ac,m.d0,le_trans (lL _ _) m.len,λk=>?_,λk h1 h2=>?_,λk k' h0 h1 h2 h3 e=>m.inj k k' (no k h0) (no k' h1) h2 h3 e,aZ m.d0 m.same⟩
 ·rw[qO,m.val k]
  by_cases h:k=x
  ·rw[if_pos (by rw[h]),if_pos (.inl (by rw[h];simp))]
  ·rw[if_neg (λe=>h (Sum.inl.inj e))];simp[h]
 ·rw[al (ld k (no k h1) h2)];exact m.at' k (no k h1) h2
theorem Mem.skip{H0 H:Hp}{d:Addr}{L:Int→Addr}{kvs:List (Key×V)}{xs:ZN}{dn:List Int}(m:Mem H0 H d L kvs xs dn){x:Int}(hx:x∈dn∨ins xs x=[]):Mem H0 H d L kvs xs (x::dn):=by
 have no:∀k,k∉x::dn→k∉dn:=λk h h'=>h (mem_cons_of_mem _ h');refine⟨m.dict,m.d0,m.len,λk=>?_,λk h1 h2=>m.at' k (no k h1) h2,λk k' h0 h1 h2 h3 e=>m.inj k k' (no k h0) (no k' h1) h2 h3 e,m.same⟩;rw[m.val k]
 by_cases h:k=x
 ·subst h;rw[if_pos hx,if_pos (.inl (by simp))]
 ·simp[h]
theorem sy{Q:VK}{H0 H:Hp}{d q:Addr}{L:Int→Addr}{kvs:List (Key×V)}{zs:ZN}{dn:List Int}{x:Int}(m:Mem H0 H d L kvs zs dn)(hq:H q=some (.lst []))(k:∀hl Hc kvs' hs,Mem H0 Hc d L kvs' zs (x::dn)→Hc hl=some (.lst (aq hs))→nds hs=TW.here (nds zs) dn x→(∀z∈hs,z∈zs)→(∀p,p≠d→Hc p=H p)→(hs=[]→hl=q)→Q (.ref hl) Hc):
  ∃kvs k,H d=some (.dK kvs)∧V.int x=kV k∧(∀v,aT kvs k=some v→Q v (upd H d (.dK (cH kvs k))))∧(aT kvs k=none→Q (.ref q) H):=by
 refine⟨kvs,.inl x,m.dict,rfl,λv hv=>?_,λhn=>?_⟩
 ·rw[m.val x]at hv
  by_cases h:x∈dn∨ins zs x=[]
  ·rw[if_pos h]at hv;cases hv
  ·rw[if_neg h]at hv;have h1:x∉dn:=λz=>h (.inl z);have h2:ins zs x≠[]:=λz=>h (.inr z);cases hv;have a:=(m.at' x h1 h2).1;have ld:L x≠d:=λe=>by rw[e,m.dict]at a;cases a
   refine k (L x) _ _ (ins zs x) (m.drop x) (by rw[al ld];exact a) ?_ (λz hz=>uF hz) (λp hp=>al hp) (λe=>absurd e h2);rw[pE];unfold TW.here;rw[if_neg h1]
 ·rw[m.val x]at hn
  by_cases h:x∈dn∨ins zs x=[]
  ·refine k q _ _ [] (m.skip h) hq ?_ (by simp) (λp _=>rfl) (λ_=>rfl);unfold TW.here
   by_cases h1:x∈dn
   ·rw[if_pos h1];rfl
   ·rw[if_neg h1];rcases h with h|h
    ·exact absurd h h1
    ·rw[←pE,h]
  ·rw[if_neg h]at hn;cases hn
theorem pF{H:Hp}{p hl:Addr}{hs:ZN}{is:List Int}(hp:H p=some (.lst (is.map V.int)))(h:H hl=some (.lst (aq hs)))(hne:hs≠[]):hl≠p:=by
 intro e;rw[e,hp]at h;injection h with h
 injection h with h
 cases hs with
 |nil=>exact hne rfl
 |cons a r =>
  cases is with
  |nil=>simp[aq]at h
  |cons i r'=>simp[aq]at h
def jU(H:Hp)(p:Addr):Nat:=match H p with
 |some (.lst xs)=>xs.length
 |_=>0
theorem gL{H:Hp}{p:Addr}{xs:List V}(h:H p=some (.lst xs)):jU H p=xs.length:=by unfold jU;rw[h]
def cZ(l:List Nd):List V:=(l.map (·.num)).map V.int
def ff(K:PySem.W.Frag)(H:Hp)(a:Addr):Prop:=∃ns:List Int,SqL K H a (ns.map V.int)
theorem ff.same{K:PySem.W.Frag}{H H':Hp}{a:Addr}(h:ff K H a)(s:ak H H'):ff K H' a:=let⟨ns,e⟩:=h;⟨ns,s.seq e⟩
theorem mY{ns:List Int}{i:Int}(h0:0≤i)(h1:i<ns.length):∃j,atI (ns.map V.int) i=some (.int j):=by
 refine⟨ns[i.toNat]'(by omega),?_⟩;have:=bG (xs:=ns.map V.int) (j:=i.toNat) (v:=.int (ns[i.toNat]'(by omega))) (by rw[getElem?_map,getElem?_eq_getElem (by omega)];rfl);rw[show((i.toNat:Nat):Int)=i by omega]at this;exact this
def Has(P:Program)(w:World)(K:PySem.W.Frag)(mg:Str→Option Value)(base:Heap)(k:Nat)(x:Str)(ps:List Str)(sp:Sp):Prop:=∃f fd,FnOk P w K mg base CX0 k f fd ps sp∧mg x=some (.ref f)∧keepIn K (.ref f)=true∧bY K fd ps []
def tp(z:Addr×Nd):iu:=(z.1,z.2.num,[.int z.2.par,.str z.2.nm,stV z.2.st])
def un(t:iu):Addr×Nd:=(t.1,match t.2.2 with
 |[.int p,.str s,.int i]=>⟨t.2.1,p,s,some i⟩
 |[.int p,.str s,_]=>⟨t.2.1,p,s,none⟩
 | _=>⟨0,0,"",none⟩)
theorem vB(z:Addr×Nd):un (tp z)=z:=by
 obtain⟨a,⟨n,p,s,st⟩⟩:=z;cases st<;>rfl
theorem back{zs:ZN}{ts:List iu}(h:ts.Perm (zs.map tp)):(ts.map un).Perm zs∧(ts.map un).map tp=ts:=by
 constructor
 ·have:=h.map un;rw[map_map]at this;have e:zs.map (un∘tp)=zs.map id:=map_congr_left λz _=>vB z;rw[e,List.map_id]at this;exact this
 ·rw[map_map,map_congr_left (g:=id)]
  ·simp
  ·intro t ht;obtain⟨z,_,rfl⟩:=mem_map.mp (h.mem_iff.mp ht);show tp (un (tp z))=tp z;rw[vB]
theorem pG(zs:ZN):((zs.map tp).map (·.1)).map V.ref=aq zs:=by
 unfold aq;simp only[map_map];rfl
theorem wO{n:Nat}{j:Int}(h0:0≤j)(h1:j<n):seqIndex? j n=some j.toNat:=(oW (by unfold ixN;rw[if_pos h0,if_pos h1])).1
def cE(zs:ZN):List (Key×V):=zs.map λz=>((Sum.inl z.2.num:Key),V.ref z.1)
theorem kY{zs:ZN}(hn:((nds zs).map (·.num)).Nodup){z:Addr×Nd}(hz:z∈zs):aT (cE zs) (Sum.inl z.2.num:Key)=some (.ref z.1):=by
 induction zs with
 |nil=>simp at hz
 |cons y zs ih =>
  have hn':y.2.num∉(nds zs).map (·.num)∧((nds zs).map (·.num)).Nodup:=by simpa [nds]using hn
  show aT (((Sum.inl y.2.num:Key),V.ref y.1)::cE zs) _=_;rcases mem_cons.mp hz with e|hz'
  ·subst e;exact bc rfl
  ·rw[aS]
   ·exact ih hn'.2 hz'
   ·intro e;injection e with e
    exact hn'.1 (mem_map.mpr ⟨z.2,mem_map.mpr ⟨z,hz',rfl⟩,e.symm⟩)
theorem og{zs:ZN}{k:Int}(h:∀z∈zs,z.2.num≠k):aT (cE zs) (Sum.inl k:Key)=none:=by
 induction zs with
 |nil=>rfl
 |cons y zs ih =>
  show aT (((Sum.inl y.2.num:Key),V.ref y.1)::cE zs) _=_;rw[aS]
  ·exact ih λz hz=>h z (mem_cons_of_mem _ hz)
  ·intro e;injection e with e
   exact h y (by simp) e
def fU(H:Hp)(d:Addr)(zs:ZN):Prop:=∃o,H d=some (.frz o (.dK (cE zs)))
theorem fU.same{H H':Hp}{d:Addr}{zs:ZN}(h:fU H d zs)(s:ak H H'):fU H' d zs:=let⟨o,e⟩:=h;⟨o,s _ _ e⟩
theorem fU.get{H:Hp}{d:Addr}{zs:ZN}(h:fU H d zs)(hn:((nds zs).map (·.num)).Nodup){z:Addr×Nd}(hz:z∈zs):eB H d (.int z.2.num) (some (.ref z.1)):=by
 obtain⟨o,e⟩:=h;exact .inl ⟨cE zs,Sum.inl z.2.num,.inr ⟨o,e⟩,rfl,(kY hn hz).symm⟩
theorem fU.not{H:Hp}{d:Addr}{zs:ZN}(h:fU H d zs){k:Int}(hk:∀z∈zs,z.2.num≠k):eB H d (.int k) none:=by
 obtain⟨o,e⟩:=h;exact .inl ⟨cE zs,Sum.inl k,.inr ⟨o,e⟩,rfl,(og hk).symm⟩
theorem ci{ns:List Nd}(T:TW.Tree1 ns):(ns.map (·.num)).Nodup:=by
 have h:=T.rise;unfold TW.cN at h;unfold Nodup;rw[pairwise_map];exact h.imp λh e=>by omega
theorem uG{ys:List V}{zs:ZN}{H:Hp}{p:Addr}{g:Addr×Nd→List V}(hlen:ys.length=zs.length)(h:∀(i:Nat) y,ys[i]?=some y→∃q z,zs[i]?=some z∧y=.ref q∧q≠p∧H q=some (.tup (g z))):
  ∃as:List (Addr×(Addr×Nd)),as.map (·.2)=zs∧ys=(as.map (·.1)).map V.ref∧∀a∈as,a.1≠p∧H a.1=some (.tup (g a.2)):=by
 induction ys generalizing zs with
 |nil =>
  have:zs=[]:=List.length_eq_zero_iff.mp hlen.symm;subst this;exact⟨[],rfl,rfl,by simp⟩
 |cons y ys ih =>
  cases zs with
  |nil=>simp at hlen
  |cons z zs =>
   obtain⟨as,e1,e2,e3⟩:=ih (zs:=zs) (by simpa using hlen) λi x hx=>by simpa using h (i+1) x (by simpa using hx)
   obtain⟨q,z',f1,f2,f3,f4⟩:=h 0 y rfl;have:z=z':=by simpa using f1
   subst this;refine⟨(q,z)::as,by simp[e1],by simp[e2,f2],λa ha=>?_⟩;rcases mem_cons.mp ha with rfl|ha
   ·exact⟨f3,f4⟩
   ·exact e3 a ha
theorem sA{κ:Type}[DecidableEq κ]{kvs:List (κ×V)}(hn:(kvs.map (·.1)).Nodup){k:κ}{v:V}(h:(k,v)∈kvs):aT kvs k=some v:=by
 induction kvs with
 |nil=>simp at h
 |cons y kvs ih =>
  have hn':y.1∉kvs.map (·.1)∧(kvs.map (·.1)).Nodup:=by simpa using hn
  rcases mem_cons.mp h with e|h'
  ·subst e;exact bc rfl
  ·rw[aS]
   ·exact ih hn'.2 h'
   ·intro e;exact hn'.1 (mem_map.mpr ⟨_,h',e.symm⟩)
theorem pH{κ:Type}[DecidableEq κ]{kvs:List (κ×V)}{k:κ}(h:k∉kvs.map (·.1)):aT kvs k=none:=by
 induction kvs with
 |nil=>rfl
 |cons y kvs ih =>
  have h':¬k=y.1∧k∉kvs.map (·.1):=by simpa using h
  rw[aS (λe=>h'.1 e.symm)];exact ih h'.2
theorem uH{zs:ZN}{k:Int}{q:List Str}(T:TW.Tree1 (nds zs))(h:TW.PathTo (nds zs) k q)(hk:k≠0):∃z∈zs,z.2.num=k∧∃q',q=q'++[z.2.nm]∧TW.PathTo (nds zs) z.2.par q':=by
 cases h with
 |top=>exact absurd rfl hk
 |@node n q' hm hq' =>
  obtain⟨z,hz,rfl⟩:=mem_map.mp hm;exact⟨z,hz,rfl,q',rfl,hq'⟩
def da(P:Program)(w:World)(K:PySem.W.Frag)(mg:Str→Option Value)(base:Heap)(k:Nat)(x:Str)(ps:List Str)(sp:Sp):Prop:=∃f fd,FnOk P w K mg base (CX1 P w) k f fd ps sp∧mg x=some (.ref f)∧keepIn K (.ref f)=true∧bY K fd ps []
structure Tre(H:Hp)(t:Addr)(zs:ZN):Prop where
 tup:H t=some (.tup (aq zs))
 nod:At H zs
 tr:TW.Tree1 (nds zs)
 len:zs.length≤30
theorem Tre.same{H H':Hp}{t:Addr}{zs:ZN}(h:Tre H t zs)(s:ak H H'):Tre H' t zs:=⟨s _ _ h.tup,h.nod.same s,h.tr,h.len⟩
theorem qP{ns:List Nd}(T:TW.Tree1 ns){f:Int}{dn:List Int}{fd:List Nd}(wk:TW.Walk ns f dn fd []):(fd.map (·.num)).Nodup:=by
 have h:=ci T;have:(fd.map (·.num)).Perm ((ns.filter (TW.di dn)).map (·.num)):=wk.perm.map _;exact this.nodup_iff.mpr (h.sublist (filter_sublist.map _))
def sC(ns:List Nd)(k:Int):Nat:=open Classical in if h:∃p,TW.PathTo ns k p then (Classical.choose h).length else 0
theorem pI{ns:List Nd}(T:TW.Tree1 ns){k:Int}{p:List Str}(h:TW.PathTo ns k p):sC ns k=p.length:=by
 unfold sC;have hx:∃p,TW.PathTo ns k p:=⟨p,h⟩;rw[dif_pos hx];rw[(Classical.choose_spec hx).uniq T h]
abbrev mZ(x:Str)(mg:Str→Option Value)(base:Heap)(C:Addr):Prop:=PyProof.Rows.OwnCls x C bmV "ValueError.__new__" mg base
theorem uI(o:Option Int):(!decide (stV o=V.non))=o.isSome:=by cases o<;>simp[stV]
theorem aO(zs:ZN):zs.map (λz=>V.ref z.1)=aq zs:=by simp[aq]
def zj:TW.Wd→Str
 |.known=>"Known"
 |.noNode=>"NoNode"
 |.notFile=>"NotFile"
 |.notFolder=>"NotFolder"
 |.inside=>"Inside"
 |.taken=>"Taken"
abbrev uJ(mg:Str→Option Value)(base:Heap)(cls:TW.Wd→Addr):Prop:=∀w,mZ (zj w) mg base (cls w)
structure Outs(H:Hp)(t:List Nd)(d:TW.Deed Str)(cls:TW.Wd→Addr)(Q:VK)(E:XK):Prop where
 ok:∀us t' H',ak H H'→H' t'=some (.tup (aq us))→At H' us→TW.Told t d (.inr (nds us))→Q (.ref t') H'
 no:∀w H',ak H H'→TW.Told t d (.inl w)→E (.ref (cls w)) none H'
theorem na{K:PySem.W.Frag}{H:Hp}{l:Addr}{zs:ZN}{Q:VK}(hl:SqL K H l (aq zs)∨SqT K H l (aq zs))(hA:At H zs)(hn:((nds zs).map (·.num)).Nodup)(h64:zs.length<64)(q:∀us t' H',ak H H'→H' t'=some (.tup (aq us))→At H' us→us.Perm zs→TW.cN (nds us)→Q (.ref t') H'):
  ∃l',∃ts:List iu,[V.ref l]=[V.ref l']∧(SqL K H l' ((ts.map (·.1)).map V.ref)∨SqT K H l' ((ts.map (·.1)).map V.ref))∧(∀z∈ts,H z.1=some (.tup (.int z.2.1::z.2.2)))∧(ts.map (·.2.1)).Nodup∧ts.length<64 ∧
   ∀ts':List iu,ts'.Perm ts→ts'.Pairwise (λa b=>a.2.1<b.2.1)→∀p,H p=none→∃p' ys,[V.ref p]=[V.ref p']∧((SqL K (upd H p (.lst ((ts'.map (·.1)).map V.ref))) p' ys∧∀l,upd H p (.lst ((ts'.map (·.1)).map V.ref)) l=none→Q (.ref l) (upd (upd H p (.lst ((ts'.map (·.1)).map V.ref))) l (.tup ys))) ∨
    (SqT K (upd H p (.lst ((ts'.map (·.1)).map V.ref))) p' ys∧Q (.ref p') (upd H p (.lst ((ts'.map (·.1)).map V.ref))))):=by
 have hnum:(zs.map tp).map (·.2.1)=(nds zs).map (·.num):=by
  unfold nds;simp only[map_map];rfl
 refine⟨l,zs.map tp,rfl,by rw[pG];exact hl,λz hz=>?_,by rw[hnum];exact hn,by rw[length_map];exact h64,λts pm up p hp=>?_⟩
 ·obtain⟨y,hy,rfl⟩:=mem_map.mp hz;exact hA y hy
 ·obtain⟨pm2,eb⟩:=back pm;have er:(ts.map (·.1)).map V.ref=aq (ts.map un):=by rw[←pG,eb]
  rw[er];refine⟨p,_,rfl,.inl ⟨SqL.of ac,λl hl=>?_⟩⟩;refine q (ts.map un) l _ ((af hp).trans (af hl)) ac ?_ pm2 ?_
  ·intro z hz;exact((af hp).trans (af hl)) _ _ (hA z (pm2.mem_iff.mp hz))
  ·unfold nds TW.cN;rw[pairwise_map];have up2:((ts.map un).map tp).Pairwise (λa b=>a.2.1<b.2.1):=by rw[eb];exact up
   rw[pairwise_map]at up2;exact up2
def bJ:TW.Deed Str→List V
 |.make n p nm st=>[.str "make",.int n,.int p,.str nm,stV st]
 |.write n st=>[.str "write",.int n,.int st]
 |.move n p nm=>[.str "move",.int n,.int p,.str nm]
 |.drop n=>[.str "drop",.int n]
theorem aH{zs:ZN}{z:Addr×Nd}(h:z∈zs):z.2∈nds zs:=mem_map.mpr ⟨z,h,rfl⟩
theorem cj{zs:ZN}{n:Nd}(h:n∈nds zs):∃z∈zs,z.2=n:=mem_map.mp h
theorem eT{zs:ZN}{k:Int}(h:¬∃z∈zs,z.2.num=k):¬TW.bu (nds zs) k:=λ⟨m,hm,e⟩=>by
 obtain⟨z,hz,rfl⟩:=cj hm;exact h ⟨z,hz,e⟩
theorem nc{zs:ZN}{k:Int}{z:Addr×Nd}(hz:z∈zs)(e:z.2.num=k):TW.bu (nds zs) k:=⟨z.2,aH hz,e⟩
def top(i:Nat):Stmt:=PySem.Challenge.pw_treewatch_k33_whole_rounds.main.body.getD i (.Pass ⟨0,0,0,0⟩)
abbrev jb:Stmt:=top 14
abbrev pJ:Stmt:=top 15
abbrev kZ:Stmt:=top 16
abbrev sD:Stmt:=top 17
abbrev sE:Stmt:=top 18
abbrev wP:Stmt:=top 19
abbrev wQ:Stmt:=top 20
abbrev sF:Stmt:=top 21
abbrev wR:Stmt:=top 22
abbrev wS:Stmt:=top 23
abbrev wT:Stmt:=top 24
abbrev wU:Stmt:=top 25
abbrev wV:Stmt:=top 27
abbrev pK:Stmt:=top 28
abbrev sG:Stmt:=top 29
abbrev om:Stmt:=top 30
abbrev sI:Stmt:=top 31
abbrev pL:Stmt:=top 32
abbrev sJ:Stmt:=top 33
abbrev wW:Stmt:=top 34
abbrev dm:Stmt:=top 36
abbrev ck:Stmt:=top 37
abbrev eM:Stmt:=top 38
abbrev fX:Stmt:=top 39
abbrev dN:Stmt:=top 40
abbrev hU:Stmt:=top 41
abbrev eN:Stmt:=top 42
abbrev eO:Stmt:=top 43
abbrev gM:Stmt:=top 44
abbrev fY:Stmt:=top 45
abbrev sK:Stmt:=top 47
abbrev sL:Stmt:=top 48
abbrev cO:Stmt:=top 49
structure Txt(mg:Str→Option Value):Prop where
 isin:mg "isinstance"=none
 dict:mg "dict"=none
 len:mg "len"=none
 tuple:mg "tuple"=none
 list:mg "list"=none
 range:mg "range"=none
 sorted:mg "sorted"=none
 reversed:mg "reversed"=none
 ValueError:mg "ValueError"=none
 str:mg "str"=none
 set:mg "set"=none
 max:mg "max"=none
 min:mg "min"=none
 sum:mg "sum"=none
 zip:mg "zip"=none
 enumerate:mg "enumerate"=none
 all:mg "all"=none
 int:mg "int"=none
 bool:mg "bool"=none
 top:∃t,mg "TOP"=some (.int 0 t)
 letters:∃t,mg "LETTERS"=some (.str "abcdefghijklmnopqrstuvwxyz" t)
 longest:∃t,mg "LONGEST_NAME"=some (.int 5 t)
 greatest:∃t,mg "GREATEST_STAMP"=some (.int 999 t)
section
variable{P:Program}{w:World}{K:PySem.W.Frag}{mg:Str→Option Value}{base:Heap}
def ng:Sp:=λvs H Q _=>∃t f zs,vs=[.ref t,.int f]∧H t=some (.tup (aq zs))∧At H zs∧zs.length≤100∧∀fd dn l H',TW.Walk (nds zs) f dn fd []→H' l=some (.lst (cZ fd))→ak H H'→Q (.ref l) H'
theorem jc:FnScope ["nodes","folder","members","node","found","pending","here"] ["nodes","folder"] (ai wQ):=fsc
theorem wX{f:Addr}{fd:FuncData}(F:Fun K "numbers_inside" "numbers_inside" wQ f fd)(T:Txt mg):FnOk P w K mg base CX0 1 f fd ["nodes","folder"] ng:=by
 refine F.ok jc (λvs H Q E h=>?_) (λcdv A outer s H vs Q E hr h=>?_)
 ·obtain⟨t,f,zs,rfl,_⟩:=h;rfl
 ·obtain⟨t,f,zs,rfl,ht,hA,hl,k⟩:=h;refine⟨_,ag (au (i:=2) jc.nd rfl (Or.inl rfl) lN)
   (ag (cD PassesOwn.never rfl (cq (pv 0)) (aF (i:=3) jc.nd rfl (Or.inl rfl)) (aj (bi (eA plainAttrs_list PySem.F.slot_list_append PySem.F.type_list_append bg
     (eA PySem.F.plainAttrs_dict PySem.F.slot_dict_setdefault PySem.F.type_dict_setdefault jv (pv 2) (aa (ar ap (pv 3) ah (λ_ _=>rfl)) (aa (cg ae) ae))) (aa (pv 3) ae)))))
   (ag (au (i:=4) jc.nd rfl (Or.inl rfl) (cg ae))
   (ag (au (i:=5) jc.nd rfl (Or.inl rfl) (cg (aa (pv 1) ae)))
   (ag (dZ PassesOwn.never (re (pv 5) (λ_=>rfl))
    (ag (au (i:=6) jc.nd rfl (Or.inl rfl) (rs (pv 2) (wm plainAttrs_list slot_list_pop type_list_pop wn (pv 5)) (cg ae) ⟨rfl,rfl,rfl,rfl⟩))
    (aj (cD PassesOwn.never rfl (cI (pv 6)) (aF (i:=3) jc.nd rfl (Or.inl rfl))
     (ag (bi (eA plainAttrs_list PySem.F.slot_list_append PySem.F.type_list_append bg (pv 4) (aa (ar ap (pv 3) ah (λ_ _=>rfl)) ae)))
     (aj (bj (aw iE (ar ap (pv 3) ah (λ_ _=>rfl)) cp (aC _)) (aj (bi (eA plainAttrs_list PySem.F.slot_list_append PySem.F.type_list_append bg (pv 5) (aa (ar ap (pv 3) ah (λ_ _=>rfl)) ae)))) aJ)))))))
   (aj (av (pv 4))))))),?_⟩
  refine λd hd=>?_;have z100:∀{n:Nat},n≤100→n<sizeLine:=λh=>ax (by omega);refine⟨_,rfl,t,rfl,⟨_,SqT.of (aW hd ht)⟩,gn (xs:=aq zs) (λi σ H'=>∃L kvs on,σ=[some (.ref t),some (.int f),some (.ref d),on,none,none,none]∧Mem H H' d L kvs (zs.take i) [])
   ⟨_,_,_,rfl,Mem.start hd⟩ (λi σ H' _ h=>?_) (λi x σ H' hx h=>?_) (λσ H' h=>?_)⟩
  ·obtain⟨_,_,_,_,m⟩:=h;exact SqT.of (m.same _ _ ht)
  ·obtain⟨L,kvs,on,rfl,m⟩:=h;obtain⟨z,gz,rfl⟩:=br hx;have mz:=mem_of_getElem? gz;have ez:zs.take (i+1)=zs.take i++[z]:=by rw[take_succ,gz];rfl
   have hkl:kvs.length≤100:=by have:=m.len;rw[length_take]at this;omega
   refine⟨_,rfl,.inr (.inr (.inl ⟨rfl,.inl ⟨_,m.dict⟩⟩)),_,rfl,z.1,_,_,_,rfl,rfl,SqT.of (m.same _ _ (hA z mz)),at1 z.2,zero_le _,λq hq=>?_⟩;have m':=m.grow (af (o:=.lst []) hq);refine⟨d,kvs,.inl z.2.par,.ref q,rfl,rfl,m'.dict,z100 hkl,λv hv=>?_,λhn=>?_⟩
   ·rw[m.val]at hv
    by_cases h:z.2.par∈([]:List Int)∨ins (zs.take i) z.2.par=[]
    ·rw[if_pos h]at hv;cases hv
    ·rw[if_neg h]at hv;cases hv;have h2:ins (zs.take i) z.2.par≠[]:=λz=>h (.inr z);have a:=(m'.at' z.2.par (by simp) h2).1;refine⟨.inl ⟨rfl,_,SqL.of a⟩,_,rfl,_,_,_,rfl,rfl,a,?_,?_⟩
     ·refine z100 ?_;rw[aE];exact le_trans (Sublist.length_le (Sublist.trans filter_sublist (take_sublist _ _))) hl
     ·refine⟨L,kvs,_,rfl,?_⟩;rw[ez];exact m'.hit h2
   ·rw[m.val]at hn
    by_cases h:z.2.par∈([]:List Int)∨ins (zs.take i) z.2.par=[]
    ·have h2:ins (zs.take i) z.2.par=[]:=h.resolve_left (by simp);have hqd:q≠d:=λe=>by rw[e,m.dict]at hq;cases hq
     have a:upd (upd H' q (.lst [])) d (.dK (ce kvs (Sum.inl z.2.par:Key) (.ref q))) q=some (.lst []):=by rw[al hqd];exact ac
     refine⟨.inl ⟨rfl,_,SqL.of a⟩,_,rfl,q,[],_,rfl,rfl,a,z100 (zero_le _),?_⟩;have fr:=m.fresh (z:=z) h2 hq;rw[←ez]at fr;exact⟨_,_,_,rfl,fr⟩
    ·rw[if_neg h]at hn;cases hn
  ·obtain⟨L,kvs,on,rfl,m⟩:=h;rw[aE,take_length]at m;refine⟨zero_le _,λpf hpf=>⟨_,rfl,ao (by simp),λpp hpp=>?_⟩⟩;have m1:=(m.grow (af (o:=.lst []) hpf)).grow (af (o:=.lst [.int f]) hpp);have hpf0:H pf=none:=m.same.free hpf;have hne:pp≠pf:=λe=>by rw[e,ac]at hpp;cases hpp
   have hpp0:H pp=none:=by rw[al hne]at hpp;exact m.same.free hpp
   dsimp only[aY,lD];refine gp (λσ H'=>∃L kvs dn fd pd on oh,σ=[some (.ref t),some (.int f),some (.ref d),on,some (.ref pf),some (.ref pp),oh]∧pd.length≤fd.length+1∧Mem H H' d L kvs zs dn∧TW.Walk (nds zs) f dn fd pd∧H' pf=some (.lst (cZ fd))∧H' pp=some (.lst (pd.map V.int)))
    (λσ H'=>2*(zs.length-jU H' pf)+jU H' pp) ⟨L,kvs,[],[],[f],_,_,rfl,le_refl _,m1,TW.Walk.start _ _,by rw[al (symm hne),ac];rfl,ac⟩ (λσ H' h=>?_) ?_
   ·obtain⟨L,kvs,dn,fd,pd,on,oh,rfl,hpl,m,wk,ef,ep⟩:=h;refine⟨_,rfl,_,.inl ⟨_,SqL.of ep,rfl⟩,?_⟩
    by_cases hpd:pd=[]
    ·subst hpd;exact aD ⟨_,rfl,k fd dn pf H' wk ef m.same⟩
    ·obtain⟨pd',x,rfl⟩:∃pd' x,pd=pd'++[x]:=⟨pd.dropLast,pd.getLast hpd,(List.dropLast_concat_getLast hpd).symm⟩;have et:(!((pd'++[x]).map V.int).isEmpty)=true:=by simp
     rw[if_pos et];have elast:((pd'++[x]).map V.int)[((pd'++[x]).map V.int).length-1]?=some (.int x):=by simp
     have edrop:((pd'++[x]).map V.int).dropLast=pd'.map V.int:=by simp
     refine⟨_,rfl,d,rfl,.inl ⟨_,Rd.of m.dict⟩,_,rfl,.inl ⟨rfl,_,SqL.of ep⟩,pp,_,.int x,rfl,rfl,ep,elast,zero_le _,λq hq=>?_⟩;rw[edrop]at hq⊢;have m2:=(m.other (o:=.lst (pd'.map V.int)) ep hpp0).grow (af (o:=.lst []) hq);have hqp:q≠pp:=λe=>by rw[e,ac]at hq;cases hq
     have hqf:q≠pf:=λe=>by rw[e,al (symm hne),ef]at hq;cases hq
     refine sy m2 ac λhl Hc kvs' hs m3 ehl eh hsub hkeep hnil=>?_;have df:pf≠d:=λe=>by have:=m.dict;rw[←e,ef]at this;cases this
     have dp:pp≠d:=λe=>by have:=m.dict;rw[←e,ep]at this;cases this
     have ef3:Hc pf=some (.lst (cZ fd)):=by rw[hkeep pf df,al (symm hqf),al (symm hne)];exact ef
     have ep3:Hc pp=some (.lst (pd'.map V.int)):=by rw[hkeep pp dp,al (symm hqp),ac]
     have hlf:hl≠pf:=by
      by_cases h:hs=[]
      ·rw[hnil h];exact hqf
      ·exact pF ef3 ehl h
     have hlp:hl≠pp:=by
      by_cases h:hs=[]
      ·rw[hnil h];exact hqp
      ·exact pF ep3 ehl h
     have wk':=wk.turn;rw[←eh]at wk';have hlen:=wk'.len;rw[length_append,aR,aR]at hlen;rw[length_append,length_singleton]at hpl;refine⟨_,rfl,hl,rfl,⟨_,SqL.of ehl⟩,du (xs:=aq hs) (λj σ H'=>∃on,σ=[some (.ref t),some (.int f),some (.ref d),on,some (.ref pf),some (.ref pp),some (.ref hl)]∧Mem H H' d L kvs' zs (x::dn)∧H' hl=some (.lst (aq hs)) ∧
      H' pf=some (.lst (cZ (fd++nds (hs.take j))))∧H' pp=some (.lst ((pd'++TW.bo (nds (hs.take j))).map V.int))) ⟨_,rfl,m3,ehl,by rw[ef3];simp[nds],by rw[ep3];simp[nds,TW.bo]⟩
      (λj σ H' _ h=>?_) (λj y σ H' hy h=>?_) (λσ H' h=>?_)⟩
     ·obtain⟨_,_,_,e,_⟩:=h;exact SqL.of e
     ·obtain⟨on,rfl,m4,e1,e2,e3⟩:=h;obtain⟨z,gz,rfl⟩:=br hy;have mz:=hsub z (mem_of_getElem? gz);have ez:hs.take (j+1)=hs.take j++[z]:=by rw[take_succ,gz];rfl
      have l1:(cZ (fd++nds (hs.take j))).length≤100:=by
       unfold cZ;rw[length_map,length_map,length_append,aR,length_take];omega
      have l2:((pd'++TW.bo (nds (hs.take j))).map V.int).length≤1000:=by
       have:=TW.eI (nds (hs.take j));rw[aR,length_take]at this;rw[length_map,length_append];omega
      have g0:∀{Hx:Hp},ak H Hx→Hx z.1=some (.tup (vals z.2)):=λs=>s _ _ (hA z mz);have e4:cZ (fd++nds (hs.take (j+1)))=cZ (fd++nds (hs.take j))++[.int z.2.num]:=by rw[ez];simp[cZ,nds]
      have m5:Mem H (upd H' pf (.lst (cZ (fd++nds (hs.take j))++[.int z.2.num]))) d L kvs' zs (x::dn):=m4.other e2 hpf0;have e5:(upd H' pf (.lst (cZ (fd++nds (hs.take j))++[.int z.2.num]))) hl=some (.lst (aq hs)):=by rw[al hlf];exact e1
      have e6:(upd H' pf (.lst (cZ (fd++nds (hs.take j))++[.int z.2.num]))) pp=some (.lst ((pd'++TW.bo (nds (hs.take j))).map V.int)):=by rw[al hne];exact e3
      refine⟨_,rfl,.inl ⟨rfl,_,SqL.of e2⟩,_,rfl,z.1,_,_,_,rfl,rfl,SqT.of (g0 m4.same),at0 z.2,pf,_,_,rfl,rfl,e2,z100 l1,?_⟩;refine⟨_,rfl,z.1,_,_,_,rfl,rfl,SqT.of (g0 m5.same),at3 z.2,rfl,_,rfl,?_⟩;cases est:z.2.st with
      |none =>
       have e7:TW.bo (nds (hs.take (j+1)))=TW.bo (nds (hs.take j))++[z.2.num]:=by rw[ez];simp[TW.bo,nds,est]
       refine aA ⟨_,rfl,.inl ⟨rfl,_,SqL.of e6⟩,_,rfl,z.1,_,_,_,rfl,rfl,SqT.of (g0 m5.same),at0 z.2,pp,_,_,rfl,rfl,e6,ax l2,?_⟩;refine⟨_,rfl,m5.other e6 hpp0,by rw[al hlp];exact e5,by rw[al (symm hne),ac,e4],?_⟩;rw[ac,e7];simp
      |some i =>
       have e7:TW.bo (nds (hs.take (j+1)))=TW.bo (nds (hs.take j)):=by rw[ez];simp[TW.bo,nds,est]
       refine aD ⟨_,rfl,m5,e5,by rw[ac,e4],?_⟩;rw[e6,e7]
     ·obtain⟨on,rfl,m4,e1,e2,e3⟩:=h;rw[aE,take_length]at e2 e3;refine⟨⟨L,kvs',x::dn,_,_,on,_,rfl,?_,m4,wk',e2,e3⟩,?_⟩
      ·have:=TW.eI (nds hs);rw[aR]at this;rw[length_append,length_append,aR];omega
      show 2*(zs.length-jU H' pf)+jU H' pp<_;rw[gL e2,gL e3,gL ef,gL ep];have:=TW.eI (nds hs);rw[aR]at this;simp only[cZ,length_map,length_append,aR,length_singleton];omega
   ·rintro σ H Q Q' mo ⟨v,e,k,tv,q⟩;exact⟨v,e,k,tv,mo _ _ q⟩
end
end TK
namespace L2
open PySem PySem.Spec PyProof.Rows
section
variable{X:Cx}
theorem ie(i:Int)(h0:-1≤i)(h1:i≤99):(ofString (toString i)).length≤100:=by
 have key:∀n:Fin 101,(ofString (toString (((n.val:Nat):Int)-1))).length≤100:=by decide +kernel
 have:=key ⟨(i+1).toNat,by omega⟩;have e:(((i+1).toNat:Nat):Int)-1=i:=by omega
 rw[e]at this;exact this
theorem uK{e:Expr}{te:TE}{b:Nat}{p:Pos}{ps:List Expr}{t:TJ}(he:PE X e te)(h:PJ X ps b t):PJ X (.FormattedValue e (-1) none p::ps) (100+b) (λσ H k=>te σ H λv H1=>∃i:Int,v=.int i∧-1≤i∧i≤99∧t σ H1 k):=by
 intro out pins s σ H Q I hb hq;refine joinParts_cons (FormattedValue_plain (thn (he pins _ σ H _ I hq) λv s1 hpt=>?_));obtain⟨y,H1,I1,r1,q1⟩:=hpt;obtain⟨i,rfl,h0,h1,q⟩:=q1;obtain⟨tk,rfl⟩:=r1;have h2:=ie i h0 h1;have hl:(out++ofString (toString i)).length=out.length+(ofString (toString i)).length:=strLen_append ..;refine formatField_int_small (lt_of_le_of_lt (Nat.log2_le_self _) (by omega)) ⟨le_of_lt (ax (by omega)),?_⟩;exact h _ pins _ σ H1 Q (I1.tok _) (by omega) q
theorem dO{e:Expr}{te:TE}{b:Nat}{p:Pos}{ps:List Expr}{t:TJ}(he:PE X e te)(h:PJ X ps b t):PJ X (.FormattedValue e (-1) none p::ps) (100+b) (λσ H k=>te σ H λv H1=>∃i:Int,v=.int i∧0≤i∧i≤99∧t σ H1 k):=by
 intro out pins s σ H Q I hb hq;refine joinParts_cons (FormattedValue_plain (thn (he pins _ σ H _ I hq) λv s1 hpt=>?_));obtain⟨y,H1,I1,r1,q1⟩:=hpt;obtain⟨i,rfl,h0,h1,q⟩:=q1;obtain⟨tk,rfl⟩:=r1;have h2:=ie i (by omega) h1;have hl:(out++ofString (toString i)).length=out.length+(ofString (toString i)).length:=strLen_append ..;refine formatField_int_small (lt_of_le_of_lt (Nat.log2_le_self _) (by omega)) ⟨le_of_lt (ax (by omega)),?_⟩;exact h _ pins _ σ H1 Q (I1.tok _) (by omega) q
end
end L2
namespace TK
open PySem L2
def bX:TW.Deed Str→Prop
 |.make n p nm _=>1≤n∧n≤99∧0≤p∧p≤99∧nm.length≤100
 |.write n _=>1≤n∧n≤99
 |.move n p nm=>1≤n∧n≤99∧0≤p∧p≤99∧nm.length≤100
 |.drop n=>1≤n∧n≤99
theorem bX.pos{d:TW.Deed Str}(h:bX d):d.pos:=by
 cases d<;>first|exact h.1|trivial
section
variable{P:Program}{w:World}{K:PySem.W.Frag}{mg:Str→Option Value}{base:Heap}
def dU:Sp:=λvs H Q _=>∃t zs,vs=[.ref t]∧H t=some (.tup (aq zs))∧At H zs∧zs.length≤100∧((nds zs).map (·.num)).Nodup∧∀d H',ak H H'→fU H' d zs→Q (.ref d) H'
theorem yo:FnScope ["tree"] ["tree"] (ai wR):=fsc
theorem wY{f:Addr}{fd:FuncData}(F:Fun K "by_number" "by_number" wR f fd)(T:Txt mg):FnOk P w K mg base CX0 1 f fd ["tree"] dU:=by
 refine F.ok yo (λvs H Q E h=>?_) (λcdv A outer s H vs Q E hr h=>?_)
 ·obtain⟨t,zs,rfl,_⟩:=h;rfl
 ·obtain⟨t,zs,rfl,ht,hA,hl,hnd,k⟩:=h;refine⟨_,aj (av (bf (oa rfl) rfl T.dict boot_dict (aa (eD (N:=["node"]) (k:=1) (js:=[]) (g:=aY 0) rfl (cW rfl (by decide +kernel) (by decide +kernel) (by decide +kernel)) rfl (λi j x h=>by simp at h)
   (cq (pv 0)) (λs H fp=>aF (i:=0) (show(["node"]:List Str).Nodup by decide +kernel) rfl (Or.inl rfl) (Or.inr rfl))
   (λs H fp=>aN (aa (ar (r:=dc K) ap (pv 0) ah (λ_ _=>rfl)) (aa (pv 0) ae)))) ae))),?_⟩
  refine⟨_,rfl,t,rfl,⟨_,SqT.of ht⟩,λp hp=>?_⟩;refine wJ (fr:=[]) zs.length (by omega) hp rfl (λi y H'=>∃q z,zs[i]?=some z∧y=.ref q∧q≠p∧H' q=some (.tup [.int z.2.num,.ref z.1])) (λi y H1 H2 h ex=>?_) (λi H' hi s1=>?_) (λH' s1=>?_) ?_ (λi H' x H2 hi s1 hpl hy=>?_) (λys H' s1 hp' hlen hys=>?_)
  ·obtain⟨q,z,e1,e2,e3,e4⟩:=h;exact⟨q,z,e1,e2,e3,ex q _ e3 e4⟩
  ·exact⟨_,_,SqT.of (s1 _ _ ht),gK (getElem?_eq_getElem hi)⟩
  ·exact⟨_,SqT.of (s1 _ _ ht),by rw[aE];exact le_refl _⟩
  ·rintro _ _ _ _ m ⟨v1,b1,p1,xs,i1,v2,c1,c2,c3,c4,v3,b3,hz,q⟩;exact⟨v1,b1,p1,xs,i1,v2,c1,c2,c3,c4,v3,b3,hz,λl hl=>m _ _ (q l hl)⟩
  ·obtain⟨rfl,hx⟩:=hy;obtain⟨z,gz,rfl⟩:=br (hx _ (SqT.of (s1 _ _ ht)));have mz:=mem_of_getElem? gz;refine⟨rfl,_,rfl,z.1,_,_,_,rfl,rfl,SqT.of (s1 _ _ (hA z mz)),at0 z.2,_,rfl,le2,λq hq=>⟨af hq,q,z,gz,rfl,fJ hpl hq,ac⟩⟩
  ·obtain⟨as,e1,e2,e3⟩:=uG (g:=λz=>[.int z.2.num,.ref z.1]) hlen hys;have e4:as.length=zs.length:=by rw[←e1,length_map]
   have e5:(as.map λa=>((Sum.inl a.2.2.num:Key),V.ref a.2.1))=cE zs:=by rw[←e1];unfold cE;rw[map_map];rfl
   refine⟨p,as.map λa=>(a.1,(Sum.inl a.2.2.num:Key),V.ref a.2.1),rfl,?_,?_,?_,?_,λd o hd=>?_⟩
   ·rw[hp',e2,map_map,map_map,map_map];rfl
   ·intro z hz;obtain⟨a,ha,rfl⟩:=mem_map.mp hz;exact(e3 a ha).2
   ·rw[length_map];omega
   ·rw[map_map];have:(as.map ((λx:Addr×Key×V=>x.2.1)∘λa=>(a.1,(Sum.inl a.2.2.num:Key),V.ref a.2.1)))=((nds zs).map (·.num)).map (Sum.inl:Int→Key):=by
     rw[←e1];unfold nds;simp only[map_map];rfl
    rw[this];unfold Nodup at hnd⊢;rw[pairwise_map];exact hnd.imp λh e=>h (by injection e)
   ·refine k d _ (s1.trans (af hd)) ⟨o,?_⟩;rw[ac,map_map];exact congrArg (λx=>some (HO.frz o (.dK x))) e5
abbrev sM(mg:Str→Option Value)(base:Heap)(C:Addr):Prop:=PyProof.Rows.OwnCls "NoNode" C bmV "ValueError.__new__" mg base
def jd(C:Addr):Sp:=λvs H Q E=>∃d k zs,vs=[.ref d,.int k]∧fU H d zs∧((nds zs).map (·.num)).Nodup∧0≤k∧k≤99∧(∀z∈zs,z.2.num=k→Q (.ref z.1) H)∧((∀z∈zs,z.2.num≠k)→E (.ref C) none H)
theorem yp:FnScope ["nodes","number"] ["nodes","number"] (ai wS):=fsc
theorem wZ{f C:Addr}{fd:FuncData}(F:Fun K "node_of" "node_of" wS f fd)(O:sM mg base C):FnOk P w K mg base (CX1 P w) 1 f fd ["nodes","number"] (jd C):=by
 refine F.okX yp (λvs H Q E h=>?_) (λcdv A outer s H vs Q E hr h=>?_)
 ·obtain⟨d,k,zs,rfl,_⟩:=h;rfl
 ·obtain⟨d,k,zs,rfl,hd,hnd,h0,h1,q1,q2⟩:=h;refine⟨_,ag (bj (cU (cQ (cc hr) (pv 1) (pv 0))) (aj (cX bp O hr.hd rfl (dJ (cr (c:=100) (by decide +kernel) (dO (pv 1) fQ)) (by decide)))) aJ) (aj (av (eR (cc hr) (pv 0) (pv 1) (λ_ _=>rfl)))),?_⟩
  by_cases hk:∀z∈zs,z.2.num≠k
  ·refine⟨_,rfl,_,rfl,d,_,rfl,hd.not hk,_,rfl,?_⟩;exact aA ⟨_,rfl,k,rfl,h0,h1,λy=>⟨ao (show 1≤1000 by decide),q2 hk⟩⟩
  ·obtain⟨z,hz,e⟩:∃z∈zs,z.2.num=k:=by
    by_cases h:∃z∈zs,z.2.num=k
    ·exact h
    ·exact absurd (λz hz e=>h ⟨z,hz,e⟩) hk
   subst e;refine⟨_,rfl,_,rfl,d,_,rfl,hd.get hnd hz,_,rfl,?_⟩;exact aD ⟨_,rfl,_,rfl,d,_,rfl,hd.get hnd hz,q1 z hz rfl⟩
def pM(C:Addr):Sp:=λvs H Q E=>∃t k zs,vs=[.ref t,.int k]∧Tre H t zs∧0≤k∧k≤99 ∧
 ((k=0∨∃z∈zs,z.2.num=k)→∀(ms:List Int)(l:Addr)(H':Hp),ak H H'→ms.Pairwise (λa b:Int=>a<b)→ms.length≤zs.length→(∀x,x∈ms↔∃n∈nds zs,n.num=x∧TW.Reach (nds zs) k n)→H' l=some (.lst (ms.map V.int))→Q (.ref l) H') ∧
 (k≠0→(∀z∈zs,z.2.num≠k)→∀H',ak H H'→E (.ref C) none H')
theorem yq:FnScope ["tree","number"] ["tree","number"] (ai wU):=fsc
theorem xa{f C:Addr}{fd:FuncData}(F:Fun K "below" "below" wU f fd)(T:Txt mg)(CB:Has P w K mg base 1 "by_number" ["tree"] dU)(CN:da P w K mg base 1 "node_of" ["nodes","number"] (jd C))(CI:Has P w K mg base 1 "numbers_inside" ["nodes","folder"] ng):
  FnOk P w K mg base (CX1 P w) 2 f fd ["tree","number"] (pM C):=by
 obtain⟨fB,fdB,GB,mB,kB,bB⟩:=CB;obtain⟨fN,fdN,GN,mN,kN,bN⟩:=CN;obtain⟨fI,fdI,GI,mI,kI,bI⟩:=CI;obtain⟨tt,hT⟩:=T.top;refine F.okX yq (λvs H Q E h=>?_) (λcdv A outer s H vs Q E hr h=>?_)
 ·obtain⟨t,k,zs,rfl,_⟩:=h;rfl
 ·obtain⟨t,k,zs,rfl,tr,h0,h1,q1,q2⟩:=h;have hnd:=ci tr.tr;have hl:=tr.len;refine⟨_,ag (bj (aw ib (pv 1) (bQ (v:=.int 0) rfl hT ⟨_,rfl⟩) (aC _))
    (aj (bi (am (E:=E) GN hr rfl mN kN bN .nil (cB bp) (aa (am GB hr rfl mB kB bB .nil aP (aa (pv 0) ae)) (aa (pv 1) ae))))) aJ)
   (aj (av (aL gZ rfl T.sorted boot_sorted (aa (am GI hr rfl mI kI bI .nil aP (aa (pv 0) (aa (pv 1) ae))) ae)))),?_⟩
  have main:∀H1,ak H H1→(k=0∨∃z∈zs,z.2.num=k)→vQ (tCB (λxs H Q=>∃l,∃ns:List Int,xs=[.ref l]∧H l=some (.lst (ns.map V.int))∧ns.Nodup∧ns.length<64∧∀ms:List Int,ms.Perm ns→ms.Pairwise (λa b=>a<b)→∀p,H p=none→Q (.ref p) (upd H p (.lst (ms.map V.int))))
    (bv (lH ng [] E0 (bv (eX 0) (bv (eX 1) im))) im)) {nx:=λ_ H'=>Q .non H',rt:=Q} [some (.ref t),some (.int k)] H1:=by
   intro H1 s1 hk;refine⟨_,rfl,_,rfl,t,k,zs,rfl,s1 _ _ tr.tup,tr.nod.same s1,by omega,λfd dn l H2 wk el s2=>?_⟩;have hfl:=wk.len;rw[aR]at hfl;refine⟨l,fd.map (λn:Nd=>n.num),rfl,(show H2 l=some (.lst ((fd.map λn:Nd=>n.num).map V.int))from el),qP tr.tr wk,by rw[length_map];omega,λms hp hs p hpn=>?_⟩;refine q1 hk ms p _ ((s1.trans s2).trans (af hpn)) hs (by rw[hp.length_eq,length_map];exact hfl) (λx=>?_) ac;rw[hp.mem_iff,mem_map];constructor
   ·rintro⟨n,hn,e⟩;have:=(wk.mem n).mp hn;exact⟨n,this.mem,e,this⟩
   ·rintro⟨n,_,e,hr⟩;exact⟨n,(wk.mem n).mpr hr,e⟩
  refine⟨_,rfl,rfl,_,rfl,?_⟩
  by_cases hk0:k=0
  ·have:decide (V.int k=V.int 0)=true:=by simp[hk0]
   rw[this];exact aD (main H (ak.refl _) (.inl hk0))
  ·have:decide (V.int k=V.int 0)=false:=by simp[hk0]
   rw[this];refine aA ?_;refine⟨_,rfl,t,zs,rfl,tr.tup,tr.nod,by omega,hnd,λd H1 s1 nd1=>?_⟩;refine⟨_,rfl,d,k,zs,rfl,nd1,hnd,h0,h1,λz hz e=>main H1 s1 (.inr ⟨z,hz,e⟩),λhk=>q2 hk0 hk H1 s1⟩
def pN(CN CF:Addr):Sp:=λvs H Q E=>∃d p zs,vs=[.ref d,.int p]∧fU H d zs∧At H zs∧((nds zs).map (·.num)).Nodup∧0≤p∧p≤99 ∧
 (TW.jx (nds zs) p→Q .non H)∧(p≠0→(∀z∈zs,z.2.num≠p)→E (.ref CN) none H)∧(∀z∈zs,z.2.num=p→p≠0→z.2.st≠none→E (.ref CF) none H)
theorem yr:FnScope ["nodes","number"] ["nodes","number"] (ai wT):=fsc
theorem xb{f CN CF:Addr}{fd:FuncData}(F:Fun K "check_folder" "check_folder" wT f fd)(T:Txt mg)(O:mZ "NotFolder" mg base CF)(CNo:da P w K mg base 1 "node_of" ["nodes","number"] (jd CN)):
  FnOk P w K mg base (CX1 P w) 2 f fd ["nodes","number"] (pN CN CF):=by
 obtain⟨fN,fdN,GN,mN,kN,bN⟩:=CNo;obtain⟨tt,hT⟩:=T.top;refine F.okX yr (λvs H Q E h=>?_) (λcdv A outer s H vs Q E hr h=>?_)
 ·obtain⟨d,p,zs,rfl,_⟩:=h;rfl
 ·obtain⟨d,p,zs,rfl,hd,hA,hnd,h0,h1,q1,q2,q3⟩:=h;refine⟨_,aj (bj (PW.pt (pw_and (aw ib (pv 1) (bQ (v:=.int 0) rfl hT ⟨_,rfl⟩) (aC _)) (pw_and1 (aw kn (ar ap (am (E:=E) GN hr rfl mN kN bN .nil (cB bp) (aa (pv 0) (aa (pv 1) ae))) ah (λ_ _=>rfl)) cp (aC _)))))
   (aj (cX bp O hr.hd rfl (dJ (cr (c:=100) (by decide +kernel) (dO (pv 1) (cr (c:=100) (by decide +kernel) fQ))) (by decide)))) aJ),?_⟩
  refine⟨_,rfl,rfl,_,rfl,?_⟩
  by_cases hp0:p=0
  ·have:decide (V.int p=V.int 0)=true:=by simp[hp0]
   rw[this];exact aD (aD (q1 (.inl hp0)))
  ·have:decide (V.int p=V.int 0)=false:=by simp[hp0]
   rw[this];refine aA ⟨_,rfl,_,rfl,d,p,zs,rfl,hd,hnd,h0,h1,λz hz e=>?_,λhk=>q2 hp0 hk⟩;refine⟨z.1,_,_,_,rfl,rfl,SqT.of (hA z hz),at3 z.2,rfl,_,rfl,?_⟩;rw[uI];cases hs:z.2.st with
   |none=>exact aD (q1 (.inr ⟨z.2,aH hz,hs,e⟩))
   |some i=>exact aA ⟨_,rfl,p,rfl,h0,h1,λy=>⟨ao (show 1≤1000 by decide),q3 z hz e hp0 (by rw[hs];simp)⟩⟩
def nh(CT:Addr):Sp:=λvs H Q E=>∃t k p nm zs,vs=[.ref t,.int k,.int p,.str nm]∧H t=some (.tup (aq zs))∧At H zs∧0≤p∧p≤99∧nm.length≤100 ∧
 ((∀z∈zs,z.2.num≠k→¬(z.2.par=p∧z.2.nm=nm))→Q .non H)∧(∀z∈zs,z.2.num≠k→z.2.par=p→z.2.nm=nm→E (.ref CT) none H)
theorem vC:FnScope ["tree","number","parent","name","node"] ["tree","number","parent","name"] (ai wV):=fsc
theorem xc{f CT:Addr}{fd:FuncData}(F:Fun K "check_place" "check_place" wV f fd)(O:mZ "Taken" mg base CT):FnOk P w K mg base (CX1 P w) 1 f fd ["tree","number","parent","name"] (nh CT):=by
 refine F.okX vC (λvs H Q E h=>?_) (λcdv A outer s H vs Q E hr h=>?_)
 ·obtain⟨t,k,p,nm,zs,rfl,_⟩:=h;rfl
 ·obtain⟨t,k,p,nm,zs,rfl,ht,hA,h0,h1,hn,q1,q2⟩:=h;refine⟨_,aj (cD (wL bp) rfl (cq (pv 0)) (aF (i:=4) vC.nd rfl (Or.inl rfl))
   (aj (bj (PW.pt (pw_and (aw ib (ar ap (pv 4) ah (λ_ _=>rfl)) (pv 1) (aC _)) (pw_and (aw cG (ar ap (pv 4) ah (λ_ _=>rfl)) (pv 2) (aC _)) (pw_and1 (aw cG (ar ap (pv 4) ah (λ_ _=>rfl)) (pv 3) (aC _))))))
    (aj (cX bp O hr.hd rfl (dJ (cr (c:=100) (by decide +kernel) (dO (pv 2) (cr (c:=100) (by decide +kernel) (wK (pv 3) fQ)))) (by decide)))) aJ))),?_⟩
  refine⟨_,rfl,t,rfl,⟨_,SqT.of ht⟩,gn (xs:=aq zs) (λi σ H'=>(∃on,σ=[some (.ref t),some (.int k),some (.int p),some (.str nm),on])∧H'=H∧∀z∈zs.take i,z.2.num≠k→¬(z.2.par=p∧z.2.nm=nm)) ⟨⟨none,rfl⟩,rfl,by simp⟩ (λi σ H' _ h=>by rw[h.2.1];exact SqT.of ht) (λi x σ H' hx h=>?_) (λσ H' h=>?_)⟩
  ·obtain⟨⟨on,rfl⟩,rfl,hi⟩:=h;obtain⟨z,gz,rfl⟩:=br hx;have mz:=mem_of_getElem? gz;have az:SqT K H' z.1 (vals z.2):=SqT.of (hA z mz);have et:zs.take (i+1)=zs.take i++[z]:=bh gz;have nxt:(z.2.num≠k→¬(z.2.par=p∧z.2.nm=nm))→∀y∈zs.take (i+1),y.2.num≠k→¬(y.2.par=p∧y.2.nm=nm):=λhz y hy=>by
    rw[et]at hy;rcases mem_append.mp hy with hy|hy
    ·exact hi y hy
    ·have e:y=z:=by simpa using hy
     subst e;exact hz
   refine⟨_,rfl,z.1,_,_,_,rfl,rfl,az,at0 z.2,_,rfl,rfl,_,rfl,?_⟩
   by_cases hk:z.2.num=k
   ·have e1:(!decide (V.int z.2.num=V.int k))=false:=by simp[hk]
    rw[e1];exact aD (aD ⟨⟨_,rfl⟩,rfl,nxt λh=>absurd hk h⟩)
   ·have e1:(!decide (V.int z.2.num=V.int k))=true:=by simp[hk]
    rw[e1];refine aA ⟨_,rfl,z.1,_,_,_,rfl,rfl,az,at1 z.2,_,rfl,rfl,_,rfl,?_⟩
    by_cases hp:z.2.par=p
    ·have e2:decide (V.int z.2.par=V.int p)=true:=by simp[hp]
     rw[e2];refine aA ⟨_,rfl,z.1,_,_,_,rfl,rfl,az,at2 z.2,_,rfl,rfl,_,rfl,?_⟩
     by_cases hm:z.2.nm=nm
     ·have e3:decide (V.str z.2.nm=V.str nm)=true:=by simp[hm]
      rw[e3];exact aA ⟨_,rfl,p,rfl,h0,h1,_,rfl,nm,rfl,hn,λy=>⟨ao (show 1≤1000 by decide),q2 z mz hk hp hm⟩⟩
     ·have e3:decide (V.str z.2.nm=V.str nm)=false:=by simp[hm]
      rw[e3];exact aD ⟨⟨_,rfl⟩,rfl,nxt λ_ h=>hm h.2⟩
    ·have e2:decide (V.int z.2.par=V.int p)=false:=by simp[hp]
     rw[e2];exact aD (aD ⟨⟨_,rfl⟩,rfl,nxt λ_ h=>hp h.1⟩)
  ·obtain⟨_,rfl,hi⟩:=h;rw[aE,take_length]at hi;exact q1 hi
def je:Sp:=λvs H Q _=>∃t c n zs,vs=[.ref t,.ref c]∧H t=some (.tup (aq zs))∧At H zs∧H c=some (.tup (vals n))∧zs.length≤100∧∀us t' H',ak H H'→H' t'=some (.tup (aq us))→At H' us→nds us=(nds zs).map (TW.put n)→Q (.ref t') H'
theorem xf:FnScope ["tree","changed"] ["tree","changed"] (ai pK):=fsc
theorem uL{f:Addr}{fd:FuncData}(F:Fun K "with_node" "with_node" pK f fd)(T:Txt mg):FnOk P w K mg base CX0 1 f fd ["tree","changed"] je:=by
 refine F.ok xf (λvs H Q E h=>?_) (λcdv A outer s H vs Q E hr h=>?_)
 ·obtain⟨t,c,n,zs,rfl,_⟩:=h;rfl
 ·obtain⟨t,c,n,zs,rfl,ht,hA,hc,hl,q⟩:=h;refine⟨_,aj (av (bf bZ rfl T.tuple rfl (aa (eD (N:=["node","changed"]) (cl:=[("changed",s.heap.objs.size+1)]) (k:=1) (js:=[1]) (g:=aY 0) rfl
    (LcOk.mk' ["changed"] rfl rfl (by decide +kernel) (by decide +kernel) ?hcl rfl (by decide +kernel)) rfl ?hj (cq (pv 0)) (λs H fp=>aF (i:=0) (show(["node","changed"]:List Str).Nodup by decide +kernel) rfl (Or.inl rfl) (Or.inr rfl))
    (λs H fp=>lC (aw cG (ar (r:=dc K) ap (pv 0) ah (λ_ _=>rfl)) (ar (r:=dc K) ap (pv 1) ah (λ_ _=>rfl)) (aC _)) (pv 1) (pv 0))) ae))),?_⟩
  case hcl =>
   intro y hy;rcases mem_cons.mp hy with e|hy
   ·rw[e];rfl
   ·cases hy
  case hj =>
   intro i j x h1 h2
   match i,h1,h2 with
   |0,h1,h2 =>
    cases h1;cases h2;exact⟨rfl,Or.inr (Or.inl rfl),(show((ai pK).names.lookup ("changed":Str)≠some NameKind.local)by decide +kernel),by first|exact Or.inl rfl|exact Or.inr rfl⟩
   |i+1,h1,h2=>simp at h1
  refine⟨_,rfl,t,rfl,⟨_,SqT.of ht⟩,λp hp=>?_⟩;refine dL (fr:=[some (.ref c)]) zs (λz=>V.ref z.1) (by omega) hp (gJ (by rw[aO];exact SqT.of ht)) rfl (λz y H'=>y=.ref (if z.2.num=n.num then c else z.1)) (λz y H H' h _=>h) (λz H' k mz s1 _ hk=>?_) (λys H' s1 hp' hys=>?_)
  ·refine⟨_,rfl,z.1,_,_,_,rfl,rfl,SqT.of (s1 _ _ (hA z mz)),at0 z.2,_,rfl,c,_,_,_,rfl,rfl,SqT.of (s1 _ _ hc),at0 n,rfl,_,rfl,?_⟩
   by_cases e:z.2.num=n.num
   ·have e1:decide (V.int z.2.num=V.int n.num)=true:=by simp[e]
    rw[e1];exact aA ⟨_,rfl,hk _ H' (ak.refl _) (by rw[if_pos e])⟩
   ·have e1:decide (V.int z.2.num=V.int n.num)=false:=by simp[e]
    rw[e1];exact aD ⟨_,rfl,hk _ H' (ak.refl _) (by rw[if_neg e])⟩
  ·have ey:=cu (f:=λz:Addr×Nd=>V.ref (if z.2.num=n.num then c else z.1)) hys (λz y _ h=>h);refine⟨p,_,rfl,.inl ⟨SqL.of hp',λl hl'=>?_⟩⟩;have er:aq (zs.map λz=>if z.2.num=n.num then (c,n)else z)=ys:=by
    rw[ey,←aO,map_map];apply map_congr_left;intro z _;show V.ref (if z.2.num=n.num then (c,n)else z).1=_
    by_cases e:z.2.num=n.num
    ·rw[if_pos e,if_pos e]
    ·rw[if_neg e,if_neg e]
   refine q (zs.map λz=>if z.2.num=n.num then (c,n)else z) l _ (s1.trans (af hl')) (by rw[er];exact ac) (λy hy=>?_) ?_
   ·obtain⟨z,mz,rfl⟩:=mem_map.mp hy
    by_cases e:z.2.num=n.num
    ·rw[if_pos e];exact(s1.trans (af hl')) _ _ hc
    ·rw[if_neg e];exact(s1.trans (af hl')) _ _ (hA z mz)
   ·unfold nds;rw[map_map,map_map];apply map_congr_left;intro z _;show(if z.2.num=n.num then (c,n)else z).2=TW.put n z.2
    unfold TW.put
    by_cases e:z.2.num=n.num
    ·rw[if_pos e,if_pos e]
    ·rw[if_neg e,if_neg e]
def oo(cls:TW.Wd→Addr):Sp:=λvs H Q E=>∃t n p nm st zs,vs=[.ref t,.int n,.int p,.str nm,stV st]∧Tre H t zs∧zs.length≤29∧bX (.make n p nm st)∧Outs H (nds zs) (.make n p nm st) cls Q E
theorem sN:FnScope ["tree","number","parent","name","stamp","nodes"] ["tree","number","parent","name","stamp"] (ai sG):=fsc
theorem uM{f:Addr}{fd:FuncData}{cls:TW.Wd→Addr}(F:Fun K "make" "make" sG f fd)(T:Txt mg)(O:uJ mg base cls)(CB:Has P w K mg base 1 "by_number" ["tree"] dU)(CF:da P w K mg base 2 "check_folder" ["nodes","number"] (pN (cls .noNode) (cls .notFolder)))(CL:da P w K mg base 1 "check_place" ["tree","number","parent","name"] (nh (cls .taken))):FnOk P w K mg base (CX1 P w) 3 f fd ["tree","number","parent","name","stamp"] (oo cls):=by
 obtain⟨fB,fdB,GB,mB,kB,bB⟩:=CB;obtain⟨fF,fdF,GF,mF,kF,bF⟩:=CF;obtain⟨fL,fdL,GL,mL,kL,bL⟩:=CL;refine F.okX sN (λvs H Q E h=>?_) (λcdv A outer s H vs Q E hr h=>?_)
 ·obtain⟨t,n,p,nm,st,zs,rfl,_⟩:=h;rfl
 ·obtain⟨t,n,p,nm,st,zs,rfl,tr,hl,⟨hn1,hn2,hp1,hp2,hnm⟩,o⟩:=h;have hr1:Room 1 _:=hr.mono (by decide);have hnd:=ci tr.tr;refine⟨_,ag (au (i:=5) sN.nd rfl (Or.inl rfl) (am GB hr1 rfl mB kB bB .nil aP (aa (pv 0) ae)))
   (ag (bj (cU (iM (cc hr) (pv 1) (pv 5))) (aj (cX bp (O .known) hr.hd rfl (dJ (cr (c:=100) (by decide +kernel) (dO (pv 1) fQ)) (by decide)))) aJ)
   (ag (bi (am (E:=E) GF hr rfl mF kF bF .nil (cB bp) (aa (pv 5) (aa (pv 2) ae))))
   (ag (bi (am (E:=E) GL hr1 rfl mL kL bL .nil (cB bp) (aa (pv 0) (aa (pv 1) (aa (pv 2) (aa (pv 3) ae))))))
   (aj (av (bf bZ rfl T.tuple rfl (aa (aL gH rfl T.sorted boot_sorted (aa (aK (ml.or eQ) (pv 0) (aN (aa (aN (aa (pv 1) (aa (pv 2) (aa (pv 3) (aa (pv 4) ae))))) ae))) ae)) ae))))))),?_⟩
  refine⟨_,rfl,t,zs,rfl,tr.tup,tr.nod,by omega,hnd,λd H1 s1 nd1=>?_⟩
  by_cases hk:∃z∈zs,z.2.num=n
  ·obtain⟨z,hz,e⟩:=hk;subst e;exact⟨_,rfl,_,rfl,d,_,rfl,nd1.get hnd hz,_,rfl,aA ⟨_,rfl,_,rfl,by omega,hn2,λy=>⟨ao (show 1≤1000 by decide),o.no .known H1 s1 (.mKnown (nc hz rfl))⟩⟩⟩
  ·have hno:=eT hk;refine⟨_,rfl,_,rfl,d,_,rfl,nd1.not (λz hz e=>hk ⟨z,hz,e⟩),_,rfl,aD ?_⟩;refine⟨_,rfl,_,rfl,d,p,zs,rfl,nd1,tr.nod.same s1,hnd,hp1,hp2,λhF=>?_,λh0 hz=>o.no .noNode H1 s1 (.mNo hno h0 (eT λ⟨z,hz',e⟩=>hz z hz' e)),λz hz e h0 hs=>o.no .notFolder H1 s1 (.mFile hno h0 (aH hz) e hs)⟩;refine⟨_,rfl,_,rfl,_,rfl,_,rfl,t,n,p,nm,zs,rfl,s1 _ _ tr.tup,tr.nod.same s1,hp1,hp2,hnm,λhfree=>?_,λz hz _ e1 e2=>o.no .taken H1 s1 (.mTaken hno hF (aH hz) e1 e2)⟩;refine⟨_,rfl,_,rfl,_,rfl,_,rfl,_,rfl,(show 4≤sizeLine from ao (by decide)),λq hq=>⟨(show 1≤sizeLine from ao (by decide)),λc hc=>?_⟩⟩;have s2:ak H1 (upd (upd H1 q (.tup [.int n,.int p,.str nm,stV st])) c (.tup [.ref q])):=(af hq).trans (af hc);have gq:upd (upd H1 q (.tup [.int n,.int p,.str nm,stV st])) c (.tup [.ref q]) q=some (.tup (vals ⟨n,p,nm,st⟩)):=aW hc ac;have gc:upd (upd H1 q (.tup [.int n,.int p,.str nm,stV st])) c (.tup [.ref q]) c=some (.tup [.ref q]):=ac;generalize upd (upd H1 q (.tup [.int n,.int p,.str nm,stV st])) c (.tup [.ref q])=H2 at s2 gq gc⊢;have fin:∀(l:Addr)(H3:Hp),ak H2 H3→SqT K H3 l (aq (zs++[(q,⟨n,p,nm,st⟩)]))→tCB (λxs H Q=>∃l,∃zs:List iu,xs=[.ref l]∧(SqL K H l ((zs.map (·.1)).map V.ref)∨SqT K H l ((zs.map (·.1)).map V.ref))∧(∀z∈zs,H z.1=some (.tup (.int z.2.1::z.2.2)))∧(zs.map (·.2.1)).Nodup∧zs.length<64 ∧
     ∀zs':List iu,zs'.Perm zs→zs'.Pairwise (λa b=>a.2.1<b.2.1)→∀p,H p=none→Q (.ref p) (upd H p (.lst ((zs'.map (·.1)).map V.ref)))) (bv (tC (.ref l)) im) [] H3 (λx H1=>(λxs H Q=>∃p ys,xs=[V.ref p]∧((SqL K H p ys∧∀l,H l=none→Q (V.ref l) (upd H l (.tup ys)))∨(SqT K H p ys∧Q (.ref p) H))) [x] H1 Q):=by
    intro l H3 s3 hl3;have s123:=(s1.trans s2).trans s3;refine na (.inr hl3) (λz hz=>?_) ?_ (by rw[length_append];simp;omega) (λus t' H' s' ht' hA' hp hrise=>?_)
    ·rcases mem_append.mp hz with h|h
     ·exact s123 _ _ (tr.nod z h)
     ·have e:z=(q,⟨n,p,nm,st⟩):=by simpa using h
      subst e;exact s3 _ _ gq
    ·have e:(nds (zs++[(q,(⟨n,p,nm,st⟩:Nd))])).map (·.num)=(nds zs).map (·.num)++[n]:=by simp[nds]
     rw[e,nodup_append];refine⟨hnd,by simp,λa ha b hb e=>?_⟩;have eb:b=n:=by simpa using hb
     obtain⟨m,hm,em⟩:=mem_map.mp ha;exact hno ⟨m,hm,by rw[em,e,eb]⟩
    ·refine o.ok us t' H' (s123.trans s') ht' hA' (.made hno hF (λm hm=>?_) ?_ hrise)
     ·obtain⟨z,hz,rfl⟩:=cj hm;exact hfree z hz λe=>hno ⟨z.2,hm,e⟩
     ·have:(nds us).Perm (nds (zs++[(q,⟨n,p,nm,st⟩)])):=hp.map _;refine this.trans ?_;unfold nds;rw[map_append];exact List.perm_append_comm
   by_cases hz:zs=[]
   ·subst hz;exact .inl ⟨t,c,_,rfl,rfl,SqT.of ((s1.trans s2) _ _ tr.tup),SqT.of gc,fin c H2 (ak.refl _) (SqT.of gc)⟩
   ·refine .inr ⟨t,c,_,_,rfl,rfl,SqT.of ((s1.trans s2) _ _ tr.tup),SqT.of gc,?_,?_,λh=>absurd h (List.cons_ne_nil _ _),λ_ l hl3=>fin l _ (af hl3) (by rw[jT];exact SqT.of ac)⟩
    ·intro e;exact hz (sx e)
    ·rw[aE];exact ao (by show zs.length+1≤1000;omega)
def lc(cls:TW.Wd→Addr):Sp:=λvs H Q E=>∃t n st zs,vs=[.ref t,.int n,.int st]∧Tre H t zs∧bX (.write n st)∧Outs H (nds zs) (.write n st) cls Q E
theorem pO:FnScope ["tree","number","stamp","node"] ["tree","number","stamp"] (ai om):=fsc
theorem sO{f:Addr}{fd:FuncData}{cls:TW.Wd→Addr}(F:Fun K "write" "write" om f fd)(O:uJ mg base cls)(CB:Has P w K mg base 1 "by_number" ["tree"] dU)(CN:da P w K mg base 1 "node_of" ["nodes","number"] (jd (cls .noNode)))(CW:Has P w K mg base 1 "with_node" ["tree","changed"] je):FnOk P w K mg base (CX1 P w) 2 f fd ["tree","number","stamp"] (lc cls):=by
 obtain⟨fB,fdB,GB,mB,kB,bB⟩:=CB;obtain⟨fN,fdN,GN,mN,kN,bN⟩:=CN;obtain⟨fW,fdW,GW,mW,kW,bW⟩:=CW;refine F.okX pO (λvs H Q E h=>?_) (λcdv A outer s H vs Q E hr h=>?_)
 ·obtain⟨t,n,st,zs,rfl,_⟩:=h;rfl
 ·obtain⟨t,n,st,zs,rfl,tr,⟨hn1,hn2⟩,o⟩:=h;have hnd:=ci tr.tr;have hl:=tr.len;refine⟨_,ag (au (i:=3) pO.nd rfl (Or.inl rfl) (am (E:=E) GN hr rfl mN kN bN .nil (cB bp) (aa (am GB hr rfl mB kB bB .nil aP (aa (pv 0) ae)) (aa (pv 1) ae))))
   (ag (bj (aw iE (ar ap (pv 3) ah (λ_ _=>rfl)) cp (aC _)) (aj (cX bp (O .notFile) hr.hd rfl (dJ (cr (c:=100) (by decide +kernel) (dO (pv 1) (cr (c:=100) (by decide +kernel) fQ))) (by decide)))) aJ)
   (aj (av (am GW hr rfl mW kW bW .nil aP (aa (pv 0) (aa (aN (aa (pv 1) (aa (ar ap (pv 3) ah (λ_ _=>rfl)) (aa (ar ap (pv 3) ah (λ_ _=>rfl)) (aa (pv 2) ae))))) ae)))))),?_⟩
  refine⟨_,rfl,t,zs,rfl,tr.tup,tr.nod,by omega,hnd,λd H1 s1 nd1=>?_⟩;refine⟨_,rfl,d,n,zs,rfl,nd1,hnd,by omega,hn2,λz hz e=>?_,λhk=>o.no .noNode H1 s1 (.wNo (eT λ⟨z,hz,e⟩=>hk z hz e))⟩;subst e;have az:SqT K H1 z.1 (vals z.2):=SqT.of (s1 _ _ (tr.nod z hz));refine⟨_,rfl,z.1,_,_,_,rfl,rfl,az,at3 z.2,rfl,_,rfl,?_⟩;cases hs:z.2.st with
  |none=>exact aA ⟨_,rfl,_,rfl,by omega,hn2,λy=>⟨ao (show 1≤1000 by decide),o.no .notFile H1 s1 (.wFold (aH hz) rfl hs)⟩⟩
  |some i =>
   refine aD ⟨_,rfl,_,rfl,_,rfl,z.1,_,_,_,rfl,rfl,az,at1 z.2,_,rfl,z.1,_,_,_,rfl,rfl,az,at2 z.2,_,rfl,(show 4≤sizeLine from ao (by decide)),λc hc=>?_⟩;have s2:=s1.trans (af (o:=.tup [.int z.2.num,.int z.2.par,.str z.2.nm,.int st]) hc);refine⟨t,c,⟨z.2.num,z.2.par,z.2.nm,some st⟩,zs,rfl,s2 _ _ tr.tup,tr.nod.same s2,ac,by omega,λus t' H' s' ht' hA' e=>o.ok us t' H' (s2.trans s') ht' hA' ?_⟩;rw[e];exact .wrote (aH hz) rfl (by rw[hs];simp)
def oq(cls:TW.Wd→Addr):Sp:=λvs H Q E=>∃t n p nm zs,vs=[.ref t,.int n,.int p,.str nm]∧Tre H t zs∧bX (.move n p nm)∧Outs H (nds zs) (.move n p nm) cls Q E
theorem ou:FnScope ["tree","number","parent","name","nodes","node"] ["tree","number","parent","name"] (ai sI):=fsc
theorem uN{f:Addr}{fd:FuncData}{cls:TW.Wd→Addr}(F:Fun K "move" "move" sI f fd)(O:uJ mg base cls)(CB:Has P w K mg base 1 "by_number" ["tree"] dU)(CN:da P w K mg base 1 "node_of" ["nodes","number"] (jd (cls .noNode)))(CF:da P w K mg base 2 "check_folder" ["nodes","number"] (pN (cls .noNode) (cls .notFolder)))(CE:da P w K mg base 2 "below" ["tree","number"] (pM (cls .noNode)))(CL:da P w K mg base 1 "check_place" ["tree","number","parent","name"] (nh (cls .taken)))(CW:Has P w K mg base 1 "with_node" ["tree","changed"] je):FnOk P w K mg base (CX1 P w) 3 f fd ["tree","number","parent","name"] (oq cls):=by
 obtain⟨fB,fdB,GB,mB,kB,bB⟩:=CB;obtain⟨fN,fdN,GN,mN,kN,bN⟩:=CN;obtain⟨fF,fdF,GF,mF,kF,bF⟩:=CF;obtain⟨fE,fdE,GE,mE,kE,bE⟩:=CE;obtain⟨fL,fdL,GL,mL,kL,bL⟩:=CL;obtain⟨fW,fdW,GW,mW,kW,bW⟩:=CW;refine F.okX ou (λvs H Q E h=>?_) (λcdv A outer s H vs Q E hr h=>?_)
 ·obtain⟨t,n,p,nm,zs,rfl,_⟩:=h;rfl
 ·obtain⟨t,n,p,nm,zs,rfl,tr,⟨hn1,hn2,hp1,hp2,hnm⟩,o⟩:=h;have hnd:=ci tr.tr;have hl:=tr.len;have hT:=tr.tr;have hr1:Room 1 _:=hr.mono (by decide);refine⟨_,ag (au (i:=4) ou.nd rfl (Or.inl rfl) (am GB hr1 rfl mB kB bB .nil aP (aa (pv 0) ae)))
   (ag (au (i:=5) ou.nd rfl (Or.inl rfl) (am (E:=E) GN hr1 rfl mN kN bN .nil (cB bp) (aa (pv 4) (aa (pv 1) ae))))
   (ag (bi (am (E:=E) GF hr rfl mF kF bF .nil (cB bp) (aa (pv 4) (aa (pv 2) ae))))
   (ag (bj (PW.pt (pw_or (aw cG (pv 2) (pv 1) (aC _)) (pw_or1 (aw qj (pv 2) (am (E:=E) GE hr rfl mE kE bE .nil (cB bp) (aa (pv 0) (aa (pv 1) ae))) rfl))))
    (aj (cX bp (O .inside) hr.hd rfl (dJ (cr (c:=100) (by decide +kernel) (dO (pv 2) (cr (c:=100) (by decide +kernel) (dO (pv 1) (cr (c:=100) (by decide +kernel) fQ))))) (by decide)))) aJ)
   (ag (bi (am (E:=E) GL hr1 rfl mL kL bL .nil (cB bp) (aa (pv 0) (aa (pv 1) (aa (pv 2) (aa (pv 3) ae))))))
   (aj (av (am GW hr1 rfl mW kW bW .nil aP (aa (pv 0) (aa (aN (aa (pv 1) (aa (pv 2) (aa (pv 3) (aa (ar ap (pv 5) ah (λ_ _=>rfl)) ae))))) ae))))))))),?_⟩
  refine⟨_,rfl,t,zs,rfl,tr.tup,tr.nod,by omega,hnd,λd H1 s1 nd1=>?_⟩;refine⟨_,rfl,_,rfl,d,n,zs,rfl,nd1,hnd,by omega,hn2,λz hz e=>?_,λhk=>o.no .noNode H1 s1 (.vNo (eT λ⟨z,hz,e⟩=>hk z hz e))⟩;subst e;have hh:TW.bu (nds zs) z.2.num:=nc hz rfl;refine⟨_,rfl,_,rfl,d,p,zs,rfl,nd1,tr.nod.same s1,hnd,hp1,hp2,λhF=>?_,λh0 hk=>o.no .noNode H1 s1 (.vNoP hh h0 (eT λ⟨y,hy,e⟩=>hk y hy e)),λy hy e h0 hs=>o.no .notFolder H1 s1 (.vFile hh h0 (aH hy) e hs)⟩;have insd:∀H2,ak H1 H2→p≠0→TW.Und (nds zs) z.2.num p→∀y:Str,E (.ref (cls .inside)) none H2:=λH2 s2 h0 hu _=>o.no .inside H2 (s1.trans s2) (.vIn hh hF h0 hu);have rest:∀H2,ak H1 H2→(p≠0→¬TW.Und (nds zs) z.2.num p)→lD (vt (lH (nh (cls .taken)) [] E (bv (eX 0) (bv (eX 1) (bv (eX 2) (bv (eX 3) im)))))) (vQ (lH je [] E0 (bv (eX 0) (bv (tX (bv (eX 1) (bv (eX 2) (bv (eX 3) (bv (tOp (dc K) (eX 5) (tC (.int 3))) im))))) im))))
    {nx:=λ_ H'=>Q .non H',rt:=Q} [some (.ref t),some (.int z.2.num),some (.int p),some (.str nm),some (.ref d),some (.ref z.1)] H2:=by
   intro H2 s2 hu;have s12:=s1.trans s2;refine⟨_,rfl,_,rfl,_,rfl,_,rfl,t,z.2.num,p,nm,zs,rfl,s12 _ _ tr.tup,tr.nod.same s12,hp1,hp2,hnm,λhfree=>?_,λy hy hne e1 e2=>o.no .taken H2 s12 (.vTaken hh hF hu (aH hy) hne e1 e2)⟩;refine⟨_,rfl,_,rfl,_,rfl,_,rfl,_,rfl,z.1,_,_,_,rfl,rfl,SqT.of (s12 _ _ (tr.nod z hz)),at3 z.2,(show 4≤sizeLine from ao (by decide)),λc hc=>?_⟩;have s3:=s12.trans (af (o:=.tup [.int z.2.num,.int p,.str nm,stV z.2.st]) hc);refine⟨t,c,⟨z.2.num,p,nm,z.2.st⟩,zs,rfl,s3 _ _ tr.tup,tr.nod.same s3,ac,by omega,λus t' H' s' ht' hA' e=>o.ok us t' H' (s3.trans s') ht' hA' ?_⟩;rw[e];refine .moved (aH hz) rfl hF hu λm hm hne h=>?_;obtain⟨y,hy,rfl⟩:=cj hm;exact hfree y hy hne h
  refine⟨_,rfl,_,rfl,rfl,_,rfl,?_⟩
  by_cases hpn:p=z.2.num
  ·have e1:decide (V.int p=V.int z.2.num)=true:=by simp[hpn]
   rw[e1];exact aA (aA ⟨_,rfl,p,rfl,hp1,hp2,_,rfl,_,rfl,by omega,hn2,λy=>⟨ao (show 1≤1000 by decide),insd H1 (ak.refl _) (by omega) (by rw[hpn];exact .here) y⟩⟩)
  ·have e1:decide (V.int p=V.int z.2.num)=false:=by simp[hpn]
   rw[e1];refine aD ⟨_,rfl,_,rfl,_,rfl,t,z.2.num,zs,rfl,tr.same s1,by omega,hn2,λ_ ms l H2 s2 hms _ hm hl2=>?_,λh0 hk=>absurd rfl (hk z hz)⟩;refine⟨l,_,rfl,.inl (SqL.of hl2),rfl,qK ms,_,rfl,?_⟩;show if (inV (.int p) (ms.map V.int))=true then _ else _
   rw[uE]
   by_cases hin:p∈ms
   ·rw[decide_eq_true hin];obtain⟨m,hm1,hm2,hm3⟩:=(hm p).mp hin;have hu:TW.Und (nds zs) z.2.num p:=by rw[←hm2];exact((TW.cT hT hn1 hm1).mp hm3).2
    have h0:p≠0:=by have:=hT.pos m hm1;omega
    exact aA ⟨_,rfl,p,rfl,hp1,hp2,_,rfl,_,rfl,by omega,hn2,λy=>⟨ao (show 1≤1000 by decide),insd H2 s2 h0 hu y⟩⟩
   ·rw[decide_eq_false hin];refine aD (rest H2 s2 λh0 hu=>?_);rcases hF with e|⟨m,hm1,hm2,hm3⟩
    ·exact h0 e
    ·refine hin ((hm p).mpr ⟨m,hm1,hm3,(TW.cT hT hn1 hm1).mpr ⟨by rw[hm3];exact hpn,by rw[hm3];exact hu⟩⟩)
def ow(cls:TW.Wd→Addr):Sp:=λvs H Q E=>∃t n zs,vs=[.ref t,.int n]∧Tre H t zs∧bX (.drop n)∧Outs H (nds zs) (.drop n) cls Q E
theorem sP:FnScope ["tree","number","gone"] ["tree","number"] (ai pL):=fsc
def nk(n:Int)(ms:List Int)(m:Nd):Bool:=!decide (m.num=n∨m.num∈ms)
theorem uO{f:Addr}{fd:FuncData}{cls:TW.Wd→Addr}(F:Fun K "drop" "drop" pL f fd)(T:Txt mg)(CB:Has P w K mg base 1 "by_number" ["tree"] dU)(CN:da P w K mg base 1 "node_of" ["nodes","number"] (jd (cls .noNode)))(CE:da P w K mg base 2 "below" ["tree","number"] (pM (cls .noNode))):FnOk P w K mg base (CX1 P w) 3 f fd ["tree","number"] (ow cls):=by
 obtain⟨fB,fdB,GB,mB,kB,bB⟩:=CB;obtain⟨fN,fdN,GN,mN,kN,bN⟩:=CN;obtain⟨fE,fdE,GE,mE,kE,bE⟩:=CE;refine F.okX sP (λvs H Q E h=>?_) (λcdv A outer s H vs Q E hr h=>?_)
 ·obtain⟨t,n,zs,rfl,_⟩:=h;rfl
 ·obtain⟨t,n,zs,rfl,tr,⟨hn1,hn2⟩,o⟩:=h;have hnd:=ci tr.tr;have hl:=tr.len;have hT:=tr.tr;have hr1:Room 1 _:=hr.mono (by decide);refine⟨_,ag (bi (am (E:=E) GN hr1 rfl mN kN bN .nil (cB bp) (aa (am GB hr1 rfl mB kB bB .nil aP (aa (pv 0) ae)) (aa (pv 1) ae))))
   (ag (au (i:=2) sP.nd rfl (Or.inr rfl) (bf (mG rfl) rfl T.dict boot_dict (aa (eD (N:=["inner"]) (k:=1) (js:=[]) (g:=aY 0) rfl (cW rfl (by decide +kernel) (by decide +kernel) (by decide +kernel)) rfl (λi j x h=>by simp at h)
    (cI (am (E:=E) GE hr rfl mE kE bE .nil (cB bp) (aa (pv 0) (aa (pv 1) ae)))) (λs H fp=>aF (i:=0) (show(["inner"]:List Str).Nodup by decide +kernel) rfl (Or.inl rfl) (Or.inr rfl))
    (λs H fp=>aN (aa (pv 0) (aa cF ae)))) ae)))
   (ag (oY (cc hr) (pv 2) (pv 1) cF rfl)
   (aj (av (bf bZ rfl T.tuple rfl (aa (iP (N:=["node","gone"]) (cl:=[("gone",s.heap.objs.size+1)]) (k:=1) (js:=[2]) (g:=aY 0) rfl
    (LcOk.mk' ["gone"] rfl rfl (by decide +kernel) (by decide +kernel) ?hcl rfl (by decide +kernel)) rfl ?hj (cq (pv 0)) (λs H fp=>aF (i:=0) (show(["node","gone"]:List Str).Nodup by decide +kernel) rfl (Or.inl rfl) (Or.inr rfl))
    (λs H fp=>cU (cQ (cc hr) (ar (r:=dc K) ap (pv 0) ah (λ_ _=>rfl)) (pv 1))) (λs H fp=>pv 0)) ae)))))),?_⟩
  case hcl =>
   intro y hy;rcases mem_cons.mp hy with e|hy
   ·rw[e];rfl
   ·cases hy
  case hj =>
   intro i j x h1 h2
   match i,h1,h2 with
   |0,h1,h2 =>
    cases h1;cases h2;exact⟨rfl,Or.inr (Or.inl rfl),(show((ai pL).names.lookup ("gone":Str)≠some NameKind.local)by decide +kernel),by first|exact Or.inl rfl|exact Or.inr rfl⟩
   |i+1,h1,h2=>simp at h1
  refine⟨_,rfl,t,zs,rfl,tr.tup,tr.nod,by omega,hnd,λd H1 s1 nd1=>?_⟩;refine⟨_,rfl,d,n,zs,rfl,nd1,hnd,by omega,hn2,λz hz e=>?_,λhk=>o.no .noNode H1 s1 (.dNo (eT λ⟨z,hz,e⟩=>hk z hz e))⟩;refine⟨_,rfl,_,rfl,t,n,zs,rfl,tr.same s1,by omega,hn2,λ_ ms l H2 s2 hms hml0 hm hl2=>?_,λh0 hk=>absurd e (hk z hz)⟩;have hml:ms.length≤1000:=by omega
  refine⟨l,rfl,⟨_,SqL.of hl2⟩,λp hp=>?_⟩;refine dL (fr:=[]) ms V.int hml hp (kS (SqL.of hl2)) rfl (λm y H'=>∃q,y=.ref q∧q≠p∧H' q=some (.tup [.int m,.bl true])) (λm y H H' ⟨q,e,ne,h⟩ ex=>⟨q,e,ne,ex q _ ne h⟩) (λm H' k _ s3 hpl hk=>?_) (λys H3 s3 hp3 hys=>?_)
  ·exact⟨_,rfl,le2,λq hq=>hk _ _ (af hq) ⟨q,rfl,fJ hpl hq,ac⟩⟩
  ·obtain⟨bs,e1,e2,e3⟩:=cS (val:=V.ref) (S:=λ(m:Int) (q:Addr)=>H3 q=some (.tup [.int m,.bl true])) hys (λm y _ ⟨q,e,_,h⟩=>⟨q,e,h⟩);have s123:=(s1.trans s2).trans s3;have hbl:bs.length=ms.length:=by rw[←e1,length_map]
   refine⟨p,bs.map λx=>(x.2,(Sum.inl x.1:Key),V.bl true),rfl,by rw[hp3,e2,map_map,map_map];rfl,λy hy=>?_,by rw[length_map];omega,?_,λg hg=>?_⟩
   ·obtain⟨x,hx,rfl⟩:=mem_map.mp hy;exact e3 x hx
   ·rw[map_map];have:(bs.map ((λx:Addr×Key×V=>x.2.1)∘λx=>(x.2,(Sum.inl x.1:Key),V.bl true)))=ms.map (Sum.inl:Int→Key):=by rw[←e1,map_map];rfl
    rw[this];unfold Nodup;rw[pairwise_map];exact hms.imp λh e=>by injection e with e;omega
   ·have ekv:(bs.map λx=>(x.2,(Sum.inl x.1:Key),V.bl true)).map (·.2)=ms.map λm=>((Sum.inl m:Key),V.bl true):=by rw[←e1,map_map,map_map];rfl
    rw[ekv];have s4:=s123.trans (af (o:=.dK (ms.map λm=>((Sum.inl m:Key),V.bl true))) hg);have s5:ak H (upd (upd H3 g (.dK (ms.map λm=>((Sum.inl m:Key),V.bl true)))) g (.dK (ce (ms.map λm=>((Sum.inl m:Key),V.bl true)) (Sum.inl n:Key) (.bl true)))):=aZ (s123.free hg) s4;refine⟨_,rfl,_,rfl,g,_,rfl,qk.k (k:=Sum.inl n) ac (ax (by rw[length_map];exact hml)),?_⟩;have hgo:(upd (upd H3 g (.dK (ms.map λm=>((Sum.inl m:Key),V.bl true)))) g (.dK (ce (ms.map λm=>((Sum.inl m:Key),V.bl true)) (Sum.inl n:Key) (.bl true)))) g=some (.dK (ce (ms.map λm=>((Sum.inl m:Key),V.bl true)) (Sum.inl n:Key) (.bl true))):=ac;generalize upd (upd H3 g (.dK (ms.map λm=>((Sum.inl m:Key),V.bl true)))) g (.dK (ce (ms.map λm=>((Sum.inl m:Key),V.bl true)) (Sum.inl n:Key) (.bl true)))=H5 at s5 hgo⊢;have hval:∀k:Int,(!(aT (ce (ms.map λm=>((Sum.inl m:Key),V.bl true)) (Sum.inl n:Key) (.bl true)) (Sum.inl k:Key)).isSome) = !decide (k=n∨k∈ms):=λk=>by
     rw[iJ]
     by_cases e:k=n
     ·subst e;simp
     ·have e':¬(Sum.inl k:Key)=Sum.inl n:=λh=>e (by injection h);rw[if_neg e']
      by_cases hk:k∈ms
      ·have:aT (ms.map λm=>((Sum.inl m:Key),V.bl true)) (Sum.inl k:Key)=some (.bl true):=by
        refine sA ?_ (mem_map.mpr ⟨k,hk,rfl⟩);rw[map_map];unfold Nodup;rw[pairwise_map];exact hms.imp λh e=>by injection e with e;omega
       rw[this];simp[hk]
      ·have:aT (ms.map λm=>((Sum.inl m:Key),V.bl true)) (Sum.inl k:Key)=none:=by
        refine pH λhx=>hk ?_;rw[map_map]at hx;obtain⟨m,hm',e⟩:=mem_map.mp hx;injection e with e
        rw[←e];exact hm'
       rw[this];simp[e,hk]
    refine⟨_,rfl,t,rfl,⟨_,SqT.of (s5 _ _ tr.tup)⟩,λp2 hp2=>?_⟩;refine ja (fr:=[some (.ref g)]) zs (λz=>V.ref z.1) (by omega) hp2 (gJ (by rw[aO];exact SqT.of (s5 _ _ tr.tup))) rfl (λz=>nk n ms z.2) (λz y _=>y=.ref z.1) (λz y H H' h _=>h) (λz H' k mz s6 _ hk=>?_) (λz H' k mz _ s6 _ hk=>?_) (λys H6 s6 hp6 hys=>?_)
    ·refine⟨_,rfl,z.1,_,_,_,rfl,rfl,SqT.of (s6 _ _ (s5 _ _ (tr.nod z mz))),at0 z.2,_,rfl,g,_,rfl,eB.k (k:=Sum.inl z.2.num) (s6 _ _ hgo),_,rfl,?_⟩;rw[hval];exact hk H' (ak.refl _)
    ·exact⟨_,rfl,hk _ H' (ak.refl _) rfl⟩
    ·have ey:=cu (f:=λz:Addr×Nd=>V.ref z.1) hys (λz y _ h=>h);refine⟨p2,_,rfl,.inl ⟨SqL.of hp6,λl6 hl6=>?_⟩⟩;have s56:=(s5.trans s6).trans (af (o:=.tup ys) hl6);refine o.ok (zs.filter λz=>nk n ms z.2) l6 _ s56 (by rw[ac,ey,aO]) (λy hy=>s56 _ _ (tr.nod y (mem_filter.mp hy).1)) ?_;have en:nds (zs.filter λz=>nk n ms z.2)=(nds zs).filter (nk n ms):=by
      unfold nds;rw[filter_map];rfl
     rw[en];refine .dropped ⟨z.2,aH hz,e⟩ λm hm'=>?_;unfold nk;rw[Bool.not_eq_true',decide_eq_false_iff_not];constructor
     ·intro h hu
      by_cases em:m.num=n
      ·exact h (.inl em)
      ·exact h (.inr ((hm m.num).mpr ⟨m,hm',rfl,(TW.cT hT hn1 hm').mpr ⟨em,hu⟩⟩))
     ·intro h hx;rcases hx with em|hx
      ·exact h (by rw[em];exact .here)
      ·obtain⟨m',h1,h2,h3⟩:=(hm m.num).mp hx;have:m'=m:=hT.inj h1 hm' h2;subst this;exact h ((TW.cT hT hn1 h1).mp h3).2
def jf(cls:TW.Wd→Addr):Sp:=λvs H Q E=>∃t d dd zs,vs=[.ref t,.ref d]∧Tre H t zs∧zs.length≤29∧H d=some (.tup (bJ dd))∧bX dd∧Outs H (nds zs) dd cls Q E
theorem sQ:FnScope ["tree","deed","word"] ["tree","deed"] (ai sJ):=fsc
theorem uP{f:Addr}{fd:FuncData}{cls:TW.Wd→Addr}(F:Fun K "done" "done" sJ f fd)(CM:da P w K mg base 3 "make" ["tree","number","parent","name","stamp"] (oo cls))(CW:da P w K mg base 2 "write" ["tree","number","stamp"] (lc cls))(CV:da P w K mg base 3 "move" ["tree","number","parent","name"] (oq cls))(CD:da P w K mg base 3 "drop" ["tree","number"] (ow cls)):FnOk P w K mg base (CX1 P w) 4 f fd ["tree","deed"] (jf cls):=by
 obtain⟨fM,fdM,GM,mM,kM,bM⟩:=CM;obtain⟨fW,fdW,GW,mW,kW,bW⟩:=CW;obtain⟨fV,fdV,GV,mV,kV',bV⟩:=CV;obtain⟨fD,fdD,GD,mD,kD,bD⟩:=CD;refine F.okX sQ (λvs H Q E h=>?_) (λcdv A outer s H vs Q E hr h=>?_)
 ·obtain⟨t,d,dd,zs,rfl,_⟩:=h;rfl
 ·obtain⟨t,d,dd,zs,rfl,tr,hl,hd,hok,o⟩:=h;have hr2:Room 2 _:=hr.mono (by decide);refine⟨_,ag (au (i:=2) sQ.nd rfl (Or.inl rfl) (ar ap (pv 1) ah (λ_ _=>rfl)))
   (ag (bj (aw cG (pv 2) bx (aC _)) (aj (av (am (E:=E) GM hr rfl mM kM bM .nil (cB bp) (aa (pv 0) (aa (ar ap (pv 1) ah (λ_ _=>rfl)) (aa (ar ap (pv 1) ah (λ_ _=>rfl)) (aa (ar ap (pv 1) ah (λ_ _=>rfl)) (aa (ar ap (pv 1) ah (λ_ _=>rfl)) ae)))))))) aJ)
   (ag (bj (aw cG (pv 2) bx (aC _)) (aj (av (am (E:=E) GW hr2 rfl mW kW bW .nil (cB bp) (aa (pv 0) (aa (ar ap (pv 1) ah (λ_ _=>rfl)) (aa (ar ap (pv 1) ah (λ_ _=>rfl)) ae)))))) aJ)
   (ag (bj (aw cG (pv 2) bx (aC _)) (aj (av (am (E:=E) GV hr rfl mV kV' bV .nil (cB bp) (aa (pv 0) (aa (ar ap (pv 1) ah (λ_ _=>rfl)) (aa (ar ap (pv 1) ah (λ_ _=>rfl)) (aa (ar ap (pv 1) ah (λ_ _=>rfl)) ae))))))) aJ)
   (ag (bj (aw cG (pv 2) bx (aC _)) (aj (av (am (E:=E) GD hr rfl mD kD bD .nil (cB bp) (aa (pv 0) (aa (ar ap (pv 1) ah (λ_ _=>rfl)) ae))))) aJ)
   (aj qU))))),?_⟩
  have sd:SqT K H d (bJ dd):=SqT.of hd;cases dd with
  |make n p nm st =>
   refine⟨_,rfl,d,_,_,_,rfl,rfl,sd,rfl,?_⟩;refine⟨_,rfl,rfl,_,rfl,aA ⟨_,rfl,_,rfl,d,_,_,_,rfl,rfl,sd,rfl,_,rfl,d,_,_,_,rfl,rfl,sd,rfl,_,rfl,d,_,_,_,rfl,rfl,sd,rfl,_,rfl,d,_,_,_,rfl,rfl,sd,rfl,t,n,p,nm,st,zs,rfl,tr,hl,hok,o⟩⟩
  |write n st =>
   refine⟨_,rfl,d,_,_,_,rfl,rfl,sd,rfl,?_⟩;refine⟨_,rfl,rfl,_,rfl,aD ⟨_,rfl,rfl,_,rfl,aA ⟨_,rfl,_,rfl,d,_,_,_,rfl,rfl,sd,rfl,_,rfl,d,_,_,_,rfl,rfl,sd,rfl,t,n,st,zs,rfl,tr,hok,o⟩⟩⟩
  |move n p nm =>
   refine⟨_,rfl,d,_,_,_,rfl,rfl,sd,rfl,?_⟩;refine⟨_,rfl,rfl,_,rfl,aD ⟨_,rfl,rfl,_,rfl,aD ⟨_,rfl,rfl,_,rfl,aA ⟨_,rfl,_,rfl,d,_,_,_,rfl,rfl,sd,rfl,_,rfl,d,_,_,_,rfl,rfl,sd,rfl,_,rfl,d,_,_,_,rfl,rfl,sd,rfl,t,n,p,nm,zs,rfl,tr,hok,o⟩⟩⟩⟩
  |drop n =>
   refine⟨_,rfl,d,_,_,_,rfl,rfl,sd,rfl,?_⟩;refine⟨_,rfl,rfl,_,rfl,aD ⟨_,rfl,rfl,_,rfl,aD ⟨_,rfl,rfl,_,rfl,aD ⟨_,rfl,rfl,_,rfl,aA ⟨_,rfl,_,rfl,d,_,_,_,rfl,rfl,sd,rfl,t,n,zs,rfl,tr,hok,o⟩⟩⟩⟩⟩
end
end TK
namespace TB
open PySem PySem.SetTable
section
variable{prog:Program}{w:World}{A:Around}{E:Value→Shared→Prop}{s:Shared}
end
section
variable{prog:Program}{w:World}{A:Around}{R:Result→Shared→Prop}{I:Addr}{fp wr:List Addr}{G:Array GenState→Array GenState→Prop}{n:Nat}{P:Nat→Value→Prop}{St:Nat→Shared→Prop}
end
section
variable{prog:Program}{w:World}{A:Around}{E:Value→Shared→Prop}{s:Shared}
end
end TB
namespace SRT
open PySem PySem.W PyProof.Rows
section
variable{prog:Program}{w:World}{A:Around}{E:Value→Shared→Prop}{s:Shared}
end
end SRT
namespace L2
open PySem PySem.Spec PyProof.Rows
section
variable{X:Cx}
end
end L2
namespace TB
open PySem PySem.SetTable
section
variable{prog:Program}{w:World}{A:Around}{E:Value→Shared→Prop}{s:Shared}
end
end TB
namespace L2
open PySem PySem.Spec PyProof.Rows
section
variable{X:Cx}
def jV:V→Bool
 |.non=>true
 |.int _=>true
 |.str _=>true
 |_=>false
theorem jg{x:V}(h:jV x=true):cy x=true:=by cases x<;>first|rfl|cases h
theorem sR{x y:V}(hx:jV x=true)(hy:jV y=true):eqV x y=decide (x=y):=by
 cases x<;>cases y<;>simp_all [eqV,jV]<;>rw[Bool.eq_iff_iff]<;>simp
def OT(H:Hp)(x:V)(o:Option (List V)):Prop:=(x=.non∧o=none)∨∃a xs,x=.ref a∧H a=some (.tup xs)∧o=some xs∧∀v∈xs,jV v=true
theorem xg{xs ys:List V}(hl:xs.length=ys.length):((List.range xs.length).all λi=>decide (xs.getD i .non=ys.getD i .non))=decide (xs=ys):=by
 rw[Bool.eq_iff_iff,all_eq_true,decide_eq_true_eq];constructor
 ·intro h;apply ext_getElem?;intro i
  by_cases hi:i<xs.length
  ·have:=h i (mem_range.mpr hi);rw[decide_eq_true_eq,getD_eq_getElem?_getD,getD_eq_getElem?_getD,getElem?_eq_getElem hi,getElem?_eq_getElem (by omega)]at this;rw[getElem?_eq_getElem hi,getElem?_eq_getElem (by omega)];exact congrArg some this
  ·rw[getElem?_eq_none (by omega),getElem?_eq_none (by omega)]
 ·intro h i hi;rw[h];simp
theorem xh(hu:X.A.units+1<cLine):OpR X (compareOp .NotEq) (λx y H Q=>∃ox oy,OT H x ox∧OT H y oy∧Q (.bl (!decide (ox=oy))) H):=by
 intro pins s σ H x y v u Q I rx ry h;obtain⟨ox,oy,hx,hy,q⟩:=h;have hu0:X.A.units<cLine:=by omega
 rcases hx with⟨rfl,rfl⟩|⟨a,xs,rfl,ha,rfl,fx⟩<;>rcases hy with⟨rfl,rfl⟩|⟨b,ys,rfl,hb,rfl,fy⟩<;>cases rx<;>cases ry
 ·exact RcNeAt.none_none _ _ _ _ ⟨.bl false,H,I,rfl,q⟩
 ·obtain⟨_,ws,r2,t2⟩:=I.hok b _ hb;exact RcNeAt.none_tuple t2 hu0 _ _ _ _ ⟨.bl true,H,I,rfl,q⟩
 ·obtain⟨_,us,r1,t1⟩:=I.hok a _ ha;exact RcNeAt.tuple_none t1 hu0 _ _ _ _ ⟨.bl true,H,I,rfl,q⟩
 ·obtain⟨_,us,r1,t1⟩:=I.hok a _ ha;obtain⟨_,ws,r2,t2⟩:=I.hok b _ hb;have l1:=r1.length;have l2:=r2.length;refine RcNeAt.tuples (e:=λi=>decide (xs.getD i .non=ys.getD i .non)) t1 t2 hu0 (λj h1 h2=>?_) _ _ _ _ ⟨.bl _,H,I,rfl,?_⟩
  ·have h1':j<xs.length:=by rw[l1];simpa using h1
   have h2':j<ys.length:=by rw[l2];simpa using h2
   obtain⟨u',hu1,hu2⟩:=r1.get (getElem?_eq_getElem h1');obtain⟨v',hv1,hv2⟩:=r2.get (getElem?_eq_getElem h2');have e1:us.toArray[j]=u':=by
    have:us[j]?=some us.toArray[j]:=by rw[getElem?_eq_getElem (by simpa using h1)];simp
    rw[hu1]at this;exact(Option.some.inj this).symm
   have e2:ws.toArray[j]=v':=by
    have:ws[j]?=some ws.toArray[j]:=by rw[getElem?_eq_getElem (by simpa using h2)];simp
    rw[hv1]at this;exact(Option.some.inj this).symm
   rw[e1,e2,getD_eq_getElem?_getD,getD_eq_getElem?_getD,getElem?_eq_getElem h1',getElem?_eq_getElem h2'];have f1:=fx _ (getElem_mem h1');have f2:=fy _ (getElem_mem h2');show EqAt _ _ _ _ (decide (xs[j]=ys[j]));rw[←sR f1 f2];exact kr hu2 hv2 (jg f1) (jg f2)
  ·have e:((List.range (min us.toArray.size ws.toArray.size)).all (λi=>decide (xs.getD i .non=ys.getD i .non))&&us.toArray.size==ws.toArray.size)=decide (some xs=some ys):=by
    simp only[size_toArray,←l1,←l2]
    by_cases hl:xs.length=ys.length
    ·rw[←hl,Nat.min_self,xg hl];simp
    ·have:(xs.length==ys.length)=false:=by simpa using hl
     rw[this,Bool.and_false];refine(decide_eq_false ?_).symm;intro e;injection e with e
     exact hl (by rw[e])
   rw[e];exact q
end
end L2
namespace TW
section
variable{S:Type}
end
end TW
namespace TW
section
variable{S:Type}
end
end TW
namespace L2
open PySem PySem.Spec PyProof.Rows
end L2
namespace TK
open PySem L2
instance decNd:DecidableEq (TW.Nd Str):=λa b=>Classical.propDecidable _
end TK
namespace L2
open PySem PySem.Spec PyProof.Rows
section
variable{X:Cx}
theorem jh(hu:X.A.units<cLine):OpR X (compareOp .NotEq) (λx y H Q=>∃a b xs,x=.ref a∧y=.ref b∧SqL X.K H a xs∧SqL X.K H b []∧Q (.bl (!decide (xs=[]))) H):=by
 intro pins s σ H x y v u Q I rx ry h;obtain⟨a,b,xs,rfl,rfl,ha,hb,q⟩:=h;cases rx;cases ry;obtain⟨its,r1,ht,_⟩:=I.list ha;obtain⟨its2,r2,hb',_⟩:=I.list hb;cases r2
 by_cases e:xs=[]
 ·subst e;cases r1;refine RcNeAt.lists (e:=λ_=>true) ht.isList hb'.isList rfl hu (λj h1 h2=>absurd h2 (by simp)) _ _ _ _ ⟨.bl _,H,I,?_,q⟩;rfl
 ·have e2:its≠[]:=λz=>e (r1.nil_iff.mp z);have e3:its.length≠0:=λz=>e2 (List.length_eq_zero_iff.mp z);refine RcNeAt.lists_lengths ht.isList hb'.isList (by simp[e3]) hu _ _ _ _ ⟨.bl _,H,I,?_,q⟩;show _=Value.bool _;simp[e]
end
end L2
namespace TW
section
variable{S:Type}
end
end TW
namespace L2
open PySem PySem.Spec PyProof.Rows
end L2
namespace TK
open PySem L2
theorem uQ(o:Option Int):cy (stV o)=true:=by cases o<;>rfl
theorem oz(H:Hp)(n:Nd)(k:Nat):∀(i:Nat) x y,(vals n)[i]?=some x→(vals n)[i]?=some y→mJ H k x y:=λi x y h1 h2=>by
 have e:x=y:=Option.some.inj (h1.symm.trans h2);subst e;refine fH ⟨rfl,?_⟩
 match i,h1 with
 |0,h=>cases h;rfl
 |1,h=>cases h;rfl
 |2,h=>cases h;rfl
 |3,h=>cases h;exact uQ _
 |i+4,h=>simp[vals]at h
theorem nq{H:Hp}{us ws:ZN}(h:nds us=nds ws)(hu:At H us)(hw:At H ws):dA H (aq us) (aq ws):=by
 refine⟨by rw[aE,aE,←aR us,←aR ws,h],λi x y hx hy=>?_⟩;obtain⟨a,ga,rfl⟩:=br hx;obtain⟨b,gb,rfl⟩:=br hy;have e:a.2=b.2:=by
  have h1:(nds us)[i]?=some a.2:=by unfold nds;rw[getElem?_map,ga];rfl
  have h2:(nds ws)[i]?=some b.2:=by unfold nds;rw[getElem?_map,gb];rfl
  rw[h,h2]at h1;exact(Option.some.inj h1).symm
 refine .inr ⟨a.1,b.1,_,_,rfl,rfl,hu a (mem_of_getElem? ga),hw b (mem_of_getElem? gb),rfl,?_⟩;rw[e];exact oz H b.2 2
end TK
namespace L2
open PySem PySem.Spec PyProof.Rows
section
variable{X:Cx}
abbrev Cx.within(X:Cx)(pl:List (Addr×Obj))(xe:Value→Shared→Prop):Cx:={X with pn:=pl,xe:=xe}
theorem Cx.Ok.within(ok:X.Ok)(pl:List (Addr×Obj))(xe:Value→Shared→Prop):(X.within pl xe).Ok:=⟨ok.mod,ok.kind,ok.glob,ok.blt,ok.above,ok.inj,ok.has,ok.cab,ok.hd,ok.frames,ok.stk,ok.exf,ok.bs,ok.bsz,ok.noex,ok.exfs,ok.funs,ok.frf⟩
theorem Cx.Ok.without{pl:List (Addr×Obj)}{xe:Value→Shared→Prop}(ok:(X.within pl xe).Ok):X.Ok:=⟨ok.mod,ok.kind,ok.glob,ok.blt,ok.above,ok.inj,ok.has,ok.cab,ok.hd,ok.frames,ok.stk,ok.exf,ok.bs,ok.bsz,ok.noex,ok.exfs,ok.funs,ok.frf⟩
theorem Inv.within{pins:List (Addr×Obj)}{σ:St}{H:Hp}{s:Shared}(I:Inv X pins σ H s)(xe:Value→Shared→Prop):Inv (X.within (X.pn++pins) xe) [] σ H s :=
 ⟨I.ok.within _ _,I.os,I.bare,I.base,I.loc,I.cell,I.free,I.freeC,λp hp=>I.pin p (by simpa using hp),I.hok,I.len⟩
theorem Inv.without{pins pins':List (Addr×Obj)}{σ:St}{H:Hp}{s:Shared}{xe:Value→Shared→Prop}(I:Inv (X.within (X.pn++pins) xe) pins' σ H s):Inv X pins σ H s :=
 ⟨I.ok.without,I.os,I.bare,I.base,I.loc,I.cell,I.free,I.freeC,λp hp=>I.pin p (mem_append_left _ hp),I.hok,I.len⟩
end
end L2
namespace TW
section
variable{S:Type}
theorem Und.trans{t:List (Nd S)}{a b c:Int}(h1:Und t a b)(h2:Und t b c):Und t a c:=by
 induction h2 with
 |here=>exact h1
 |up hm _ ih=>exact .up hm ih
theorem sS{t:List (Nd S)}(T:Tree1 t){z:Nd S}(hz:z∈t){k:Int}:Und t k z.num↔k=z.num∨Und t k z.par:=by
 constructor
 ·intro h
  by_cases e:z.num=k
  ·exact .inl e.symm
  ·exact .inr (h.inv T hz rfl e)
 ·rintro(rfl|h)
  ·exact .here
  ·exact .up hz h
theorem xi{t:List (Nd S)}(T:Tree1 t){z:Nd S}(hz:z∈t):¬Und t z.num z.par:=λh=>by
 rcases hJ T hz with h0|⟨m,hm,hs,e⟩
 ·have:=h.zero T h0;have:=T.pos z hz;omega
 ·rw[←e]at h
  by_cases en:m.num=z.num
  ·have:m=z:=T.inj hm hz en;subst this;exact eJ T (.base hm e.symm) rfl
  ·have r:=(cT T (T.pos z hz) hm).mpr ⟨en,h⟩;have:Reach t z.num z:=.step r hs hz e.symm;exact eJ T this rfl
def xj(t u:List (Nd S))(k:Int):Prop:=k≠0∧∃m∈t,bu u m.num∧Und t k m.num
def db(t u:List (Nd S))(x:Nd S):Prop:=¬xj t u x.num∧(x.par=0∨bu u x.par)
inductive Plc(t:List (Nd S))(n:Nd S):Option (Deed S)→Prop where
 |new:¬bu t n.num→Plc t n (some (.make n.num n.par n.nm n.st))
 |mv {m:Nd S}:m∈t→m.num=n.num→¬(m.par=n.par∧m.nm=n.nm)→Plc t n (some (.move n.num n.par n.nm))
 |no {m:Nd S}:m∈t→m.num=n.num→m.par=n.par→m.nm=n.nm→Plc t n none
theorem Plc.one{t:List (Nd S)}(T:Tree1 t){n:Nd S}{a b:Option (Deed S)}(h:Plc t n a)(h':Plc t n b):a=b:=by
 cases h with
 |new h1=>cases h' with
  |new=>rfl
  |mv hm e _=>exact absurd ⟨_,hm,e⟩ h1
  |no hm e _ _=>exact absurd ⟨_,hm,e⟩ h1
 |mv hm e hn=>cases h' with
  |new h1=>exact absurd ⟨_,hm,e⟩ h1
  |mv=>rfl
  |no hm' e' h1 h2 =>
   have:=T.inj hm hm' (e.trans e'.symm);subst this;exact absurd ⟨h1,h2⟩ hn
 |no hm e h1 h2=>cases h' with
  |new h3=>exact absurd ⟨_,hm,e⟩ h3
  |mv hm' e' hn =>
   have:=T.inj hm hm' (e.trans e'.symm);subst this;exact absurd ⟨h1,h2⟩ hn
  |no=>rfl
inductive Plcs(t:List (Nd S)):List (Nd S)→List (Deed S)→Prop where
 |nil:Plcs t [] []
 |skip {n:Nd S} {u:List (Nd S)} {ds:List (Deed S)}:Plcs t u ds→Plc t n none→Plcs t (u++[n]) ds
 |take {n:Nd S} {u:List (Nd S)} {ds:List (Deed S)} {d:Deed S}:Plcs t u ds→Plc t n (some d)→Plcs t (u++[n]) (ds++[d])
end
end TW
namespace TK
open PySem L2
def eP(ms:List Int):List (Key×V):=ms.map λm=>((Sum.inl m:Key),V.bl true)
theorem ji{ms:List Int}{k:Int}:(aT (eP ms) (Sum.inl k:Key)).isSome=decide (k∈ms):=by
 by_cases h:k∈ms
 ·rw[decide_eq_true h,←ca];rw[any_eq_true];exact⟨_,mem_map.mpr ⟨k,h,rfl⟩,by simp⟩
 ·rw[decide_eq_false h,pH (by
   unfold eP;rw[map_map];intro hm;obtain⟨x,hx,e⟩:=mem_map.mp hm;have:x=k:=by injection e
   exact h (this ▸ hx))]
  rfl
theorem sT{ms:List Int}{k:Int}(h:k∉ms):ce (eP ms) (Sum.inl k:Key) (V.bl true)=eP (ms++[k]):=by
 have hn:aT (eP ms) (Sum.inl k:Key)=none:=by
  have:=ji (ms:=ms) (k:=k);rw[decide_eq_false h]at this;cases hv:aT (eP ms) (Sum.inl k:Key)with
  |none=>rfl
  |some x=>rw[hv]at this;cases this
 rw[rp _ hn];unfold eP;rw[map_append];rfl
def inU(us:ZN)(k:Int):Bool:=us.any λy=>decide (y.2.num=k)
theorem cw{us:ZN}{k:Int}:inU us k=true↔TW.bu (nds us) k:=by
 unfold inU;rw[any_eq_true];constructor
 ·rintro⟨y,hy,e⟩;exact⟨y.2,aH hy,of_decide_eq_true e⟩
 ·rintro⟨m,hm,e⟩;obtain⟨y,hy,rfl⟩:=cj hm;exact⟨y,hy,decide_eq_true e⟩
theorem fU.is{H:Hp}{d:Addr}{us:ZN}(h:fU H d us)(hn:((nds us).map (·.num)).Nodup)(k:Int):∃o,eB H d (.int k) o∧o.isSome=inU us k:=by
 cases hb:inU us k with
 |true =>
  obtain⟨m,hm,e⟩:=cw.mp hb;obtain⟨y,hy,rfl⟩:=cj hm;subst e;exact⟨_,h.get hn hy,rfl⟩
 |false =>
  refine⟨none,h.not λy hy e=>?_,rfl⟩;have:inU us k=true:=cw.mpr ⟨y.2,aH hy,e⟩;rw[hb]at this;cases this
section
variable{P:Program}{w:World}{K:PySem.W.Frag}{mg:Str→Option Value}{base:Heap}
def sU:Sp:=λvs H Q _=>∃t d zs us,vs=[.ref t,.ref d]∧Tre H t zs∧fU H d us∧((nds us).map (·.num)).Nodup∧∀e ks H',ak H H'→H' e=some (.dK (eP ks))→(∀k,k∈ks↔TW.xj (nds zs) (nds us) k)→Q (.ref e) H'
theorem jW:FnScope ["now","goal","nodes","needed","staying","at"] ["now","goal"] (ai ck):=fsc
def dC(zs us:ZN):List Int:=(zs.filter λz=>inU us z.2.num).map (·.2.num)
theorem xk{f:Addr}{fd:FuncData}(F:Fun K "nodes_needed" "nodes_needed" ck f fd)(T:Txt mg)(CB:Has P w K mg base 1 "by_number" ["tree"] dU):FnOk P w K mg base CX0 2 f fd ["now","goal"] sU:=by
 obtain⟨fB,fdB,GB,mB,kB,bB⟩:=CB;obtain⟨tt,hT⟩:=T.top;refine F.ok jW (λvs H Q E h=>?_) (λcdv A outer s H vs Q E hr h=>?_)
 ·obtain⟨t,d,zs,us,rfl,_⟩:=h;rfl
 ·obtain⟨t,d,zs,us,rfl,tr,hd,hun,q⟩:=h;have hl:=tr.len;have hnd:=ci tr.tr;refine⟨_,ag (au (i:=2) jW.nd rfl (Or.inl rfl) (am GB hr rfl mB kB bB .nil aP (aa (pv 0) ae)))
   (ag (au (i:=3) jW.nd rfl (Or.inl rfl) lN)
   (ag (cD PassesOwn.never rfl (cI (iP (N:=["number","goal"]) (cl:=[("goal",s.heap.objs.size+1)]) (k:=1) (js:=[1]) (g:=aY 0) rfl
     (LcOk.mk' ["goal"] rfl rfl (by decide +kernel) (by decide +kernel) ?hcl rfl (by decide +kernel)) rfl ?hj (yk (pv 2)) (λs H fp=>aF (i:=0) (show(["number","goal"]:List Str).Nodup by decide +kernel) rfl (Or.inl rfl) (Or.inr rfl))
     (λs H fp=>cU (iM (cc hr) (pv 0) (pv 1))) (λs H fp=>pv 0))) (aF (i:=4) jW.nd rfl (Or.inl rfl))
    (ag (au (i:=5) jW.nd rfl (Or.inl rfl) (pv 4))
    (aj (dZ PassesOwn.never (PW.pt (pw_and (aw ib (pv 5) (bQ (v:=.int 0) rfl hT ⟨_,rfl⟩) (aC _)) (pw_and1 (cU (cQ (cc hr) (pv 5) (pv 3))))))
     (ag (oY (cc hr) (pv 3) (pv 5) cF rfl)
     (aj (au (i:=5) jW.nd rfl (Or.inl rfl) (ar ap (eR (cc hr) (pv 2) (pv 5) (λ_ _=>rfl)) ah (λ_ _=>rfl)))))))))
   (aj (av (pv 3))))),?_⟩
  case hcl =>
   intro y hy;rcases mem_cons.mp hy with e|hy
   ·rw[e];rfl
   ·cases hy
  case hj =>
   intro i j x h1 h2
   match i,h1,h2 with
   |0,h1,h2 =>
    cases h1;cases h2;exact⟨rfl,Or.inr (Or.inl rfl),(show((ai ck).names.lookup ("goal":Str)≠some NameKind.local)by decide +kernel),by first|exact Or.inl rfl|exact Or.inr rfl⟩
   |i+1,h1,h2=>simp at h1
  refine⟨_,rfl,t,zs,rfl,tr.tup,tr.nod,by omega,hnd,λn H1 s1 nd1=>?_⟩;refine λe he=>?_;have s2:=af (o:=.dK []) he;have ge:upd H1 e (.dK []) e=some (.dK (eP [])):=ac;have nd2:=nd1.same s2;generalize upd H1 e (.dK [])=H2 at s2 ge nd2⊢;obtain⟨o,ho⟩:=nd2;have hd2:=(hd.same s1).same s2;have tr2:=(tr.same s1).same s2;refine⟨_,rfl,n,o,cE zs,rfl,ho,λp hp=>?_⟩;refine ja (fr:=[some (.ref d)]) zs (λz=>V.int z.2.num) (by omega) hp (Eq.mp (congrArg (Src _ H2) (show(cE zs).map (λx=>kV x.1)=zs.map (λz=>V.int z.2.num)by unfold cE;rw[map_map];rfl)) (sq ho)) rfl (λz=>inU us z.2.num) (λz y _=>y=.int z.2.num) (λ_ _ _ _ h _=>h) (λz H' k mz s3 _ hk=>?_) (λz H' k mz _ s3 _ hk=>?_) (λys H3 s3 hp3 hys=>?_)
  ·obtain⟨ov,g,e1⟩:=(hd2.same s3).is hun z.2.num;refine⟨_,rfl,_,rfl,d,_,rfl,g,_,rfl,?_⟩;rw[e1];exact hk H' (ak.refl _)
  ·exact⟨_,rfl,hk _ H' (ak.refl _) rfl⟩
  ·have ey:ys=(dC zs us).map V.int:=by
    rw[cu (f:=λz:Addr×Nd=>V.int z.2.num) hys (λz y _ h=>h)];unfold dC;rw[map_map];rfl
   subst ey;have keep0:∀b u,b≠e→H2 b=some u→H3 b=some u:=λb u _ h=>s3 _ _ h;have nen:n≠e:=λz=>by rw[z,ge]at ho;cases ho
   have sin:∀m,m∈dC zs us→∃z∈zs,z.2.num=m∧TW.bu (nds us) m:=λm hm=>by
    unfold dC at hm;obtain⟨z,hz,e1⟩:=mem_map.mp hm;obtain⟨h1,h2⟩:=mem_filter.mp hz;exact⟨z,h1,e1,e1 ▸ cw.mp h2⟩
   refine⟨p,rfl,⟨_,SqL.of hp3⟩,du (xs:=(dC zs us).map V.int) (λi σ H'=>∃x4 x5,∃ks:List Int,σ=[some (.ref t),some (.ref d),some (.ref n),some (.ref e),x4,x5]∧H' e=some (.dK (eP ks))∧ks.Nodup∧(∀k∈ks,k∈zs.map (·.2.num))∧(∀k,k∈ks↔k≠0∧∃x∈(dC zs us).take i,TW.Und (nds zs) k x)∧∀b u,b≠e→H3 b=some u→H' b=some u)
    ⟨_,_,[],rfl,s3 _ _ ge,nodup_nil,(λk h=>nomatch h),λk=>by simp,λ_ _ _ h=>h⟩ (λi σ H' _ h=>?_) (λi x σ H' hx h=>?_) (λσ H' h=>?_)⟩
   ·obtain⟨x4,x5,ks,rfl,_,_,_,_,kp⟩:=h;exact SqL.of (kp _ _ (λz=>by rw[z]at hp;rw[ge]at hp;cases hp) hp3)
   ·obtain⟨x4,x5,ks,rfl,hks,knd,ksub,kiff,kp⟩:=h;rw[getElem?_map]at hx;obtain⟨m,hm,rfl⟩:∃m,(dC zs us)[i]?=some m∧x=V.int m:=by
     cases hg:(dC zs us)[i]? with
     |none=>rw[hg]at hx;cases hx
     |some m=>rw[hg]at hx;exact⟨m,rfl,(Option.some.inj hx).symm⟩
    obtain⟨z0,mz0,ez0,_⟩:=sin m (mem_of_getElem? hm);have et:(dC zs us).take (i+1)=(dC zs us).take i++[m]:=bh hm;have Tz:=tr.tr;obtain⟨q0,hq0⟩:=TW.PathTo.ex Tz (aH mz0);rw[ez0]at hq0;refine⟨_,rfl,?_⟩;dsimp only[aY,lD];refine gp (λσ H'=>∃at' q',∃ks:List Int,σ=[some (.ref t),some (.ref d),some (.ref n),some (.ref e),some (.int m),some (.int at')]∧TW.PathTo (nds zs) at' q'∧TW.Und (nds zs) at' m∧H' e=some (.dK (eP ks))∧ks.Nodup∧(∀k∈ks,k∈zs.map (·.2.num))∧(∀k,k∈ks↔k≠0∧((∃x∈(dC zs us).take i,TW.Und (nds zs) k x)∨(TW.Und (nds zs) k m∧¬TW.Und (nds zs) k at')))∧∀b u,b≠e→H3 b=some u→H' b=some u)
     (λσ H'=>match σ with | [_,_,_,_,_,some (.int k)]=>sC (nds zs) k | _=>0) ⟨m,q0,ks,rfl,hq0,.here,hks,knd,ksub,λk=>?_,kp⟩ (λσ H' h=>?_) ?_
    ·rw[kiff];constructor
     ·rintro⟨h1,h2⟩;exact⟨h1,.inl h2⟩
     ·rintro⟨h1,h2|⟨h2,h3⟩⟩
      ·exact⟨h1,h2⟩
      ·exact absurd h2 h3
    ·obtain⟨at',q',ks,rfl,hq',hu,hks,knd,ksub,kiff,kp⟩:=h;have fin:(∀k,k≠0→TW.Und (nds zs) k at'→k∈ks)→∃x4 x5,∃ks':List Int,[some (V.ref t),some (.ref d),some (.ref n),some (.ref e),some (.int m),some (.int at')]=[some (.ref t),some (.ref d),some (.ref n),some (.ref e),x4,x5]∧H' e=some (.dK (eP ks'))∧ks'.Nodup∧(∀k∈ks',k∈zs.map (·.2.num))∧(∀k,k∈ks'↔k≠0∧∃x∈(dC zs us).take (i+1),TW.Und (nds zs) k x)∧∀b u,b≠e→H3 b=some u→H' b=some u:=λhall=>by
      refine⟨_,_,ks,rfl,hks,knd,ksub,λk=>?_,kp⟩;rw[kiff,et];constructor
      ·rintro⟨h1,⟨x,hx,hxu⟩|⟨h2,_⟩⟩
       ·exact⟨h1,x,mem_append_left _ hx,hxu⟩
       ·exact⟨h1,m,mem_append_right _ (mem_singleton.mpr rfl),h2⟩
      ·rintro⟨h1,x,hx,hxu⟩;rcases mem_append.mp hx with hx|hx
       ·exact⟨h1,.inl ⟨x,hx,hxu⟩⟩
       ·have ex:x=m:=mem_singleton.mp hx;subst ex
        by_cases hk:TW.Und (nds zs) k at'
        ·exact(kiff k).mp (hall k h1 hk)
        ·exact⟨h1,.inr ⟨hxu,hk⟩⟩
     refine⟨_,rfl,rfl,_,rfl,?_⟩
     by_cases h0:at'=0
     ·have hne:decide (V.int at'=V.int 0)=true:=by simp[h0]
      rw[hne];exact aD (aD (fin λk hk h=>absurd (h.zero Tz h0) hk))
     ·have hne:decide (V.int at'=V.int 0)=false:=by simp[h0]
      rw[hne];refine aA ⟨_,rfl,_,rfl,e,_,rfl,eB.k (k:=Sum.inl at') hks,_,rfl,?_⟩;rw[ji]
      by_cases hin:at'∈ks
      ·rw[decide_eq_true hin];refine aD (fin λk hk h=>(kiff k).mpr ⟨hk,?_⟩);rcases ((kiff at').mp hin).2 with⟨x,hx,hxu⟩|⟨_,h2⟩
       ·exact .inl ⟨x,hx,h.trans hxu⟩
       ·exact absurd TW.Und.here h2
      ·rw[decide_eq_false hin];refine aA ?_;obtain⟨z,hz,e1,q'',e2,hq''⟩:=uH Tz hq' h0;subst e1;have klen:ks.length≤30:=by
        have h1:=Nodup.length_le_of_subset knd (l₂:=zs.map (·.2.num)) (λx hx=>ksub x hx);rw[length_map]at h1;omega
       refine⟨_,rfl,_,rfl,e,_,rfl,qk.k (k:=Sum.inl z.2.num) hks (ax (by unfold eP;rw[length_map];omega)),?_⟩;rw[sT hin];have kp':∀b u,b≠e→H3 b=some u→upd H' e (.dK (eP (ks++[z.2.num]))) b=some u:=λb u hb h=>by rw[al hb];exact kp b u hb h
       have ho':=kp' _ _ nen (s3 _ _ ho);have hz3:=kp' _ _ (λz'=>by have:=tr2.nod z hz;rw[z',ge]at this;cases this) (s3 _ _ (tr2.nod z hz));have ge':upd H' e (.dK (eP (ks++[z.2.num]))) e=some (.dK (eP (ks++[z.2.num]))):=ac;generalize upd H' e (.dK (eP (ks++[z.2.num])))=H4 at kp' ho' hz3 ge'⊢;refine⟨_,rfl,_,rfl,n,_,rfl,fU.get ⟨o,ho'⟩ hnd hz,z.1,_,_,_,rfl,rfl,SqT.of hz3,at1 z.2,?_⟩;have mz:=aH hz;refine⟨⟨z.2.par,q'',ks++[z.2.num],rfl,hq'',(TW.Und.up mz .here).trans hu,ge',?_,λk hk=>?_,λk=>?_,kp'⟩,?_⟩
       ·rw[nodup_append];exact⟨knd,by simp,λa ha b hb e'=>hin (by rw[←show b=z.2.num by simpa using hb,←e'];exact ha)⟩
       ·rcases mem_append.mp hk with hk|hk
        ·exact ksub k hk
        ·have:k=z.2.num:=mem_singleton.mp hk;rw[this];exact mem_map.mpr ⟨z,hz,rfl⟩
       ·rw[mem_append,kiff,mem_singleton];constructor
        ·rintro(⟨h1,h2|⟨h2,h3⟩⟩|rfl)
         ·exact⟨h1,.inl h2⟩
         ·exact⟨h1,.inr ⟨h2,λh=>h3 (.up mz h)⟩⟩
         ·exact⟨h0,.inr ⟨hu,TW.xi Tz mz⟩⟩
        ·rintro⟨h1,h2|⟨h2,h3⟩⟩
         ·exact .inl ⟨h1,.inl h2⟩
         ·by_cases hk:k=z.2.num
          ·exact .inr hk
          ·refine .inl ⟨h1,.inr ⟨h2,λh=>?_⟩⟩;rcases (TW.sS Tz mz).mp h with h|h
           ·exact hk h
           ·exact h3 h
       ·show sC (nds zs) z.2.par<sC (nds zs) z.2.num;rw[pI Tz hq'',pI Tz hq',e2];simp
    ·rintro σ H1 Q1 Q2 mm ⟨v,e,h2,b,e3,q⟩;refine⟨v,e,h2,b,e3,?_⟩;cases b with
     |false=>exact mm _ _ q
     |true =>
      obtain⟨v1,f1,v2,f2,a',o',e4,g',b',e5,q'⟩:=q;exact⟨v1,f1,v2,f2,a',o',e4,g',b',e5,mm _ _ q'⟩
   ·obtain⟨x4,x5,ks,rfl,hks,_,_,kiff,kp⟩:=h;refine⟨_,rfl,q e ks _ (λb u h=>?_) hks λk=>?_⟩
    ·have h2:=s2 _ _ (s1 _ _ h)
     by_cases hb:b=e
     ·have hn:=s1 _ _ h;rw[hb,he]at hn;cases hn
     ·exact kp _ _ hb (s3 _ _ h2)
    ·rw[kiff,length_map,take_length];constructor
     ·rintro⟨h1,x,hx,hxu⟩;obtain⟨z,hz,e1,hun'⟩:=sin x hx;exact⟨h1,z.2,aH hz,by rw[e1];exact hun',by rw[e1];exact hxu⟩
     ·rintro⟨h1,m,hm,hmu,hu⟩;obtain⟨z,hz,rfl⟩:=cj hm;refine⟨h1,z.2.num,?_,hu⟩;unfold dC;exact mem_map.mpr ⟨z,mem_filter.mpr ⟨hz,cw.mpr hmu⟩,rfl⟩
end
end TK
namespace L2
open PySem PySem.Spec PyProof.Rows
section
variable{X:Cx}{CX:CXT}{k:Nat}{f C:Addr}{fd:FuncData}{ps:List Str}{sp:Sp}{dvs:List V}{ds:List Value}{E:XK}{x m:Str}{p pos apos:Pos}{e o:Expr}{es:List Expr}{ta:TE}{t:TA}
abbrev Cx.hnd(X:Cx)(pl:List (Addr×Obj))(v:Option Value):Cx:={X with pn:=pl,xe:=λ_ _=>False,A:=X.A.mark v,calm:=false}
theorem Inv.hnd{pins:List (Addr×Obj)}{σ:St}{H:Hp}{s:Shared}{v:Option Value}(I:Inv X pins σ H s):Inv (X.hnd (X.pn++pins) v) [] σ H s :=
 ⟨⟨I.ok.mod,I.ok.kind,I.ok.glob,I.ok.blt,I.ok.above,I.ok.inj,I.ok.has,I.ok.cab,λh=>absurd (show false=true from h) (by decide),I.ok.frames,I.ok.stk,I.ok.exf,I.ok.bs,I.ok.bsz,I.ok.noex,I.ok.exfs,I.ok.funs,I.ok.frf⟩,I.os,I.bare,I.base,I.loc,I.cell,I.free,I.freeC,λp hp=>I.pin p (by simpa using hp),I.hok,I.len⟩
theorem Inv.unhnd{pins pins':List (Addr×Obj)}{σ σ0:St}{H H0:Hp}{s s0:Shared}{v:Option Value}(I:Inv (X.hnd (X.pn++pins) v) pins' σ H s)(I0:Inv X pins σ0 H0 s0):Inv X pins σ H s :=
 ⟨I0.ok,I.os,I.bare,I.base,I.loc,I.cell,I.free,I.freeC,λp hp=>I.pin p (mem_append_left _ hp),I.hok,I.len⟩
def vD(D:Ends)(n:Nat)(T:Addr)(K:PySem.W.Frag)(th:TS):XK:=λcl _ H'=>∃C,cl=.ref C∧subIn K (.ref C) (.ref T)=some true∧∀ea (σ':St),σ'.length=n→H' ea=none→th D σ' (upd H' ea (.ext (XI.vA ea C)))
def yt(n:Nat)(T:Addr)(K:PySem.W.Frag)(tb:XK→TS)(th:TS):TS:=λD σ H=>tb (vD D n T K th) D σ H
theorem uR(Y:TryOk X){x:Str}{T:Addr}{body:List Stmt}{b0:Stmt}{body2:List Stmt}{tb:XK→TS}{th:TS}{px p3 p4:Pos}(he:∀pl xe E,gU (CX1 X.prog X.w) (X.within pl xe) E→PassesOwn (model X.prog X.w) X.A X.env xe→PSs (X.within pl xe) body (tb E))(hb:∀pl v,PSs (X.hnd pl v) (b0::body2) th)(hg:Gl X x)(hm:X.mg x=some (.ref T))(hT:ktsIn X.K T "BaseException"=true)(hdx:(x==("__debug__":Str))=false:=by decide):
  PS X (.Try body [.ExceptHandler (some (.Name x px)) none (b0::body2) p3] [] [] p4) (yt X.N.length T X.K tb th):=by
 intro pins s σ H D I h;refine wpAny_Try_except ?_;refine wpAny_mono (he (X.pn++pins) _ (vD D X.N.length T X.K th) ?hp PassesOwn.looking [] s σ H D (I.within _) h) (λf s1 q=>?_) (λev s1 hx=>hx)
 ·intro pins' σ H1 s0 ev s1 I0 hx;obtain⟨ea,C,H',rfl,F,⟨C',eC,hsub,hk⟩⟩:=hx;cases eC;have I1:Inv X pins σ H1 s0:=I0.without;have hk:=hk ea σ I1.len F.new;obtain⟨B,a0,fl,hB,kp,th⟩:=id F.fly;have frm:X.A.frames=some (X.env::X.outer):=by rw[I1.ok.frames,Y.stk]
  have fl':=fl;rw[show(X.within _ _).stack=X.stack from rfl,Y.stk]at fl';refine wpAny_looks_onW frm Y.fr fl' λh4 held4 hs4=>?_;refine wpAny_landsW held4 λh5 fl5 hs5=>?_;have sm5:s1.heap.UpToSlots h5:=hs4.trans hs5;have fl5':FlyingW B X.stack ea (.ref C) a0 h5:=by rw[Y.stk];exact fl5
  have J5:=I1.caught F fl hB kp th fl5' sm5;obtain⟨ob,hob,hobc⟩:=fl5.there;obtain⟨nm,q',N,bs,bm,hdct,sn,sub,ab,col,dd,k0,k1,k2,k3,k5,newId,hTo,hbase,_⟩:=PySem.W.kts_cls J5.kIn hT;obtain⟨hp1,g1,d1,t1,os1⟩:=s1;refine wpAny_handleBy_cons (codeAny_handlers_test ?_) (by intro q;cases q);refine Calls.Name_function_global J5.ok.kind hg (Calls.loadGlobal_global (by rw[J5.ok.glob];exact J5.mod.glob.keeps J5.bk) hm ?_) hdx;refine uz hTo hbase (PySem.W.looks_subIn J5.kIn hsub) hob hobc ?_;refine codeAny_handlers_suite ?_;refine lands_againW (s:=⟨h5,g1,d1,t1,os1⟩) fl5 λh6 fl6 hs6=>?_;have fl6':FlyingW B X.stack ea (.ref C) a0 h6:=by rw[Y.stk];exact fl6
  have J6:=I1.caught F fl hB kp th fl6' (sm5.trans hs6);refine wpAny_mono (hb (X.pn++pins) _ [] _ _ _ _ J6.hnd hk) (λf s3 q=>?_) (λ_ _ z=>z.elim);cases f with
  |next=>obtain⟨σ',H8,I8,q'⟩:=q;exact⟨_,_,I8.unhnd J6,q'⟩
  |brk=>obtain⟨σ',H8,I8,q'⟩:=q;exact⟨_,_,I8.unhnd J6,q'⟩
  |cont=>obtain⟨σ',H8,I8,q'⟩:=q;exact⟨_,_,I8.unhnd J6,q'⟩
  |ret v=>obtain⟨x',σ',H8,I8,r',q'⟩:=q;exact⟨x',_,_,I8.unhnd J6,r',q'⟩
 ·cases f with
  |next=>obtain⟨σ',H',I',q'⟩:=q;exact wpAny_execs_nil ⟨σ',H',I'.without,q'⟩
  |brk=>obtain⟨σ',H',I',q'⟩:=q;exact⟨σ',H',I'.without,q'⟩
  |cont=>obtain⟨σ',H',I',q'⟩:=q;exact⟨σ',H',I'.without,q'⟩
  |ret v=>obtain⟨x',σ',H',I',r',q'⟩:=q;exact⟨x',σ',H',I'.without,r',q'⟩
end
end L2
namespace TK
open PySem L2
def ig(t u:List Nd):Prop:=∀m∈t,∀n∈u,m.num=n.num→(m.st=none↔n.st=none)
def lg{α:Type}(l:List α)(p:α→Prop)(x:α):Prop:=∃a b,l=a++x::b∧(∀y∈a,¬p y)∧p x
theorem sV(o:Option Int):decide (stV o=V.non)=decide (o=none):=by cases o<;>simp[stV]
section
variable{P:Program}{w:World}{K:PySem.W.Frag}{mg:Str→Option Value}{base:Heap}
def sW(CN:Addr):Sp:=λvs H Q E=>∃t u zs us,vs=[.ref t,.ref u]∧Tre H t zs∧Tre H u us∧(∀z∈zs,-1≤z.2.num∧z.2.num≤99)∧(ig (nds zs) (nds us)→∀H',ak H H'→Q .non H')∧(¬ig (nds zs) (nds us)→∀H',ak H H'→E (.ref CN) none H')
theorem pP:FnScope ["old","new","goal","node","number"] ["old","new"] (ai dm):=fsc
theorem xm{f CN:Addr}{fd:FuncData}(F:Fun K "check_kinds" "check_kinds" dm f fd)(O:mZ "NoMatch" mg base CN)(CB:Has P w K mg base 1 "by_number" ["tree"] dU):FnOk P w K mg base (CX1 P w) 2 f fd ["old","new"] (sW CN):=by
 obtain⟨fB,fdB,GB,mB,kB,bB⟩:=CB;refine F.okX pP (λvs H Q E h=>?_) (λcdv A outer s H vs Q E hr h=>?_)
 ·obtain⟨t,u,zs,us,rfl,_⟩:=h;rfl
 ·obtain⟨t,u,zs,us,rfl,tr,ur,hb,qo,qE⟩:=h;have ul:=ur.len;have und:=ci ur.tr;refine⟨_,ag (au (i:=2) pP.nd rfl (Or.inl rfl) (am GB hr rfl mB kB bB .nil aP (aa (pv 1) ae)))
   (aj (cD (wL bp) rfl (cq (pv 0)) (aF (i:=3) pP.nd rfl (Or.inl rfl))
    (ag (au (i:=4) pP.nd rfl (Or.inl rfl) (ar ap (pv 3) ah (λ_ _=>rfl)))
    (aj (bj (PW.pt (pw_and (cU (iM (cc hr) (pv 4) (pv 2))) (pw_and1 (aw ib (dg iE (ar ap (pv 3) ah (λ_ _=>rfl)) cp (aC _)) (dg iE (ar ap (eR (cc hr) (pv 2) (pv 4) (λ_ _=>rfl)) ah (λ_ _=>rfl)) cp (aC _)) (aC _)))))
     (aj (cX bp O hr.hd rfl (dJ (cr (c:=100) (by decide +kernel) (uK (pv 4) (cr (c:=100) (by decide +kernel) fQ))) (by decide)))) aJ))))),?_⟩
  refine⟨_,rfl,u,us,rfl,ur.tup,ur.nod,by omega,und,λd H1 s1 nd1=>?_⟩;have tr1:=tr.same s1;have ur1:=ur.same s1;refine⟨_,rfl,t,rfl,⟨_,SqT.of tr1.tup⟩,gn (xs:=aq zs) (λi σ H'=>(∃x3 x4,σ=[some (.ref t),some (.ref u),some (.ref d),x3,x4])∧H'=H1∧∀z∈zs.take i,∀n∈nds us,z.2.num=n.num→(z.2.st=none↔n.st=none)) ⟨⟨_,_,rfl⟩,rfl,by simp⟩ (λi σ H' _ h=>by rw[h.2.1];exact SqT.of tr1.tup) (λi x σ H' hx h=>?_) (λσ H' h=>?_)⟩
  ·obtain⟨⟨x3,x4,rfl⟩,rfl,hi⟩:=h;obtain⟨z,gz,rfl⟩:=br hx;have mz:=mem_of_getElem? gz;have az:SqT K H' z.1 (vals z.2):=SqT.of (tr1.nod z mz);have et:zs.take (i+1)=zs.take i++[z]:=bh gz;have step:(∀n∈nds us,z.2.num=n.num→(z.2.st=none↔n.st=none))→∀y∈zs.take (i+1),∀n∈nds us,y.2.num=n.num→(y.2.st=none↔n.st=none):=λh y hy=>by
    rw[et]at hy;rcases mem_append.mp hy with hy|hy
    ·exact hi y hy
    ·have e:y=z:=mem_singleton.mp hy;subst e;exact h
   refine⟨_,rfl,z.1,_,_,_,rfl,rfl,az,at0 z.2,?_⟩;obtain⟨ov,g,e1⟩:=nd1.is und z.2.num;refine⟨_,rfl,_,rfl,d,_,rfl,g,_,rfl,?_⟩;rw[e1];cases hb':inU us z.2.num with
   |false =>
    refine aD (aD ⟨⟨_,_,rfl⟩,rfl,step λn hn e=>?_⟩);have:inU us z.2.num=true:=cw.mpr ⟨n,hn,e.symm⟩;rw[hb']at this;cases this
   |true =>
    obtain⟨n,hn,en⟩:=cw.mp hb';obtain⟨y,hy,rfl⟩:=cj hn;have gy:=nd1.get und hy;rw[en]at gy;refine aA ⟨_,rfl,z.1,_,_,_,rfl,rfl,az,at3 z.2,rfl,_,rfl,_,rfl,d,_,rfl,gy,y.1,_,_,_,rfl,rfl,SqT.of (ur1.nod y hy),at3 y.2,rfl,rfl,_,rfl,?_⟩;rw[sV,sV]
    by_cases hk:(z.2.st=none↔y.2.st=none)
    ·have:decide (V.bl (decide (z.2.st=none))=V.bl (decide (y.2.st=none)))=true:=by
      rw[decide_eq_true_iff]
      congr 1
      exact decide_eq_decide.mpr hk
     rw[this];refine aD ⟨⟨_,_,rfl⟩,rfl,step λn hn e=>?_⟩;have:n=y.2:=ur.tr.inj hn (aH hy) (e.symm.trans en.symm);subst this;exact hk
    ·have:decide (V.bl (decide (z.2.st=none))=V.bl (decide (y.2.st=none)))=false:=by
      rw[decide_eq_false_iff_not];intro h;injection h with h
      exact hk (decide_eq_decide.mp h)
     rw[this];refine aA ⟨_,rfl,_,rfl,(hb z mz).1,(hb z mz).2,λy'=>⟨ao (show 1≤1000 by decide),qE (λh=>hk (h _ (aH mz) _ (aH hy) en.symm)) H' s1⟩⟩
  ·obtain⟨⟨x3,x4,rfl⟩,rfl,hi⟩:=h;refine qo (λm hm n hn e=>?_) _ s1;obtain⟨z,hz,rfl⟩:=cj hm;exact hi z (by rw[aE,take_length];exact hz) n hn e
def sX:Sp:=λvs H Q _=>∃t d zs us,vs=[.ref t,.ref d]∧Tre H t zs∧fU H d us∧((nds us).map (·.num)).Nodup ∧
 (∀x,lg (nds zs) (TW.db (nds zs) (nds us)) x→∀r H',ak H H'→H' r=some (.tup (bJ (.drop x.num)))→Q (.ref r) H')∧((∀x∈nds zs,¬TW.db (nds zs) (nds us) x)→∀H',ak H H'→Q .non H')
theorem sY:FnScope ["now","goal","needed","node"] ["now","goal"] (ai eM):=fsc
theorem xn{f:Addr}{fd:FuncData}(F:Fun K "next_drop" "next_drop" eM f fd)(T:Txt mg)(CN:Has P w K mg base 2 "nodes_needed" ["now","goal"] sU):FnOk P w K mg base CX0 3 f fd ["now","goal"] sX:=by
 obtain⟨fN,fdN,GN,mN,kN,bN⟩:=CN;obtain⟨tt,hT⟩:=T.top;refine F.ok sY (λvs H Q E h=>?_) (λcdv A outer s H vs Q E hr h=>?_)
 ·obtain⟨t,d,zs,us,rfl,_⟩:=h;rfl
 ·obtain⟨t,d,zs,us,rfl,tr,hd,hun,q1,q2⟩:=h;refine⟨_,ag (au (i:=2) sY.nd rfl (Or.inl rfl) (am GN hr rfl mN kN bN .nil aP (aa (pv 0) (aa (pv 1) ae))))
   (ag (cD PassesOwn.never rfl (cq (pv 0)) (aF (i:=3) sY.nd rfl (Or.inl rfl))
    (aj (bj (PW.pt (pw_and (cU (cQ (cc hr) (ar ap (pv 3) ah (λ_ _=>rfl)) (pv 2))) (pw_and1 (PW.pt (pw_or (aw cG (ar ap (pv 3) ah (λ_ _=>rfl)) (bQ (v:=.int 0) rfl hT ⟨_,rfl⟩) (aC _)) (pw_or1 (cU (iM (cc hr) (ar ap (pv 3) ah (λ_ _=>rfl)) (pv 1)))))))))
     (aj (av (aN (aa bx (aa (ar ap (pv 3) ah (λ_ _=>rfl)) ae))))) aJ)))
   (aj (av cp))),?_⟩
  refine⟨_,rfl,_,rfl,t,d,zs,us,rfl,tr,hd,hun,λe ks H1 s1 he hk=>?_⟩;have tr1:=tr.same s1;have hd1:=hd.same s1;refine⟨_,rfl,t,rfl,⟨_,SqT.of tr1.tup⟩,gn (xs:=aq zs) (λi σ H'=>(∃x3,σ=[some (.ref t),some (.ref d),some (.ref e),x3])∧H'=H1∧∀x∈(nds zs).take i,¬TW.db (nds zs) (nds us) x) ⟨⟨_,rfl⟩,rfl,by simp⟩ (λi σ H' _ h=>by rw[h.2.1];exact SqT.of tr1.tup) (λi x σ H' hx h=>?_) (λσ H' h=>?_)⟩
  ·obtain⟨⟨x3,rfl⟩,rfl,hi⟩:=h;obtain⟨z,gz,rfl⟩:=br hx;have mz:=mem_of_getElem? gz;have az:SqT K H' z.1 (vals z.2):=SqT.of (tr1.nod z mz);have gz':(nds zs)[i]?=some z.2:=by unfold nds;rw[getElem?_map,gz];rfl
   have et:(nds zs).take (i+1)=(nds zs).take i++[z.2]:=bh gz';have step:¬TW.db (nds zs) (nds us) z.2→∀y∈(nds zs).take (i+1),¬TW.db (nds zs) (nds us) y:=λh y hy=>by
    rw[et]at hy;rcases mem_append.mp hy with hy|hy
    ·exact hi y hy
    ·have e':y=z.2:=mem_singleton.mp hy;rw[e'];exact h
   have won:TW.db (nds zs) (nds us) z.2→lg (nds zs) (TW.db (nds zs) (nds us)) z.2:=λh=>by
    refine⟨(nds zs).take i,(nds zs).drop (i+1),?_,hi,h⟩;have:=List.take_append_drop (i+1) (nds zs);rw[et,append_assoc]at this;exact this.symm
   refine⟨_,rfl,z.1,_,_,_,rfl,rfl,az,at0 z.2,_,rfl,e,_,rfl,eB.k (k:=Sum.inl z.2.num) he,_,rfl,?_⟩;rw[ji]
   by_cases hin:z.2.num∈ks
   ·rw[decide_eq_true hin];exact aD (aD ⟨⟨_,rfl⟩,rfl,step λh=>h.1 ((hk _).mp hin)⟩)
   ·rw[decide_eq_false hin];have hnn:¬TW.xj (nds zs) (nds us) z.2.num:=λh=>hin ((hk _).mpr h);refine aA ⟨_,rfl,z.1,_,_,_,rfl,rfl,az,at1 z.2,rfl,_,rfl,?_⟩
    by_cases hp:z.2.par=0
    ·rw[show decide (V.int z.2.par=V.int 0)=true by simp[hp]];refine aA (aA ⟨_,rfl,z.1,_,_,_,rfl,rfl,az,at0 z.2,le2,λr hr'=>?_⟩);exact q1 z.2 (won ⟨hnn,.inl hp⟩) r _ (s1.trans (af hr')) ac
    ·rw[show decide (V.int z.2.par=V.int 0)=false by simp[hp]];obtain⟨ov,g,e1⟩:=hd1.is hun z.2.par;refine aD ⟨_,rfl,z.1,_,_,_,rfl,rfl,az,at1 z.2,_,rfl,d,_,rfl,g,_,rfl,?_⟩;rw[e1];cases hb':inU us z.2.par with
     |true =>
      refine aA ⟨_,rfl,z.1,_,_,_,rfl,rfl,az,at0 z.2,le2,λr hr'=>?_⟩;exact q1 z.2 (won ⟨hnn,.inr (cw.mp hb')⟩) r _ (s1.trans (af hr')) ac
     |false =>
      refine aD ⟨⟨_,rfl⟩,rfl,step λh=>?_⟩;rcases h.2 with h|h
      ·exact hp h
      ·rw[cw.mpr h]at hb';cases hb'
  ·obtain⟨⟨x3,rfl⟩,rfl,hi⟩:=h;refine q2 (λx hx=>hi x ?_) _ s1;rw[aE,show zs.length=(nds zs).length by unfold nds;rw[length_map],take_length];exact hx
structure TreR(mg:Str→Option Value)(K:PySem.W.Frag)(cls:TW.Wd→Addr)(D:Addr):Prop where
 tre:mg "TreeError"=some (.ref D)
 base:ktsIn K D "BaseException"=true
 sub:∀wd,subIn K (.ref (cls wd)) (.ref D)=some true
def sZ:Sp:=λvs H Q _=>∃t d zs dd,vs=[.ref t,.ref d]∧Tre H t zs∧zs.length≤29∧H d=some (.tup (bJ dd))∧bX dd∧(∀us,TW.Told (nds zs) dd (.inr us)→∀H',ak H H'→Q (.bl false) H')∧∀wd,TW.Told (nds zs) dd (.inl wd)→∀H',ak H H'→Q (.bl true) H'
theorem yu:FnScope ["tree","deed"] ["tree","deed"] (ai dN):=fsc
theorem xo{f D:Addr}{fd:FuncData}{cls:TW.Wd→Addr}(F:Fun K "is_refused" "is_refused" dN f fd)(L:TreR mg K cls D)(CD:da P w K mg base 4 "done" ["tree","deed"] (jf cls)):FnOk P w K mg base CX0 5 f fd ["tree","deed"] sZ:=by
 obtain⟨fD,fdD,GD,mD,kD,bD⟩:=CD;refine F.ok yu (λvs H Q E h=>?_) (λcdv A outer s H vs Q E hr h=>?_)
 ·obtain⟨t,d,zs,dd,rfl,_⟩:=h;rfl
 ·obtain⟨t,d,zs,dd,rfl,tr,hz,hd,hok,q1,q2⟩:=h;refine⟨_,ag (uR (T:=D) ⟨λ_ _ h=>h,rfl,rfl⟩ (λpl xe E hx _=>aj (bi (am GD hr rfl mD kD bD .nil hx (aa (pv 0) (aa (pv 1) ae))))) (λpl v=>aj (av cF)) rfl L.tre L.base) (aj (av cF)),?_⟩;refine⟨_,rfl,_,rfl,t,d,dd,zs,rfl,tr,hz,hd,hok,⟨λus t' H1 s1 ht' hA told=>?_,λwd H1 s1 told=>⟨_,rfl,L.sub wd,λea σ' hσ hea=>?_⟩⟩⟩
  ·exact q1 _ told H1 s1
  ·exact q2 wd told _ (s1.trans (af hea))
end
abbrev ZD:=List (Addr×TW.Deed Str)
abbrev aG(ds:ZD):List V:=ds.map λx=>V.ref x.1
def de(H:Hp)(ds:ZD):Prop:=∀x∈ds,H x.1=some (.tup (bJ x.2))
theorem de.same{H H':Hp}{ds:ZD}(h:de H ds)(s:ak H H'):de H' ds:=λx hx=>s _ _ (h x hx)
theorem nr{t:List Nd}:∀{u:List Nd}{ds:List (TW.Deed Str)},TW.Plcs t u ds→ds.length≤u.length:=λh=>by
 induction h with
 |nil=>exact le_refl _
 |skip _ _ ih=>rw[length_append];omega
 |take _ _ ih=>rw[length_append,length_append];simp;omega
section
variable{P:Program}{w:World}{K:PySem.W.Frag}{mg:Str→Option Value}{base:Heap}
def tf:Sp:=λvs H Q _=>∃t u zs us,vs=[.ref t,.ref u]∧Tre H t zs∧Tre H u us∧∀l ds H',ak H H'→H' l=some (.lst (aG ds))→de H' ds→TW.Plcs (nds zs) (nds us) (ds.map (·.2))→Q (.ref l) H'
theorem nv:FnScope ["now","new","nodes","deeds","node","number"] ["now","new"] (ai fX):=fsc
theorem xp{f:Addr}{fd:FuncData}(F:Fun K "placings" "placings" fX f fd)(CB:Has P w K mg base 1 "by_number" ["tree"] dU):FnOk P w K mg base CX0 2 f fd ["now","new"] tf:=by
 obtain⟨fB,fdB,GB,mB,kB,bB⟩:=CB;refine F.ok nv (λvs H Q E h=>?_) (λcdv A outer s H vs Q E hr h=>?_)
 ·obtain⟨t,u,zs,us,rfl,_⟩:=h;rfl
 ·obtain⟨t,u,zs,us,rfl,tr,ur,q⟩:=h;have hl:=tr.len;have ul:=ur.len;have hnd:=ci tr.tr;refine⟨_,ag (au (i:=2) nv.nd rfl (Or.inl rfl) (am GB hr rfl mB kB bB .nil aP (aa (pv 0) ae)))
   (ag (au (i:=3) nv.nd rfl (Or.inl rfl) (cg ae))
   (ag (cD PassesOwn.never rfl (cq (pv 1)) (aF (i:=4) nv.nd rfl (Or.inl rfl))
    (ag (au (i:=5) nv.nd rfl (Or.inl rfl) (ar ap (pv 4) ah (λ_ _=>rfl)))
    (aj (bj (cU (cQ (cc hr) (pv 5) (pv 2)))
     (aj (bi (eA plainAttrs_list PySem.F.slot_list_append PySem.F.type_list_append bg (pv 3) (aa (aK eQ (aN (aa bx ae)) (pv 4)) ae))))
     (aj (bj (aw (xh (cc hr)) (cV fo (eR (cc hr) (pv 2) (pv 5) (λ_ _=>rfl)) (cJ ah) (cJ ah)) (cV fo (pv 4) (cJ ah) (cJ ah)) (aC _))
      (aj (bi (eA plainAttrs_list PySem.F.slot_list_append PySem.F.type_list_append bg (pv 3) (aa (aK eQ (aN (aa bx ae)) (cV fo (pv 4) gw (cJ ah))) ae)))) aJ))))))
   (aj (av (pv 3))))),?_⟩
  refine⟨_,rfl,t,zs,rfl,tr.tup,tr.nod,by omega,hnd,λn H1 s1 nd1=>⟨zero_le _,λl hl0=>?_⟩⟩;have s2:=af (o:=.lst []) hl0;have gl:upd H1 l (.lst []) l=some (.lst (aG [])):=ac;have tr1:=tr.same s1;have ur1:=ur.same s1;refine⟨_,rfl,u,rfl,⟨_,SqT.of (s2 _ _ ur1.tup)⟩,gn (xs:=aq us) (λi σ H'=>∃x4 x5,∃ds:ZD,σ=[some (.ref t),some (.ref u),some (.ref n),some (.ref l),x4,x5]∧ak H1 H'∧H' l=some (.lst (aG ds))∧de H' ds∧(∀x∈ds,x.1≠l)∧TW.Plcs (nds zs) ((nds us).take i) (ds.map (·.2)))
   ⟨_,_,[],rfl,s2,gl,(λx h=>nomatch h),(λx h=>nomatch h),by rw[List.take_zero];exact .nil⟩ (λi σ H' _ h=>?_) (λi x σ H' hx h=>?_) (λσ H' h=>?_)⟩
  ·obtain⟨x4,x5,ds,rfl,s3,_⟩:=h;exact SqT.of (s3 _ _ ur1.tup)
  ·obtain⟨x4,x5,ds,rfl,s3,hL,hD,hne,hP⟩:=h;obtain⟨y,gy,rfl⟩:=br hx;have my:=mem_of_getElem? gy;have gy':(nds us)[i]?=some y.2:=by unfold nds;rw[getElem?_map,gy];rfl
   have et:(nds us).take (i+1)=(nds us).take i++[y.2]:=bh gy';have ay:=s3 _ _ (ur1.nod y my);have hdl:ds.length≤30:=by
    have h1:=nr hP;rw[length_map,length_take]at h1;have h2:(nds us).length=us.length:=by unfold nds;rw[length_map]
    omega
   have put:∀(H3:Hp)(d:TW.Deed Str)(c:Addr),ak H' H3→H3 c=some (.tup (bJ d))→TW.Plc (nds zs) y.2 (some d)→∃x4 x5,∃ds':ZD,[some (V.ref t),some (.ref u),some (.ref n),some (.ref l),some (.ref y.1),some (.int y.2.num)]=[some (.ref t),some (.ref u),some (.ref n),some (.ref l),x4,x5]∧ak H1 (upd H3 l (.lst (aG ds++[.ref c])))∧(upd H3 l (.lst (aG ds++[.ref c]))) l=some (.lst (aG ds'))∧de (upd H3 l (.lst (aG ds++[.ref c]))) ds'∧(∀x∈ds',x.1≠l)∧TW.Plcs (nds zs) ((nds us).take (i+1)) (ds'.map (·.2)):=λH3 d c s4 hc hp=>by
    have hcl:c≠l:=λz=>by rw[z,s4 _ _ hL]at hc;cases hc
    refine⟨_,_,ds++[(c,d)],rfl,λb o e=>?_,by rw[ac];unfold aG;rw[map_append];rfl,λx hx=>?_,λx hx=>?_,by rw[et,map_append];exact .take hP hp⟩
    ·rw[al (λz=>by rw[z,hl0]at e;cases e)];exact s4 _ _ (s3 _ _ e)
    ·rcases mem_append.mp hx with hx|hx
     ·rw[al (hne x hx)];exact s4 _ _ (hD x hx)
     ·have:x=(c,d):=mem_singleton.mp hx;rw[this,al hcl];exact hc
    ·rcases mem_append.mp hx with hx|hx
     ·exact hne x hx
     ·have:x=(c,d):=mem_singleton.mp hx;rw[this];exact hcl
   refine⟨_,rfl,y.1,_,_,_,rfl,rfl,SqT.of ay,at0 y.2,?_⟩;obtain⟨ov,g,e1⟩:=(nd1.same s3).is hnd y.2.num;refine⟨_,rfl,_,rfl,n,_,rfl,g,_,rfl,?_⟩;rw[e1];cases hb':inU zs y.2.num with
   |false =>
    have hnew:¬TW.bu (nds zs) y.2.num:=λh=>by rw[cw.mpr h]at hb';cases hb'
    refine aA ⟨_,rfl,.inl ⟨rfl,_,SqL.of hL⟩,(show 1≤sizeLine from ao (by decide)),λc1 h1=>?_⟩;have s4:=af (o:=.tup [.str "make"]) h1;refine⟨_,rfl,c1,y.1,_,_,rfl,rfl,SqT.of ac,SqT.of (s4 _ _ ay),by simp,(show 5≤sizeLine from ao (by decide)),λh=>absurd h (by unfold vals;simp),λ_ c hc=>?_⟩;have s5:=s4.trans (af (o:=.tup (bJ (.make y.2.num y.2.par y.2.nm y.2.st))) hc);refine⟨l,_,_,rfl,rfl,s5 _ _ hL,ax (by unfold aG;rw[length_map];omega),?_⟩;exact put _ (.make y.2.num y.2.par y.2.nm y.2.st) c s5 ac (.new hnew)
   |true =>
    obtain⟨m,hm,em⟩:=cw.mp hb';obtain⟨z,hz,rfl⟩:=cj hm;have gz:=(nd1.same s3).get hnd hz;rw[em]at gz;have az:=s3 _ _ (tr1.nod z hz);have ecut:∀n:Nd,io (vals n) (some 1) (some 3)=[.int n.par,.str n.nm]:=λn=>rfl;have e3:∀n:Nd,io (vals n) none (some 3)=[.int n.num,.int n.par,.str n.nm]:=λn=>rfl;refine aD ⟨_,rfl,_,rfl,n,_,rfl,gz,_,rfl,_,rfl,z.1,_,rfl,SqT.of az,(by intro h;exact absurd h.1 (show ¬HT.sIx 4 0 (some 1)=0 by decide)),λc1 h1=>?_⟩;rw[ecut];have s4:=af (o:=.tup [.int z.2.par,.str z.2.nm]) h1;have k1:upd H' c1 (.tup [.int z.2.par,.str z.2.nm]) c1=some (.tup [.int z.2.par,.str z.2.nm]):=ac;generalize upd H' c1 (.tup [.int z.2.par,.str z.2.nm])=H4 at s4 k1⊢;refine⟨_,rfl,_,rfl,_,rfl,y.1,_,rfl,SqT.of (s4 _ _ ay),(by intro h;exact absurd h.1 (show ¬HT.sIx 4 0 (some 1)=0 by decide)),λc2 h2=>?_⟩;rw[ecut];have s5:=s4.trans (af (o:=.tup [.int y.2.par,.str y.2.nm]) h2);have k2:upd H4 c2 (.tup [.int y.2.par,.str y.2.nm]) c2=some (.tup [.int y.2.par,.str y.2.nm]):=ac;have k1':=aW (o:=.tup [.int y.2.par,.str y.2.nm]) h2 k1;generalize upd H4 c2 (.tup [.int y.2.par,.str y.2.nm])=H5 at s5 k1' k2⊢;have f2:∀(a:Int)(b:Str),∀v∈[V.int a,.str b],jV v=true:=λa b v hv=>by
     rcases mem_cons.mp hv with e|hv
     ·rw[e];rfl
     ·rw[mem_singleton.mp hv];rfl
    refine⟨some [.int z.2.par,.str z.2.nm],some [.int y.2.par,.str y.2.nm],.inr ⟨c1,_,rfl,k1',rfl,f2 _ _⟩,.inr ⟨c2,_,rfl,k2,rfl,f2 _ _⟩,_,rfl,?_⟩
    by_cases hsame:z.2.par=y.2.par∧z.2.nm=y.2.nm
    ·rw[show decide ((some [V.int z.2.par,.str z.2.nm]:Option (List V))=some [.int y.2.par,.str y.2.nm])=true by rw[decide_eq_true_iff,hsame.1,hsame.2]];refine aD ⟨_,_,ds,rfl,s3.trans s5,s5 _ _ hL,hD.same s5,hne,?_⟩;rw[et];exact .skip hP (.no (aH hz) em hsame.1 hsame.2)
    ·rw[show decide ((some [V.int z.2.par,.str z.2.nm]:Option (List V))=some [.int y.2.par,.str y.2.nm])=false by
      rw[decide_eq_false_iff_not];intro h;injection h with h
      injection h with h1 h2
      injection h1 with h1
      injection h2 with h2
      injection h2 with h2
      exact hsame ⟨h1,h2⟩]
     refine aA ⟨_,rfl,.inl ⟨rfl,_,SqL.of (s5 _ _ hL)⟩,(show 1≤sizeLine from ao (by decide)),λc3 h3=>?_⟩;have s6:=s5.trans (af (o:=.tup [.str "move"]) h3);have k3:upd H5 c3 (.tup [.str "move"]) c3=some (.tup [.str "move"]):=ac;generalize upd H5 c3 (.tup [.str "move"])=H6 at s6 k3⊢;refine⟨_,rfl,_,rfl,y.1,_,rfl,SqT.of (s6 _ _ ay),(by intro h;exact absurd h.2 (show ¬HT.sIx 4 4 (some 3)=4 by decide)),λc4 h4=>?_⟩;rw[e3];have s7:=s6.trans (af (o:=.tup [.int y.2.num,.int y.2.par,.str y.2.nm]) h4);refine⟨c3,c4,_,_,rfl,rfl,SqT.of (aW h4 k3),SqT.of ac,by simp,(show 4≤sizeLine from ao (by decide)),λh=>absurd h (by simp),λ_ c hc=>?_⟩;have s8:=s7.trans (af (o:=.tup (bJ (.move y.2.num y.2.par y.2.nm))) hc);refine⟨l,_,_,rfl,rfl,s8 _ _ hL,ax (by unfold aG;rw[length_map];omega),?_⟩;exact put _ (.move y.2.num y.2.par y.2.nm) c s8 ac (.mv (aH hz) em hsame)
  ·obtain⟨x4,x5,ds,rfl,s3,hL,hD,_,hP⟩:=h;refine⟨_,rfl,q l ds _ (s1.trans s3) hL hD ?_⟩
   rwa [aE,show us.length=(nds us).length by unfold nds;rw[length_map],take_length]at hP
end
end TK
namespace TK
open PySem
def A26:Str:="abcdefghijklmnopqrstuvwxyz"
def ltr(i:Nat):Str:=⟨#[A26.cps.toList.getD i 0]⟩
def ny:Nat→Nat→Str
 |0,_=>""
 |_+1,0=>""
 |f+1,n+1=>ny f (n / 26)++ltr (n % 26)
def aX(n:Nat):Str:=ny 3 n
theorem oA(f:Nat):ny f 0="":=by cases f<;>rfl
theorem gO:A26.length=26:=by decide +kernel
theorem uS{i:Nat}(h:i<26):A26.cps.toList[i]?=some (A26.cps.toList.getD i 0):=by
 have:i<A26.cps.toList.length:=by
  have e:A26.cps.toList.length=26:=by decide +kernel
  rw[e];exact h
 rw[getD_eq_getElem?_getD,getElem?_eq_getElem this];rfl
end TK
namespace L2
open PySem PySem.Spec PyProof.Rows
section
variable{X:Cx}
def aU(zs:List (Addr×Key×V)):List (Key×V):=zs.foldl (λm z=>ce m z.2.1 z.2.2) []
theorem oB{α:Type}[DecidableEq α](m:List (α×Value))(k:α)(v:Value):(stored m k v).length≤m.length+1:=by
 unfold stored
 split
 ·rw[length_map];omega
 ·rw[length_append];exact le_refl _
theorem dq{β:Type}(k:β→Key)(v:β→Value):∀(l:List β)(m:List (Key×Value)),(l.foldl (λm z=>stored m (k z) (v z)) m).length≤m.length+l.length
 |[],m=>le_refl _
 |a::l,m=>by
  rw[foldl_cons];have h1:=dq k v l (stored m (k a) (v a));have h2:=oB m (k a) (v a);rw[length_cons];omega
theorem jX{f:Addr×Key×V→Value×Value}:∀{ys:List (Addr×Key×V)}{m:List (Key×V)}{n:List (Key×Value)},KV m n→(∀z∈ys,aI z.2.2 (f z).2)→KV (ys.foldl (λm z=>ce m z.2.1 z.2.2) m) (ys.foldl (λm z=>stored m z.2.1 (f z).2) n)
 |[],m,n,r,_=>r
 |z::ys,m,n,r,h=>by
  rw[foldl_cons,foldl_cons];exact jX (r.put z.2.1 (h z mem_cons_self)) λy hy=>h y (mem_cons_of_mem _ hy)
theorem jj(hc:X.calm=true):cn X (.type "dict") (λxs H Q=>∃l,∃zs:List (Addr×Key×V),xs=[.ref l]∧H l=some (.lst ((zs.map (·.1)).map V.ref))∧(∀z∈zs,H z.1=some (.tup [kV z.2.1,z.2.2]))∧zs.length≤900∧∀d,H d=none→Q (.ref d) (upd H d (.dK (aU zs)))):=by
 intro pins s σ H xs us Q I r h;obtain⟨l,zs,rfl,hl,hk,hz,q⟩:=h;obtain⟨u,rfl,ru⟩:=ee r;cases ru;obtain⟨_,its,nl,rv,ho⟩:=I.hok l _ hl;have e:=dz rv;subst e;obtain⟨f,hf⟩:=mw I (λz=>kV z.2.1) hk;have hsz:(((zs.map (·.1)).map Value.ref).toArray).size=zs.length:=by simp
 refine DL.eF (s:=s) (I.ok.hd hc) ho (λi=>(zs.getD i (0,.inl 0,.non)).1) (λi=>(f (zs.getD i (0,.inl 0,.non))).1) (λi=>(f (zs.getD i (0,.inl 0,.non))).2) (λi v hv=>jP hv) (λi hi=>?_)
  (λi h'=>h'.DictOf (aQ X.prog X.w) s.heap.objs.size ((zs.take i).foldl (λm z=>stored m z.2.1 (f z).2) [])) (λh' hg _=>?_) (λi g g' hd hk=>?_) (λi s' E Q hi hd hq=>?_) λh' tk hd hkeep=>?_
 ·rw[hsz]at hi;exact(hf _ (cY hi).1).2.2
 ·exact⟨_,#[],0,hg,⟨rfl,rfl,rfl⟩,rfl,λ_ he=>by simp at he,Pairs.nil,nodup_nil⟩
 ·obtain⟨o,es,ep,ho,r⟩:=hd;exact⟨o,es,ep,hk _ o (le_refl _) ho,r⟩
 ·rw[hsz]at hi;obtain⟨hm,hg⟩:=cY (d:=((0,.inl 0,.non):Addr×Key×V)) hi;have hb:=dq (λz:Addr×Key×V=>z.2.1) (λz=>(f z).2) (zs.take i) [];rw[length_take,length_nil]at hb;have hle:((zs.take i).foldl (λm z=>stored m z.2.1 (f z).2) ([]:List (Key×Value))).length≤900:=by omega
  refine wpAny_dictSet_pairs (hsz:=by have:=ax (n:=901) (by decide);omega) (k:=(zs.getD i (0,.inl 0,.non)).2.1) (eY (hf _ hm).1) hd λh' hd' hs=>hq h' _ (le_succ _) hs ?_;rw[bh hg,List.foldl_append];exact hd'
 ·rw[hsz,take_length]at hd;have hrel:KV (aU zs) (zs.foldl (λm z=>stored m z.2.1 (f z).2) []):=jX .nil λz hz=>(hf z hz).2.1;have hb:=dq (λz:Addr×Key×V=>z.2.1) (λz=>(f z).2) zs [];rw[length_nil]at hb;have hlen:(aU zs).length≤900:=le_trans (Nat.le_of_eq (Paired.length hrel)) (le_trans hb (by omega));exact⟨.ref s.heap.objs.size,_,I.laid (t':=tk) (o:=.dK (aU zs)) hkeep (le_refl _) (iL (le_of_lt (ax (by omega))) (beq_eq_false_iff_ne.mpr (symm (ne_of_lt I.big))) hrel hd),rfl,q _ (I.hok.fresh (le_refl _))⟩
end
end L2
namespace TK
open PySem L2
theorem uT(x:Str):x++("":Str)=x:=by
 apply ext';show x.cps ++ #[]=x.cps;simp
theorem uU(x:Str):("":Str)++x=x:=by
 apply ext';show #[]++x.cps=x.cps;simp
section
variable{P:Program}{w:World}{K:PySem.W.Frag}{mg:Str→Option Value}{base:Heap}
def tm:Sp:=λvs H Q _=>∃n:Nat,vs=[.int n]∧n<70∧Q (.str (aX n)) H
theorem nA:FnScope ["count","name","rest"] ["count"] (ai hU):=fsc
theorem xq{f:Addr}{fd:FuncData}(F:Fun K "name_at" "name_at" hU f fd)(T:Txt mg):FnOk P w K mg base CX0 1 f fd ["count"] tm:=by
 obtain⟨tl,hL⟩:=T.letters;refine F.ok nA (λvs H Q E h=>?_) (λcdv A outer s H vs Q E hr h=>?_)
 ·obtain⟨n,rfl,_⟩:=h;rfl
 ·obtain⟨n,rfl,hn,q⟩:=h;refine⟨_,ag (au (i:=1) nA.nd rfl (Or.inl rfl) bx) (ag (au (i:=2) nA.nd rfl (Or.inl rfl) (pv 0))
   (ag (dZ PassesOwn.never (aw xY (pv 2) ah (aC _))
    (ag (au (i:=1) nA.nd rfl (Or.inl rfl) (aK nM (ar wj (bQ (v:=.str A26) rfl hL ⟨_,rfl⟩) (aK fm (aK kj (pv 2) ah) (aL dG rfl T.len boot_len (aa (bQ (v:=.str A26) rfl hL ⟨_,rfl⟩) ae))) (λ_ _=>rfl)) (pv 1)))
    (aj (au (i:=2) nA.nd rfl (Or.inl rfl) (aK oP (aK kj (pv 2) ah) (aL dG rfl T.len boot_len (aa (bQ (v:=.str A26) rfl hL ⟨_,rfl⟩) ae)))))))
   (aj (av (pv 1))))),?_⟩
  refine⟨_,rfl,?_⟩;dsimp only[aY,lD];refine gp (λσ H'=>∃(f r:Nat) (x:Str),σ=[some (.int n),some (.str x),some (.int r)]∧aX n=ny f r++x∧r<26 ^ f∧f≤3∧x.length≤3-f∧H'=H)
   (λσ H'=>match σ with | [_,_,some (.int k)]=>k.toNat | _=>0) ⟨3,n,"",rfl,?_,by show n<17576;omega,le_refl _,by decide +kernel,rfl⟩ (λσ H' h=>?_) ?_
  ·exact(uT _).symm
  ·obtain⟨f,r,x,rfl,e,hr',hf,hx,rfl⟩:=h;refine⟨_,rfl,_,_,rfl,rfl,_,rfl,?_⟩;cases r with
   |zero =>
    rw[show decide ((0:Int)<((0:Nat):Int))=false by decide];refine aD ⟨_,rfl,?_⟩;rw[oA]at e;have:aX n=x:=by rw[e];exact uU _
    rw[←this];exact q
   |succ m =>
    rw[show decide ((0:Int)<((m+1:Nat):Int))=true by rw[decide_eq_true_iff];omega];obtain⟨f',rfl⟩:∃f',f=f'+1:=by
     cases f with
     |zero=>rw[Nat.pow_zero]at hr';omega
     |succ f'=>exact⟨f',rfl⟩
    have ls:A26.length≤sizeLine:=by rw[gO];exact ao (by decide)
    have e1:(((m+1:Nat):Int)-1) % (A26.length:Int)=((m % 26:Nat):Int):=by rw[gO];omega
    have e2:(((m+1:Nat):Int)-1) / (A26.length:Int)=((m / 26:Nat):Int):=by rw[gO];omega
    have p0:(0:Int)<(A26.length:Int):=by rw[gO];decide
    refine aA ⟨_,rfl,_,_,rfl,rfl,_,rfl,ls,_,_,rfl,rfl,p0,A26,((m % 26:Nat):Int),_,rfl,congrArg V.int e1,ls,bG (uS (mod_lt _ (by decide))),_,rfl,_,_,rfl,rfl,?_,?_⟩
    ·have h1:(⟨#[A26.cps.toList.getD (m % 26) 0]⟩:Str).length=1:=rfl;rw[h1];exact ao (by omega)
    refine⟨_,rfl,_,_,rfl,rfl,_,rfl,ls,_,_,rfl,rfl,⟨p0,by rw[gO];decide⟩,?_⟩;show aY 2 (V.int ((((m+1:Nat):Int)-1) / (A26.length:Int))) _ _ _;rw[e2];refine⟨⟨f',m / 26,_,rfl,?_,?_,by omega,?_,rfl⟩,?_⟩
    ·rw[e];show ny f' (m / 26)++ltr (m % 26)++x=_;rw[Str.append_assoc];rfl
    ·rw[Nat.pow_succ]at hr';omega
    ·have h1:((⟨#[A26.cps.toList.getD (m % 26) 0]⟩:Str)++x).length=(⟨#[A26.cps.toList.getD (m % 26) 0]⟩:Str).length+x.length:=strLen_append ..;have h2:(⟨#[A26.cps.toList.getD (m % 26) 0]⟩:Str).length=1:=rfl;omega
    ·show(((m / 26:Nat):Int)).toNat<(((m+1:Nat):Int)).toNat;omega
  ·rintro σ H1 Q1 Q2 m ⟨v,e,i,j,e1,e2,b,e3,q⟩;exact⟨v,e,i,j,e1,e2,b,e3,m _ _ q⟩
end
def hV(u:List Nd)(k:Int):Option Int:=((u.find? λy=>decide (y.num=k)).map λy=>y.st).getD none
theorem iz{u:List Nd}(hn:(u.map (·.num)).Nodup){y:Nd}(hy:y∈u):hV u y.num=y.st:=by
 unfold hV
 induction u with
 |nil=>cases hy
 |cons x r ih =>
  rw[map_cons,nodup_cons]at hn;rw[find?_cons]
  by_cases e:x.num=y.num
  ·rw[decide_eq_true e];rcases mem_cons.mp hy with h|h
   ·rw[h];rfl
   ·exact absurd (mem_map.mpr ⟨y,h,e.symm⟩) hn.1
  ·rw[decide_eq_false e];rcases mem_cons.mp hy with h|h
   ·rw[h]at e;exact absurd rfl e
   ·exact ih hn.2 h
def nB(t u:List Nd):List (TW.Deed Str):=(t.filter λn=>!decide (n.st=hV u n.num)).map λn=>.write n.num ((hV u n.num).getD 0)
theorem xr{a b:Option Int}:decide (stV a=stV b)=decide (a=b):=by
 cases a<;>cases b<;>simp[stV]
theorem uV(a b:Option Int):wc (stV a) (stV b)=true:=by cases a<;>cases b<;>rfl
section
variable{P:Program}{w:World}{K:PySem.W.Frag}{mg:Str→Option Value}{base:Heap}
def tq:Sp:=λvs H Q _=>∃t u zs us,vs=[.ref t,.ref u]∧Tre H t zs∧Tre H u us∧(∀n∈nds zs,TW.bu (nds us) n.num)∧ig (nds zs) (nds us)∧∀l ds H',ak H H'→H' l=some (.lst (aG ds))→de H' ds→ds.map (·.2)=nB (nds zs) (nds us)→Q (.ref l) H'
theorem vE:FnScope ["now","new","goal"] ["now","new"] (ai gM):=fsc
theorem xt{f:Addr}{fd:FuncData}(F:Fun K "writes" "writes" gM f fd)(CB:Has P w K mg base 1 "by_number" ["tree"] dU):FnOk P w K mg base CX0 2 f fd ["now","new"] tq:=by
 obtain⟨fB,fdB,GB,mB,kB,bB⟩:=CB;refine F.ok vE (λvs H Q E h=>?_) (λcdv A outer s H vs Q E hr h=>?_)
 ·obtain⟨t,u,zs,us,rfl,_⟩:=h;rfl
 ·obtain⟨t,u,zs,us,rfl,tr,ur,hin,sk,q⟩:=h;have hl:=tr.len;have ul:=ur.len;have und:=ci ur.tr;refine⟨_,ag (au (i:=2) vE.nd rfl (Or.inr rfl) (am GB hr rfl mB kB bB .nil aP (aa (pv 1) ae)))
   (aj (av (iP (N:=["node","goal"]) (cl:=[("goal",s.heap.objs.size+1)]) (k:=1) (js:=[2]) (g:=aY 0) rfl
     (LcOk.mk' ["goal"] rfl rfl (by decide +kernel) (by decide +kernel) ?hcl rfl (by decide +kernel)) rfl ?hj (cq (pv 0)) (λs H fp=>aF (i:=0) (show(["node","goal"]:List Str).Nodup by decide +kernel) rfl (Or.inl rfl) (Or.inr rfl))
     (λs H fp=>aw ib (ar (r:=dc K) ap (pv 0) ah (λ_ _=>rfl)) (ar (r:=dc K) ap (eR (cc hr) (pv 1) (ar (r:=dc K) ap (pv 0) ah (λ_ _=>rfl)) (λ_ _=>rfl)) ah (λ_ _=>rfl)) (aC _))
     (λs H fp=>aN (aa bx (aa (ar (r:=dc K) ap (pv 0) ah (λ_ _=>rfl)) (aa (ar (r:=dc K) ap (eR (cc hr) (pv 1) (ar (r:=dc K) ap (pv 0) ah (λ_ _=>rfl)) (λ_ _=>rfl)) ah (λ_ _=>rfl)) ae))))))),?_⟩
  case hcl =>
   intro y hy;rcases mem_cons.mp hy with e|hy
   ·rw[e];rfl
   ·cases hy
  case hj =>
   intro i j x h1 h2
   match i,h1,h2 with
   |0,h1,h2 =>
    cases h1;cases h2;exact⟨rfl,Or.inr (Or.inl rfl),(show((ai gM).names.lookup ("goal":Str)≠some NameKind.local)by decide +kernel),by first|exact Or.inl rfl|exact Or.inr rfl⟩
   |i+1,h1,h2=>simp at h1
  refine⟨_,rfl,u,us,rfl,ur.tup,ur.nod,by omega,und,λd H1 s1 nd1=>?_⟩;have tr1:=tr.same s1;have ur1:=ur.same s1;have goal:∀z∈zs,∃y∈us,y.2.num=z.2.num∧hV (nds us) z.2.num=y.2.st:=λz hz=>by
   obtain⟨m,hm,e⟩:=hin z.2 (aH hz);obtain⟨y,hy,rfl⟩:=cj hm;exact⟨y,hy,e,by rw[←e];exact iz und hm⟩
  refine⟨_,rfl,t,rfl,⟨_,SqT.of tr1.tup⟩,λp hp=>?_⟩;refine ja (fr:=[some (.ref d)]) zs (λz=>V.ref z.1) (by omega) hp (gJ (by rw[aO];exact SqT.of tr1.tup)) rfl (λz=>!decide (z.2.st=hV (nds us) z.2.num)) (λz y H'=>∃q,y=.ref q∧q≠p∧H' q=some (.tup (bJ (.write z.2.num ((hV (nds us) z.2.num).getD 0))))) (λz y H H' ⟨q,e,ne,h⟩ ex=>⟨q,e,ne,ex q _ ne h⟩) (λz H' k mz s2 _ hk=>?_) (λz H' k mz hg s2 hpl hk=>?_) (λys H2 s2 hp2 hys=>?_)
  ·obtain⟨y,hy,ey,es⟩:=goal z mz;have az:SqT K H' z.1 (vals z.2):=SqT.of (s2 _ _ (tr1.nod z mz));have gy:=(nd1.same s2).get und hy;rw[ey]at gy;refine⟨_,rfl,z.1,_,_,_,rfl,rfl,az,at3 z.2,_,rfl,_,rfl,z.1,_,_,_,rfl,rfl,az,at0 z.2,d,_,rfl,gy,y.1,_,_,_,rfl,rfl,SqT.of (s2 _ _ (ur1.nod y hy)),at3 y.2,uV _ _,_,rfl,?_⟩;rw[xr,←es];exact hk H' (ak.refl _)
  ·obtain⟨y,hy,ey,es⟩:=goal z mz;have az:SqT K H' z.1 (vals z.2):=SqT.of (s2 _ _ (tr1.nod z mz));have gy:=(nd1.same s2).get und hy;rw[ey]at gy;refine⟨_,rfl,z.1,_,_,_,rfl,rfl,az,at0 z.2,_,rfl,_,rfl,z.1,_,_,_,rfl,rfl,az,at0 z.2,d,_,rfl,gy,y.1,_,_,_,rfl,rfl,SqT.of (s2 _ _ (ur1.nod y hy)),at3 y.2,(show 3≤sizeLine from ao (by decide)),λq hq=>?_⟩;refine hk _ _ (af hq) ⟨q,rfl,fJ hpl hq,?_⟩;rw[ac];have:stV y.2.st=.int ((hV (nds us) z.2.num).getD 0):=by
    rw[es];cases hs:y.2.st with
    |some i=>rfl
    |none =>
     exfalso
     have h1:=(sk _ (aH mz) _ (aH hy) ey.symm).mpr hs;rw[es,hs,h1]at hg;cases hg
   rw[this];rfl
  ·obtain⟨bs,e1,e2,e3⟩:=cS (val:=V.ref) (S:=λ(z:Addr×Nd) (q:Addr)=>H2 q=some (.tup (bJ (.write z.2.num ((hV (nds us) z.2.num).getD 0))))) hys (λz y _ ⟨q,e,_,h⟩=>⟨q,e,h⟩);refine q p (bs.map λx=>(x.2,.write x.1.2.num ((hV (nds us) x.1.2.num).getD 0))) H2 (s1.trans s2) ?_ (λx hx=>?_) ?_
   ·rw[hp2,e2];unfold aG;rw[map_map];rfl
   ·obtain⟨y,hy,rfl⟩:=mem_map.mp hx;exact e3 y hy
   ·unfold nB nds;rw[map_map,filter_map,map_map];have:zs.filter ((λn:Nd=>!decide (n.st=hV (us.map (·.2)) n.num))∘λx:Addr×Nd=>x.2)=bs.map (·.1):=e1.symm;rw[this,map_map];rfl
end
theorem jY(ws:List (Addr×Key×V))(k:Key):∀m:List (Key×V),((ws.foldl (λm z=>ce m z.2.1 z.2.2) m).any λkv=>decide (kv.1=k))=((m.any λkv=>decide (kv.1=k))||ws.any λz=>decide (z.2.1=k)):=by
 induction ws with
 |nil=>intro m;simp
 |cons z r ih =>
  intro m;rw[foldl_cons,ih,any_cons];have:((ce m z.2.1 z.2.2).any λkv=>decide (kv.1=k))=((m.any λkv=>decide (kv.1=k))||decide (z.2.1=k)):=by
   rw[ca,iJ,ca]
   by_cases e:k=z.2.1
   ·rw[if_pos e,decide_eq_true e.symm];simp
   ·rw[if_neg e,decide_eq_false (λh=>e h.symm)];simp
  rw[this,Bool.or_assoc]
def oC(t u:List Nd)(x:Str):Prop:=∃n,(n∈t∨n∈u)∧n.par=0∧n.nm=x
structure FreeN(t u:List Nd)(c:Nat):Prop where
 one:1≤c
 lt:c<70
 no:¬oC t u (aX c)
 all:∀j,1≤j→j<c→oC t u (aX j)
theorem pQ{t u:List Nd}(hl:t.length+u.length≤60){c:Nat}(h:∀j,1≤j→j<c→oC t u (aX j)):c≤62:=by
 refine Classical.byContradiction λhc=>?_;have sub:∀x∈(List.range 61).map (λj=>aX (j+1)),x∈(t++u).map (·.nm):=λx hx=>by
  obtain⟨j,hj,rfl⟩:=mem_map.mp hx;rw[mem_range]at hj;obtain⟨n,hn,_,e⟩:=h (j+1) (by omega) (by omega);exact mem_map.mpr ⟨n,mem_append.mpr hn,e⟩
 have nd:((List.range 61).map (λj=>aX (j+1))).Nodup:=by decide +kernel
 have:=Nodup.length_le_of_subset nd sub;rw[length_map,length_range,length_map,length_append]at this;omega
def fg(K:PySem.W.Frag):R2:=λx y H Q=>(∃a b ys,x=.ref a∧y=.ref b∧SqT K H a []∧SqT K H b ys∧Q (.ref b) H)∨oV K x y H Q
theorem dP{X:Cx}:OpR X (binaryOp .Add) (fg X.K):=ml.or eQ
theorem eU{K:PySem.W.Frag}{H:Hp}{t u:Addr}{zs us:ZN}(ht:H t=some (.tup (aq zs)))(hu:H u=some (.tup (aq us)))(hl:zs.length+us.length≤1000){G:VK}(h:∀c H1,ak H H1→H1 c=some (.tup (aq (zs++us)))→G (.ref c) H1):fg K (.ref t) (.ref u) H G:=by
 have er:aq (zs++us)=aq zs++aq us:=by unfold aq;rw[map_append,map_append]
 cases zs with
 |nil=>exact .inl ⟨t,u,_,rfl,rfl,SqT.of ht,SqT.of hu,h u H (ak.refl _) hu⟩
 |cons z r =>
  refine .inr ⟨t,u,_,_,rfl,rfl,SqT.of ht,SqT.of hu,by unfold aq;simp,by rw[aE,aE];exact ao hl,λe=>h t H (ak.refl _) ?_,λ_ p hp=>h p _ (af hp) ?_⟩
  ·rw[er,e,append_nil];exact ht
  ·rw[er];exact ac
section
variable{P:Program}{w:World}{K:PySem.W.Frag}{mg:Str→Option Value}{base:Heap}
def tu:Sp:=λvs H Q _=>∃t u zs us,vs=[.ref t,.ref u]∧Tre H t zs∧Tre H u us∧∀c H',ak H H'→FreeN (nds zs) (nds us) c→Q (.str (aX c)) H'
theorem pR:FnScope ["now","new","taken","count"] ["now","new"] (ai eN):=fsc
theorem xu{f:Addr}{fd:FuncData}(F:Fun K "free_name" "free_name" eN f fd)(T:Txt mg)(CN:Has P w K mg base 1 "name_at" ["count"] tm):FnOk P w K mg base CX0 2 f fd ["now","new"] tu:=by
 obtain⟨fN,fdN,GN,mN,kN,bN⟩:=CN;obtain⟨tt,hT⟩:=T.top;refine F.ok pR (λvs H Q E h=>?_) (λcdv A outer s H vs Q E hr h=>?_)
 ·obtain⟨t,u,zs,us,rfl,_⟩:=h;rfl
 ·obtain⟨t,u,zs,us,rfl,tr,ur,q⟩:=h;have hl:=tr.len;have ul:=ur.len;refine⟨_,ag (au (i:=2) pR.nd rfl (Or.inl rfl) (bf (jj rfl) rfl T.dict boot_dict (aa (iP (N:=["node"]) (cl:=[]) (k:=1) (js:=[]) (g:=aY 0) rfl (cW rfl (by decide +kernel) (by decide +kernel) (by decide +kernel)) rfl (λi j x h=>by simp at h)
    (cq (aK dP (pv 0) (pv 1))) (λs H fp=>aF (i:=0) (show(["node"]:List Str).Nodup by decide +kernel) rfl (Or.inl rfl) (Or.inr rfl))
    (λs H fp=>aw cG (ar (r:=dc K) ap (pv 0) ah (λ_ _=>rfl)) (bQ (v:=.int 0) rfl hT ⟨_,rfl⟩) (aC _)) (λs H fp=>aN (aa (ar (r:=dc K) ap (pv 0) ah (λ_ _=>rfl)) (aa cF ae)))) ae)))
   (ag (au (i:=3) pR.nd rfl (Or.inl rfl) ah)
   (ag (dZ PassesOwn.never (cU (iM (cc hr) (am GN hr rfl mN kN bN .nil aP (aa (pv 3) ae)) (pv 2))) (aj (vV (i:=3) pR.nd rfl (Or.inl rfl) ah tV)))
   (aj (av (am GN hr rfl mN kN bN .nil aP (aa (pv 3) ae)))))),?_⟩
  have hA:At H (zs++us):=λz hz=>by
   rcases mem_append.mp hz with h|h
   ·exact tr.nod z h
   ·exact ur.nod z h
  have hlen:(zs++us).length≤60:=by rw[length_append];omega
  refine⟨_,rfl,_,rfl,eU (K:=K) tr.tup ur.tup (by rw[length_append]at hlen;omega) λc H1 s1 hc=>?_⟩;refine⟨c,rfl,⟨_,SqT.of hc⟩,λp hp=>?_⟩;refine ja (fr:=[]) (zs++us) (λz=>V.ref z.1) (by omega) hp (gJ (by rw[aO];exact SqT.of hc)) rfl (λz=>decide (z.2.par=0)) (λz y H'=>∃q,y=.ref q∧q≠p∧H' q=some (.tup [.str z.2.nm,.bl true])) (λz y H H' ⟨q,e,ne,h⟩ ex=>⟨q,e,ne,ex q _ ne h⟩) (λz H' k mz s2 _ hk=>?_) (λz H' k mz hg s2 hpl hk=>?_) (λys H2 s2 hp2 hys=>?_)
  ·have az:SqT K H' z.1 (vals z.2):=SqT.of (s2 _ _ (s1 _ _ (hA z mz)));refine⟨_,rfl,z.1,_,_,_,rfl,rfl,az,at1 z.2,rfl,_,rfl,?_⟩;rw[show decide (V.int z.2.par=V.int 0)=decide (z.2.par=0)by rw[km];rfl];exact hk H' (ak.refl _)
  ·have az:SqT K H' z.1 (vals z.2):=SqT.of (s2 _ _ (s1 _ _ (hA z mz)));exact⟨_,rfl,z.1,_,_,_,rfl,rfl,az,at2 z.2,le2,λq hq=>hk _ _ (af hq) ⟨q,rfl,fJ hpl hq,ac⟩⟩
  ·obtain⟨bs,e1,e2,e3⟩:=cS (val:=V.ref) (S:=λ(z:Addr×Nd) (q:Addr)=>H2 q=some (.tup [.str z.2.nm,.bl true])) hys (λz y _ ⟨q,e,_,h⟩=>⟨q,e,h⟩);have hbl:bs.length≤60:=by
    have h1:=congrArg length e1;rw[length_map]at h1;have h2:=length_filter_le (λz:Addr×Nd=>decide (z.2.par=0)) (zs++us);omega
   let ws:List (Addr×Key×V):=bs.map λx=>(x.2,(Sum.inr x.1.2.nm:Key),V.bl true)
   refine⟨p,ws,rfl,by rw[hp2,e2];show _=some (HO.lst (((bs.map λx=>(x.2,(Sum.inr x.1.2.nm:Key),V.bl true)).map (·.1)).map V.ref));rw[map_map,map_map];rfl,λz hz=>?_,by show(bs.map _).length≤900;rw[length_map];omega,λd hd=>?_⟩
   ·obtain⟨x,hx,rfl⟩:=mem_map.mp hz;exact e3 x hx
   have s3:=(s1.trans s2).trans (af (o:=.dK (aU ws)) hd);have gd:upd H2 d (.dK (aU ws)) d=some (.dK (aU ws)):=ac;generalize upd H2 d (.dK (aU ws))=H3 at s3 gd⊢;have isT:∀x:Str,(aT (aU ws) (Sum.inr x:Key)).isSome=true↔oC (nds zs) (nds us) x:=λx=>by
    rw[←ca];unfold aU;rw[jY,any_nil,Bool.false_or,any_eq_true];constructor
    ·rintro⟨z,hz,e⟩;obtain⟨y,hy,rfl⟩:=mem_map.mp hz;have hm:y.1∈(zs++us).filter (λz=>decide (z.2.par=0)):=by rw[←e1];exact mem_map.mpr ⟨y,hy,rfl⟩
     obtain⟨h1,h2⟩:=mem_filter.mp hm;have ex:y.1.2.nm=x:=by have:=of_decide_eq_true e;injection this
     refine⟨y.1.2,?_,of_decide_eq_true h2,ex⟩;rcases mem_append.mp h1 with h|h
     ·exact .inl (aH h)
     ·exact .inr (aH h)
    ·rintro⟨n,hn,h0,e⟩;obtain⟨z,hz,rfl⟩:∃z∈zs++us,z.2=n:=by
      rcases hn with hn|hn
      ·obtain⟨z,hz,e⟩:=cj hn;exact⟨z,mem_append_left _ hz,e⟩
      ·obtain⟨z,hz,e⟩:=cj hn;exact⟨z,mem_append_right _ hz,e⟩
     have hm:z∈bs.map (·.1):=by rw[e1];exact mem_filter.mpr ⟨hz,decide_eq_true h0⟩
     obtain⟨y,hy,rfl⟩:=mem_map.mp hm;exact⟨_,mem_map.mpr ⟨y,hy,rfl⟩,decide_eq_true (by rw[e])⟩
   have hll:(nds zs).length+(nds us).length≤60:=by unfold nds;rw[length_map,length_map];omega
   dsimp only[aY,lD];refine gp (λσ H'=>∃c:Nat,σ=[some (.ref t),some (.ref u),some (.ref d),some (.int c)]∧1≤c∧(∀j,1≤j→j<c→oC (nds zs) (nds us) (aX j))∧H'=H3)
    (λσ H'=>match σ with | [_,_,_,some (.int k)]=>70-k.toNat | _=>0) ⟨1,rfl,le_refl _,(λj h1 h2=>absurd h2 (by omega)),rfl⟩ (λσ H' h=>?_) ?_
   ·obtain⟨c,rfl,hc1,hall,rfl⟩:=h;have hc:=pQ hll hall;refine⟨_,rfl,c,rfl,by omega,_,rfl,d,_,rfl,eB.k (k:=Sum.inr (aX c)) gd,_,rfl,?_⟩
    by_cases ht:oC (nds zs) (nds us) (aX c)
    ·rw[(isT _).mpr ht];refine aA ⟨_,rfl,_,_,rfl,rfl,?_⟩;have hall':∀j,1≤j→j<c+1→oC (nds zs) (nds us) (aX j):=λj h1 h2=>by
      by_cases e:j=c
      ·rw[e];exact ht
      ·exact hall j h1 (by omega)
     refine⟨⟨c+1,by show[_,_,_,some (V.int ((c:Int)+1))]=_;rfl,by omega,hall',rfl⟩,?_⟩;have:=pQ hll hall';show 70-((c:Int)+1).toNat<70-((c:Int)).toNat;omega
    ·have:(aT (aU ws) (Sum.inr (aX c):Key)).isSome=false:=by
      cases h:(aT (aU ws) (Sum.inr (aX c):Key)).isSome with
      |false=>rfl
      |true=>exact absurd ((isT _).mp h) ht
     rw[this];exact aD ⟨_,rfl,c,rfl,by omega,q c _ s3 ⟨hc1,by omega,ht,hall⟩⟩
   ·rintro σ H1 Q1 Q2 m ⟨v,e,n,e1,e2,v2,e3,a,o,e4,g,b,e5,q⟩;exact⟨v,e,n,e1,e2,v2,e3,a,o,e4,g,b,e5,m _ _ q⟩
end
def dX:TW.Deed Str→Bool
 |.move _ _ _=>true
 |_=>false
def dQ:TW.Deed Str→Int
 |.make n _ _ _=>n
 |.write n _=>n
 |.move n _ _=>n
 |.drop n=>n
theorem tw(d:TW.Deed Str):∃x:Str,(bJ d)[0]?=some (.str x)∧decide (x="move")=dX d:=by
 cases d
 ·exact⟨_,rfl,(show decide (("make":Str)="move")=false by decide +kernel)⟩
 ·exact⟨_,rfl,(show decide (("write":Str)="move")=false by decide +kernel)⟩
 ·exact⟨_,rfl,(show decide (("move":Str)="move")=true by decide +kernel)⟩
 ·exact⟨_,rfl,(show decide (("drop":Str)="move")=false by decide +kernel)⟩
theorem oD(d:TW.Deed Str):(bJ d)[1]?=some (.int (dQ d)):=by cases d<;>rfl
def lh(ds:List (TW.Deed Str))(k:Int):Prop:=∃d∈ds,dX d=true∧dQ d=k
def Okd(t:List Nd)(d:TW.Deed Str):Prop:=∃v,TW.Told t d (.inr v)
inductive Nxt(t u:List Nd)(ds:List (TW.Deed Str)):Option (TW.Deed Str)→Prop where
 |drop {x:Nd}:lg t (TW.db t u) x→Nxt t u ds (some (.drop x.num))
 |place {ps:List (TW.Deed Str)} {d:TW.Deed Str}:(∀x∈t,¬TW.db t u x)→TW.Plcs t u ps→lg ps (Okd t) d→Nxt t u ds (some d)
 |aside {ps:List (TW.Deed Str)} {d:TW.Deed Str} {c:Nat}:(∀x∈t,¬TW.db t u x)→TW.Plcs t u ps→(∀d∈ps,¬Okd t d)→lg ps (λd=>dX d=true∧¬lh ds (dQ d)) d→FreeN t u c→Nxt t u ds (some (.move (dQ d) 0 (aX c)))
 |no {ps:List (TW.Deed Str)}:(∀x∈t,¬TW.db t u x)→TW.Plcs t u ps→(∀d∈ps,¬Okd t d)→(∀d∈ps,¬(dX d=true∧¬lh ds (dQ d)))→Nxt t u ds none
def jk(n:Nd):Prop:=1≤n.num∧n.num≤99∧0≤n.par∧n.par≤99∧n.nm.length≤100
theorem uW{t:List Nd}{u:List Nd}{ps:List (TW.Deed Str)}(h:TW.Plcs t u ps)(hu:∀n∈u,jk n):∀d∈ps,bX d:=by
 induction h with
 |nil=>intro d hd;cases hd
 |skip _ _ ih=>exact ih λn hn=>hu n (mem_append_left _ hn)
 |@take n u ds d _ hp ih =>
  intro e he;rcases mem_append.mp he with he|he
  ·exact ih (λn hn=>hu n (mem_append_left _ hn)) e he
  ·have:e=d:=mem_singleton.mp he;subst this;obtain⟨h1,h2,h3,h4,h5⟩:=hu n (mem_append_right _ (mem_singleton.mpr rfl));cases hp with
   |new _=>exact⟨h1,h2,h3,h4,h5⟩
   |mv _ _ _=>exact⟨h1,h2,h3,h4,h5⟩
theorem nC{α β:Type}{ds:List (α×β)}{i:Nat}{x:α×β}{p:β→Prop}(hx:ds[i]?=some x)(hi:∀y∈ds.take i,¬p y.2)(h:p x.2):lg (ds.map (·.2)) p x.2:=by
 have et:ds.take (i+1)=ds.take i++[x]:=bh hx;refine⟨(ds.take i).map (·.2),(ds.drop (i+1)).map (·.2),?_,λy hy=>?_,h⟩
 ·have:=List.take_append_drop (i+1) ds;rw[et,append_assoc]at this
  conv=>lhs;rw[←this]
  rw[map_append];rfl
 ·obtain⟨z,hz,rfl⟩:=mem_map.mp hy;exact hi z hz
section
variable{P:Program}{w:World}{K:PySem.W.Frag}{mg:Str→Option Value}{base:Heap}
def vF:Sp:=λvs H Q _=>∃t u l zs us ds,vs=[.ref t,.ref u,.ref l]∧Tre H t zs∧zs.length≤29∧Tre H u us∧(∀n∈nds us,jk n)∧H l=some (.lst (aG ds))∧de H ds∧ds.length≤300 ∧
 (∀d r H',Nxt (nds zs) (nds us) (ds.map (·.2)) (some d)→ak H H'→H' r=some (.tup (bJ d))→Q (.ref r) H')∧(Nxt (nds zs) (nds us) (ds.map (·.2)) none→∀H',ak H H'→Q .non H')
theorem jZ:FnScope ["now","new","deeds","drop","left","deed","moved"] ["now","new","deeds"] (ai eO):=fsc
theorem xv{f:Addr}{fd:FuncData}(F:Fun K "next_deed" "next_deed" eO f fd)(T:Txt mg)(CB:Has P w K mg base 1 "by_number" ["tree"] dU)(CD:Has P w K mg base 3 "next_drop" ["now","goal"] sX)(CP:Has P w K mg base 2 "placings" ["now","new"] tf)(CR:Has P w K mg base 5 "is_refused" ["tree","deed"] sZ)(CF:Has P w K mg base 2 "free_name" ["now","new"] tu):FnOk P w K mg base CX0 6 f fd ["now","new","deeds"] vF:=by
 obtain⟨fB,fdB,GB,mB,kB,bB⟩:=CB;obtain⟨fD,fdD,GD,mD,kD,bD⟩:=CD;obtain⟨fP,fdP,GP,mP,kP,bP⟩:=CP;obtain⟨fR,fdR,GR,mR,kR,bR⟩:=CR;obtain⟨fF,fdF,GF,mF,kF,bF⟩:=CF;obtain⟨tt,hT⟩:=T.top;refine F.ok jZ (λvs H Q E h=>?_) (λcdv A outer s H vs Q E hr h=>?_)
 ·obtain⟨t,u,l,zs,us,ds,rfl,_⟩:=h;rfl
 ·obtain⟨t,u,l,zs,us,ds,rfl,tr,hz,ur,uok,hL,hD,hdl,q1,q2⟩:=h;have hr1:Room 1 _:=hr.mono (by decide);have hr2:Room 2 _:=hr.mono (by decide);have hr3:Room 3 _:=hr.mono (by decide);have ul:=ur.len;have und:=ci ur.tr;refine⟨_,ag (au (i:=3) jZ.nd rfl (Or.inl rfl) (am GD hr3 rfl mD kD bD .nil aP (aa (pv 0) (aa (am GB hr1 rfl mB kB bB .nil aP (aa (pv 1) ae)) ae))))
   (ag (bj (aw kn (pv 3) cp (aC _)) (aj (av (pv 3))) aJ)
   (ag (au (i:=4) jZ.nd rfl (Or.inl rfl) (am GP hr2 rfl mP kP bP .nil aP (aa (pv 0) (aa (pv 1) ae))))
   (ag (cD PassesOwn.never rfl (cI (pv 4)) (aF (i:=5) jZ.nd rfl (Or.inl rfl)) (aj (bj (dE (dY (am GR hr rfl mR kR bR .nil aP (aa (pv 0) (aa (pv 5) ae))) (λ_=>rfl))) (aj (av (pv 5))) aJ)))
   (ag (au (i:=6) jZ.nd rfl (Or.inl rfl) (bf (jj rfl) rfl T.dict boot_dict (aa (iP (N:=["deed"]) (cl:=[]) (k:=1) (js:=[]) (g:=aY 0) rfl (cW rfl (by decide +kernel) (by decide +kernel) (by decide +kernel)) rfl (λi j x h=>by simp at h)
    (cI (pv 2)) (λs H fp=>aF (i:=0) (show(["deed"]:List Str).Nodup by decide +kernel) rfl (Or.inl rfl) (Or.inr rfl))
    (λs H fp=>aw cG (ar (r:=dc K) ap (pv 0) ah (λ_ _=>rfl)) bx (aC _)) (λs H fp=>aN (aa (ar (r:=dc K) ap (pv 0) ah (λ_ _=>rfl)) (aa cF ae)))) ae)))
   (ag (cD PassesOwn.never rfl (cI (pv 4)) (aF (i:=5) jZ.nd rfl (Or.inl rfl)) (aj (bj (PW.pt (pw_and (aw cG (ar ap (pv 5) ah (λ_ _=>rfl)) bx (aC _)) (pw_and1 (cU (cQ (cc hr) (ar ap (pv 5) ah (λ_ _=>rfl)) (pv 6))))))
     (aj (av (aN (aa bx (aa (ar ap (pv 5) ah (λ_ _=>rfl)) (aa (bQ (v:=.int 0) rfl hT ⟨_,rfl⟩) (aa (am GF hr2 rfl mF kF bF .nil aP (aa (pv 0) (aa (pv 1) ae))) ae))))))) aJ)))
   (aj (av cp))))))),?_⟩
  refine⟨_,rfl,_,rfl,u,us,rfl,ur.tup,ur.nod,by omega,und,λd H1 s1 nd1=>?_⟩;refine⟨t,d,zs,us,rfl,tr.same s1,nd1,und,λx hx r H2 s2 hr2'=>?_,λhno H2 s2=>?_⟩
  ·exact⟨_,rfl,rfl,_,rfl,aA ⟨_,rfl,q1 _ r H2 (.drop hx) (s1.trans s2) hr2'⟩⟩
  ·have s12:=s1.trans s2;refine⟨_,rfl,rfl,_,rfl,aD ⟨_,rfl,_,rfl,t,u,zs,us,rfl,tr.same s12,ur.same s12,λk ps H3 s3 hk hA hP=>?_⟩⟩;have s13:=s12.trans s3;have pok:=uW hP uok;have pl:=nr hP;have pl2:ps.length≤30:=by
    rw[length_map]at pl;have h2:(nds us).length=us.length:=by unfold nds;rw[length_map]
    omega
   refine⟨_,rfl,k,rfl,⟨_,SqL.of hk⟩,du (xs:=aG ps) (λi σ H'=>(∃x5,σ=[some (.ref t),some (.ref u),some (.ref l),some .non,some (.ref k),x5,none])∧ak H3 H'∧∀y∈ps.take i,¬Okd (nds zs) y.2) ⟨⟨_,rfl⟩,ak.refl _,by simp⟩ (λi σ H' _ h=>SqL.of (h.2.1 _ _ hk)) (λi x σ H' hx h=>?_) (λσ H4 h=>?_)⟩
   ·obtain⟨⟨x5,rfl⟩,s4,hi⟩:=h;obtain⟨y,gy,rfl⟩:∃y,ps[i]?=some y∧x=V.ref y.1:=by
     unfold aG at hx;rw[getElem?_map]at hx;cases hg:ps[i]? with
     |none=>rw[hg]at hx;cases hx
     |some y=>rw[hg]at hx;exact⟨y,rfl,(Option.some.inj hx).symm⟩
    have my:=mem_of_getElem? gy;have et:ps.take (i+1)=ps.take i++[y]:=bh gy;have ay:=s4 _ _ (hA y my);refine⟨_,rfl,_,rfl,t,y.1,zs,y.2,rfl,tr.same (s13.trans s4),hz,ay,pok _ (mem_map.mpr ⟨y,my,rfl⟩),λv told H5 s5=>?_,λwd told H5 s5=>?_⟩
    ·refine⟨_,rfl,aA ⟨_,rfl,q1 y.2 y.1 H5 (.place hno hP (nC gy hi ⟨v,told⟩)) (s13.trans (s4.trans s5)) (s5 _ _ ay)⟩⟩
    ·refine⟨_,rfl,aD ⟨⟨_,rfl⟩,s4.trans s5,λy' hy'=>?_⟩⟩;rw[et]at hy';rcases mem_append.mp hy' with h|h
     ·exact hi y' h
     ·have e:y'=y:=mem_singleton.mp h;subst e;rintro⟨v,tv⟩;have:=tv.one tr.tr told;cases this
   ·obtain⟨⟨x5,rfl⟩,s4,hi⟩:=h;have href:∀d∈ps.map (·.2),¬Okd (nds zs) d:=λd hd=>by
     obtain⟨y,hy,rfl⟩:=mem_map.mp hd;refine hi y ?_;unfold aG;rw[length_map,take_length];exact hy
    have s14:=s13.trans s4;have hL4:=s14 _ _ hL;refine⟨_,rfl,l,rfl,⟨_,SqL.of hL4⟩,λp hp=>?_⟩;refine ja (fr:=[]) ds (λx=>V.ref x.1) (by omega) hp (kS (SqL.of hL4)) rfl (λx=>dX x.2) (λx y H'=>∃q,y=.ref q∧q≠p∧H' q=some (.tup [.int (dQ x.2),.bl true])) (λz y H H' ⟨q,e,ne,h⟩ ex=>⟨q,e,ne,ex q _ ne h⟩) (λx H' kk mx s5 _ hk'=>?_) (λx H' kk mx hg s5 hpl hk'=>?_) (λys H5 s5 hp5 hys=>?_)
    ·obtain⟨wd,hw,ew⟩:=tw x.2;refine⟨_,rfl,x.1,_,0,_,rfl,rfl,SqT.of (s5 _ _ (s14 _ _ (hD x mx))),bG (j:=0) hw,rfl,_,rfl,?_⟩;rw[show decide (V.str wd=V.str ("move":Str))=dX x.2 by rw[←ew,decide_eq_decide];exact⟨λh=>by injection h,λh=>by rw[h]⟩];exact hk' H' (ak.refl _)
    ·exact⟨_,rfl,x.1,_,1,_,rfl,rfl,SqT.of (s5 _ _ (s14 _ _ (hD x mx))),bG (j:=1) (oD x.2),le2,λq hq=>hk' _ _ (af hq) ⟨q,rfl,fJ hpl hq,ac⟩⟩
    ·obtain⟨bs,e1,e2,e3⟩:=cS (val:=V.ref) (S:=λ(x:Addr×TW.Deed Str) (q:Addr)=>H5 q=some (.tup [.int (dQ x.2),.bl true])) hys (λz y _ ⟨q,e,_,h⟩=>⟨q,e,h⟩);have hbl:bs.length≤300:=by
      have h1:=congrArg length e1;rw[length_map]at h1;have h2:=length_filter_le (λx:Addr×TW.Deed Str=>dX x.2) ds;omega
     let ws:List (Addr×Key×V):=bs.map λx=>(x.2,(Sum.inl (dQ x.1.2):Key),V.bl true)
     refine⟨p,ws,rfl,by rw[hp5,e2];show _=some (HO.lst (((bs.map λx=>(x.2,(Sum.inl (dQ x.1.2):Key),V.bl true)).map (·.1)).map V.ref));rw[map_map,map_map];rfl,λz hz=>?_,by show(bs.map _).length≤900;rw[length_map];omega,λg hg=>?_⟩
     ·obtain⟨x,hx,rfl⟩:=mem_map.mp hz;exact e3 x hx
     have s6:=s5.trans (af (o:=.dK (aU ws)) hg);have gd:upd H5 g (.dK (aU ws)) g=some (.dK (aU ws)):=ac;show lD _ _ _ _ (upd H5 g (.dK (aU ws)));generalize upd H5 g (.dK (aU ws))=H6 at s6 gd⊢;have s16:=s14.trans s6;have isM:∀n:Int,(aT (aU ws) (Sum.inl n:Key)).isSome=true↔lh (ds.map (·.2)) n:=λn=>by
      rw[←ca];unfold aU;rw[jY,any_nil,Bool.false_or,any_eq_true];constructor
      ·rintro⟨z,hz,e⟩;obtain⟨y,hy,rfl⟩:=mem_map.mp hz;have hm:y.1∈ds.filter (λx=>dX x.2):=by rw[←e1];exact mem_map.mpr ⟨y,hy,rfl⟩
       obtain⟨h1,h2⟩:=mem_filter.mp hm;have ex:dQ y.1.2=n:=by have:=of_decide_eq_true e;injection this
       exact⟨y.1.2,mem_map.mpr ⟨_,h1,rfl⟩,h2,ex⟩
      ·rintro⟨d,hd,h0,e⟩;obtain⟨z,hz,rfl⟩:=mem_map.mp hd;have hm:z∈bs.map (·.1):=by rw[e1];exact mem_filter.mpr ⟨hz,h0⟩
       obtain⟨y,hy,rfl⟩:=mem_map.mp hm;exact⟨_,mem_map.mpr ⟨y,hy,rfl⟩,decide_eq_true (by rw[e])⟩
     have hk6:=s6 _ _ (s4 _ _ hk);refine⟨_,rfl,k,rfl,⟨_,SqL.of hk6⟩,du (xs:=aG ps) (λi σ H'=>(∃x5,σ=[some (.ref t),some (.ref u),some (.ref l),some .non,some (.ref k),x5,some (.ref g)])∧H'=H6∧∀y∈ps.take i,¬(dX y.2=true∧¬lh (ds.map (·.2)) (dQ y.2))) ⟨⟨_,rfl⟩,rfl,by simp⟩ (λi σ H' _ h=>by rw[h.2.1];exact SqL.of hk6) (λi x σ H' hx h=>?_) (λσ H' h=>?_)⟩
     ·obtain⟨⟨x5,rfl⟩,rfl,hi⟩:=h;obtain⟨y,gy,rfl⟩:∃y,ps[i]?=some y∧x=V.ref y.1:=by
       unfold aG at hx;rw[getElem?_map]at hx;cases hg':ps[i]? with
       |none=>rw[hg']at hx;cases hx
       |some y=>rw[hg']at hx;exact⟨y,rfl,(Option.some.inj hx).symm⟩
      have my:=mem_of_getElem? gy;have et:ps.take (i+1)=ps.take i++[y]:=bh gy;have ay:SqT K H' y.1 (bJ y.2):=SqT.of (s6 _ _ (s4 _ _ (hA y my)));have step:¬(dX y.2=true∧¬lh (ds.map (·.2)) (dQ y.2))→∀y'∈ps.take (i+1),¬(dX y'.2=true∧¬lh (ds.map (·.2)) (dQ y'.2)):=λh y' hy'=>by
       rw[et]at hy';rcases mem_append.mp hy' with h'|h'
       ·exact hi y' h'
       ·have e:y'=y:=mem_singleton.mp h';rw[e];exact h
      obtain⟨wd,hw,ew⟩:=tw y.2;refine⟨_,rfl,y.1,_,0,_,rfl,rfl,ay,bG (j:=0) hw,rfl,_,rfl,?_⟩;rw[show decide (V.str wd=V.str ("move":Str))=dX y.2 by rw[←ew,decide_eq_decide];exact⟨λh=>by injection h,λh=>by rw[h]⟩];cases hmv:dX y.2 with
      |false=>exact aD (aD ⟨⟨_,rfl⟩,rfl,step λh=>by rw[hmv]at h;cases h.1⟩)
      |true =>
       refine aA ⟨_,rfl,y.1,_,1,_,rfl,rfl,ay,bG (j:=1) (oD y.2),_,rfl,g,_,rfl,eB.k (k:=Sum.inl (dQ y.2)) gd,_,rfl,?_⟩
       by_cases hM:lh (ds.map (·.2)) (dQ y.2)
       ·rw[(isM _).mpr hM];exact aD ⟨⟨_,rfl⟩,rfl,step λh=>h.2 hM⟩
       ·have:(aT (aU ws) (Sum.inl (dQ y.2):Key)).isSome=false:=by
         cases h:(aT (aU ws) (Sum.inl (dQ y.2):Key)).isSome with
         |false=>rfl
         |true=>exact absurd ((isM _).mp h) hM
        rw[this];refine aA ⟨_,rfl,y.1,_,1,_,rfl,rfl,ay,bG (j:=1) (oD y.2),_,rfl,_,rfl,t,u,zs,us,rfl,tr.same s16,ur.same s16,λc H7 s7 hc=>⟨(show 4≤sizeLine from ao (by decide)),λr hr'=>?_⟩⟩;exact q1 (.move (dQ y.2) 0 (aX c)) r _ (.aside hno hP href (nC gy hi ⟨hmv,hM⟩) hc) (s16.trans (s7.trans (af hr'))) ac
     ·obtain⟨⟨x5,rfl⟩,rfl,hi⟩:=h;refine q2 (.no hno hP href λd hd=>?_) _ s16;obtain⟨y,hy,rfl⟩:=mem_map.mp hd;refine hi y ?_;unfold aG;rw[length_map,take_length];exact hy
end
structure Sound(u:List Nd)(I:List Nd→List (TW.Deed Str)→Prop)(μ:List Nd→List (TW.Deed Str)→Nat):Prop where
 bd:∀t ds,I t ds→t.length≤29∧ds.length≤200∧ig t u
 nx:∀t ds d,I t ds→Nxt t u ds (some d)→bX d∧∃t1,TW.Told t d (.inr t1)∧I t1 (ds++[d])∧μ t1 (ds++[d])<μ t ds
 fin:∀t ds,I t ds→Nxt t u ds none→∀n∈t,TW.bu u n.num
def xw(t u:List Nd)(ds:List (TW.Deed Str))(dv:V)(H:Hp):Prop:=(dv=.non∧Nxt t u ds none)∨∃r d,dv=.ref r∧H r=some (.tup (bJ d))∧Nxt t u ds (some d)
def tD:Sp:=λvs H Q _=>∃t u l zs us ds,vs=[.ref t,.ref u,.ref l]∧Tre H t zs∧zs.length≤29∧Tre H u us∧(∀n∈nds us,jk n)∧H l=some (.lst (aG ds))∧de H ds∧ds.length≤300∧∀dv H',ak H H'→xw (nds zs) (nds us) (ds.map (·.2)) dv H'→Q dv H'
theorem uX(vs:List V)(H:Hp)(Q:VK)(E:XK)(h:tD vs H Q E):vF vs H Q E:=by
 obtain⟨t,u,l,zs,us,ds,e,a1,a2,a3,a4,a5,a6,a7,q⟩:=h;exact⟨t,u,l,zs,us,ds,e,a1,a2,a3,a4,a5,a6,a7,λd r H' n s hr=>q _ H' s (.inr ⟨r,d,rfl,hr,n⟩),λn H' s=>q _ H' s (.inl ⟨rfl,n⟩)⟩
section
variable{P:Program}{w:World}{K:PySem.W.Frag}{mg:Str→Option Value}{base:Heap}
def pS(CN:Addr):Sp:=λvs H Q E=>∃t u zs us,vs=[.ref t,.ref u]∧Tre H t zs∧Tre H u us∧(∀z∈zs,-1≤z.2.num∧z.2.num≤99)∧(∀n∈nds us,jk n)∧(¬ig (nds zs) (nds us)→∀H',ak H H'→E (.ref CN) none H') ∧
 (ig (nds zs) (nds us)→∃I μ,Sound (nds us) I μ∧I (nds zs) []∧∀l ds t2 dd H',ak H H'→I t2 dd→Nxt t2 (nds us) dd none→H' l=some (.lst (aG ds))→de H' ds→ds.map (·.2)=dd++nB t2 (nds us)→TW.Chain (nds zs) dd t2→Q (.ref l) H')
theorem ka:FnScope ["old","new","deeds","now","deed"] ["old","new"] (ai fY):=fsc
theorem uY{f CN:Addr}{fd:FuncData}{cls:TW.Wd→Addr}(F:Fun K "in_steps" "in_steps" fY f fd)(CK:da P w K mg base 2 "check_kinds" ["old","new"] (sW CN))(CX:Has P w K mg base 6 "next_deed" ["now","new","deeds"] tD)(CD:da P w K mg base 4 "done" ["tree","deed"] (jf cls))(CW:Has P w K mg base 2 "writes" ["now","new"] tq):FnOk P w K mg base (CX1 P w) 7 f fd ["old","new"] (pS CN):=by
 obtain⟨fK,fdK,GK,mK,kK,bK⟩:=CK;obtain⟨fN,fdN,GN,mN,kN,bN⟩:=CX;obtain⟨fD,fdD,GD,mD,kD,bD⟩:=CD;obtain⟨fW,fdW,GW,mW,kW,bW⟩:=CW;refine F.okX ka (λvs H Q E h=>?_) (λcdv A outer s H vs Q E hr h=>?_)
 ·obtain⟨t,u,zs,us,rfl,_⟩:=h;rfl
 ·obtain⟨t,u,zs,us,rfl,tr,ur,hb,uok,qE,qo⟩:=h;have hr2:Room 2 _:=hr.mono (by decide);have hr4:Room 4 _:=hr.mono (by decide);refine⟨_,ag (bi (am (E:=E) GK hr2 rfl mK kK bK .nil (cB bp) (aa (pv 0) (aa (pv 1) ae))))
   (ag (au (i:=2) ka.nd rfl (Or.inl rfl) (cg ae)) (ag (au (i:=3) ka.nd rfl (Or.inl rfl) (pv 0))
   (ag (au (i:=4) ka.nd rfl (Or.inl rfl) (am GN hr rfl mN kN bN .nil aP (aa (pv 3) (aa (pv 1) (aa (pv 2) ae)))))
   (ag (dZ (wL bp) (aw kn (pv 4) cp (aC _))
    (ag (bi (eA plainAttrs_list PySem.F.slot_list_append PySem.F.type_list_append bg (pv 2) (aa (pv 4) ae)))
    (ag (au (i:=3) ka.nd rfl (Or.inl rfl) (am (E:=E) GD hr4 rfl mD kD bD .nil (cB bp) (aa (pv 3) (aa (pv 4) ae))))
    (aj (au (i:=4) ka.nd rfl (Or.inl rfl) (am GN hr rfl mN kN bN .nil aP (aa (pv 3) (aa (pv 1) (aa (pv 2) ae)))))))))
   (aj (av (aK wp (pv 2) (am GW hr2 rfl mW kW bW .nil aP (aa (pv 3) (aa (pv 1) ae)))))))))),?_⟩
  refine⟨_,rfl,_,rfl,t,u,zs,us,rfl,tr,ur,hb,λsk H1 s1=>?_,λnsk H1 s1=>qE nsk H1 s1⟩;obtain⟨I,μ,So,i0,q⟩:=qo sk;refine⟨zero_le _,λl hl=>?_⟩;have s2:=s1.trans (af (o:=.lst []) hl);have fl:H l=none:=s1.free hl;have gl:upd H1 l (.lst []) l=some (.lst (aG [])):=ac;generalize upd H1 l (.lst [])=H2 at s2 gl⊢;have b0:=So.bd _ _ i0;have zl:∀z:ZN,(nds z).length=z.length:=λz=>by unfold nds;rw[length_map]
  refine⟨_,rfl,?_⟩;refine⟨_,rfl,_,rfl,_,rfl,t,u,l,zs,us,[],rfl,tr.same s2,by have:=b0.1;rw[zl]at this;exact this,ur.same s2,uok,gl,(λx h=>nomatch h),by decide,?_⟩;intro dv H3 s3 hres;dsimp only[aY,lD];have s23:=s2.trans s3;refine⟨λm σ H'=>∃now zn ds dv,m=μ (nds zn) (ds.map (·.2))∧σ=[some (.ref t),some (.ref u),some (.ref l),some (.ref now),some dv]∧Tre H' now zn∧I (nds zn) (ds.map (·.2))∧H' l=some (.lst (aG ds))∧de H' ds∧(∀x∈ds,x.1≠l)∧TW.Chain (nds zs) (ds.map (·.2)) (nds zn)∧xw (nds zn) (nds us) (ds.map (·.2)) dv H'∧ak H H',
   ⟨_,t,zs,[],dv,rfl,rfl,tr.same s23,i0,s3 _ _ gl,(λx h=>nomatch h),(λx h=>nomatch h),.nil,hres,s23⟩,λm σ H' h=>?_⟩
  obtain⟨now,zn,ds,dv,rfl,rfl,trn,hI,hL,hD,hne,hC,hR,sH⟩:=h;have bd:=So.bd _ _ hI;have zn29:zn.length≤29:=by have:=bd.1;rw[zl]at this;exact this
  have dl:ds.length≤200:=by have:=bd.2.1;rw[length_map]at this;exact this
  refine⟨_,rfl,rfl,_,rfl,?_⟩;rcases hR with⟨rfl,hn⟩|⟨r,d,rfl,hr',hn⟩
  ·refine aD ⟨_,rfl,_,rfl,_,rfl,now,u,zn,us,rfl,trn,ur.same sH,So.fin _ _ hI hn,bd.2.2,λl2 es H4 s4 hl2 hE e4=>?_⟩;have hlen:es.length≤30:=by
    have h1:=congrArg length e4;unfold nB at h1;rw[length_map,length_map]at h1;have h2:=length_filter_le (λn:Nd=>!decide (n.st=hV (nds us) n.num)) (nds zn);rw[zl]at h2;omega
   refine⟨l,l2,_,_,rfl,rfl,s4 _ _ hL,hl2,by unfold aG;rw[length_map,length_map];exact ao (by omega),λl3 hl3=>?_⟩;have s5:=s4.trans (af (o:=.lst (aG ds++aG es)) hl3);refine q l3 (ds++es) (nds zn) (ds.map (·.2)) _ (sH.trans s5) hI hn ?_ (λx hx=>?_) (by rw[map_append,e4]) hC
   ·rw[ac];unfold aG;rw[map_append]
   ·rcases mem_append.mp hx with hx|hx
    ·exact s5 _ _ (hD x hx)
    ·exact(af hl3) _ _ (hE x hx)
  ·obtain⟨dok,t1,told,hI1,hμ⟩:=So.nx _ _ _ hI hn;refine aA ⟨λσ' H''=>∃m',m'<μ (nds zn) (ds.map (·.2))∧∃now zn ds dv,m'=μ (nds zn) (ds.map (·.2))∧σ'=[some (.ref t),some (.ref u),some (.ref l),some (.ref now),some dv]∧Tre H'' now zn∧I (nds zn) (ds.map (·.2))∧H'' l=some (.lst (aG ds))∧de H'' ds∧(∀x∈ds,x.1≠l)∧TW.Chain (nds zs) (ds.map (·.2)) (nds zn)∧xw (nds zn) (nds us) (ds.map (·.2)) dv H''∧ak H H'',λ_ _ h=>h,?_⟩;have hrl:r≠l:=λz=>by rw[z,hL]at hr';cases hr'
   refine⟨_,rfl,.inl ⟨rfl,_,SqL.of hL⟩,_,rfl,l,_,_,rfl,rfl,hL,ax (by unfold aG;rw[length_map];omega),?_⟩;have keep:∀b o,b≠l→H' b=some o→upd H' l (.lst (aG ds++[.ref r])) b=some o:=λb o hb h=>by rw[al hb];exact h
   have notl:∀{b:Addr}{xs:List V},H' b=some (.tup xs)→b≠l:=λh z=>by rw[z,hL]at h;cases h
   have gl4:upd H' l (.lst (aG ds++[.ref r])) l=some (.lst (aG (ds++[(r,d)]))):=by rw[ac];unfold aG;rw[map_append];rfl
   have sH4:ak H (upd H' l (.lst (aG ds++[.ref r]))):=λb o h=>keep _ _ (λz=>by rw[z,fl]at h;cases h) (sH _ _ h);generalize upd H' l (.lst (aG ds++[.ref r]))=H4 at keep gl4 sH4⊢;have trn4:Tre H4 now zn:=⟨keep _ _ (notl trn.tup) trn.tup,λz hz=>keep _ _ (notl (trn.nod z hz)) (trn.nod z hz),trn.tr,trn.len⟩;have hD4:de H4 (ds++[(r,d)]):=λx hx=>by
    rcases mem_append.mp hx with hx|hx
    ·exact keep _ _ (hne x hx) (hD x hx)
    ·rw[mem_singleton.mp hx];exact keep _ _ hrl hr'
   have ed:(ds++[(r,d)]).map (·.2)=ds.map (·.2)++[d]:=by rw[map_append];rfl
   refine⟨_,rfl,_,rfl,now,r,d,zn,rfl,trn4,zn29,keep _ _ hrl hr',dok,⟨λws t' H5 s5 ht' hA tl=>?_,λwd H5 s5 tl=>?_⟩⟩
   ·have e5:nds ws=t1:=Sum.inr.inj (tl.one trn.tr told);have sH5:=sH4.trans s5;have bd1:=So.bd _ _ hI1;have wl:ws.length≤29:=by have:=bd1.1;rw[←e5,zl]at this;exact this
    have trw:Tre H5 t' ws:=⟨ht',hA,by rw[e5];exact told.tree trn.tr dok.pos,by omega⟩;refine⟨_,rfl,_,rfl,_,rfl,t',u,l,ws,us,ds++[(r,d)],rfl,trw,wl,ur.same sH5,uok,s5 _ _ gl4,hD4.same s5,by rw[length_append];simp;omega,λdv2 H6 s6 hres2=>?_⟩;refine⟨_,?_,t',ws,ds++[(r,d)],dv2,rfl,rfl,trw.same s6,by rw[ed,e5];exact hI1,s6 _ _ (s5 _ _ gl4),(hD4.same s5).same s6,λx hx=>?_,by rw[ed];exact hC.snoc (by rw[e5];exact told),hres2,sH5.trans s6⟩
    ·rw[ed,e5];exact hμ
    ·rcases mem_append.mp hx with hx|hx
     ·exact hne x hx
     ·rw[mem_singleton.mp hx];exact hrl
   ·have:=tl.one trn.tr told;cases this
end
def nD(t:List Nd)(n:Nd):Prop:=∃m∈t,m.num=n.num∧m.par=n.par∧m.nm=n.nm
section
variable{t u:List Nd}{ds ps:List (TW.Deed Str)}
end
section
variable{α:Type}
end
section
variable{t0 u t:List Nd}{ds:List (TW.Deed Str)}
end
theorem li{α:Type}{p:α→Prop}:∀{l:List α}{x y:α},lg l p x→lg l p y→x=y:=by
 intro l
 induction l with
 |nil=>rintro x y ⟨a,b,e,_⟩;simp at e
 |cons z r ih =>
  rintro x y ⟨a,b,e,h1,h2⟩ ⟨a',b',e',h1',h2'⟩;cases a with
  |nil =>
   cases a' with
   |nil =>
    simp only[nil_append,List.cons.injEq]at e e';exact e.1.symm.trans e'.1
   |cons w s =>
    simp only[nil_append,cons_append,List.cons.injEq]at e e';exact absurd (e.1 ▸ h2:p z) (e'.1 ▸ h1' w mem_cons_self)
  |cons w s =>
   cases a' with
   |nil =>
    simp only[nil_append,cons_append,List.cons.injEq]at e e';exact absurd (e'.1 ▸ h2':p z) (e.1 ▸ h1 w mem_cons_self)
   |cons w' s' =>
    simp only[cons_append,List.cons.injEq]at e e';exact ih ⟨s,b,e.2,λy hy=>h1 y (mem_cons_of_mem _ hy),h2⟩ ⟨s',b',e'.2,λy hy=>h1' y (mem_cons_of_mem _ hy),h2'⟩
theorem cP{α:Type}{p:α→Prop}{l:List α}{x:α}(h:lg l p x):x∈l∧p x:=by
 obtain⟨a,b,e,_,h2⟩:=h;exact⟨by rw[e];simp,h2⟩
theorem gP{α:Type}{l m:List α}{a b:α}(h:l++[a]=m++[b]):l=m∧a=b:=by
 have:=List.append_inj' h rfl;exact⟨this.1,by simpa using this.2⟩
theorem cC{t:List Nd}(T:TW.Tree1 t):∀{u:List Nd}{ps qs:List (TW.Deed Str)},TW.Plcs t u ps→TW.Plcs t u qs→ps=qs:=by
 intro u ps qs h
 induction h generalizing qs with
 |nil =>
  intro h';generalize e:([]:List Nd)=w at h';cases h' with
  |nil=>rfl
  |skip _ _=>simp at e
  |take _ _=>simp at e
 |@skip n u ds _ hp ih =>
  intro h';generalize e:u++[n]=w at h';cases h' with
  |nil=>simp at e
  |skip h1 h2=>obtain⟨rfl,rfl⟩:=gP e;exact ih h1
  |take h1 h2=>obtain⟨rfl,rfl⟩:=gP e;have:=hp.one T h2;cases this
 |@take n u ds d _ hp ih =>
  intro h';generalize e:u++[n]=w at h';cases h' with
  |nil=>simp at e
  |skip h1 h2=>obtain⟨rfl,rfl⟩:=gP e;have:=hp.one T h2;cases this
  |take h1 h2 =>
   obtain⟨rfl,rfl⟩:=gP e;have:=hp.one T h2;cases this;rw[ih h1]
theorem tE{t u:List Nd}{a b:Nat}(h:FreeN t u a)(h':FreeN t u b):a=b:=by
 rcases Nat.lt_trichotomy a b with l|l|l
 ·exact absurd (h'.all a h.one l) h.no
 ·exact l
 ·exact absurd (h.all b h'.one l) h'.no
theorem eV{t u:List Nd}(T:TW.Tree1 t){ds:List (TW.Deed Str)}{a b:Option (TW.Deed Str)}(h:Nxt t u ds a)(h':Nxt t u ds b):a=b:=by
 cases h with
 |drop hx =>
  have:=cP hx;cases h' with
  |drop hy=>rw[li hx hy]
  |place hno _ _=>exact absurd this.2 (hno _ this.1)
  |aside hno _ _ _ _=>exact absurd this.2 (hno _ this.1)
  |no hno _ _ _=>exact absurd this.2 (hno _ this.1)
 |place hno hP hf =>
  have hm:=cP hf;cases h' with
  |drop hy=>have:=cP hy;exact absurd this.2 (hno _ this.1)
  |place _ hQ hg=>cases cC T hP hQ;rw[li hf hg]
  |aside _ hQ href _ _=>cases cC T hP hQ;exact absurd hm.2 (href _ hm.1)
  |no _ hQ href _=>cases cC T hP hQ;exact absurd hm.2 (href _ hm.1)
 |aside hno hP href hf hc =>
  have hm:=cP hf;cases h' with
  |drop hy=>have:=cP hy;exact absurd this.2 (hno _ this.1)
  |place _ hQ hg=>cases cC T hP hQ;have:=cP hg;exact absurd this.2 (href _ this.1)
  |aside _ hQ _ hg hc'=>cases cC T hP hQ;rw[li hf hg,tE hc hc']
  |no _ hQ _ hall=>cases cC T hP hQ;exact absurd hm.2 (hall _ hm.1)
 |no hno hP href hall =>
  cases h' with
  |drop hy=>have:=cP hy;exact absurd this.2 (hno _ this.1)
  |place _ hQ hg=>cases cC T hP hQ;have:=cP hg;exact absurd this.2 (href _ this.1)
  |aside _ hQ _ hg _=>cases cC T hP hQ;have:=cP hg;exact absurd this.2 (hall _ this.1)
  |no _ _ _ _=>rfl
section
variable{t0 u t:List Nd}{ds:List (TW.Deed Str)}
end
section
variable{t0 u tt:List Nd}{dd:List (TW.Deed Str)}
theorem lj{t:List Nd}(T:TW.Tree1 t):(t.map (·.num)).Nodup:=by
 have:=T.rise;unfold Nodup;rw[pairwise_map];exact this.imp λh e=>by omega
end
section
variable{t0 u t:List Nd}{ds:List (TW.Deed Str)}
end
open Classical in
def dD(t:List Nd)(n:Nd):Bool:=decide (¬nD t n)
open Classical in
def dt(t:List Nd)(n:Nd):TW.Deed Str:=if TW.bu t n.num then .move n.num n.par n.nm else .make n.num n.par n.nm n.st
open Classical in
theorem tF{t:List Nd}{n:Nd}(h:¬nD t n):dD t n=true:=by unfold dD;rw[decide_eq_true_eq];exact h
theorem oE{t:List Nd}{n:Nd}(h:nD t n):dD t n=false:=by unfold dD;rw[decide_eq_false_iff_not];exact λz=>z h
theorem lm{t:List Nd}{n:Nd}(h:dD t n=true):¬nD t n:=λz=>by rw[oE z]at h;cases h
theorem jl(t:List Nd)(n:Nd):dQ (dt t n)=n.num:=by unfold dt;split<;>rfl
theorem pT(t:List Nd)(n:Nd):dX (dt t n)=true↔TW.bu t n.num:=by
 unfold dt
 split
 ·exact⟨λ_=>by assumption,λ_=>rfl⟩
 ·exact⟨λh=>absurd h (by simp[dX]),λh=>by contradiction⟩
theorem uZ{t:List Nd}{n:Nd}(h:¬nD t n):TW.Plc t n (some (dt t n)):=by
 unfold dt
 split
 ·rename_i hh
  obtain⟨m,hm,e⟩:=hh;exact .mv hm e λz=>h ⟨m,hm,e,z.1,z.2⟩
 ·exact .new (by assumption)
theorem jm(t:List Nd):∀l:List Nd,TW.Plcs t l.reverse ((l.reverse.filter (dD t)).map (dt t))
 |[]=>.nil
 |a::l=>by
  rw[reverse_cons,filter_append,map_append]
  by_cases h:nD t a
  ·rw[filter_cons,oE h];obtain⟨m,hm,e1,e2,e3⟩:=h;show TW.Plcs t (l.reverse++[a]) (_++[]);rw[append_nil];exact .skip (jm t l) (.no hm e1 e2 e3)
  ·rw[filter_cons,tF h];exact .take (jm t l) (uZ h)
theorem ln(t u:List Nd):TW.Plcs t u ((u.filter (dD t)).map (dt t)):=by
 have:=jm t u.reverse
 rwa [List.reverse_reverse]at this
structure Lf(t u:List Nd)(ds:List (TW.Deed Str))(L S:List Int):Prop where
 left:L=(u.filter (dD t)).map (·.num)
 sp:∀n∈u,¬nD t n→(n.num∈S↔lh ds n.num)
section
variable{t0 t u:List Nd}{ds:List (TW.Deed Str)}{L S:List Int}
theorem tG:Lf t0 u [] ((u.filter (dD t0)).map (·.num)) []:=⟨rfl,λn _ _=>⟨λh=>(not_mem_nil h).elim,λ⟨d,hd,_⟩=>(not_mem_nil hd).elim⟩⟩
theorem kb(hno:∀x∈t,¬TW.db t u x)(h:u.filter (dD t)=[]):Nxt t u ds none:=by
 have:=ln t u;rw[h]at this;exact .no hno this (λd hd=>(not_mem_nil hd).elim) (λd hd=>(not_mem_nil hd).elim)
theorem oF(hno:∀x∈t,¬TW.db t u x){a b:List Nd}{n:Nd}(e:u.filter (dD t)=a++n::b)(ha:∀m∈a,¬Okd t (dt t m))(hn:Okd t (dt t n)):Nxt t u ds (some (dt t n)):=by
 have:=ln t u;rw[e,map_append,map_cons]at this;exact .place hno this ⟨a.map (dt t),b.map (dt t),rfl,λy hy=>by obtain⟨m,hm,rfl⟩:=mem_map.mp hy;exact ha m hm,hn⟩
theorem oG(hno:∀x∈t,¬TW.db t u x)(F:Lf t u ds L S)(hall:∀m∈u.filter (dD t),¬Okd t (dt t m)){a b:List Nd}{n:Nd}(e:u.filter (dD t)=a++n::b)(ha:∀m∈a,¬(TW.bu t m.num∧m.num∉S))(h1:TW.bu t n.num)(h2:n.num∉S){c:Nat}(hc:FreeN t u c):Nxt t u ds (some (.move n.num 0 (aX c))):=by
 have hP:=ln t u;have mem:∀m∈u.filter (dD t),m.num∈S↔lh ds m.num:=λm hm=>by
  obtain⟨g1,g2⟩:=mem_filter.mp hm;exact F.sp m g1 (lm g2)
 have key:=Nxt.aside (ds:=ds) hno hP (λd hd=>by obtain⟨m,hm,rfl⟩:=mem_map.mp hd;exact hall m hm) (d:=dt t n) ⟨a.map (dt t),b.map (dt t),by rw[e,map_append,map_cons],λy hy=>by
  obtain⟨m,hm,rfl⟩:=mem_map.mp hy;rintro⟨g1,g2⟩;rw[jl]at g2;exact ha m hm ⟨(pT t m).mp g1,λz=>g2 ((mem m (by rw[e];exact mem_append_left _ hm)).mp z)⟩,(pT t n).mpr h1,by
  rw[jl];exact λz=>h2 ((mem n (by rw[e];exact mem_append_right _ mem_cons_self)).mpr z)⟩ hc
 rwa [jl]at key
end
def rn(i:Nat)(x:Str):Nd:=⟨(i:Int)+1,0,x,some 7⟩
def r1:Nd:=⟨40,0,"zz",none⟩
def r2(fr:Str):Nd:=⟨41,40,fr,some 5⟩
def tr3(n:Nat)(fr:Str)(g:Nat→Str):List Nd:=((List.range n).map λi=>rn i (g i))++[r1,r2 fr]
section
variable{n:Nat}{fr:Str}{g h:Nat→Str}
theorem be{m:Nd}:m∈tr3 n fr g↔(∃i,i<n∧m=rn i (g i))∨m=r1∨m=r2 fr:=by
 unfold tr3;rw[mem_append,mem_map];constructor
 ·rintro(⟨i,hi,rfl⟩|h)
  ·exact .inl ⟨i,mem_range.mp hi,rfl⟩
  ·rcases mem_cons.mp h with h|h
   ·exact .inr (.inl h)
   ·exact .inr (.inr (mem_singleton.mp h))
 ·rintro(⟨i,hi,rfl⟩|h|h)
  ·exact .inl ⟨i,mem_range.mpr hi,rfl⟩
  ·exact .inr (by rw[h];exact mem_cons_self)
  ·exact .inr (by rw[h];exact mem_cons_of_mem _ mem_cons_self)
theorem dR{i:Nat}(hi:i<n):rn i (g i)∈tr3 n fr g:=be.mpr (.inl ⟨i,hi,rfl⟩)
theorem hX(e:∀i,i<n→g i=h i):tr3 n fr g=tr3 n fr h:=by
 unfold tr3
 congr 1
 exact map_congr_left λi hi=>by rw[e i (mem_range.mp hi)]
theorem eW:(tr3 n fr g).length=n+2:=by unfold tr3;simp
theorem tH(hn:n≤26):TW.cN (tr3 n fr g):=by
 unfold tr3 TW.cN;rw[List.pairwise_append];refine⟨?_,?_,λa ha b hb=>?_⟩
 ·rw[pairwise_map];exact List.pairwise_lt_range.imp λ{a b} h=>by show(a:Int)+1<(b:Int)+1;omega
 ·refine pairwise_cons.mpr ⟨λb hb=>?_,List.pairwise_singleton ..⟩;rw[mem_singleton.mp hb];show(40:Int)<41
  decide
 ·obtain⟨i,hi,rfl⟩:=mem_map.mp ha;have hi':=mem_range.mp hi;rcases mem_cons.mp hb with e|hb
  ·rw[e];show(i:Int)+1<40;omega
  ·rw[mem_singleton.mp hb];show(i:Int)+1<41;omega
theorem jn(hn:n≤26)(inj:∀i j,i<n→j<n→g i=g j→i=j)(hz:∀i,i<n→g i≠("zz":Str)):TW.Tree1 (tr3 n fr g):=by
 have m1:r1∈tr3 n fr g:=be.mpr (.inr (.inl rfl));refine⟨⟨tH hn,?_,λm hm=>?_⟩,λm hm=>?_⟩
 ·unfold TW.dM tr3;rw[map_append,map_map];refine nodup_append.mpr ⟨?_,?_,λa ha b hb e=>?_⟩
  ·unfold Nodup;rw[pairwise_map];refine Pairwise.imp_of_mem (R:=λa b=>a<b) (λ{a b} ha hb hab e=>?_) List.pairwise_lt_range;have e2:g a=g b:=congrArg Prod.snd e;have:=inj a b (mem_range.mp ha) (mem_range.mp hb) e2;omega
  ·show[((0:Int),("zz":Str)),((40:Int),fr)].Nodup;refine nodup_cons.mpr ⟨λh=>?_,nodup_cons.mpr ⟨not_mem_nil,nodup_nil⟩⟩;have:=congrArg Prod.fst (mem_singleton.mp h);exact absurd this (show ¬((0:Int)=40)by decide)
  ·obtain⟨i,hi,rfl⟩:=mem_map.mp ha;rcases mem_cons.mp hb with e'|hb
   ·exact hz i (mem_range.mp hi) (congrArg Prod.snd (e.trans e'))
   ·have:=congrArg Prod.fst (e.trans (mem_singleton.mp hb));exact absurd this (show ¬((0:Int)=40)by decide)
 ·rcases be.mp hm with⟨i,hi,rfl⟩|rfl|rfl
  ·exact .base hm rfl
  ·exact .base hm rfl
  ·exact .step (.base m1 rfl) rfl hm rfl
 ·rcases be.mp hm with⟨i,hi,rfl⟩|rfl|rfl
  ·show 1≤(i:Int)+1;omega
  ·show 1≤(40:Int);decide
  ·show 1≤(41:Int);decide
theorem lp{k:Int}:TW.bu (tr3 n fr g) k↔TW.bu (tr3 n fr h) k:=by
 have:∀{g h:Nat→Str},TW.bu (tr3 n fr g) k→TW.bu (tr3 n fr h) k:=λ{g h} ⟨m,hm,e⟩=>by
  rcases be.mp hm with⟨i,hi,rfl⟩|rfl|rfl
  ·exact⟨rn i (h i),dR hi,e⟩
  ·exact⟨r1,be.mpr (.inr (.inl rfl)),e⟩
  ·exact⟨r2 fr,be.mpr (.inr (.inr rfl)),e⟩
 exact⟨this,this⟩
theorem fZ:∀x∈tr3 n fr g,¬TW.db (tr3 n fr g) (tr3 n fr h) x:=λx hx hd=>by
 refine hd.1 ⟨?_,x,hx,lp.mp ⟨x,hx,rfl⟩,.here⟩;rcases be.mp hx with⟨i,hi,rfl⟩|rfl|rfl
 ·show(i:Int)+1≠0;omega
 ·show(40:Int)≠0;decide
 ·show(41:Int)≠0;decide
theorem va(hn:n≤26){i:Nat}(hi:i<n){x:Str}{st:Option Int}(es:st=some 7):(tr3 n fr g).map (TW.put ⟨(i:Int)+1,0,x,st⟩)=tr3 n fr (λj=>if j=i then x else g j):=by
 subst es;unfold tr3;rw[map_append,map_map]
 congr 1
 ·refine map_congr_left λj hj=>?_;show TW.put _ (rn j (g j))=rn j (if j=i then x else g j)
  by_cases e:j=i
  ·subst e;rw[if_pos rfl];exact TW.dB rfl
  ·rw[if_neg e];exact TW.bq (show ¬((j:Int)+1=(i:Int)+1)by omega)
 ·have e1:TW.put ⟨(i:Int)+1,0,x,some 7⟩ r1=r1:=TW.bq (show ¬((40:Int)=(i:Int)+1)by omega);have e2:TW.put ⟨(i:Int)+1,0,x,some 7⟩ (r2 fr)=r2 fr:=TW.bq (show ¬((41:Int)=(i:Int)+1)by omega);rw[map_cons,map_cons,map_nil,e1,e2]
theorem nE(hn:n≤26){i:Nat}(hi:i<n){x:Str}:nD (tr3 n fr g) (rn i x)↔g i=x:=by
 constructor
 ·rintro⟨m,hm,e1,e2,e3⟩;rcases be.mp hm with⟨j,hj,rfl⟩|rfl|rfl
  ·have:j=i:=by have:(j:Int)+1=(i:Int)+1:=e1;omega
   subst this;exact e3
  ·have:(40:Int)=(i:Int)+1:=e1;omega
  ·have:(41:Int)=(i:Int)+1:=e1;omega
 ·intro e;exact⟨rn i (g i),dR hi,rfl,rfl,e⟩
theorem jo(hn:n≤26):(tr3 n fr h).filter (dD (tr3 n fr g))=(((List.range n).filter λi=>!decide (g i=h i)).map λi=>rn i (h i)):=by
 unfold tr3;rw[filter_append];have e2:[r1,r2 fr].filter (dD (((List.range n).map λi=>rn i (g i))++[r1,r2 fr]))=[]:=filter_eq_nil_iff.mpr λm hm z=>lm z ⟨m,mem_append_right _ hm,rfl,rfl,rfl⟩;rw[e2,append_nil,filter_map]
 congr 1
 refine filter_congr λi hi=>?_;have hi':=mem_range.mp hi;show dD (tr3 n fr g) (rn i (h i)) = !decide (g i=h i)
 by_cases e:g i=h i
 ·rw[oE ((nE hn hi').mpr e),decide_eq_true e];rfl
 ·rw[tF λz=>e ((nE hn hi').mp z),decide_eq_false e];rfl
theorem jp(hn:n≤26):ig (tr3 n fr g) (tr3 n fr h):=λm hm x hx e=>by
 rcases be.mp hm with⟨i,hi,rfl⟩|rfl|rfl<;>rcases be.mp hx with⟨j,hj,rfl⟩|rfl|rfl
 ·exact Iff.rfl
 ·have:(i:Int)+1=40:=e;omega
 ·have:(i:Int)+1=41:=e;omega
 ·have:(40:Int)=(j:Int)+1:=e;omega
 ·exact Iff.rfl
 ·have:(40:Int)=41:=e;omega
 ·have:(41:Int)=(j:Int)+1:=e;omega
 ·have:(41:Int)=40:=e;omega
 ·exact Iff.rfl
theorem nF(hn:n≤26)(hl:∀i,i<n→(g i).length≤100)(hf:fr.length≤100):∀m∈tr3 n fr g,jk m:=λm hm=>by
 rcases be.mp hm with⟨i,hi,rfl⟩|rfl|rfl
 ·exact⟨show 1≤(i:Int)+1 by omega,show(i:Int)+1≤99 by omega,Int.le_refl _,show(0:Int)≤99 by decide,hl i hi⟩
 ·exact⟨show 1≤(40:Int)by decide,show(40:Int)≤99 by decide,Int.le_refl _,show(0:Int)≤99 by decide,by decide +kernel⟩
 ·exact⟨show 1≤(41:Int)by decide,show(41:Int)≤99 by decide,show 0≤(40:Int)by decide,show(40:Int)≤99 by decide,hf⟩
theorem nG(hn:n≤26)(inj:TW.Tree1 (tr3 n fr h)):nB (tr3 n fr g) (tr3 n fr h)=[]:=by
 unfold nB;rw[List.map_eq_nil_iff,filter_eq_nil_iff];intro m hm z;have key:hV (tr3 n fr h) m.num=m.st:=by
  rcases be.mp hm with⟨i,hi,rfl⟩|rfl|rfl
  ·exact iz (y:=rn i (h i)) (lj inj) (dR hi)
  ·exact iz (lj inj) (be.mpr (.inr (.inl rfl)))
  ·exact iz (lj inj) (be.mpr (.inr (.inr rfl)))
 rw[key]at z;simp at z
end
theorem md{n i:Nat}(h:i<n):(i+1) % n=if i+1=n then 0 else i+1:=by
 by_cases e:i+1=n
 ·rw[if_pos e,e,Nat.mod_self]
 ·rw[if_neg e,Nat.mod_eq_of_lt (by omega)]
def nw(n:Nat)(a:Nat→Str)(i:Nat):Str:=a ((i+1) % n)
def gs(n:Nat)(a:Nat→Str)(fr:Str)(k i:Nat):Str:=if n-k≤i then a ((i+1) % n)else if i=0 then fr else a i
structure Rg(n:Nat)(a:Nat→Str)(fr:Str)(c:Nat):Prop where
 n2:2≤n
 n26:n≤26
 inj:∀i j,i<n→j<n→a i=a j→i=j
 hz:∀i,i<n→a i≠("zz":Str)
 hf:∀i,i<n→a i≠fr
 fz:fr≠("zz":Str)
 la:∀i,i<n→(a i).length≤100
 lf:fr.length≤100
 fc:aX c=fr
 free:FreeN (tr3 n fr a) (tr3 n fr (nw n a)) c
def d0(fr:Str):TW.Deed Str:=.move (((0:Nat):Int)+1) 0 fr
def dk(n:Nat)(a:Nat→Str)(i:Nat):TW.Deed Str:=.move ((i:Int)+1) 0 (a ((i+1) % n))
def D3(n:Nat)(a:Nat→Str)(fr:Str)(k:Nat):List (TW.Deed Str):=d0 fr::(List.range k).map λj=>dk n a (n-1-j)
theorem iA(n:Nat)(a:Nat→Str)(fr:Str)(k:Nat):D3 n a fr (k+1)=D3 n a fr k++[dk n a (n-1-k)]:=by
 unfold D3;rw[range_succ,map_append];rfl
theorem oH{t:List Nd}{n:Nd}(h:TW.bu t n.num):dt t n=.move n.num n.par n.nm:=by unfold dt;rw[if_pos h]
theorem vb{n m:Nat}(h:m≤n):(List.range n).filter (λi=>decide (i<m))=List.range m:=by
 obtain⟨r,rfl⟩:∃r,n=m+r:=⟨n-m,by omega⟩;rw[List.range_add,filter_append];have e1:(List.range m).filter (λi=>decide (i<m))=List.range m:=filter_eq_self.mpr λi hi=>decide_eq_true (mem_range.mp hi);have e2:((List.range r).map (m + ·)).filter (λi=>decide (i<m))=[]:=filter_eq_nil_iff.mpr λi hi z=>by
  obtain⟨j,_,rfl⟩:=mem_map.mp hi;have:=of_decide_eq_true z;omega
 rw[e1,e2,append_nil]
section
variable{n c:Nat}{a:Nat→Str}{fr:Str}
theorem dS(R:Rg n a fr c){i:Nat}(hi:i<n):(i+1) % n<n:=mod_lt _ (by have:=R.n2;omega)
theorem xx(R:Rg n a fr c){i:Nat}(hi:i<n):(i+1) % n≠i:=by
 have:=R.n2;rw[md hi]
 split<;>omega
theorem oI(R:Rg n a fr c):∀i j,i<n→j<n→nw n a i=nw n a j→i=j:=λi j hi hj e=>by
 have:=R.inj _ _ (dS R hi) (dS R hj) e;rw[md hi,md hj]at this
 split at this<;>split at this<;>omega
theorem xy(R:Rg n a fr c){k:Nat}(hk:k≤n):∀i j,i<n→j<n→gs n a fr k i=gs n a fr k j→i=j:=λi j hi hj e=>by
 unfold gs at e
 by_cases h1:n-k≤i<;>by_cases h2:n-k≤j
 ·rw[if_pos h1,if_pos h2]at e;exact oI R i j hi hj e
 ·rw[if_pos h1,if_neg h2]at e
  by_cases z:j=0
  ·rw[if_pos z]at e;exact absurd e (R.hf _ (dS R hi))
  ·rw[if_neg z]at e;have:=R.inj _ _ (dS R hi) hj e;rw[md hi]at this
   split at this<;>omega
 ·rw[if_neg h1,if_pos h2]at e
  by_cases z:i=0
  ·rw[if_pos z]at e;exact absurd e.symm (R.hf _ (dS R hj))
  ·rw[if_neg z]at e;have:=R.inj _ _ hi (dS R hj) e;rw[md hj]at this
   split at this<;>omega
 ·rw[if_neg h1,if_neg h2]at e
  by_cases z:i=0<;>by_cases y:j=0
  ·omega
  ·rw[if_pos z,if_neg y]at e;exact absurd e.symm (R.hf _ hj)
  ·rw[if_neg z,if_pos y]at e;exact absurd e (R.hf _ hi)
  ·rw[if_neg z,if_neg y]at e;exact R.inj _ _ hi hj e
theorem yv(R:Rg n a fr c){k:Nat}:∀i,i<n→gs n a fr k i≠("zz":Str):=λi hi=>by
 unfold gs
 split
 ·exact R.hz _ (dS R hi)
 ·split
  ·exact R.fz
  ·exact R.hz _ hi
theorem Ta(R:Rg n a fr c):TW.Tree1 (tr3 n fr a):=jn R.n26 R.inj R.hz
theorem Tn(R:Rg n a fr c):TW.Tree1 (tr3 n fr (nw n a)):=jn R.n26 (oI R) λi hi=>R.hz _ (dS R hi)
theorem Tg(R:Rg n a fr c){k:Nat}(hk:k≤n):TW.Tree1 (tr3 n fr (gs n a fr k)):=jn R.n26 (xy R hk) (yv R)
theorem tI:tr3 n fr (gs n a fr n)=tr3 n fr (nw n a):=hX λi hi=>by unfold gs nw;rw[if_pos (by omega)]
theorem pU{g h:Nat→Str}(T:TW.Tree1 (tr3 n fr g)){i j:Nat}(hi:i<n)(hj:j<n)(ne:j≠i)(e:g j=h i):¬Okd (tr3 n fr g) (dt (tr3 n fr g) (rn i (h i))):=by
 have hh:TW.bu (tr3 n fr g) (rn i (h i)).num:=⟨rn i (g i),dR hi,rfl⟩;rw[oH hh];rintro⟨v,hv⟩;have:TW.Told (tr3 n fr g) (.move (rn i (h i)).num (rn i (h i)).par (rn i (h i)).nm) (.inl .taken):=.vTaken hh (.inl rfl) (λz=>absurd rfl z) (dR (g:=g) hj) (λz=>ne (by have:(j:Int)+1=(i:Int)+1:=z;omega)) rfl e;cases this.one T hv
theorem can{g:Nat→Str}(hn:n≤26){i:Nat}(hi:i<n){x:Str}(ho:∀j,j<n→j≠i→g j≠x)(hz:x≠("zz":Str)):TW.Told (tr3 n fr g) (.move ((i:Int)+1) 0 x) (.inr (tr3 n fr (λj=>if j=i then x else g j))):=by
 have:=TW.Told.moved (t:=tr3 n fr g) (n:=(i:Int)+1) (p:=0) (nm:=x) (y:=rn i (g i)) (dR hi) rfl (.inl rfl) (λz=>absurd rfl z) (λm hm ne=>by
  rintro⟨h1,h2⟩;rcases be.mp hm with⟨j,hj,rfl⟩|rfl|rfl
  ·exact ho j hj (λz=>ne (by rw[z];rfl)) h2
  ·exact hz h2.symm
  ·exact absurd h1 (show ¬((40:Int)=0)by decide))
 rwa [va (fr:=fr) (g:=g) hn hi (x:=x) (st:=(rn i (g i)).st) rfl]at this
theorem vG(R:Rg n a fr c):TW.Told (tr3 n fr a) (d0 fr) (.inr (tr3 n fr (gs n a fr 0))):=by
 have h0:0<n:=by have:=R.n2;omega
 have:=can (fr:=fr) (g:=a) R.n26 h0 (x:=fr) (λj hj _=>R.hf j hj) R.fz;have e:tr3 n fr (λj=>if j=0 then fr else a j)=tr3 n fr (gs n a fr 0):=hX λi hi=>by
  unfold gs;rw[if_neg (show ¬n-0≤i by omega)]
 rw[e]at this;exact this
theorem tJ(R:Rg n a fr c){k:Nat}(hk:k<n):TW.Told (tr3 n fr (gs n a fr k)) (dk n a (n-1-k)) (.inr (tr3 n fr (gs n a fr (k+1)))):=by
 have hi:n-1-k<n:=by omega
 have:=can (fr:=fr) (g:=gs n a fr k) R.n26 hi (x:=a ((n-1-k+1) % n)) (λj hj ne e=>?_) (R.hz _ (dS R hi))
 ·have e0:tr3 n fr (λj=>if j=n-1-k then a ((n-1-k+1) % n)else gs n a fr k j)=tr3 n fr (gs n a fr (k+1)):=hX λi hi'=>?_
  ·rw[e0]at this;exact this
  ·by_cases e:i=n-1-k
   ·rw[if_pos e];unfold gs;rw[if_pos (by omega),e]
   ·rw[if_neg e];unfold gs
    by_cases z:n-k≤i
    ·rw[if_pos z,if_pos (by omega)]
    ·rw[if_neg z,if_neg (show ¬n-(k+1)≤i by omega)]
 ·unfold gs at e
  by_cases z:n-k≤j
  ·rw[if_pos z]at e;exact ne (oI R j _ hj hi e)
  ·rw[if_neg z]at e
   by_cases y:j=0
   ·rw[if_pos y]at e;exact R.hf _ (dS R hi) e.symm
   ·rw[if_neg y]at e;have:=R.inj _ _ hj (dS R hi) e;rw[md hi]at this
    split at this<;>omega
theorem vH(R:Rg n a fr c):Nxt (tr3 n fr a) (tr3 n fr (nw n a)) [] (some (d0 fr)):=by
 have n2:=R.n2;have eL:(tr3 n fr (nw n a)).filter (dD (tr3 n fr a))=(List.range n).map λi=>rn i (nw n a i):=by
  rw[jo R.n26]
  congr 1
  exact filter_eq_self.mpr λi hi=>by
   have hi':=mem_range.mp hi;rw[decide_eq_false λe=>xx R hi' (R.inj _ _ (dS R hi') hi' e.symm)];rfl
 have hall:∀m∈(tr3 n fr (nw n a)).filter (dD (tr3 n fr a)),¬Okd (tr3 n fr a) (dt (tr3 n fr a) m):=λm hm=>by
  rw[eL]at hm;obtain⟨i,hi,rfl⟩:=mem_map.mp hm;have hi':=mem_range.mp hi;exact pU (h:=nw n a) (Ta R) hi' (dS R hi') (xx R hi') rfl
 obtain⟨m,rfl⟩:∃m,n=m+1:=⟨n-1,by omega⟩;have key:=oG (ds:=[]) fZ tG hall (a:=[]) (b:=((List.range m).map (· + 1)).map λi=>rn i (nw (m+1) a i)) (n:=rn 0 (nw (m+1) a 0)) (by
  rw[eL,List.range_succ_eq_map];rfl) (λm hm=>(not_mem_nil hm).elim) ⟨rn 0 (a 0),dR (by omega),rfl⟩ not_mem_nil R.free
 rw[R.fc]at key;exact key
theorem vI(R:Rg n a fr c){k:Nat}(hk:k<n)(ds:List (TW.Deed Str)):Nxt (tr3 n fr (gs n a fr k)) (tr3 n fr (nw n a)) ds (some (dk n a (n-1-k))):=by
 have n2:=R.n2;have hi:n-1-k<n:=by omega
 have T:=Tg R (le_of_lt hk);have eL:(tr3 n fr (nw n a)).filter (dD (tr3 n fr (gs n a fr k)))=((List.range (n-1-k)).map λi=>rn i (nw n a i))++rn (n-1-k) (nw n a (n-1-k))::[]:=by
  rw[jo R.n26];have:(List.range n).filter (λi=>!decide (gs n a fr k i=nw n a i))=List.range (n-1-k+1):=by
   rw[←vb (show n-1-k+1≤n by omega)];refine filter_congr λi hi=>?_;have hi':=mem_range.mp hi;unfold gs nw
   by_cases z:n-k≤i
   ·rw[if_pos z,decide_eq_true rfl,decide_eq_false (by omega)];rfl
   ·rw[if_neg z,decide_eq_true (show i<n-1-k+1 by omega)]
    by_cases y:i=0
    ·rw[if_pos y,decide_eq_false λe=>R.hf _ (dS R hi') e.symm];rfl
    ·rw[if_neg y,decide_eq_false λe=>xx R hi' (R.inj _ _ (dS R hi') hi' e.symm)];rfl
  rw[this,range_succ,map_append];rfl
 have hh:TW.bu (tr3 n fr (gs n a fr k)) (rn (n-1-k) (nw n a (n-1-k))).num:=⟨rn _ (gs n a fr k (n-1-k)),dR hi,rfl⟩;have key:=oF (ds:=ds) fZ eL (λm hm=>?_) (by rw[oH hh];exact⟨_,tJ R hk⟩)
 ·rw[oH hh]at key;exact key
 ·obtain⟨i,hi',rfl⟩:=mem_map.mp hm;have hi2:=mem_range.mp hi';refine pU (h:=nw n a) T (j:=i+1) (by omega) (by omega) (by omega) ?_;unfold gs nw;rw[if_neg (by omega),if_neg (by omega),Nat.mod_eq_of_lt (show i+1<n by omega)]
theorem yw(R:Rg n a fr c)(ds:List (TW.Deed Str)):Nxt (tr3 n fr (gs n a fr n)) (tr3 n fr (nw n a)) ds none:=by
 refine kb fZ ?_;rw[tI,jo R.n26];rw[List.map_eq_nil_iff,filter_eq_nil_iff];intro i _ z;simp at z
def I3(n:Nat)(a:Nat→Str)(fr:Str)(t:List Nd)(ds:List (TW.Deed Str)):Prop:=(t=tr3 n fr a∧ds=[])∨∃k,k≤n∧t=tr3 n fr (gs n a fr k)∧ds=D3 n a fr k
theorem lr(k:Nat):(D3 n a fr k).length=k+1:=by unfold D3;simp
theorem xz(R:Rg n a fr c):Sound (tr3 n fr (nw n a)) (I3 n a fr) (λ_ ds=>40-ds.length):=by
 have n26:=R.n26;have n2:=R.n2;have ok:∀{i:Nat},i<n→∀{x:Str},x.length≤100→bX (.move ((i:Int)+1) 0 x):=λ{i} hi {x} hx=>⟨by omega,by omega,Int.le_refl _,by decide,hx⟩;refine⟨λt ds h=>?_,λt ds d h hn=>?_,λt ds h _ m hm=>?_⟩
 ·rcases h with⟨rfl,rfl⟩|⟨k,hk,rfl,rfl⟩
  ·exact⟨by rw[eW];omega,by decide,jp n26⟩
  ·exact⟨by rw[eW];omega,by rw[lr];omega,jp n26⟩
 ·rcases h with⟨rfl,rfl⟩|⟨k,hk,rfl,rfl⟩
  ·have:=eV (Ta R) hn (vH R);injection this with this
   subst this;exact⟨ok (by omega) R.lf,_,vG R,.inr ⟨0,zero_le _,rfl,rfl⟩,by simp⟩
  ·by_cases e:k<n
   ·have:=eV (Tg R hk) hn (vI R e _);injection this with this
    subst this;refine⟨ok (by omega) (R.la _ (dS R (by omega))),_,tJ R e,.inr ⟨k+1,e,rfl,(iA ..).symm⟩,?_⟩;show 40-(D3 n a fr k++[_]).length<40-(D3 n a fr k).length;rw[length_append,lr,length_singleton];omega
   ·have:k=n:=by omega
    subst this;cases eV (Tg R hk) hn (yw R _)
 ·rcases h with⟨rfl,rfl⟩|⟨k,hk,rfl,rfl⟩
  ·exact lp.mp ⟨m,hm,rfl⟩
  ·exact lp.mp ⟨m,hm,rfl⟩
theorem zk(R:Rg n a fr c){t:List Nd}{ds:List (TW.Deed Str)}(h:I3 n a fr t ds)(hn:Nxt t (tr3 n fr (nw n a)) ds none):ds=D3 n a fr n∧nB t (tr3 n fr (nw n a))=[]:=by
 rcases h with⟨rfl,rfl⟩|⟨k,hk,rfl,rfl⟩
 ·cases eV (Ta R) hn (vH R)
 ·by_cases e:k<n
  ·cases eV (Tg R hk) hn (vI R e _)
  ·have:k=n:=by omega
   subst this;exact⟨rfl,nG R.n26 (Tn R)⟩
theorem xA(R:Rg n a fr c):TW.Chain (tr3 n fr a) (D3 n a fr n) (tr3 n fr (nw n a)):=by
 have key:∀k,k≤n→TW.Chain (tr3 n fr a) (D3 n a fr k) (tr3 n fr (gs n a fr k)):=by
  intro k
  induction k with
  |zero=>intro _;exact .cons (vG R) .nil
  |succ k ih =>
   intro hk;rw[iA];exact(ih (by omega)).snoc (tJ R (by omega))
 have:=key n (le_refl _)
 rwa [tI]at this
theorem xB{t:List Nd}(T:TW.Tree1 t)(hl:t.length≤29):Sound t (λx ds=>x=t∧ds=[]) (λ_ _=>0)∧Nxt t t [] none:=by
 have hn:Nxt t t [] none:=by
  refine kb (λx hx hd=>hd.1 ⟨?_,x,hx,⟨x,hx,rfl⟩,.here⟩) (filter_eq_nil_iff.mpr λm hm z=>lm z ⟨m,hm,rfl,rfl,rfl⟩);have:=T.pos x hx;omega
 refine⟨⟨λx ds h=>?_,λx ds d h hx=>?_,λx ds h _ m hm=>?_⟩,hn⟩
 ·obtain⟨rfl,rfl⟩:=h;exact⟨hl,by decide,λm hm y hy e=>by rw[T.inj hm hy e]⟩
 ·obtain⟨rfl,rfl⟩:=h;cases eV T hx hn
 ·obtain⟨rfl,rfl⟩:=h;exact⟨m,hm,rfl⟩
end
def L26:List Str:=(List.range 26).map λj=>aX (j+1)
theorem yx:(A26.cps.toList.map λc=>(⟨#[c]⟩:Str))=L26:=by decide +kernel
theorem yy:L26.Nodup:=by decide +kernel
theorem vJ:L26.length=26:=by decide +kernel
theorem qQ:∀x∈L26,x≠("zz":Str)∧x≠("aa":Str)∧x.length≤100:=by decide +kernel
theorem tK{j:Nat}(h:j<26):L26[j]?=some (aX (j+1)):=by
 unfold L26;rw[getElem?_map,getElem?_range h];rfl
theorem gQ{α:Type}[DecidableEq α]:∀{l:List α}{i:Nat}{x:α},l.Nodup→l[i]?=some x→l.eraseIdx i=l.filter λy=>!decide (y=x)
 |[],i,x,_,h=>by simp at h
 |a::l,0,x,nd,h=>by
  have e:a=x:=by simpa using h
  subst e;obtain⟨h1,h2⟩:=nodup_cons.mp nd;rw[List.eraseIdx_cons_zero,filter_cons,decide_eq_true rfl];exact(filter_eq_self.mpr λy hy=>by rw[decide_eq_false (λe:y=a=>h1 (by rw[←e];exact hy))];rfl).symm
 |a::l,i+1,x,nd,h=>by
  obtain⟨h1,h2⟩:=nodup_cons.mp nd;have hx:l[i]?=some x:=by simpa using h
  have ne:¬a=x:=λe=>h1 (e ▸ mem_of_getElem? hx);rw[List.eraseIdx_cons_succ,filter_cons,decide_eq_false ne,gQ h2 hx];rfl
structure Nm(k:Nat)(ns ls:List Str):Prop where
 len:ns.length=k
 nd:ns.Nodup
 sub:∀x∈ns,x∈L26
 left:ls=L26.filter λx=>!decide (x∈ns)
theorem Nm.start:Nm 0 [] L26:=⟨rfl,nodup_nil,λx h=>(not_mem_nil h).elim,(filter_eq_self.mpr λx _=>by simp).symm⟩
theorem Nm.ll{k:Nat}{ns ls:List Str}(N:Nm k ns ls):ls.length+k=26:=by
 have h1:(L26.filter λx=>decide (x∈ns)).length=ns.length:=by
  refine Nat.le_antisymm (Nodup.length_le_of_subset (yy.sublist filter_sublist) λx hx=>of_decide_eq_true (mem_filter.mp hx).2) (Nodup.length_le_of_subset N.nd λx hx=>mem_filter.mpr ⟨N.sub x hx,decide_eq_true hx⟩)
 have h2:=List.length_eq_countP_add_countP (λx=>decide (x∈ns)) (l:=L26);rw[List.countP_eq_length_filter,List.countP_eq_length_filter,h1,N.len,vJ]at h2;have e:(L26.filter λx=>decide (¬(decide (x∈ns))=true))=ls:=by
  rw[N.left];exact filter_congr λx _=>by by_cases z:x∈ns<;>simp[z]
 rw[e]at h2;omega
theorem Nm.step{k:Nat}{ns ls:List Str}(N:Nm k ns ls){i:Nat}{x:Str}(h:ls[i]?=some x):Nm (k+1) (ns++[x]) (ls.eraseIdx i):=by
 have mx:=mem_of_getElem? h;rw[N.left]at mx;obtain⟨h1,h2⟩:=mem_filter.mp mx;have hx:x∉ns:=by simpa using h2
 refine⟨by rw[length_append,N.len];rfl,?_,λy hy=>?_,?_⟩
 ·rw[nodup_append];exact⟨N.nd,by simp,λa ha b hb e=>by rw[mem_singleton.mp hb]at e;exact hx (e ▸ ha)⟩
 ·rcases mem_append.mp hy with hy|hy
  ·exact N.sub y hy
  ·rw[mem_singleton.mp hy];exact h1
 ·have nd:ls.Nodup:=by rw[N.left];exact yy.sublist filter_sublist
  rw[gQ nd h,N.left,List.filter_filter];refine filter_congr λy _=>?_
  by_cases a:y∈ns<;>by_cases b:y=x<;>simp[a,b,hx]
def cm(ls:List Str):Str:=match ls with
 |[]=>"aa"
 |x::_=>x
theorem vc{n:Nat}{ns ls:List Str}(N:Nm n ns ls)(n2:2≤n):∃c,Rg n (λi=>ns.getD i "") (cm ls) c:=by
 have hll:=N.ll;have n26:n≤26:=by omega
 have get:∀i,i<n→ns[i]?=some (ns.getD i ""):=λi hi=>by
  have h:i<ns.length:=by rw[N.len];exact hi
  rw[getD_eq_getElem?_getD,getElem?_eq_getElem h];rfl
 have mem:∀i,i<n→ns.getD i ""∈ns:=λi hi=>mem_of_getElem? (get i hi);have fr:∃c,1≤c∧c≤27∧aX c=cm ls∧cm ls∉ns∧cm ls≠("zz":Str)∧(cm ls).length≤100∧∀j,1≤j→j<c→aX j∈ns:=by
  cases e:ls with
  |nil =>
   have hall:∀x∈L26,x∈ns:=λx hx=>Classical.byContradiction λz=>by
    have:x∈ls:=by rw[N.left];exact mem_filter.mpr ⟨hx,by simp[z]⟩
    rw[e]at this;exact(not_mem_nil this).elim
   refine⟨27,by decide,by decide,by decide +kernel,λh=>(qQ _ (N.sub _ h)).2.1 rfl,(show("aa":Str)≠"zz" by decide +kernel),(show("aa":Str).length≤100 by decide +kernel),λj j1 j2=>hall _ ?_⟩;obtain⟨i,rfl⟩:∃i,j=i+1:=⟨j-1,by omega⟩;exact mem_of_getElem? (tK (show i<26 by omega))
  |cons x r =>
   have e2:=N.left;rw[e]at e2;obtain⟨l1,l2,e3,h1,h2,_⟩:=List.filter_eq_cons_iff.mp e2.symm;have hlen:l1.length<26:=by
    have:=congrArg length e3;rw[vJ,length_append,length_cons]at this;omega
   have ex:x=aX (l1.length+1):=by
    have:=tK hlen;rw[e3,List.getElem?_append_right (le_refl _),Nat.sub_self]at this;exact Option.some.inj this
   have mx:x∈L26:=by rw[e3];exact mem_append_right _ mem_cons_self
   refine⟨l1.length+1,by omega,by omega,ex.symm,(show x∉ns by simpa using h2),(qQ x mx).1,(qQ x mx).2.2,λj j1 j2=>?_⟩;obtain⟨i,rfl⟩:∃i,j=i+1:=⟨j-1,by omega⟩;have:=tK (show i<26 by omega);rw[e3,getElem?_append_left (show i<l1.length by omega)]at this;have:=h1 _ (mem_of_getElem? this);simpa using this
 obtain⟨c,c1,c2,fc,fno,fz,flen,fall⟩:=fr;refine⟨c,n2,n26,λi j hi hj e=>?_,λi hi=>(qQ _ (N.sub _ (mem i hi))).1,λi hi e=>fno (by rw[←e];exact mem i hi),fz,λi hi=>(qQ _ (N.sub _ (mem i hi))).2.2,flen,fc,c1,by omega,?_,λj j1 j2=>?_⟩
 ·have h1:=get i hi;have h2:=get j hj;have e':ns.getD i ""=ns.getD j "":=e;rw[e',←h2]at h1;exact(List.getElem?_inj (by rw[N.len];exact hi) N.nd).mp h1
 ·rintro⟨m,hm,h1,h2⟩;rw[fc]at h2;have key:∀{g:Nat→Str},(∀i,i<n→g i∈ns)→m∈tr3 n (cm ls) g→False:=λ{g} hg hm=>by
   rcases be.mp hm with⟨i,hi,rfl⟩|rfl|rfl
   ·exact fno (by rw[←h2];exact hg i hi)
   ·exact fz h2.symm
   ·exact absurd h1 (show ¬((40:Int)=0)by decide)
  rcases hm with hm|hm
  ·exact key mem hm
  ·exact key (λi hi=>mem _ (mod_lt _ (by omega))) hm
 ·obtain⟨i,hi,e⟩:=List.getElem_of_mem (fall j j1 j2);have hi':i<n:=by rw[←N.len];exact hi
  have e2:ns.getD i ""=aX j:=by rw[getD_eq_getElem?_getD,getElem?_eq_getElem hi,e];rfl
  exact⟨rn i (ns.getD i ""),.inl (dR (g:=λi=>ns.getD i "") hi'),rfl,e2⟩
section
variable{P:Program}{w:World}{K:PySem.W.Frag}{mg:Str→Option Value}{base:Heap}
def oJ(K:PySem.W.Frag):Sp:=λvs H Q _=>∃a k,vs=[.ref a,.int k]∧0≤k∧ff K H a∧∀r H',ak H H'→Q (.int r) H'
theorem xC:FnScope ["_law_script","_law_k"] ["_law_script","_law_k"] (ai sK):=fsc
theorem vd{f:Addr}{fd:FuncData}(F:Fun K "_law_cell" "_law_cell" sK f fd)(T:Txt mg):FnOk P w K mg base CX0 1 f fd ["_law_script","_law_k"] (oJ K):=by
 refine F.ok xC (λvs H Q E h=>?_) (λcdv A outer s H vs Q E hr h=>?_)
 ·obtain⟨a,k,rfl,_⟩:=h;rfl
 ·obtain⟨a,k,rfl,hk,⟨ns,ea⟩,q⟩:=h;refine⟨_,ag (bj (aw qY (pv 1) (aL bt rfl T.len boot_len (aa (pv 0) ae)) (aC _)) (aj (av (ar cK (pv 0) (pv 1) (λ_ _=>rfl)))) aJ)
   (ag (bj (aw (nY hr.units0) (pv 0) (cg ae) (aC _)) (aj (av ah)) aJ)
   (aj (av (aK cf (aK kl (ar cK (pv 0) (aK fm (pv 1) (aL bt rfl T.len boot_len (aa (pv 0) ae))) (λ_ _=>rfl)) ah) (pv 1))))),?_⟩
  refine⟨_,rfl,_,rfl,a,_,rfl,.inl (ea),_,_,rfl,rfl,_,rfl,?_⟩;rw[length_map]
  by_cases h:k<(ns.length:Int)
  ·rw[decide_eq_true h];obtain⟨j,ej⟩:=mY hk h;exact aA ⟨_,rfl,_,rfl,a,_,_,_,rfl,rfl,ea,ej,q _ _ (ak.refl _)⟩
  ·rw[decide_eq_false h];refine aD ⟨_,rfl,zero_le _,λp hp=>⟨a,p,_,rfl,rfl,((af hp).seq ea),SqL.of ac,_,rfl,?_⟩⟩
   by_cases h0:ns=[]
   ·subst h0;exact aA (q _ _ (af hp))
   ·have hne:¬ns.map V.int=[]:=by simpa using h0
    rw[decide_eq_false hne];have hpos:0<ns.length:=List.length_pos_iff.mpr h0;have hm1:0≤k % (ns.length:Int):=emod_nonneg _ (by omega);have hm2:k % (ns.length:Int)<ns.length:=Int.emod_lt_of_pos _ (by omega);obtain⟨j,ej⟩:=mY hm1 hm2;have ej':atI (ns.map V.int) (k % ((ns.map V.int).length:Int))=some (.int j):=by rw[length_map];exact ej
    exact aD ⟨_,rfl,_,rfl,_,rfl,a,_,rfl,.inl (((af hp).seq ea)),_,_,rfl,rfl,by rw[length_map];omega,a,_,_,_,rfl,rfl,((af hp).seq ea),ej',_,_,rfl,rfl,.inr ⟨by decide,by decide⟩,_,rfl,_,_,rfl,rfl,q _ _ (af hp)⟩
def gg(K:PySem.W.Frag):Sp:=λvs H Q _=>∃a k m,vs=[.ref a,.int k,.int m]∧0≤k∧0<m∧ff K H a∧∀r H',0≤r→r<m→ak H H'→Q (.int r) H'
theorem tL:FnScope ["_law_script","_law_k","_law_many","_law_drawn"] ["_law_script","_law_k","_law_many"] (ai sL):=fsc
theorem ve{f:Addr}{fd:FuncData}(F:Fun K "_law_pick" "_law_pick" sL f fd)(T:Txt mg)(C:Has P w K mg base 1 "_law_cell" ["_law_script","_law_k"] (oJ K)):FnOk P w K mg base CX0 2 f fd ["_law_script","_law_k","_law_many"] (gg K):=by
 obtain⟨fC,fdC,GC,mC,kC,bC⟩:=C;refine F.ok tL (λvs H Q E h=>?_) (λcdv A outer s H vs Q E hr h=>?_)
 ·obtain⟨a,k,m,rfl,_⟩:=h;rfl
 ·obtain⟨a,k,m,rfl,hk,hm,hS,q⟩:=h;refine⟨_,(ag (au (i:=3) tL.nd rfl (Or.inl rfl) (aK fm (aK kl (aK cf (am GC hr rfl mC kC bC .nil aP (aa (pv 0) (aa (pv 1) ae))) (aK kl ah (aK cf (pv 1) ah))) ah) ah))
   (aj (av (aK fm (aK fm (aK cf (aK kl (pv 3) (pv 3)) (aK oP (pv 3) ah)) ah) (pv 2))))),?_⟩
  refine⟨_,rfl,_,rfl,a,k,rfl,hk,hS,λr H1 s1=>?_⟩;refine⟨_,rfl,_,_,rfl,rfl,_,_,rfl,rfl,.inl ⟨by decide,by decide⟩,_,_,rfl,rfl,_,_,rfl,rfl,.inr ⟨by decide,by decide⟩,_,_,rfl,rfl,(by decide:(0:Int)<2147483399),?_⟩;generalize hd:(r+6151*(k+1))*40692 % 2147483399=dr;have d0:0≤dr:=by rw[←hd];exact emod_nonneg _ (by decide)
  have d1:dr<2147483399:=by rw[←hd];exact Int.emod_lt_of_pos _ (by decide)
  refine⟨_,rfl,_,rfl,_,_,rfl,rfl,.inl ⟨by omega,by omega⟩,_,rfl,_,_,rfl,rfl,⟨by decide,by decide⟩,_,_,rfl,rfl,_,_,rfl,rfl,(by decide:(0:Int)<2147483629),_,rfl,_,_,rfl,rfl,hm,?_⟩;exact q _ _ (emod_nonneg _ (by omega)) (Int.emod_lt_of_pos _ hm) s1
end
end TK
namespace L2
open PySem PySem.Spec PyProof.Rows
theorem vf{x:Str}{H1:Hp}:Src (Its x) H1 (x.cps.toList.map λc=>V.str ⟨#[c]⟩) :=
 ⟨λi H' hi s=>by rw[length_map,length_toList]at hi;exact hi,λH' s=>by rw[length_map,length_toList];exact le_refl x.cps.size,λi H' v H2 hi s ⟨e,c,hc,ev⟩=>⟨e,by
  rw[getElem?_map];have hc':x.cps.toList[i]?=some c:=by simpa using hc
  rw[hc',ev];rfl⟩⟩
theorem tM{xs:List V}{k:Nat}(h:k≤xs.length):io xs none (some (k:Int))=xs.take k:=by
 unfold io;rw[HT.iG,HT.dF,List.drop_zero,Nat.min_eq_left h];rfl
section
variable{X:Cx}{tg:Expr}
end
theorem tN{xs:List V}{k:Nat}(h:k≤xs.length):io xs (some (k:Int)) none=xs.drop k:=by
 unfold io;rw[HT.iG,HT.dF,Nat.min_eq_left h,take_of_length_le (by rw[length_drop];exact le_refl _)]
end L2
namespace L2
open PySem PyProof PyProof.Rows
section
variable{X:Cx}{pos:Pos}
end
end L2
namespace L2
open PySem PySem.Spec PyProof.Rows
section
variable{X:Cx}{pins:List (Addr×Obj)}{σ:St}{H:Hp}{s:Shared}
theorem oK{H:Hp}{xs:List V}(h:xs.all cy=true):dA H xs xs:=⟨rfl,λi x y hx hy=>by
 rw[hx]at hy;cases hy;exact fH ⟨rfl,all_eq_true.mp h x (mem_of_getElem? hx)⟩⟩
theorem tO{es rest:List Expr}{k:Nat}{p:Pos}{env:Env}:starEach (.Tuple es k p::rest) env=(false,eval (.Tuple es k p) env)::starEach rest env:=rfl
theorem cb{es rest:List Expr}{k:Nat}{p:Pos}{te:TE}{t:TA}(ha:PE X (.Tuple es k p) te)(hr:PA X rest t):PA X (.Tuple es k p::rest) (bv te t):=aa ha hr tO
abbrev n4(a b:Int)(c:Str)(d:V):TE:=tX (bv (tC (.int a)) (bv (tC (.int b)) (bv (tC (.str c)) (bv (tC d) im))))
theorem xE{a b:Int}{c:Str}{k k1 k2 k3 k4:Nat}{p1 p2 p3 p4 p5:Pos}:PE X (.Tuple [.Constant (.int a) k1 p1,.Constant (.int b) k2 p2,.Constant (.str c) k3 p3,.Constant .none k4 p4] k p5) (n4 a b c .non):=aN (aa ah (aa ah (aa bx (aa cp ae))))
theorem yz{e1 e2:List Expr}{k k1 k2:Nat}{p1 p2 p5:Pos}{t1 t2:TE}(h1:PE X (.Tuple e1 k1 p1) t1)(h2:PE X (.Tuple e2 k2 p2) t2):PE X (.Tuple [.Tuple e1 k1 p1,.Tuple e2 k2 p2] k p5) (tX (bv t1 (bv t2 im))):=aN (cb h1 (cb h2 ae))
end
end L2
namespace TK
open PySem L2
def laN:List Str:=["_law_script","_law_size","_law_letters","_law_names","_law_k","_law_free","_law_rest","_law_old","_law_new","_law_due","_law_number","_law_twice","_law_bad"]
theorem gh:FnScope laN ["_law_script"] (ai cO):=fsc
abbrev LaX(P:Program)(w:World)(K:PySem.W.Frag)(mg:Str→Option Value)(base:Heap)(f:Addr)(cdv:Value)(A:Around)(outer:List Env)(s:Shared)(H:Hp)(E:XK):Cx:=(ko CX0 P w K mg base laN "law" (ai cO) f cdv A outer s H E).nox
def laS(i:Nat):Stmt:=(bU cO).getD i (.Pass ⟨0,0,0,0⟩)
theorem jq:∀(l:List Str)(i:Nat),(l.map V.str).eraseIdx i=(l.eraseIdx i).map V.str
 |[],_=>rfl
 |_::_,0=>rfl
 |x::l,i+1=>congrArg (V.str x :: ·) (jq l i)
section
variable{P:Program}{w:World}{K:PySem.W.Frag}{mg:Str→Option Value}{base:Heap}{f:Addr}{cdv:Value}{A:Around}{outer:List Env}{s:Shared}{H0:Hp}{E:XK}
theorem la0(hr:Room 7 (A.deeper (PyProof.Rows.envOfC "law" (ai cO) s.heap.objs.size f cdv)))(CP:Has P w K mg base 2 "_law_pick" ["_law_script","_law_k","_law_many"] (gg K)):
  ∃rd,PS (LaX P w K mg base f cdv A outer s H0 E) (laS 0) rd∧∀(D:Ends)(H:Hp)(a:Addr)(x1 x2 x3 x4 x5 x6 x7 x8 x9 x10 x11 x12:Option V),ff K H a→(∀n H',ak H H'→2≤n→n≤26→D.nx [some (.ref a),some (.int ((n:Nat):Int)),x2,x3,x4,x5,x6,x7,x8,x9,x10,x11,x12] H')→rd D [some (.ref a),x1,x2,x3,x4,x5,x6,x7,x8,x9,x10,x11,x12] H:=by
 obtain⟨fP,fdP,GP,mP,kP,bP⟩:=CP;have hr2:Room 2 _:=hr.mono (by decide);refine⟨_,au (i:=1) gh.nd rfl (Or.inr rfl) (aK cf ah (am GP hr2 rfl mP kP bP .nil aP (aa (pv 0) (aa ah (aa ah ae))))),?_⟩;intro D H a x1 x2 x3 x4 x5 x6 x7 x8 x9 x10 x11 x12 hS q;refine⟨_,rfl,a,_,_,rfl,by decide,by decide,hS,λr H1 r0 r1 s1=>⟨_,_,rfl,rfl,?_⟩⟩;have:=q (2+r.toNat) H1 s1 (by omega) (by omega);rw[show(((2+r.toNat:Nat)):Int)=2+r by omega]at this;exact this
theorem la1(hr:Room 7 (A.deeper (PyProof.Rows.envOfC "law" (ai cO) s.heap.objs.size f cdv))):
  ∃rd,PS (LaX P w K mg base f cdv A outer s H0 E) (laS 1) rd∧∀(D:Ends)(H:Hp)(x0 x1 x2 x3 x4 x5 x6 x7 x8 x9 x10 x11 x12:Option V),(∀l H',ak H H'→H l=none→H' l=some (.lst (L26.map V.str))→D.nx [x0,x1,some (.ref l),x3,x4,x5,x6,x7,x8,x9,x10,x11,x12] H')→rd D [x0,x1,x2,x3,x4,x5,x6,x7,x8,x9,x10,x11,x12] H:=by
 refine⟨_,so (ii:=2) (N:=["_law_sign"]) (cl:=[]) (k:=1) (js:=[]) (g:=aY 0) gh.nd rfl (Or.inl rfl) rfl (cW rfl (by decide +kernel) (by decide +kernel) (by decide +kernel)) rfl (λi j x h=>by simp at h) (rP bx) (λs H fp=>aF (i:=0) (show(["_law_sign"]:List Str).Nodup by decide +kernel) rfl (Or.inl rfl) (Or.inr rfl)) (λs H fp=>pv 0),?_⟩;intro D H x0 x1 x2 x3 x4 x5 x6 x7 x8 x9 x10 x11 x12 q;refine⟨A26,rfl,λp hp=>?_⟩;refine dL (fr:=[]) A26.cps.toList (λc=>V.str ⟨#[c]⟩) (show A26.cps.toList.length≤1000 by decide +kernel) hp vf rfl (λc y _=>y=.str ⟨#[c]⟩) (λz y H H' h _=>h) (λc H' k mc s1 _ hk=>⟨_,rfl,hk _ H' (ak.refl _) rfl⟩) (λys H1 s1 hp1 hys=>?_);rw[cu hys (f:=λc=>V.str ⟨#[c]⟩) λz y _ h=>h]at hp1;refine q p H1 s1 hp ?_;rw[hp1,←yx,map_map];rfl
theorem la2(hr:Room 7 (A.deeper (PyProof.Rows.envOfC "law" (ai cO) s.heap.objs.size f cdv)))(CP:Has P w K mg base 2 "_law_pick" ["_law_script","_law_k","_law_many"] (gg K)):
  ∃rd,PS (LaX P w K mg base f cdv A outer s H0 E) (laS 2) rd∧∀(D:Ends)(H:Hp)(a:Addr)(n:Nat)(x2 x3 x4 x5 x6 x7 x8 x9 x10 x11 x12:Option V),ff K H a→2≤n→n≤26→(∀n H',ak H H'→2≤n→n≤26→D.nx [some (.ref a),some (.int ((n:Nat):Int)),x2,x3,x4,x5,x6,x7,x8,x9,x10,x11,x12] H')→rd D [some (.ref a),some (.int ((n:Nat):Int)),x2,x3,x4,x5,x6,x7,x8,x9,x10,x11,x12] H:=by
 obtain⟨fP,fdP,GP,mP,kP,bP⟩:=CP;have hr2:Room 2 _:=hr.mono (by decide);refine⟨_,bj (aw cG (am GP hr2 rfl mP kP bP .nil aP (aa (pv 0) (aa ah (aa ah ae)))) ah (aC _)) (aj (au (i:=1) gh.nd rfl (Or.inr rfl) ah)) aJ,?_⟩;intro D H a n x2 x3 x4 x5 x6 x7 x8 x9 x10 x11 x12 hS n2 n26 q;exact⟨_,rfl,a,_,_,rfl,by decide,by decide,hS,λr H1 r0 r1 s1=>⟨rfl,_,rfl,ze (λ_=>q 26 H1 s1 (by decide) (by decide)) (λ_=>q n H1 s1 n2 n26)⟩⟩
theorem la3:∃rd,PS (LaX P w K mg base f cdv A outer s H0 E) (laS 3) rd∧∀(D:Ends)(H:Hp)(x0 x1 x2 x3 x4 x5 x6 x7 x8 x9 x10 x11 x12:Option V),(∀l H',ak H H'→H l=none→H' l=some (.lst [])→D.nx [x0,x1,x2,some (.ref l),x4,x5,x6,x7,x8,x9,x10,x11,x12] H')→rd D [x0,x1,x2,x3,x4,x5,x6,x7,x8,x9,x10,x11,x12] H:=by
 refine⟨_,au (i:=3) gh.nd rfl (Or.inr rfl) (cg ae),?_⟩;intro D H x0 x1 x2 x3 x4 x5 x6 x7 x8 x9 x10 x11 x12 q;exact⟨ao (by decide),λa ha=>q a _ (af ha) ha ac⟩
theorem la4(T:Txt mg)(hr:Room 7 (A.deeper (PyProof.Rows.envOfC "law" (ai cO) s.heap.objs.size f cdv)))(CP:Has P w K mg base 2 "_law_pick" ["_law_script","_law_k","_law_many"] (gg K)):
  ∃rd,PS (LaX P w K mg base f cdv A outer s H0 E) (laS 4) rd∧∀(D:Ends)(HB H:Hp)(a ll nl:Addr)(n:Nat)(x4 x5 x6 x7 x8 x9 x10 x11 x12:Option V),ff K HB a→n≤26→HB ll=none→HB nl=none→ll≠nl→ak HB H→H ll=some (.lst (L26.map V.str))→H nl=some (.lst []) →
   (∀ns ls x4 H',ak HB H'→Nm n ns ls→H' ll=some (.lst (ls.map V.str))→H' nl=some (.lst (ns.map V.str))→D.nx [some (.ref a),some (.int ((n:Nat):Int)),some (.ref ll),some (.ref nl),x4,x5,x6,x7,x8,x9,x10,x11,x12] H')→rd D [some (.ref a),some (.int ((n:Nat):Int)),some (.ref ll),some (.ref nl),x4,x5,x6,x7,x8,x9,x10,x11,x12] H:=by
 obtain⟨fP,fdP,GP,mP,kP,bP⟩:=CP;have hr2:Room 2 _:=hr.mono (by decide);refine⟨_,cD PassesOwn.never rfl (gS rfl T.range (aa (pv 1) ae)) (aF (i:=4) gh.nd rfl (Or.inl rfl))
  (aj (bi (eA plainAttrs_list PySem.F.slot_list_append PySem.F.type_list_append bg (pv 3) (aa (eA plainAttrs_list slot_list_pop type_list_pop rk (pv 2) (aa (am GP hr2 rfl mP kP bP .nil aP (aa (pv 0) (aa (aK cf ah (pv 4)) (aa (aL (qf rfl) rfl T.min boot_min (aa (aL bt rfl T.len boot_len (aa (pv 2) ae)) (aa (aK kj (aK cf (pv 1) ah) (pv 4)) ae))) ae)))) ae)) ae)))),?_⟩
 intro D HB H a ll nl n x4 x5 x6 x7 x8 x9 x10 x11 x12 hS n26 fl fn ne sB hl hn q;refine⟨_,rfl,(n:Int),rfl,by omega,by omega,?_⟩;refine qd (n:=n) (λi σ H'=>∃ns ls x4,σ=[some (.ref a),some (.int ((n:Nat):Int)),some (.ref ll),some (.ref nl),x4,x5,x6,x7,x8,x9,x10,x11,x12]∧ak HB H'∧Nm i ns ls∧H' ll=some (.lst (ls.map V.str))∧H' nl=some (.lst (ns.map V.str))) ⟨[],L26,_,rfl,sB,Nm.start,hl,hn⟩ (λi σ H' hi h=>?_) (λσ H' h=>?_)
 ·obtain⟨ns,ls,x4,rfl,s1,N,h1,h2⟩:=h;have hll:=N.ll;have hi':i<n:=by omega
  refine⟨_,rfl,.inl ⟨rfl,_,SqL.of h2⟩,_,rfl,.inl ⟨rfl,_,SqL.of h1⟩,_,rfl,_,rfl,_,_,rfl,rfl,_,rfl,ll,_,rfl,.inl (SqL.of h1),_,rfl,_,_,rfl,rfl,_,rfl,_,_,rfl,rfl,_,_,rfl,a,_,_,rfl,by omega,?_,hS.same s1,λr H2 r0 r1 s2=>?_⟩
  ·rw[length_map];split<;>omega
  rw[length_map]at r1;have r2:r.toNat<ls.length:=by split at r1<;>omega
  obtain⟨x,gx⟩:∃x,ls[r.toNat]?=some x:=⟨_,getElem?_eq_getElem r2⟩;refine⟨ll,_,r,r.toNat,.str x,rfl,rfl,s2 _ _ h1,by omega,by omega,by rw[length_map];exact wO r0 (by omega),by rw[getElem?_map,gx];rfl,?_⟩;have em:(ls.map V.str).eraseIdx r.toNat=(ls.eraseIdx r.toNat).map V.str:=jq _ _;rw[em];have nl2:=s2 _ _ h2;refine⟨nl,_,_,rfl,rfl,by rw[al ne.symm];exact nl2,ax (by rw[length_map,N.len];omega),ns++[x],ls.eraseIdx r.toNat,_,rfl,?_,N.step gx,?_,?_⟩
  ·exact λb o e=>by
    rw[al (λz=>by rw[z,fn]at e;cases e),al (λz=>by rw[z,fl]at e;cases e)];exact s2 _ _ (s1 _ _ e)
  ·rw[al ne,ac]
  ·rw[ac,map_append];rfl
 ·obtain⟨ns,ls,x4,rfl,s1,N,h1,h2⟩:=h;exact q ns ls _ H' s1 N h1 h2
theorem la5(hr:Room 7 (A.deeper (PyProof.Rows.envOfC "law" (ai cO) s.heap.objs.size f cdv))):
  ∃rd,PS (LaX P w K mg base f cdv A outer s H0 E) (laS 5) rd∧∀(D:Ends)(H:Hp)(ll:Addr)(ls:List Str)(x0 x1 x3 x4 x5 x6 x7 x8 x9 x10 x11 x12:Option V),H ll=some (.lst (ls.map V.str))→(∀H',ak H H'→D.nx [x0,x1,some (.ref ll),x3,x4,some (.str (cm ls)),x6,x7,x8,x9,x10,x11,x12] H')→rd D [x0,x1,some (.ref ll),x3,x4,x5,x6,x7,x8,x9,x10,x11,x12] H:=by
 refine⟨_,au (i:=5) gh.nd rfl (Or.inl rfl) (lC (aw (jh hr.units0) (pv 2) (cg ae) (aC _)) (ar cK (pv 2) ah (λ_ _=>rfl)) bx),?_⟩;intro D H ll ls x0 x1 x3 x4 x5 x6 x7 x8 x9 x10 x11 x12 h q;refine⟨_,rfl,ao (by decide),λc hc=>?_⟩;have s2:=af (o:=.lst []) hc;have h2:=aW (o:=.lst []) hc h;have hc2:upd H c (.lst []) c=some (.lst []):=ac;generalize upd H c (.lst [])=H1 at s2 h2 hc2⊢;refine⟨ll,c,_,rfl,rfl,SqL.of h2,SqL.of hc2,_,rfl,?_⟩;cases ls with
 |nil=>exact aD (q H1 s2)
 |cons x r =>
  rw[decide_eq_false (show ¬List.map V.str (x::r)=[]by simp)];exact aA ⟨_,rfl,ll,_,_,_,rfl,rfl,SqL.of h2,bG (j:=0) rfl,q H1 s2⟩
theorem la6:∃rd,PS (LaX P w K mg base f cdv A outer s H0 E) (laS 6) rd∧∀(D:Ends)(H:Hp)(fr:Str)(x0 x1 x2 x3 x4 x6 x7 x8 x9 x10 x11 x12:Option V),(∀q rz H',ak H H'→H' q=some (.tup (aq rz))→At H' rz→nds rz=[r1,r2 fr]→D.nx [x0,x1,x2,x3,x4,some (.str fr),some (.ref q),x7,x8,x9,x10,x11,x12] H')→rd D [x0,x1,x2,x3,x4,some (.str fr),x6,x7,x8,x9,x10,x11,x12] H:=by
 refine⟨_,au (i:=6) gh.nd rfl (Or.inl rfl) (yz xE (aN (aa ah (aa ah (aa (pv 5) (aa ah ae)))))),?_⟩;intro D H fr x0 x1 x2 x3 x4 x6 x7 x8 x9 x10 x11 x12 cont;refine⟨ao (show 4≤1000 by decide),λp1 hp1=>?_⟩;have s1:=af (o:=.tup [.int 40,.int 0,.str "zz",.non]) hp1;have k1:upd H p1 (.tup [.int 40,.int 0,.str "zz",.non]) p1=some (.tup (vals r1)):=ac;generalize upd H p1 (.tup [.int 40,.int 0,.str "zz",.non])=H1 at s1 k1⊢;refine⟨_,rfl,ao (show 4≤1000 by decide),λp2 hp2=>?_⟩;have s2:=s1.trans (af (o:=.tup [.int 41,.int 40,.str fr,.int 5]) hp2);have k2:upd H1 p2 (.tup [.int 41,.int 40,.str fr,.int 5]) p2=some (.tup (vals (r2 fr))):=ac;have k1':=aW (o:=.tup [.int 41,.int 40,.str fr,.int 5]) hp2 k1;generalize upd H1 p2 (.tup [.int 41,.int 40,.str fr,.int 5])=H2 at s2 k2 k1'⊢;refine⟨ao (show 2≤1000 by decide),λq hq=>cont q [(p1,r1),(p2,r2 fr)] _ (s2.trans (af hq)) ac (λx hx=>?_) rfl⟩;rcases mem_cons.mp hx with e|hx
 ·rw[e];exact aW hq k1'
 ·rw[mem_singleton.mp hx];exact aW hq k2
theorem la7(T:Txt mg)(hr:Room 7 (A.deeper (PyProof.Rows.envOfC "law" (ai cO) s.heap.objs.size f cdv))):
  ∃rd,PS (LaX P w K mg base f cdv A outer s H0 E) (laS 7) rd∧∀(D:Ends)(H:Hp)(n:Nat)(nl q:Addr)(ns:List Str)(rz:ZN)(x0 x2 x4 x5 x7 x8 x9 x10 x11 x12:Option V),2≤n→n≤26→ns.length=n→H nl=some (.lst (ns.map V.str))→H q=some (.tup (aq rz))→At H rz→rz.length≤3 →
   (∀o zo H',ak H H'→H' o=some (.tup (aq zo))→At H' zo→nds zo=((List.range n).map λi=>rn i (ns.getD i ""))++nds rz→D.nx [x0,some (.int ((n:Nat):Int)),x2,some (.ref nl),x4,x5,some (.ref q),some (.ref o),x8,x9,x10,x11,x12] H')→rd D [x0,some (.int ((n:Nat):Int)),x2,some (.ref nl),x4,x5,some (.ref q),x7,x8,x9,x10,x11,x12] H:=by
 refine⟨_,au (i:=7) gh.nd rfl (Or.inl rfl) (aK (r:=oV K) eQ (bf bZ rfl T.tuple rfl (aa (eD (N:=["_law_k","_law_names"]) (cl:=[("_law_names",s.heap.objs.size+2)]) (k:=1) (js:=[3]) (g:=aY 0) rfl (LcOk.mk' ["_law_names"] rfl rfl (by decide +kernel) (by decide +kernel) ?hcl rfl (by decide +kernel)) rfl ?hj (gS rfl T.range (aa (pv 1) ae)) (λs H fp=>aF (i:=0) (show(["_law_k","_law_names"]:List Str).Nodup by decide +kernel) rfl (Or.inl rfl) (Or.inr rfl))
   (λs H fp=>aN (aa (aK cf (pv 0) ah) (aa ah (aa (ar (r:=nQ K) cK (pv 1) (pv 0) (λ_ _=>rfl)) (aa ah ae)))))) ae)) (pv 6)),?_⟩
 case hcl =>
  intro y hy;rcases mem_cons.mp hy with e|hy
  ·rw[e];rfl
  ·cases hy
 case hj =>
  intro i j x h1 h2
  match i,h1,h2 with
  |0,h1,h2 =>
   cases h1;cases h2;exact⟨rfl,Or.inr (Or.inl rfl),(show((ai cO).names.lookup ("_law_names":Str)≠some NameKind.local)by decide +kernel),by first|exact Or.inl rfl|exact Or.inr rfl⟩
  |i+1,h1,h2=>simp at h1
 intro D H n nl q ns rz x0 x2 x4 x5 x7 x8 x9 x10 x11 x12 n2 n26 hlen hn hq hA hrl cont;refine⟨_,rfl,(n:Int),rfl,by omega,by omega,λp hp=>?_⟩;refine dL (fr:=[some (.ref nl)]) (List.range n) (λi:Nat=>V.int (0+(i:Int))) (by rw[length_range];omega) hp (by have:=pA (lo:=0) (n:=n) (H1:=H);rwa [show((n:Int)).toNat=n from toNat_natCast n]) rfl (λi y H'=>∃c,y=.ref c∧c≠p∧H' c=some (.tup (vals (rn i (ns.getD i ""))))) (λz y H H' ⟨c,e,ne,h⟩ ex=>⟨c,e,ne,ex c _ ne h⟩) (λi H' k mi s1 hpl hk=>?_) (λys H1 s1 hp1 hys=>?_)
 ·have hi:=mem_range.mp mi;have gi:ns[i]?=some (ns.getD i ""):=by rw[getD_eq_getElem?_getD,getElem?_eq_getElem (by rw[hlen];exact hi)];rfl
  have ge:atI (ns.map V.str) (0+(i:Int))=some (.str (ns.getD i "")):=by rw[Int.zero_add];exact bG (by rw[getElem?_map,gi];rfl)
  refine⟨_,rfl,_,_,rfl,rfl,_,rfl,_,rfl,nl,_,_,_,rfl,rfl,SqL.of (s1 _ _ hn),ge,ao (show 4≤1000 by decide),λc hc=>hk _ _ (af hc) ⟨c,rfl,fJ hpl hc,?_⟩⟩;rw[ac];show some (HO.tup [V.int (0+(i:Int)+1),_,_,_])=some (HO.tup (vals (rn i _)));rw[show(0:Int)+(i:Int)+1=(i:Int)+1 by omega];rfl
 ·obtain⟨cs,e1,e2,e3⟩:=cS (val:=V.ref) (S:=λ(i:Nat) (c:Addr)=>H1 c=some (.tup (vals (rn i (ns.getD i ""))))) hys (λz y _ ⟨c,e,_,h⟩=>⟨c,e,h⟩);have ecl:cs.length=n:=by have:=congrArg length e1;rwa [length_map,length_range]at this
  refine⟨p,_,rfl,.inl ⟨SqL.of hp1,λl hl=>?_⟩⟩;have s2:=s1.trans (af (o:=.tup ys) hl);have hl2:upd H1 l (.tup ys) l=some (.tup ys):=ac;have cs2:∀x∈cs,upd H1 l (.tup ys) x.2=some (.tup (vals (rn x.1 ((λi:Nat=>ns.getD i "") x.1)))):=λx hx=>(af hl) _ _ (e3 x hx);generalize upd H1 l (.tup ys)=H2 at s2 hl2 cs2⊢;have ely:ys.length=n:=by rw[e2,length_map,ecl]
  have rl:(aq rz).length=rz.length:=aE rz;refine⟨_,rfl,l,q,_,_,rfl,rfl,SqT.of hl2,SqT.of (s2 _ _ hq),λz=>by rw[z]at ely;simp at ely;omega,by rw[ely,rl];exact ao (by omega),λz=>?_,λ_ o ho=>?_⟩
  ·have er:rz=[]:=by
    cases rz with
    |nil=>rfl
    |cons x r=>rw[←aO]at z;cases z
   subst er;refine cont l (cs.map λx=>(x.2,rn x.1 ((λi:Nat=>ns.getD i "") x.1))) H2 s2 ?_ (λx hx=>?_) ?_
   ·rw[hl2,e2,←aO,map_map];rfl
   ·obtain⟨y,hy,rfl⟩:=mem_map.mp hx;exact cs2 y hy
   ·show nds _=_++[];rw[append_nil,←e1];unfold nds;rw[map_map,map_map];rfl
  ·have s3:=s2.trans (af (o:=.tup (ys++aq rz)) ho);refine cont o ((cs.map λx=>(x.2,rn x.1 ((λi:Nat=>ns.getD i "") x.1)))++rz) _ s3 ?_ (λx hx=>?_) ?_
   ·rw[ac,e2,←aO,←aO,map_append,map_map];rfl
   ·rcases mem_append.mp hx with hx|hx
    ·obtain⟨y,hy,rfl⟩:=mem_map.mp hx;exact(af ho) _ _ (cs2 y hy)
    ·exact s3 _ _ (hA x hx)
   ·unfold nds;rw[map_append,map_map,←e1,map_map];rfl
theorem la8(T:Txt mg)(hr:Room 7 (A.deeper (PyProof.Rows.envOfC "law" (ai cO) s.heap.objs.size f cdv))):
  ∃rd,PS (LaX P w K mg base f cdv A outer s H0 E) (laS 8) rd∧∀(D:Ends)(H:Hp)(n:Nat)(nl q:Addr)(ns:List Str)(rz:ZN)(x0 x2 x4 x5 x7 x8 x9 x10 x11 x12:Option V),2≤n→n≤26→ns.length=n→H nl=some (.lst (ns.map V.str))→H q=some (.tup (aq rz))→At H rz→rz.length≤3 →
   (∀o zo H',ak H H'→H' o=some (.tup (aq zo))→At H' zo→nds zo=((List.range n).map λi=>rn i (ns.getD ((i+1) % n) ""))++nds rz→D.nx [x0,some (.int ((n:Nat):Int)),x2,some (.ref nl),x4,x5,some (.ref q),x7,some (.ref o),x9,x10,x11,x12] H')→rd D [x0,some (.int ((n:Nat):Int)),x2,some (.ref nl),x4,x5,some (.ref q),x7,x8,x9,x10,x11,x12] H:=by
 refine⟨_,au (i:=8) gh.nd rfl (Or.inl rfl) (aK (r:=oV K) eQ (bf bZ rfl T.tuple rfl (aa (eD (N:=["_law_k","_law_names","_law_size"]) (cl:=[("_law_size",s.heap.objs.size+1),("_law_names",s.heap.objs.size+2)]) (k:=1) (js:=[3,1]) (g:=aY 0) rfl (LcOk.mk' ["_law_size","_law_names"] rfl rfl (by decide +kernel) (by decide +kernel) ?hcl rfl (by decide +kernel)) rfl ?hj (gS rfl T.range (aa (pv 1) ae)) (λs H fp=>aF (i:=0) (show(["_law_k","_law_names","_law_size"]:List Str).Nodup by decide +kernel) rfl (Or.inl rfl) (Or.inr rfl))
   (λs H fp=>aN (aa (aK cf (pv 0) ah) (aa ah (aa (ar (r:=nQ K) cK (pv 1) (aK fm (aK cf (pv 0) ah) (pv 2)) (λ_ _=>rfl)) (aa ah ae)))))) ae)) (pv 6)),?_⟩
 case hcl =>
  intro y hy;rcases mem_cons.mp hy with e|hy
  ·rw[e];rfl
  rcases mem_cons.mp hy with e|hy
  ·rw[e];rfl
  ·cases hy
 case hj =>
  intro i j x h1 h2
  match i,h1,h2 with
  |0,h1,h2 =>
   cases h1;cases h2;exact⟨rfl,Or.inr (Or.inl rfl),(show((ai cO).names.lookup ("_law_names":Str)≠some NameKind.local)by decide +kernel),by first|exact Or.inl rfl|exact Or.inr rfl⟩
  |1,h1,h2 =>
   cases h1;cases h2;exact⟨rfl,Or.inr (Or.inl rfl),(show((ai cO).names.lookup ("_law_size":Str)≠some NameKind.local)by decide +kernel),by first|exact Or.inl rfl|exact Or.inr rfl⟩
  |i+2,h1,h2=>simp at h1
 intro D H n nl q ns rz x0 x2 x4 x5 x7 x8 x9 x10 x11 x12 n2 n26 hlen hn hq hA hrl cont;refine⟨_,rfl,(n:Int),rfl,by omega,by omega,λp hp=>?_⟩;refine dL (fr:=[some (.ref nl),some (.int ((n:Nat):Int))]) (List.range n) (λi:Nat=>V.int (0+(i:Int))) (by rw[length_range];omega) hp (by have:=pA (lo:=0) (n:=n) (H1:=H);rwa [show((n:Int)).toNat=n from toNat_natCast n]) rfl (λi y H'=>∃c,y=.ref c∧c≠p∧H' c=some (.tup (vals (rn i (ns.getD ((i+1) % n) ""))))) (λz y H H' ⟨c,e,ne,h⟩ ex=>⟨c,e,ne,ex c _ ne h⟩) (λi H' k mi s1 hpl hk=>?_) (λys H1 s1 hp1 hys=>?_)
 ·have hi:=mem_range.mp mi;have hm:(i+1) % n<n:=mod_lt _ (by omega);have gi:ns[(i+1) % n]?=some (ns.getD ((i+1) % n) ""):=by rw[getD_eq_getElem?_getD,getElem?_eq_getElem (by rw[hlen];exact hm)];rfl
  have em:(0+(i:Int)+1) % (n:Int)=(((i+1) % n:Nat):Int):=by rw[Int.natCast_emod];congr 1;omega
  have ge:atI (ns.map V.str) ((0+(i:Int)+1) % (n:Int))=some (.str (ns.getD ((i+1) % n) "")):=by rw[em];exact bG (by rw[getElem?_map,gi];rfl)
  refine⟨_,rfl,_,_,rfl,rfl,_,rfl,_,rfl,_,_,rfl,rfl,_,rfl,_,_,rfl,rfl,by omega,nl,_,_,_,rfl,rfl,SqL.of (s1 _ _ hn),ge,ao (show 4≤1000 by decide),λc hc=>hk _ _ (af hc) ⟨c,rfl,fJ hpl hc,?_⟩⟩;rw[ac];show some (HO.tup [V.int (0+(i:Int)+1),_,_,_])=some (HO.tup (vals (rn i _)));rw[show(0:Int)+(i:Int)+1=(i:Int)+1 by omega];rfl
 ·obtain⟨cs,e1,e2,e3⟩:=cS (val:=V.ref) (S:=λ(i:Nat) (c:Addr)=>H1 c=some (.tup (vals (rn i (ns.getD ((i+1) % n) ""))))) hys (λz y _ ⟨c,e,_,h⟩=>⟨c,e,h⟩);have ecl:cs.length=n:=by have:=congrArg length e1;rwa [length_map,length_range]at this
  refine⟨p,_,rfl,.inl ⟨SqL.of hp1,λl hl=>?_⟩⟩;have s2:=s1.trans (af (o:=.tup ys) hl);have hl2:upd H1 l (.tup ys) l=some (.tup ys):=ac;have cs2:∀x∈cs,upd H1 l (.tup ys) x.2=some (.tup (vals (rn x.1 ((λi:Nat=>ns.getD ((i+1) % n) "") x.1)))):=λx hx=>(af hl) _ _ (e3 x hx);generalize upd H1 l (.tup ys)=H2 at s2 hl2 cs2⊢;have ely:ys.length=n:=by rw[e2,length_map,ecl]
  have rl:(aq rz).length=rz.length:=aE rz;refine⟨_,rfl,l,q,_,_,rfl,rfl,SqT.of hl2,SqT.of (s2 _ _ hq),λz=>by rw[z]at ely;simp at ely;omega,by rw[ely,rl];exact ao (by omega),λz=>?_,λ_ o ho=>?_⟩
  ·have er:rz=[]:=by
    cases rz with
    |nil=>rfl
    |cons x r=>rw[←aO]at z;cases z
   subst er;refine cont l (cs.map λx=>(x.2,rn x.1 ((λi:Nat=>ns.getD ((i+1) % n) "") x.1))) H2 s2 ?_ (λx hx=>?_) ?_
   ·rw[hl2,e2,←aO,map_map];rfl
   ·obtain⟨y,hy,rfl⟩:=mem_map.mp hx;exact cs2 y hy
   ·show nds _=_++[];rw[append_nil,←e1];unfold nds;rw[map_map,map_map];rfl
  ·have s3:=s2.trans (af (o:=.tup (ys++aq rz)) ho);refine cont o ((cs.map λx=>(x.2,rn x.1 ((λi:Nat=>ns.getD ((i+1) % n) "") x.1)))++rz) _ s3 ?_ (λx hx=>?_) ?_
   ·rw[ac,e2,←aO,←aO,map_append,map_map];rfl
   ·rcases mem_append.mp hx with hx|hx
    ·obtain⟨y,hy,rfl⟩:=mem_map.mp hx;exact(af ho) _ _ (cs2 y hy)
    ·exact s3 _ _ (hA x hx)
   ·unfold nds;rw[map_append,map_map,←e1,map_map];rfl
end
theorem xF{t v:List Nd}{d:TW.Deed Str}(h:TW.Told t d (.inr v))(m:dX d=true):v.length=t.length:=by
 cases h with
 |made _ _ _ _ _=>cases m
 |wrote _ _ _=>cases m
 |moved _ _ _ _ _=>rw[length_map]
 |dropped _ _=>cases m
section
variable{P:Program}{w:World}{K:PySem.W.Frag}{mg:Str→Option Value}{base:Heap}
def lw:Sp:=λvs H Q _=>∃t l zs,∃ds:List (Addr×TW.Deed Str),∃u,vs=[.ref t,.ref l]∧Tre H t zs∧H l=some (.lst (ds.map λx=>V.ref x.1))∧(∀x∈ds,H x.1=some (.tup (bJ x.2))∧bX x.2∧dX x.2=true)∧zs.length≤29∧TW.Chain (nds zs) (ds.map (·.2)) u ∧
 ∀us t' H',ak H H'→H' t'=some (.tup (aq us))→At H' us→nds us=u→Q (.ref t') H'
theorem pV:FnScope ["tree","deeds","now","deed"] ["tree","deeds"] (ai wW):=fsc
theorem vg{f:Addr}{fd:FuncData}{cls:TW.Wd→Addr}(F:Fun K "all_done" "all_done" wW f fd)(CD:da P w K mg base 4 "done" ["tree","deed"] (jf cls)):FnOk P w K mg base CX0 5 f fd ["tree","deeds"] lw:=by
 obtain⟨fD,fdD,GD,mD,kD,bD⟩:=CD;refine F.ok pV (λvs H Q E h=>?_) (λcdv A outer s H vs Q E hr h=>?_)
 ·obtain⟨t,l,zs,ds,u,rfl,_⟩:=h;rfl
 ·obtain⟨t,l,zs,ds,u,rfl,tr,hl,hds,hlen,hch,q⟩:=h;refine⟨_,ag (au (i:=2) pV.nd rfl (Or.inl rfl) (pv 0))
   (ag (cD PassesOwn.never rfl (cI (pv 1)) (aF (i:=3) pV.nd rfl (Or.inl rfl)) (aj (au (i:=2) pV.nd rfl (Or.inl rfl) (am (E:=E0) GD hr rfl mD kD bD .nil sr (aa (pv 2) (aa (pv 3) ae))))))
   (aj (av (pv 2)))),?_⟩
  refine⟨_,rfl,_,rfl,l,rfl,⟨_,SqL.of hl⟩,du (xs:=ds.map λx=>V.ref x.1) (λi σ H'=>∃t' us on,σ=[some (.ref t),some (.ref l),some (.ref t'),on]∧ak H H'∧H' t'=some (.tup (aq us))∧At H' us∧TW.Tree1 (nds us)∧us.length≤zs.length∧TW.Chain (nds us) ((ds.drop i).map (·.2)) u)
   ⟨t,zs,none,rfl,ak.refl _,tr.tup,tr.nod,tr.tr,le_refl _,hch⟩ (λi σ H' _ ⟨_,_,_,_,s1,_⟩=>SqL.of (s1 _ _ hl)) (λi x σ H' hx h=>?_) (λσ H' h=>?_)⟩
  ·obtain⟨t',us,on,rfl,s1,ht',hA',hT',hl',hc'⟩:=h;rw[getElem?_map]at hx;cases gx:ds[i]? with
   |none=>rw[gx]at hx;cases hx
   |some y =>
    rw[gx]at hx;cases hx;have my:=mem_of_getElem? gx;have hi:i<ds.length:=(List.getElem?_eq_some_iff.mp gx).1;obtain⟨hy1,hy2,hy3⟩:=hds y my;have ed:ds.drop i=y::ds.drop (i+1):=by
     rw[List.drop_eq_getElem_cons hi]
     congr 1
     exact Option.some.inj ((getElem?_eq_getElem hi).symm.trans gx)
    rw[ed,map_cons]at hc';obtain⟨v,hv1,hv2⟩:=hc'.head;refine⟨_,rfl,_,rfl,t',y.1,y.2,us,rfl,⟨ht',hA',hT',by omega⟩,by omega,s1 _ _ hy1,hy2,λws t2 H2 s2 ht2 hA2 told=>?_,λwd H2 s2 told=>?_⟩
    ·have e:v=nds ws:=by injection hv1.one hT' told
     subst e;have hl2:=xF told hy3;rw[aR,aR]at hl2;exact⟨t2,ws,_,rfl,s1.trans s2,ht2,hA2,told.tree hT' hy2.pos,by omega,hv2⟩
    ·have e:=hv1.one hT' told;cases e
  ·obtain⟨t',us,on,rfl,s1,ht',hA',hT',hl',hc'⟩:=h;rw[length_map,List.drop_length]at hc';exact⟨_,rfl,q us t' H' s1 ht' hA' hc'.end⟩
end
end TK
namespace L2
open PySem PySem.Spec PyProof.Rows
section
variable{X:Cx}
theorem qR(xs:Array Value):slicePick xs none none (some (-1))=xs.toList.reverse.toArray:=by
 rw[←rW];unfold slicePick sliceBounds sliceRange;dsimp only[getD];have h1:¬((-1:Int)>0):=by decide
 simp only[h1,if_false,Int.neg_neg,Int.ediv_one];have e:(if ((xs.size:Int)-1 > -1)then ((xs.size:Int)-1 - -1 - -1-1)else 0).toNat=xs.size:=by split<;>omega
 rw[e,List.filterMap_map]
 congr 2
 funext m
 show xs[((xs.size:Int)-1 + -1*(m:Int)).toNat]?=_;rw[Int.mul_comm]
def yA(K:PySem.W.Frag)(te ts:TE):TE:=λσ H Q=>te σ H λx H1=>ts σ H1 λy H2=>∃a xs,x=.ref a∧y=.int (-1)∧SqL K H2 a xs∧∀p,H2 p=none→Q (.ref p) (upd H2 p (.lst xs.reverse))
theorem vh{e st:Expr}{te ts:TE}{pos p2:Pos}(he:PE X e te)(hst:PE X st ts):PE X (.Subscript e (.Slice none none (some st) p2) pos) (yA X.K te ts):=by
 intro pins s σ H Q I h;refine Subscript_ (thn (he pins s σ H _ I h) λv s1 hpt=>?_);obtain⟨x,H1,I1,r1,q1⟩:=hpt;refine wpAny_Slice ?_;rw[evalPart_none];refine wpAny_pure (wpAny_pure ?_);rw[evalPart_some];refine thn (hst pins s1 σ H1 _ I1 q1) λu s3 hpt=>?_;obtain⟨y,H3,I3,r3,q3⟩:=hpt;obtain⟨a,xs,rfl,rfl,hx,q⟩:=q3;cases r1;obtain⟨tk,rfl⟩:=r3;have I4:Inv X pins σ H3 {s3 with heap:=s3.heap.push {cls:=.type "slice",data:=.fields #[.none,.none,.int (-1) tk]}}:=I3.kept (t':=s3.toks) λb ob q=>get?_push_of_some _ q
 obtain⟨its,r,ht,hz⟩:=I4.list hx;have hlen:its.length=xs.length:=r.length.symm;show wpAny (model X.prog X.w) X.A (subscriptTail e (.Slice none none (some st) p2) (.ref a) (.ref s3.heap.objs.size)) (EP X pins σ Q) X.xe {s3 with heap:=s3.heap.push {cls:=.type "slice",data:=.fields #[.none,.none,.int (-1) tk]}}
 refine tail_any (ops:=[.ref a,.ref s3.heap.objs.size]) ht.isList.typeIs slot_list_getitem.lookup ?_ (by with_unfolding_all rfl);refine wpAny_getItem_list_slice ht.isList (Heap.IsSliceOf.new ..) .none .none (.int (-1) tk) (by simp) ?_ (by rw[size_toArray,hlen];exact hz);rw[qR,show its.toArray.toList.reverse.toArray=its.reverse.toArray by simp];refine⟨.ref _,_,I4.laid (t':=s3.toks) (o:=.lst xs.reverse) (λb ob q=>get?_push_of_some _ q) (le_refl _) ?_,rfl,q _ (I4.hok.fresh (le_refl _))⟩;exact⟨by rw[List.length_reverse];exact hz,its.reverse,0,r.reverse,get?_push_size _ rfl⟩
end
end L2
namespace TK
open PySem L2
theorem oM(d:TW.Deed Str):∀v∈bJ d,cy v=true:=λv hv=>by
 cases d with
 |make n p nm st =>
  simp only[bJ,mem_cons,not_mem_nil,or_false]at hv;rcases hv with rfl|rfl|rfl|rfl|rfl
  ·rfl
  ·rfl
  ·rfl
  ·rfl
  ·cases st<;>rfl
 |write n st =>
  simp only[bJ,mem_cons,not_mem_nil,or_false]at hv;rcases hv with rfl|rfl|rfl<;>rfl
 |move n p nm =>
  simp only[bJ,mem_cons,not_mem_nil,or_false]at hv;rcases hv with rfl|rfl|rfl|rfl<;>rfl
 |drop n =>
  simp only[bJ,mem_cons,not_mem_nil,or_false]at hv;rcases hv with rfl|rfl<;>rfl
theorem tP{H:Hp}{ds es:ZD}(h:ds.map (·.2)=es.map (·.2))(hd:de H ds)(he:de H es):dA H (aG ds) (aG es):=by
 have hl:ds.length=es.length:=by have:=congrArg length h;rwa [length_map,length_map]at this
 refine⟨by unfold aG;rw[length_map,length_map,hl],λi x y hx hy=>?_⟩;unfold aG at hx hy;rw[getElem?_map]at hx hy;cases ga:ds[i]? with
 |none=>rw[ga]at hx;cases hx
 |some a =>
  cases gb:es[i]? with
  |none=>rw[gb]at hy;cases hy
  |some b =>
   rw[ga]at hx;rw[gb]at hy;cases hx;cases hy;have e:a.2=b.2:=by
    have h1:(ds.map (·.2))[i]?=some a.2:=by rw[getElem?_map,ga];rfl
    have h2:(es.map (·.2))[i]?=some b.2:=by rw[getElem?_map,gb];rfl
    rw[h,h2]at h1;exact(Option.some.inj h1).symm
   refine .inr ⟨a.1,b.1,_,_,rfl,rfl,hd a (mem_of_getElem? ga),he b (mem_of_getElem? gb),by rw[e],λj x y h1 h2=>?_⟩;rw[e]at h1;have exy:x=y:=Option.some.inj (h1.symm.trans h2);subst exy;exact fH ⟨rfl,oM b.2 x (mem_of_getElem? h1)⟩
section
variable{P:Program}{w:World}{K:PySem.W.Frag}{mg:Str→Option Value}{base:Heap}{f:Addr}{cdv:Value}{A:Around}{outer:List Env}{s:Shared}{H0:Hp}{E:XK}
theorem la9:∃rd,PS (LaX P w K mg base f cdv A outer s H0 E) (laS 9) rd∧∀(D:Ends)(H:Hp)(fr:Str)(x0 x1 x2 x3 x4 x6 x7 x8 x9 x10 x11 x12:Option V),(∀l c H',ak H H'→H l=none→H' l=some (.lst (aG [(c,d0 fr)]))→de H' [(c,d0 fr)]→D.nx [x0,x1,x2,x3,x4,some (.str fr),x6,x7,x8,some (.ref l),x10,x11,x12] H')→rd D [x0,x1,x2,x3,x4,some (.str fr),x6,x7,x8,x9,x10,x11,x12] H:=by
 refine⟨_,au (i:=9) gh.nd rfl (Or.inl rfl) (cg (cb (aN (aa bx (aa ah (aa ah (aa (pv 5) ae))))) ae)),?_⟩;intro D H fr x0 x1 x2 x3 x4 x6 x7 x8 x9 x10 x11 x12 cont;refine⟨_,rfl,ao (show 4≤1000 by decide),λc hc=>⟨ao (show 1≤1000 by decide),λl hl=>?_⟩⟩;have fl:H l=none:=(af hc).free hl;exact cont l c _ ((af hc).trans (af hl)) fl ac (λx hx=>by rw[mem_singleton.mp hx];exact aW hl ac)
theorem zm(T:Txt mg)(hr:Room 7 (A.deeper (PyProof.Rows.envOfC "law" (ai cO) s.heap.objs.size f cdv))):
  ∃rd,PS (LaX P w K mg base f cdv A outer s H0 E) (laS 10) rd∧∀(D:Ends)(HB H:Hp)(n:Nat)(nl l:Addr)(ns:List Str)(ds:ZD)(fr:Str)(x0 x2 x4 x5 x6 x7 x8 x10 x11 x12:Option V),2≤n→n≤26→ns.length=n→HB l=none→ak HB H→HB nl=some (.lst (ns.map V.str))→H l=some (.lst (aG ds))→de H ds→ds.map (·.2)=D3 n (λi=>ns.getD i "") fr 0 →
   (∀ds x4 H',ak HB H'→H' l=some (.lst (aG ds))→de H' ds→ds.map (·.2)=D3 n (λi=>ns.getD i "") fr (n-1)→D.nx [x0,some (.int ((n:Nat):Int)),x2,some (.ref nl),x4,x5,x6,x7,x8,some (.ref l),x10,x11,x12] H')→rd D [x0,some (.int ((n:Nat):Int)),x2,some (.ref nl),x4,x5,x6,x7,x8,some (.ref l),x10,x11,x12] H:=by
 refine⟨_,cD PassesOwn.never rfl (cI (vh (bf (jw rfl) rfl T.list rfl (aa (bf qB rfl T.range rfl (aa ah (aa (pv 1) ae))) ae)) (xX wb ah))) (aF (i:=4) gh.nd rfl (Or.inl rfl))
  (aj (bi (eA plainAttrs_list PySem.F.slot_list_append PySem.F.type_list_append bg (pv 9) (cb (aN (aa bx (aa (aK cf (pv 4) ah) (aa ah (aa (ar (r:=nQ K) cK (pv 3) (aK fm (aK cf (pv 4) ah) (pv 1)) (λ_ _=>rfl)) ae))))) ae)))),?_⟩
 intro D HB H n nl l ns ds fr x0 x2 x4 x5 x6 x7 x8 x10 x11 x12 n2 n26 hlen fl sB hn hl hD hds cont;refine⟨_,rfl,1,(n:Int),rfl,λg hg=>?_⟩;have s1:=af (o:=.rng 1 (n:Int)) hg;have g1:upd H g (.rng 1 (n:Int)) g=some (.rng 1 (n:Int)):=ac;generalize upd H g (.rng 1 (n:Int))=H1 at s1 g1⊢;refine⟨g,1,(n:Int),rfl,g1,⟨by omega,by omega,by omega,by omega⟩,by omega,λl1 hl1=>?_⟩;have en:((n:Int)-1).toNat=n-1:=by omega
 rw[en];have s2:=s1.trans (af (o:=.lst ((List.range (n-1)).map λk=>V.int (1+(k:Nat)))) hl1);have g2:upd H1 l1 (.lst ((List.range (n-1)).map λk=>V.int (1+(k:Nat)))) l1=some (.lst ((List.range (n-1)).map λk=>V.int (1+(k:Nat)))):=ac;generalize upd H1 l1 (.lst ((List.range (n-1)).map λk=>V.int (1+(k:Nat))))=H2 at s2 g2⊢;refine⟨_,rfl,l1,_,rfl,rfl,SqL.of g2,λl2 hl2=>?_⟩;have s3:=s2.trans (af (o:=.lst ((List.range (n-1)).map λk=>V.int (1+(k:Nat))).reverse) hl2);have g3:upd H2 l2 (.lst ((List.range (n-1)).map λk=>V.int (1+(k:Nat))).reverse) l2=some (.lst ((List.range (n-1)).map λk=>V.int (1+(k:Nat))).reverse):=ac;have nl2:l2≠l:=λz=>by have:=s2 _ _ hl;rw[←z,hl2]at this;cases this
 generalize upd H2 l2 (.lst ((List.range (n-1)).map λk=>V.int (1+(k:Nat))).reverse)=H3 at s3 g3⊢;have xl:((List.range (n-1)).map λk=>V.int (1+(k:Nat))).reverse.length=n-1:=by rw[List.length_reverse,length_map,length_range]
 refine⟨l2,rfl,⟨_,SqL.of g3⟩,du (xs:=((List.range (n-1)).map λk=>V.int (1+(k:Nat))).reverse) (λi σ H'=>∃ds x4,σ=[x0,some (.int ((n:Nat):Int)),x2,some (.ref nl),x4,x5,x6,x7,x8,some (.ref l),x10,x11,x12]∧ak HB H'∧H' l2=some (.lst ((List.range (n-1)).map λk=>V.int (1+(k:Nat))).reverse)∧H' l=some (.lst (aG ds))∧de H' ds∧ds.map (·.2)=D3 n (λi=>ns.getD i "") fr i)
  ⟨ds,_,rfl,sB.trans s3,g3,s3 _ _ hl,hD.same s3,hds⟩ (λi σ H' _ ⟨_,_,_,_,e,_⟩=>SqL.of e) (λi x σ H' hx h=>?_) (λσ H' h=>?_)⟩
 ·obtain⟨ds,x4,rfl,s4,g4,hl4,hD4,e4⟩:=h;have hi:i<n-1:=by
   have:=(List.getElem?_eq_some_iff.mp hx).1
   rwa [xl]at this
  have ex:x=V.int ((n-1-i:Nat):Int):=by
   rw[List.getElem?_reverse (by rw[length_map,length_range];exact hi),length_map,length_range,getElem?_map,getElem?_range (by omega)]at hx;have:=(Option.some.inj hx).symm;rw[this];show V.int (1+((n-1-1-i:Nat):Int))=_;rw[show(1:Int)+((n-1-1-i:Nat):Int)=((n-1-i:Nat):Int)by omega]
  subst ex;have hm:(n-1-i+1) % n<n:=mod_lt _ (by omega);have gi:ns[(n-1-i+1) % n]?=some (ns.getD ((n-1-i+1) % n) ""):=by rw[getD_eq_getElem?_getD,getElem?_eq_getElem (by rw[hlen];exact hm)];rfl
  have em:(((n-1-i:Nat):Int)+1) % (n:Int)=(((n-1-i+1) % n:Nat):Int):=by rw[Int.natCast_emod];congr 1
  have ge:atI (ns.map V.str) ((((n-1-i:Nat):Int)+1) % (n:Int))=some (.str (ns.getD ((n-1-i+1) % n) "")):=by rw[em];exact bG (by rw[getElem?_map,gi];rfl)
  have dl:ds.length≤60:=by have:=congrArg length e4;rw[length_map,lr]at this;omega
  refine⟨_,rfl,.inl ⟨rfl,_,SqL.of hl4⟩,_,rfl,_,_,rfl,rfl,_,rfl,_,rfl,_,_,rfl,rfl,_,rfl,_,_,rfl,rfl,by omega,nl,_,_,_,rfl,rfl,SqL.of (s4 _ _ hn),ge,ao (show 4≤1000 by decide),λc hc=>?_⟩;have s5:=af (o:=.tup [.str "move",.int (((n-1-i:Nat):Int)+1),.int 0,.str (ns.getD ((n-1-i+1) % n) "")]) hc;have k5:upd H' c (.tup [.str "move",.int (((n-1-i:Nat):Int)+1),.int 0,.str (ns.getD ((n-1-i+1) % n) "")]) c=some (.tup (bJ (dk n (λi=>ns.getD i "") (n-1-i)))):=ac;generalize upd H' c (.tup [.str "move",.int (((n-1-i:Nat):Int)+1),.int 0,.str (ns.getD ((n-1-i+1) % n) "")])=H5 at s5 k5⊢;have notl:∀{x:Addr}{xs:List V},H5 x=some (.tup xs)→x≠l:=λh z=>by rw[z,s5 _ _ hl4]at h;cases h
  refine⟨l,_,_,rfl,rfl,s5 _ _ hl4,ax (by unfold aG;rw[length_map];omega),ds++[(c,dk n (λi=>ns.getD i "") (n-1-i))],_,rfl,?_,?_,?_,?_,?_⟩
  ·exact λb o e=>by
    rw[al (λz=>by rw[z,fl]at e;cases e)];exact s5 _ _ (s4 _ _ e)
  ·rw[al nl2];exact s5 _ _ g4
  ·rw[ac];unfold aG;rw[map_append];rfl
  ·intro x hx;rcases mem_append.mp hx with hx|hx
   ·rw[al (notl (s5 _ _ (hD4 x hx)))];exact s5 _ _ (hD4 x hx)
   ·rw[mem_singleton.mp hx];show upd H5 l _ c=_;rw[al (notl k5)];exact k5
  ·rw[map_append,e4,iA];rfl
 ·obtain⟨ds,x4,rfl,s4,g4,hl4,hD4,e4⟩:=h;rw[xl]at e4;exact cont ds _ H' s4 hl4 hD4 e4
theorem zp(hr:Room 7 (A.deeper (PyProof.Rows.envOfC "law" (ai cO) s.heap.objs.size f cdv))):
  ∃rd,PS (LaX P w K mg base f cdv A outer s H0 E) (laS 11) rd∧∀(D:Ends)(HB H:Hp)(n:Nat)(nl l:Addr)(ns:List Str)(ds:ZD)(fr:Str)(x0 x1 x2 x4 x5 x6 x7 x8 x10 x11 x12:Option V),2≤n→n≤26→ns.length=n→HB l=none→ak HB H→H nl=some (.lst (ns.map V.str))→H l=some (.lst (aG ds))→de H ds→ds.map (·.2)=D3 n (λi=>ns.getD i "") fr (n-1) →
   (∀ds H',ak HB H'→H' l=some (.lst (aG ds))→de H' ds→ds.map (·.2)=D3 n (λi=>ns.getD i "") fr n→D.nx [x0,x1,x2,some (.ref nl),x4,x5,x6,x7,x8,some (.ref l),x10,x11,x12] H')→rd D [x0,x1,x2,some (.ref nl),x4,x5,x6,x7,x8,some (.ref l),x10,x11,x12] H:=by
 refine⟨_,bi (eA plainAttrs_list PySem.F.slot_list_append PySem.F.type_list_append bg (pv 9) (cb (aN (aa bx (aa ah (aa ah (aa (ar (r:=nQ K) cK (pv 3) ah (λ_ _=>rfl)) ae))))) ae)),?_⟩;intro D HB H n nl l ns ds fr x0 x1 x2 x4 x5 x6 x7 x8 x10 x11 x12 n2 n26 hlen fl sB hn hl hD e4 cont;have dl:ds.length≤60:=by have:=congrArg length e4;rw[length_map,lr]at this;omega
 have gi:ns[1]?=some (ns.getD 1 ""):=by rw[getD_eq_getElem?_getD,getElem?_eq_getElem (by omega)];rfl
 have ge:atI (ns.map V.str) 1=some (.str (ns.getD 1 "")):=bG (j:=1) (by rw[getElem?_map,gi];rfl);refine⟨_,rfl,.inl ⟨rfl,_,SqL.of hl⟩,_,rfl,nl,_,_,_,rfl,rfl,SqL.of hn,ge,ao (show 4≤1000 by decide),λc hc=>?_⟩;have s5:=af (o:=.tup [.str "move",.int 1,.int 0,.str (ns.getD 1 "")]) hc;have k5:upd H c (.tup [.str "move",.int 1,.int 0,.str (ns.getD 1 "")]) c=some (.tup (bJ (.move 1 0 (ns.getD 1 "")))):=ac;generalize upd H c (.tup [.str "move",.int 1,.int 0,.str (ns.getD 1 "")])=H5 at s5 k5⊢;have notl:∀{x:Addr}{xs:List V},H5 x=some (.tup xs)→x≠l:=λh z=>by rw[z,s5 _ _ hl]at h;cases h
 have ed:(TW.Deed.move 1 0 (ns.getD 1 ""):TW.Deed Str)=dk n (λi=>ns.getD i "") (n-1-(n-1)):=by
  rw[Nat.sub_self];unfold dk;rw[Nat.mod_eq_of_lt (show 0+1<n by omega)];rfl
 refine⟨l,_,_,rfl,rfl,s5 _ _ hl,ax (by unfold aG;rw[length_map];omega),cont (ds++[(c,.move 1 0 (ns.getD 1 ""))]) _ ?_ ?_ ?_ ?_⟩
 ·exact λb o e=>by
   rw[al (λz=>by rw[z,fl]at e;cases e)];exact s5 _ _ (sB _ _ e)
 ·rw[ac];unfold aG;rw[map_append];rfl
 ·intro x hx;rcases mem_append.mp hx with hx|hx
  ·rw[al (notl (s5 _ _ (hD x hx)))];exact s5 _ _ (hD x hx)
  ·rw[mem_singleton.mp hx];show upd H5 l _ c=_;rw[al (notl k5)];exact k5
 ·have e5:=iA n (λi=>ns.getD i "") fr (n-1);rw[show n-1+1=n by omega]at e5;rw[map_append,e4,e5,←ed];rfl
end
inductive Typ(H:Hp):V→Prop where
 |non:Typ H .non
 |bl (b:Bool):Typ H (.bl b)
 |int (i:Int):Typ H (.int i)
 |str (x:Str):Typ H (.str x)
 |lst {a:Addr} {xs:List V} (e:H a=some (.lst xs)):Typ H (.ref a)
 |tup {a:Addr} {xs:List V} (e:H a=some (.tup xs)):Typ H (.ref a)
theorem Typ.same{H H':Hp}{v:V}(h:Typ H v)(s:ak H H'):Typ H' v:=by
 cases h with
 |non=>exact .non
 |bl b=>exact .bl b
 |int i=>exact .int i
 |str x=>exact .str x
 |lst e=>exact .lst (s _ _ e)
 |tup e=>exact .tup (s _ _ e)
def isI:V→Bool
 |.int _=>true
 |_=>false
section
variable{P:Program}{w:World}{K:PySem.W.Frag}{mg:Str→Option Value}{base:Heap}
def iB:Sp:=λvs H Q _=>∃v,vs=[v]∧Typ H v∧Q (.bl (isI v)) H
theorem vi:FnScope ["thing"] ["thing"] (ai jb):=fsc
theorem jr{f:Addr}{fd:FuncData}(F:Fun K "is_whole" "is_whole" jb f fd)(T:Txt mg):FnOk P w K mg base CX0 1 f fd ["thing"] iB:=by
 refine F.ok vi (λvs H Q E h=>?_) (λcdv A outer s H vs Q E hr h=>?_)
 ·obtain⟨v,rfl,_⟩:=h;rfl
 ·obtain⟨v,rfl,hv,k⟩:=h;refine⟨_,aj (av (kh (aL cA rfl T.isin boot_isinstance (aa (pv 0) (aa (gm (v:=.ty "int") rfl T.int boot_int rfl) ae)))
   (kg (vP (aL cA rfl T.isin boot_isinstance (aa (pv 0) (aa (gm (v:=.ty "bool") rfl T.bool boot_bool rfl) ae))))))),?_⟩
  cases hv with
  |non=>exact⟨_,rfl,_,_,_,_,rfl,.non,(by kernel_rfl:_=some false),_,rfl,aD k⟩
  |bl b=>exact⟨_,rfl,_,_,_,_,rfl,.bl b,(by kernel_rfl:_=some true),_,rfl,aA ⟨_,rfl,_,_,_,_,rfl,.bl b,(by kernel_rfl:_=some true),_,rfl,k⟩⟩
  |int i=>exact⟨_,rfl,_,_,_,_,rfl,.int i,(by kernel_rfl:_=some true),_,rfl,aA ⟨_,rfl,_,_,_,_,rfl,.int i,(by kernel_rfl:_=some false),_,rfl,k⟩⟩
  |str x=>exact⟨_,rfl,_,_,_,_,rfl,.str x,(by kernel_rfl:_=some false),_,rfl,aD k⟩
  |lst e=>exact⟨_,rfl,_,_,_,_,rfl,.lst e,(by kernel_rfl:_=some false),_,rfl,aD k⟩
  |tup e=>exact⟨_,rfl,_,_,_,_,rfl,.tup e,(by kernel_rfl:_=some false),_,rfl,aD k⟩
end
def letters:Str:="abcdefghijklmnopqrstuvwxyz"
def inL(c:Nat):Bool:=!(Builtin.Str.occurrences letters ⟨#[c]⟩ 0 letters.length 1).isEmpty
def ik(x:Str):Bool:=decide (1≤x.length)&&decide (x.length≤5)&&x.cps.toList.all inL
def dW:V→Bool
 |.str x=>ik x
 |_=>false
def hZ:V→Prop
 |.str x=>x.length≤100
 |_=>True
section
variable{P:Program}{w:World}{K:PySem.W.Frag}{mg:Str→Option Value}{base:Heap}
def oN:Sp:=λvs H Q _=>∃v,vs=[v]∧Typ H v∧hZ v∧∀H',ak H H'→Q (.bl (dW v)) H'
theorem xG:FnScope ["thing"] ["thing"] (ai pJ):=fsc
theorem pW{f:Addr}{fd:FuncData}(F:Fun K "is_name" "is_name" pJ f fd)(T:Txt mg):FnOk P w K mg base CX0 1 f fd ["thing"] oN:=by
 obtain⟨tl,hL⟩:=T.letters;obtain⟨tn,hN⟩:=T.longest;refine F.ok xG (λvs H Q E h=>?_) (λcdv A outer s H vs Q E hr h=>?_)
 ·obtain⟨v,rfl,_⟩:=h;rfl
 ·obtain⟨v,rfl,hv,hsh,k⟩:=h;refine⟨_,ag (bj (PW.pt (pw_or (dE (dY (aL cA rfl T.isin boot_isinstance (aa (pv 0) (aa (gm (v:=.ty "str") rfl T.str boot_str rfl) ae))) (λ_=>rfl)))
    (pw_or1 (dE (rc oS oS ah (aL dG rfl T.len boot_len (aa (pv 0) ae)) (bQ (v:=.int 5) rfl hN ⟨_,rfl⟩))))))
   (aj (av cF)) aJ)
   (aj (av (aL (iY rfl) rfl T.all boot_all (aa (eD (N:=["sign"]) (k:=1) (js:=[]) rfl (cW rfl (by decide +kernel) (by decide +kernel) (by decide +kernel)) rfl (λi j x h=>by simp at h)
    (rP (pv 0)) (λs H fp=>aF (i:=0) (show(["sign"]:List Str).Nodup by decide +kernel) rfl (Or.inl rfl) (Or.inr rfl)) (λs H fp=>dg qe (pv 0) (bQ (v:=.str letters) rfl hL ⟨_,rfl⟩) (by with_unfolding_all rfl))) ae)))),?_⟩
  cases hv with
  |non=>exact⟨_,rfl,_,_,_,_,rfl,.non,(by kernel_rfl:_=some false),_,rfl,aA (aA (k _ (ak.refl _)))⟩
  |bl b=>exact⟨_,rfl,_,_,_,_,rfl,.bl b,(by kernel_rfl:_=some false),_,rfl,aA (aA (k _ (ak.refl _)))⟩
  |int i=>exact⟨_,rfl,_,_,_,_,rfl,.int i,(by kernel_rfl:_=some false),_,rfl,aA (aA (k _ (ak.refl _)))⟩
  |lst e=>exact⟨_,rfl,_,_,_,_,rfl,.lst e,(by kernel_rfl:_=some false),_,rfl,aA (aA (k _ (ak.refl _)))⟩
  |tup e=>exact⟨_,rfl,_,_,_,_,rfl,.tup e,(by kernel_rfl:_=some false),_,rfl,aA (aA (k _ (ak.refl _)))⟩
  |str x =>
   refine⟨_,rfl,_,_,_,_,rfl,.str x,(by kernel_rfl:_=some true),_,rfl,aD ?_⟩;have hlen:x.length≤100:=hsh;refine⟨_,rfl,x,rfl,le_of_lt (ax (by omega)),_,_,rfl,rfl,_,rfl,?_⟩;cases h1:decide ((1:Int)≤(x.length:Int))with
   |false =>
    refine aD ⟨_,rfl,aA ?_⟩;have e:dW (.str x)=false:=by
     have:¬ 1≤x.length:=by simp only[decide_eq_false_iff_not]at h1;omega
     simp[dW,ik,this]
    rw[←e];exact k _ (ak.refl _)
   |true =>
    refine aA ⟨_,_,rfl,rfl,_,rfl,?_⟩;cases h2:decide ((x.length:Int)≤5)with
    |false =>
     refine aA ?_;have e:dW (.str x)=false:=by
      have:¬x.length≤5:=by simp only[decide_eq_false_iff_not]at h2;omega
      simp[dW,ik,this]
     rw[←e];exact k _ (ak.refl _)
    |true =>
     refine aD ?_;have e:dW (.str x)=(x.cps.toList.map inL).all id:=by
      have a1:1≤x.length:=by simp only[decide_eq_true_eq]at h1;omega
      have a2:x.length≤5:=by simp only[decide_eq_true_eq]at h2;omega
      simp[dW,ik,a1,a2,all_map]
     rw[e]at k;have hsz:x.cps.size=x.length:=rfl;refine⟨_,rfl,x,rfl,λp hp=>?_⟩;refine mq (k:=1) (js:=[]) (J:=Its x) (p:=p) x.cps.size (by omega) (λi ys σ' H'=>ys=((x.cps.toList.take i).map inL).map V.bl∧σ'.length=1∧ak H H'∧H' p=some (.lst ys))
      ⟨rfl,rfl,af hp,ac⟩ (λi ys σ' H' h=>?_) (λi ys σ' H' hi h=>hi) (λys σ' H' h=>?_) (λi ys σ' H' hi h v H2 hy=>?_) ?_ ?_
     ·rw[h.1,length_map,length_map,length_take];omega
     ·obtain⟨e1,_,s1,e2⟩:=h;have e3:ys=(x.cps.toList.map inL).map V.bl:=by rw[e1,take_of_length_le (by simp)]
      subst e3;exact⟨le_refl _,_,_,rfl,SqL.of e2,k _ s1⟩
     ·obtain⟨e1,e0,s1,e2⟩:=h;obtain⟨rfl,c,hc,rfl⟩:=hy;refine⟨_,List.getElem?_set_self (by omega),_,_,rfl,rfl,e2,?_,by simpa using e0,aZ hp s1,ac⟩
      have hc':x.cps.toList[i]?=some c:=by simpa using hc
      rw[e1,take_succ,hc'];simp[inL]
     ·intro _ _ _ _ _ m q;exact m _ _ q
     ·rintro _ _ _ _ m ⟨v,hv,i,j,a1,a2,q⟩;exact⟨v,hv,i,j,a1,a2,m _ _ q⟩
end
def ia:V→Bool
 |.non=>true
 |.int i=>decide (0≤i)&&decide (i≤999)
 |_=>false
section
variable{P:Program}{w:World}{K:PySem.W.Frag}{mg:Str→Option Value}{base:Heap}
def lx:Sp:=λvs H Q _=>∃v,vs=[v]∧Typ H v∧Q (.bl (ia v)) H
theorem vj:FnScope ["thing"] ["thing"] (ai kZ):=fsc
theorem nH{f fW:Addr}{fd fdW:FuncData}(F:Fun K "is_stamp" "is_stamp" kZ f fd)(T:Txt mg)(FW:Fun K "is_whole" "is_whole" jb fW fdW)(bW:bY K fdW ["thing"] [])(mW:mg "is_whole"=some (.ref fW)):
  FnOk P w K mg base CX0 2 f fd ["thing"] lx:=by
 have GW:FnOk P w K mg base CX0 1 fW fdW ["thing"] iB:=jr FW T;obtain⟨tg,hG⟩:=T.greatest;refine F.ok vj (λvs H Q E h=>?_) (λcdv A outer s H vs Q E hr h=>?_)
 ·obtain⟨v,rfl,_⟩:=h;rfl
 ·obtain⟨v,rfl,hv,k⟩:=h;refine⟨_,aj (av (xS (dg iE (pv 0) cp (aC _)) (kg (kh (am GW hr rfl mW FW.kp bW .nil aP (aa (pv 0) ae)) (kg (rb oS oS ah (pv 0) (bQ (v:=.int 999) rfl hG ⟨_,rfl⟩))))))),?_⟩;refine⟨_,rfl,rfl,_,rfl,?_⟩;cases hv with
  |non=>exact aA k
  |bl b=>exact aD ⟨_,rfl,_,rfl,.bl b,_,rfl,aD k⟩
  |str x=>exact aD ⟨_,rfl,_,rfl,.str x,_,rfl,aD k⟩
  |lst e=>exact aD ⟨_,rfl,_,rfl,.lst e,_,rfl,aD k⟩
  |tup e=>exact aD ⟨_,rfl,_,rfl,.tup e,_,rfl,aD k⟩
  |int i =>
   refine aD ⟨_,rfl,_,rfl,.int i,_,rfl,aA ?_⟩;refine⟨_,rfl,_,_,rfl,rfl,_,rfl,?_⟩;have e:ia (.int i)=(decide (0≤i)&&decide (i≤999)):=rfl;cases h1:decide (0≤i)with
   |false=>rw[h1,Bool.false_and]at e;rw[e]at k;exact aD k
   |true=>rw[h1,Bool.true_and]at e;rw[e]at k;exact aA ⟨_,_,rfl,rfl,k⟩
def kc:V→Bool
 |.int i=>decide (1≤i)
 |_=>false
def fi:List V→Bool
 |[n,p,nm,st]=>kc n&&isI p&&dW nm&&ia st
 |_=>false
inductive NB(H:Hp):V→Bool→Prop where
 |no {v:V} (h:Typ H v) (hn:∀a xs,v=.ref a→H a≠some (.tup xs)):NB H v false
 |tup {a:Addr} {xs:List V} (e:H a=some (.tup xs)) (ht:∀y∈xs,Typ H y∧hZ y):NB H (.ref a) (fi xs)
theorem NB.same{H H':Hp}{v:V}{b:Bool}(h:NB H v b)(s:ak H H'):NB H' v b:=by
 cases h with
 |no h hn =>
  refine .no (h.same s) λa xs e1 e2=>?_;subst e1;cases h with
  |lst e=>rw[s _ _ e]at e2;cases e2
  |tup e=>exact hn _ _ rfl e
 |tup e ht=>exact .tup (s _ _ e) λy hy=>⟨(ht y hy).1.same s,(ht y hy).2⟩
def ly:Sp:=λvs H Q _=>∃v b,vs=[v]∧NB H v b∧∀H',ak H H'→Q (.bl b) H'
theorem xH:FnScope ["thing"] ["thing"] (ai sD):=fsc
theorem vk{f fW fN fS:Addr}{fd fdW fdN fdS:FuncData}(F:Fun K "is_node" "is_node" sD f fd)(T:Txt mg)(FW:Fun K "is_whole" "is_whole" jb fW fdW)(bW:bY K fdW ["thing"] [])(mW:mg "is_whole"=some (.ref fW))(FN:Fun K "is_name" "is_name" pJ fN fdN)(bN:bY K fdN ["thing"] [])(mN:mg "is_name"=some (.ref fN))(FS:Fun K "is_stamp" "is_stamp" kZ fS fdS)(bS:bY K fdS ["thing"] [])(mS:mg "is_stamp"=some (.ref fS)):
  FnOk P w K mg base CX0 3 f fd ["thing"] ly:=by
 have GW:FnOk P w K mg base CX0 1 fW fdW ["thing"] iB:=jr FW T;have GN:FnOk P w K mg base CX0 1 fN fdN ["thing"] oN:=pW FN T;have GS:FnOk P w K mg base CX0 2 fS fdS ["thing"] lx:=nH FS T FW bW mW;refine F.ok xH (λvs H Q E h=>?_) (λcdv A outer s H vs Q E hr h=>?_)
 ·obtain⟨v,b,rfl,_⟩:=h;rfl
 ·obtain⟨v,b,rfl,hv,k⟩:=h;have hr1:Room 1 _:=hr.mono (by decide);refine⟨_,ag (bj (PW.pt (pw_or (dE (dY (aL cA rfl T.isin boot_isinstance (aa (pv 0) (aa (gm (v:=.ty "tuple") rfl T.tuple boot_tuple rfl) ae))) (λ_=>rfl)))
    (pw_or1 (aw ib (aL bt rfl T.len boot_len (aa (pv 0) ae)) ah (aC _))))) (aj (av cF)) aJ)
   (ag (bj (PW.pt (pw_or (dE (dY (am GW hr1 rfl mW FW.kp bW .nil aP (aa (ar ap (pv 0) ah (λ_ _=>rfl)) ae)) (λ_=>rfl))) (pw_or1 (aw qY (ar ap (pv 0) ah (λ_ _=>rfl)) ah (aC _))))) (aj (av cF)) aJ)
   (aj (av (kh (am GW hr1 rfl mW FW.kp bW .nil aP (aa (ar ap (pv 0) ah (λ_ _=>rfl)) ae)) (kh (am GN hr1 rfl mN FN.kp bN .nil aP (aa (ar ap (pv 0) ah (λ_ _=>rfl)) ae))
    (kg (am GS hr rfl mS FS.kp bS .nil aP (aa (ar ap (pv 0) ah (λ_ _=>rfl)) ae)))))))),?_⟩
  cases hv with
  |no ht hn =>
   cases ht with
   |non=>exact⟨_,rfl,_,_,_,_,rfl,.non,(by kernel_rfl:_=some false),_,rfl,aA (aA (k _ (ak.refl _)))⟩
   |bl b=>exact⟨_,rfl,_,_,_,_,rfl,.bl b,(by kernel_rfl:_=some false),_,rfl,aA (aA (k _ (ak.refl _)))⟩
   |int i=>exact⟨_,rfl,_,_,_,_,rfl,.int i,(by kernel_rfl:_=some false),_,rfl,aA (aA (k _ (ak.refl _)))⟩
   |str x=>exact⟨_,rfl,_,_,_,_,rfl,.str x,(by kernel_rfl:_=some false),_,rfl,aA (aA (k _ (ak.refl _)))⟩
   |lst e=>exact⟨_,rfl,_,_,_,_,rfl,.lst e,(by kernel_rfl:_=some false),_,rfl,aA (aA (k _ (ak.refl _)))⟩
   |tup e=>exact absurd e (hn _ _ rfl)
  |@tup a xs e ht =>
   refine⟨_,rfl,_,_,_,_,rfl,.tup e,(by kernel_rfl:_=some true),_,rfl,aD ?_⟩;refine⟨_,rfl,a,xs,rfl,.inr (SqT.of e),rfl,_,rfl,?_⟩
   match xs,e,ht,k with
   |[n,p,nm,st],e,ht,k =>
    refine yg rfl ?_;have at0:atI [n,p,nm,st] 0=some n:=rfl;have at1:atI [n,p,nm,st] 1=some p:=rfl;have at2:atI [n,p,nm,st] 2=some nm:=rfl;have at3:atI [n,p,nm,st] 3=some st:=rfl;refine⟨_,rfl,a,_,_,_,rfl,rfl,SqT.of e,at0,_,rfl,(ht n (by simp)).1,_,rfl,?_⟩;cases hn:isI n with
    |false =>
     refine aA (aA ?_);have e0:fi [n,p,nm,st]=false:=by
      have:kc n=false:=by cases n<;>first|rfl|(simp[isI]at hn)
      simp[fi,this]
     rw[e0]at k;exact k _ (ak.refl _)
    |true =>
     refine aD ?_;obtain⟨i,rfl⟩:∃i,n=.int i:=by cases n<;>first|exact⟨_,rfl⟩|(simp[isI]at hn)
     refine⟨_,rfl,a,_,_,_,rfl,rfl,SqT.of e,at0,_,_,rfl,rfl,_,rfl,?_⟩;cases h1:decide (i<1)with
     |true =>
      refine aA ?_;have e0:fi [.int i,p,nm,st]=false:=by
       have:¬ 1≤i:=by simp only[decide_eq_true_eq]at h1;omega
       simp[fi,kc,this]
      rw[e0]at k;exact k _ (ak.refl _)
     |false =>
      refine aD ?_;have hi:1≤i:=by simp only[decide_eq_false_iff_not]at h1;omega
      have e0:fi [.int i,p,nm,st]=(isI p&&dW nm&&ia st):=by simp[fi,kc,hi]
      rw[e0]at k;refine⟨_,rfl,a,_,_,_,rfl,rfl,SqT.of e,at1,_,rfl,(ht p (by simp)).1,_,rfl,?_⟩;cases hp:isI p with
      |false =>
       rw[hp,Bool.false_and,Bool.false_and]at k;exact aD (k _ (ak.refl _))
      |true =>
       rw[hp,Bool.true_and]at k;refine aA ⟨_,rfl,a,_,_,_,rfl,rfl,SqT.of e,at2,_,rfl,(ht nm (by simp)).1,(ht nm (by simp)).2,λH1 s1=>⟨_,rfl,?_⟩⟩;cases hm:dW nm with
       |false =>
        rw[hm,Bool.false_and]at k;exact aD (k _ s1)
       |true =>
        rw[hm,Bool.true_and]at k;exact aA ⟨_,rfl,a,_,_,_,rfl,rfl,SqT.of (s1 _ _ e),at3,_,rfl,(ht st (by simp)).1.same s1,k _ s1⟩
   |[],e,ht,k=>exact aA (k _ (ak.refl _))
   |[_],e,ht,k=>exact aA (k _ (ak.refl _))
   |[_,_],e,ht,k=>exact aA (k _ (ak.refl _))
   |[_,_,_],e,ht,k=>exact aA (k _ (ak.refl _))
   |_::_::_::_::_::ys,e,ht,k =>
    have hne:(!decide (V.int ((ys.length+1+1+1+1+1:Nat):Int)=V.int 4))=true:=by
     have:¬(V.int ((ys.length+1+1+1+1+1:Nat):Int)=V.int 4):=λz=>by injection z with z;omega
     rw[decide_eq_false this];rfl
    show if (!decide (V.int ((ys.length+1+1+1+1+1:Nat):Int)=V.int 4))=true then _ else _
    rw[if_pos hne];exact k _ (ak.refl _)
def ltP(p:Nd×Nd):Bool:=decide (p.1.num<p.2.num)
def oO:Sp:=λvs H Q _=>∃t zs,vs=[.ref t]∧H t=some (.tup (aq zs))∧At H zs∧zs.length≤100∧∀H',ak H H'→Q (.bl (TW.adj (nds zs))) H'
theorem xI:FnScope ["nodes"] ["nodes"] (ai sE):=fsc
theorem vm{f:Addr}{fd:FuncData}(F:Fun K "are_rising" "are_rising" sE f fd)(T:Txt mg):FnOk P w K mg base CX0 1 f fd ["nodes"] oO:=by
 refine F.ok xI (λvs H Q E h=>?_) (λcdv A outer s H vs Q E hr h=>?_)
 ·obtain⟨t,zs,rfl,_⟩:=h;rfl
 ·obtain⟨t,zs,rfl,ht,hA,hl,k⟩:=h;refine⟨_,aj (av (aL (iY rfl) rfl T.all boot_all (aa (eD (N:=["one","other"]) (k:=2) (js:=[]) (g:=vT K 2 (lE (aY 0) (lE (aY 1) vS))) rfl (cW rfl (by decide +kernel) (by decide +kernel) (by decide +kernel)) rfl (λi j x h=>by simp at h)
   (wF rfl T.zip (aa (pv 0) (aa (cV (SlR.or fo nX) (pv 0) (cJ ah) gw) ae)))
   (λs H fp=>vU (n:=2) rfl (lF (aF (i:=0) (show(["one","other"]:List Str).Nodup by decide +kernel) rfl (Or.inl rfl) (Or.inr rfl)) (lF (aF (i:=1) (show(["one","other"]:List Str).Nodup by decide +kernel) rfl (Or.inl rfl) (Or.inr rfl)) tU)))
   (λs H fp=>dg qY (ar (r:=dc K) ap (pv 0) ah (λ_ _=>rfl)) (ar (r:=dc K) ap (pv 1) ah (λ_ _=>rfl)) (aC _))) ae))),?_⟩
  have main:∀(t2:Addr)(H1:Hp),ak H H1→H1 t2=some (.tup (aq (zs.drop 1)))→∀p,H1 p=none→∀Q':VK,(∀(q:Addr)(bs:List Bool)(H':Hp),ak H H'→H' q=some (.lst (bs.map V.bl))→bs.all id=TW.adj (nds zs)→Q' (.ref q) H') →
    LcW 2 [] (vT K 2 (lE (aY 0) (lE (aY 1) vS))) (tOp (rI0 λi j=>.bl (decide (i<j))) (tOp (dc K) (eX 0) (tC (.int 0))) (tOp (dc K) (eX 1) (tC (.int 0)))) (start ["nodes"] [.ref t]) Q' (Itz K t t2) H1 p:=by
   intro t2 H1 s1 ht2 p hp Q' k';have hp0:H p=none:=s1.free hp;have h1t:H1 t=some (.tup (aq zs)):=s1 _ _ ht;have hzl:((nds zs).zip ((nds zs).drop 1)).length=zs.length-1:=by rw[List.length_zip,length_drop,aR];omega
   refine mq (k:=2) (js:=[]) (J:=Itz K t t2) (p:=p) (zs.length-1) (by omega) (λi ys σ' H'=>ys=((((nds zs).zip ((nds zs).drop 1)).take i).map ltP).map V.bl∧σ'.length=2∧ak H1 H'∧H' p=some (.lst ys))
    ⟨rfl,rfl,af hp,ac⟩ (λi ys σ' H' h=>?_) (λi ys σ' H' hi h=>?_) (λys σ' H' h=>?_) (λi ys σ' H' hi h v H2 hy=>?_) ?_ ?_
   ·rw[h.1,length_map,length_map,length_take];omega
   ·obtain⟨_,_,s2,_⟩:=h;refine⟨_,_,_,_,SqT.of (s2 _ _ h1t),SqT.of (s2 _ _ ht2),gK (getElem?_eq_getElem (by omega)),gK (z:=zs[i+1]) ?_⟩;rw[getElem?_drop,show 1+i=i+1 by omega,getElem?_eq_getElem (by omega)]
   ·obtain⟨e1,_,s2,e2⟩:=h;refine⟨⟨_,_,SqT.of (s2 _ _ h1t),SqT.of (s2 _ _ ht2),.inr (by rw[aE,length_drop];exact le_refl _)⟩,?_⟩;rw[e1]at e2;refine k' p _ H' (s1.trans s2) e2 ?_;rw[take_of_length_le (by omega),all_map,TW.pB];rfl
   ·obtain⟨e1,e0,s2,e2⟩:=h;obtain⟨o1,o2,rfl⟩:=wN e0;obtain⟨q,x,y,hq,rfl,hx,hy',rfl⟩:=hy;have gx:=hx _ (SqT.of (s2 _ _ h1t));have gy:=hy' _ (SqT.of (s2 _ _ ht2));obtain⟨z1,g1,rfl⟩:=br gx;obtain⟨z2,g2,rfl⟩:=br gy;rw[getElem?_drop,show 1+i=i+1 by omega]at g2;have m1:=mem_of_getElem? g1;have m2:=mem_of_getElem? g2;have s3:ak H (upd H' q (.tup [.ref z1.1,.ref z2.1])):=(s1.trans s2).trans (af hq);refine⟨q,_,rfl,SqT.of ac,rfl,_,_,rfl,_,_,rfl,rfl,?_⟩;refine⟨_,rfl,z1.1,_,_,_,rfl,rfl,SqT.of (s3 _ _ (hA z1 m1)),at0 z1.2,_,rfl,z2.1,_,_,_,rfl,rfl,SqT.of (s3 _ _ (hA z2 m2)),at0 z2.2,_,_,rfl,rfl,aW hq e2,?_,rfl,aZ hp (s2.trans (af hq)),ac⟩;have ge:((nds zs).zip ((nds zs).drop 1))[i]?=some (z1.2,z2.2):=by
     rw[List.getElem?_zip_eq_some];refine⟨by unfold nds;rw[getElem?_map,g1];rfl,by unfold nds;rw[getElem?_drop,getElem?_map,show 1+i=i+1 by omega,g2];rfl⟩
    rw[e1,take_succ,ge];simp[ltP]
   ·rintro _ _ _ _ _ m ⟨a,xs,h1,h2,h3,v1,r1,h4,v2,r2,h5,h6,q⟩;exact⟨a,xs,h1,h2,h3,v1,r1,h4,v2,r2,h5,h6,m _ _ q⟩
   ·rintro _ _ _ _ m ⟨v1,a1,p1,x1,i1,w1,b1,b2,b3,b4,v2,a2,p2,x2,i2,w2,c1,c2,c3,c4,i,j,d1,d2,q⟩;exact⟨v1,a1,p1,x1,i1,w1,b1,b2,b3,b4,v2,a2,p2,x2,i2,w2,c1,c2,c3,c4,i,j,d1,d2,m _ _ q⟩
  have fin:∀(q:Addr)(bs:List Bool)(H':Hp),ak H H'→H' q=some (.lst (bs.map V.bl))→bs.all id=TW.adj (nds zs)→∃a,∃bs':List Bool,[V.ref q]=[V.ref a]∧SqL K H' a (bs'.map V.bl)∧Q (.bl (bs'.all id)) H':=λq bs H' s' e eb =>
   ⟨q,bs,rfl,SqL.of e,by rw[eb];exact k _ s'⟩
  refine⟨_,rfl,_,rfl,_,rfl,?_⟩
  by_cases hz:zs=[]
  ·subst hz;refine .inr ⟨t,_,rfl,SqT.of ht,rfl,rfl,t,t,_,_,rfl,ht,ht,λp hp=>?_⟩;exact main t H (ak.refl H) ht p hp _ fin
  ·have hlen:1≤zs.length:=by
    cases zs with
    |nil=>exact absurd rfl hz
    |cons _ _=>simp
   refine .inl ⟨t,_,rfl,SqT.of ht,?_,λp1 hp1=>?_⟩
   ·rw[aE];intro h;have:HT.sIx zs.length 0 (some ((1:Nat):Int))=min 1 zs.length:=HT.dF _ _ _;have h1:HT.sIx zs.length 0 (some ((1:Nat):Int))=0:=h.1;omega
   ·have ecut:io (aq zs) (some 1) none=aq (zs.drop 1):=by
     unfold io;rw[HT.iG,aE,show HT.sIx zs.length 0 (some (1:Int))=min 1 zs.length from HT.dF _ _ 1,show min 1 zs.length=1 by omega];unfold aq;rw[←map_drop,←map_drop,take_of_length_le (by simp)]
    rw[ecut];refine⟨t,p1,_,_,rfl,aW hp1 ht,ac,λp hp=>?_⟩;exact main p1 _ (af hp1) ac p hp _ fin
def tQ:Sp:=λvs H Q _=>∃t zs,vs=[.ref t]∧H t=some (.tup (aq zs))∧At H zs∧zs.length≤60∧∀b H',(b=true↔TW.dM (nds zs))→ak H H'→Q (.bl b) H'
theorem yB:FnScope ["nodes"] ["nodes"] (ai wP):=fsc
theorem xJ{f:Addr}{fd:FuncData}(F:Fun K "have_own_places" "have_own_places" wP f fd)(T:Txt mg):FnOk P w K mg base CX0 1 f fd ["nodes"] tQ:=by
 refine F.ok yB (λvs H Q E h=>?_) (λcdv A outer s H vs Q E hr h=>?_)
 ·obtain⟨t,zs,rfl,_⟩:=h;rfl
 ·obtain⟨t,zs,rfl,ht,hA,hl,k⟩:=h;refine⟨_,aj (av (dg cG (aL mh rfl T.len boot_len (aa (bf (ju rfl (kX hr)) rfl T.set rfl (aa (eD (N:=["node"]) (k:=1) (js:=[]) (g:=aY 0) rfl (cW rfl (by decide +kernel) (by decide +kernel) (by decide +kernel)) rfl (λi j x h=>by simp at h)
   (cq (pv 0))
   (λs H fp=>aF (i:=0) (show(["node"]:List Str).Nodup by decide +kernel) rfl (Or.inl rfl) (Or.inr rfl))
   (λs H fp=>aN (aa (ar (r:=dc K) ap (pv 0) ah (λ_ _=>rfl)) (aa (ar (r:=dc K) ap (pv 0) ah (λ_ _=>rfl)) ae)))) ae)) ae))
   (aL bt rfl T.len boot_len (aa (pv 0) ae)) (aC _))),?_⟩
  refine⟨_,rfl,t,rfl,⟨_,SqT.of ht⟩,λp hp=>?_⟩;refine mq (k:=1) (js:=[]) (J:=Itt K t) (p:=p) zs.length (by omega) (λi ys σ' H'=>∃kss:List (Addr×List Key),ys=(kss.map (·.1)).map V.ref∧kss.map (·.2)=((nds zs).take i).map plK∧kss.length=i∧(∀z∈kss,H' z.1=some (.tup (z.2.map kV)))∧σ'.length=1∧ak H H'∧H' p=some (.lst ys))
    ⟨[],rfl,rfl,rfl,by simp,rfl,af hp,ac⟩ (λi ys σ' H' h=>?_) (λi ys σ' H' hi h=>?_) (λys σ' H' h=>?_) (λi ys σ' H' hi h v H2 hy=>?_) ?_ ?_
  ·obtain⟨kss,rfl,_,e,_⟩:=h;rw[length_map,length_map];omega
  ·obtain⟨_,_,_,_,_,_,s2,_⟩:=h;exact⟨_,_,SqT.of (s2 _ _ ht),gK (getElem?_eq_getElem hi)⟩
  ·obtain⟨kss,e1,e2,e3,e4,_,s2,e5⟩:=h;refine⟨⟨_,SqT.of (s2 _ _ ht),by rw[aE];exact le_refl _⟩,?_⟩;subst e1;refine⟨p,kss,rfl,SqL.of e5,e4,by omega,λn hn hiff q hq=>?_⟩;refine⟨q,n,rfl,ac,by omega,?_⟩;have s3:ak H (upd H' q (.ext (kH q n))):=s2.trans (af hq);refine⟨_,rfl,t,_,rfl,.inr (SqT.of (s3 _ _ ht)),rfl,?_⟩;refine k _ _ ?_ s3;rw[take_of_length_le (by rw[aR];exact le_refl _)]at e2;rw[e2,qM,e3]at hiff;rw[←hiff,decide_eq_true_eq,aE];constructor
   ·intro z;injection z with z;omega
   ·intro z;rw[z]
  ·obtain⟨kss,e1,e2,e3,e4,e0,s2,e5⟩:=h;obtain⟨o1,rfl⟩:=sw e0;obtain⟨rfl,hx⟩:=hy;have gx:=hx _ (SqT.of (s2 _ _ ht));obtain⟨z1,g1,rfl⟩:=br gx;have m1:=mem_of_getElem? g1;refine⟨_,rfl,z1.1,_,_,_,rfl,rfl,SqT.of (s2 _ _ (hA z1 m1)),at1 z1.2,_,rfl,z1.1,_,_,_,rfl,rfl,SqT.of (s2 _ _ (hA z1 m1)),at2 z1.2,le2,λq hq=>?_⟩;refine⟨aW hq e5,kss++[(q,plK z1.2)],by rw[e1];simp,?_,by simp[e3],?_,rfl,aZ hp (s2.trans (af hq)),ac⟩
   ·rw[map_append,e2,take_succ,show(nds zs)[i]?=some z1.2 by unfold nds;rw[getElem?_map,g1];rfl];simp
   ·intro z hz;have hqp:q≠p:=λz=>by rw[z,e5]at hq;cases hq
    rcases mem_append.mp hz with hz|hz
    ·have:=aW (o:=.tup [.int z1.2.par,.str z1.2.nm]) hq (e4 z hz);rw[al]
     ·exact this
     ·intro e;rw[e,al (symm hqp),e5]at this;cases this
    ·have e:z=(q,plK z1.2):=by simpa using hz
     subst e;rw[al hqp];exact ac
  ·rintro _ _ _ _ _ m h;exact m _ _ h
  ·rintro _ _ _ _ m ⟨v1,b0,a1,x1,i1,w1,b1,b2,b3,b4,v2,c0,a2,x2,i2,w2,c1,c2,c3,c4,l,q⟩;exact⟨v1,b0,a1,x1,i1,w1,b1,b2,b3,b4,v2,c0,a2,x2,i2,w2,c1,c2,c3,c4,l,λp hp=>m _ _ (q p hp)⟩
end
theorem xK{H:Hp}(o:Option Int):Typ H (stV o):=by
 cases o with
 |none=>exact .non
 |some i=>exact .int i
theorem tR(o:Option Int):hZ (stV o):=by cases o<;>exact True.intro
theorem yC{H:Hp}{z:Addr×Nd}(e:H z.1=some (.tup (vals z.2)))(hs:hZ (.str z.2.nm)):NB H (.ref z.1) (fi (vals z.2)):=by
 refine .tup e λy hy=>?_;unfold vals at hy;simp only[mem_cons,not_mem_nil,or_false]at hy;rcases hy with rfl|rfl|rfl|rfl
 ·exact⟨.int _,True.intro⟩
 ·exact⟨.int _,True.intro⟩
 ·exact⟨.str _,hs⟩
 ·exact⟨xK _,tR _⟩
inductive TR(H:Hp):V→Prop→Prop where
 |no {v:V} (h:Typ H v) (hn:∀a xs,v=.ref a→H a≠some (.tup xs)):TR H v False
 |bad {a:Addr} {xs:List V} {bs:List Bool} (e:H a=some (.tup xs)) (hl:xs.length≤100) (hb:bs.length=xs.length) (h:∀(i:Nat) x b,xs[i]?=some x→bs[i]?=some b→NB H x b) (hf:bs.all id=false):TR H (.ref a) False
 |nodes {a:Addr} {zs:ZN} (e:H a=some (.tup (aq zs))) (hA:At H zs) (hl:zs.length≤60) (ho:∀z∈zs,fi (vals z.2)=true∧hZ (.str z.2.nm)):TR H (.ref a) (TW.Tree (nds zs))
section
variable{P:Program}{w:World}{K:PySem.W.Frag}{mg:Str→Option Value}{base:Heap}{f:Addr}{cdv:Value}{A:Around}{outer:List Env}{s:Shared}{H0:Hp}{E:XK}
def jt:Sp:=λvs H Q _=>∃v φ,vs=[v]∧TR H v φ∧∀b H',(b=true↔φ)→ak H H'→Q (.bl b) H'
theorem xL:FnScope ["thing"] ["thing"] (ai sF):=fsc
structure Ups(P:Program)(w:World)(K:PySem.W.Frag)(mg:Str→Option Value)(base:Heap):Prop where
 node:∃f fd,FnOk P w K mg base CX0 3 f fd ["thing"] ly∧mg "is_node"=some (.ref f)∧keepIn K (.ref f)=true∧bY K fd ["thing"] []
 rise:∃f fd,FnOk P w K mg base CX0 1 f fd ["nodes"] oO∧mg "are_rising"=some (.ref f)∧keepIn K (.ref f)=true∧bY K fd ["nodes"] []
 own:∃f fd,FnOk P w K mg base CX0 1 f fd ["nodes"] tQ∧mg "have_own_places"=some (.ref f)∧keepIn K (.ref f)=true∧bY K fd ["nodes"] []
 ins:∃f fd,FnOk P w K mg base CX0 1 f fd ["nodes","folder"] ng∧mg "numbers_inside"=some (.ref f)∧keepIn K (.ref f)=true∧bY K fd ["nodes","folder"] []
theorem vn{f:Addr}{fd:FuncData}(F:Fun K "is_tree" "is_tree" sF f fd)(T:Txt mg)(U:Ups P w K mg base):FnOk P w K mg base CX0 4 f fd ["thing"] jt:=by
 obtain⟨fN,fdN,GN,mN,kN,bN⟩:=U.node;obtain⟨fR,fdR,GR,mR,kR,bR⟩:=U.rise;obtain⟨fO,fdO,GO,mO,kO,bO⟩:=U.own;obtain⟨fI,fdI,GI,mI,kI,bI⟩:=U.ins;obtain⟨tt,hT⟩:=T.top;refine F.ok xL (λvs H Q E h=>?_) (λcdv A outer s H vs Q E hr h=>?_)
 ·obtain⟨v,φ,rfl,_⟩:=h;rfl
 ·obtain⟨v,φ,rfl,hv,k⟩:=h;have hr1:Room 1 _:=hr.mono (by decide);refine⟨_,ag (bj (PW.pt (pw_or (dE (dY (aL cA rfl T.isin boot_isinstance (aa (pv 0) (aa (gm (v:=.ty "tuple") rfl T.tuple boot_tuple rfl) ae))) (λ_=>rfl)))
    (pw_or1 (dE (dY (aL (iY rfl) rfl T.all boot_all (aa (eD (N:=["part"]) (k:=1) (js:=[]) (g:=aY 0) rfl (cW rfl (by decide +kernel) (by decide +kernel) (by decide +kernel)) rfl (λi j x h=>by simp at h)
     (cq (pv 0)) (λs H fp=>aF (i:=0) (show(["part"]:List Str).Nodup by decide +kernel) rfl (Or.inl rfl) (Or.inr rfl))
     (λs H fp=>am (X:=cz _ _ _ _ _ _ _) GN hr rfl mN kN bN .nil aP (aa (pv 0) ae))) ae)) (λ_=>rfl)))))) (aj (av cF)) aJ)
   (ag (bj (PW.pt (pw_or (dE (dY (am GR hr1 rfl mR kR bR .nil aP (aa (pv 0) ae)) (λ_=>rfl))) (pw_or1 (dE (dY (am GO hr1 rfl mO kO bO .nil aP (aa (pv 0) ae)) (λ_=>rfl)))))) (aj (av cF)) aJ)
   (aj (av (dg cG (aL bt rfl T.len boot_len (aa (am GI hr1 rfl mI kI bI .nil aP (aa (pv 0) (aa (bQ (v:=.int 0) rfl hT ⟨_,rfl⟩) ae))) ae)) (aL bt rfl T.len boot_len (aa (pv 0) ae)) (aC _))))),?_⟩
  have main:∀(a:Addr)(xs:List V)(bs:List Bool),H a=some (.tup xs)→xs.length≤100→bs.length=xs.length→(∀(i:Nat) x b,xs[i]?=some x→bs[i]?=some b→NB H x b)→∀p,H p=none→∀Q':VK,(∀H',ak H H'→H' p=some (.lst (bs.map V.bl))→Q' (.ref p) H') →
    LcW 1 [] (aY 0) (lH ly [] E0 (bv (eX 0) im)) (start ["thing"] [.ref a]) Q' (Itt K a) H p:=by
   intro a xs bs ea hxl hbl hb p hp Q' k';refine mq (k:=1) (js:=[]) (J:=Itt K a) (p:=p) xs.length (by omega) (λi ys σ' H'=>ys=(bs.take i).map V.bl∧σ'.length=1∧ak H H'∧H' p=some (.lst ys))
    ⟨rfl,rfl,af hp,ac⟩ (λi ys σ' H' h=>?_) (λi ys σ' H' hi h=>?_) (λys σ' H' h=>?_) (λi ys σ' H' hi h v H2 hy=>?_) ?_ ?_
   ·rw[h.1,length_map,length_take];omega
   ·obtain⟨_,_,s2,_⟩:=h;exact⟨_,_,SqT.of (s2 _ _ ea),getElem?_eq_getElem hi⟩
   ·obtain⟨e1,_,s2,e2⟩:=h;refine⟨⟨_,SqT.of (s2 _ _ ea),le_refl _⟩,?_⟩;rw[take_of_length_le (by omega)]at e1;rw[e1]at e2;exact k' H' s2 e2
   ·obtain⟨e1,e0,s2,e2⟩:=h;obtain⟨o1,rfl⟩:=sw e0;obtain⟨rfl,hx⟩:=hy;have gx:=hx _ (SqT.of (s2 _ _ ea));have gb:bs[i]?=some bs[i]:=getElem?_eq_getElem (by omega);refine⟨_,rfl,v,bs[i],rfl,(hb i v _ gx gb).same s2,λH3 s3=>⟨s3 _ _ e2,?_,rfl,aZ hp (s2.trans s3),ac⟩⟩;rw[e1,take_succ,gb,map_append];rfl
   ·rintro _ _ _ _ _ m h;exact m _ _ h
   ·rintro _ _ _ _ m ⟨v1,b0,v,b,e1,nb,q⟩;exact⟨v1,b0,v,b,e1,nb,λH' s'=>m _ _ (q H' s')⟩
  have hF:∀H',ak H H'→φ=False→Q (.bl false) H':=λH' s' e=>k false H' (by rw[e];simp) s';cases hv with
  |no ht hn =>
   cases ht with
   |non=>exact⟨_,rfl,_,_,_,_,rfl,.non,(by kernel_rfl:_=some false),_,rfl,aA (aA (hF _ (ak.refl _) rfl))⟩
   |bl b=>exact⟨_,rfl,_,_,_,_,rfl,.bl b,(by kernel_rfl:_=some false),_,rfl,aA (aA (hF _ (ak.refl _) rfl))⟩
   |int i=>exact⟨_,rfl,_,_,_,_,rfl,.int i,(by kernel_rfl:_=some false),_,rfl,aA (aA (hF _ (ak.refl _) rfl))⟩
   |str x=>exact⟨_,rfl,_,_,_,_,rfl,.str x,(by kernel_rfl:_=some false),_,rfl,aA (aA (hF _ (ak.refl _) rfl))⟩
   |lst e=>exact⟨_,rfl,_,_,_,_,rfl,.lst e,(by kernel_rfl:_=some false),_,rfl,aA (aA (hF _ (ak.refl _) rfl))⟩
   |tup e=>exact absurd e (hn _ _ rfl)
  |@bad a xs bs e hl hb h hf =>
   refine⟨_,rfl,_,_,_,_,rfl,.tup e,(by kernel_rfl:_=some true),_,rfl,aD ?_⟩;refine⟨_,rfl,a,rfl,⟨_,SqT.of e⟩,λp hp=>main a xs bs e hl hb h p hp _ λH1 s1 e1=>?_⟩;refine⟨p,bs,rfl,SqL.of e1,_,rfl,?_⟩;rw[hf];exact aA (hF _ s1 rfl)
  |@nodes a zs e hA hl ho =>
   refine⟨_,rfl,_,_,_,_,rfl,.tup e,(by kernel_rfl:_=some true),_,rfl,aD ?_⟩;refine⟨_,rfl,a,rfl,⟨_,SqT.of e⟩,λp hp=>main a (aq zs) (zs.map λ_=>true) e (by rw[aE];omega) (by rw[aE,length_map]) (λi x b hx hb=>?_) p hp _ λH1 s1 e1=>?_⟩
   ·obtain⟨z,gz,rfl⟩:=br hx;rw[getElem?_map,gz]at hb;cases hb;have mz:=mem_of_getElem? gz;have:=yC (hA z mz) (ho z mz).2;rw[(ho z mz).1]at this;exact this
   ·refine⟨p,_,rfl,SqL.of e1,_,rfl,?_⟩;have et:(zs.map λ_=>true).all id=true:=by simp
    rw[et];refine aD ?_;refine⟨_,rfl,a,zs,rfl,s1 _ _ e,hA.same s1,by omega,λH2 s2=>⟨_,rfl,?_⟩⟩;have s12:=s1.trans s2;cases hR:TW.adj (nds zs)with
    |false =>
     refine aA (aA (k false H2 ?_ s12));constructor
     ·intro h;cases h
     ·intro h;have:=(TW.kU _).mpr h.rise;rw[hR]at this;cases this
    |true =>
     have hR':=(TW.kU _).mp hR;refine aD ⟨_,rfl,a,zs,rfl,s12 _ _ e,hA.same s12,hl,λb H3 hb s3=>⟨_,rfl,?_⟩⟩;have s13:=s12.trans s3;cases b with
     |false =>
      refine aA (k false H3 ?_ s13);constructor
      ·intro h;cases h
      ·intro h;exact hb.mpr h.own
     |true =>
      have hO:=hb.mp rfl;refine aD ⟨_,rfl,a,0,zs,rfl,s13 _ _ e,hA.same s13,by omega,λfd dn l H4 wk el s4=>?_⟩;have s14:=s13.trans s4;refine⟨l,_,rfl,.inl (SqL.of el),_,rfl,a,_,rfl,.inr (SqT.of (s14 _ _ e)),rfl,k _ H4 ?_ s14⟩;rw[decide_eq_true_eq,aE];have wa:=wk.all;rw[aR]at wa;constructor
      ·intro h;injection h with h
       refine⟨hR',hO,wa.mp ?_⟩;simp only[cZ,length_map]at h;omega
      ·intro h;have:=wa.mpr h.down;simp only[cZ,length_map];rw[this]
theorem zq{CN:Addr}(hr:Room 7 (A.deeper (PyProof.Rows.envOfC "law" (ai cO) s.heap.objs.size f cdv)))(CI:da P w K mg base 7 "in_steps" ["old","new"] (pS CN))(CA:Has P w K mg base 5 "all_done" ["tree","deeds"] lw):
  ∃rd,PS (LaX P w K mg base f cdv A outer s H0 E) (laS 12) rd∧∀(D:Ends)(H:Hp)(n c:Nat)(a:Nat→Str)(fr:Str)(o u l:Addr)(zo zu:ZN)(ds:ZD)(x0 x1 x2 x3 x4 x5 x6 x10 x11 x12:Option V),Rg n a fr c→H o=some (.tup (aq zo))→At H zo→nds zo=tr3 n fr a→H u=some (.tup (aq zu))→At H zu→nds zu=tr3 n fr (nw n a)→H l=some (.lst (aG ds))→de H ds→ds.map (·.2)=D3 n a fr n →
   (∀H',ak H H'→D.nx [x0,x1,x2,x3,x4,x5,x6,some (.ref o),some (.ref u),some (.ref l),x10,x11,x12] H')→rd D [x0,x1,x2,x3,x4,x5,x6,some (.ref o),some (.ref u),some (.ref l),x10,x11,x12] H:=by
 obtain⟨fI,fdI,GI,mI,kI,bI⟩:=CI;obtain⟨fA,fdA,GA,mA,kA,bA⟩:=CA;have hr5:Room 5 _:=hr.mono (by decide);refine⟨_,bj (PW.pt (pw_or (aw (sm (kX hr)) (am (E:=E0) GI hr rfl mI kI bI .nil sr (aa (pv 7) (aa (pv 8) ae))) (pv 9) (aC _)) (pw_or (aw (sm (kX hr)) (am GA hr5 rfl mA kA bA .nil aP (aa (pv 7) (aa (pv 9) ae))) (pv 8) (aC _)) (pw_or1 (aw (jh hr.units0) (am (E:=E0) GI hr rfl mI kI bI .nil sr (aa (pv 7) (aa (pv 7) ae))) (cg ae) (aC _)))))) (aj (av cF)) aJ,?_⟩;intro D H n c a fr o u l zo zu ds x0 x1 x2 x3 x4 x5 x6 x10 x11 x12 Rr ho hAo eo hu hAu eu hl hD ed cont;have n26:=Rr.n26;have n2:=Rr.n2;have lo:zo.length=n+2:=by rw[←aR,eo,eW]
 have lu:zu.length=n+2:=by rw[←aR,eu,eW]
 have To:Tre H o zo:=⟨ho,hAo,by rw[eo];exact Ta Rr,by omega⟩;have Tu:Tre H u zu:=⟨hu,hAu,by rw[eu];exact Tn Rr,by omega⟩;have no:∀m∈nds zo,jk m:=by rw[eo];exact nF n26 Rr.la Rr.lf
 have nu:∀m∈nds zu,jk m:=by rw[eu];exact nF n26 (λi hi=>Rr.la _ (dS Rr hi)) Rr.lf
 have sk:ig (nds zo) (nds zu):=by rw[eo,eu];exact jp n26
 have bd:∀z∈zo,-1≤z.2.num∧z.2.num≤99:=λz hz=>by
  have:=no z.2 (aH hz);exact⟨by have:=this.1;omega,this.2.1⟩
 refine⟨_,rfl,_,rfl,o,u,zo,zu,rfl,To,Tu,bd,nu,λh=>absurd sk h,λ_=>⟨I3 n a fr,λ_ ds=>40-ds.length,by rw[eu];exact xz Rr,.inl ⟨eo,rfl⟩,λl1 es t2 dd H1 s1 hI hn hl1 hes e1 hch=>?_⟩⟩;rw[eu]at hn e1;obtain⟨edd,ew⟩:=zk Rr hI hn;rw[edd,ew,append_nil]at e1;refine⟨_,rfl,.inr ⟨l1,l,_,_,rfl,rfl,tP (by rw[e1,ed]) hes (hD.same s1),.inl ⟨hl1,s1 _ _ hl⟩,_,rfl,aD ?_⟩⟩;have okd:∀d∈D3 n a fr n,bX d∧dX d=true:=λd hd=>by
  rcases mem_cons.mp hd with e|hd
  ·rw[e];exact⟨⟨by decide,by decide,Int.le_refl _,by decide,Rr.lf⟩,rfl⟩
  ·obtain⟨j,hj,rfl⟩:=mem_map.mp hd;have hj':=mem_range.mp hj;exact⟨⟨by omega,by omega,Int.le_refl _,by decide,Rr.la _ (dS Rr (by omega))⟩,rfl⟩
 refine⟨_,rfl,_,rfl,o,l,zo,ds,nds zu,rfl,To.same s1,s1 _ _ hl,λx hx=>⟨(hD.same s1) x hx,okd x.2 (by rw[←ed];exact mem_map.mpr ⟨x,hx,rfl⟩)⟩,by omega,by rw[eo,ed,eu];exact xA Rr,λus t' H2 s2 ht' hA' eus=>?_⟩;have s12:=s1.trans s2;refine⟨_,rfl,.inr ⟨t',u,_,_,rfl,rfl,nq eus hA' (hAu.same s12),.inr ⟨ht',s12 _ _ hu⟩,_,rfl,aD ?_⟩⟩;obtain⟨So,hno⟩:=xB To.tr (by rw[aR];omega);refine⟨_,rfl,_,rfl,o,o,zo,zo,rfl,To.same s12,To.same s12,bd,no,λh=>absurd (λm hm y hy e=>by rw[To.tr.inj hm hy e]) h,λ_=>⟨_,_,So,⟨rfl,rfl⟩,λl3 es3 t3 dd3 H3 s3 hI3 hn3 hl3 hes3 e3 hch3=>?_⟩⟩;obtain⟨rfl,rfl⟩:=hI3;have ew3:nB (nds zo) (nds zo)=[]:=by
  have e:=eo;rw[e];exact nG n26 (Ta Rr)
 rw[ew3]at e3;have e30:es3=[]:=List.map_eq_nil_iff.mp e3;subst e30;refine⟨ao (by decide),λg hg=>?_⟩;have s4:=af (o:=.lst []) hg;exact⟨l3,g,_,rfl,rfl,SqL.of (s4 _ _ hl3),SqL.of ac,_,rfl,aD (cont _ ((s12.trans s3).trans s4))⟩
end
theorem tS:∀x∈L26,ik x=true:=by decide +kernel
theorem vo:ik "zz"=true:=by decide +kernel
theorem vp:ik "aa"=true:=by decide +kernel
def GN(x:Str):Prop:=ik x=true∧x.length≤100
theorem yD{x:Str}(h:x∈L26):GN x:=⟨tS x h,(qQ x h).2.2⟩
theorem zr:GN "zz":=⟨vo,by decide +kernel⟩
theorem yE{n:Nat}{ns ls:List Str}(N:Nm n ns ls):GN (cm ls):=by
 cases e:ls with
 |nil=>exact⟨vp,(show("aa":Str).length≤100 by decide +kernel)⟩
 |cons x r =>
  have:x∈ls:=by rw[e];exact mem_cons_self
  rw[N.left]at this;exact yD (mem_filter.mp this).1
def il(m:Nd):Prop:=1≤m.num∧GN m.nm∧(m.st=none∨∃i:Int,m.st=some i∧0≤i∧i≤999)
theorem il.is{m:Nd}(h:il m):fi (vals m)=true∧hZ (.str m.nm):=by
 obtain⟨h1,h2,h3⟩:=h;refine⟨?_,h2.2⟩;show(kc (.int m.num)&&isI (.int m.par)&&dW (.str m.nm)&&ia (stV m.st))=true;have e1:kc (.int m.num)=true:=decide_eq_true h1;have e2:dW (.str m.nm)=true:=h2.1;have e3:ia (stV m.st)=true:=by
  rcases h3 with e|⟨i,e,i0,i1⟩
  ·rw[e];rfl
  ·rw[e];show(decide (0≤i)&&decide (i≤999))=true;rw[decide_eq_true i0,decide_eq_true i1];rfl
 rw[e1,e2,e3];rfl
theorem nI{n:Nat}{fr:Str}{g:Nat→Str}(hg:∀i,i<n→GN (g i))(hf:GN fr):∀m∈tr3 n fr g,il m:=λm hm=>by
 rcases be.mp hm with⟨i,hi,rfl⟩|rfl|rfl
 ·exact⟨show 1≤(i:Int)+1 by omega,hg i hi,.inr ⟨7,rfl,by decide,by decide⟩⟩
 ·exact⟨show 1≤(40:Int)by decide,zr,.inl rfl⟩
 ·exact⟨show 1≤(41:Int)by decide,hf,.inr ⟨5,rfl,by decide,by decide⟩⟩
theorem gR{l1 l2:List Nd}{x y:Nd}(hy:y∈l1∨y∈l2)(e1:y.par=x.par)(e2:y.nm=x.nm):¬TW.Tree (l1++x::l2):=λT=>by
 have:=T.own;unfold TW.dM at this;rw[map_append,map_cons,nodup_append]at this;obtain⟨_,h2,h3⟩:=this;rcases hy with hy|hy
 ·exact h3 _ (mem_map.mpr ⟨y,hy,rfl⟩) _ mem_cons_self (by rw[e1,e2])
 ·exact(nodup_cons.mp h2).1 (mem_map.mpr ⟨y,hy,by rw[e1,e2]⟩)
structure TQ(H:Hp)(t:Addr)(zs:ZN):Prop where
 tup:H t=some (.tup (aq zs))
 nod:At H zs
 len:zs.length≤60
 good:∀m∈nds zs,il m
theorem TQ.same{H H':Hp}{t:Addr}{zs:ZN}(h:TQ H t zs)(s:ak H H'):TQ H' t zs:=⟨s _ _ h.tup,h.nod.same s,h.len,h.good⟩
theorem TQ.tr{H:Hp}{t:Addr}{zs:ZN}(h:TQ H t zs):TR H (.ref t) (TW.Tree (nds zs)):=.nodes h.tup h.nod h.len λz hz=>(h.good z.2 (aH hz)).is
theorem cx(a b:ZN):nds (a++b)=nds a++nds b:=by unfold nds;rw[map_append]
section
variable{P:Program}{w:World}{K:PySem.W.Frag}{mg:Str→Option Value}{base:Heap}{f:Addr}{cdv:Value}{A:Around}{outer:List Env}{s:Shared}{H0:Hp}{E:XK}
theorem zt(hr:Room 7 (A.deeper (PyProof.Rows.envOfC "law" (ai cO) s.heap.objs.size f cdv)))(CP:Has P w K mg base 2 "_law_pick" ["_law_script","_law_k","_law_many"] (gg K)):
  ∃rd,PS (LaX P w K mg base f cdv A outer s H0 E) (laS 13) rd∧∀(D:Ends)(H:Hp)(a:Addr)(n:Nat)(x2 x3 x4 x5 x6 x7 x8 x9 x10 x11 x12:Option V),ff K H a→2≤n→(∀m H',ak H H'→m<n→D.nx [some (.ref a),some (.int ((n:Nat):Int)),x2,x3,x4,x5,x6,x7,x8,x9,some (.int ((m:Nat):Int)),x11,x12] H')→rd D [some (.ref a),some (.int ((n:Nat):Int)),x2,x3,x4,x5,x6,x7,x8,x9,x10,x11,x12] H:=by
 obtain⟨fP,fdP,GP,mP,kP,bP⟩:=CP;have hr2:Room 2 _:=hr.mono (by decide);refine⟨_,au (i:=10) gh.nd rfl (Or.inl rfl) (am GP hr2 rfl mP kP bP .nil aP (aa (pv 0) (aa ah (aa (pv 1) ae)))),?_⟩;intro D H a n x2 x3 x4 x5 x6 x7 x8 x9 x10 x11 x12 hS n2 q;refine⟨_,rfl,_,rfl,a,_,_,rfl,by decide,by omega,hS,λr H1 r0 r1 s1=>?_⟩;have:=q r.toNat H1 s1 (by omega);rw[show((r.toNat:Nat):Int)=r by omega]at this;exact this
theorem zw(hr:Room 7 (A.deeper (PyProof.Rows.envOfC "law" (ai cO) s.heap.objs.size f cdv))):
  ∃rd,PS (LaX P w K mg base f cdv A outer s H0 E) (laS 14) rd∧∀(D:Ends)(H:Hp)(n m:Nat)(nl o:Addr)(ns:List Str)(zo:ZN)(x0 x1 x2 x4 x5 x6 x8 x9 x11 x12:Option V),2≤n→n≤26→m<n→ns.length=n→H nl=some (.lst (ns.map V.str))→H o=some (.tup (aq zo))→At H zo→zo.length=n+2 →
   (∀t p j H',ak H H'→j<n→j≠m→H' t=some (.tup (aq (zo.take m++(p,(⟨(m:Int)+1,0,ns.getD j "",some 8⟩:Nd))::zo.drop (m+1))))→At H' (zo.take m++(p,(⟨(m:Int)+1,0,ns.getD j "",some 8⟩:Nd))::zo.drop (m+1))→D.nx [x0,x1,x2,some (.ref nl),x4,x5,x6,some (.ref o),x8,x9,some (.int ((m:Nat):Int)),some (.ref t),x12] H')→rd D [x0,x1,x2,some (.ref nl),x4,x5,x6,some (.ref o),x8,x9,some (.int ((m:Nat):Int)),x11,x12] H:=by
 refine⟨_,au (i:=11) gh.nd rfl (Or.inl rfl) (aK (r:=fg K) dP (aK (r:=fg K) dP (cV (r:=ua K) fo (pv 7) gw (cJ (pv 10))) (aN (cb (aN (aa (aK cf (pv 10) ah) (aa ah (aa (ar (r:=nQ K) cK (pv 3) (aK kj (pv 10) ah) (λ_ _=>rfl)) (aa ah ae))))) ae))) (cV (r:=ua K) fo (pv 7) (cJ (aK cf (pv 10) ah)) gw)),?_⟩;intro D H n m nl o ns zo x0 x1 x2 x4 x5 x6 x8 x9 x11 x12 n2 n26 hm hlen hn ho hA hzl cont;have rl:(aq zo).length=n+2:=by rw[aE,hzl]
 obtain⟨j,hj,hjm,hat⟩:∃j,j<n∧j≠m∧atI (ns.map V.str) ((m:Int)-1)=some (.str (ns.getD j "")):=by
  by_cases z:m=0
  ·refine⟨n-1,by omega,by omega,?_⟩;subst z;have e:ns=ns.dropLast++[ns.getD (n-1) ""]:=by
    have h:=List.dropLast_concat_getLast (l:=ns) (by intro e;rw[e]at hlen;simp at hlen;omega);rw[List.getLast_eq_getElem]at h;rw[getD_eq_getElem?_getD,getElem?_eq_getElem (show n-1<ns.length by omega)];have:ns[ns.length-1]'(by omega)=ns[n-1]'(by omega):=by congr 1;omega
    rw[this]at h;exact h.symm
   show atI (ns.map V.str) (-1)=_;rw[e,map_append];have e2:(ns.dropLast++[ns.getD (n-1) ""]).getD (n-1) ""=ns.getD (n-1) "":=by rw[←e]
   rw[e2];exact rg _ _
  ·refine⟨m-1,by omega,by omega,?_⟩;rw[show(m:Int)-1=((m-1:Nat):Int)by omega];refine bG ?_;rw[getElem?_map,getD_eq_getElem?_getD,getElem?_eq_getElem (show m-1<ns.length by omega)];rfl
 refine⟨_,rfl,_,rfl,_,rfl,o,_,rfl,SqT.of ho,λh=>absurd h.2 (by rw[rl,HT.dF];omega),λt1 ht1=>?_⟩;rw[tM (by rw[rl];omega)];have s1:=af (o:=.tup ((aq zo).take m)) ht1;have k1:upd H t1 (.tup ((aq zo).take m)) t1=some (.tup (aq (zo.take m))):=by rw[ac,←aO,←aO,map_take]
 generalize upd H t1 (.tup ((aq zo).take m))=H1 at s1 k1⊢;refine⟨_,rfl,_,_,rfl,rfl,_,rfl,_,rfl,_,_,rfl,rfl,nl,_,_,_,rfl,rfl,SqL.of (s1 _ _ hn),hat,ao (show 4≤1000 by decide),λp hp=>⟨ao (show 1≤1000 by decide),λt2 ht2=>?_⟩⟩;have s2:=(s1.trans (af (o:=.tup [.int ((m:Int)+1),.int 0,.str (ns.getD j ""),.int 8]) hp)).trans (af (o:=.tup [.ref p]) ht2);have k2:upd (upd H1 p (.tup [.int ((m:Int)+1),.int 0,.str (ns.getD j ""),.int 8])) t2 (.tup [.ref p]) t2=some (.tup (aq [(p,(⟨(m:Int)+1,0,ns.getD j "",some 8⟩:Nd))])):=ac;have kp:upd (upd H1 p (.tup [.int ((m:Int)+1),.int 0,.str (ns.getD j ""),.int 8])) t2 (.tup [.ref p]) p=some (.tup (vals (⟨(m:Int)+1,0,ns.getD j "",some 8⟩:Nd))):=aW ht2 ac;have k1':=aW (o:=.tup [.ref p]) ht2 (aW (o:=.tup [.int ((m:Int)+1),.int 0,.str (ns.getD j ""),.int 8]) hp k1);show fg K (.ref t1) (.ref t2) (upd (upd H1 p (.tup [.int ((m:Int)+1),.int 0,.str (ns.getD j ""),.int 8])) t2 (.tup [.ref p])) _;generalize upd (upd H1 p (.tup [.int ((m:Int)+1),.int 0,.str (ns.getD j ""),.int 8])) t2 (.tup [.ref p])=H2 at s2 k2 kp k1'⊢;refine eU k1' k2 (by rw[length_take];simp;omega) λt3 H3 s3 ht3=>?_;have s13:=s2.trans s3;refine⟨_,rfl,_,rfl,_,_,rfl,rfl,_,rfl,o,_,rfl,SqT.of (s13 _ _ ho),λh=>absurd h.1 (by rw[show((m:Int)+1)=((m+1:Nat):Int)by omega,HT.dF,rl];omega),λt4 ht4=>?_⟩;rw[show((m:Int)+1)=((m+1:Nat):Int)by omega,tN (by rw[rl];omega)];have s4:=af (o:=.tup ((aq zo).drop (m+1))) ht4;have k4:upd H3 t4 (.tup ((aq zo).drop (m+1))) t4=some (.tup (aq (zo.drop (m+1)))):=by rw[ac,←aO,←aO,map_drop]
 generalize upd H3 t4 (.tup ((aq zo).drop (m+1)))=H4 at s4 k4⊢;refine eU (s4 _ _ ht3) k4 (by rw[length_append,length_take,length_drop];simp;omega) λt5 H5 s5 ht5=>?_;have s35:=s3.trans (s4.trans s5);rw[append_assoc]at ht5;refine cont t5 p j H5 ((s13.trans s4).trans s5) hj hjm ht5 λx hx=>?_;rcases mem_append.mp hx with hx|hx
 ·exact((s13.trans s4).trans s5) _ _ (hA x (mem_of_mem_take hx))
 ·rcases mem_cons.mp hx with e|hx
  ·rw[e];exact s35 _ _ kp
  ·exact((s13.trans s4).trans s5) _ _ (hA x (mem_of_mem_drop hx))
end
theorem vq{K:PySem.W.Frag}{H:Hp}{t p t2:Addr}{zs:ZN}{m:Nd}{vs:List V}(ev:vs=vals m)(ht:H t=some (.tup (aq zs)))(hA:At H zs)(hl:zs.length≤60)(hp:H p=none)(ht2:upd H p (.tup vs) t2=none){G:VK}(h:∀c H2,ak H H2→H2 c=some (.tup (aq (zs++[(p,m)])))→At H2 (zs++[(p,m)])→G (.ref c) H2):fg K (.ref t) (.ref t2) (upd (upd H p (.tup vs)) t2 (.tup [.ref p])) G:=by
 subst ev;have s1:=(af (o:=.tup (vals m)) hp).trans (af (o:=.tup [.ref p]) ht2);have kp:upd (upd H p (.tup (vals m))) t2 (.tup [.ref p]) p=some (.tup (vals m)):=aW ht2 ac;have k2:upd (upd H p (.tup (vals m))) t2 (.tup [.ref p]) t2=some (.tup (aq [(p,m)])):=ac;refine eU (s1 _ _ ht) k2 (by simp;omega) λc H2 s2 hc=>h c H2 (s1.trans s2) hc λx hx=>?_;rcases mem_append.mp hx with hx|hx
 ·exact(s1.trans s2) _ _ (hA x hx)
 ·rw[mem_singleton.mp hx];exact s2 _ _ kp
section
variable{P:Program}{w:World}{K:PySem.W.Frag}{mg:Str→Option Value}{base:Heap}{f:Addr}{cdv:Value}{A:Around}{outer:List Env}{s:Shared}{H0:Hp}{E:XK}
theorem zx(hr:Room 7 (A.deeper (PyProof.Rows.envOfC "law" (ai cO) s.heap.objs.size f cdv))):
  ∃rd,PS (LaX P w K mg base f cdv A outer s H0 E) (laS 15) rd∧∀(D:Ends)(H:Hp)(n:Nat)(nl o q t:Addr)(ns:List Str)(fr:Str)(zo rz:ZN)(x0 x2 x4 x8 x9 x10 x12:Option V),2≤n→n≤26→ns.length=n→H nl=some (.lst (ns.map V.str))→H o=some (.tup (aq zo))→At H zo→zo.length=n+2→H q=some (.tup (aq rz))→At H rz→rz.length=2 →
   (∀l t2 t3 t4 p2 p3 p4 H',ak H H'→H' l=some (.lst [.ref t,.ref t2,.ref t3,.ref t4])→H' t2=some (.tup (aq (zo.take n++[(p2,(⟨40,0,ns.getD 0 "",none⟩:Nd))])))→At H' (zo.take n++[(p2,(⟨40,0,ns.getD 0 "",none⟩:Nd))])→H' t3=some (.tup (aq (rz++[(p3,(⟨42,40,fr,some 6⟩:Nd))])))→At H' (rz++[(p3,(⟨42,40,fr,some 6⟩:Nd))])→H' t4=some (.tup (aq (rz++[(p4,(⟨42,40,fr,none⟩:Nd))])))→At H' (rz++[(p4,(⟨42,40,fr,none⟩:Nd))]) →
    D.nx [x0,some (.int ((n:Nat):Int)),x2,some (.ref nl),x4,some (.str fr),some (.ref q),some (.ref o),x8,x9,x10,some (.ref t),some (.ref l)] H')→rd D [x0,some (.int ((n:Nat):Int)),x2,some (.ref nl),x4,some (.str fr),some (.ref q),some (.ref o),x8,x9,x10,some (.ref t),x12] H:=by
 refine⟨_,au (i:=12) gh.nd rfl (Or.inl rfl) (cg (aa (pv 11) (aa (aK (r:=fg K) dP (cV (r:=ua K) fo (pv 7) gw (cJ (pv 1))) (aN (cb (aN (aa ah (aa ah (aa (ar (r:=nQ K) cK (pv 3) ah (λ_ _=>rfl)) (aa cp ae))))) ae))) (aa (aK (r:=fg K) dP (pv 6) (aN (cb (aN (aa ah (aa ah (aa (pv 5) (aa ah ae))))) ae))) (aa (aK (r:=fg K) dP (pv 6) (aN (cb (aN (aa ah (aa ah (aa (pv 5) (aa cp ae))))) ae))) ae))))),?_⟩;intro D H n nl o q t ns fr zo rz x0 x2 x4 x8 x9 x10 x12 n2 n26 hlen hn ho hA hzl hq hR hrl cont;have rl:(aq zo).length=n+2:=by rw[aE,hzl]
 have hat:atI (ns.map V.str) 0=some (.str (ns.getD 0 "")):=by
  refine bG (j:=0) ?_;rw[getElem?_map,getD_eq_getElem?_getD,getElem?_eq_getElem (show 0<ns.length by omega)];rfl
 refine⟨_,rfl,_,rfl,_,rfl,_,rfl,o,_,rfl,SqT.of ho,λh=>absurd h.2 (by rw[rl,HT.dF];omega),λt1 ht1=>?_⟩;rw[tM (by rw[rl];omega)];have s1:=af (o:=.tup ((aq zo).take n)) ht1;have k1:upd H t1 (.tup ((aq zo).take n)) t1=some (.tup (aq (zo.take n))):=by rw[ac,←aO,←aO,map_take]
 generalize upd H t1 (.tup ((aq zo).take n))=H1 at s1 k1⊢;refine⟨_,rfl,nl,_,_,_,rfl,rfl,SqL.of (s1 _ _ hn),hat,ao (show 4≤1000 by decide),λp2 hp2=>⟨ao (show 1≤1000 by decide),λw2 hw2=>?_⟩⟩;refine vq (m:=⟨40,0,ns.getD 0 "",none⟩) rfl k1 (λx hx=>s1 _ _ (hA x (mem_of_mem_take hx))) (by rw[length_take];omega) hp2 hw2 λt2 H2 s2 ht2 hA2=>?_;have s12:=s1.trans s2;refine⟨_,rfl,_,rfl,ao (show 4≤1000 by decide),λp3 hp3=>⟨ao (show 1≤1000 by decide),λw3 hw3=>?_⟩⟩;refine vq (m:=⟨42,40,fr,some 6⟩) rfl (s12 _ _ hq) (hR.same s12) (by omega) hp3 hw3 λt3 H3 s3 ht3 hA3=>?_;have s13:=s12.trans s3;refine⟨_,rfl,_,rfl,ao (show 4≤1000 by decide),λp4 hp4=>⟨ao (show 1≤1000 by decide),λw4 hw4=>?_⟩⟩;refine vq (m:=⟨42,40,fr,none⟩) rfl (s13 _ _ hq) (hR.same s13) (by omega) hp4 hw4 λt4 H4 s4 ht4 hA4=>?_;refine⟨ao (show 4≤1000 by decide),λl hl=>?_⟩;have s5:=af (o:=.lst [.ref t,.ref t2,.ref t3,.ref t4]) hl;have s35:=(s3.trans s4).trans s5;exact cont l t2 t3 t4 p2 p3 p4 _ ((s13.trans s4).trans s5) ac (s35 _ _ ht2) (hA2.same s35) ((s4.trans s5) _ _ ht3) (hA3.same (s4.trans s5)) (s5 _ _ ht4) (hA4.same s5)
theorem zy(hr:Room 7 (A.deeper (PyProof.Rows.envOfC "law" (ai cO) s.heap.objs.size f cdv)))(CT:Has P w K mg base 4 "is_tree" ["thing"] jt):
  ∃rd,PS (LaX P w K mg base f cdv A outer s H0 E) (laS 16) rd∧∀(D:Ends)(H:Hp)(l:Addr)(ts:List (Addr×ZN))(x0 x1 x2 x3 x4 x5 x6 x7 x8 x9 x10 x11:Option V),H l=some (.lst (ts.map λx=>.ref x.1))→ts.length=4→(∀x∈ts,TQ H x.1 x.2∧¬TW.Tree (nds x.2))→(∀H',ak H H'→D.nx [x0,x1,x2,x3,x4,x5,x6,x7,x8,x9,x10,x11,some (.ref l)] H')→rd D [x0,x1,x2,x3,x4,x5,x6,x7,x8,x9,x10,x11,some (.ref l)] H:=by
 obtain⟨fT,fdT,GT,mT,kT,bT⟩:=CT;have hr4:Room 4 _:=hr.mono (by decide);refine⟨_,bj (aw (qC hr.units0) (eD (N:=["_law_tree"]) (cl:=[]) (k:=1) (js:=[]) (g:=aY 0) rfl (cW rfl (by decide +kernel) (by decide +kernel) (by decide +kernel)) rfl (λi j x h=>by simp at h) (cI (pv 12)) (λs H fp=>aF (i:=0) (show(["_law_tree"]:List Str).Nodup by decide +kernel) rfl (Or.inl rfl) (Or.inr rfl)) (λs H fp=>am (X:=cz _ _ _ _ _ _ _) GT hr4 rfl mT kT bT .nil aP (aa (pv 0) ae))) (aK ro (cg (aa cF ae)) ah) (aC _)) (aj (av cF)) aJ,?_⟩;intro D H l ts x0 x1 x2 x3 x4 x5 x6 x7 x8 x9 x10 x11 hl h4 hts cont;refine⟨_,rfl,l,rfl,⟨_,SqL.of hl⟩,λp hp=>?_⟩;refine dL (fr:=[]) ts (λx=>V.ref x.1) (by omega) hp (kS (SqL.of hl)) rfl (λx y _=>y=.bl false) (λz y H H' h _=>h) (λx H' k mx s1 _ hk=>?_) (λys H1 s1 hp1 hys=>?_)
 ·obtain⟨h1,h2⟩:=hts x mx;refine⟨_,rfl,_,_,rfl,(h1.same s1).tr,λb H2 hb s2=>?_⟩;have eb:b=false:=by
   cases b with
   |false=>rfl
   |true=>exact absurd (hb.mp rfl) h2
  subst eb;exact hk _ H2 s2 rfl
 ·rw[cu hys (f:=λ_=>V.bl false) λz y _ h=>h]at hp1;have e4:(ts.map λ_=>V.bl false)=[false,false,false,false].map V.bl:=by
   match ts,h4 with
   |[_,_,_,_],_=>rfl
  rw[e4]at hp1;refine⟨ao (show 1≤1000 by decide),λg hg=>?_⟩;have s2:=af (o:=.lst [.bl false]) hg;have k2:upd H1 g (.lst [.bl false]) g=some (.lst [.bl false]):=ac;generalize upd H1 g (.lst [.bl false])=H2 at s2 k2⊢;refine⟨g,4,_,rfl,rfl,k2,by decide,by decide,ao (show 4≤1000 by decide),λr hr'=>?_⟩;have s3:=af (o:=.lst [.bl false,.bl false,.bl false,.bl false]) hr';exact⟨p,r,_,_,rfl,rfl,SqL.of ((s2.trans s3) _ _ hp1),SqL.of (xs:=[false,false,false,false].map V.bl) ac,rfl,_,rfl,aD (cont _ ((s1.trans s2).trans s3))⟩
theorem zA(hr:Room 7 (A.deeper (PyProof.Rows.envOfC "law" (ai cO) s.heap.objs.size f cdv)))(CT:Has P w K mg base 4 "is_tree" ["thing"] jt):
  ∃rd,PS (LaX P w K mg base f cdv A outer s H0 E) (laS 17) rd∧∀(D:Ends)(H:Hp)(o u q:Addr)(fr:Str)(zo zu rz:ZN)(x0 x1 x2 x3 x4 x9 x10 x11 x12:Option V),TQ H o zo→TQ H u zu→H q=some (.tup (aq rz))→At H rz→rz.length=2→TW.Tree (nds zo)→TW.Tree (nds zu)→TW.Tree (nds rz++[⟨42,0,fr,some 5⟩])→(∀m∈nds rz++[(⟨42,0,fr,some 5⟩:Nd)],il m)→(∀H',D.rt (.bl true) H')→rd D [x0,x1,x2,x3,x4,some (.str fr),some (.ref q),some (.ref o),some (.ref u),x9,x10,x11,x12] H:=by
 obtain⟨fT,fdT,GT,mT,kT,bT⟩:=CT;have hr4:Room 4 _:=hr.mono (by decide);refine⟨_,av (dg (wM (kX hr)) (eD (N:=["_law_tree"]) (cl:=[]) (k:=1) (js:=[]) (g:=aY 0) rfl (cW rfl (by decide +kernel) (by decide +kernel) (by decide +kernel)) rfl (λi j x h=>by simp at h) (cq (aN (aa (pv 7) (aa (pv 8) (aa (aK (r:=fg K) dP (pv 6) (aN (cb (aN (aa ah (aa ah (aa (pv 5) (aa ah ae))))) ae))) ae))))) (λs H fp=>aF (i:=0) (show(["_law_tree"]:List Str).Nodup by decide +kernel) rfl (Or.inl rfl) (Or.inr rfl)) (λs H fp=>am (X:=cz _ _ _ _ _ _ _) GT hr4 rfl mT kT bT .nil aP (aa (pv 0) ae))) (aK ro (cg (aa cF ae)) ah) (aC _)),?_⟩;intro D H o u q fr zo zu rz x0 x1 x2 x3 x4 x9 x10 x11 x12 Qo Qu hq hR hrl To Tu Tr gr cont;refine⟨_,rfl,_,rfl,_,rfl,_,rfl,ao (show 4≤1000 by decide),λp2 hp2=>⟨ao (show 1≤1000 by decide),λw2 hw2=>?_⟩⟩;refine vq (m:=⟨42,0,fr,some 5⟩) rfl hq hR (by omega) hp2 hw2 λt2 H2 s2 ht2 hA2=>?_;refine⟨ao (show 3≤1000 by decide),λg hg=>?_⟩;have s3:=af (o:=.tup [.ref o,.ref u,.ref t2]) hg;have k3:upd H2 g (.tup [.ref o,.ref u,.ref t2]) g=some (.tup [.ref o,.ref u,.ref t2]):=ac;generalize upd H2 g (.tup [.ref o,.ref u,.ref t2])=H3 at s3 k3⊢;have s13:=s2.trans s3;have Q2:TQ H3 t2 (rz++[(p2,(⟨42,0,fr,some 5⟩:Nd))]):=⟨s3 _ _ ht2,hA2.same s3,by rw[length_append];simp;omega,by rw[cx];exact gr⟩;have hts:∀x∈[(o,zo),(u,zu),(t2,rz++[(p2,(⟨42,0,fr,some 5⟩:Nd))])],TQ H3 x.1 x.2∧TW.Tree (nds x.2):=λx hx=>by
  rcases mem_cons.mp hx with e|hx
  ·rw[e];exact⟨Qo.same s13,To⟩
  rcases mem_cons.mp hx with e|hx
  ·rw[e];exact⟨Qu.same s13,Tu⟩
  ·rw[mem_singleton.mp hx];exact⟨Q2,by rw[cx];exact Tr⟩
 refine⟨g,rfl,⟨_,SqT.of k3⟩,λp hp=>?_⟩;refine dL (fr:=[]) [(o,zo),(u,zu),(t2,rz++[(p2,(⟨42,0,fr,some 5⟩:Nd))])] (λx=>V.ref x.1) (by simp) hp (gJ (SqT.of k3)) rfl (λx y _=>y=.bl true) (λz y H H' h _=>h) (λx H' k mx s1 _ hk=>?_) (λys H1 s1 hp1 hys=>?_)
 ·obtain⟨h1,h2⟩:=hts x mx;refine⟨_,rfl,_,_,rfl,(h1.same s1).tr,λb H2 hb s2=>?_⟩;have eb:=hb.mpr h2;subst eb;exact hk _ H2 s2 rfl
 ·rw[cu hys (f:=λ_=>V.bl true) λz y _ h=>h]at hp1;refine⟨ao (show 1≤1000 by decide),λg2 hg2=>?_⟩;have s4:=af (o:=.lst [.bl true]) hg2;have k4:upd H1 g2 (.lst [.bl true]) g2=some (.lst [.bl true]):=ac;generalize upd H1 g2 (.lst [.bl true])=H4 at s4 k4⊢;refine⟨g2,3,_,rfl,rfl,k4,by decide,by decide,ao (show 3≤1000 by decide),λr hr'=>?_⟩;have s5:=af (o:=.lst [.bl true,.bl true,.bl true]) hr';exact .inr ⟨p,r,[.bl true,.bl true,.bl true],[.bl true,.bl true,.bl true],rfl,rfl,oK rfl,.inl ⟨(s4.trans s5) _ _ hp1,ac⟩,cont _⟩
end
theorem qS{fr:Str}(fz:fr≠("zz":Str)):TW.Tree ([r1,r2 fr]++[(⟨42,0,fr,some 5⟩:Nd)]):=by
 have m1:r1∈([r1,r2 fr]++[(⟨42,0,fr,some 5⟩:Nd)]):=mem_cons_self;refine⟨?_,?_,λm hm=>?_⟩
 ·refine pairwise_cons.mpr ⟨λb hb=>?_,pairwise_cons.mpr ⟨λb hb=>?_,List.pairwise_singleton ..⟩⟩
  ·rcases mem_cons.mp hb with e|hb
   ·rw[e];show(40:Int)<41;decide
   ·rw[mem_singleton.mp hb];show(40:Int)<42;decide
  ·rw[mem_singleton.mp hb];show(41:Int)<42;decide
 ·show[((0:Int),("zz":Str)),((40:Int),fr),((0:Int),fr)].Nodup;refine nodup_cons.mpr ⟨λh=>?_,nodup_cons.mpr ⟨λh=>?_,nodup_cons.mpr ⟨not_mem_nil,nodup_nil⟩⟩⟩
  ·rcases mem_cons.mp h with e|h
   ·exact absurd (congrArg Prod.fst e) (show ¬((0:Int)=40)by decide)
   ·exact fz (congrArg Prod.snd (mem_singleton.mp h)).symm
  ·exact absurd (congrArg Prod.fst (mem_singleton.mp h)) (show ¬((40:Int)=0)by decide)
 ·rcases mem_cons.mp hm with e|hm'
  ·rw[e];exact .base m1 rfl
  rcases mem_cons.mp hm' with e|hm'
  ·rw[e];exact .step (.base m1 rfl) rfl (mem_cons_of_mem _ mem_cons_self) rfl
  ·rw[mem_singleton.mp hm'];exact .base (mem_cons_of_mem _ (mem_cons_of_mem _ mem_cons_self)) rfl
section
variable{P:Program}{w:World}{K:PySem.W.Frag}{mg:Str→Option Value}{base:Heap}
def pX(K:PySem.W.Frag):Sp:=λvs H Q _=>∃(a:Addr) (ns:List Int),vs=[.ref a]∧SqL K H a (ns.map V.int)∧ns.length≤63∧∀H',Q (.bl true) H'
theorem yF:bU cO=[laS 0,laS 1,laS 2,laS 3,laS 4,laS 5,laS 6,laS 7,laS 8,laS 9,laS 10,laS 11,laS 12,laS 13,laS 14,laS 15,laS 16,laS 17]:=rfl
theorem xM{f CN:Addr}{fd:FuncData}(F:Fun K "law" "law" cO f fd)(T:Txt mg)(CP:Has P w K mg base 2 "_law_pick" ["_law_script","_law_k","_law_many"] (gg K))(CI:da P w K mg base 7 "in_steps" ["old","new"] (pS CN))(CA:Has P w K mg base 5 "all_done" ["tree","deeds"] lw)(CT:Has P w K mg base 4 "is_tree" ["thing"] jt):FnOk P w K mg base CX0 8 f fd ["_law_script"] (pX K):=by
 refine F.ok gh (λvs H Q E h=>?_) (λcdv A outer s H vs Q E hr h=>?_)
 ·obtain⟨a,ns,rfl,_⟩:=h;rfl
 ·obtain⟨a,ns0,rfl,hS0,_,q⟩:=h;have hS:ff K H a:=⟨ns0,hS0⟩;obtain⟨t0,p0,h0⟩:=la0 (outer:=outer) (H0:=H) (E:=E) hr CP;obtain⟨t1,p1,h1⟩:=la1 (P:=P) (w:=w) (K:=K) (mg:=mg) (base:=base) (outer:=outer) (H0:=H) (E:=E) hr;obtain⟨t2,p2,h2⟩:=la2 (outer:=outer) (H0:=H) (E:=E) hr CP;obtain⟨t3,p3,h3⟩:=la3 (P:=P) (w:=w) (K:=K) (mg:=mg) (base:=base) (f:=f) (cdv:=cdv) (A:=A) (outer:=outer) (s:=s) (H0:=H) (E:=E);obtain⟨t4,p4,h4⟩:=la4 (outer:=outer) (H0:=H) (E:=E) T hr CP;obtain⟨t5,p5,h5⟩:=la5 (P:=P) (w:=w) (K:=K) (mg:=mg) (base:=base) (outer:=outer) (H0:=H) (E:=E) hr;obtain⟨t6,p6,h6⟩:=la6 (P:=P) (w:=w) (K:=K) (mg:=mg) (base:=base) (f:=f) (cdv:=cdv) (A:=A) (outer:=outer) (s:=s) (H0:=H) (E:=E);obtain⟨t7,p7,h7⟩:=la7 (P:=P) (w:=w) (K:=K) (base:=base) (outer:=outer) (H0:=H) (E:=E) T hr;obtain⟨t8,p8,h8⟩:=la8 (P:=P) (w:=w) (K:=K) (base:=base) (outer:=outer) (H0:=H) (E:=E) T hr;obtain⟨t9,p9,h9⟩:=la9 (P:=P) (w:=w) (K:=K) (mg:=mg) (base:=base) (f:=f) (cdv:=cdv) (A:=A) (outer:=outer) (s:=s) (H0:=H) (E:=E);obtain⟨t10,p10,h10⟩:=zm (P:=P) (w:=w) (K:=K) (base:=base) (outer:=outer) (H0:=H) (E:=E) T hr;obtain⟨t11,p11,h11⟩:=zp (P:=P) (w:=w) (K:=K) (mg:=mg) (base:=base) (outer:=outer) (H0:=H) (E:=E) hr;obtain⟨t12,p12,h12⟩:=zq (outer:=outer) (H0:=H) (E:=E) hr CI CA;obtain⟨t13,p13,h13⟩:=zt (outer:=outer) (H0:=H) (E:=E) hr CP;obtain⟨t14,p14,h14⟩:=zw (P:=P) (w:=w) (K:=K) (mg:=mg) (base:=base) (outer:=outer) (H0:=H) (E:=E) hr;obtain⟨t15,p15,h15⟩:=zx (P:=P) (w:=w) (K:=K) (mg:=mg) (base:=base) (outer:=outer) (H0:=H) (E:=E) hr;obtain⟨t16,p16,h16⟩:=zy (outer:=outer) (H0:=H) (E:=E) hr CT;obtain⟨t17,p17,h17⟩:=zA (outer:=outer) (H0:=H) (E:=E) hr CT;rw[yF];generalize laS=st at p0 p1 p2 p3 p4 p5 p6 p7 p8 p9 p10 p11 p12 p13 p14 p15 p16 p17⊢;refine⟨_,ag p0 (ag p1 (ag p2 (ag p3 (ag p4 (ag p5 (ag p6 (ag p7 (ag p8 (ag p9 (ag p10 (ag p11 (ag p12 (ag p13 (ag p14 (ag p15 (ag p16 (aj p17))))))))))))))))),?_⟩;refine h0 _ H a _ _ _ _ _ _ _ _ _ _ _ _ hS λn H1 s1 n2 n26=>?_;refine h1 _ H1 _ _ _ _ _ _ _ _ _ _ _ _ _ λll H2 s2 fll hll=>?_;have s12:=s1.trans s2;refine h2 _ H2 a n _ _ _ _ _ _ _ _ _ _ _ (hS.same s12) n2 n26 λn H3 s3 n2 n26=>?_;refine h3 _ H3 _ _ _ _ _ _ _ _ _ _ _ _ _ λnl H4 s4 fnl hnl=>?_;have s34:=s3.trans s4;have ne:ll≠nl:=λz=>by rw[←z,s3 _ _ hll]at fnl;cases fnl
  have fnl1:H1 nl=none:=s2.free (s3.free fnl);refine h4 _ H1 H4 a ll nl n _ _ _ _ _ _ _ _ _ (hS.same s1) n26 fll fnl1 ne (s2.trans s34) (s34 _ _ hll) hnl λns ls x4 H5 s5 N h5l h5n=>?_;obtain⟨c,Rr⟩:=vc N n2;have gf:=yE N;refine h5 _ H5 ll ls _ _ _ _ _ _ _ _ _ _ _ _ h5l λH6 s6=>?_;refine h6 _ H6 (cm ls) _ _ _ _ _ _ _ _ _ _ _ _ λqr rz H7 s7 hq hR er=>?_;have s57:=s6.trans s7;have n7:=s57 _ _ h5n;have hrl:rz.length=2:=by rw[←aR,er];rfl
  refine h7 _ H7 n nl qr ns rz _ _ _ _ _ _ _ _ _ _ n2 n26 N.len n7 hq hR (by omega) λo zo H8 s8 ho hAo eo=>?_;refine h8 _ H8 n nl qr ns rz _ _ _ _ _ _ _ _ _ _ n2 n26 N.len (s8 _ _ n7) (s8 _ _ hq) (hR.same s8) (by omega) λu zu H9 s9 hu hAu eu=>?_;have s79:=s8.trans s9;rw[er]at eo eu;have eo':nds zo=tr3 n (cm ls) (λi=>ns.getD i ""):=eo;have eu':nds zu=tr3 n (cm ls) (nw n (λi=>ns.getD i "")):=eu;refine h9 _ H9 (cm ls) _ _ _ _ _ _ _ _ _ _ _ _ λl cd Ha sa fl hl hD=>?_;have n9:=s79 _ _ n7;refine h10 _ H9 Ha n nl l ns _ (cm ls) _ _ _ _ _ _ _ _ _ _ n2 n26 N.len fl sa n9 hl hD rfl λds x4 Hb sb hlb hDb eb=>?_;refine h11 _ H9 Hb n nl l ns ds (cm ls) _ _ _ _ _ _ _ _ _ _ _ n2 n26 N.len fl sb (sb _ _ n9) hlb hDb eb λds Hc sc hlc hDc ec=>?_;have s9c:=s9.trans sc;have s7c:=s79.trans sc;refine h12 _ Hc n c (λi=>ns.getD i "") (cm ls) o u l zo zu ds _ _ _ _ _ _ _ _ _ _ Rr (s9c _ _ ho) (hAo.same s9c) eo' (sc _ _ hu) (hAu.same sc) eu' hlc hDc ec λHd sd=>?_;have s7d:=s7c.trans sd;have s8d:=s9c.trans sd;have s9d:=sc.trans sd;have sall:ak H Hd:=(((s1.trans s5).trans s57).trans s7d);have zl:zo.length=n+2:=by rw[←aR,eo',eW]
  have zul:zu.length=n+2:=by rw[←aR,eu',eW]
  refine h13 _ Hd a n _ _ _ _ _ _ _ _ _ _ _ (hS.same sall) n2 λm He se hm=>?_;have s7e:=s7d.trans se;have s8e:=s8d.trans se;have s9e:=s9d.trans se;refine h14 _ He n m nl o ns zo _ _ _ _ _ _ _ _ _ _ n2 n26 hm N.len (s7e _ _ n7) (s8e _ _ ho) (hAo.same s8e) zl λt pt j Hf sf hj hjm htf hAf=>?_;have s7f:=s7e.trans sf;have s8f:=s8e.trans sf;have s9f:=s9e.trans sf;refine h15 _ Hf n nl o qr t ns (cm ls) zo rz _ _ _ _ _ _ _ n2 n26 N.len (s7f _ _ n7) (s8f _ _ ho) (hAo.same s8f) zl (s7f _ _ hq) (hR.same s7f) hrl λlb b2 b3 b4 p2 p3 p4 Hg sg hlb' hb2 hA2 hb3 hA3 hb4 hA4=>?_;have ga:∀i,i<n→GN (ns.getD i ""):=λi hi=>yD (N.sub _ (mem_of_getElem? (i:=i) (by rw[getD_eq_getElem?_getD,getElem?_eq_getElem (by rw[N.len];exact hi)];rfl)));have go:∀x∈nds zo,il x:=by rw[eo'];exact nI ga gf
  have gu:∀x∈nds zu,il x:=by rw[eu'];exact nI (λi hi=>ga _ (dS Rr hi)) gf
  have gr:∀x∈nds rz,il x:=λx hx=>go x (by rw[eo];exact mem_append_right _ (by rw[er]at hx;exact hx));have hfz:=Rr.fz;have sub:∀{x:Nd}{k:Nat},x∈nds (zo.take k)→x∈nds zo:=λ{x k} hx=>by
   obtain⟨z,hz,rfl⟩:=cj hx;exact aH (mem_of_mem_take hz)
  have sub2:∀{x:Nd}{k:Nat},x∈nds (zo.drop k)→x∈nds zo:=λ{x k} hx=>by
   obtain⟨z,hz,rfl⟩:=cj hx;exact aH (mem_of_mem_drop hz)
  have nt:∀k,nds (zo.take k)=(tr3 n (cm ls) (λi=>ns.getD i "")).take k:=λk=>by rw[←eo'];unfold nds;rw[map_take]
  have ndp:∀k,nds (zo.drop k)=(tr3 n (cm ls) (λi=>ns.getD i "")).drop k:=λk=>by rw[←eo'];unfold nds;rw[map_drop]
  have at3:∀i,i<n→(tr3 n (cm ls) (λi=>ns.getD i ""))[i]?=some (rn i (ns.getD i "")):=λi hi=>by
   unfold tr3;rw[getElem?_append_left (by rw[length_map,length_range];exact hi),getElem?_map,getElem?_range hi];rfl
  refine h16 _ Hg lb [(t,zo.take m++(pt,(⟨(m:Int)+1,0,ns.getD j "",some 8⟩:Nd))::zo.drop (m+1)),(b2,zo.take n++[(p2,(⟨40,0,ns.getD 0 "",none⟩:Nd))]),(b3,rz++[(p3,(⟨42,40,cm ls,some 6⟩:Nd))]),(b4,rz++[(p4,(⟨42,40,cm ls,none⟩:Nd))])] _ _ _ _ _ _ _ _ _ _ _ _ hlb' rfl (λx hx=>?_) λHh sh=>?_
  ·rcases mem_cons.mp hx with e|hx
   ·rw[e];refine⟨⟨sg _ _ htf,hAf.same sg,by rw[length_append,length_cons,length_take,length_drop];omega,λy hy=>?_⟩,?_⟩
    ·rw[cx]at hy;rcases mem_append.mp hy with hy|hy
     ·exact go y (sub hy)
     ·rcases mem_cons.mp (show y∈_::nds (zo.drop (m+1))from hy)with e|hy
      ·rw[e];exact⟨show 1≤(m:Int)+1 by omega,ga j hj,.inr ⟨8,rfl,by decide,by decide⟩⟩
      ·exact go y (sub2 hy)
    ·show ¬TW.Tree (nds (zo.take m++(pt,(⟨(m:Int)+1,0,ns.getD j "",some 8⟩:Nd))::zo.drop (m+1)));rw[cx];refine gR (l1:=nds (zo.take m)) (l2:=nds (zo.drop (m+1))) (x:=⟨(m:Int)+1,0,ns.getD j "",some 8⟩) (y:=rn j (ns.getD j "")) ?_ rfl rfl
     by_cases z:j<m
     ·left
      rw[nt];exact mem_of_getElem? (i:=j) (by rw[List.getElem?_take_of_lt z];exact at3 j hj)
     ·right
      rw[ndp];refine mem_of_getElem? (i:=j-(m+1)) ?_;rw[getElem?_drop,show m+1+(j-(m+1))=j by omega];exact at3 j hj
   rcases mem_cons.mp hx with e|hx
   ·rw[e];refine⟨⟨hb2,hA2,by rw[length_append,length_take];simp;omega,λy hy=>?_⟩,?_⟩
    ·rw[cx]at hy;rcases mem_append.mp hy with hy|hy
     ·exact go y (sub hy)
     ·rw[mem_singleton.mp hy];exact⟨show 1≤(40:Int)by decide,ga 0 (by omega),.inl rfl⟩
    ·show ¬TW.Tree (nds (zo.take n++[(p2,(⟨40,0,ns.getD 0 "",none⟩:Nd))]));rw[cx];refine gR (l1:=nds (zo.take n)) (l2:=[]) (x:=⟨40,0,ns.getD 0 "",none⟩) (y:=rn 0 (ns.getD 0 "")) (.inl ?_) rfl rfl;rw[nt];exact mem_of_getElem? (i:=0) (by rw[List.getElem?_take_of_lt (by omega)];exact at3 0 (by omega))
   rcases mem_cons.mp hx with e|hx
   ·rw[e];refine⟨⟨hb3,hA3,by rw[length_append];simp;omega,λy hy=>?_⟩,?_⟩
    ·rw[cx]at hy;rcases mem_append.mp hy with hy|hy
     ·exact gr y hy
     ·rw[mem_singleton.mp hy];exact⟨show 1≤(42:Int)by decide,gf,.inr ⟨6,rfl,by decide,by decide⟩⟩
    ·show ¬TW.Tree (nds (rz++[(p3,(⟨42,40,cm ls,some 6⟩:Nd))]));rw[cx];exact gR (l1:=nds rz) (l2:=[]) (x:=⟨42,40,cm ls,some 6⟩) (y:=r2 (cm ls)) (.inl (by rw[er];exact mem_cons_of_mem _ mem_cons_self)) rfl rfl
   ·rw[mem_singleton.mp hx];refine⟨⟨hb4,hA4,by rw[length_append];simp;omega,λy hy=>?_⟩,?_⟩
    ·rw[cx]at hy;rcases mem_append.mp hy with hy|hy
     ·exact gr y hy
     ·rw[mem_singleton.mp hy];exact⟨show 1≤(42:Int)by decide,gf,.inl rfl⟩
    ·show ¬TW.Tree (nds (rz++[(p4,(⟨42,40,cm ls,none⟩:Nd))]));rw[cx];exact gR (l1:=nds rz) (l2:=[]) (x:=⟨42,40,cm ls,none⟩) (y:=r2 (cm ls)) (.inl (by rw[er];exact mem_cons_of_mem _ mem_cons_self)) rfl rfl
  ·have sgh:=sg.trans sh;have s8h:=s8f.trans sgh;have s9h:=s9f.trans sgh;have s7h:=s7f.trans sgh;refine h17 _ Hh o u qr (cm ls) zo zu rz _ _ _ _ _ _ _ _ _ ⟨s8h _ _ ho,hAo.same s8h,by omega,go⟩ ⟨s9h _ _ hu,hAu.same s9h,by omega,gu⟩ (s7h _ _ hq) (hR.same s7h) hrl (by rw[eo'];exact(Ta Rr).toTree) (by rw[eu'];exact(Tn Rr).toTree) (by rw[er];exact qS hfz) (λx hx=>?_) λHi=>q Hi;rcases mem_append.mp hx with hx|hx
   ·exact gr x hx
   ·rw[mem_singleton.mp hx];exact⟨show 1≤(42:Int)by decide,gf,.inr ⟨5,rfl,by decide,by decide⟩⟩
end
end TK
namespace TK
open PySem PySem.W PyProof.Rows L2
theorem gk{K:PySem.W.Frag}{h:Heap}{mg:Str→Option Value}{x:Str}{C:Addr}{bB:List Value}{nid:String}(X:K.In h)(hb:mg x=some (.ref C))(q:excIn K C bB nid=true):OwnCls x C bB nid mg h:=by
 have hobj:∃bm N nm q' bs hdct sn sub ab col dd k0 k1 k2 k3 k5 mN,h.get? C=some (excClassObj nm q' C N bs bm hdct sn sub ab col dd k0 k1 k2 k3 k5 nid)∧h.Ns N mN∧mN "__init__"=none∧OwnTail h bB bm:=by
  unfold excIn at q
  split at q
  case h_2=>exact absurd q (by simp)
  case h_1 d0 c0 s0 hK =>
   split at q
   case h_2=>exact absurd q (by simp)
   case h_1 C1 b1 u0 u1 u2 u3 u4 u5 e1 e2 =>
    rw[and_eq_true,and_eq_true,and_eq_true,and_eq_true,and_eq_true]at q;obtain⟨⟨⟨⟨⟨y1,y2⟩,y3⟩,g4⟩,g5⟩,y6⟩:=q;have g1:C1=C:=beq_iff_eq.mp y1;have g2:u4=nid:=beq_iff_eq.mp y2;have g3:c0.hasDel=false:=by simpa using y3
    have g6:nsIn K c0.ns "__init__"=some none:=beq_iff_eq.mp y6;clear y1 y2 y3 y6;cases c0;cases s0;dsimp only at e1 e2 g3 g5 g6;subst g1 g2 g3 e1 e2;exact⟨_,_,_,_,_,_,_,_,_,_,_,_,_,_,_,_,_,X _ _ hK,Heap.Ns.of_isNs (PySem.W.isNs_of_in X g5),PySem.W.nsMap_none_of_in X g5 g6,PySem.W.tail_of_in X g4⟩
 exact⟨hb,hobj⟩
theorem zB{α:Type}{P:List α→Prop}{us:List α}(hl:us.length=0)(h:P []):P us:=by cases us with|nil=>exact h|cons a r=>cases hl
theorem yG{α:Type}{P:List α→Prop}{us:List α}(hl:us.length=1)(h:∀a0,P [a0]):P us:=by cases us with|nil=>cases hl|cons a r=>exact zB (P:=λr=>P (a::r)) (Nat.succ.inj hl) (h a)
theorem yH{α:Type}{P:List α→Prop}{us:List α}(hl:us.length=2)(h:∀a0 a1,P [a0,a1]):P us:=by cases us with|nil=>cases hl|cons a r=>exact yG (P:=λr=>P (a::r)) (Nat.succ.inj hl) (h a)
theorem yI{α:Type}{P:List α→Prop}{us:List α}(hl:us.length=3)(h:∀a0 a1 a2,P [a0,a1,a2]):P us:=by cases us with|nil=>cases hl|cons a r=>exact yH (P:=λr=>P (a::r)) (Nat.succ.inj hl) (h a)
theorem yJ{α:Type}{P:List α→Prop}{us:List α}(hl:us.length=4)(h:∀a0 a1 a2 a3,P [a0,a1,a2,a3]):P us:=by cases us with|nil=>cases hl|cons a r=>exact yI (P:=λr=>P (a::r)) (Nat.succ.inj hl) (h a)
theorem zC{α:Type}{P:List α→Prop}{us:List α}(hl:us.length=5)(h:∀a0 a1 a2 a3 a4,P [a0,a1,a2,a3,a4]):P us:=by cases us with|nil=>cases hl|cons a r=>exact yJ (P:=λr=>P (a::r)) (Nat.succ.inj hl) (h a)
abbrev gA(K:PySem.W.Frag)(x:Str)(f:Addr):Prop:=nsIn K mainGlobals x=some (some (.ref f))
abbrev gN(K:PySem.W.Frag)(x:Str):Prop:=nsIn K mainGlobals x=some none
theorem fh{P:Program}{w:World}{K:PySem.W.Frag}{mg:Str→Option Value}{base h:Heap}{k:Nat}{x q:Str}{st:Stmt}{f:Addr}{fd:FuncData}{ps:List Str}{sp:Sp}(X:K.In h)(G:h.Ns mainGlobals mg)(F:Fun K x q st f fd)(a:gA K x f)(b:bY K fd ps [])(O:FnOk P w K mg base CX0 k f fd ps sp):Has P w K mg base k x ps sp:=⟨f,fd,O,mg_of X G a,F.kp,b⟩
theorem fhX{P:Program}{w:World}{K:PySem.W.Frag}{mg:Str→Option Value}{base h:Heap}{k:Nat}{x q:Str}{st:Stmt}{f:Addr}{fd:FuncData}{ps:List Str}{sp:Sp}(X:K.In h)(G:h.Ns mainGlobals mg)(F:Fun K x q st f fd)(a:gA K x f)(b:bY K fd ps [])(O:FnOk P w K mg base (CX1 P w) k f fd ps sp):da P w K mg base k x ps sp:=⟨f,fd,O,mg_of X G a,F.kp,b⟩
theorem fb1{K:PySem.W.Frag}{x q a0:Str}{st:Stmt}{f:Addr}{fd:FuncData}(F:Fun K x q st f fd)(h:∀(kV doc pm:Value) (an:Option Addr) (cdv ct v0:Value),bindArgs (fnOf x q (cL st) (bU st) (ai st) .none kV doc pm an cdv ct) ⟨[v0],[]⟩=pure (List.zip [a0] [v0]):=by intros;rfl):bY K fd [a0] []:=F.binds λkV doc pm an cdv ct us hl=>yG (P:=λus=>bindArgs _ ⟨us,[]⟩=pure (List.zip _ us)) hl (h kV doc pm an cdv ct)
theorem fb2{K:PySem.W.Frag}{x q a0 a1:Str}{st:Stmt}{f:Addr}{fd:FuncData}(F:Fun K x q st f fd)(h:∀(kV doc pm:Value) (an:Option Addr) (cdv ct v0 v1:Value),bindArgs (fnOf x q (cL st) (bU st) (ai st) .none kV doc pm an cdv ct) ⟨[v0,v1],[]⟩=pure (List.zip [a0,a1] [v0,v1]):=by intros;rfl):bY K fd [a0,a1] []:=F.binds λkV doc pm an cdv ct us hl=>yH (P:=λus=>bindArgs _ ⟨us,[]⟩=pure (List.zip _ us)) hl (h kV doc pm an cdv ct)
theorem fb3{K:PySem.W.Frag}{x q a0 a1 a2:Str}{st:Stmt}{f:Addr}{fd:FuncData}(F:Fun K x q st f fd)(h:∀(kV doc pm:Value) (an:Option Addr) (cdv ct v0 v1 v2:Value),bindArgs (fnOf x q (cL st) (bU st) (ai st) .none kV doc pm an cdv ct) ⟨[v0,v1,v2],[]⟩=pure (List.zip [a0,a1,a2] [v0,v1,v2]):=by intros;rfl):bY K fd [a0,a1,a2] []:=F.binds λkV doc pm an cdv ct us hl=>yI (P:=λus=>bindArgs _ ⟨us,[]⟩=pure (List.zip _ us)) hl (h kV doc pm an cdv ct)
theorem fb4{K:PySem.W.Frag}{x q a0 a1 a2 a3:Str}{st:Stmt}{f:Addr}{fd:FuncData}(F:Fun K x q st f fd)(h:∀(kV doc pm:Value) (an:Option Addr) (cdv ct v0 v1 v2 v3:Value),bindArgs (fnOf x q (cL st) (bU st) (ai st) .none kV doc pm an cdv ct) ⟨[v0,v1,v2,v3],[]⟩=pure (List.zip [a0,a1,a2,a3] [v0,v1,v2,v3]):=by intros;rfl):bY K fd [a0,a1,a2,a3] []:=F.binds λkV doc pm an cdv ct us hl=>yJ (P:=λus=>bindArgs _ ⟨us,[]⟩=pure (List.zip _ us)) hl (h kV doc pm an cdv ct)
theorem fb5{K:PySem.W.Frag}{x q a0 a1 a2 a3 a4:Str}{st:Stmt}{f:Addr}{fd:FuncData}(F:Fun K x q st f fd)(h:∀(kV doc pm:Value) (an:Option Addr) (cdv ct v0 v1 v2 v3 v4:Value),bindArgs (fnOf x q (cL st) (bU st) (ai st) .none kV doc pm an cdv ct) ⟨[v0,v1,v2,v3,v4],[]⟩=pure (List.zip [a0,a1,a2,a3,a4] [v0,v1,v2,v3,v4]):=by intros;rfl):bY K fd [a0,a1,a2,a3,a4] []:=F.binds λkV doc pm an cdv ct us hl=>zC (P:=λus=>bindArgs _ ⟨us,[]⟩=pure (List.zip _ us)) hl (h kV doc pm an cdv ct)
theorem xO{l:PySem.W.OpenLaw}{w:World}{K:PySem.W.Frag}{h:Heap}{mg:Str→Option Value}{fa f1 f2 f3 f4 f5 f6 f7 f8 f9 f10 f11 f12 f13 f14 f15 f16 f17 f18 f19 f20 f21 f22 f23 f24 f25 f26 f27 f28 f29 f30 f31 f32 f33:Addr}(X:K.In h)(G:h.Ns mainGlobals mg)(hfa:mg "law"=some (.ref fa)){d1 d2 d3 d4 d5 d6 d7 d8 d9 d10 d11 d12 d13 d14 d15 d16 d17 d18 d19 d20 d21 d22 d23 d24 d25 d26 d27 d28 d29 d30 d31 d32 d33:FuncData}{t1:Tok}(a1:gA K "is_whole" f1)(F1:Fun K "is_whole" "is_whole" jb f1 d1)(a2:gA K "is_name" f2)(F2:Fun K "is_name" "is_name" pJ f2 d2)(a3:gA K "is_stamp" f3)(F3:Fun K "is_stamp" "is_stamp" kZ f3 d3)(a4:gA K "is_node" f4)(F4:Fun K "is_node" "is_node" sD f4 d4)(a5:gA K "are_rising" f5)(F5:Fun K "are_rising" "are_rising" sE f5 d5)(a6:gA K "have_own_places" f6)(F6:Fun K "have_own_places" "have_own_places" wP f6 d6)(a7:gA K "numbers_inside" f7)(F7:Fun K "numbers_inside" "numbers_inside" wQ f7 d7)(a8:gA K "is_tree" f8)(F8:Fun K "is_tree" "is_tree" sF f8 d8)(a9:gA K "by_number" f9)(F9:Fun K "by_number" "by_number" wR f9 d9)(a10:gA K "node_of" f10)(F10:Fun K "node_of" "node_of" wS f10 d10)(a11:gA K "check_folder" f11)(F11:Fun K "check_folder" "check_folder" wT f11 d11)(a12:gA K "below" f12)(F12:Fun K "below" "below" wU f12 d12)(a13:gA K "check_place" f13)(F13:Fun K "check_place" "check_place" wV f13 d13)(a14:gA K "with_node" f14)(F14:Fun K "with_node" "with_node" pK f14 d14)(a15:gA K "make" f15)(F15:Fun K "make" "make" sG f15 d15)(a16:gA K "write" f16)(F16:Fun K "write" "write" om f16 d16)(a17:gA K "move" f17)(F17:Fun K "move" "move" sI f17 d17)(a18:gA K "drop" f18)(F18:Fun K "drop" "drop" pL f18 d18)(a19:gA K "done" f19)(F19:Fun K "done" "done" sJ f19 d19)(a20:gA K "all_done" f20)(F20:Fun K "all_done" "all_done" wW f20 d20)(a21:gA K "nodes_needed" f21)(F21:Fun K "nodes_needed" "nodes_needed" ck f21 d21)(a22:gA K "check_kinds" f22)(F22:Fun K "check_kinds" "check_kinds" dm f22 d22)(a23:gA K "next_drop" f23)(F23:Fun K "next_drop" "next_drop" eM f23 d23)(a24:gA K "is_refused" f24)(F24:Fun K "is_refused" "is_refused" dN f24 d24)(a25:gA K "placings" f25)(F25:Fun K "placings" "placings" fX f25 d25)(a26:gA K "name_at" f26)(F26:Fun K "name_at" "name_at" hU f26 d26)(a27:gA K "writes" f27)(F27:Fun K "writes" "writes" gM f27 d27)(a28:gA K "free_name" f28)(F28:Fun K "free_name" "free_name" eN f28 d28)(a29:gA K "next_deed" f29)(F29:Fun K "next_deed" "next_deed" eO f29 d29)(a30:gA K "in_steps" f30)(F30:Fun K "in_steps" "in_steps" fY f30 d30)(a31:gA K "_law_cell" f31)(F31:Fun K "_law_cell" "_law_cell" sK f31 d31)(a32:gA K "_law_pick" f32)(F32:Fun K "_law_pick" "_law_pick" sL f32 d32)(a33:gA K "law" f33)(F33:Fun K "law" "law" cO f33 d33)(z1:gN K "isinstance")(z2:gN K "dict")(z3:gN K "len")(z4:gN K "tuple")(z5:gN K "list")(z6:gN K "range")(z7:gN K "sorted")(z8:gN K "reversed")(z9:gN K "ValueError")(z10:gN K "str")(z11:gN K "set")(z12:gN K "max")(z13:gN K "min")(z14:gN K "sum")(z15:gN K "zip")(z16:gN K "enumerate")(z17:gN K "all")(z18:gN K "int")(z19:gN K "bool")(v1t:nsIn K mainGlobals "TOP"=some (some (.int 0 t1))){t2:Tok}(v2t:nsIn K mainGlobals "LETTERS"=some (some (.str "abcdefghijklmnopqrstuvwxyz" t2))){t3:Tok}(v3t:nsIn K mainGlobals "LONGEST_NAME"=some (some (.int 5 t3))){t4:Tok}(v4t:nsIn K mainGlobals "GREATEST_STAMP"=some (some (.int 999 t4))){DT CN B0 B1 B2 B3 B4 B5:Addr}(xD:nsIn K mainGlobals "TreeError"=some (some (.ref DT)))(gD:ktsIn K DT "BaseException"=true)(x0:nsIn K mainGlobals "Inside"=some (some (.ref B0)))(q0:excIn K B0 bmV "ValueError.__new__"=true)(s0:subIn K (.ref B0) (.ref DT)=some true)(x1:nsIn K mainGlobals "Known"=some (some (.ref B1)))(q1:excIn K B1 bmV "ValueError.__new__"=true)(s1:subIn K (.ref B1) (.ref DT)=some true)(x2:nsIn K mainGlobals "NoNode"=some (some (.ref B2)))(q2:excIn K B2 bmV "ValueError.__new__"=true)(s2:subIn K (.ref B2) (.ref DT)=some true)(x3:nsIn K mainGlobals "NotFile"=some (some (.ref B3)))(q3:excIn K B3 bmV "ValueError.__new__"=true)(s3:subIn K (.ref B3) (.ref DT)=some true)(x4:nsIn K mainGlobals "NotFolder"=some (some (.ref B4)))(q4:excIn K B4 bmV "ValueError.__new__"=true)(s4:subIn K (.ref B4) (.ref DT)=some true)(x5:nsIn K mainGlobals "Taken"=some (some (.ref B5)))(q5:excIn K B5 bmV "ValueError.__new__"=true)(s5:subIn K (.ref B5) (.ref DT)=some true)(xN:nsIn K mainGlobals "NoMatch"=some (some (.ref CN)))(qN:excIn K CN bmV "ValueError.__new__"=true):
  ∃fd:FuncData,(∀(s:Shared)(v:Value),BindsTo s fd ⟨[v],[]⟩ [("_law_script",v)])∧∀base:Heap,K.In base→base.Ns mainGlobals mg→FnOk l.prog w K mg base CX0 8 fa fd ["_law_script"] (pX K):=by
 have e:=hfa.symm.trans (mg_of X G a33);cases e;have T:Txt mg:=⟨mg_none_of X G z1,mg_none_of X G z2,mg_none_of X G z3,mg_none_of X G z4,mg_none_of X G z5,mg_none_of X G z6,mg_none_of X G z7,mg_none_of X G z8,mg_none_of X G z9,mg_none_of X G z10,mg_none_of X G z11,mg_none_of X G z12,mg_none_of X G z13,mg_none_of X G z14,mg_none_of X G z15,mg_none_of X G z16,mg_none_of X G z17,mg_none_of X G z18,mg_none_of X G z19,⟨_,mg_of X G v1t⟩,⟨_,mg_of X G v2t⟩,⟨_,mg_of X G v3t⟩,⟨_,mg_of X G v4t⟩⟩
 let cls:TW.Wd→Addr:=λwd=>match wd with | .inside=>B0 | .known=>B1 | .noNode=>B2 | .notFile=>B3 | .notFolder=>B4 | .taken=>B5
 have LT:TreR mg K cls DT:=⟨mg_of X G xD,gD,λwd=>match wd with | .inside=>s0 | .known=>s1 | .noNode=>s2 | .notFile=>s3 | .notFolder=>s4 | .taken=>s5⟩
 have hb:∀(s:Shared)(v:Value),BindsTo s d33 ⟨[v],[]⟩ [("_law_script",v)]:=by
  obtain⟨_,_,_,_,_,_,_,_,_,e,_,_⟩:=F33.ex;subst e;exact λs v=>.of_eq rfl
 refine⟨d33,hb,λbase KB _=>?_⟩
 let H:=Has l.prog w K mg base
 let HX:=da l.prog w K mg base
 have W6:uJ mg base cls:=λwd=>match wd with | .inside=>gk KB (mg_of X G x0) q0 | .known=>gk KB (mg_of X G x1) q1 | .noNode=>gk KB (mg_of X G x2) q2 | .notFile=>gk KB (mg_of X G x3) q3 | .notFolder=>gk KB (mg_of X G x4) q4 | .taken=>gk KB (mg_of X G x5) q5
 have OW:mZ "NoMatch" mg base CN:=gk KB (mg_of X G xN) qN;have C_is_whole:H 1 "is_whole" ["thing"] iB:=fh X G F1 a1 (fb1 F1) (jr F1 T);have C_is_name:H 1 "is_name" ["thing"] oN:=fh X G F2 a2 (fb1 F2) (pW F2 T);have C_is_stamp:H 2 "is_stamp" ["thing"] lx:=fh X G F3 a3 (fb1 F3) (nH F3 T F1 (fb1 F1) (mg_of X G a1));have C_is_node:H 3 "is_node" ["thing"] ly:=fh X G F4 a4 (fb1 F4) (vk F4 T F1 (fb1 F1) (mg_of X G a1) F2 (fb1 F2) (mg_of X G a2) F3 (fb1 F3) (mg_of X G a3));have C_are_rising:H 1 "are_rising" ["nodes"] oO:=fh X G F5 a5 (fb1 F5) (vm F5 T);have C_have_own_places:H 1 "have_own_places" ["nodes"] tQ:=fh X G F6 a6 (fb1 F6) (xJ F6 T);have C_numbers_inside:H 1 "numbers_inside" ["nodes","folder"] ng:=fh X G F7 a7 (fb2 F7) (wX F7 T);have C_is_tree:H 4 "is_tree" ["thing"] jt:=fh X G F8 a8 (fb1 F8) (vn F8 T ⟨C_is_node,C_are_rising,C_have_own_places,C_numbers_inside⟩);have C_by_number:H 1 "by_number" ["tree"] dU:=fh X G F9 a9 (fb1 F9) (wY F9 T);have C_node_of:HX 1 "node_of" ["nodes","number"] (jd (cls .noNode)):=fhX X G F10 a10 (fb2 F10) (wZ F10 (W6 .noNode));have C_check_folder:HX 2 "check_folder" ["nodes","number"] (pN (cls .noNode) (cls .notFolder)):=fhX X G F11 a11 (fb2 F11) (xb F11 T (W6 .notFolder) C_node_of);have C_below:HX 2 "below" ["tree","number"] (pM (cls .noNode)):=fhX X G F12 a12 (fb2 F12) (xa F12 T C_by_number C_node_of C_numbers_inside);have C_check_place:HX 1 "check_place" ["tree","number","parent","name"] (nh (cls .taken)):=fhX X G F13 a13 (fb4 F13) (xc F13 (W6 .taken));have C_with_node:H 1 "with_node" ["tree","changed"] je:=fh X G F14 a14 (fb2 F14) (uL F14 T);have C_make:HX 3 "make" ["tree","number","parent","name","stamp"] (oo cls):=fhX X G F15 a15 (fb5 F15) (uM F15 T W6 C_by_number C_check_folder C_check_place);have C_write:HX 2 "write" ["tree","number","stamp"] (lc cls):=fhX X G F16 a16 (fb3 F16) (sO F16 W6 C_by_number C_node_of C_with_node);have C_move:HX 3 "move" ["tree","number","parent","name"] (oq cls):=fhX X G F17 a17 (fb4 F17) (uN F17 W6 C_by_number C_node_of C_check_folder C_below C_check_place C_with_node);have C_drop:HX 3 "drop" ["tree","number"] (ow cls):=fhX X G F18 a18 (fb2 F18) (uO F18 T C_by_number C_node_of C_below);have C_done:HX 4 "done" ["tree","deed"] (jf cls):=fhX X G F19 a19 (fb2 F19) (uP F19 C_make C_write C_move C_drop);have C_all_done:H 5 "all_done" ["tree","deeds"] lw:=fh X G F20 a20 (fb2 F20) (vg F20 C_done);have C_nodes_needed:H 2 "nodes_needed" ["now","goal"] sU:=fh X G F21 a21 (fb2 F21) (xk F21 T C_by_number);have C_check_kinds:HX 2 "check_kinds" ["old","new"] (sW CN):=fhX X G F22 a22 (fb2 F22) (xm F22 OW C_by_number);have C_next_drop:H 3 "next_drop" ["now","goal"] sX:=fh X G F23 a23 (fb2 F23) (xn F23 T C_nodes_needed);have C_is_refused:H 5 "is_refused" ["tree","deed"] sZ:=fh X G F24 a24 (fb2 F24) (xo F24 LT C_done);have C_placings:H 2 "placings" ["now","new"] tf:=fh X G F25 a25 (fb2 F25) (xp F25 C_by_number);have C_name_at:H 1 "name_at" ["count"] tm:=fh X G F26 a26 (fb1 F26) (xq F26 T);have C_writes:H 2 "writes" ["now","new"] tq:=fh X G F27 a27 (fb2 F27) (xt F27 C_by_number);have C_free_name:H 2 "free_name" ["now","new"] tu:=fh X G F28 a28 (fb2 F28) (xu F28 T C_name_at);have C_next_deed:H 6 "next_deed" ["now","new","deeds"] tD:=fh X G F29 a29 (fb3 F29) ((xv F29 T C_by_number C_next_drop C_placings C_is_refused C_free_name).imp uX);have C_in_steps:HX 7 "in_steps" ["old","new"] (pS CN):=fhX X G F30 a30 (fb2 F30) (uY F30 C_check_kinds C_next_deed C_done C_writes);have C__law_cell:H 1 "_law_cell" ["_law_script","_law_k"] (oJ K):=fh X G F31 a31 (fb2 F31) (vd F31 T);have C__law_pick:H 2 "_law_pick" ["_law_script","_law_k","_law_many"] (gg K):=fh X G F32 a32 (fb3 F32) (ve F32 T C__law_cell);exact xM F33 T C__law_pick C_in_steps C_all_done C_is_tree
theorem walk{l:PySem.W.OpenLaw}{q:Program}{loose:List Str}{XP:(Str→Option Value)→Heap→Prop}{YP:World→Heap→Prop}{d:DefRec}{K:Params→PySem.W.Frag}(hn:l.most=some 63)(hdf:d.params.defaults=[])(hY:∀(w:World) (h:Heap),YP w h→(K w.params).In h)(F:∀(w:World) (mg:Str→Option Value) (fa:Addr) (h:Heap),(K w.params).In h→h.Ns mainGlobals mg→mg d.name=some (.ref fa) →
   ∃fd:FuncData,(∀(s:Shared) (u:Value),BindsTo s fd ⟨[u],[]⟩ [("_law_script",u)])∧∀base:Heap,(K w.params).In base→base.Ns mainGlobals mg→FnOk l.prog w (K w.params) mg base CX0 8 fa fd ["_law_script"] (pX (K w.params))):
  PySem.W.WalkO q loose XP YP l.row.toRowW d [] (λf vs=>PySem.call f vs) :=
 L2.ui (n:=63) (k:=8) (x:="_law_script") (CX:=λ_=>CX0) (sp:=λw=>pX (K w.params)) hn (by decide) hdf ⟨rfl,by decide,by decide,rfl⟩ hY F (λ_ _ a ns hl _ hS=>⟨a,ns,rfl,hS,hl,λ_=>rfl⟩) λ_ _ _ _ _ z=>z
end TK
end
open PySem PySem.W PyProof.Rows
def PySem.W.Fast.tw7691416076888668077:Unit:=()
def PySem.W.Fast.tw12526073565301994927:Unit:=()
def PySem.W.Fast.tw2185724805040287267:Unit:=()
def PySem.W.Fast.tw17469422773552989986:Unit:=()
def PySem.W.Fast.tw13117990689027465170:Unit:=()
def PySem.W.Fast.tw5559863015271438387:Unit:=()
def PySem.W.Fast.tw4617925340108036917:Unit:=()
def PySem.W.Fast.tw11041043560350560481:Unit:=()
def PySem.W.Fast.tw897837994273576020:Unit:=()
def PySem.W.Fast.tw10990437373279813239:Unit:=()
def PySem.W.Fast.tw14685232349908081210:Unit:=()
def PySem.W.Fast.tw2314947135899926581:Unit:=()
def PySem.W.Fast.tw5646028477000203152:Unit:=()
def PySem.W.Fast.tw10731737430734960261:Unit:=()
def PySem.W.Fast.tw11697997917029355338:Unit:=()
def PySem.W.Fast.tw16068829189501619216:Unit:=()
def PySem.W.Fast.tw13046856587466185239:Unit:=()
def PySem.W.Fast.tw16975025860022852684:Unit:=()
def PySem.W.Fast.tw3893879335787053259:Unit:=()
def PySem.W.Fast.tw5062719556475790351:Unit:=()
def PySem.W.Fast.tw4370126388186082705:Unit:=()
def PySem.W.Fast.tw8140051525221799518:Unit:=()
def PySem.W.Fast.tw14329540213074458311:Unit:=()
def PySem.W.Fast.tw10590568373908169033:Unit:=()
def PySem.W.Fast.tw11662751702878475742:Unit:=()
def PySem.W.Fast.tw9814248659144270574:Unit:=()
def PySem.W.Fast.tw13412868642876950960:Unit:=()
def PySem.W.Fast.tw8740161322754836898:Unit:=()
def PySem.W.Fast.tw8481795911001798314:Unit:=()
def PySem.W.Fast.tw906645634336956009:Unit:=()
def PySem.W.Fast.tw11845665484343427774:Unit:=()
def PySem.W.Fast.tw3310621029359735772:Unit:=()
def PySem.W.Fast.tw2204944533158870579:Unit:=()
def PySem.W.Fast.tw17530600736374520359:Unit:=()
def PySem.W.Fast.tw6989719861459370256:Unit:=()
def PySem.W.Fast.tw276418058384534607:Unit:=()
def PySem.W.Fast.tw7450770177232853798:Unit:=()
def PySem.W.Fast.tw2930548076254085363:Unit:=()
def PySem.W.Fast.tw10292294391622938399:Unit:=()
def PySem.W.Fast.tw17564452342683991141:Unit:=()
def PySem.W.Fast.tw9525545427512215525:Unit:=()
def PySem.W.Fast.tw14192303383408007504:Unit:=()
def PySem.W.Fast.tw11678338937107025886:Unit:=()
def PySem.W.Fast.tw13215410428798494465:Unit:=()
def PySem.W.Fast.tw6486962446001418489:Unit:=()
def PySem.W.Fast.tw15343188788829971223:Unit:=()
def PySem.W.Fast.tw10597219006733071658:Unit:=()
def PySem.W.Fast.tw2043441572810996631:Unit:=()
def PySem.W.Fast.tw12953445390282821937:Unit:=()
def PySem.W.Fast.tw14612980225132707827:Unit:=()
def PySem.W.Fast.tw10461006743455862198:Unit:=()
def PySem.W.Fast.tw11550017106431974404:Unit:=()
def PySem.W.Fast.tw8431041345869835352:Unit:=()
def PySem.W.Fast.tw18428888353123211353:Unit:=()
def PySem.W.Fast.tw7327371641449230227:Unit:=()
def PySem.W.Fast.tw7330273056845089363:Unit:=()
def PySem.W.Fast.tw8181282986662153134:Unit:=()
def PySem.W.Fast.tw2818660849385081639:Unit:=()
set_option maxRecDepth 100000 in
set_option maxHeartbeats 0 in
theorem PySem.Challenge.cw_treewatch_k33_whole_rounds_holds : PySem.Challenge.rw_treewatch_k33_whole_rounds.Holds := by
 w_on; o_law; k_head; (case hw=>w_witness2)
 k_fill
 refine TK.walk (l:=PySem.Challenge.rw_treewatch_k33_whole_rounds) rfl rfl (λw h Y=>PySem.W.kIn_of Y) ?F
 case F =>
  intro w mg fa h KX G hmg
  refine' TK.xO KX G hmg ?a1 ?F1 ?a2 ?F2 ?a3 ?F3 ?a4 ?F4 ?a5 ?F5 ?a6 ?F6 ?a7 ?F7 ?a8 ?F8 ?a9 ?F9 ?a10 ?F10 ?a11 ?F11 ?a12 ?F12 ?a13 ?F13 ?a14 ?F14 ?a15 ?F15 ?a16 ?F16 ?a17 ?F17 ?a18 ?F18 ?a19 ?F19 ?a20 ?F20 ?a21 ?F21 ?a22 ?F22 ?a23 ?F23 ?a24 ?F24 ?a25 ?F25 ?a26 ?F26 ?a27 ?F27 ?a28 ?F28 ?a29 ?F29 ?a30 ?F30 ?a31 ?F31 ?a32 ?F32 ?a33 ?F33 ?z1 ?z2 ?z3 ?z4 ?z5 ?z6 ?z7 ?z8 ?z9 ?z10 ?z11 ?z12 ?z13 ?z14 ?z15 ?z16 ?z17 ?z18 ?z19 ?v1t ?v2t ?v3t ?v4t ?xD ?gD ?x0 ?q0 ?s0 ?x1 ?q1 ?s1 ?x2 ?q2 ?s2 ?x3 ?q3 ?s3 ?x4 ?q4 ?s4 ?x5 ?q5 ?s5 ?xN ?qN
  (case a1|a2|a3|a4|a5|a6|a7|a8|a9|a10|a11|a12|a13|a14|a15|a16|a17|a18|a19|a20|a21|a22|a23|a24|a25|a26|a27|a28|a29|a30|a31|a32|a33=>unfold TK.gA; k_is)
  (case F1|F2|F3|F4|F5|F6|F7|F8|F9|F10|F11|F12|F13|F14|F15|F16|F17|F18|F19|F20|F21|F22|F23|F24|F25|F26|F27|F28|F29|F30|F31|F32|F33=>apply L2.wx <;> k_is)
  (case z1|z2|z3|z4|z5|z6|z7|z8|z9|z10|z11|z12|z13|z14|z15|z16|z17|z18|z19=>unfold TK.gN; k_is)
  (case v1t|v2t|v3t|v4t|xD=>k_is)
  (case gD=>kts_isx)
  (case x0=>k_is)
  (case q0=>k_exc)
  (case s0|x1=>k_is)
  (case q1=>k_exc)
  (case s1|x2=>k_is)
  (case q2=>k_exc)
  (case s2|x3=>k_is)
  (case q3=>k_exc)
  (case s3|x4=>k_is)
  (case q4=>k_exc)
  (case s4|x5=>k_is)
  (case q5=>k_exc)
  (case s5|xN=>k_is)
  (case qN=>k_exc)
