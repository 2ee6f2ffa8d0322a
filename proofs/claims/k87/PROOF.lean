import PyProof.Rows.All
import Wide.All
import OpenK.AllK
import Wide.FinOn
import Lean
import PyProof.EqAt
import PyProof.EqKinds
import PyProof.TupleCall
import PyProof.CompFree
import PySem.SetTable
import PyProof.SetScanFacts
import PyProof.TupleKey
import PyProof.SetKind
import PyProof.IsRules
import PyProof.SetRoads
import PyProof.InstSpecial
import PyProof.Rows.SetFrom
import KE.KSortTup
import PyProof.StrWalks
import PyProof.EnumMake
import PyProof.ConsumeWalk
import PyProof.ListRange
import PyProof.NeKinds
import PyProof.ZipIter
import KE.KTryDeep
import OpenK.KOwn
import PyProof.RulesAs
import PyProof.NsDelKeeps
import PyProof.ExcArgsOwn
import PyProof.ExcAttrAll.ValueError
import KE.KIsAll
import OpenK.KNot
import PyProof.IsiH_list
import PyProof.Rows.FStr
import KE.KDictOf
import PyProof.AttrMissHeap
import PyProof.DictIter
import PyProof.DictWalks
import PyProof.Rows.DictUnroll
import KE.KRevIter
import KE.KDictList
import PyProof.CollectIter
import PyProof.TupleOfGen
import KE.KSortKey
import PyProof.FactsAll.NoneType_1
import PyProof.CompUse
import PyProof.Rows.FStrParts
import KE.KLam
import KE.KNestM
import PyProof.ReprStr
import PyProof.ReprHeadsTuple
import PyProof.FString4
import PySem.Challenge.RW_treewatch_k87_ledgers_refused
set_option Elab.async false
set_option linter.all false
set_option maxRecDepth 100000
set_option maxHeartbeats 8000000
open PySem.W (instObj methodObj hideAll hideAll_size hideAll_get of_hideAll hideAll_none lookIn plainGet hasDictIn handedIn plainGet_of isFn plainOver takerIn makesIn emptyDict keepIn mroIn kitOne kia_one kitx_list kitx_dict callWith_K methodCall_KW cellsFrom_some fnOf codeIn codeRec_of kat_cons KatTups kat_lt_int KdlSrc subIn envX CodeHd kla_obj tabObj codeHdIn codeHd_of_K excIn nsIn mg_of mg_none_of)
open PyProof.Rows (boot_isinstance boot_dict boot_sorted boot_str boot_all)
open PySem.F (slot_tuple_add entry_tuple_add args_tuple_add_2 slot_dict_pop slot_dict_get plainAttrs_dict plainAttrs_list slot_list_pop type_list_pop)
open List (mem_filter mem_range filterMap_cons mem_cons_self mem_cons_of_mem mem_cons mem_append mem_append_left getElem_inj getElem?_set_self mem_filterMap mem_append_right size_toArray length_cons map_cons length_map append_nil nodup_cons of_mem_zip replicate length length_take getElem?_append_right getElem?_append_left getElem?_map take_sublist mem_of_getElem? length_append length_replicate length_drop map_nil any_cons replicate_succ flatten_cons foldl append_assoc length_singleton find?_cons length_nil filter_cons length_filter_le Pairwise all_eq_true pairwise_iff_getElem pairwise_cons mem_iff_getElem filterMap_cons_none filterMap_cons_some length_range filter_cons_of_neg filter_cons_of_pos filter_sublist mem_map map_map toArray getD_eq_getElem?_getD mem_singleton getElem?_eq_getElem getElem_mem length_eq_zero_iff ext_getElem? getElem?_range getElem?_eq_none map_congr_left not_mem_nil take_succ nodup_nil map_append any_eq_true take_length not_lt any_map all_map filter_congr pairwise_map Nodup filter_map range' lookup_cons Sublist)
open Nat (lt_of_lt_of_le lt_irrefl ne_of_lt le_trans le_of_lt ne_of_gt le_refl zero_le le_of_eq le_succ lt_trans lt_of_le_of_lt lt_succ_of_lt zero_add mod_lt log2_le_self)
open Array (length_toList toList getElem?_toList getD_eq_getD_getElem? toList_inj size_map isEmpty)
open Option (map_some isSome_map)
open Bool (and_eq_true or_eq_true false_eq_true)
open Int (emod_nonneg toNat toNat_natCast)
open PySem.Heap (lt_size SameBut get?_push_of_some get?_push_size size_push get?_update_ne FlyingW)
open PySem.Calls (Constant_str spliced_nil spliced_cons callWith_builtin evalArgs_plain)
open PySem.SeqAt (EqAt eq_listAt RcAt RcNeAt)
open PySem.Value (bytes float builtin)
open PySem (boot_len)
open PySem.Str (empty ofString)
open Ne (symm)
noncomputable section
namespace L2
open PySem PySem.Spec PyProof.Rows
abbrev Key:=Sum Int Str
def iN:Key→Value→Bool
 |.inl k,v=>Value.isInt k v
 |.inr x,v=>Value.isStrOf x v
def zV(w:World):Key→Int
 |.inl k=>hashInt k
 |.inr x=>hashStr w x
theorem aR:∀{k:Key}{v:Value},iN k v=true→(∃i t,k=Sum.inl i∧v=Value.int i t)∨(∃x t,k=Sum.inr x∧v=Value.str x t)
 |.inl i,v,h=>by
  obtain⟨t,e⟩:=Value.isInt_shape (k:=i) (v:=v) h;exact .inl ⟨i,t,rfl,e⟩
 |.inr x,v,h=>by
  obtain⟨t,e⟩:=Value.isStrOf_shape (x:=x) (v:=v) h;exact .inr ⟨x,t,rfl,e⟩
theorem qv(i:Int)(t:Tok):iN (.inl i) (.int i t)=true:=by simp[iN,Value.isInt]
theorem qw(x:Str)(t:Tok):iN (.inr x) (.str x t)=true:=by simp[iN,Value.isStrOf]
theorem xh(a b:Int):decide ((Sum.inl a:Key)=Sum.inl b)=(a==b):=by
 by_cases e:a=b
 ·subst e;simp
 ·have h:¬(Sum.inl a:Key)=Sum.inl b:=λq=>e (Sum.inl.inj q);rw[decide_eq_false h];exact(beq_eq_false_iff_ne.mpr e).symm
theorem xi(a b:Str):decide ((Sum.inr a:Key)=Sum.inr b)=decide (a=b):=by
 by_cases e:a=b
 ·subst e;simp
 ·have h:¬(Sum.inr a:Key)=Sum.inr b:=λq=>e (Sum.inr.inj q);rw[decide_eq_false h,decide_eq_false e]
theorem xj(a:Int)(b:Str):decide ((Sum.inl a:Key)=Sum.inr b)=false:=decide_eq_false (λq=>nomatch q)
theorem xk(a:Str)(b:Int):decide ((Sum.inr a:Key)=Sum.inl b)=false:=decide_eq_false (λq=>nomatch q)
def aG(prog:Program)(w:World):PySem.KeyKind prog w Key where
 is:=iN
 hash:=zV w
 inj:=λv a b ha hb=>by
  rcases aR ha with⟨i,t,rfl,rfl⟩|⟨x,t,rfl,rfl⟩
  ·rcases aR hb with⟨j,u,rfl,e⟩|⟨y,u,rfl,e⟩
   ·injection e with e1 _;rw[e1]
   ·exact nomatch e
  ·rcases aR hb with⟨j,u,rfl,e⟩|⟨y,u,rfl,e⟩
   ·exact nomatch e
   ·injection e with e1 _;rw[e1]
 byValue:=λk v h=>by
  rcases aR h with⟨i,t,rfl,rfl⟩|⟨x,t,rfl,rfl⟩<;>rfl
 pyHash:=λhv h=>by
  rcases aR hv with⟨i,t,rfl,rfl⟩|⟨x,t,rfl,rfl⟩
  ·exact wpAny_pyHash_int h
  ·exact wpAny_pyHash_str h
 eqBool:=λhu hv h=>by
  rcases aR hu with⟨i,t,rfl,rfl⟩|⟨x,t,rfl,rfl⟩
  ·rcases aR hv with⟨j,u,rfl,rfl⟩|⟨y,u,rfl,rfl⟩
   ·rw[xh]at h;exact wpAny_eqBool_int h
   ·rw[xj]at h;exact EqAt.int_str i t y u _ _ _ _ h
  ·rcases aR hv with⟨j,u,rfl,rfl⟩|⟨y,u,rfl,rfl⟩
   ·rw[xk]at h;exact EqAt.str_int x t j u _ _ _ _ h
   ·rw[xi]at h;exact wpAny_eqBool_str h
 «strs»:=λk x t v h=>by
  rcases aR h with⟨i,u,rfl,e⟩|⟨y,u,rfl,e⟩
  ·exact nomatch e
  ·injection e with e1 _
   subst e1;cases v<;>rfl
theorem lK(prog:Program)(w:World)(i:Int)(t:Tok):(aG prog w).is (.inl i) (.int i t)=true:=qv i t
theorem lL(prog:Program)(w:World)(x:Str)(t:Tok):(aG prog w).is (.inr x) (.str x t)=true:=qw x t
inductive V where
 |non|bl (b:Bool)|int (i:Int)|str (x:Str)|byt (b:Array UInt8)|flt (b:UInt64)|ref (a:Addr)|ty (n:String)
 deriving DecidableEq
def aA:V→Value→Prop
 |.non,u=>u=Value.none
 |.bl b,u=>u=Value.bool b
 |.int i,u=>∃t,u=Value.int i t
 |.str x,u=>∃t,u=Value.str x t
 |.byt b,u=>∃t,u=bytes b t
 |.flt b,u=>∃t,u=float b t
 |.ref a,u=>u=Value.ref a
 |.ty n,u=>u=Value.type n
abbrev aw:List V→List Value→Prop:=Paired aA
theorem aw.length{xs:List V}{us:List Value}(r:aw xs us):xs.length=us.length:=Paired.length r
theorem aw.get:∀{xs:List V}{us:List Value}{i:Nat}{x:V},aw xs us→xs[i]?=some x→∃u,us[i]?=some u∧aA x u
 |_,_,_,_,.nil,e=>by simp at e
 |_,_,0,_,.cons r _,e=>by simp at e;subst e;exact⟨_,rfl,r⟩
 |_,_,i+1,x,.cons _ t,e=>by
  obtain⟨u,h1,h2⟩:=aw.get (i:=i) (x:=x) t (by simpa using e);exact⟨u,by simpa using h1,h2⟩
theorem aw.append:∀{xs ys:List V}{us ws:List Value},aw xs us→aw ys ws→aw (xs++ys) (us++ws)
 |_,_,_,_,.nil,s=>s
 |_,_,_,_,.cons r t,s=>.cons r (aw.append t s)
theorem aw.take:∀{xs:List V}{us:List Value}(n:Nat),aw xs us→aw (xs.take n) (us.take n)
 |_,_,0,_=>.nil
 |_,_,_+1,.nil=>.nil
 |_,_,n+1,.cons r t=>.cons r (aw.take n t)
theorem aw.drop:∀{xs:List V}{us:List Value}(n:Nat),aw xs us→aw (xs.drop n) (us.drop n)
 |_,_,0,r=>r
 |_,_,_+1,.nil=>.nil
 |_,_,n+1,.cons _ t=>aw.drop n t
def dD:Option V→Option Value→Prop
 |some v,some u=>aA v u
 |none,none=>True
 |_,_=>False
def KV{κ:Type}:List (κ×V)→List (κ×Value)→Prop:=Paired λ(p:κ×V) (q:κ×Value)=>p.1=q.1∧aA p.2 q.2
def kV:Key→V
 |.inl i=>.int i
 |.inr x=>.str x
inductive HO where
 |lst (xs:List V)
 |tup (xs:List V)
 |dK (kvs:List (Key×V))|dT (kvs:List (List Key×V))
 |set (S:Int→Bool) (n:Nat)
 |ins (C dx:Addr) (fs:List (Str×V))
 |own (x:Addr)
 |xd (fs:List (Str×V))
 |met (f x:Addr)
 |rng (lo hi:Int)
 |frz (o:Obj) (u:HO)
 |tbl (ps:Array Value)
 |ext (φ:Heap→Prop)
abbrev Hp:=Addr→Option HO
def upd(H:Hp)(a:Addr)(o:HO):Hp:=λb=>if b=a then some o else H b
theorem ac{H:Hp}{a:Addr}{o:HO}:upd H a o a=some o:=by unfold upd;rw[if_pos rfl]
theorem ai{H:Hp}{a b:Addr}{o:HO}(h:b≠a):upd H a o b=H b:=by unfold upd;rw[if_neg h]
theorem lM{H:Hp}{a b:Addr}{o u:HO}(h:H a=some o)(h':H b=some u)(d:o≠u):a≠b:=by
 intro e;subst e;rw[h]at h';exact d (Option.some.inj h')
theorem av{H:Hp}{a b:Addr}{o:HO}(h:H a=some o)(h':H b=none):a≠b:=by
 intro e;subst e;rw[h]at h';cases h'
section
variable(P:Program)(w:World)
def bf(H:Hp)(h:Heap)(a:Addr):HO→Prop
 |.lst xs=>xs.length≤sizeLine∧∃(its:List Value) (n:Nat),aw xs its∧h.get? a=some {cls:=.type "list",data:=.seq its.toArray n}
 |.tup xs=>xs.length≤sizeLine∧∃its:List Value,aw xs its∧IsTup h a its.toArray
 |.dK kvs=>kvs.length≤sizeLine∧(a==sysModules)=false∧∃vs,KV kvs vs∧h.DictOf (aG P w) a vs
 |.dT kvs=>kvs.length≤sizeLine∧(a==sysModules)=false∧∃xs:List (List Key×Addr×Value),
   Paired (λ(p:List Key×V) (q:List Key×Addr×Value)=>p.1=q.1∧H q.2.1=some (.tup (p.1.map kV))∧aA p.2 q.2.2) kvs xs ∧
   ∃o es ep,h.get? a=some o∧o.ExactDict∧o.data=.dict es ep∧es.toList=xs.map (entryOfKey (tupleKind (aG P w)))∧(xs.map (·.1)).Nodup
 |.set S n=>h.SetOf (intKind P w) a S n
 |.ins C dx fs=>H dx=some (.own a)∧fs.length≤1000∧dx≠a∧h.get? a=some (instObj C dx) ∧
   ∃mA,h.Ns1 dx mA∧(∀f,dD (fs.lookup f) (mA f))∧PySem.Within mA (fs.map (·.1))
 |.own _=>∃o,h.get? a=some o
 |.xd fs=>∃mA,h.Ns1 a mA∧∀f,dD (fs.lookup f) (mA f)
 |.rng lo hi=>∃t u v,h.get? a=some {cls:=.type "range",data:=.fields #[.int lo t,.int hi u,.int 1 v]}
 |.frz o u=>h.get? a=some o∧bf H h a u
 |.tbl ps=>h.get? a=some {cls:=.none,data:=.fields ps}
 |.met f x=>h.get? a=some (methodObj (.ref f) (.ref x))
 |.ext φ=>φ h∧(∃o,h.get? a=some o)∧∀h1 h2:Heap,φ h1→(∀o,h1.get? a=some o→h2.get? a=some o)→φ h2
def HOk(H:Hp)(h:Heap):Prop:=∀a o,H a=some o→bf P w H h a o
end
section
variable{P:Program}{w:World}{H H':Hp}{h h':Heap}{a:Addr}{o:HO}
theorem bf.lt(x:bf P w H h a o):a<h.objs.size:=by
 cases o with
 |lst xs=>obtain⟨_,_,_,_,e⟩:=x;exact lt_size e
 |tup xs=>obtain⟨_,_,_,p⟩:=x;exact p.lt
 |dK kvs=>obtain⟨_,_,_,_,o,_,_,e,_⟩:=x;exact lt_size e
 |dT kvs=>obtain⟨_,_,_,_,o,_,_,e,_⟩:=x;exact lt_size e
 |set S n=>obtain⟨o,_,_,_,e,_⟩:=x;exact lt_size e
 |ins C dx fs=>obtain⟨_,_,_,e,_⟩:=x;exact lt_size e
 |own y=>obtain⟨_,e⟩:=x;exact lt_size e
 |xd fs=>obtain⟨_,⟨_,_,_,e,_⟩,_⟩:=x;exact lt_size e
 |rng lo hi=>obtain⟨_,_,_,e⟩:=x;exact lt_size e
 |frz ob u=>obtain⟨e,_⟩:=x;exact lt_size e
 |tbl ps=>exact lt_size (show h.get? a=some _ from x)
 |met f y=>exact lt_size (show h.get? a=some _ from x)
 |ext φ=>obtain⟨_,⟨_,e⟩,_⟩:=x;exact lt_size e
theorem Paired.mapP{α β:Type}{F G:α→β→Prop}:∀{l₁:List α}{l₂:List β},Paired F l₁ l₂→(∀a b,F a b→G a b)→Paired G l₁ l₂
 |_,_,.nil,_=>.nil
 |_,_,.cons r t,f=>.cons (f _ _ r) (Paired.mapP t f)
theorem bf.stay(x:bf P w H h a o)(k:∀b u,(b=a∨H b=some (.own a))→h.get? b=some u→h'.get? b=some u)(ho:∀b,H b=some (.own a)→H' b=some (.own a))(ht:∀b xs,H b=some (.tup xs)→H' b=some (.tup xs)):bf P w H' h' a o:=by
 induction o with
 |lst xs=>obtain⟨z,its,n,r,e⟩:=x;exact⟨z,its,n,r,k _ _ (.inl rfl) e⟩
 |tup xs=>obtain⟨z,its,r,ob,e,c⟩:=x;exact⟨z,its,r,ob,k _ _ (.inl rfl) e,c⟩
 |dK kvs=>obtain⟨z,y,vs,r,ob,es,ep,e,c⟩:=x;exact⟨z,y,vs,r,ob,es,ep,k _ _ (.inl rfl) e,c⟩
 |dT kvs =>
  obtain⟨z,y,xs,r,ob,es,ep,e,c⟩:=x;exact⟨z,y,xs,Paired.mapP r λp q z=>⟨z.1,ht _ _ z.2.1,z.2.2⟩,ob,es,ep,k _ _ (.inl rfl) e,c⟩
 |set S n=>obtain⟨ob,es,ep,t,e,c⟩:=x;exact⟨ob,es,ep,t,k _ _ (.inl rfl) e,c⟩
 |ins C dx fs =>
  obtain⟨d,z,ne,e,mA,⟨od,es,ep,e2,c⟩,r⟩:=x;exact⟨ho _ d,z,ne,k _ _ (.inl rfl) e,mA,⟨od,es,ep,k _ _ (.inr d) e2,c⟩,r⟩
 |own y=>obtain⟨ob,e⟩:=x;exact⟨ob,k _ _ (.inl rfl) e⟩
 |xd fs=>obtain⟨mA,⟨od,es,ep,e,c⟩,r⟩:=x;exact⟨mA,⟨od,es,ep,k _ _ (.inl rfl) e,c⟩,r⟩
 |rng lo hi=>obtain⟨t,u,v,e⟩:=x;exact⟨t,u,v,k _ _ (.inl rfl) e⟩
 |frz ob u ih=>obtain⟨e,q⟩:=x;exact⟨k _ _ (.inl rfl) e,ih q⟩
 |tbl ps =>
  have e:h.get? a=some {cls:=.none,data:=.fields ps}:=x;show h'.get? a=some {cls:=.none,data:=.fields ps};exact k a _ (.inl rfl) e
 |met f y =>
  have e:h.get? a=some (methodObj (.ref f) (.ref y)):=x;show h'.get? a=some (methodObj (.ref f) (.ref y));exact k a _ (.inl rfl) e
 |ext φ=>obtain⟨p,⟨o,e⟩,st⟩:=x;exact⟨st _ _ p λo q=>k _ _ (.inl rfl) q,⟨o,k _ _ (.inl rfl) e⟩,st⟩
theorem HOk.lt(x:HOk P w H h)(e:H a=some o):a<h.objs.size:=(x a o e).lt
theorem HOk.fresh(x:HOk P w H h)(e:h.objs.size≤a):H a=none:=by
 cases q:H a with
 |none=>rfl
 |some u=>exact absurd (lt_of_lt_of_le (x.lt q) e) (lt_irrefl _)
theorem HOk.kept(x:HOk P w H h)(k:∀b u,h.get? b=some u→h'.get? b=some u):HOk P w H h':=λa o e =>
 (x a o e).stay (λb u _ q=>k b u q) (λ_ q=>q) λ_ _ q=>q
theorem HOk.laid(x:HOk P w H h)(k:∀b u,h.get? b=some u→h'.get? b=some u)(hp:h.objs.size≤a)(new:bf P w (upd H a o) h' a o):HOk P w (upd H a o) h':=λb u e=>by
 have hn:=x.fresh hp
 by_cases hb:b=a
 ·subst hb;rw[ac]at e;cases e;exact new
 ·rw[ai hb]at e;exact(x b u e).stay (λc v _ q=>k c v q) (λc q=>by rw[ai (av q hn)];exact q) λc xs q=>by rw[ai (av q hn)];exact q
end
def Rd(H:Hp)(a:Addr)(u:HO):Prop:=H a=some u∨∃o,H a=some (.frz o u)
theorem Rd.of{H:Hp}{a:Addr}{u:HO}(h:H a=some u):Rd H a u:=.inl h
theorem Rd.ok{P:Program}{w:World}{H:Hp}{h:Heap}{a:Addr}{u:HO}(r:Rd H a u)(x:HOk P w H h):bf P w H h a u:=by
 rcases r with r|⟨o,r⟩
 ·exact x a u r
 ·obtain⟨_,q⟩:=x a _ r;exact q
def Mut:Option HO→Prop
 |some (.lst _)=>True
 |some (.dK _)=>True
 |some (.dT _)=>True
 |some (.set _ _)=>True
 |some (.ins _ _ _)=>True
 |some (.ext _)=>True
 |_=>False
section
variable{P:Program}{w:World}{H:Hp}{h h':Heap}{x e:Addr}{o':HO}
theorem HOk.write(ok:HOk P w H h)(mu:Mut (H x))(he:e=x∨H e=some (.own x))(k:∀b u,b≠e→h.get? b=some u→h'.get? b=some u)(heo:∃u,h'.get? e=some u)(new:bf P w (upd H x o') h' x o'):HOk P w (upd H x o') h':=λb u q=>by
 have nown:∀c y,H c=some (.own y)→c≠x:=λc y r z=>by subst z;rw[r]at mu;exact mu
 have ntup:∀c xs,H c=some (.tup xs)→c≠x:=λc xs r z=>by subst z;rw[r]at mu;exact mu
 by_cases hb:b=x
 ·subst hb;rw[ac]at q;cases q;exact new
 ·rw[ai hb]at q
  by_cases hbe:b=e
  ·have q':H b=some (.own x):=by
    rcases he with z|z
    ·exact absurd (hbe.trans z) hb
    ·rw[hbe];exact z
   rw[q]at q';cases q';obtain⟨v,hv⟩:=heo;exact⟨v,by rw[hbe];exact hv⟩
  ·refine(ok b u q).stay (λc v hc r=>k c v ?_ r) (λc r=>by rw[ai (nown c b r)];exact r) λc xs r=>by rw[ai (ntup c xs r)];exact r
   rcases hc with rfl|hc
   ·exact hbe
   ·rintro rfl;rcases he with z|z
    ·exact nown c b hc z
    ·rw[hc]at z;cases z;exact hb rfl
end
structure Un(fs ex:List Addr)(H H':Hp)(h h':Heap):Prop where
 keep:∀b o,h.get? b=some o→H b=none→b∉fs→b∉ex→h'.get? b=some o
 slot:∀b o,h.get? b=some o→H b=none→b∈fs→b∉ex→∃sl,h'.get? b=some {o with slots:=sl}
 free:∀b o,h.get? b=some o→H b=none→b∉ex→H' b=none
 there:∀b o,h.get? b=some o→b∉ex→∃o',h'.get? b=some o'
 tups:∀b xs,H b=some (.tup xs)→H' b=some (.tup xs)
 frzs:∀b o u,H b=some (.frz o u)→H' b=some (.frz o u)
 tbls:∀b ps,H b=some (.tbl ps)→∃more,H' b=some (.tbl (ps++more))
section
variable{fs fs' ex ex':List Addr}{H H1 H2:Hp}{h h1 h2 h':Heap}{a x e:Addr}{o:HO}
theorem Un.any(u:Un fs ex H H1 h h1){b:Addr}{ob:Obj}(q:h.get? b=some ob)(n:H b=none)(hx:b∉ex):∃sl,h1.get? b=some {ob with slots:=sl}:=by
 by_cases hb:b∈fs
 ·exact u.slot b ob q n hb hx
 ·exact⟨ob.slots,u.keep b ob q n hb hx⟩
theorem Un.kept(k:∀b u,h.get? b=some u→h'.get? b=some u):Un fs ex H H h h' :=
 ⟨λb ob q _ _ _=>k b ob q,λb ob q _ _ _=>⟨ob.slots,k b ob q⟩,λ_ _ _ n _=>n,λb ob q _=>⟨ob,k b ob q⟩,λ_ _ q=>q,λ_ _ _ q=>q,λ_ ps q=>⟨#[],by rw[q];simp⟩⟩
theorem Un.refl:Un fs ex H H h h:=Un.kept λ_ _ q=>q
theorem Un.laid(k:∀b u,h.get? b=some u→h'.get? b=some u)(hp:h.objs.size≤a)(hn:H a=none):Un fs ex H (upd H a o) h h' where
 keep:=λb u q _ _ _=>k b u q
 slot:=λb u q _ _ _=>⟨u.slots,k b u q⟩
 free:=λb u q n _=>by rw[ai (ne_of_lt (lt_of_lt_of_le (lt_size q) hp))];exact n
 there:=λb u q _=>⟨u,k b u q⟩
 tups:=λb xs q=>by rw[ai (av q hn)];exact q
 frzs:=λb u xs q=>by rw[ai (av q hn)];exact q
 tbls:=λb ps q=>⟨#[],by rw[ai (av q hn),q];simp⟩
theorem Un.write(mu:Mut (H x))(he:e=x∨H e=some (.own x))(k:∀b u,b≠e→h.get? b=some u→h'.get? b=some u)(heo:∃u,h'.get? e=some u):Un fs ex H (upd H x o) h h':=by
 have hx:∀b,H b=none→b≠x:=λb n z=>by subst z;rw[n]at mu;exact mu
 have hb:∀b,H b=none→b≠e:=λb n z=>by
  subst z;rcases he with r|r
  ·exact hx b n r
  ·rw[n]at r;cases r
 have hm:∀b u,H b=some u→¬Mut (some u)→b≠x:=λb u q nm z=>by subst z;rw[q]at mu;exact nm mu
 refine⟨λb u q n _ _=>k b u (hb b n) q,λb u q n _ _=>⟨u.slots,k b u (hb b n) q⟩,λb u q n _=>by rw[ai (hx b n)];exact n,λb u q _=>?_,
  λb xs q=>by rw[ai (hm b _ q λz=>z)];exact q,λb u xs q=>by rw[ai (hm b _ q λz=>z)];exact q,λb ps q=>⟨#[],by rw[ai (hm b _ q λz=>z),q];simp⟩⟩
 by_cases hbe:b=e
 ·subst hbe;exact heo
 ·exact⟨u,k b u hbe q⟩
end
def trk(h:Heap)(H:Hp):List Addr:=(List.range h.objs.size).filter λa=>(H a).isSome
def jK(h:Heap)(H:Hp):Heap:=hideAll h (trk h H)
theorem qx(h:Heap)(H:Hp):(jK h H).objs.size=h.objs.size:=hideAll_size _ _
theorem rE{h:Heap}{H:Hp}{b:Addr}{o:Obj}(e:h.get? b=some o)(n:H b=none):(jK h H).get? b=some o :=
 hideAll_get _ e λhm=>by
  have q:(H b).isSome=true:=(mem_filter.mp hm).2;rw[n]at q;simp at q
theorem uQ{h:Heap}{H:Hp}{b:Addr}{o:Obj}(e:(jK h H).get? b=some o):h.get? b=some o∧H b=none:=by
 have e':h.get? b=some o:=of_hideAll (trk h H) e;refine⟨e',?_⟩;cases q:H b with
 |none=>rfl
 |some x =>
  have hm:b∈trk h H:=mem_filter.mpr ⟨mem_range.mpr (lt_size e'),by simp[q]⟩;have z:(jK h H).get? b=none:=hideAll_none (trk h H) hm;rw[z]at e;cases e
structure Mod(K:PySem.W.Frag)(mg:Str→Option Value)(base:Heap):Prop where
 kin:K.In base
 glob:base.Ns mainGlobals mg
 blt:∃mb,base.Ns builtinsNs mb∧∀x:Str,x≠"__name__"→mb x=bootBuiltins x
 nolimit:base.NoLimit
structure Cx where
 prog:Program
 w:World
 K:PySem.W.Frag
 mg:Str→Option Value
 base:Heap
 A:Around
 N:List Str
 s₀:Shared
 H₀:Hp
 env:Env
 outer:List Env
 stack:List Env
 ex:List Addr
 fn:Str→Bool
 calm:Bool
 pn:List (Addr×Obj)
 xe:Value→Shared→Prop
def frs(l:List Env):List Addr:=l.filterMap (·.frame)
abbrev Cx.fs(X:Cx):List Addr:=frs X.outer
def Vis(sc:Scope)(x:Str):Prop:=sc.names.lookup x=some .local∨sc.names.lookup x=some .cell∨sc.names.lookup x=some .free
def Loc(sc:Scope)(x:Str):Prop:=sc.names.lookup x=some .local∨sc.names.lookup x=some .cell
def zW(env:Env)(h:Heap)(m:Str→Option Value)(x:Str)(u:Value):Prop :=
 (env.kindOf x=some .local∧m x=some u)∨((env.kindOf x=some .cell∨env.kindOf x=some .free)∧∃c,env.cells.lookup x=some c∧h.IsCell c (some u))
structure Cx.Ok(X:Cx):Prop where
 mod:Mod X.K X.mg X.base
 kind:X.env.scope.kind=.function
 glob:X.env.globals=mainGlobals
 blt:X.env.builtins=builtinsNs
 above:X.s₀.heap.objs.size≤X.env.locals
 inj:∀x y c,X.env.cells.lookup x=some c→X.env.cells.lookup y=some c→x=y
 has:∀x,(X.env.kindOf x=some .cell∨X.env.kindOf x=some .free)→∃c,X.env.cells.lookup x=some c
 cab:∀x c,X.fn x=true→X.env.cells.lookup x=some c→X.s₀.heap.objs.size≤c
 hd:X.calm=true→X.A.handled=none
 frames:X.A.frames=some X.stack
 stk:X.stack=X.outer∨(X.stack=X.env::X.outer∧X.env.frame=some X.env.locals)
 exf:∀b∈X.ex,b≠X.env.locals∧∀x c,X.env.cells.lookup x=some c→c≠b
 bs:∀b o,X.base.get? b=some o→X.s₀.heap.get? b=some o∧X.H₀ b=none
 bsz:X.base.objs.size≤X.s₀.heap.objs.size
 noex:∀b o,X.base.get? b=some o→b∉X.ex
 exfs:∀b∈X.ex,b∉X.fs
 funs:X.s₀.heap.FunFrames X.base X.outer
 frf:∀b∈X.fs,X.H₀ b=none
structure Inv(X:Cx)(pins:List (Addr×Obj))(σ:List (Option V))(H:Hp)(s:Shared):Prop where
 ok:X.Ok
 os:s.os=X.s₀.os
 bare:AllBare s.gens
 base:Un X.fs X.ex X.H₀ H X.s₀.heap s.heap
 loc:∃m,s.heap.Ns X.env.locals m∧∀(i:Nat)(x:Str)(v:V),X.N[i]?=some x→σ[i]?=some (some v)→Vis X.env.scope x→∃u,aA v u∧zW X.env s.heap m x u
 cell:∀x c,X.env.cells.lookup x=some c→∃v,s.heap.IsCell c v
 free:H X.env.locals=none
 freeC:∀x c,X.env.cells.lookup x=some c→H c=none
 pin:∀p∈X.pn++pins,s.heap.get? p.1=some p.2∧H p.1=none∧p.1≠X.env.locals∧p.1∉X.fs∧∀v,p.2.data≠.cell v
 hok:HOk X.prog X.w H s.heap
 len:σ.length=X.N.length
section
variable{X:Cx}{pins:List (Addr×Obj)}{σ:List (Option V)}{H H':Hp}{s:Shared}{h':Heap}
theorem Cx.Ok.nofr(ok:X.Ok){b:Addr}{o:Obj}(e:X.base.get? b=some o):b∉X.fs:=λhb=>by
 have:=(ok.funs.mem hb).1;rw[e]at this;cases this
theorem Inv.bs(I:Inv X pins σ H s):∀b o,X.base.get? b=some o→s.heap.get? b=some o∧H b=none:=λb o e =>
 ⟨I.base.keep b o (I.ok.bs b o e).1 (I.ok.bs b o e).2 (I.ok.nofr e) (I.ok.noex b o e),I.base.free b o (I.ok.bs b o e).1 (I.ok.bs b o e).2 (I.ok.noex b o e)⟩
theorem Inv.bk(I:Inv X pins σ H s):∀b o,X.base.get? b=some o→s.heap.get? b=some o:=λb o e=>(I.bs b o e).1
theorem Inv.mod(I:Inv X pins σ H s):Mod X.K X.mg X.base:=I.ok.mod
theorem Inv.kIn(I:Inv X pins σ H s):X.K.In s.heap:=I.ok.mod.kin.keeps I.bk
theorem Inv.lt(I:Inv X pins σ H s):X.env.locals<s.heap.objs.size:=let⟨_,hn,_⟩:=I.loc;hn.lt
theorem Inv.sz(I:Inv X pins σ H s):X.s₀.heap.objs.size≤s.heap.objs.size:=le_trans I.ok.above (le_of_lt I.lt)
theorem Inv.nofs(I:Inv X pins σ H s){a:Addr}(h:s.heap.objs.size≤a):a∉X.fs:=λhb=>by
 obtain⟨_,o,ho,_⟩:=I.ok.funs.mem hb;exact absurd (lt_of_lt_of_le (lt_size ho) (le_trans I.sz h)) (lt_irrefl _)
theorem Inv.cne(I:Inv X pins σ H s):∀x c,X.env.cells.lookup x=some c→c≠X.env.locals:=λx c e z=>by
 obtain⟨v,o,ho,hd⟩:=I.cell x c e;obtain⟨m,⟨o',es,ep,ho',hd',_⟩,_⟩:=I.loc;rw[z,ho']at ho;cases ho;rw[hd']at hd;cases hd
theorem Inv.funs(I:Inv X pins σ H s):s.heap.FunFrames X.base X.outer:=by
 have all:∀(l:List Env),(∀b∈frs l,b∈X.fs)→X.s₀.heap.FunFrames X.base l→s.heap.FunFrames X.base l:=by
  intro l
  induction l with
  |nil=>intro _ _;trivial
  |cons env r ih =>
   intro hs hl;obtain⟨hk,⟨L,o,hf,hn,ho,hd⟩,hr⟩:=hl;have hL:L∈X.fs:=hs L (by unfold frs;rw[filterMap_cons,hf];exact mem_cons_self);obtain⟨sl,e⟩:=I.base.slot L o ho (I.ok.frf L hL) hL λz=>I.ok.exfs L z hL;exact⟨hk,⟨L,_,hf,hn,e,hd⟩,ih (λb hb=>hs b (by unfold frs;rw[filterMap_cons,hf];exact mem_cons_of_mem _ hb)) hr⟩
 exact all X.outer (λ_ hb=>hb) I.ok.funs
theorem Inv.stack(I:Inv X pins σ H s):s.heap.FunFrames X.base X.stack:=by
 rcases I.ok.stk with e|⟨e,hf⟩
 ·rw[e];exact I.funs
 ·rw[e];obtain⟨m,hn,_⟩:=I.loc;refine .cons (by rw[I.ok.kind];decide) hf hn ?_ I.funs;exact Heap.get?_none_of_le (le_trans I.ok.bsz I.ok.above)
theorem Inv.stkSub(I:Inv X pins σ H s):∀b∈frs X.stack,b∈X.env.locals::X.fs:=λb hb=>by
 rcases I.ok.stk with e|⟨e,hf⟩
 ·rw[e]at hb;exact mem_cons_of_mem _ hb
 ·rw[e]at hb;unfold frs at hb;rw[filterMap_cons,hf]at hb;exact hb
theorem Inv.stkFree(I:Inv X pins σ H s):∀b∈frs X.stack,H b=none:=λb hb=>by
 rcases mem_cons.mp (I.stkSub b hb)with e|hb
 ·rw[e];exact I.free
 ·obtain⟨_,o,ho,_⟩:=I.ok.funs.mem hb;exact I.base.free b o ho (I.ok.frf b hb) λz=>I.ok.exfs b z hb
theorem Inv.step{g':Array GenState}{t':Nat}{d':Drawn}{ch:List Addr}(I:Inv X pins σ H s)(hch:∀b∈ch,(b∈X.ex∨X.s₀.heap.objs.size≤b)∧b≠X.env.locals∧(∀x c,X.env.cells.lookup x=some c→c≠b)∧∀p∈X.pn++pins,p.1≠b)(keep:∀b o,b≠X.env.locals→b∉X.fs→b∉ch→s.heap.get? b=some o→H b=none→h'.get? b=some o)(slot:∀b o,b≠X.env.locals→b∈X.fs→b∉ch→s.heap.get? b=some o→H b=none→∃sl,h'.get? b=some {o with slots:=sl})(free:∀b o,b∉ch→s.heap.get? b=some o→H b=none→H' b=none)(there:∀b o,b∉ch→s.heap.get? b=some o→∃o',h'.get? b=some o')(tups:∀b xs,H b=some (.tup xs)→H' b=some (.tup xs))(frzs:∀b o u,H b=some (.frz o u)→H' b=some (.frz o u))(tbls:∀b ps,H b=some (.tbl ps)→∃more,H' b=some (.tbl (ps++more)))(ns:∀m,s.heap.Ns X.env.locals m→h'.Ns X.env.locals m)(hok:HOk X.prog X.w H' h')(hg:AllBare g'):
  Inv X pins σ H' {s with heap:=h',gens:=g',drawn:=d',toks:=t'}:=by
 have neL:∀b o,X.s₀.heap.get? b=some o→b≠X.env.locals:=λb o e=>ne_of_lt (lt_of_lt_of_le (lt_size e) I.ok.above);have neC:∀b o,X.s₀.heap.get? b=some o→b∉X.ex→b∉ch:=λb o e hx hb=>by
  rcases (hch b hb).1 with z|z
  ·exact hx z
  ·exact absurd (lt_of_lt_of_le (lt_size e) z) (lt_irrefl _)
 have cellK:∀x c,X.env.cells.lookup x=some c→∀v,s.heap.IsCell c v→h'.IsCell c v:=λx c e v ⟨o,ho,hd⟩=>by
  have nch:c∉ch:=λz=>(hch c z).2.2.1 x c e rfl
  by_cases hc:c∈X.fs
  ·obtain⟨sl,q⟩:=slot c o (I.cne x c e) hc nch ho (I.freeC x c e);exact⟨_,q,hd⟩
  ·exact⟨o,keep c o (I.cne x c e) hc nch ho (I.freeC x c e),hd⟩
 refine⟨I.ok,I.os,hg,⟨λb o e n hb hx=>?_,λb o e n hb hx=>?_,λb o e n hx=>?_,λb o e hx=>?_,λb xs e=>tups b xs (I.base.tups b xs e),λb o xs e=>frzs b o xs (I.base.frzs b o xs e),λb ps e=>?_⟩,?_,λx c e=>?_,?_,λx c e=>?_,λp hp=>?_,hok,I.len⟩
 ·exact keep b o (neL b o e) hb (neC b o e hx) (I.base.keep b o e n hb hx) (I.base.free b o e n hx)
 ·obtain⟨sl,e1⟩:=I.base.slot b o e n hb hx;obtain⟨sl',e2⟩:=slot b _ (neL b o e) hb (neC b o e hx) e1 (I.base.free b o e n hx);exact⟨sl',e2⟩
 ·obtain⟨o',e1⟩:=I.base.there b o e hx;exact free b o' (neC b o e hx) e1 (I.base.free b o e n hx)
 ·obtain⟨o',e1⟩:=I.base.there b o e hx;exact there b o' (neC b o e hx) e1
 ·obtain⟨m1,e1⟩:=I.base.tbls b ps e;obtain⟨m2,e2⟩:=tbls b _ e1;exact⟨m1++m2,by rw[e2,Array.append_assoc]⟩
 ·obtain⟨m,hn,hl⟩:=I.loc;refine⟨m,ns m hn,λi x v e1 e2 e3=>?_⟩;obtain⟨u,r,l⟩:=hl i x v e1 e2 e3;refine⟨u,r,?_⟩;rcases l with l|⟨k,c,e,z⟩
  ·exact .inl l
  ·exact .inr ⟨k,c,e,cellK x c e _ z⟩
 ·obtain⟨v,z⟩:=I.cell x c e;exact⟨v,cellK x c e v z⟩
 ·obtain⟨m,⟨o,_,_,ho,_⟩,_⟩:=I.loc;exact free _ o (λz=>(hch _ z).2.1 rfl) ho I.free
 ·obtain⟨v,o,ho,hd⟩:=I.cell x c e;exact free c o (λz=>(hch c z).2.2.1 x c e rfl) ho (I.freeC x c e)
 ·obtain⟨e,n,ne,nf,d⟩:=I.pin p hp;have nch:p.1∉ch:=λz=>(hch p.1 z).2.2.2 p hp rfl;exact⟨keep p.1 p.2 ne nf nch e n,free p.1 p.2 nch e n,ne,nf,d⟩
theorem Inv.un{t':Nat}(I:Inv X pins σ H s)(u:Un X.fs [] H H' s.heap h')(hok:HOk X.prog X.w H' h'):Inv X pins σ H' {s with heap:=h',toks:=t'}:=by
 obtain⟨m,⟨o,es,ep,ho,r⟩,_⟩:=id I.loc;obtain⟨sl,hL⟩:=u.any ho I.free (by simp);exact I.step (g':=s.gens) (d':=s.drawn) (ch:=[]) (λ_ z=>nomatch z) (λb o _ hb _ e n=>u.keep b o e n hb (by simp)) (λb o _ hb _ e n=>u.slot b o e n hb (by simp)) (λb o _ e n=>u.free b o e n (by simp)) (λb o _ e=>u.there b o e (by simp)) u.tups u.frzs u.tbls (λm' hm=>by
  obtain⟨o',es',ep',ho',r'⟩:=hm;rw[ho]at ho';cases ho';exact⟨_,es',ep',hL,r'⟩) hok I.bare
theorem Inv.call{g':Array GenState}{t':Nat}{d':Drawn}{ch:List Addr}(I:Inv X pins σ H s)(u:Un (frs X.stack) ch H H' s.heap h')(hok:HOk X.prog X.w H' h')(hg:AllBare g')(hch:∀b∈ch,(b∈X.ex∨X.s₀.heap.objs.size≤b)∧b≠X.env.locals∧(∀x c,X.env.cells.lookup x=some c→c≠b)∧∀p∈X.pn++pins,p.1≠b):
  Inv X pins σ H' {s with heap:=h',gens:=g',drawn:=d',toks:=t'}:=by
 obtain⟨m,⟨o,es,ep,ho,r⟩,_⟩:=id I.loc;obtain⟨sl,hL⟩:=u.any ho I.free λz=>(hch _ z).2.1 rfl;exact I.step (ch:=ch) hch (λb o hL hb hc e n=>u.keep b o e n (λz=>(mem_cons.mp (I.stkSub b z)).elim hL hb) hc) (λb o _ _ hc e n=>u.any e n hc) (λb o hc e n=>u.free b o e n hc) (λb o hc e=>u.there b o e hc) u.tups u.frzs u.tbls (λm' hm=>by
  obtain⟨o',es',ep',ho',r'⟩:=hm;rw[ho]at ho';cases ho';exact⟨_,es',ep',hL,r'⟩) hok hg
theorem Inv.turned{t':Nat}{it:Addr}(I:Inv X pins σ H s)(k:∀b o,b≠it→s.heap.get? b=some o→h'.get? b=some o)(hn:H it=none)(hL:it≠X.env.locals)(h1:it∈X.ex∨X.s₀.heap.objs.size≤it)(h2:∀x c,X.env.cells.lookup x=some c→c≠it)(h3:∀p∈X.pn++pins,p.1≠it):Inv X pins σ H {s with heap:=h',toks:=t'}:=by
 have nit:∀b u,H b=some u→b≠it:=λb u e z=>by rw[z,hn]at e;cases e
 refine I.step (g':=s.gens) (d':=s.drawn) (ch:=[it]) (λb hb=>?_) (λb o _ _ hc e _=>k b o (λz=>hc (by simp[z])) e) (λb o _ _ hc e _=>⟨o.slots,k b o (λz=>hc (by simp[z])) e⟩) (λ_ _ _ _ n=>n)
  (λb o hc e=>⟨o,k b o (λz=>hc (by simp[z])) e⟩) (λ_ _ e=>e) (λ_ _ _ e=>e) (λb ps e=>⟨#[],by rw[e];simp⟩) (λm hm=>?_) (λb u e=>?_) I.bare
 ·have e:b=it:=by simpa using hb
  subst e;exact⟨h1,hL,h2,h3⟩
 ·obtain⟨o,es,ep,ho,r⟩:=hm;exact⟨o,es,ep,k _ o (symm hL) ho,r⟩
 ·refine(I.hok b u e).stay (λc v hc q=>k c v ?_ q) (λ_ q=>q) λ_ _ q=>q;rcases hc with z|z
  ·rw[z];exact nit b u e
  ·exact nit c _ z
theorem Inv.tok(I:Inv X pins σ H s)(t:Nat):Inv X pins σ H {s with toks:=t}:=I.un (h':=s.heap) (t':=t) Un.refl I.hok
theorem Inv.kept{t':Nat}(I:Inv X pins σ H s)(k:∀b u,s.heap.get? b=some u→h'.get? b=some u):Inv X pins σ H {s with heap:=h',toks:=t'}:=I.un (Un.kept k) (I.hok.kept k)
theorem Inv.laid{a:Addr}{o:HO}{t':Nat}(I:Inv X pins σ H s)(k:∀b u,s.heap.get? b=some u→h'.get? b=some u)(hp:s.heap.objs.size≤a)(new:bf X.prog X.w (upd H a o) h' a o):
  Inv X pins σ (upd H a o) {s with heap:=h',toks:=t'}:=I.un (Un.laid k hp (I.hok.fresh hp)) (I.hok.laid k hp new)
theorem Inv.write{x e:Addr}{o:HO}{t':Nat}(I:Inv X pins σ H s)(mu:Mut (H x))(he:e=x∨H e=some (.own x))(k:∀b u,b≠e→s.heap.get? b=some u→h'.get? b=some u)(heo:∃u,h'.get? e=some u)(new:bf X.prog X.w (upd H x o) h' x o):Inv X pins σ (upd H x o) {s with heap:=h',toks:=t'}:=I.un (Un.write mu he k heo) (I.hok.write mu he k heo new)
theorem Inv.pins_of{pins':List (Addr×Obj)}(I:Inv X pins σ H s)(h:∀p∈pins',s.heap.get? p.1=some p.2∧H p.1=none∧p.1≠X.env.locals∧p.1∉X.fs∧∀v,p.2.data≠.cell v):Inv X pins' σ H s :=
 ⟨I.ok,I.os,I.bare,I.base,I.loc,I.cell,I.free,I.freeC,λp hp=>(mem_append.mp hp).elim (λz=>I.pin p (mem_append_left _ z)) (h p),I.hok,I.len⟩
theorem iO{N:List Str}(hN:N.Nodup){i j:Nat}{x:Str}(a:N[i]?=some x)(b:N[j]?=some x):i=j:=by
 obtain⟨h1,e1⟩:=List.getElem?_eq_some_iff.mp a;obtain⟨h2,e2⟩:=List.getElem?_eq_some_iff.mp b;exact(getElem_inj hN).mp (e1.trans e2.symm)
theorem qy{M:Model}{A:Around}{E:Value→Shared→Prop}{i:Nat}{x:Str}{v:V}{u:Value}{Q:Unit→Shared→Prop}(I:Inv X pins σ H s)(hN:X.N.Nodup)(hi:X.N[i]?=some x)(hx:Loc X.env.scope x)(r:aA v u)(h:∀s',Inv X pins (σ.set i (some v)) H s'→(∃a,SameBut a s.heap s'.heap∧(a=X.env.locals∨X.env.cells.lookup x=some a))→Q () s')(hf:X.fn x=true∨X.env.scope.names.lookup x=some .local:=by first|exact .inl rfl|exact .inr rfl|assumption):wpAny M A (storeName X.env x u) Q E s:=by
 obtain⟨m,hn,hl⟩:=id I.loc;have hcls:(X.env.scope.kind==.class||(X.env.scope.kind==.module&&X.env.locals != X.env.globals))=false:=by rw[I.ok.kind];rfl
 have hiσ:i<σ.length:=by rw[I.len];exact(List.getElem?_eq_some_iff.mp hi).1
 have cne:=I.cne;have tracked:∀{a:Addr}{h':Heap},(∃o,s.heap.get? a=some o∧H a=none)→SameBut a s.heap h'→HOk X.prog X.w H h':=λ{a h'} ha hs b ob e=>by
  obtain⟨_,_,hfree⟩:=ha;refine(I.hok b ob e).stay (λc w' hc q=>(hs.2 c ?_).trans q) (λ_ q=>q) λ_ _ q=>q;rintro rfl;rcases hc with rfl|hc
  ·rw[hfree]at e;cases e
  ·rw[hfree]at hc;cases hc
 rcases hx with hk|hk
 ·refine wpAny_storeName_local hk hn (λh' hn' hs=>?_) hcls;obtain⟨oL,_,_,hoL,_⟩:=id hn;refine h _ ⟨I.ok,I.os,I.bare,⟨λb o e n hb hx=>?_,λb o e n hb hx=>?_,I.base.free,λb o e hx=>?_,I.base.tups,I.base.frzs,I.base.tbls⟩,⟨_,hn',λj y v' e1 e2 e3=>?_⟩,λy c e=>?_,I.free,I.freeC,λp hp=>?_,tracked ⟨oL,hoL,I.free⟩ hs,by simpa using I.len⟩ ⟨_,hs,.inl rfl⟩
  ·exact(hs.2 b (ne_of_lt (lt_of_lt_of_le (lt_size e) I.ok.above))).trans (I.base.keep b o e n hb hx)
  ·obtain⟨sl,e1⟩:=I.base.slot b o e n hb hx;exact⟨sl,(hs.2 b (ne_of_lt (lt_of_lt_of_le (lt_size e) I.ok.above))).trans e1⟩
  ·obtain⟨o',e1⟩:=I.base.there b o e hx;exact⟨o',(hs.2 b (ne_of_lt (lt_of_lt_of_le (lt_size e) I.ok.above))).trans e1⟩
  ·by_cases hj:j=i
   ·subst hj;rw[hi]at e1;cases e1;rw[getElem?_set_self hiσ]at e2;cases e2;exact⟨u,r,.inl ⟨hk,by simp⟩⟩
   ·rw[List.getElem?_set_ne (symm hj)]at e2;obtain⟨u',r',q⟩:=hl j y v' e1 e2 e3;refine⟨u',r',?_⟩;rcases q with⟨k,e⟩|⟨k,c,e,z⟩
    ·refine .inl ⟨k,?_⟩;have:y≠x:=λe=>hj (iO hN e1 (e ▸ hi));simp[this,e]
    ·exact .inr ⟨k,c,e,z.sameBut hs (cne y c e)⟩
  ·obtain⟨w',z⟩:=I.cell y c e;exact⟨w',z.sameBut hs (cne y c e)⟩
  ·obtain⟨e,n,ne,nf,d⟩:=I.pin p hp;exact⟨(hs.2 p.1 ne).trans e,n,ne,nf,d⟩
 ·have hfn:X.fn x=true:=by
   rcases hf with z|z
   ·exact z
   ·rw[z]at hk;cases hk
  obtain⟨c,hc⟩:=I.ok.has x (.inl hk);obtain⟨w',z⟩:=I.cell x c hc;refine wpAny_storeName_cell I.ok.kind hk hc z (λh' hc' hs=>?_);obtain⟨oc,hoc,hocd⟩:=id z;refine h {s with heap:=h'} ⟨I.ok,I.os,I.bare,⟨λb o e n hb hx=>?_,λb o e n hb hx=>?_,I.base.free,λb o e hx=>?_,I.base.tups,I.base.frzs,I.base.tbls⟩,⟨m,hn.sameBut hs (symm (cne x c hc)),λj y v' e1 e2 e3=>?_⟩,λy c' e=>?_,I.free,I.freeC,λp hp=>?_,tracked ⟨oc,hoc,I.freeC x c hc⟩ hs,by simpa using I.len⟩ ⟨c,hs,.inr hc⟩
  ·exact(hs.2 b (ne_of_lt (lt_of_lt_of_le (lt_size e) (I.ok.cab x c hfn hc)))).trans (I.base.keep b o e n hb hx)
  ·obtain⟨sl,e1⟩:=I.base.slot b o e n hb hx;exact⟨sl,(hs.2 b (ne_of_lt (lt_of_lt_of_le (lt_size e) (I.ok.cab x c hfn hc)))).trans e1⟩
  ·obtain⟨o',e1⟩:=I.base.there b o e hx;exact⟨o',(hs.2 b (ne_of_lt (lt_of_lt_of_le (lt_size e) (I.ok.cab x c hfn hc)))).trans e1⟩
  ·by_cases hj:j=i
   ·subst hj;rw[hi]at e1;cases e1;rw[getElem?_set_self hiσ]at e2;cases e2;exact⟨u,r,.inr ⟨.inl hk,c,hc,hc'⟩⟩
   ·rw[List.getElem?_set_ne (symm hj)]at e2;obtain⟨u',r',q⟩:=hl j y v' e1 e2 e3;refine⟨u',r',?_⟩;rcases q with q|⟨k,c',e,z'⟩
    ·exact .inl q
    ·refine .inr ⟨k,c',e,z'.sameBut hs ?_⟩;rintro rfl;exact hj (iO hN e1 (I.ok.inj _ _ _ e hc ▸ hi))
  ·by_cases hcc:c'=c
   ·subst hcc;exact⟨_,hc'⟩
   ·obtain⟨w2,z2⟩:=I.cell y c' e;exact⟨w2,z2.sameBut hs hcc⟩
  ·obtain⟨e,n,ne,nf,d⟩:=I.pin p hp;refine⟨(hs.2 p.1 ?_).trans e,n,ne,nf,d⟩;intro q;rw[q,hoc]at e;have q':oc=p.2:=Option.some.inj e;exact d w' (by rw[←q'];exact hocd)
theorem iP{M:Model}{A:Around}{E:Value→Shared→Prop}{i:Nat}{x:Str}{v:V}{u:Value}{Q:Unit→Shared→Prop}(I:Inv X pins σ H s)(hN:X.N.Nodup)(hi:X.N[i]?=some x)(hx:Loc X.env.scope x)(r:aA v u)(h:∀s',Inv X pins (σ.set i (some v)) H s'→Q () s')(hf:X.fn x=true∨X.env.scope.names.lookup x=some .local:=by first|exact .inl rfl|exact .inr rfl|assumption):wpAny M A (storeName X.env x u) Q E s :=
 qy I hN hi hx r (λs' I' _=>h s' I') hf
theorem Inv.call'{s':Shared}{ch:List Addr}(I:Inv X pins σ H s)(ho:s'.os=s.os)(u:Un (frs X.stack) ch H H' s.heap s'.heap)(hok:HOk X.prog X.w H' s'.heap)(hg:AllBare s'.gens)(hch:∀b∈ch,(b∈X.ex∨X.s₀.heap.objs.size≤b)∧b≠X.env.locals∧(∀x c,X.env.cells.lookup x=some c→c≠b)∧∀p∈X.pn++pins,p.1≠b):Inv X pins σ H' s':=by
 obtain⟨h',g',d',t',o'⟩:=s';have e:o'=s.os:=ho;subst e;exact I.call (g':=g') (t':=t') (d':=d') u hok hg hch
end
abbrev XK:=Value→Option Addr→Hp→Prop
abbrev St:=List (Option V)
abbrev VK:=V→Hp→Prop
abbrev TE:=St→Hp→VK→Prop
abbrev TT:=St→Hp→(Bool→Hp→Prop)→Prop
abbrev TA:=St→Hp→(List V→Hp→Prop)→Prop
structure Ends where
 nx:St→Hp→Prop
 rt:VK
 bk:St→Hp→Prop:=λ_ _=>False
 ct:St→Hp→Prop:=λ_ _=>False
abbrev TS:=Ends→St→Hp→Prop
def EP(X:Cx)(pins:List (Addr×Obj))(σ:St)(Q:VK)(u:Value)(s':Shared):Prop:=∃v H',Inv X pins σ H' s'∧aA v u∧Q v H'
def TP(X:Cx)(pins:List (Addr×Obj))(σ:St)(Q:Bool→Hp→Prop)(b:Bool)(s':Shared):Prop:=∃H',Inv X pins σ H' s'∧Q b H'
def AP(X:Cx)(pins:List (Addr×Obj))(σ:St)(Q:List V→Hp→Prop)(us:List Value)(s':Shared):Prop:=∃vs H',Inv X pins σ H' s'∧aw vs us∧Q vs H'
def SP(X:Cx)(pins:List (Addr×Obj))(D:Ends)(f:Flow)(s':Shared):Prop :=
 match f with
 |.next=>∃σ' H',Inv X pins σ' H' s'∧D.nx σ' H'
 |.brk=>∃σ' H',Inv X pins σ' H' s'∧D.bk σ' H'
 |.cont=>∃σ' H',Inv X pins σ' H' s'∧D.ct σ' H'
 |.ret u=>∃v σ' H',Inv X pins σ' H' s'∧aA v u∧D.rt v H'
def PE(X:Cx)(e:Expr)(t:TE):Prop :=
 ∀(pins:List (Addr×Obj))(s:Shared)(σ:St)(H:Hp)(Q:VK),Inv X pins σ H s→t σ H Q→wpAny (model X.prog X.w) X.A (eval e X.env) (EP X pins σ Q) X.xe s
def PT(X:Cx)(e:Expr)(t:TT):Prop :=
 ∀(pins:List (Addr×Obj))(s:Shared)(σ:St)(H:Hp)(Q:Bool→Hp→Prop),Inv X pins σ H s→t σ H Q→wpAny (model X.prog X.w) X.A (isTrue e X.env (eval e X.env)) (TP X pins σ Q) X.xe s
def PW(X:Cx)(e:Expr)(t:TT):Prop :=
 ∀(whole:Sem Value)(pins:List (Addr×Obj))(s:Shared)(σ:St)(H:Hp)(Q:Bool→Hp→Prop),Inv X pins σ H s→t σ H Q→wpAny (model X.prog X.w) X.A (isTrue e X.env whole) (TP X pins σ Q) X.xe s
theorem PW.pt{X:Cx}{e:Expr}{t:TT}(h:PW X e t):PT X e t:=h _
def PA(X:Cx)(es:List Expr)(t:TA):Prop :=
 ∀(pos:Pos)(pins:List (Addr×Obj))(s:Shared)(σ:St)(H:Hp)(Q:List V→Hp→Prop),Inv X pins σ H s→t σ H Q→wpAny (model X.prog X.w) X.A (spliced (backTo pos (starEach es X.env))) (AP X pins σ Q) X.xe s
def PS(X:Cx)(st:Stmt)(t:TS):Prop :=
 ∀(pins:List (Addr×Obj))(s:Shared)(σ:St)(H:Hp)(D:Ends),Inv X pins σ H s→t D σ H→wpAny (model X.prog X.w) X.A (exec st X.env) (SP X pins D) X.xe s
def PSs(X:Cx)(st:List Stmt)(t:TS):Prop :=
 ∀(pins:List (Addr×Obj))(s:Shared)(σ:St)(H:Hp)(D:Ends),Inv X pins σ H s→t D σ H→wpAny (model X.prog X.w) X.A (execs st X.env) (SP X pins D) X.xe s
theorem thn{α:Type}{t:Sem α}{Q Q':α→Shared→Prop}{M:Model}{A:Around}{E:Value→Shared→Prop}{s:Shared}(h:wpAny M A t Q E s)(hQ:∀a s,Q a s→Q' a s):wpAny M A t Q' E s:=wpAny_mono h hQ λ_ _ x=>x
section
variable{X:Cx}
def gY(i:Nat):TE:=λσ H Q=>∃v,σ[i]?=some (some v)∧Q v H
def tC(v:V):TE:=λ_ H Q=>Q v H
theorem xl{i:Nat}{x:Str}{pos:Pos}(hN:X.N[i]?=some x)(hv:Vis X.env.scope x)(hd:(x==("__debug__":Str))=false:=by decide)(hcd:(x==("__classdict__":Str))=false:=by decide):PE X (.Name x pos) (gY i):=by
 intro pins s σ H Q I h;obtain⟨v,e,h⟩:=h;obtain⟨m,hn,hl⟩:=I.loc;obtain⟨u,r,l⟩:=hl i x v hN e hv;have fin:EP X pins σ Q u s:=⟨v,H,I,r,h⟩;rcases l with⟨hk,hm⟩|⟨hk,c,hc,hcell⟩
 ·exact wpAny_Name (wpAny_loadName_local I.ok.kind hk hn hm fin) hd
 ·rcases hk with hk|hk
  ·exact wpAny_Name (wpAny_loadName_cell I.ok.kind hk hc hcell fin) hd
  ·exact wpAny_Name (wpAny_loadName_free I.ok.kind hk hc hcell fin hcd) hd
theorem ak{i j pos}:PE X (.Constant (.int i) j pos) (tC (.int i)):=λ_ _ _ H _ I h=>wpAny_Constant_int ⟨.int i,H,I.tok _,⟨_,rfl⟩,h⟩
theorem ir{b j pos}:PE X (.Constant (.bool b) j pos) (tC (.bl b)):=λ_ _ _ H _ I h=>Constant_bool ⟨.bl b,H,I,rfl,h⟩
theorem dU{j pos}:PE X (.Constant .none j pos) (tC .non):=λ_ _ _ H _ I h=>Constant_none ⟨.non,H,I,rfl,h⟩
theorem au{x j pos}:PE X (.Constant (.str x) j pos) (tC (.str x)):=λ_ _ _ H _ I h=>Constant_str ⟨.str x,H,I.tok _,⟨_,rfl⟩,h⟩
def Gl(X:Cx)(x:Str):Prop:=X.env.kindOf x=some .globalImplicit
theorem eZ{E:Value→Shared→Prop}{pins:List (Addr×Obj)}{s:Shared}{σ:St}{H:Hp}{x:Str}{u:Value}{pos:Pos}{Q:Value→Shared→Prop}(I:Inv X pins σ H s)(hg:Gl X x)(hm:X.mg x=some u)(h:Q u s)(hd:(x==("__debug__":Str))=false:=by decide):wpAny (model X.prog X.w) X.A (eval (.Name x pos) X.env) Q E s :=
 Calls.Name_function_global I.ok.kind hg (Calls.loadGlobal_global (by rw[I.ok.glob];exact I.mod.glob.keeps I.bk) hm h) hd
theorem kR{E:Value→Shared→Prop}{pins:List (Addr×Obj)}{s:Shared}{σ:St}{H:Hp}{x:Str}{u:Value}{pos:Pos}{Q:Value→Shared→Prop}(I:Inv X pins σ H s)(hg:Gl X x)(hm:X.mg x=none)(hv:bootBuiltins x=some u)(h:Q u s)(hn:x≠"__name__":=by decide)(hd:(x==("__debug__":Str))=false:=by decide):wpAny (model X.prog X.w) X.A (eval (.Name x pos) X.env) Q E s:=by
 obtain⟨mb,h1,h2⟩:=I.mod.blt;exact Calls.Name_function_global I.ok.kind hg (Calls.loadGlobal_builtin (by rw[I.ok.glob];exact I.mod.glob.keeps I.bk) hm (by rw[I.ok.blt];exact h1.keeps I.bk) ((h2 x hn).trans hv) h) hd
theorem bg{x:Str}{v:V}{u:Value}{pos:Pos}(hg:Gl X x)(hm:X.mg x=some u)(r:aA v u)(hd:(x==("__debug__":Str))=false:=by decide):PE X (.Name x pos) (tC v) :=
 λ_ _ _ H _ I h=>eZ I hg hm ⟨v,H,I,r,h⟩ hd
theorem kS{x:Str}{v:V}{u:Value}{pos:Pos}(hg:Gl X x)(hm:X.mg x=none)(hv:bootBuiltins x=some u)(r:aA v u)(hn:x≠"__name__":=by decide)(hd:(x==("__debug__":Str))=false:=by decide):PE X (.Name x pos) (tC v) :=
 λ_ _ _ H _ I h=>kR I hg hm hv ⟨v,H,I,r,h⟩ hn hd
variable{a b:Expr}{ta tb:TE}{pos:Pos}
def PC(X:Cx)(op:CmpOp)(a b:Expr)(t:TE):Prop :=
 ∀(pins:List (Addr×Obj))(s:Shared)(σ:St)(H:Hp)(Q:VK),Inv X pins σ H s→t σ H Q →
  wpAny (model X.prog X.w) X.A (eval a X.env) (λv s₁=>wpAny (model X.prog X.w) X.A (eval b X.env) (λu s₂=>wpAny (model X.prog X.w) X.A (compareOp op v u) (EP X pins σ Q) X.xe s₂) X.xe s₁) X.xe s
def tB(t:TE):TT:=λσ H Q=>t σ H λx H1=>∃c,x=.bl c∧Q c H1
theorem xm{op:CmpOp}{t:TE}(h:PC X op a b t)(h1:behindInMarks op b=false:=by first|exact nobehind _ (by decide) (by decide)|rfl):PE X (.Compare a [op] [b] pos) t:=λpins s σ H Q I hw=>wpAny_Compare1 (h pins s σ H Q I hw) h1
theorem gZ{op:CmpOp}{t:TE}(h:PC X op a b t)(h1:behindInMarks op b=false:=by first|exact nobehind _ (by decide) (by decide)|rfl):PT X (.Compare a [op] [b] pos) (tB t):=by
 intro pins s σ H Q I hw;refine wpAny_isTrue_Compare1 (thn (h pins s σ H _ I hw) λv s1 h1=>thn h1 λu s2 h2=>thn h2 λc s3 ⟨x,H1,I1,r1,q1⟩=>?_) h1;obtain⟨d,rfl,q⟩:=q1;cases r1;exact wpAny_truthy_bool ⟨H1,I1,q⟩
theorem fz{e:Expr}{t:TE}(h:PE X e t)(he:∀whole,isTrue e X.env whole=(do let v ← whole;standAt e.pos;holding [v] (truthy v)):=by intro _;rfl):PT X e (tB t):=by
 intro pins s σ H Q I hw;refine isTrue_plain (thn (h pins s σ H _ I hw) λv s1 ⟨x,H1,I1,r1,q1⟩=>?_) (he _);obtain⟨d,rfl,q⟩:=q1;cases r1;exact wpAny_truthy_bool ⟨H1,I1,q⟩
variable{tA tB':TT}{rest:List Expr}
def zX(t u:TT):TT:=λσ H Q=>t σ H λc H1=>if c=true then u σ H1 Q else Q false H1
def tOr(t u:TT):TT:=λσ H Q=>t σ H λc H1=>if c=true then Q true H1 else u σ H1 Q
def zY(t:TT):TT:=λσ H Q=>t σ H λc H1=>Q (!c) H1
theorem pw_and1(ha:PT X a tA):PW X (.BoolOp .And [a] pos) tA:=by
 intro wh pins s σ H Q I h;refine isTrue_and (thn (ha pins s σ H Q I h) λc s1 e=>?_);cases c with
 |true=>exact isTrue_and_nil e
 |false=>exact e
theorem pw_or1(ha:PT X a tA):PW X (.BoolOp .Or [a] pos) tA:=by
 intro wh pins s σ H Q I h;refine isTrue_or (thn (ha pins s σ H Q I h) λc s1 e=>?_);cases c with
 |false=>exact isTrue_or_nil e
 |true=>exact e
theorem pw_and(ha:PT X a tA)(hb:PW X (.BoolOp .And (b::rest) pos) tB'):PW X (.BoolOp .And (a::b::rest) pos) (zX tA tB'):=by
 intro wh pins s σ H Q I h;refine isTrue_and (thn (ha pins s σ H _ I h) λc s1 hpt=>?_);obtain⟨H1,I1,q1⟩:=hpt;cases c with
 |true=>exact hb wh pins s1 σ H1 Q I1 q1
 |false=>exact⟨H1,I1,q1⟩
theorem pw_or(ha:PT X a tA)(hb:PW X (.BoolOp .Or (b::rest) pos) tB'):PW X (.BoolOp .Or (a::b::rest) pos) (tOr tA tB'):=by
 intro wh pins s σ H Q I h;refine isTrue_or (thn (ha pins s σ H _ I h) λc s1 hpt=>?_);obtain⟨H1,I1,q1⟩:=hpt;cases c with
 |true=>exact⟨H1,I1,q1⟩
 |false=>exact hb wh pins s1 σ H1 Q I1 q1
theorem dW(ha:PT X a tA):PT X (.UnaryOp .Not a pos) (zY tA):=by
 intro pins s σ H Q I h;exact isTrue_not (ha pins s σ H (λc H1=>Q (!c) H1) I h)
def yT(ta tb:TE):TE:=λσ H Q=>ta σ H λx H1=>∃c,x=.bl c∧if c=true then tb σ H1 Q else Q (.bl false) H1
theorem xn{op}{t:TE}(h:PE X a t):PE X (.BoolOp op [a] pos) t:=λpins s σ H Q I hw=>BoolOp_one (h pins s σ H Q I hw)
theorem xo(ha:PE X a ta)(hb:PE X (.BoolOp .And (b::rest) pos) tb):PE X (.BoolOp .And (a::b::rest) pos) (yT ta tb):=by
 intro pins s σ H Q I h;refine BoolOp_and (thn (ha pins s σ H _ I h) λv s1 hpt=>?_);obtain⟨x,H1,I1,r1,q1⟩:=hpt;obtain⟨c,rfl,q1⟩:=q1;cases r1;refine wpAny_truthy_bool ?_;cases c with
 |true=>exact hb pins s1 σ H1 Q I1 q1
 |false=>exact⟨.bl false,H1,I1,rfl,q1⟩
def tIf(t:TT)(ta tb:TE):TE:=λσ H Q=>t σ H λc H1=>if c=true then ta σ H1 Q else tb σ H1 Q
theorem rF{c:Expr}(hc:PT X c tA)(ha:PE X a ta)(hb:PE X b tb):PE X (.IfExp c a b pos) (tIf tA ta tb):=by
 intro pins s σ H Q I h;refine wpAny_IfExp (thn (hc pins s σ H _ I h) λd s1 hpt=>?_);obtain⟨H1,I1,q1⟩:=hpt;cases d with
 |true=>exact ha pins s1 σ H1 Q I1 q1
 |false=>exact hb pins s1 σ H1 Q I1 q1
end
def SqL(K:PySem.W.Frag)(H:Hp)(a:Addr)(xs:List V):Prop :=
 Rd H a (.lst xs) ∨
  ∃(o:Obj) (its:Array Value) (n:Nat),K.lookup a=some o∧o.cls=.type "list"∧o.dict=none∧o.data=.seq its n∧its.size≤sizeLine∧aw xs its.toList
def SqT(K:PySem.W.Frag)(H:Hp)(a:Addr)(xs:List V):Prop :=
 Rd H a (.tup xs) ∨
  ∃(o:Obj) (its:Array Value) (n:Nat),K.lookup a=some o∧o.cls=.type "tuple"∧o.data=.seq its n∧its.size≤sizeLine∧aw xs its.toList
def zZ:Value→Option V
 |.none=>some .non
 |.bool b=>some (.bl b)
 |.int i _=>some (.int i)
 |.str x _=>some (.str x)
 |.bytes b _=>some (.byt b)
 |.float b _=>some (.flt b)
 |.ref a=>some (.ref a)
 |.type n=>some (.ty n)
 |_=>none
theorem aA.abs{x:V}{u:Value}(r:aA x u):zZ u=some x:=by
 cases x with
 |non=>cases r;rfl
 |bl _=>cases r;rfl
 |int _=>obtain⟨t,rfl⟩:=r;rfl
 |str _=>obtain⟨t,rfl⟩:=r;rfl
 |byt _=>obtain⟨t,rfl⟩:=r;rfl
 |flt _=>obtain⟨t,rfl⟩:=r;rfl
 |ref _=>cases r;rfl
 |ty _=>cases r;rfl
theorem aA.inj{x y:V}{u:Value}(r:aA x u)(q:aA y u):x=y:=Option.some.inj (r.abs.symm.trans q.abs)
theorem aw.inj:∀{xs ys:List V}{us:List Value},aw xs us→aw ys us→xs=ys
 |_,_,_,.nil,.nil=>rfl
 |_,_,_,.cons r t,.cons r' t'=>by rw[r.inj r',aw.inj t t']
section
variable{X:Cx}{pins:List (Addr×Obj)}{σ:St}{H:Hp}{s:Shared}{a:Addr}{xs ys:List V}
theorem SqL.of{K:PySem.W.Frag}(h:H a=some (.lst xs)):SqL K H a xs:=.inl (.inl h)
theorem SqT.of{K:PySem.W.Frag}(h:H a=some (.tup xs)):SqT K H a xs:=.inl (.inl h)
theorem Inv.list(I:Inv X pins σ H s)(h:SqL X.K H a xs):∃its:List Value,aw xs its∧PlainL s.heap a its.toArray∧xs.length≤sizeLine:=by
 rcases h with h|⟨o,its,n,hk,hc,hd,hs,hz,r⟩
 ·obtain⟨z,its,n,r,e⟩:=h.ok I.hok;exact⟨its,r,⟨_,n,e,rfl,rfl,rfl⟩,z⟩
 ·refine⟨its.toList,r,⟨o,n,I.kIn a o hk,hc,hd,by simpa using hs⟩,?_⟩
  have e:=r.length;simp only[length_toList]at e;omega
theorem Inv.tuple(I:Inv X pins σ H s)(h:SqT X.K H a xs):∃its:List Value,aw xs its∧IsTup s.heap a its.toArray∧xs.length≤sizeLine:=by
 rcases h with h|⟨o,its,n,hk,hc,hs,hz,r⟩
 ·obtain⟨z,its,r,p⟩:=h.ok I.hok;exact⟨its,r,p,z⟩
 ·refine⟨its.toList,r,⟨o,I.kIn a o hk,hc,n,by simpa using hs⟩,?_⟩
  have e:=r.length;simp only[length_toList]at e;omega
theorem Inv.list_inj(I:Inv X pins σ H s)(h:SqL X.K H a xs)(h':SqL X.K H a ys):xs=ys:=by
 obtain⟨its,r,⟨o,n,e,_,_,d⟩,_⟩:=I.list h;obtain⟨its',r',⟨o',n',e',_,_,d'⟩,_⟩:=I.list h';rw[e]at e';cases e';rw[d]at d';injection d' with d1 _
 have:its=its':=by simpa using congrArg toList d1
 subst this;exact r.inj r'
theorem Inv.tuple_inj(I:Inv X pins σ H s)(h:SqT X.K H a xs)(h':SqT X.K H a ys):xs=ys:=by
 obtain⟨its,r,⟨o,e,_,n,d⟩,_⟩:=I.tuple h;obtain⟨its',r',⟨o',e',_,n',d'⟩,_⟩:=I.tuple h';rw[e]at e';cases e';rw[d]at d';injection d' with d1 _
 have:its=its':=by simpa using congrArg toList d1
 subst this;exact r.inj r'
end
abbrev Cx.wish(X:Cx)(E:Value→Shared→Prop):Cx:={X with xe:=E}
abbrev Cx.nox(X:Cx):Cx:=X.wish λ_ _=>False
theorem Cx.Ok.wish{X:Cx}(ok:X.Ok)(E:Value→Shared→Prop):(X.wish E).Ok :=
 ⟨ok.mod,ok.kind,ok.glob,ok.blt,ok.above,ok.inj,ok.has,ok.cab,ok.hd,ok.frames,ok.stk,ok.exf,ok.bs,ok.bsz,ok.noex,ok.exfs,ok.funs,ok.frf⟩
theorem Cx.Ok.unwish{X:Cx}{E:Value→Shared→Prop}(ok:(X.wish E).Ok):X.Ok :=
 ⟨ok.mod,ok.kind,ok.glob,ok.blt,ok.above,ok.inj,ok.has,ok.cab,ok.hd,ok.frames,ok.stk,ok.exf,ok.bs,ok.bsz,ok.noex,ok.exfs,ok.funs,ok.frf⟩
section
variable{X:Cx}{pins:List (Addr×Obj)}{σ:St}{H:Hp}{s:Shared}{E:Value→Shared→Prop}
theorem Inv.wish(I:Inv X pins σ H s)(E:Value→Shared→Prop):Inv (X.wish E) pins σ H s:=⟨I.ok.wish E,I.os,I.bare,I.base,I.loc,I.cell,I.free,I.freeC,I.pin,I.hok,I.len⟩
theorem Inv.unwish(I:Inv (X.wish E) pins σ H s):Inv X pins σ H s:=⟨I.ok.unwish,I.os,I.bare,I.base,I.loc,I.cell,I.free,I.freeC,I.pin,I.hok,I.len⟩
theorem SP.unwish{D:Ends}{f:Flow}{s':Shared}(h:SP (X.wish E) pins D f s'):SP X pins D f s':=by
 cases f with
 |next=>obtain⟨σ',H',I,q⟩:=h;exact⟨σ',H',I.unwish,q⟩
 |brk=>obtain⟨σ',H',I,q⟩:=h;exact⟨σ',H',I.unwish,q⟩
 |cont=>obtain⟨σ',H',I,q⟩:=h;exact⟨σ',H',I.unwish,q⟩
 |ret u=>obtain⟨v,σ',H',I,r,q⟩:=h;exact⟨v,σ',H',I.unwish,r,q⟩
theorem PSs.nox{st:List Stmt}{t:TS}(h:PSs X.nox st t):PSs X st t:=λpins s σ H D I hw =>
 wpAny_mono (h pins s σ H D (I.wish _) hw) (λ_ _ q=>q.unwish) λ_ _ z=>False.elim z
end
section
variable{X:Cx}{st:Stmt}{rest:List Stmt}{t u:TS}{e:Expr}{te:TE}{pos:Pos}
def yU:TS:=λD σ H=>D.nx σ H
def fA(t u:TS):TS:=λD σ H=>t {D with nx:=u D} σ H
theorem aJ:PSs X [] yU:=λ_ _ σ H _ I h=>wpAny_execs_nil ⟨σ,H,I,h⟩
theorem ag(h1:PS X st t)(h2:PSs X rest u):PSs X (st::rest) (fA t u):=by
 intro pins s σ H D I h;refine wpAny_execs_cons (thn (h1 pins s σ H {D with nx:=u D} I h) λf s1 q=>?_);cases f with
 |next =>
  obtain⟨σ',H',I',q⟩:=q;exact h2 pins s1 σ' H' D I' q
 |ret v=>exact q
 |brk=>exact q
 |cont=>exact q
theorem am(h1:PS X st t):PSs X [st] t:=by
 intro pins s σ H D I h;refine wpAny_execs_cons (thn (h1 pins s σ H D I h) λf s1 q=>?_);cases f with
 |next=>exact wpAny_execs_nil q
 |ret v=>exact q
 |brk=>exact q
 |cont=>exact q
theorem Inv.quiet{pins:List (Addr×Obj)}{σ:St}{H:Hp}{s:Shared}(I:Inv X pins σ H s):interactive X.env=false:=by simp[interactive,I.ok.kind]
def wK(te:TE):TS:=λD σ H=>te σ H λ_ H1=>D.nx σ H1
theorem aB(he:PE X e te)(hs:swapsWith e none pos.line X.env=pure false:=by rfl):PS X (.Expr e pos) (wK te):=by
 intro pins s σ H D I h;exact wpAny_Expr_any (thn (he pins s σ H _ I h) λv s1 ⟨x,H1,I1,r1,q1⟩=>⟨σ,H1,I1,q1⟩) I.quiet hs
def xp(te:TE):TS:=λD σ H=>te σ H D.rt
theorem ay(he:PE X e te):PS X (.Return (some e) pos) (xp te):=by
 intro pins s σ H D I h;exact wpAny_Return_some (thn (he pins s σ H _ I h) λv s1 ⟨x,H1,I1,r1,q1⟩=>⟨x,σ,H1,I1,r1,q1⟩)
def Aa(c:TT)(t u:TS):TS:=λD σ H=>c σ H λb H1=>if b=true then t D σ H1 else u D σ H1
theorem bw{c:Expr}{a b:List Stmt}{tc:TT}(hc:PT X c tc)(ha:PSs X a t)(hb:PSs X b u):PS X (.If c a b pos) (Aa tc t u):=by
 intro pins s σ H D I h;refine wpAny_If (thn (hc pins s σ H _ I h) λd s1 hpt=>?_);obtain⟨H1,I1,q1⟩:=hpt;cases d with
 |true=>exact ha pins s1 σ H1 D I1 q1
 |false=>exact hb pins s1 σ H1 D I1 q1
def rG:TS:=λ_ _ _=>False
theorem rH:PS X st rG:=λ_ _ _ _ _ _ h=>h.elim
theorem dc{sts:List Stmt}:PSs X sts rG:=λ_ _ _ _ _ _ h=>h.elim
end
abbrev TG:=V→St→Hp→(St→Hp→Prop)→Prop
def PG(X:Cx)(target:Expr)(t:TG):Prop :=
 ∀(pins:List (Addr×Obj))(s:Shared)(σ:St)(H:Hp)(v:V)(u:Value)(Q:St→Hp→Prop),Inv X pins σ H s→aA v u→t v σ H Q →
  wpAny (model X.prog X.w) X.A (assign target X.env u) (λ_ s'=>∃σ' H',Inv X pins σ' H' s'∧Q σ' H') X.xe s
section
variable{X:Cx}{pos:Pos}
def cm(i:Nat):TG:=λv σ H Q=>Q (σ.set i (some v)) H
theorem ci{i:Nat}{x:Str}(hN:X.N.Nodup)(hi:X.N[i]?=some x)(hx:Loc X.env.scope x)(hf:X.fn x=true∨X.env.scope.names.lookup x=some .local:=by first|exact .inl rfl|exact .inr rfl|assumption):PG X (.Name x pos) (cm i):=by
 intro pins s σ H v u Q I r h;exact wpAny_assign_Name (iP I hN hi hx r (λs' I'=>⟨_,H,I',h⟩) hf)
def nV(te:TE)(g:TG):TS:=λD σ H=>te σ H λx H1=>g x σ H1 D.nx
theorem aM{i:Nat}{x:Str}{e:Expr}{te:TE}{pos':Pos}(hN:X.N.Nodup)(hi:X.N[i]?=some x)(hx:Loc X.env.scope x)(he:PE X e te)(hs:swapsWith e (some (.Name x pos')) pos.line X.env=pure false:=by rfl)(hf:X.fn x=true∨X.env.scope.names.lookup x=some .local:=by first|exact .inl rfl|exact .inr rfl|assumption):
  PS X (.Assign [.Name x pos'] e pos) (nV te (cm i)):=by
 intro pins s σ H D I h;refine wpAny_Assign_Name (thn (he pins s σ H _ I h) λv s1 ⟨y,H1,I1,r1,q1⟩=>?_) hs;exact iP I1 hN hi hx r1 (λs2 I2=>⟨_,H1,I2,q1⟩) hf
def rJ(c:TT)(tb:TS):TS:=λD σ H=>∃W:Nat→St→Hp→Prop,(∃m,W m σ H)∧∀m σ H,W m σ H →
 c σ H λb H1=>if b=true then ∃N:St→Hp→Prop,(∀σ' H',N σ' H'→∃m',m'<m∧W m' σ' H')∧tb {D with nx:=N,ct:=N,bk:=D.nx} σ H1 else D.nx σ H1
theorem rK{c:Expr}{body:List Stmt}{tc:TT}{tb:TS}(hp:PassesOwn (model X.prog X.w) X.A X.env X.xe)(hc:PT X c tc)(hb:PSs X body tb):PS X (.While c body [] pos) (rJ tc tb):=by
 intro pins s σ H D I h;obtain⟨W,⟨m0,w0⟩,turn⟩:=h;refine wpAny_While (codeAny_whileLoop (λn s'=>∃σ' H',Inv X pins σ' H' s'∧W n σ' H') ?_ m0 ⟨σ,H,I,w0⟩);rintro n s1 ⟨σ1,H1,I1,w1⟩;refine wpAny_passesOwn hp (thn (hc pins s1 σ1 H1 _ I1 (turn n σ1 H1 w1)) λb s2 hpt=>?_);obtain⟨H2,I2,q2⟩:=hpt;cases b with
 |true =>
  obtain⟨N,hN,q2⟩:=q2;rw[if_pos rfl];refine wpAny_passesOwn hp (thn (hb pins s2 σ1 H2 _ I2 q2) λf s3 q3=>?_);cases f with
  |next =>
   obtain⟨σ3,H3,I3,n3⟩:=q3;obtain⟨m',hm,w3⟩:=hN σ3 H3 n3;exact⟨m',hm,σ3,H3,I3,w3⟩
  |cont =>
   obtain⟨σ3,H3,I3,n3⟩:=q3;obtain⟨m',hm,w3⟩:=hN σ3 H3 n3;exact⟨m',hm,σ3,H3,I3,w3⟩
  |brk=>exact q3
  |ret v=>exact q3
 |false =>
  rw[if_neg Bool.false_ne_true];exact wpAny_execs_nil ⟨σ1,H2,I2,q2⟩
end
structure It where
 go:Nat→Hp→Prop
 yld:Nat→Hp→V→Hp→Prop
 stop:Nat→Hp→Prop
def hJ(X:Cx)(pins:List (Addr×Obj))(H:Hp)(b:Addr):Prop :=
 H b=none∧b≠X.env.locals∧b∉X.fs∧(b∈X.ex∨X.s₀.heap.objs.size≤b)∧(∀x c,X.env.cells.lookup x=some c→c≠b)∧∀p∈X.pn++pins,p.1≠b
theorem Inv.fpOk{X:Cx}{pins:List (Addr×Obj)}{σ:St}{H H':Hp}{s:Shared}{b:Addr}(I:Inv X pins σ H s)(hb:s.heap.objs.size≤b)(hn:H' b=none):hJ X pins H' b:=by
 refine⟨hn,ne_of_gt (lt_of_lt_of_le I.lt hb),I.nofs hb,.inr (le_trans I.sz hb),λx c e z=>?_,λp hp z=>?_⟩
 ·obtain⟨v,q⟩:=I.cell x c e;exact absurd (lt_of_lt_of_le q.lt (by rw[z];exact hb)) (lt_irrefl _)
 ·exact absurd (lt_of_lt_of_le (lt_size (I.pin p hp).1) (by rw[z];exact hb)) (lt_irrefl _)
structure Turn(P:Program)(w:World)(K:PySem.W.Frag)(tg:Expr)(J:It)(fp:List Addr)(it:Addr)(tn:Nat→Heap→Prop):Prop where
 mem:it∈fp
 obj:∀i h,tn i h→∀b∈fp,∃o,h.get? b=some o∧∀v,o.data≠.cell v
 keep:∀i h h',tn i h→(∀b∈fp,∀o,h.get? b=some o→h'.get? b=some o)→tn i h'
 item:∀(X:Cx),X.prog=P→X.w=w→X.K=K→X.calm=true→∀(i:Nat)(pins:List (Addr×Obj))(s:Shared)(σ:St)(H:Hp)(E:Value→Shared→Prop),Inv X pins σ H s→(∀b∈fp,hJ X pins H b)→tn i s.heap→J.go i H →
  wpAny (model P w) X.A (pyNext (.ref it)) (λr s1=>∃u,r=some u ∧
   wpAny (model P w) X.A (letOwnedTupleGo tg (.ref it) u) (λ_ s2=>∃x H',Inv X pins σ H' s2∧aA x u∧J.yld i H x H'∧tn (i+1) s2.heap∧∀b∈fp,H' b=none) E s1) E s
 done:∀(X:Cx),X.prog=P→X.w=w→X.K=K→X.calm=true→∀(i:Nat)(pins:List (Addr×Obj))(s:Shared)(σ:St)(H:Hp)(E:Value→Shared→Prop),Inv X pins σ H s→(∀b∈fp,hJ X pins H b)→tn i s.heap→J.stop i H →
  wpAny (model P w) X.A (pyNext (.ref it)) (λr s1=>r=none∧Inv X pins σ H s1) E s
 self:∀(A:Around)(i:Nat)(s:Shared)(Q:Value→Shared→Prop)(E:Value→Shared→Prop),tn i s.heap→Q (.ref it) s→wpAny (model P w) A (pyIter (.ref it)) Q E s
abbrev TI:=St→Hp→(It→Hp→Prop)→Prop
def PIE(X:Cx)(pins:List (Addr×Obj))(σ:St)(tg:Expr)(R:It→Hp→Prop)(itv:Value)(s2:Shared):Prop :=
 ∃(it:Addr) (fp:List Addr) (tn:Nat→Heap→Prop) (J:It) (H':Hp),itv=.ref it∧Inv X pins σ H' s2∧Turn X.prog X.w X.K tg J fp it tn∧tn 0 s2.heap∧(∀b∈fp,hJ X pins H' b)∧R J H'
def PI(X:Cx)(tg iter:Expr)(wi:TI):Prop :=
 ∀(pins:List (Addr×Obj))(s:Shared)(σ:St)(H:Hp)(R:It→Hp→Prop),Inv X pins σ H s→wi σ H R →
  wpAny (model X.prog X.w) X.A (eval iter X.env) (λv s1=>wpAny (model X.prog X.w) X.A (pyIter v) (PIE X pins σ tg R) X.xe s1) X.xe s
theorem py{M:Model}{A:Around}{E:Value→Shared→Prop}{s:Shared}{tg:Expr}{it:Addr}{u:Value}{o:Obj}{n:String}{vs:Array Value}{Q:Unit→Shared→Prop}(ho:s.heap.get? it=some o)(hc:o.cls=.type n)(hd:o.data=.fields vs)(hn:["enumerate","zip","dict_itemiterator","dict_reverseitemiterator","odict_iterator","itertools.zip_longest","itertools.pairwise"].contains n=false)(hQ:Q () s):wpAny M A (letOwnedTupleGo tg (.ref it) u) Q E s:=by
 unfold letOwnedTupleGo;cases tg<;>first
  |exact wpAny_pure hQ
  | (cases u<;>first
    |exact wpAny_pure hQ
    | (refine wpAny_bind (wpAny_load ho ?_)
       rw[hc,hd];show wpAny M A (if (["enumerate","zip","dict_itemiterator","dict_reverseitemiterator","odict_iterator","itertools.zip_longest","itertools.pairwise"].contains n&&vs[0]?==some (rawInt _))=true then _ else _) Q E s
       rw[if_neg (by intro h;rw[hn,Bool.false_and]at h;cases h)];exact wpAny_pure hQ))
def Itl(K:PySem.W.Frag)(a:Addr):It :=
 ⟨λi H=>∃xs x,SqL K H a xs∧xs[i]?=some x,λi H x H'=>H'=H∧∀xs,SqL K H a xs→xs[i]?=some x,λi H=>∃xs,SqL K H a xs∧xs.length≤i⟩
def Itt(K:PySem.W.Frag)(a:Addr):It :=
 ⟨λi H=>∃xs x,SqT K H a xs∧xs[i]?=some x,λi H x H'=>H'=H∧∀xs,SqT K H a xs→xs[i]?=some x,λi H=>∃xs,SqT K H a xs∧xs.length≤i⟩
def Itr(lo:Int)(n:Nat):It:=⟨λi _=>i<n,λi H x H'=>H'=H∧x=.int (lo+i),λi _=>n≤i⟩
theorem qz{P:Program}{w:World}{K:PySem.W.Frag}{tg:Expr}(a it:Addr):Turn P w K tg (Itl K a) [it] it (λi h=>h.IsListIter it a i) where
 mem:=by simp
 obj:=λi h st b hb=>by
  have e:b=it:=by simpa using hb
  subst e;obtain⟨o,e,c,d⟩:=st;exact⟨o,e,λv z=>by rw[d]at z;cases z⟩
 keep:=λi h h' st k=>st.at λo e=>k it (by simp) o e
 item:=by
  intro X hP hw hK hc i pins s σ H E I hf st hg;subst hP hw hK;obtain⟨xs,x,hq,hx⟩:=hg;obtain⟨its,rv,p,hz⟩:=I.list hq;obtain⟨u,hu,ru⟩:=rv.get hx;obtain⟨f0,f1,f2,f3,f4,f5⟩:=hf it (by simp);refine wpAny_pyNext_list_item st p.isList (x:=u) (by simpa using hu) λh' st' sb=>?_;have I1:Inv X pins σ H {s with heap:=h'}:=I.turned (t':=s.toks) (λb o hb e=>(sb.2 b hb).trans e) f0 f1 f3 f4 f5
  obtain⟨o,e,c,d⟩:=id st';exact⟨u,rfl,py (s:={s with heap:=h'}) e c d (by decide) ⟨x,H,I1,ru,⟨rfl,λys hy=>by rw[I.list_inj hy hq];exact hx⟩,st',λb hb=>(hf b hb).1⟩⟩
 done:=by
  intro X hP hw hK hc i pins s σ H E I hf st hg;subst hP hw hK;obtain⟨xs,hq,hx⟩:=hg;obtain⟨its,rv,p,hz⟩:=I.list hq;obtain⟨f0,f1,f2,f3,f4,f5⟩:=hf it (by simp);have hl:=rv.length;exact wpAny_pyNext_list_end (I.ok.hd hc) st p.isList (by simp;omega) λh' eb=>⟨rfl,I.turned (t':=s.toks) (λb o hb e=>eb b o hb e) f0 f1 f3 f4 f5⟩
 self:=λ_ _ _ _ _ st h=>wpAny_pyIter_listiter st h
theorem nW{P:Program}{w:World}{K:PySem.W.Frag}{tg:Expr}(a it:Addr):Turn P w K tg (Itt K a) [it] it (λi h=>h.IsTupleIter it a i) where
 mem:=by simp
 obj:=λi h st b hb=>by
  have e:b=it:=by simpa using hb
  subst e;obtain⟨o,e,c,d⟩:=st;exact⟨o,e,λv z=>by rw[d]at z;cases z⟩
 keep:=λi h h' st k=>st.at λo e=>k it (by simp) o e
 item:=by
  intro X hP hw hK hc i pins s σ H E I hf st hg;subst hP hw hK;obtain⟨xs,x,hq,hx⟩:=hg;obtain⟨its,rv,p,hz⟩:=I.tuple hq;obtain⟨u,hu,ru⟩:=rv.get hx;obtain⟨f0,f1,f2,f3,f4,f5⟩:=hf it (by simp);refine wpAny_pyNext_tuple_item st (show s.heap.IsTuple a its.toArray from p) (x:=u) (by simpa using hu) λh' st' sb=>?_;have I1:Inv X pins σ H {s with heap:=h'}:=I.turned (t':=s.toks) (λb o hb e=>(sb.2 b hb).trans e) f0 f1 f3 f4 f5
  obtain⟨o,e,c,d⟩:=id st';exact⟨u,rfl,py (s:={s with heap:=h'}) e c d (by decide) ⟨x,H,I1,ru,⟨rfl,λys hy=>by rw[I.tuple_inj hy hq];exact hx⟩,st',λb hb=>(hf b hb).1⟩⟩
 done:=by
  intro X hP hw hK hc i pins s σ H E I hf st hg;subst hP hw hK;obtain⟨xs,hq,hx⟩:=hg;obtain⟨its,rv,p,hz⟩:=I.tuple hq;obtain⟨f0,f1,f2,f3,f4,f5⟩:=hf it (by simp);have hl:=rv.length;exact wpAny_pyNext_tuple_end (I.ok.hd hc) st (show s.heap.IsTuple a its.toArray from p) (by simp;omega) λh' eb=>⟨rfl,I.turned (t':=s.toks) (λb o hb e=>eb b o hb e) f0 f1 f3 f4 f5⟩
 self:=λ_ _ _ _ _ st h=>wpAny_pyIter_tupleiter st h
theorem nX{P:Program}{w:World}{K:PySem.W.Frag}{tg:Expr}(it:Addr)(lo:Int)(n:Nat):Turn P w K tg (Itr lo n) [it] it (λi h=>IsRangeIter h it (lo+(i:Nat)*1) ((n:Int)-(i:Nat)) 1) where
 mem:=by simp
 obj:=λi h st b hb=>by
  have e:b=it:=by simpa using hb
  subst e;exact⟨_,st,λv z=>by
   have z':Data.fields _=Data.cell v:=z;cases z'⟩
 keep:=λi h h' st k=>k it (by simp) _ st
 item:=by
  intro X hP hw hK hc i pins s σ H E I hf st hg;subst hP hw hK;obtain⟨f0,f1,f2,f3,f4,f5⟩:=hf it (by simp);have W:=Walks.range (prog:=X.prog) (w:=X.w) (I.ok.hd hc) it lo 1 n;refine W.item i s _ _ hg st λv h' tk hv st' kk=>?_;obtain⟨t,rfl⟩:=hv;have I1:Inv X pins σ H {s with heap:=h',toks:=tk}:=I.turned (λb o hb e=>kk b o (by simpa using hb) e) f0 f1 f3 f4 f5
  refine⟨_,rfl,py (s:={s with heap:=h',toks:=tk}) (n:="range_iterator") st' rfl rfl (by decide) ⟨.int (lo+i),H,I1,⟨t,?_⟩,⟨rfl,rfl⟩,st',λb hb=>(hf b hb).1⟩⟩;rw[Int.mul_one]
 done:=by
  intro X hP hw hK hc i pins s σ H E I hf st hg;subst hP hw hK;obtain⟨f0,f1,f2,f3,f4,f5⟩:=hf it (by simp);exact wpAny_pyNext_range_end (I.ok.hd hc) st (by have:n≤i:=hg;omega) λh' eb=>⟨rfl,I.turned (t':=s.toks) (λb o hb e=>eb b o hb e) f0 f1 f3 f4 f5⟩
 self:=λ_ _ _ _ _ st h=>wpAny_pyIter_rangeiter st h
section
variable{X:Cx}{tg:Expr}
def yV(K:PySem.W.Frag)(tl:TE):TI:=λσ H R=>tl σ H λx H1=>∃a,x=.ref a∧(∃xs,SqL K H1 a xs)∧R (Itl K a) H1
def Ab(K:PySem.W.Frag)(tl:TE):TI:=λσ H R=>tl σ H λx H1=>∃a,x=.ref a∧(∃xs,SqT K H1 a xs)∧R (Itt K a) H1
theorem iH{l:Expr}{tl:TE}(hl:PE X l tl):PI X tg l (yV X.K tl):=by
 intro pins s σ H R I h;refine thn (hl pins s σ H _ I h) λv s1 hpt=>?_;obtain⟨x,H1,I1,r1,q1⟩:=hpt;obtain⟨a,e,⟨xs,hq⟩,q⟩:=q1;subst e;cases r1;obtain⟨its,rv,p,hz⟩:=I1.list hq;refine wpAny_pyIter_list p.isList ?_;refine⟨s1.heap.objs.size,[s1.heap.objs.size],_,_,H1,rfl,I1.kept (t':=s1.toks) λb o e=>get?_push_of_some _ e,qz a _,⟨_,get?_push_size _ rfl,rfl,rfl⟩,λb hb=>?_,q⟩;have e:b=s1.heap.objs.size:=by simpa using hb
 subst e;exact I1.fpOk (le_refl _) (I1.hok.fresh (le_refl _))
theorem hO{l:Expr}{tl:TE}(hl:PE X l tl):PI X tg l (Ab X.K tl):=by
 intro pins s σ H R I h;refine thn (hl pins s σ H _ I h) λv s1 hpt=>?_;obtain⟨x,H1,I1,r1,q1⟩:=hpt;obtain⟨a,e,⟨xs,hq⟩,q⟩:=q1;subst e;cases r1;obtain⟨its,rv,p,hz⟩:=I1.tuple hq;refine wpAny_pyIter_tuple (show s1.heap.IsTuple a its.toArray from p) ?_;refine⟨s1.heap.objs.size,[s1.heap.objs.size],_,_,H1,rfl,I1.kept (t':=s1.toks) λb o e=>get?_push_of_some _ e,nW a _,⟨_,get?_push_size _ rfl,rfl,rfl⟩,λb hb=>?_,q⟩;have e:b=s1.heap.objs.size:=by simpa using hb
 subst e;exact I1.fpOk (le_refl _) (I1.hok.fresh (le_refl _))
theorem rL{pins:List (Addr×Obj)}{σ:St}{H:Hp}{s:Shared}{R:It→Hp→Prop}{E:Value→Shared→Prop}{lo hi:Int}{t u v:Tok}{tk:Nat}(I:Inv X pins σ H s)(h1:-(2 ^ 62)≤lo)(h2:lo<2 ^ 62)(h3:-(2 ^ 62)≤hi)(h4:hi<2 ^ 62)(q:R (Itr lo (hi-lo).toNat) H):wpAny (model X.prog X.w) X.A (pyIter (.ref s.heap.objs.size)) (PIE X pins σ tg R) E {s with heap:=s.heap.push {cls:=.type "range",data:=.fields #[.int lo t,.int hi u,.int 1 v]},toks:=tk}:=by
 refine wpAny_pyIter_range (IsRange.new ..) (small_one h1 h2 h3 h4) ?_;have I1:Inv X pins σ H {s with heap:=s.heap.push {cls:=.type "range",data:=.fields #[.int lo t,.int hi u,.int 1 v]},toks:=tk}:=I.kept λb o e=>get?_push_of_some _ e
 refine⟨(s.heap.push {cls:=.type "range",data:=.fields #[.int lo t,.int hi u,.int 1 v]}).objs.size,[(s.heap.push {cls:=.type "range",data:=.fields #[.int lo t,.int hi u,.int 1 v]}).objs.size],_,_,H,rfl,
  I1.kept (t':=tk) λb o e=>get?_push_of_some _ e,nX _ lo (hi-lo).toNat,?_,λb hb=>?_,q⟩
 ·have e1:lo+((0:Nat):Int)*1=lo:=by simp
  have e2:(((hi-lo).toNat:Nat):Int)-((0:Nat):Int)=Builtin.Range.rangeSize lo hi 1:=by rw[rangeSize_one];split<;>omega
  show IsRangeIter _ _ (lo+((0:Nat):Int)*1) ((((hi-lo).toNat:Nat):Int)-((0:Nat):Int)) 1;rw[e1,e2];exact get?_push_size _ rfl
 ·have e:b=(s.heap.push {cls:=.type "range",data:=.fields #[.int lo t,.int hi u,.int 1 v]}).objs.size:=by simpa using hb
  subst e;exact I1.fpOk (le_refl _) (I1.hok.fresh (le_refl _))
def yW(ta:TA):TI:=λσ H R=>ta σ H λvs H1=>∃j:Int,vs=[.int j]∧-(2 ^ 62)≤j∧j<2 ^ 62∧R (Itr 0 j.toNat) H1
theorem qA{a:Expr}{ta:TA}{p pos:Pos}(hg:Gl X "range")(hm:X.mg "range"=none)(ha:PA X [a] ta)(hs:starEach [a] X.env=[(false,eval a X.env)]:=by rfl):PI X tg (.Call (.Name "range" p) [a] [] pos) (yW ta):=by
 intro pins s σ H R I h;refine Call_ (kR I hg hm boot_range (PyProof.Rows.callWith_type1 (thn (ha pos pins s σ H _ I h) λus s1 ⟨vs,H1,I1,r1,q1⟩=>?_) hs rfl));obtain⟨j,e,q1,q2,q⟩:=q1;subst e;cases r1 with
 |cons r rr =>
  cases rr;obtain⟨t,rfl⟩:=r;exact call_range_1 (rL I1 (by omega) (by omega) q1 q2 (by simpa using q))
def Ac(wi:TI)(g:TG)(tb:TS):TS:=λD σ H=>wi σ H λJ H1=>∃W:Nat→Nat→St→Hp→Prop,(∃m,W 0 m σ H1)∧∀i m σ H,W i m σ H →
 (J.stop i H∧D.nx σ H)∨(J.go i H∧∃N:St→Hp→Prop,(∀σ' H',N σ' H'→∃m',m'<m∧W (i+1) m' σ' H')∧∀x H',J.yld i H x H'→g x σ H' λσ2 H2=>tb {D with nx:=N,ct:=N,bk:=D.nx} σ2 H2)
def kX(fp:List Addr)(h:Heap):List (Addr×Obj):=fp.filterMap λb=>(h.get? b).map λo=>(b,o)
theorem bQ{fp:List Addr}{h:Heap}{b:Addr}{o:Obj}(hb:b∈fp)(e:h.get? b=some o):(b,o)∈kX fp h:=mem_filterMap.mpr ⟨b,hb,by rw[e];rfl⟩
theorem qB{fp:List Addr}{h:Heap}{p:Addr×Obj}(hp:p∈kX fp h):p.1∈fp∧h.get? p.1=some p.2:=by
 obtain⟨b,hb,e⟩:=mem_filterMap.mp hp;cases q:h.get? b with
 |none=>rw[q]at e;cases e
 |some o =>
  rw[q]at e;have e':(b,o)=p:=Option.some.inj e;subst e';exact⟨hb,q⟩
theorem Inv.pinned{pins:List (Addr×Obj)}{σ:St}{H:Hp}{s:Shared}{fp:List Addr}(I:Inv X pins σ H s)(hf:∀b∈fp,hJ X pins H b)(ho:∀b∈fp,∃o,s.heap.get? b=some o∧∀v,o.data≠.cell v):Inv X (pins++kX fp s.heap) σ H s :=
 I.pins_of λp hp=>(mem_append.mp hp).elim (λz=>I.pin p (mem_append_right _ z)) λz=>by
  obtain⟨hb,e⟩:=qB z;obtain⟨f0,f1,f2,_⟩:=hf p.1 hb;obtain⟨o,e',d⟩:=ho p.1 hb;rw[e]at e';cases e';exact⟨e,f0,f1,f2,d⟩
theorem Inv.unpinned{pins pl:List (Addr×Obj)}{σ:St}{H:Hp}{s:Shared}(I:Inv X (pins++pl) σ H s):Inv X pins σ H s:=I.pins_of λp hp=>I.pin p (mem_append_right _ (mem_append_left _ hp))
theorem kY{iter:Expr}{body:List Stmt}{wi:TI}{g:TG}{tb:TS}{pos:Pos}(hp:PassesOwn (model X.prog X.w) X.A X.env X.xe)(hc:X.calm=true)(hi:PI X tg iter wi)(hg:PG X tg g)(hb:PSs X body tb)(hs:∀x,foldedSetIterable iter X.env x=pure x:=by intro _;rfl):PS X (.For tg iter body [] pos) (Ac wi g tb):=by
 intro pins s σ H D I h;refine wpAny_For (thn (hi pins s σ H _ I h) λv s1 h1=>thn h1 λitv s2 h2=>?_) hs;obtain⟨it,fp,tn,J,H2,e,I2,T,st2,f2,W,⟨m0,w0⟩,turn⟩:=h2;subst e;have stat:∀{H':Hp},(∀b∈fp,H' b=none)→∀b∈fp,hJ X pins H' b:=λhn b hb=>⟨hn b hb,(f2 b hb).2⟩;refine codeAny_forLoop_any (λn s'=>∃i σ' H',Inv X pins σ' H' s'∧tn i s'.heap∧(∀b∈fp,H' b=none)∧W i n σ' H') ?_ m0 ⟨0,σ,H2,I2,st2,λb hb=>(f2 b hb).1,w0⟩;rintro n s3 ⟨i,σ3,H3,I3,st3,fr3,w3⟩;rcases turn i n σ3 H3 w3 with⟨stop,qn⟩|⟨go,N,hN,step⟩
 ·refine wpAny_passesOwn hp (thn (T.done X rfl rfl rfl hc i pins s3 σ3 H3 X.xe I3 (stat fr3) st3 stop) λr s4 hpt=>?_);obtain⟨hr,I4⟩:=hpt;subst hr;exact wpAny_execs_nil ⟨σ3,H3,I4,qn⟩
 ·refine wpAny_passesOwn hp (thn (T.item X rfl rfl rfl hc i pins s3 σ3 H3 X.xe I3 (stat fr3) st3 go) λr s4 hpt=>?_);obtain⟨u,hr,h4⟩:=hpt;subst hr;refine wpAny_passesOwn hp (thn h4 λ_ s5 hpt=>?_);obtain⟨x,H5,I5,r5,y5,st5,fr5⟩:=hpt;have I5':=I5.pinned (stat fr5) (T.obj _ _ st5);refine wpAny_passesOwn hp (thn (hg _ s5 σ3 H5 x u _ I5' r5 (step x H5 y5)) λ_ s6 hpt=>?_);obtain⟨σ6,H6,I6,q6⟩:=hpt;refine wpAny_passesOwn hp (thn (hb _ s6 σ6 H6 _ I6 q6) λf s7 q7=>?_);have again:∀{σ7:St}{H7:Hp},Inv X (pins++kX fp s5.heap) σ7 H7 s7→N σ7 H7→∃m,m<n∧∃i σ' H',Inv X pins σ' H' s7∧tn i s7.heap∧(∀b∈fp,H' b=none)∧W i m σ' H':=λ{σ7 H7} I7 n7=>by
   obtain⟨m',hm,w7⟩:=hN σ7 H7 n7;refine⟨m',hm,i+1,σ7,H7,I7.unpinned,T.keep _ _ _ st5 λb hb o e=>(I7.pin (b,o) (mem_append_right _ (mem_append_right _ (bQ hb e)))).1,λb hb=>?_,w7⟩;obtain⟨o,e,d⟩:=T.obj _ _ st5 b hb;exact(I7.pin (b,o) (mem_append_right _ (mem_append_right _ (bQ hb e)))).2.1
  cases f with
  |next=>obtain⟨σ7,H7,I7,n7⟩:=q7;exact again I7 n7
  |cont=>obtain⟨σ7,H7,I7,n7⟩:=q7;exact again I7 n7
  |brk=>obtain⟨σ7,H7,I7,q7⟩:=q7;exact⟨σ7,H7,I7.unpinned,q7⟩
  |ret v=>obtain⟨x7,σ7,H7,I7,r7,q7⟩:=q7;exact⟨x7,σ7,H7,I7.unpinned,r7,q7⟩
end
theorem rM{K:PySem.W.Frag}{a:Addr}{xs:List V}{g:TG}{tb:TS}{D:Ends}{σ:St}{H:Hp}(Pv:Nat→St→Hp→Prop)(h0:Pv 0 σ H)(hl:∀i σ H,i≤xs.length→Pv i σ H→SqL K H a xs)(hs:∀i x σ H,xs[i]?=some x→Pv i σ H→g x σ H λσ2 H2=>tb {D with nx:=Pv (i+1),ct:=Pv (i+1),bk:=D.nx} σ2 H2)(hd:∀σ H,Pv xs.length σ H→D.nx σ H):
  ∃W:Nat→Nat→St→Hp→Prop,(∃m,W 0 m σ H)∧∀i m σ H,W i m σ H →
   ((Itl K a).stop i H∧D.nx σ H)∨((Itl K a).go i H∧∃N:St→Hp→Prop,(∀σ' H',N σ' H'→∃m',m'<m∧W (i+1) m' σ' H')∧∀x H',(Itl K a).yld i H x H'→g x σ H' λσ2 H2=>tb {D with nx:=N,ct:=N,bk:=D.nx} σ2 H2):=by
 refine⟨λi m σ H=>m=xs.length-i∧i≤xs.length∧Pv i σ H,⟨xs.length,by simp,zero_le _,h0⟩,?_⟩;rintro i m σ H ⟨rfl,hi,p⟩;have q:=hl i σ H hi p
 by_cases hlt:i<xs.length
 ·refine .inr ⟨⟨xs,xs[i],q,by simp[hlt]⟩,Pv (i+1),λσ' H' p'=>⟨xs.length-(i+1),by omega,rfl,hlt,p'⟩,λx H' y=>?_⟩;obtain⟨e,y⟩:=y;subst e;exact hs i x σ _ (y xs q) p
 ·have e:i=xs.length:=by omega
  subst e;exact .inl ⟨⟨xs,q,le_refl _⟩,hd σ H p⟩
theorem pz{K:PySem.W.Frag}{a:Addr}{xs:List V}{g:TG}{tb:TS}{D:Ends}{σ:St}{H:Hp}(Pv:Nat→St→Hp→Prop)(h0:Pv 0 σ H)(hl:∀i σ H,i≤xs.length→Pv i σ H→SqT K H a xs)(hs:∀i x σ H,xs[i]?=some x→Pv i σ H→g x σ H λσ2 H2=>tb {D with nx:=Pv (i+1),ct:=Pv (i+1),bk:=D.nx} σ2 H2)(hd:∀σ H,Pv xs.length σ H→D.nx σ H):
  ∃W:Nat→Nat→St→Hp→Prop,(∃m,W 0 m σ H)∧∀i m σ H,W i m σ H →
   ((Itt K a).stop i H∧D.nx σ H)∨((Itt K a).go i H∧∃N:St→Hp→Prop,(∀σ' H',N σ' H'→∃m',m'<m∧W (i+1) m' σ' H')∧∀x H',(Itt K a).yld i H x H'→g x σ H' λσ2 H2=>tb {D with nx:=N,ct:=N,bk:=D.nx} σ2 H2):=by
 refine⟨λi m σ H=>m=xs.length-i∧i≤xs.length∧Pv i σ H,⟨xs.length,by simp,zero_le _,h0⟩,?_⟩;rintro i m σ H ⟨rfl,hi,p⟩;have q:=hl i σ H hi p
 by_cases hlt:i<xs.length
 ·refine .inr ⟨⟨xs,xs[i],q,by simp[hlt]⟩,Pv (i+1),λσ' H' p'=>⟨xs.length-(i+1),by omega,rfl,hlt,p'⟩,λx H' y=>?_⟩;obtain⟨e,y⟩:=y;subst e;exact hs i x σ _ (y xs q) p
 ·have e:i=xs.length:=by omega
  subst e;exact .inl ⟨⟨xs,q,le_refl _⟩,hd σ H p⟩
theorem qC{lo:Int}{n:Nat}{g:TG}{tb:TS}{D:Ends}{σ:St}{H:Hp}(Pv:Nat→St→Hp→Prop)(h0:Pv 0 σ H)(hs:∀i σ H,i<n→Pv i σ H→g (.int (lo+i)) σ H λσ2 H2=>tb {D with nx:=Pv (i+1),ct:=Pv (i+1),bk:=D.nx} σ2 H2)(hd:∀σ H,Pv n σ H→D.nx σ H):
  ∃W:Nat→Nat→St→Hp→Prop,(∃m,W 0 m σ H)∧∀i m σ H,W i m σ H →
   ((Itr lo n).stop i H∧D.nx σ H)∨((Itr lo n).go i H∧∃N:St→Hp→Prop,(∀σ' H',N σ' H'→∃m',m'<m∧W (i+1) m' σ' H')∧∀x H',(Itr lo n).yld i H x H'→g x σ H' λσ2 H2=>tb {D with nx:=N,ct:=N,bk:=D.nx} σ2 H2):=by
 refine⟨λi m σ H=>m=n-i∧i≤n∧Pv i σ H,⟨n,by simp,zero_le _,h0⟩,?_⟩;rintro i m σ H ⟨rfl,hi,p⟩
 by_cases hlt:i<n
 ·refine .inr ⟨hlt,Pv (i+1),λσ' H' p'=>⟨n-(i+1),by omega,rfl,hlt,p'⟩,λx H' y=>?_⟩;obtain⟨e,y⟩:=y;subst e y;exact hs i σ _ hlt p
 ·have e:i=n:=by omega
  subst e;exact .inl ⟨le_refl _,hd σ H p⟩
theorem rN{c:TT}{tb:TS}{D:Ends}{σ:St}{H:Hp}(Pv:St→Hp→Prop)(μ:St→Hp→Nat)(h0:Pv σ H)(hs:∀σ H,Pv σ H→c σ H λb H1=>if b=true then tb {D with nx:=λσ' H'=>Pv σ' H'∧μ σ' H'<μ σ H,ct:=λσ' H'=>Pv σ' H'∧μ σ' H'<μ σ H,bk:=D.nx} σ H1 else D.nx σ H1)(mono:∀σ H Q Q',(∀b H1,Q b H1→Q' b H1)→c σ H Q→c σ H Q'):rJ c tb D σ H:=by
 refine⟨λm σ H=>m=μ σ H∧Pv σ H,⟨_,rfl,h0⟩,?_⟩;rintro m σ H ⟨rfl,p⟩;refine mono σ H _ _ (λb H1 q=>?_) (hs σ H p);cases b with
 |true=>exact⟨_,λσ' H' ⟨p',l⟩=>⟨_,l,rfl,p'⟩,q⟩
 |false=>exact q
abbrev R2:=V→V→Hp→VK→Prop
def OpR(X:Cx)(f:Value→Value→Sem Value)(r:R2):Prop :=
 ∀(pins:List (Addr×Obj))(s:Shared)(σ:St)(H:Hp)(x y:V)(v u:Value)(Q:VK),Inv X pins σ H s→aA x v→aA y u→r x y H Q →
  wpAny (model X.prog X.w) X.A (f v u) (EP X pins σ Q) X.xe s
def UnR(X:Cx)(f:Value→Sem Value)(r:V→Hp→VK→Prop):Prop :=
 ∀(pins:List (Addr×Obj))(s:Shared)(σ:St)(H:Hp)(x:V)(v:Value)(Q:VK),Inv X pins σ H s→aA x v→r x H Q →
  wpAny (model X.prog X.w) X.A (f v) (EP X pins σ Q) X.xe s
def cK(X:Cx)(f:Value)(r:List V→Hp→VK→Prop):Prop :=
 ∀(pins:List (Addr×Obj))(s:Shared)(σ:St)(H:Hp)(xs:List V)(us:List Value)(Q:VK),Inv X pins σ H s→aw xs us→r xs H Q →
  wpAny (model X.prog X.w) X.A (call f us) (EP X pins σ Q) X.xe s
def Ad(X:Cx)(r:V→Hp→(Bool→Hp→Prop)→Prop):Prop :=
 ∀(pins:List (Addr×Obj))(s:Shared)(σ:St)(H:Hp)(x:V)(v:Value)(Q:Bool→Hp→Prop),Inv X pins σ H s→aA x v→r x H Q →
  wpAny (model X.prog X.w) X.A (truthy v) (TP X pins σ Q) X.xe s
def tOp(r:R2)(ta tb:TE):TE:=λσ H Q=>ta σ H λx H1=>tb σ H1 λy H2=>r x y H2 Q
def tUn(r:V→Hp→VK→Prop)(ta:TE):TE:=λσ H Q=>ta σ H λx H1=>r x H1 Q
def rI(C:Int→Int→Prop)(g:Int→Int→V):R2:=λx y H Q=>∃i j,x=.int i∧y=.int j∧C i j∧Q (g i j) H
def rI0(g:Int→Int→V):R2:=λx y H Q=>∃i j,x=.int i∧y=.int j∧Q (g i j) H
def rU(g:Int→V):V→Hp→VK→Prop:=λx H Q=>∃i,x=.int i∧Q (g i) H
section
variable{X:Cx}{a b c:Expr}{ta tb tc:TE}{pos:Pos}
theorem xq(ha:PE X a ta)(hb:PE X b tb){pins:List (Addr×Obj)}{s:Shared}{σ:St}{H:Hp}{R:V→V→Hp→Prop}(I:Inv X pins σ H s)(h:ta σ H λx H1=>tb σ H1 λy H2=>R x y H2){Q:Value→Shared→Prop}{f:Value→Value→Sem Value}(hf:∀v u s2 x y H2,Inv X pins σ H2 s2→aA x v→aA y u→R x y H2→wpAny (model X.prog X.w) X.A (f v u) Q X.xe s2):
  wpAny (model X.prog X.w) X.A (eval a X.env) (λv s₁=>wpAny (model X.prog X.w) X.A (eval b X.env) (λu s₂=>wpAny (model X.prog X.w) X.A (f v u) Q X.xe s₂) X.xe s₁) X.xe s:=by
 refine thn (ha pins s σ H _ I h) λv s1 hpt=>?_;obtain⟨x,H1,I1,r1,q1⟩:=hpt;refine thn (hb pins s1 σ H1 _ I1 q1) λu s2 hpt=>?_;obtain⟨y,H2,I2,r2,q2⟩:=hpt;exact hf v u s2 x y H2 I2 r1 r2 q2
theorem bd{op:Operator}{r:R2}(ho:OpR X (binaryOp op) r)(ha:PE X a ta)(hb:PE X b tb):PE X (.BinOp a op b pos) (tOp r ta tb):=by
 intro pins s σ H Q I h;exact wpAny_BinOp (xq ha hb I h λv u s2 x y H2 I2 rx ry q=>ho pins s2 σ H2 x y v u Q I2 rx ry q)
theorem wL{op:UnaryOp}{r:V→Hp→VK→Prop}(ho:UnR X (unaryOp op) r)(ha:PE X a ta):PE X (.UnaryOp op a pos) (tUn r ta):=by
 intro pins s σ H Q I h;exact UnaryOp_ (thn (ha pins s σ H _ I h) λv s1 ⟨x,H1,I1,r1,q1⟩=>ho pins s1 σ H1 x v Q I1 r1 q1)
theorem opI{f:Value→Value→Sem Value}{C:Int→Int→Prop}{g:Int→Int→Int}(rule:∀(i j:Int) (t u:Tok) (s:Shared) (Q:Value→Shared→Prop) (E:Value→Shared→Prop),C i j→Q (.int (g i j) s.toks) {s with toks:=s.toks+1}→wpAny (model X.prog X.w) X.A (f (.int i t) (.int j u)) Q E s):
  OpR X f (rI C λi j=>.int (g i j)):=by
 intro pins s σ H x y v u Q I rx ry h;obtain⟨i,j,rfl,rfl,hc,q⟩:=h;obtain⟨t,rfl⟩:=rx;obtain⟨t',rfl⟩:=ry;exact rule i j t t' s _ _ hc ⟨.int (g i j),H,I.tok _,⟨_,rfl⟩,q⟩
theorem Ae{f:Value→Value→Sem Value}{g:Int→Int→Int}(rule:∀(i j:Int) (t u:Tok) (s:Shared) (Q:Value→Shared→Prop) (E:Value→Shared→Prop),Q (.int (g i j) s.toks) {s with toks:=s.toks+1}→wpAny (model X.prog X.w) X.A (f (.int i t) (.int j u)) Q E s):
  OpR X f (rI0 λi j=>.int (g i j)):=by
 intro pins s σ H x y v u Q I rx ry h;obtain⟨i,j,rfl,rfl,q⟩:=h;obtain⟨t,rfl⟩:=rx;obtain⟨t',rfl⟩:=ry;exact rule i j t t' s _ _ ⟨.int (g i j),H,I.tok _,⟨_,rfl⟩,q⟩
theorem yX{f:Value→Value→Sem Value}{g:Int→Int→Bool}(rule:∀(i j:Int) (t u:Tok) (s:Shared) (Q:Value→Shared→Prop) (E:Value→Shared→Prop),Q (.bool (g i j)) s→wpAny (model X.prog X.w) X.A (f (.int i t) (.int j u)) Q E s):
  OpR X f (rI0 λi j=>.bl (g i j)):=by
 intro pins s σ H x y v u Q I rx ry h;obtain⟨i,j,rfl,rfl,q⟩:=h;obtain⟨t,rfl⟩:=rx;obtain⟨t',rfl⟩:=ry;exact rule i j t t' s _ _ ⟨.bl (g i j),H,I,rfl,q⟩
def Af(i j:Int):Prop:=0<j∧j<1073741824
def xr(i j:Int):Prop:=(-(2 ^ 64)<i∧i<2 ^ 64)∨(-(2 ^ 64)<j∧j<2 ^ 64)
theorem xr.ok{i j:Int}(h:xr i j):IntMulOk i j:=by
 rcases h with⟨h1,h2⟩|⟨h1,h2⟩
 ·exact .of_left (intBits_le_64 h1 h2)
 ·exact .of_right (intBits_le_64 h1 h2)
theorem iQ:OpR X (binaryOp .Add) (rI0 λi j=>.int (i+j)):=Ae λ_ _ _ _ _ _ _ q=>add_int q
theorem iR:OpR X (binaryOp .Mult) (rI xr λi j=>.int (i*j)):=opI λ_ _ _ _ _ _ _ hc q=>mul_int q hc.ok
theorem uR:OpR X (binaryOp .FloorDiv) (rI Af λi j=>.int (i / j)):=opI λi j _ _ _ _ _ hc q=>by
 have h1:(0:Int)<j:=hc.1;have h2:j<1073741824:=hc.2;exact floordiv_int (by omega) (by rw[Int.fdiv_eq_ediv_of_nonneg i (by omega)];exact q) (.inl (PyProof.noPylong_small (by omega)))
theorem eK:OpR X (binaryOp .Mod) (rI (λ_ j=>0<j) λi j=>.int (i % j)):=opI λi j _ _ _ _ _ hc q=>by
 have h1:(0:Int)<j:=hc;exact mod_int' (by omega) (by rw[Int.fmod_eq_emod_of_nonneg i (by omega)];exact q)
theorem unI{f:Value→Sem Value}{g:Int→Int}(rule:∀(i:Int) (t:Tok) (s:Shared) (Q:Value→Shared→Prop) (E:Value→Shared→Prop),Q (.int (g i) s.toks) {s with toks:=s.toks+1}→wpAny (model X.prog X.w) X.A (f (.int i t)) Q E s):
  UnR X f (rU λi=>.int (g i)):=by
 intro pins s σ H x v Q I rx h;obtain⟨i,rfl,q⟩:=h;obtain⟨t,rfl⟩:=rx;exact rule i t s _ _ ⟨.int (g i),H,I.tok _,⟨_,rfl⟩,q⟩
theorem rO:UnR X (unaryOp .USub) (rU λi=>.int (-i)):=unI λ_ _ _ _ _ q=>neg_int q
end
def yY:V→V→Bool
 |.non,.non=>true | .non,.int _=>true | .int _,.non=>true | .non,.bl _=>true | .bl _,.non=>true | .non,.str _=>true | .str _,.non=>true
 |.int _,.int _=>true | .bl _,.bl _=>true | .str _,.str _=>true | .byt _,.byt _=>true
 |.int _,.str _=>true | .str _,.int _=>true | .bl _,.str _=>true | .str _,.bl _=>true
 |_,_=>false
def rEq:R2:=λx y H Q=>yY x y=true∧Q (.bl (decide (x=y))) H
def rNe:R2:=λx y H Q=>yY x y=true∧Q (.bl (!decide (x=y))) H
theorem pA{i j:Int}:decide (V.int i=V.int j)=(i==j):=by
 rw[Bool.eq_iff_iff];simp
theorem rP{i j:Bool}:decide (V.bl i=V.bl j)=(i==j):=by
 rw[Bool.eq_iff_iff];simp
theorem pB{i j:Str}:decide (V.str i=V.str j)=(i==j):=by
 rw[Bool.eq_iff_iff];simp
theorem pC{i j:Array UInt8}:decide (V.byt i=V.byt j)=(i.toList==j.toList):=by
 rw[Bool.eq_iff_iff];cases i;cases j;simp
section
variable{X:Cx}{a b c:Expr}{ta tb tc:TE}{pos:Pos}
theorem aI{pins:List (Addr×Obj)}{σ:St}{H:Hp}{s:Shared}{Q:VK}{k k':Bool}(I:Inv X pins σ H s)(q:Q (.bl k) H)(e:k=k'):EP X pins σ Q (.bool k') s:=by
 subst e;exact⟨.bl k,H,I,rfl,q⟩
theorem gl:OpR X (compareOp .Eq) rEq:=by
 intro pins s σ H x y v u Q I rx ry h;obtain⟨hs,q⟩:=h;cases x with
 |non =>
  cases rx;cases y with
  |non=>cases ry;exact PySem.EqNone.eq_none_none (aI I q (by simp))
  |bl j=>cases ry;exact PySem.EqNone.eq_none_bool (aI I q (by simp))
  |int j=>obtain⟨t',rfl⟩:=ry;exact PySem.EqNone.eq_none_int (aI I q (by simp))
  |str j=>obtain⟨t',rfl⟩:=ry;exact PySem.EqNone.eq_none_str (aI I q (by simp))
  |_=>exact absurd (show false=true from hs) Bool.false_ne_true
 |bl i =>
  cases rx;cases y with
  |non=>cases ry;exact PySem.EqNone.eq_bool_none (aI I q (by simp))
  |bl j=>cases ry;exact eq_bool (aI I q rP)
  |str j=>obtain⟨t',rfl⟩:=ry;exact PySem.EqMixed.eq_bool_str (aI I q (by simp))
  |_=>exact absurd (show false=true from hs) Bool.false_ne_true
 |int i =>
  obtain⟨t,rfl⟩:=rx;cases y with
  |non=>cases ry;exact PySem.EqNone.eq_int_none (aI I q (by simp))
  |int j=>obtain⟨t',rfl⟩:=ry;exact eq_int (aI I q pA)
  |str j=>obtain⟨t',rfl⟩:=ry;exact PySem.EqMixed.eq_int_str (aI I q (by simp))
  |_=>exact absurd (show false=true from hs) Bool.false_ne_true
 |str i =>
  obtain⟨t,rfl⟩:=rx;cases y with
  |non=>cases ry;exact PySem.EqNone.eq_str_none (aI I q (by simp))
  |bl j=>cases ry;exact PySem.EqMixed.eq_str_bool (aI I q (by simp))
  |int j=>obtain⟨t',rfl⟩:=ry;exact PySem.EqMixed.eq_str_int (aI I q (by simp))
  |str j=>obtain⟨t',rfl⟩:=ry;exact eq_str (aI I q pB)
  |_=>exact absurd (show false=true from hs) Bool.false_ne_true
 |byt i =>
  obtain⟨t,rfl⟩:=rx;cases y with
  |byt j=>obtain⟨t',rfl⟩:=ry;exact PySem.W.eq_bytes (aI I q pC)
  |_=>exact absurd (show false=true from hs) Bool.false_ne_true
 |_=>cases y<;>exact absurd (show false=true from hs) Bool.false_ne_true
theorem iS:OpR X (compareOp .NotEq) rNe:=by
 intro pins s σ H x y v u Q I rx ry h;obtain⟨hs,q⟩:=h;cases x with
 |non =>
  cases rx;cases y with
  |non=>cases ry;exact PySem.EqNone.ne_none_none (aI I q (by simp))
  |bl j=>cases ry;exact PySem.EqNone.ne_none_bool (aI I q (by simp))
  |int j=>obtain⟨t',rfl⟩:=ry;exact PySem.EqNone.ne_none_int (aI I q (by simp))
  |str j=>obtain⟨t',rfl⟩:=ry;exact PySem.EqNone.ne_none_str (aI I q (by simp))
  |_=>exact absurd (show false=true from hs) Bool.false_ne_true
 |bl i =>
  cases rx;cases y with
  |non=>cases ry;exact PySem.EqNone.ne_bool_none (aI I q (by simp))
  |bl j=>cases ry;exact ne_bool (aI I q (congrArg not rP))
  |str j=>obtain⟨t',rfl⟩:=ry;exact PySem.EqMixed.ne_bool_str (aI I q (by simp))
  |_=>exact absurd (show false=true from hs) Bool.false_ne_true
 |int i =>
  obtain⟨t,rfl⟩:=rx;cases y with
  |non=>cases ry;exact PySem.EqNone.ne_int_none (aI I q (by simp))
  |int j=>obtain⟨t',rfl⟩:=ry;exact ne_int (aI I q (congrArg not pA))
  |str j=>obtain⟨t',rfl⟩:=ry;exact PySem.EqMixed.ne_int_str (aI I q (by simp))
  |_=>exact absurd (show false=true from hs) Bool.false_ne_true
 |str i =>
  obtain⟨t,rfl⟩:=rx;cases y with
  |non=>cases ry;exact PySem.EqNone.ne_str_none (aI I q (by simp))
  |bl j=>cases ry;exact PySem.EqMixed.ne_str_bool (aI I q (by simp))
  |int j=>obtain⟨t',rfl⟩:=ry;exact PySem.EqMixed.ne_str_int (aI I q (by simp))
  |str j=>obtain⟨t',rfl⟩:=ry;exact ne_str (aI I q (congrArg not pB))
  |_=>exact absurd (show false=true from hs) Bool.false_ne_true
 |byt i =>
  obtain⟨t,rfl⟩:=rx;cases y with
  |byt j=>obtain⟨t',rfl⟩:=ry;exact PySem.W.ne_bytes (aI I q (congrArg not pC))
  |_=>exact absurd (show false=true from hs) Bool.false_ne_true
 |_=>cases y<;>exact absurd (show false=true from hs) Bool.false_ne_true
theorem yZ:OpR X (compareOp .Lt) (rI0 λi j=>.bl (decide (i<j))):=yX λ_ _ _ _ _ _ _ q=>lt_int q
theorem wM:OpR X (compareOp .LtE) (rI0 λi j=>.bl (decide (i≤j))):=yX λ_ _ _ _ _ _ _ q=>le_int q
theorem qD:OpR X (compareOp .In) (λx y H Q=>∃i j,x=.str i∧y=.str j∧Q (.bl (!(Builtin.Str.occurrences j i 0 j.length 1).isEmpty)) H):=by
 intro pins s σ H x y v u Q I rx ry h;obtain⟨i,j,rfl,rfl,q⟩:=h;obtain⟨t,rfl⟩:=rx;obtain⟨t',rfl⟩:=ry;exact in_str (aI I q rfl)
theorem rQ:OpR X (compareOp .Is) (λx y H Q=>y=.non∧Q (.bl (decide (x=.non))) H):=by
 intro pins s σ H x y v u Q I rx ry h;obtain⟨rfl,q⟩:=h;cases ry;refine is_none_gen (aI I q ?_);cases x<;>first
  |(cases rx;rfl)
  |(obtain⟨t,rfl⟩:=rx;rfl)
theorem pD:OpR X (compareOp .IsNot) (λx y H Q=>y=.non∧Q (.bl (!decide (x=.non))) H):=by
 intro pins s σ H x y v u Q I rx ry h;obtain⟨rfl,q⟩:=h;cases ry;refine isnot_none_gen (aI I q ?_);cases x<;>first
  |(cases rx;rfl)
  |(obtain⟨t,rfl⟩:=rx;rfl)
theorem OpR.or{f:Value→Value→Sem Value}{r r':R2}(h:OpR X f r)(h':OpR X f r'):OpR X f (λx y H Q=>r x y H Q∨r' x y H Q):=by
 intro pins s σ H x y v u Q I rx ry q;rcases q with q|q
 ·exact h pins s σ H x y v u Q I rx ry q
 ·exact h' pins s σ H x y v u Q I rx ry q
theorem aS(b:Expr){op:CmpOp}(h:op≠.In:=by decide)(h2:op≠.NotIn:=by decide):behindInMarks op b=false:=by
 have e1:(op==CmpOp.In)=false:=by cases op<;>first|rfl|exact absurd rfl h
 have e2:(op==CmpOp.NotIn)=false:=by cases op<;>first|rfl|exact absurd rfl h2
 cases b<;>simp[behindInMarks,e1,e2]
theorem kZ{op:CmpOp}{r:R2}(ho:OpR X (compareOp op) r)(ha:PE X a ta)(hb:PE X b tb)(hm:behindInMarks op b=false):PE X (.Compare a [op] [b] pos) (tOp r ta tb):=by
 intro pins s σ H Q I h;exact wpAny_Compare1 (xq ha hb I h λv u s2 x y H2 I2 rx ry q=>ho pins s2 σ H2 x y v u Q I2 rx ry q) hm
def wN(t:TE):TT:=λσ H Q=>t σ H λx H'=>∃k,x=.bl k∧Q k H'
theorem aL{op:CmpOp}{r:R2}(ho:OpR X (compareOp op) r)(ha:PE X a ta)(hb:PE X b tb)(hm:behindInMarks op b=false):PT X (.Compare a [op] [b] pos) (wN (tOp r ta tb)):=by
 intro pins s σ H Q I h;refine wpAny_isTrue_Compare1 (thn (ha pins s σ H _ I h) λv s1 ⟨x,H1,I1,r1,q1⟩=>thn (hb pins s1 σ H1 _ I1 q1) λu s2 ⟨y,H2,I2,r2,q2⟩ =>
  thn (ho pins s2 σ H2 x y v u _ I2 r1 r2 q2) λc s3 ⟨z,H3,I3,r3,k,e,q3⟩=>?_) hm
 subst e;cases r3;exact wpAny_truthy_bool ⟨H3,I3,q3⟩
def xt(r r':R2)(ta tb tc:TE):TE:=λσ H Q=>ta σ H λx H1=>tb σ H1 λy H2=>r x y H2 λz H3=>∃k,z=.bl k ∧
 (if k=true then tc σ H3 λw' H4=>r' y w' H4 Q else Q (.bl false) H3)
theorem rR{op op':CmpOp}{r r':R2}(ho:OpR X (compareOp op) r)(ho':OpR X (compareOp op') r')(ha:PE X a ta)(hb:PE X b tb)(hc:PE X c tc)(hm:lastMarks [op,op'] [b,c]=false:=by with_unfolding_all rfl):PT X (.Compare a [op,op'] [b,c] pos) (wN (xt r r' ta tb tc)):=by
 intro pins s σ H Q I h;refine isTrue_chain (thn (ha pins s σ H _ I h) λv s1 ⟨x,H1,I1,r1,q1⟩=>test_link (thn (hb pins s1 σ H1 _ I1 q1) λu s2 ⟨y,H2,I2,r2,q2⟩ =>
  thn (ho pins s2 σ H2 x y v u _ I2 r1 r2 q2) λd s3 ⟨z,H3,I3,r3,k,e,q3⟩=>?_)) hm
 subst e;cases r3;refine wpAny_truthy_bool ?_;cases k with
 |false =>
  obtain⟨k',e',q'⟩:=q3;cases e';exact ite_ff ⟨H3,I3,q'⟩
 |true =>
  refine ite_tt (test_last (thn (hc pins s3 σ H3 _ I3 q3) λw' s4 ⟨z',H4,I4,r4,q4⟩=>thn (ho' pins s4 σ H4 y z' u w' _ I4 r2 r4 q4) λd' s5 hpt=>?_));obtain⟨z2,H5,I5,r5,k2,e2,q5⟩:=hpt;subst e2;cases r5;exact wpAny_truthy_bool ⟨H5,I5,q5⟩
def za(K:PySem.W.Frag)(x:V)(H:Hp)(k:Bool):Prop :=
 match x with
 |.non=>k=false
 |.bl b=>k=b
 |.int i=>k=(i != 0)
 |.str y=>y.length≤sizeLine∧k=((y.length:Int) != 0)
 |.byt y=>y.size≤sizeLine∧k=((y.size:Int) != 0)
 |.ref p=>(∃xs,SqL K H p xs∧k = !xs.isEmpty)∨(∃xs,SqT K H p xs∧k = !xs.isEmpty)∨∃kvs,H p=some (.dK kvs)∧k = !kvs.isEmpty
 |_=>False
theorem nY{κ:Type}{kvs:List (κ×V)}{vs:List (κ×Value)}(r:KV kvs vs):(!vs.isEmpty) = !kvs.isEmpty:=by
 cases r<;>rfl
theorem iT{xs:List V}{its:List Value}(r:aw xs its):(!its.toArray.isEmpty) = !xs.isEmpty:=by
 cases r<;>simp
theorem iU:(sizeLine:Nat)<2 ^ 63:=by rw[sizeLine_eq];decide
theorem xu:Ad X (λx H Q=>∃k,za X.K x H k∧Q k H):=by
 intro pins s σ H x v Q I rx h;obtain⟨k,e,q⟩:=h;have hl:=iU;have hs:sizeLine=16777216:=sizeLine_eq;cases x with
 |non =>
  cases rx;have e':k=false:=e;subst e';exact truthy_none ⟨H,I,q⟩
 |bl b =>
  cases rx;have e':k=b:=e;subst e';exact wpAny_truthy_bool ⟨H,I,q⟩
 |int i =>
  obtain⟨t,rfl⟩:=rx;have e':k=(i != 0):=e;subst e';exact PySem.P.truthy_int ⟨H,I,q⟩
 |str y =>
  obtain⟨t,rfl⟩:=rx;obtain⟨hy,e'⟩:y.length≤sizeLine∧k=((y.length:Int) != 0):=e;subst e';exact PySem.P.truthy_str (by omega) ⟨H,I.tok _,q⟩
 |byt y =>
  obtain⟨t,rfl⟩:=rx;obtain⟨hy,e'⟩:y.size≤sizeLine∧k=((y.size:Int) != 0):=e;subst e';exact PySem.W.truthy_bytes (by omega) ⟨H,I.tok _,q⟩
 |ref p =>
  cases rx;have e':(∃xs,SqL X.K H p xs∧k = !xs.isEmpty)∨(∃xs,SqT X.K H p xs∧k = !xs.isEmpty)∨∃kvs,H p=some (.dK kvs)∧k = !kvs.isEmpty:=e;rcases e' with⟨xs,hx,e'⟩|⟨xs,hx,e'⟩|⟨kvs,hx,e'⟩
  ·subst e';obtain⟨its,r,pl,hz⟩:=I.list hx;have hlen:=r.length;exact wpAny_truthy_list pl.isList (by simp only[size_toArray];omega) ⟨H,I.tok _,by rw[iT r];exact q⟩
  ·subst e';obtain⟨its,r,pl,hz⟩:=I.tuple hx;have hlen:=r.length;exact truthy_tuple pl (by simp only[size_toArray];omega) ⟨H,I.tok _,by rw[iT r];exact q⟩
  ·subst e';obtain⟨hz,hS,vs,r,m⟩:kvs.length≤sizeLine∧(p==sysModules)=false∧∃vs,KV kvs vs∧s.heap.DictOf (aG X.prog X.w) p vs:=I.hok p _ hx;have hlen:kvs.length=vs.length:=Paired.length r;exact wpAny_truthy_dict hS m (by omega) ⟨H,I.tok _,by rw[nY r];exact q⟩
 |_=>exact(show False from e).elim
theorem lN(ha:PE X a ta)(he:∀whole,isTrue a X.env whole=(do let v ← whole;standAt a.pos;holding [v] (truthy v))):
  PT X a (λσ H Q=>ta σ H λx H'=>∃k,za X.K x H' k∧Q k H'):=by
 intro pins s σ H Q I h;exact isTrue_plain (thn (ha pins s σ H _ I h) λv s1 ⟨x,H1,I1,r1,q1⟩=>xu pins s1 σ H1 x v Q I1 r1 q1) (he _)
theorem dE{x:V}{us:List Value}(r:aw [x] us):∃u,us=[u]∧aA x u:=by
 cases r with
 |cons r1 r2=>cases r2;exact⟨_,rfl,r1⟩
theorem wO{x y:V}{us:List Value}(r:aw [x,y] us):∃u w',us=[u,w']∧aA x u∧aA y w':=by
 cases r with
 |cons r1 r2 =>
  cases r2 with
  |cons r3 r4=>cases r4;exact⟨_,_,rfl,r1,r3⟩
end
structure ObjM(h:Heap)(x dx C:Addr)(mA:Str→Option Value):Prop where
 obj:h.get? x=some (instObj C dx)
 ns:h.Ns1 dx mA
 ne:dx≠x
theorem qF{h:Heap}{dx:Addr}{mA:Str→Option Value}(n:h.Ns1 dx mA):∃od,h.get? dx=some od∧∀name,lookIn name od=some (mA name):=by
 obtain⟨o,es,ep,ho,hd,hk,_,hm⟩:=n;refine⟨o,ho,λname=>?_⟩;have e:=hm name;unfold nsFind findBy at e;rw[←Array.find?_toList]at e;unfold lookIn;rw[hd];dsimp only
 split
 ·rename_i y q
  rw[q]at e;exact congrArg some e
 ·rename_i q
  rw[q]at e;have a:es.toList.any (·.refKey)=false:=by
   rw[List.any_eq_false];intro y hy;obtain⟨z,t,hkey⟩:=hk y (Array.mem_toList_iff.mp hy);simp[DictEntry.refKey,hkey]
  have a':¬es.toList.any (·.refKey)=true:=by rw[a];exact Bool.false_ne_true
  rw[if_neg a'];exact congrArg some e
theorem ObjM.look{h:Heap}{x dx C:Addr}{mA:Str→Option Value}(I:ObjM h x dx C mA):∃od,PySem.W.InstAt h x (instObj C dx) C (some od)∧∀name,lookIn name od=some (mA name) :=
 let⟨od,ho,hl⟩:=qF I.ns
 ⟨od,⟨I.obj,rfl,rfl,ho⟩,hl⟩
section
variable{prog:Program}{w:World}{A:Around}{E:Value→Shared→Prop}{s:Shared}{K:PySem.W.Frag}{x dx C f:Addr}{mA:Str→Option Value}{name:Str}{v:Value}
theorem uS{expr:Bool}{Q:Value→Shared→Prop}(X:K.In s.heap)(I:ObjM s.heap x dx C mA)(hg:plainGet K C name=true)(hh:hasDictIn K C=true)(ha:PySem.W.findIn K (.ref C) name=some none)(hv:mA name=some v)(hv':handedIn v=true)(h:Q v {s with toks:=s.toks+1}):
  wpAny (model prog w) A (getAttr (.ref x) name expr) Q E s:=by
 obtain⟨od,J,hl⟩:=I.look;exact PySem.W.get_value X J (plainGet_of hg).1 (PySem.W.findObj_own hh ha rfl (by rw[hl,hv])) hv' h
theorem rS{pl:Sem Bool}{Q:Value×List Value→Shared→Prop}(X:K.In s.heap)(I:ObjM s.heap x dx C mA)(hg:plainGet K C name=true)(hf:PySem.W.findIn K (.ref C) name=some (some (.ref f)))(ht:isFn K (.ref f)=true)(hv:mA name=none)(h:Q (.ref f,[.ref x]) s):
  wpAny (model prog w) A (getMethod (.ref x) name pl) Q E s:=by
 obtain⟨od,J,hl⟩:=I.look;exact PySem.W.method_fn X J (plainGet_of hg).1 (plainGet_of hg).2 hf (beq_iff_eq.mp ht) (by show(lookIn name od).map (·.isSome)=some false;rw[hl,hv];rfl) h
theorem uT{ns:List Str}{Q:Unit→Shared→Prop}(X:K.In s.heap)(I:ObjM s.heap x dx C mA)(hs:PySem.W.findIn K (.ref C) "__setattr__"=some (some (.builtin "object.__setattr__")))(hp:plainOver K C=true)(ht:takerIn K C name=some none)(hh:hasDictIn K C=true)(hw:PySem.Within mA ns)(hsz:ns.length≤sizeLine)(h:∀h',ObjM h' x dx C (λy=>if y=name then some v else mA y)→SameBut dx s.heap h'→Q () {s with heap:=h',toks:=s.toks+2}):
  wpAny (model prog w) A (setAttr (.ref x) name v) Q E s:=by
 obtain⟨od,J,hl⟩:=I.look;refine PySem.W.set_plain X J hs (PySem.W.osa_open (s:={s with toks:=s.toks+1}) (r:=none) X J hp ht λb=>?_);obtain⟨cd,hc,hd'⟩:=PySem.W.any_some hh;have hx:s.heap.get? x=some ⟨.ref C,some dx,.plain,#[]⟩:=I.obj;refine wpAny_bind (wpAny_pure (wpAny_bind (wpAny_bind (wpAny_loadPart hx (wpAny_bind (PySem.W.Looks.here (s:={s with toks:=s.toks+1}) (PySem.W.looks_clsIn X hc) ?_))))));rw[hd'];refine wpAny_pure (a:=some dx) (wpAny_bind (wpAny_pure (wpAny_bind ?_)));refine wpAny_nsSet1 (s:={s with toks:=s.toks+1}) I.ns λh' hn2 hs2=>?_;obtain⟨oD,esD,epD,hoD,hdD,hcD⟩:=hn2.count (PySem.Within.cons name v hw);refine wpAny_bind (wpAny_lookBehind hoD (by rw[hdD];exact pastItsLine_dict (le_trans hcD (by rw[length_cons];omega))) ?_);exact wpAny_pure (h _ ⟨(hs2.2 _ (symm I.ne)).trans I.obj,hn2,I.ne⟩ hs2)
theorem rT{R:Result→Shared→Prop}{vs:List Value}{kw:List (Str×Value)}(X:K.In s.heap)(hm:makesIn K C=true)(hi:PySem.W.findIn K (.ref C) "__init__"=some (some (.ref f)))(hf:PySem.W.typeIn K (.ref f)=some (.type "function"))(h:codeAny (model prog w) (A.under (.builtin "type.__call__" ⟨.ref C::vs,kw⟩)) (.call (.ref f) ⟨.ref (s.heap.objs.size+1)::vs,kw⟩) (PySem.W.InitBack (s.heap.objs.size+1) R)
   {s with heap:=(s.heap.push emptyDict).push (instObj C s.heap.objs.size)}):
  codeAny (model prog w) A (.call (.ref C) ⟨vs,kw⟩) R s:=by
 obtain⟨hh,g,d,t,os⟩:=s;exact PySem.W.make_core (PySem.W.makes_of X hm) (PySem.W.looks_findIn X hi) (λself=>PySem.W.bind_fn X self hf) (.inl rfl) h
end
def cM(f:Str)(v:V):List (Str×V)→List (Str×V)
 |[]=>[(f,v)]
 |(g,x)::r=>if g=f then (g,v)::r else (g,x)::cM f v r
theorem iu(f g:Str)(v:V):∀fs:List (Str×V),(cM f v fs).lookup g=if g=f then some v else fs.lookup g
 |[]=>by
  show List.lookup g [(f,v)]=_
  by_cases h:g=f
  ·have hb:(g==f)=true:=beq_iff_eq.mpr h;simp only[List.lookup,hb,if_pos h]
  ·have hb:(g==f)=false:=beq_eq_false_iff_ne.mpr h;simp only[List.lookup,hb,if_neg h]
 |(k,x)::r=>by
  have ih:=iu f g v r;rw[show cM f v ((k,x)::r)=(if k=f then (k,v)::r else (k,x)::cM f v r)from rfl]
  by_cases hk:k=f
  ·rw[if_pos hk]
   by_cases h:g=k
   ·have hb:(g==k)=true:=beq_iff_eq.mpr h;simp only[List.lookup,hb,if_pos (h.trans hk)]
   ·have hb:(g==k)=false:=beq_eq_false_iff_ne.mpr h;simp only[List.lookup,hb,if_neg (λe:g=f=>h (e.trans hk.symm))]
  ·rw[if_neg hk]
   by_cases h:g=k
   ·have hb:(g==k)=true:=beq_iff_eq.mpr h;simp only[List.lookup,hb,if_neg (λe:g=f=>hk (h.symm.trans e))]
   ·have hb:(g==k)=false:=beq_eq_false_iff_ne.mpr h;simp only[List.lookup,hb];exact ih
theorem hV(f:Str)(v:V):∀fs:List (Str×V),f∈(cM f v fs).map (·.1)∧∀g,g∈fs.map (·.1)→g∈(cM f v fs).map (·.1)
 |[]=>⟨by simp[cM],λg h=>by simp at h⟩
 |(k,x)::r=>by
  obtain⟨i1,i2⟩:=hV f v r;rw[show cM f v ((k,x)::r)=(if k=f then (k,v)::r else (k,x)::cM f v r)from rfl]
  by_cases hk:k=f
  ·rw[if_pos hk];subst hk;exact⟨by simp,λg h=>by simpa using h⟩
  ·rw[if_neg hk];refine⟨?_,λg h=>?_⟩
   ·rw[map_cons];exact mem_cons_of_mem _ i1
   ·rw[map_cons]at h⊢;rcases mem_cons.mp h with e|e
    ·exact mem_cons.mpr (.inl e)
    ·exact mem_cons_of_mem _ (i2 g e)
theorem iw(f:Str)(v:V):∀fs:List (Str×V),(cM f v fs).length≤fs.length+1
 |[]=>by simp[cM]
 |(k,x)::r=>by
  have ih:=iw f v r;rw[show cM f v ((k,x)::r)=(if k=f then (k,v)::r else (k,x)::cM f v r)from rfl]
  by_cases hk:k=f
  ·rw[if_pos hk,length_cons,length_cons];omega
  ·rw[if_neg hk,length_cons,length_cons];omega
theorem dD.some_of{v:V}{o:Option Value}(r:dD (some v) o):∃u,o=some u∧aA v u:=by
 cases o with
 |none=>exact(show False from r).elim
 |some u=>exact⟨u,rfl,r⟩
theorem dD.none_of{o:Option Value}(r:dD none o):o=none:=by
 cases o with
 |none=>rfl
 |some u=>exact(show False from r).elim
theorem qG{v:V}{u:Value}(r:aA v u):handedIn u=true:=by
 cases v with
 |non=>cases (show u=Value.none from r);rfl
 |bl b=>cases (show u=Value.bool b from r);rfl
 |int i=>obtain⟨t,e⟩:=(show ∃t,u=Value.int i t from r);cases e;rfl
 |str x=>obtain⟨t,e⟩:=(show ∃t,u=Value.str x t from r);cases e;rfl
 |byt b=>obtain⟨t,e⟩:=(show ∃t,u=bytes b t from r);cases e;rfl
 |flt b=>obtain⟨t,e⟩:=(show ∃t,u=float b t from r);cases e;rfl
 |ref a=>cases (show u=Value.ref a from r);rfl
 |ty n=>cases (show u=Value.type n from r);rfl
section
variable{P:Program}{w:World}{H H':Hp}{h h':Heap}{a C dx:Addr}{fs fs':List (Str×V)}
theorem iI(hok:HOk P w H h)(e:H a=some (.ins C dx fs)):∃mA,ObjM h a dx C mA∧(∀f,dD (fs.lookup f) (mA f))∧PySem.Within mA (fs.map (·.1))∧fs.length≤1000∧H dx=some (.own a):=by
 obtain⟨d,z,ne,ob,mA,n,r,q⟩:=(show bf P w H h a (.ins C dx fs)from hok a _ e);exact⟨mA,⟨ob,n,ne⟩,r,q,z,d⟩
end
structure Cls(K:PySem.W.Frag)(C:Addr):Prop where
 pg:plainGet K C empty=true
 hd:hasDictIn K C=true
 po:plainOver K C=true
 sa:PySem.W.findIn K (.ref C) "__setattr__"=some (some (.builtin "object.__setattr__"))
theorem Cls.get{K:PySem.W.Frag}{C:Addr}(c:Cls K C)(f:Str):plainGet K C f=true:=c.pg
def di(K:PySem.W.Frag)(C:Addr)(f:Str):Prop:=PySem.W.findIn K (.ref C) f=some none
theorem di.taker{K:PySem.W.Frag}{C:Addr}{f:Str}(n:di K C f):takerIn K C f=some none:=by
 unfold takerIn;rw[show PySem.W.findIn K (.ref C) f=some none from n];rfl
structure Meth(K:PySem.W.Frag)(C:Addr)(m:Str)(f:Addr):Prop where
 at_:PySem.W.findIn K (.ref C) m=some (some (.ref f))
 fn:isFn K (.ref f)=true
 kp:keepIn K (.ref f)=true
section
variable{X:Cx}{pins:List (Addr×Obj)}{σ:St}{H:Hp}{s:Shared}{a C dx:Addr}{fs:List (Str×V)}{f:Str}{v:V}{A:Around}{E:Value→Shared→Prop}
theorem nZ{b:Bool}{Q:Value→Shared→Prop}(I:Inv X pins σ H s)(e:H a=some (.ins C dx fs))(c:Cls X.K C)(n:di X.K C f)(l:fs.lookup f=some v)(h:∀u s',Inv X pins σ H s'→aA v u→Q u s'):wpAny (model X.prog X.w) A (getAttr (.ref a) f b) Q E s:=by
 obtain⟨mA,O,r,_,_,_⟩:=iI I.hok e;obtain⟨u,hu,ru⟩:=dD.some_of (v:=v) (o:=mA f) (by rw[←l];exact r f);exact uS I.kIn O (c.get f) c.hd n hu (qG ru) (h u _ (I.tok _) ru)
theorem iV{m:Str}{g:Addr}{pl:Sem Bool}{Q:Value×List Value→Shared→Prop}(I:Inv X pins σ H s)(e:H a=some (.ins C dx fs))(c:Cls X.K C)(k:Meth X.K C m g)(l:fs.lookup m=none)(h:Q (.ref g,[.ref a]) s):wpAny (model X.prog X.w) A (getMethod (.ref a) m pl) Q E s:=by
 obtain⟨mA,O,r,_,_,_⟩:=iI I.hok e;have hn:mA m=none:=dD.none_of (by rw[←l];exact r m);exact rS I.kIn O (c.get m) k.at_ k.fn hn h
theorem og{y:V}{u:Value}{Q:Unit→Shared→Prop}(I:Inv X pins σ H s)(e:H a=some (.ins C dx fs))(c:Cls X.K C)(n:di X.K C f)(hl:fs.length<1000)(ry:aA y u)(h:∀s',Inv X pins σ (upd H a (.ins C dx (cM f y fs))) s'→Q () s'):wpAny (model X.prog X.w) A (setAttr (.ref a) f u) Q E s:=by
 obtain⟨mA,O,r,wi,_,ho⟩:=iI I.hok e;have hz:(fs.map (·.1)).length≤sizeLine:=by rw[length_map,sizeLine_eq];omega
 refine uT I.kIn O c.sa c.po n.taker c.hd wi hz λh' O' sb=>h _ ?_;have hd:∃o,h'.get? dx=some o:=let⟨o,_,_,e',_⟩:=O'.ns;⟨o,e'⟩;refine I.write (x:=a) (e:=dx) (by rw[e];exact True.intro) (.inr ho) (λb q hb z=>(sb.2 b hb).trans z) hd ?_;refine⟨by rw[ai O.ne];exact ho,?_,O.ne,O'.obj,_,O'.ns,λg=>?_,λg hg=>?_⟩
 ·have:=iw f y fs;omega
 ·show dD ((cM f y fs).lookup g) (if g=f then some u else mA g);rw[iu]
  by_cases q:g=f
  ·rw[if_pos q,if_pos q];exact ry
  ·rw[if_neg q,if_neg q];exact r g
 ·by_cases q:g=f
  ·rw[q];exact(hV f y fs).1
  ·refine(hV f y fs).2 g (wi g λz=>hg ?_);show(if g=f then some u else mA g)=none;rw[if_neg q];exact z
theorem Inv.made(I:Inv X pins σ H s):Inv X pins σ (upd (upd H s.heap.objs.size (.own (s.heap.objs.size+1))) (s.heap.objs.size+1) (.ins C s.heap.objs.size []))
  {s with heap:=(s.heap.push emptyDict).push (instObj C s.heap.objs.size)}:=by
 have e1:(s.heap.push emptyDict).get? s.heap.objs.size=some emptyDict:=get?_push_size s.heap rfl;have e2:((s.heap.push emptyDict).push (instObj C s.heap.objs.size)).get? (s.heap.objs.size+1)=some (instObj C s.heap.objs.size):=by
  have:=get?_push_size (s.heap.push emptyDict) (o:=instObj C s.heap.objs.size) rfl
  rwa [size_push]at this
 have e3:(s.heap.push emptyDict).Ns s.heap.objs.size (λ_=>none):=⟨emptyDict,#[],_,e1,rfl,(λe he=>absurd he (by simp)),λ_=>rfl⟩;have I1:=I.laid (a:=s.heap.objs.size) (o:=.own (s.heap.objs.size+1)) (h':=s.heap.push emptyDict) (t':=s.toks) (λb u q=>get?_push_of_some _ q) (le_refl _) ⟨_,e1⟩;refine I1.laid (a:=s.heap.objs.size+1) (o:=.ins C s.heap.objs.size []) (t':=s.toks) (λb u q=>get?_push_of_some _ q) (le_of_eq (size_push _ _)) ?_;have ne:s.heap.objs.size≠s.heap.objs.size+1:=ne_of_lt (Nat.lt_succ_self _);refine⟨by rw[ai ne,ac],zero_le _,ne,e2,λ_=>none,(Heap.Ns1.of_empty e3).at λo q=>get?_push_of_some _ q,λ_=>True.intro,λy hy=>absurd rfl hy⟩
theorem uU{prog:Program}{w:World}{env:Env}{e:Expr}{f:Str}{pos:Pos}{s:Shared}{Q:Value→Shared→Prop}(hb:attributeBase e f env (eval e env)=eval e env)(h:wpAny (model prog w) A (eval e env) (λo s₁=>wpAny (model prog w) A (getAttr o f true) Q E s₁) E s):wpAny (model prog w) A (eval (.Attribute e f pos) env) Q E s :=
 Attribute_any_ h (by rw[arm_eval_Attribute,hb])
end
def Ag(K:PySem.W.Frag)(ta:TE)(f:Str):TE:=λσ H Q=>ta σ H λx H1=>∃a C dx fs v,x=.ref a∧H1 a=some (.ins C dx fs)∧Cls K C∧di K C f∧fs.lookup f=some v∧Q v H1
def Ah(K:PySem.W.Frag)(ta tv:TE)(f:Str):TS:=λD σ H=>tv σ H λy H1=>ta σ H1 λx H2=>∃a C dx fs,x=.ref a∧H2 a=some (.ins C dx fs)∧Cls K C∧di K C f∧fs.length<1000 ∧
 D.nx σ (upd H2 a (.ins C dx (cM f y fs)))
section
variable{X:Cx}{o e value:Expr}{f:Str}{pos pos' tpos:Pos}{ta tv:TE}
theorem aX(he:PE X e ta)(hb:attributeBase e f X.env (eval e X.env)=eval e X.env):PE X (.Attribute e f pos) (Ag X.K ta f):=by
 intro pins s σ H Q I h;refine uU hb (thn (he pins s σ H _ I h) λu s1 hpt=>?_);obtain⟨x,H1,I1,rx,a,C,dx,fs,v,ex,ea,c,n,l,q⟩:=hpt;subst ex;obtain rfl:u=Value.ref a:=rx;exact nZ I1 ea c n l λu' s2 I2 ru=>⟨v,H1,I2,ru,q⟩
theorem dw(ha:PE X o ta)(hv:PE X value tv)(hs:swapsWith value (some (.Attribute o f pos')) pos.line X.env=pure false):PS X (.Assign [.Attribute o f pos'] value pos) (Ah X.K ta tv f):=by
 intro pins s σ H D I h;refine plainObj_wpAny_Assign_Attribute (thn (hv pins s σ H _ I h) λu s1 ⟨y,H1,I1,ry,q⟩=>thn (ha pins s1 σ H1 _ I1 q) λov s2 ⟨x,H2,I2,rx,a,C,dx,fs,ex,ea,c,n,l,q2⟩=>?_) hs;subst ex;obtain rfl:ov=Value.ref a:=rx;exact og I2 ea c n l ry λs3 I3=>⟨σ,_,I3,q2⟩
end
section
variable{X:Cx}{pins:List (Addr×Obj)}{σ:St}{H:Hp}{s:Shared}{A:Around}{E:Value→Shared→Prop}{Q:Value→Shared→Prop}{c:Value}{b:Bool}
inductive TyOf(K:PySem.W.Frag)(H:Hp):V→Value→Prop where
 |non:TyOf K H .non (.type "NoneType")
 |bl (x:Bool):TyOf K H (.bl x) (.type "bool")
 |int (i:Int):TyOf K H (.int i) (.type "int")
 |str (x:Str):TyOf K H (.str x) (.type "str")
 |flt (x:UInt64):TyOf K H (.flt x) (.type "float")
 |lst {a:Addr} {xs:List V} (e:H a=some (.lst xs)):TyOf K H (.ref a) (.type "list")
 |frz {a:Addr} {o:Obj} {xs:List V} (e:H a=some (.frz o (.lst xs))):TyOf K H (.ref a) (.type "list")
 |tup {a:Addr} {xs:List V} (e:H a=some (.tup xs)):TyOf K H (.ref a) (.type "tuple")
 |dK {a:Addr} {kvs:List (Key×V)} (e:H a=some (.dK kvs)):TyOf K H (.ref a) (.type "dict")
 |dT {a:Addr} {kvs:List (List Key×V)} (e:H a=some (.dT kvs)):TyOf K H (.ref a) (.type "dict")
 |ins {a C dx:Addr} {fs:List (Str×V)} (e:H a=some (.ins C dx fs)) (cl:Cls K C) (ha:PySem.W.findIn K (.ref C) "__class__"=some (some (.builtin "object.__class__")))
   (hn:PySem.W.specialIn K (.builtin "object.__class__") "__get__"=some (some (.builtin "getset_descriptor.__get__"))) (htk:PySem.W.takesIn K (.builtin "object.__class__")=some true)
   (hm:mroIn K C (.type "object")=some true):TyOf K H (.ref a) (.ref C)
theorem qH{x:V}{u t:Value}(I:Inv X pins σ H s)(rx:aA x u)(ty:TyOf X.K H x t)(e:kitOne X.K t c=some b)(h:∀tk,Q (.bool b) {s with toks:=tk}):
  wpAny (model X.prog X.w) A (call (.builtin "isinstance") [u,c]) Q E s:=by
 cases ty with
 |non=>cases (show u=Value.none from rx);exact kia_one PySem.W.kitx_none I.kIn True.intro e (λz=>nomatch z) h
 |bl y=>cases (show u=Value.bool y from rx);exact kia_one PySem.W.kitx_bool I.kIn True.intro e (λz=>nomatch z) h
 |int i=>obtain⟨t,q⟩:=(show ∃t,u=Value.int i t from rx);cases q;exact kia_one PySem.W.kitx_int I.kIn True.intro e (λz=>nomatch z) h
 |str y=>obtain⟨t,q⟩:=(show ∃t,u=Value.str y t from rx);cases q;exact kia_one PySem.W.kitx_str I.kIn True.intro e (λz=>nomatch z) h
 |flt y=>obtain⟨t,q⟩:=(show ∃t,u=float y t from rx);cases q;exact kia_one PySem.W.kitx_float I.kIn True.intro e (λz=>nomatch z) h
 |@lst a xs ea =>
  cases (show u=Value.ref a from rx);obtain⟨_,_,n,_,h1⟩:=(show bf X.prog X.w H s.heap a (.lst xs)from I.hok a _ ea);exact kia_one kitx_list I.kIn ⟨_,h1,rfl⟩ e (λz=>nomatch z) h
 |@frz a ob xs ea =>
  cases (show u=Value.ref a from rx);obtain⟨_,_,_,n,_,h1⟩:=(show bf X.prog X.w H s.heap a (.frz ob (.lst xs))from I.hok a _ ea);exact kia_one kitx_list I.kIn ⟨_,h1,rfl⟩ e (λz=>nomatch z) h
 |@tup a xs ea =>
  cases (show u=Value.ref a from rx);obtain⟨_,_,_,p⟩:=(show bf X.prog X.w H s.heap a (.tup xs)from I.hok a _ ea);obtain⟨o,h1,h2,_⟩:=p;exact kia_one PySem.W.kitx_tuple I.kIn ⟨o,h1,h2⟩ e (λz=>nomatch z) h
 |@dK a kvs ea =>
  cases (show u=Value.ref a from rx);obtain⟨_,_,vs,_,p⟩:=(show bf X.prog X.w H s.heap a (.dK kvs)from I.hok a _ ea);obtain⟨o,es,ep,h1,h2,_⟩:=p;exact kia_one kitx_dict I.kIn ⟨o,h1,h2.1⟩ e (λz=>nomatch z) h
 |@dT a kvs ea =>
  cases (show u=Value.ref a from rx);obtain⟨_,_,xs,_,o,es,ep,h1,h2,_⟩:=(show bf X.prog X.w H s.heap a (.dT kvs)from I.hok a _ ea);exact kia_one kitx_dict I.kIn ⟨o,h1,h2.1⟩ e (λz=>nomatch z) h
 |@ins a C dx fs ea cl ha hn htk hm =>
  cases (show u=Value.ref a from rx);obtain⟨mA,O,_⟩:=iI I.hok ea;obtain⟨od,J,_⟩:=O.look;exact kia_one (PySem.W.kitx_own (cl.get _) cl.hd ha hn htk hm) I.kIn J e (λz=>nomatch z) h
end
structure Room(k:Nat)(A:Around):Prop where
 hd:A.handled=none
 dp:A.depth+3*k+5<recursionLimit
 un:A.units+16*k+200<cLine
 gd:A.guards=some []
theorem Room.mono{j k:Nat}{A:Around}(r:Room k A)(h:j≤k):Room j A:=⟨r.hd,by have:=r.dp;omega,by have:=r.un;omega,r.gd⟩
theorem Room.deeper{k:Nat}{A:Around}(r:Room (k+1) A)(env:Env):Room k (A.deeper env) :=
 ⟨r.hd,by have:=r.dp;show A.depth+1+3*k+5<_;omega,by have:=r.un;show A.units+3+16*k+200<_;omega,r.gd⟩
theorem ol{A:Around}{C:Addr}{us:List Value}{kw:List (Str×Value)}:(A.under (.builtin "type.__call__" ⟨.ref C::us,kw⟩)).depth=A.depth+1:=by
 first|rfl|simp[Around.under,Code.weight,Code.isCreation,Code.isGuard,Code.isCaller,Code.frames,Code.isFrame,guardIds]
theorem om{A:Around}{C:Addr}{us:List Value}{kw:List (Str×Value)}:(A.under (.builtin "type.__call__" ⟨.ref C::us,kw⟩)).units=A.units+1:=by
 first|rfl|simp[Around.under,Code.cUnits,Code.frames,Code.isFrame]
theorem lO{A:Around}{C:Addr}{us:List Value}{kw:List (Str×Value)}:(A.under (.builtin "type.__call__" ⟨.ref C::us,kw⟩)).guards=A.guards:=by
 first|rfl|(cases h:A.guards<;>simp[Around.under,pushGuards,Code.guards,Code.isGuard,guardIds,h])
theorem Room.make{k:Nat}{A:Around}(r:Room (k+1) A)(C:Addr)(us:List Value)(kw:List (Str×Value)):Room k (A.under (.builtin "type.__call__" ⟨.ref C::us,kw⟩)) :=
 ⟨r.hd,by have:=r.dp;rw[ol];omega,by have:=r.un;rw[om];omega,by rw[lO];exact r.gd⟩
theorem Room.depth{k:Nat}{A:Around}(r:Room k A):A.depth<recursionLimit:=by have:=r.dp;omega
theorem Room.units{k:Nat}{A:Around}(r:Room k A):A.units+64<cLine:=by have:=r.un;omega
theorem Room.units0{k:Nat}{A:Around}(r:Room k A):A.units<cLine:=by have:=r.un;omega
def dF:TA:=λ_ H Q=>Q [] H
def aE(ta:TE)(tr:TA):TA:=λσ H Q=>ta σ H λx H1=>tr σ H1 λxs H2=>Q (x::xs) H2
section
variable{X:Cx}{e:Expr}{es:List Expr}{te:TE}{t:TA}{pos:Pos}
theorem ae:PA X [] dF:=λ_ _ _ _ H Q I h=>spliced_nil ⟨[],H,I,.nil,h⟩
theorem aa(ha:PE X e te)(hr:PA X es t)(hs:starEach (e::es) X.env=(false,eval e X.env)::starEach es X.env:=by rfl):PA X (e::es) (aE te t):=by
 intro pos pins s σ H Q I h;rw[hs];show wpAny _ _ (spliced ((false,eval e X.env)::backTo pos (starEach es X.env))) _ _ s;refine spliced_cons (thn (ha pins s σ H _ I h) λu s1 hpt=>?_);obtain⟨x,H1,I1,r1,q1⟩:=hpt;exact thn (hr pos pins s1 σ H1 _ I1 q1) λus s2 ⟨xs,H2,I2,r2,q2⟩=>⟨x::xs,H2,I2,.cons r1 r2,q2⟩
def iD(t:TA):TE:=λσ H Q=>t σ H λxs H1=>xs.length≤sizeLine∧∀p,H1 p=none→Q (.ref p) (upd H1 p (.tup xs))
def Ai(t:TA):TE:=λσ H Q=>t σ H λxs H1=>xs.length≤sizeLine∧∀p,H1 p=none→Q (.ref p) (upd H1 p (.lst xs))
theorem aK{x1}(h:PA X es t):PE X (.Tuple es x1 pos) (iD t):=by
 intro pins s σ H Q I hq;refine wpAny_Tuple_spliced (thn (h pos pins s σ H _ I hq) λus s1 ⟨xs,H1,I1,r,z,q⟩=>⟨by rw[←r.length];exact z,?_⟩);have hf:H1 s1.heap.objs.size=none:=I1.hok.fresh (le_refl _);refine⟨.ref s1.heap.objs.size,upd H1 s1.heap.objs.size (.tup xs),I1.laid (t':=s1.toks) (λb u e=>get?_push_of_some _ e) (le_refl _) ?_,rfl,q _ hf⟩;exact⟨z,us,r,⟨_,get?_push_size _ rfl,rfl,_,rfl⟩⟩
theorem aY(h:PA X es t):PE X (.List es pos) (Ai t):=by
 intro pins s σ H Q I hq;refine wpAny_List_spliced (thn (h pos pins s σ H _ I hq) λus s1 ⟨xs,H1,I1,r,z,q⟩=>⟨by rw[←r.length];exact z,?_⟩);have hf:H1 s1.heap.objs.size=none:=I1.hok.fresh (le_refl _);refine⟨.ref s1.heap.objs.size,upd H1 s1.heap.objs.size (.lst xs),I1.laid (t':=s1.toks) (λb u e=>get?_push_of_some _ e) (le_refl _) ?_,rfl,q _ hf⟩;exact⟨z,us,0,r,get?_push_size _ rfl⟩
end
abbrev Sp:=List V→Hp→VK→XK→Prop
abbrev CXT:=List Env→Hp→Shared→XK→Value→Shared→Prop
structure Env0(P:Program)(w:World)(K:PySem.W.Frag)(mg:Str→Option Value)(base:Heap)(A:Around)(outer:List Env)(s:Shared)(H:Hp):Prop where
 frames:A.frames=some outer
 mod:Mod K mg base
 bs:∀b o,base.get? b=some o→s.heap.get? b=some o∧H b=none
 bsz:base.objs.size≤s.heap.objs.size
 funs:s.heap.FunFrames base outer
 frf:∀b∈frs outer,H b=none
 hok:HOk P w H s.heap
 bare:AllBare s.gens
def CE(outer:List Env)(P:Program)(w:World)(H:Hp)(s:Shared)(Q:VK)(u:Value)(s':Shared):Prop :=
 ∃v H',s'.os=s.os∧AllBare s'.gens∧Un (frs outer) [] H H' s.heap s'.heap∧HOk P w H' s'.heap∧aA v u∧Q v H'
def CR(CX:CXT)(outer:List Env)(P:Program)(w:World)(H:Hp)(s:Shared)(Q:VK)(E:XK)(r:Result)(s':Shared):Prop :=
 match r with
 |.ok (.ret u)=>CE outer P w H s Q u s'
 |.ok _=>False
 |.error e=>CX outer H s E e s'
structure FnOk(P:Program)(w:World)(K:PySem.W.Frag)(mg:Str→Option Value)(base:Heap)(CX:CXT)(k:Nat)(f:Addr)(fd:FuncData)(ps:List Str)(sp:Sp):Prop where
 len:∀vs H Q E,sp vs H Q E→vs.length=ps.length
 run:∀(A:Around)(outer:List Env)(s:Shared)(H:Hp)(args:Args)(us:List Value)(vs:List V)(Q:VK)(E:XK),Room k A→Env0 P w K mg base A outer s H→BindsTo s fd args (ps.zip us)→aw vs us→sp vs H Q E →
  codeAny (model P w) A (.call (.ref f) args) (CR CX outer P w H s Q E) s
theorem FnOk.imp{P:Program}{w:World}{K:PySem.W.Frag}{mg:Str→Option Value}{base:Heap}{CX:CXT}{k:Nat}{f:Addr}{fd:FuncData}{ps:List Str}{sp sp':Sp}(F:FnOk P w K mg base CX k f fd ps sp)(h:∀vs H Q E,sp' vs H Q E→sp vs H Q E):FnOk P w K mg base CX k f fd ps sp' :=
 ⟨λvs H Q E q=>F.len vs H Q E (h _ _ _ _ q),λA outer s H args us vs Q E hr he hb hv hs=>F.run A outer s H args us vs Q E hr he hb hv (h _ _ _ _ hs)⟩
theorem Env0.make{P:Program}{w:World}{K:PySem.W.Frag}{mg:Str→Option Value}{base:Heap}{A:Around}{outer:List Env}{s:Shared}{H:Hp}(e:Env0 P w K mg base A outer s H)(C:Addr)(us:List Value)(kw:List (Str×Value)):
  Env0 P w K mg base (A.under (.builtin "type.__call__" ⟨.ref C::us,kw⟩)) outer s H:=⟨by first|exact e.frames|(simpa [Around.under,Code.envs,Code.isFrame,pushEnvs]using e.frames),e.mod,e.bs,e.bsz,e.funs,e.frf,e.hok,e.bare⟩
section
variable{X:Cx}{pins:List (Addr×Obj)}{σ:St}{H:Hp}{s s':Shared}
theorem Inv.env0(I:Inv X pins σ H s):Env0 X.prog X.w X.K X.mg X.base X.A X.stack s H :=
 ⟨I.ok.frames,I.ok.mod,I.bs,le_trans I.ok.bsz I.sz,I.stack,I.stkFree,I.hok,I.bare⟩
theorem Inv.after{Q:VK}{u:Value}(I:Inv X pins σ H s)(h:CE X.stack X.prog X.w H s Q u s'):EP X pins σ Q u s':=by
 obtain⟨v,H',os,bare,un,hok,r,q⟩:=h;obtain⟨hh,g,d,t,os'⟩:=s';obtain rfl:os'=s.os:=os;exact⟨v,H',I.call (h':=hh) (g':=g) (d':=d) (t':=t) (ch:=[]) un hok bare (λb z=>absurd z (by simp)),r,q⟩
end
def lP(sp:Sp)(dvs:List V)(E:XK)(t:TA):TE:=λσ H Q=>t σ H λvs H1=>sp (vs++dvs) H1 Q E
def wP(C:Addr)(m:Str)(sp:Sp)(dvs:List V)(E:XK)(ta:TE)(t:TA):TE:=λσ H Q=>ta σ H λx H1=>∃a dx fs,x=.ref a∧H1 a=some (.ins C dx fs)∧fs.lookup m=none ∧
 t σ H1 λvs H2=>sp (x::(vs++dvs)) H2 Q E
def zb(C:Addr)(sp:Sp)(dvs:List V)(E:XK)(t:TA):TE:=λσ H Q=>t σ H λvs H1=>∀x dx,H1 x=none→H1 dx=none→dx≠x →
 sp (.ref x::(vs++dvs)) (upd (upd H1 dx (.own x)) x (.ins C dx [])) (λv H2=>v=.non∧Q (.ref x) H2) E
def aq(K:PySem.W.Frag)(fd:FuncData)(ps:List Str)(ds:List Value):Prop :=
 ∀(s:Shared)(us:List Value),K.In s.heap→(us++ds).length=ps.length→BindsTo s fd ⟨us,[]⟩ (ps.zip (us++ds))
theorem aq.all{K:PySem.W.Frag}{fd:FuncData}{ps:List Str}(h:∀us:List Value,us.length=ps.length→bindArgs fd ⟨us,[]⟩=pure (ps.zip us)):aq K fd ps []:=λs us _ hl=>by
 rw[append_nil]at hl⊢;exact .of_eq (h us hl)
def cr(CX:CXT)(X:Cx)(E:XK):Prop:=∀(pins:List (Addr×Obj))(σ:St)(H:Hp)(s:Shared)(e:Value)(s':Shared),Inv X pins σ H s→CX X.stack H s E e s'→X.xe e s'
section
variable{X:Cx}{CX:CXT}{k:Nat}{f C:Addr}{fd:FuncData}{ps:List Str}{sp:Sp}{dvs:List V}{ds:List Value}{E:XK}{x m:Str}{p pos apos:Pos}{e o:Expr}{es:List Expr}{ta:TE}{t:TA}
theorem la{pins:List (Addr×Obj)}{σ:St}{H:Hp}{s:Shared}{Q:VK}{us:List Value}{vs:List V}(F:FnOk X.prog X.w X.K X.mg X.base CX k f fd ps sp)(hr:Room k X.A)(hb:aq X.K fd ps ds)(hd:aw dvs ds)(hx:cr CX X E)(I:Inv X pins σ H s)(r:aw vs us)(h:sp (vs++dvs) H Q E):wpAny (model X.prog X.w) X.A (call (.ref f) us) (EP X pins σ Q) X.xe s:=by
 have r2:aw (vs++dvs) (us++ds):=r.append hd;have hl:(us++ds).length=ps.length:=by rw[←r2.length];exact F.len _ _ _ _ h
 refine wpAny_call (codeAny_mono (F.run X.A X.stack s H ⟨us,[]⟩ (us++ds) (vs++dvs) Q E hr I.env0 (hb s us I.kIn hl) r2 h) λr s' hq=>?_);cases r with
 |error e=>exact hx pins σ H s e s' I hq
 |ok fl =>
  cases fl with
  |ret u=>exact I.after hq
  |next=>exact False.elim hq
  |brk=>exact False.elim hq
  |cont=>exact False.elim hq
theorem ar(F:FnOk X.prog X.w X.K X.mg X.base CX k f fd ps sp)(hr:Room k X.A)(hg:Gl X x)(hm:X.mg x=some (.ref f))(hk:keepIn X.K (.ref f)=true)(hb:aq X.K fd ps ds)(hd:aw dvs ds)(hx:cr CX X E)(ha:PA X (e::es) t)(hdb:(x==("__debug__":Str))=false:=by decide)(he:starEach (e::es) X.env=(false,eval e X.env)::starEach es X.env:=by rfl)(hpl:(backTo pos (starEach es X.env)).any (·.1)=false:=by rfl):
  PE X (.Call (.Name x p) (e::es) [] pos) (lP sp dvs E t):=by
 intro pins s σ H Q I h;refine wpAny_Call_Name_kw (eZ I hg hm ?_ hdb);refine callWith_K (h₀:=X.base) I.ok.mod.kin hk (thn (ha pos pins s σ H _ I h) λus s1 ⟨vs,H1,I1,r,q⟩=>⟨I1.kIn,?_⟩) he hpl;exact la F hr hb hd hx I1 r q
theorem ba{pl:Sem Bool}(he:PE X o ta)(c:Cls X.K C)(hm:Meth X.K C m f)(F:FnOk X.prog X.w X.K X.mg X.base CX k f fd ps sp)(hr:Room k X.A)(hb:aq X.K fd ps ds)(hd:aw dvs ds)(hx:cr CX X E)(ha:PA X (e::es) t)(hst:starEach (e::es) X.env=(false,eval e X.env)::starEach es X.env:=by rfl)(hpl:(backTo pos (starEach es X.env)).any (·.1)=false:=by rfl)(ht:eval (.Call (.Attribute o m apos) (e::es) [] pos) X.env=(do
   let ov ← eval o X.env
   standAt apos.atName
   let(f,first) ← holding [ov] (getMethod ov m pl)
   callWith pos f first (backTo pos (starEach (e::es) X.env)) (backToKw pos (keywordEach [] X.env))):=by rfl):
  PE X (.Call (.Attribute o m apos) (e::es) [] pos) (wP C m sp dvs E ta t):=by
 intro pins s σ H Q I h;refine methodCall_KW (pl:=pl) (thn (he pins s σ H _ I h) λu s1 ⟨x,H1,I1,rx,a,dx,fs,ex,ea,l,q⟩=>?_) ht;subst ex;obtain rfl:u=Value.ref a:=rx;refine iV I1 ea c hm l ?_;refine callWith_K (first:=[.ref a]) (h₀:=X.base) I.ok.mod.kin hm.kp (thn (ha pos pins s1 σ H1 _ I1 q) λus s2 ⟨vs,H2,I2,r,q2⟩=>⟨I2.kIn,?_⟩) hst hpl;exact la (us:=.ref a::us) (vs:=.ref a::vs) F hr hb hd hx I2 (.cons rfl r) q2
theorem cu{pl:Sem Bool}(he:PE X o ta)(c:Cls X.K C)(hm:Meth X.K C m f)(F:FnOk X.prog X.w X.K X.mg X.base CX k f fd ps sp)(hr:Room k X.A)(hb:aq X.K fd ps ds)(hd:aw dvs ds)(hx:cr CX X E)(ht:eval (.Call (.Attribute o m apos) [] [] pos) X.env=(do
   let ov ← eval o X.env
   standAt apos.atName
   let(f,first) ← holding [ov] (getMethod ov m pl)
   callWith pos f first (backTo pos (starEach [] X.env)) (backToKw pos (keywordEach [] X.env))):=by rfl):
  PE X (.Call (.Attribute o m apos) [] [] pos) (wP C m sp dvs E ta dF):=by
 intro pins s σ H Q I h;refine methodCall_KW (pl:=pl) (thn (he pins s σ H _ I h) λu s1 ⟨x,H1,I1,rx,a,dx,fs,ex,ea,l,q⟩=>?_) ht;subst ex;obtain rfl:u=Value.ref a:=rx;refine iV I1 ea c hm l ?_;exact PySem.W.callWith_K0 (first:=[.ref a]) I1.kIn hm.kp (la (us:=[.ref a]) (vs:=[.ref a]) F hr hb hd hx I1 (.cons rfl .nil) q)
structure Mk(K:PySem.W.Frag)(C f:Addr):Prop where
 makes:makesIn K C=true
 init:PySem.W.findIn K (.ref C) "__init__"=some (some (.ref f))
 fn:isFn K (.ref f)=true
 kp:keepIn K (.ref C)=true
theorem rV{pins:List (Addr×Obj)}{σ:St}{H:Hp}{s:Shared}{Q:VK}{us:List Value}{vs:List V}(M:Mk X.K C f)(F:FnOk X.prog X.w X.K X.mg X.base CX k f fd ps sp)(hr:Room (k+1) X.A)(hb:aq X.K fd ps ds)(hd:aw dvs ds)(hx:cr CX X E)(I:Inv X pins σ H s)(r:aw vs us)(h:∀x dx,H x=none→H dx=none→dx≠x→sp (.ref x::(vs++dvs)) (upd (upd H dx (.own x)) x (.ins C dx [])) (λv H2=>v=.non∧Q (.ref x) H2) E):
  wpAny (model X.prog X.w) X.A (call (.ref C) us) (EP X pins σ Q) X.xe s:=by
 have hq:=h (s.heap.objs.size+1) s.heap.objs.size (I.hok.fresh (le_succ _)) (I.hok.fresh (le_refl _)) (ne_of_lt (Nat.lt_succ_self _));have I2:=Inv.made (C:=C) I;have r2:aw (V.ref (s.heap.objs.size+1)::(vs++dvs)) (Value.ref (s.heap.objs.size+1)::(us++ds)):=.cons rfl (r.append hd);have hl:(Value.ref (s.heap.objs.size+1)::us++ds).length=ps.length:=by
  have e:=r2.length;rw[F.len _ _ _ _ hq]at e;exact e.symm
 refine wpAny_call (rT (f:=f) I.kIn M.makes M.init (beq_iff_eq.mp M.fn) (codeAny_mono (F.run _ X.stack _ _ ⟨Value.ref (s.heap.objs.size+1)::us,[]⟩ (Value.ref (s.heap.objs.size+1)::(us++ds)) _ _ E (hr.make C us [])
  (I2.env0.make C us []) (hb _ (Value.ref (s.heap.objs.size+1)::us) I2.kIn hl) r2 hq) λr s' hq'=>?_))
 cases r with
 |error e=>exact hx pins σ _ _ e s' I2 hq'
 |ok fl =>
  cases fl with
  |ret u =>
   obtain⟨v,H',I3,rv,ev,q3⟩:=I2.after hq';subst ev;exact⟨rv,⟨V.ref (s.heap.objs.size+1),H',I3,rfl,q3⟩⟩
  |next=>exact False.elim hq'
  |brk=>exact False.elim hq'
  |cont=>exact False.elim hq'
theorem uV(M:Mk X.K C f)(F:FnOk X.prog X.w X.K X.mg X.base CX k f fd ps sp)(hr:Room (k+1) X.A)(hg:Gl X x)(hm:X.mg x=some (.ref C))(hb:aq X.K fd ps ds)(hd:aw dvs ds)(hx:cr CX X E)(ha:PA X (e::es) t)(hdb:(x==("__debug__":Str))=false:=by decide)(he:starEach (e::es) X.env=(false,eval e X.env)::starEach es X.env:=by rfl)(hpl:(backTo pos (starEach es X.env)).any (·.1)=false:=by rfl):
  PE X (.Call (.Name x p) (e::es) [] pos) (zb C sp dvs E t):=by
 intro pins s σ H Q I h;refine wpAny_Call_Name_kw (eZ I hg hm ?_ hdb);refine callWith_K (h₀:=X.base) I.ok.mod.kin M.kp (thn (ha pos pins s σ H _ I h) λus s1 ⟨vs,H1,I1,r,q⟩=>⟨I1.kIn,?_⟩) he hpl;exact rV M F hr hb hd hx I1 r q
end
section
variable{X:Cx}{CX:CXT}{k:Nat}{f C:Addr}{fd:FuncData}{ps ks:List Str}{sp:Sp}{E:XK}{x m:Str}{p pos apos kpos:Pos}{e o:Expr}{es:List Expr}{kws:List Keyword}{te ta:TE}{t tk:TA}{nm:Option Str}
variable{g:List Value→List Value→List Value}{gV:List V→List V→List V}
end
structure FnScope(N P:List Str)(sc:Scope):Prop where
 kind:sc.kind=.function
 co:sc.isCoroutine=false
 gen:sc.isGenerator=false
 nd:N.Nodup
 pre:N.take P.length=P
 par:∀x∈P,sc.names.lookup x=some .local∨sc.names.lookup x=some .cell
 nofree:∀y∈sc.names,y.2≠.free
theorem fsc{N P:List Str}{c:Scope}(a:c.kind=.function:=by rfl)(b:c.isCoroutine=false:=by rfl)(d:c.isGenerator=false:=by rfl)(e:N.Nodup:=by decide +kernel)(f:N.take P.length=P:=by rfl)(g:∀x∈P,c.names.lookup x=some .local∨c.names.lookup x=some .cell:=by decide +kernel)(h:∀y∈c.names,y.2≠.free:=by decide +kernel):FnScope N P c:=⟨a,b,d,e,f,g,h⟩
theorem jQ{kindOf:Str→Option NameKind}{x:Str}:∀{binds:List (Str×Value)}{m:Str→Option Value},(∀v,(x,v)∉binds)→bindL kindOf binds m x=m x
 |[],_,_=>rfl
 |(n,v)::r,m,h=>by
  unfold bindL;rw[jQ λw hw=>h w (mem_cons_of_mem _ hw)]
  split
  ·have:x≠n:=by rintro rfl;exact h v mem_cons_self
   simp[this]
  ·rfl
theorem jR{kindOf:Str→Option NameKind}{x:Str}:∀{binds:List (Str×Value)}{m:Str→Option Value},(∀v,(x,v)∉binds)→bindC kindOf binds m x=m x
 |[],_,_=>rfl
 |(n,v)::r,m,h=>by
  unfold bindC;rw[jR λw hw=>h w (mem_cons_of_mem _ hw)]
  split
  ·rfl
  ·have:x≠n:=by rintro rfl;exact h v mem_cons_self
   simp[this]
theorem hX{kindOf:Str→Option NameKind}{x:Str}{v:Value}:∀{P:List Str}{vs:List Value}{i:Nat}{m:Str→Option Value},P.Nodup→P[i]?=some x→vs[i]?=some v→kindOf x=some .local →
  bindL kindOf (P.zip vs) m x=some v
 |[],_,_,_,_,h,_,_=>by simp at h
 |_::_,[],_,_,_,_,h,_=>by simp at h
 |p::P,w::vs,0,m,nd,h1,h2,hk=>by
  simp at h1 h2;subst h1;subst h2;show bindL kindOf ((p,w)::P.zip vs) m p=_;unfold bindL;rw[jQ λv hv=>(nodup_cons.mp nd).1 (of_mem_zip hv).1,if_pos hk];simp
 |p::P,w::vs,i+1,m,nd,h1,h2,hk=>by
  show bindL kindOf ((p,w)::P.zip vs) m x=_;unfold bindL;exact hX (i:=i) (nodup_cons.mp nd).2 (by simpa using h1) (by simpa using h2) hk
theorem hZ{kindOf:Str→Option NameKind}{x:Str}{v:Value}:∀{P:List Str}{vs:List Value}{i:Nat}{m:Str→Option Value},P.Nodup→P[i]?=some x→vs[i]?=some v→kindOf x≠some .local →
  bindC kindOf (P.zip vs) m x=some v
 |[],_,_,_,_,h,_,_=>by simp at h
 |_::_,[],_,_,_,_,h,_=>by simp at h
 |p::P,w::vs,0,m,nd,h1,h2,hk=>by
  simp at h1 h2;subst h1;subst h2;show bindC kindOf ((p,w)::P.zip vs) m p=_;unfold bindC;rw[jR λv hv=>(nodup_cons.mp nd).1 (of_mem_zip hv).1,if_neg hk];simp
 |p::P,w::vs,i+1,m,nd,h1,h2,hk=>by
  show bindC kindOf ((p,w)::P.zip vs) m x=_;unfold bindC;exact hZ (i:=i) (nodup_cons.mp nd).2 (by simpa using h1) (by simpa using h2) hk
def start(N:List Str)(vs:List V):St:=vs.map some++replicate (N.length-vs.length) none
def iE(CX:CXT)(P:Program)(w:World)(K:PySem.W.Frag)(mg:Str→Option Value)(base:Heap)(N:List Str)(qual:Str)(scope:Scope)(f:Addr)(cd:Value)(A:Around)(outer:List Env)(s:Shared)(H:Hp)(E:XK):Cx where
 prog:=P
 w:=w
 K:=K
 mg:=mg
 base:=base
 A:=A.deeper (envOfC qual scope s.heap.objs.size f cd)
 N:=N
 s₀:=s
 H₀:=H
 env:=envOfC qual scope s.heap.objs.size f cd
 outer:=outer
 stack:=envOfC qual scope s.heap.objs.size f cd::outer
 ex:=[]
 calm:=true
 fn:=λ_=>true
 pn:=[]
 xe:=λe s'=>wpAny (model P w) (A.deeper (envOfC qual scope s.heap.objs.size f cd)) (leaving (envOfC qual scope s.heap.objs.size f cd) e) (λ_ s''=>CX outer H s E e s'') (λe' s''=>CX outer H s E e' s'') s'
theorem gm{sc:Scope}{n:Nat}{x:Str}(h:sc.names.lookup x=some .cell):∃c,(cellsFrom n sc.names []).lookup x=some c:=by
 have q:=cellsFrom_some sc.names n [] (.inl h);exact Option.isSome_iff_exists.mp q
theorem qI{CX:CXT}{P:Program}{w:World}{K:PySem.W.Frag}{mg:Str→Option Value}{base:Heap}{N ps:List Str}{qual:Str}{scope:Scope}{f:Addr}{cd:Value}{A:Around}{outer:List Env}{s s1:Shared}{H:Hp}{E:XK}{us:List Value}{vs:List V}(S:FnScope N ps scope)(hd:A.handled=none)(e0:Env0 P w K mg base A outer s H)(hl:vs.length=ps.length)(r:aw vs us)(x:InCallC s s.heap.objs.size (bindL (envOfC qual scope s.heap.objs.size f cd).kindOf (ps.zip us) λ_=>none) (cellsFrom (s.heap.objs.size+1) scope.names []) (bindC (envOfC qual scope s.heap.objs.size f cd).kindOf (ps.zip us) λ_=>none) s1):
  Inv (iE CX P w K mg base N qual scope f cd A outer s H E) [] (start N vs) H s1:=by
 have hpl:ps.length≤N.length:=by have:=congrArg length S.pre;rw[length_take]at this;omega
 obtain⟨h1,tk,rfl,hk⟩:=x.done;have noA:∀b:Addr,b∉(iE CX P w K mg base N qual scope f cd A outer s H E).ex:=λb z=>absurd (show b∈([]:List Addr)from z) (by simp);refine⟨⟨e0.mod,S.kind,rfl,rfl,le_refl _,λy z c h1 h2=>?_,λy hy=>?_,λy c _ h=>?_,λ_=>hd,Around.frames_deeper e0.frames,.inr ⟨rfl,rfl⟩,λb z=>absurd z (noA b),e0.bs,e0.bsz,λb _ _=>noA b,λb z=>absurd z (noA b),e0.funs,e0.frf⟩,
  rfl,e0.bare,Un.kept hk,⟨_,x.toInCall.ns,λi y v h1 h2 h3=>?_⟩,λy c h=>⟨_,x.cell y c h⟩,e0.hok.fresh (le_refl _),λy c h=>?_,λp hp=>absurd (show p∈([]:List (Addr×Obj))from hp) (by simp),e0.hok.kept hk,?_⟩
 ·exact name_of_addr x.apart (PySem.mem_of_lookup h1) (PySem.mem_of_lookup h2)
 ·have hy:scope.names.lookup y=some .cell∨scope.names.lookup y=some .free:=hy;rcases hy with hy|hy
  ·exact gm hy
  ·exact absurd rfl (S.nofree _ (PySem.mem_of_lookup hy))
 ·exact le_of_lt (x.above y c (PySem.mem_of_lookup h))
 ·have hi:i<vs.length:=by
   unfold start at h2
   by_cases hi:i<vs.length
   ·exact hi
   ·rw[getElem?_append_right (by simpa using hi)]at h2;rw[List.getElem?_replicate]at h2
    split at h2<;>cases h2
  have ha:vs[i]?=some v:=by
   unfold start at h2;rw[getElem?_append_left (by simpa using hi),getElem?_map]at h2;cases e:vs[i]? with
   |none=>rw[e]at h2;cases h2
   |some a=>rw[e]at h2;cases h2;rfl
  obtain⟨u,hu,rv⟩:=r.get ha;have hp:ps[i]?=some y:=by
   rw[←S.pre,List.getElem?_take_of_lt (by omega)];exact h1
  have ndP:ps.Nodup:=by rw[←S.pre];exact S.nd.sublist (take_sublist _ _)
  refine⟨u,rv,?_⟩;rcases S.par y (mem_of_getElem? hp)with k|k
  ·exact .inl ⟨k,hX ndP hp hu k⟩
  ·obtain⟨c,e⟩:=gm (n:=s.heap.objs.size+1) k;refine .inr ⟨.inl k,c,e,?_⟩;have q:=x.cell y c e;rw[hZ ndP hp hu (by show scope.names.lookup y≠_;rw[k];decide)]at q;exact q
 ·exact e0.hok.fresh (le_of_lt (x.above y c (PySem.mem_of_lookup h)))
 ·unfold start;show _=N.length;rw[length_append,length_map,length_replicate];omega
theorem rW{CX:CXT}{P:Program}{w:World}{K:PySem.W.Frag}{mg:Str→Option Value}{base:Heap}{k:Nat}{f:Addr}{name qual:Str}{params:Arguments}{body:List Stmt}{scope:Scope}{dV kV doc pm cdv ct oc:Value}{an od:Option Addr}{osl:Array (Option Value)}{N ps:List Str}{sp:Sp}(lk:K.lookup f=some ⟨oc,od,.func (fnOf name qual params body scope dV kV doc pm an cdv ct),osl⟩)(hcd:codeIn K cdv qual=true)(S:FnScope N ps scope)(len:∀vs H Q E,sp vs H Q E→vs.length=ps.length)(hbody:∀(A:Around) (outer:List Env) (s:Shared) (H:Hp) (vs:List V) (Q:VK) (E:XK),Room k (A.deeper (envOfC qual scope s.heap.objs.size f cdv))→sp vs H Q E →
   ∃t,PSs (iE CX P w K mg base N qual scope f cdv A outer s H E) body t∧t {nx:=λ_ H'=>Q .non H',rt:=Q} (start N vs) H):
  FnOk P w K mg base CX (k+1) f (fnOf name qual params body scope dV kV doc pm an cdv ct) ps sp:=by
 refine⟨len,λA outer s H args us vs Q E hr e0 hb r hsp=>?_⟩;have hl:=len _ _ _ _ hsp;have KX:K.In s.heap:=e0.mod.kin.keeps λb o e=>(e0.bs b o e).1;have lim:s.heap.NoLimit:=e0.mod.nolimit.keeps λb o e=>(e0.bs b o e).1;have hkind:∀y∈ps.zip us,scope.names.lookup y.1=some .local∨(scope.names.lookup y.1=some .cell∧((cellsFrom (s.heap.objs.size+1) scope.names []).lookup y.1).isSome=true):=λ⟨n,v⟩ hy=>by
  rcases S.par n (of_mem_zip hy).1 with q|q
  ·exact .inl q
  ·exact .inr ⟨q,cellsFrom_some _ _ _ (.inl q)⟩
 refine codeAny_call_function hr.depth (KX _ _ lk) rfl S.co S.gen rfl (codeRec_of KX hcd) (hb _ _ _ _ ?_);refine wpAny_newFunctionEnv_cells S.kind hkind λenv he s1 x=>?_;subst he;refine⟨lim.keeps x.toInCall.keep,codeAny_func ?_⟩;obtain⟨t,ht,hq⟩:=hbody A outer s H vs Q E (hr.deeper _) hsp;have I:Inv (iE CX P w K mg base N qual scope f cdv A outer s H E) [] (start N vs) H s1:=qI S hr.hd e0 hl r x;refine wpAny_mono (ht [] s1 (start N vs) H _ I hq) (λfl s' hs=>?_) λe s' hs=>hs;have fin:∀{σ':St}{H':Hp}{v:V}{u:Value},Inv (iE CX P w K mg base N qual scope f cdv A outer s H E) [] σ' H' s'→aA v u→Q v H'→CE outer P w H s Q u s' :=
  λ{σ' H' v u} J rv q=>⟨v,H',J.os,J.bare,J.base,J.hok,rv,q⟩
 cases fl with
 |ret u =>
  obtain⟨v,σ',H',J,rv,q⟩:=hs;exact fin J rv q
 |next =>
  obtain⟨σ',H',J,q⟩:=hs;exact fin (v:=V.non) (u:=Value.none) J rfl q
 |brk =>
  obtain⟨_,_,_,q⟩:=hs;exact False.elim q
 |cont =>
  obtain⟨_,_,_,q⟩:=hs;exact False.elim q
section
variable{X:Cx}{x:Str}{p pos:Pos}{e:Expr}{es:List Expr}{t:TA}{id T:String}{r:List V→Hp→VK→Prop}
def tCB(r:List V→Hp→VK→Prop)(t:TA):TE:=λσ H Q=>t σ H λvs H1=>r vs H1 Q
theorem aC(hc:cK X (.builtin id) r)(hg:Gl X x)(hm:X.mg x=none)(hv:bootBuiltins x=some (.builtin id))(ha:PA X (e::es) t)(hn:x≠"__name__":=by decide)(hdb:(x==("__debug__":Str))=false:=by decide)(he:starEach (e::es) X.env=(false,eval e X.env)::starEach es X.env:=by rfl)(hpl:(backTo pos (starEach es X.env)).any (·.1)=false:=by rfl):PE X (.Call (.Name x p) (e::es) [] pos) (tCB r t):=by
 intro pins s σ H Q I h;refine wpAny_Call_Name_kw (kR I hg hm hv ?_ hn hdb);exact PyProof.Rows.callWith_builtin1 (thn (ha pos pins s σ H _ I h) λus s1 ⟨vs,H1,I1,r1,q1⟩=>hc pins s1 σ H1 vs us Q I1 r1 q1) he hpl
theorem bJ(hc:cK X (.type T) r)(hg:Gl X x)(hm:X.mg x=none)(hv:bootBuiltins x=some (.type T))(ha:PA X (e::es) t)(hn:x≠"__name__":=by decide)(hdb:(x==("__debug__":Str))=false:=by decide)(he:starEach (e::es) X.env=(false,eval e X.env)::starEach es X.env:=by rfl)(hpl:(backTo pos (starEach es X.env)).any (·.1)=false:=by rfl):PE X (.Call (.Name x p) (e::es) [] pos) (tCB r t):=by
 intro pins s σ H Q I h;refine wpAny_Call_Name_kw (kR I hg hm hv ?_ hn hdb);exact PyProof.Rows.callWith_type1 (thn (ha pos pins s σ H _ I h) λus s1 ⟨vs,H1,I1,r1,q1⟩=>hc pins s1 σ H1 vs us Q I1 r1 q1) he hpl
end
end L2
namespace HT
open PySem PyProof.Rows
section
open PySem.SeqAt
open PySem.AutoSeq1 (wpAny_loadPart')
open PySem.MeetsSeq PySem.MeetsSeq2 PySem.MeetsSeq3
end
section
variable{prog:Program}{w:World}{A:Around}{E:Value→Shared→Prop}{s:Shared}
theorem uW{t b:Addr}{vs ws:List Value}{Q:Value→Shared→Prop}(ht:IsTup s.heap t vs.toArray)(hb:IsTup s.heap b ws.toArray)(hv:vs≠[])(h1:ws=[]→Q (.ref t) s)(h2:ws≠[]→Q (.ref s.heap.objs.size) {s with heap:=s.heap.push {cls:=.type "tuple",data:=.seq (vs++ws).toArray}})(hsz:vs.length+ws.length≤sizeLine):wpAny (model prog w) A (binaryOp .Add (.ref t) (.ref b)) Q E s:=by
 obtain⟨⟨cls,dd,data,sl⟩,ho,hc,n,hd⟩:=id ht;obtain⟨⟨cls2,dd2,data2,sl2⟩,ho2,hc2,n2,hd2⟩:=id hb;simp only at hc hd hc2 hd2;subst hc hd hc2 hd2;have e:vs.toArray++ws.toArray=(vs++ws).toArray:=by simp
 by_cases hw:ws=[]
 ·exact concat_meets ⟨_,ho,rfl⟩ ⟨_,ho2,rfl⟩ noFill_tuple_add seq_tuple_add slot_tuple_add entry_tuple_add (args_tuple_add_2 _ _)
   (tuple_addW1 t b vs.toArray ws.toArray n n2 dd dd2 sl sl2 (by simpa using hv) (by simp[hw])) ⟨ho,ho2,h1 hw⟩
 ·refine concat_meets ⟨_,ho,rfl⟩ ⟨_,ho2,rfl⟩ noFill_tuple_add seq_tuple_add slot_tuple_add entry_tuple_add (args_tuple_add_2 _ _)
   (tuple_addW2 t b vs.toArray ws.toArray n n2 dd dd2 sl sl2 (by simpa using hv) (by simpa using hw) (by rw[size_toArray,size_toArray];exact hsz)) ⟨ho,ho2,?_⟩
  rw[e];exact h2 hw
def sIx(n d:Nat):Option Int→Nat
 |none=>d
 |some v=>if v<0 then (v+(n:Int)).toNat else min v.toNat n
theorem xv(n d:Nat)(hd:d≤n)(o:Option Int):sIx n d o≤n:=by
 cases o with
 |none=>exact hd
 |some v =>
  show(if v<0 then (v+(n:Int)).toNat else min v.toNat n)≤n
  by_cases hv:v<0
  ·rw[if_pos hv];omega
  ·rw[if_neg hv];exact Nat.min_le_right _ _
theorem pE(v:Int)(n d:Nat):(if v<0 then max (v+(n:Int)) 0 else min v (n:Int))=((sIx n d (some v):Nat):Int):=by
 show(if v<0 then max (v+(n:Int)) 0 else min v (n:Int))=(((if v<0 then (v+(n:Int)).toNat else min v.toNat n):Nat):Int)
 by_cases hv:v<0
 ·simp only[if_pos hv];omega
 ·simp only[if_neg hv];omega
theorem oo(lo hi:Option Int)(n:Nat):Builtin.Slice.sliceAdjust lo hi 1 (n:Int)=(((sIx n 0 lo:Nat):Int),((sIx n n hi:Nat):Int)):=by
 have h1:¬((1:Int)<0):=by omega
 unfold Builtin.Slice.sliceAdjust;simp only[h1,if_false];refine Prod.ext ?_ ?_
 ·cases lo with
  |none=>rfl
  |some v=>exact pE v n 0
 ·cases hi with
  |none=>rfl
  |some v=>exact pE v n n
theorem oq(i j:Nat):Builtin.Slice.slicePlaces (i:Int) (j:Int) 1=j-i:=by
 unfold Builtin.Slice.slicePlaces;have h1:(1:Int)>0:=by omega
 simp only[h1,if_true,Int.ediv_one]
 split<;>omega
theorem iW{v:Value}{o:Option Int}{Q:Option Int→Shared→Prop}(p:IsPart v o)(h:Q o s):wpAny (model prog w) A (Builtin.Slice.slicePartIndex v) Q E s:=by
 cases p with
 |none=>exact slicePart_none h
 |int i t=>exact slicePart_int h
theorem ia{sl:Addr}{vl vu:Value}{lo hi:Option Int}{n:Nat}{Q:Int×Int×Nat→Shared→Prop}(hs:s.heap.IsSliceOf sl vl vu .none)(pl:IsPart vl lo)(pu:IsPart vu hi)(h:Q (((sIx n 0 lo:Nat):Int),1,sIx n n hi-sIx n 0 lo) s):wpAny (model prog w) A (Builtin.Slice.sliceApplied (.ref sl) (pure (n:Int))) Q E s:=by
 obtain⟨os,hos,hcs,hds⟩:=id hs;unfold Builtin.Slice.sliceApplied Builtin.Slice.sliceFields;refine wpAny_bind (wpAny_bind (wpAny_field hos hds (x:=vl) rfl (wpAny_bind (wpAny_field hos hds (x:=vu) rfl (wpAny_bind (wpAny_field hos hds (x:=.none) rfl (wpAny_pure ?_)))))));refine wpAny_bind (slicePart_none ?_);show wpAny _ _ (if ((1:Int)==0)=true then _ else _) _ _ s
 rw[if_neg (by decide)];refine wpAny_bind (iW pl (wpAny_bind (iW pu (wpAny_bind (wpAny_pure ?_)))));show wpAny _ _ (match Builtin.Slice.sliceAdjust lo hi 1 (n:Int)with|(lo,hi)=>pure (lo,(1:Int),Builtin.Slice.slicePlaces lo hi 1)) _ _ s
 rw[oo lo hi n];show wpAny _ _ (pure (((sIx n 0 lo:Nat):Int),(1:Int),Builtin.Slice.slicePlaces ((sIx n 0 lo:Nat):Int) ((sIx n n hi:Nat):Int) 1)) _ _ s;rw[oq];exact wpAny_pure h
theorem rX(xs:Array Value)(i k:Nat):((List.range k).filterMap λ(m:Nat)=>xs[((i:Int)+(m:Int)*1).toNat]?).toArray=((xs.toList.drop i).take k).toArray:=by
 have e:(λ(m:Nat)=>xs[((i:Int)+(m:Int)*1).toNat]?)=λm=>xs[i+m]?:=by
  funext m
  have:((i:Int)+(m:Int)*1).toNat=i+m:=by omega
  rw[this]
 rw[e];have:=pick_run xs i k;rw[List.filterMap_map]at this;have e2:((λx=>xs[x]?)∘λx=>i+x)=λm=>xs[i+m]?:=rfl;rw[e2]at this;rw[this]
theorem gn{t sl:Addr}{items:Array Value}{vl vu:Value}{lo hi:Option Int}{Q:Value→Shared→Prop}(ht:IsTup s.heap t items)(hs:s.heap.IsSliceOf sl vl vu .none)(pl:IsPart vl lo)(pu:IsPart vu hi)(hw:¬(sIx items.size 0 lo=0∧sIx items.size items.size hi=items.size))(h:Q (.ref s.heap.objs.size) {s with heap:=s.heap.push {cls:=.type "tuple",data:=.seq ((items.toList.drop (sIx items.size 0 lo)).take (sIx items.size items.size hi-sIx items.size 0 lo)).toArray}})(hsz:items.size≤sizeLine):wpAny (model prog w) A (getItem (.ref t) (.ref sl)) Q E s:=by
 have htake:sizeOk (.seq ((items.toList.drop (sIx items.size 0 lo)).take (sIx items.size items.size hi-sIx items.size 0 lo)).toArray):=by
  show((items.toList.drop (sIx items.size 0 lo)).take (sIx items.size items.size hi-sIx items.size 0 lo)).toArray.size≤sizeLine;rw[size_toArray,length_take,length_drop,length_toList];omega
 have hj:sIx items.size items.size hi≤items.size:=xv _ _ (le_refl _) hi;obtain⟨os,hos,hcs,hds⟩:=id hs;have hTs:s.TypeIs (.ref sl) "slice":=⟨os,hos,hcs⟩;unfold getItem
 try with_reducible refine wpAny_holding ?_
 first|refine wpAny_bind (wpAny_pure ?_)|skip
 refine wpAny_bind (wpAny_sequenceKey ht.typeIs (by decide) ?_);refine wpAny_bind (wpAny_callSpecial?_slot (name:=ofString "__getitem__") ht.typeIs PyProof.Rows.slot_tuple_getitem
  (wpAny_call_entry PyProof.Rows.slot_tuple_getitem ht.typeIs entry_tuple_getitem ?_ (args_tuple_getitem _ _)))
 show wpAny _ _ (Builtin.Tuple.tupleItemsOf (.ref t) >>= _) _ _ s;refine wpAny_bind (tupleItemsOf_ ht ?_);refine wpAny_bind (wpAny_typeOf hTs ?_);rw[if_pos (by decide)];refine wpAny_bind (ia hs pl pu ?_);have hno:¬((((sIx items.size 0 lo:Nat):Int)==0&&(1:Int)==1&&(sIx items.size items.size hi-sIx items.size 0 lo)==items.size)=true):=by
  intro q;rw[and_eq_true,and_eq_true]at q;have q1:((sIx items.size 0 lo:Nat):Int)=0:=eq_of_beq q.1.1;have q2:sIx items.size items.size hi-sIx items.size 0 lo=items.size:=eq_of_beq q.2;exact hw ⟨by omega,by omega⟩
 show wpAny _ _ (if (((sIx items.size 0 lo:Nat):Int)==0&&(1:Int)==1&&(sIx items.size items.size hi-sIx items.size 0 lo)==items.size)=true then _ else _) _ _ s
 rw[if_neg hno,rX]
 first
  |exact wpAny_bind (m:=Builtin.Tuple.tupleExact _) (wpAny_newObj_type (wpAny_pure ⟨_,rfl,wpAny_pure h⟩) htake)
  |exact wpAny_bind (m:=Builtin.Tuple.tupleExact _) (wpAny_newObj_type (wpAny_bind (wpAny_pure (wpAny_pure ⟨_,rfl,wpAny_pure h⟩))) htake)
  |exact wpAny_bind (wpAny_bind (m:=Builtin.Tuple.tupleExact _) (wpAny_newObj_type (wpAny_pure (wpAny_pure ⟨_,rfl,wpAny_pure h⟩)) htake))
  |exact wpAny_bind (wpAny_bind (m:=Builtin.Tuple.tupleExact _) (wpAny_newObj_type (wpAny_pure ⟨_,rfl,wpAny_pure h⟩) htake))
end
end HT
namespace L2
open PySem PySem.Spec PyProof.Rows
abbrev TO:=St→Hp→(Option Int→Hp→Prop)→Prop
def PO(X:Cx)(e:Option Expr)(t:TO):Prop :=
 ∀(pins:List (Addr×Obj))(s:Shared)(σ:St)(H:Hp)(Q:Option Int→Hp→Prop),Inv X pins σ H s→t σ H Q →
  wpAny (model X.prog X.w) X.A (evalPart e X.env) (λu s'=>∃o H',Inv X pins σ H' s'∧IsPart u o∧Q o H') X.xe s
def uX:TO:=λ_ H Q=>Q none H
def zc(t:TE):TO:=λσ H Q=>t σ H λx H1=>∃i,x=.int i∧Q (some i) H1
theorem ou{ns:List Int}:∀{us:List Value},aw (ns.map V.int) us→IntsAre us ns:=by
 induction ns with
 |nil=>intro us r;rw[map_nil]at r;cases r;exact .nil
 |cons n ns ih =>
  intro us r;rw[map_cons]at r;cases r with
  |cons r1 r2 =>
   obtain⟨t,e⟩:=r1;subst e;exact .cons n t (ih r2)
section
variable{X:Cx}{e:Expr}{te:TE}{lo hi:Option Expr}{tl th:TO}{pos p2:Pos}
theorem uY:PO X none uX:=by
 intro pins s σ H Q I h;rw[evalPart_none];exact wpAny_pure ⟨none,H,I,.none,h⟩
theorem uZ(h:PE X e te):PO X (some e) (zc te):=by
 intro pins s σ H Q I hw;rw[evalPart_some];refine thn (h pins s σ H _ I hw) λu s1 hpt=>?_;obtain⟨x,H1,I1,r1,q1⟩:=hpt;obtain⟨i,rfl,q⟩:=q1;obtain⟨t,rfl⟩:=r1;exact⟨some i,H1,I1,.int i t,q⟩
def SlR(X:Cx)(r:V→Option Int→Option Int→Hp→VK→Prop):Prop :=
 ∀(pins:List (Addr×Obj))(s:Shared)(σ:St)(H:Hp)(x:V)(v vl vu:Value)(lo hi:Option Int)(sl:Addr)(Q:VK),Inv X pins σ H s→aA x v→s.heap.IsSliceOf sl vl vu .none→IsPart vl lo→IsPart vu hi→r x lo hi H Q →
  ∃T id,typeLookup (.type T) "__getitem__"=pure (some (.builtin id))∧s.TypeIs v T∧wpAny (model X.prog X.w) X.A (getItem v (.ref sl)) (EP X pins σ Q) X.xe s
def tSl(r:V→Option Int→Option Int→Hp→VK→Prop)(te:TE)(tl th:TO):TE:=λσ H Q=>te σ H λx H1=>tl σ H1 λl H2=>th σ H2 λu H3=>r x l u H3 Q
theorem rY{r:V→Option Int→Option Int→Hp→VK→Prop}(hr:SlR X r)(he:PE X e te)(hl:PO X lo tl)(hu:PO X hi th):PE X (.Subscript e (.Slice lo hi none p2) pos) (tSl r te tl th):=by
 intro pins s σ H Q I h;refine Subscript_ (thn (he pins s σ H _ I h) λv s1 hpt=>?_);obtain⟨x,H1,I1,r1,q1⟩:=hpt;refine wpAny_Slice (thn (hl pins s1 σ H1 _ I1 q1) λvl s2 ⟨l,H2,I2,pl,q2⟩=>thn (hu pins s2 σ H2 _ I2 q2) λvu s3 hpt=>?_);obtain⟨u,H3,I3,pu,q3⟩:=hpt;rw[evalPart_none];refine wpAny_pure ?_;have I4:Inv X pins σ H3 {s3 with heap:=s3.heap.push {cls:=.type "slice",data:=.fields #[vl,vu,.none]}}:=I3.kept (t':=s3.toks) λb ob q=>get?_push_of_some _ q
 obtain⟨T,id,hT,ht,hg⟩:=hr pins {s3 with heap:=s3.heap.push {cls:=.type "slice",data:=.fields #[vl,vu,.none]}} σ H3 x v vl vu l u s3.heap.objs.size Q I4 r1 (Heap.IsSliceOf.new ..) pl pu q3
 show wpAny (model X.prog X.w) X.A (subscriptTail e (.Slice lo hi none p2) v (.ref s3.heap.objs.size)) (EP X pins σ Q) X.xe {s3 with heap:=s3.heap.push {cls:=.type "slice",data:=.fields #[vl,vu,.none]}}
 exact tail_any (ops:=[.ref s3.heap.objs.size,v]) ht hT hg (by with_unfolding_all rfl)
def rZ(xs:List V)(lo hi:Option Int):List V:=(xs.drop (HT.sIx xs.length 0 lo)).take (HT.sIx xs.length xs.length hi-HT.sIx xs.length 0 lo)
theorem lQ(xs:List V)(lo hi:Option Int):(rZ xs lo hi).length≤xs.length:=by
 unfold rZ;rw[length_take,length_drop];omega
def zd(K:PySem.W.Frag):V→Option Int→Option Int→Hp→VK→Prop:=λx lo hi H Q=>∃a xs,x=.ref a∧SqT K H a xs ∧
 ¬(HT.sIx xs.length 0 lo=0∧HT.sIx xs.length xs.length hi=xs.length)∧∀p,H p=none→Q (.ref p) (upd H p (.tup (rZ xs lo hi)))
theorem xw:SlR X (zd X.K):=by
 intro pins s σ H x v vl vu lo hi sl Q I rx hs pl pu h;obtain⟨a,xs,rfl,hx,hw,q⟩:=h;cases rx;obtain⟨its,r,ht,hz⟩:=I.tuple hx;have hlen:its.toArray.size=xs.length:=by rw[size_toArray];exact r.length.symm
 refine⟨"tuple",_,PyProof.Rows.slot_tuple_getitem.lookup,ht.typeIs,?_⟩;refine HT.gn ht hs pl pu (by rw[hlen];exact hw) ?_ (by rw[hlen];exact hz);rw[hlen];refine⟨.ref s.heap.objs.size,_,I.laid (t':=s.toks) (o:=.tup (rZ xs lo hi)) (λb ob q=>get?_push_of_some _ q) (le_refl _) ?_,rfl,q _ (I.hok.fresh (le_refl _))⟩;exact⟨le_trans (lQ xs lo hi) hz,_,(r.drop (HT.sIx xs.length 0 lo)).take (HT.sIx xs.length xs.length hi-HT.sIx xs.length 0 lo),IsTup.new _ _⟩
def ze(K:PySem.W.Frag):R2:=λx y H Q=>∃a b xs ys,x=.ref a∧y=.ref b∧SqT K H a xs∧SqT K H b ys∧xs≠[]∧xs.length+ys.length≤sizeLine ∧
 (ys=[]→Q (.ref a) H)∧(ys≠[]→∀p,H p=none→Q (.ref p) (upd H p (.tup (xs++ys))))
theorem aw.nil_iff{xs:List V}{us:List Value}(r:aw xs us):us=[]↔xs=[]:=by
 cases r with
 |nil=>simp
 |cons _ _=>simp
theorem va:OpR X (binaryOp .Add) (ze X.K):=by
 intro pins s σ H x y v u Q I rx ry h;obtain⟨a,b,xs,ys,rfl,rfl,ha,hb,hx,hz,q1,q2⟩:=h;cases rx;cases ry;obtain⟨its,r1,p1,_⟩:=I.tuple ha;obtain⟨its2,r2,p2,_⟩:=I.tuple hb;refine HT.uW p1 p2 (λz=>hx (r1.nil_iff.mp z)) (λz=>⟨.ref a,H,I,rfl,q1 (r2.nil_iff.mp z)⟩) (λz=>?_) (by rw[←r1.length,←r2.length];exact hz);refine⟨.ref s.heap.objs.size,_,I.laid (t':=s.toks) (o:=.tup (xs++ys)) (λb ob q=>get?_push_of_some _ q) (le_refl _) ?_,rfl,q2 (λw=>z (r2.nil_iff.mpr w)) _ (I.hok.fresh (le_refl _))⟩;exact⟨by rw[length_append];exact hz,_,r1.append r2,IsTup.new _ _⟩
end
def ixN(n:Nat)(i:Int):Option Nat:=if 0≤i then (if i<n then some i.toNat else none)else if -(n:Int)≤i then some (i+n).toNat else none
def atI{α:Type}(xs:List α)(i:Int):Option α:=(ixN xs.length i).bind λj=>xs[j]?
theorem vb{n:Nat}{i:Int}{j:Nat}(h:ixN n i=some j):seqIndex? i n=some j∧j<n∧-(n:Int)≤i∧i<n:=by
 unfold ixN at h
 by_cases h0:0≤i
 ·rw[if_pos h0]at h
  by_cases h1:i<n
  ·rw[if_pos h1]at h;have e:i.toNat=j:=Option.some.inj h;exact⟨by rw[seqIndex_of h0 h1,e],by omega,by omega,h1⟩
  ·rw[if_neg h1]at h;cases h
 ·rw[if_neg h0]at h
  by_cases h1:-(n:Int)≤i
  ·rw[if_pos h1]at h;have e:(i+n).toNat=j:=Option.some.inj h;exact⟨by rw[seqIndex_neg (by omega) h1,e],by omega,h1,by omega⟩
  ·rw[if_neg h1]at h;cases h
theorem pF{α:Type}{xs:List α}{i:Int}{v:α}(h:atI xs i=some v):∃j,seqIndex? i xs.length=some j∧xs[j]?=some v∧j<xs.length∧-(xs.length:Int)≤i∧i<xs.length:=by
 unfold atI at h;cases e:ixN xs.length i with
 |none=>rw[e]at h;cases h
 |some j =>
  rw[e]at h;obtain⟨h1,h2,h3,h4⟩:=vb e;exact⟨j,h1,h,h2,h3,h4⟩
theorem cV{α:Type}{xs:List α}{j:Nat}{v:α}(h:xs[j]?=some v):atI xs (j:Int)=some v:=by
 have hj:j<xs.length:=(List.getElem?_eq_some_iff.mp h).1;have e:ixN xs.length (j:Int)=some j:=by
  unfold ixN;rw[if_pos (by omega),if_pos (by omega)];simp
 unfold atI;rw[e];exact h
def vc(b:Expr):Prop:=∀o i,subscripted b false o i=operate [o,i] (getItem o i)
def IxR(X:Cx)(r:R2):Prop :=
 ∀(value slice:Expr)(pins:List (Addr×Obj))(s:Shared)(σ:St)(H:Hp)(x y:V)(v u:Value)(Q:VK),Inv X pins σ H s→aA x v→aA y u→r x y H Q →
  subscripted slice false v u=operate [v,u] (getItem v u)→wpAny (model X.prog X.w) X.A (subscriptTail value slice v u) (EP X pins σ Q) X.xe s
def MtR(X:Cx)(id:String)(r:V→List V→Hp→VK→Prop):Prop :=
 ∀(pins:List (Addr×Obj))(s:Shared)(σ:St)(H:Hp)(x:V)(xs:List V)(v:Value)(us:List Value)(Q:VK),Inv X pins σ H s→aA x v→aw xs us→r x xs H Q →
  wpAny (model X.prog X.w) X.A (call (.builtin id) (v::us)) (EP X pins σ Q) X.xe s
section
variable{X:Cx}{a b:Expr}{ta tb:TE}{pos:Pos}
theorem aF{r:R2}(hr:IxR X r)(ha:PE X a ta)(hb:PE X b tb)(hs:vc b):PE X (.Subscript a b pos) (tOp r ta tb):=by
 intro pins s σ H Q I h;exact Subscript_ (xq ha hb I h λv u s2 x y H2 I2 rx ry q=>hr a b pins s2 σ H2 x y v u Q I2 rx ry q (hs _ _))
def jL(K:PySem.W.Frag):R2:=λx y H Q=>∃p xs i v,x=.ref p∧y=.int i∧SqL K H p xs∧atI xs i=some v∧Q v H
def lc(K:PySem.W.Frag):R2:=λx y H Q=>∃p xs i v,x=.ref p∧y=.int i∧SqT K H p xs∧atI xs i=some v∧Q v H
theorem cW:IxR X (jL X.K):=by
 intro value slice pins s σ H x y v u Q I rx ry h hs;obtain⟨p,xs,i,z,rfl,rfl,hq,he,q⟩:=h;cases rx;obtain⟨t,rfl⟩:=ry;obtain⟨its,r,pl,hz⟩:=I.list hq;obtain⟨j,h1,h2,h3,h4,h5⟩:=pF he;obtain⟨w,ew,rw'⟩:=r.get h2;have hl:=r.length;have hn:=iU;have fin:EP X pins σ Q w s:=⟨z,H,I,rw',q⟩
 by_cases h0:0≤i
 ·have hj:i.toNat=j:=by
   rw[seqIndex_of h0 h5]at h1;exact Option.some.inj h1
  exact item_listR pl.isList h0 (by omega) (by rw[hj];simpa using ew) fin hs
 ·have hj:(i+(its.toArray.size:Int)).toNat=j:=by
   rw[seqIndex_neg (by omega) h4]at h1;rw[size_toArray,←hl];exact Option.some.inj h1
  exact subscriptTail_builtinR (x:=w) pl.isList.typeIs slot_list_getitem.lookup
   (wpAny_getItem_list_neg (Q:=λr s'=>r=w∧EP X pins σ Q r s') pl.isList (by omega) (by rw[size_toArray]<;>omega) (by omega) (by rw[hj];simpa using ew) ⟨rfl,fin⟩) hs
theorem aD:IxR X (lc X.K):=by
 intro value slice pins s σ H x y v u Q I rx ry h hs;obtain⟨p,xs,i,z,rfl,rfl,hq,he,q⟩:=h;cases rx;obtain⟨t,rfl⟩:=ry;obtain⟨its,r,pl,hz⟩:=I.tuple hq;obtain⟨j,h1,h2,h3,h4,h5⟩:=pF he;obtain⟨w,ew,rw'⟩:=r.get h2;have hl:=r.length;have hn:=iU;have fin:EP X pins σ Q w s:=⟨z,H,I,rw',q⟩;exact subscriptTail_builtinR (x:=w) pl.typeIs slot_tuple_getitem.lookup
  (getItem_tuple (j:=j) (Q:=λr s'=>r=w∧EP X pins σ Q r s') pl (by omega) (by omega) (by rw[size_toArray,←hl];exact h1) (by simpa using ew) ⟨rfl,fin⟩) hs
def cn:V→Bool
 |.non=>true
 |.bl _=>true
 |.int _=>true
 |.str _=>true
 |_=>false
def eqV:V→V→Bool
 |.non,.non=>true
 |.bl a,.bl b=>a==b
 |.bl a,.int b=>(if a then 1 else 0)==b
 |.int a,.bl b=>a==(if b then 1 else 0)
 |.int a,.int b=>a==b
 |.str a,.str b=>a==b
 |_,_=>false
theorem ib{A:Around}{s:Shared}{y x:V}{u v:Value}(ry:aA y u)(rx:aA x v)(fy:cn y=true)(fx:cn x=true):EqAt A s u v (eqV y x):=by
 cases y with
 |non =>
  cases ry;cases x with
  |non=>cases rx;exact EqAt.same _
  |bl b=>cases rx;exact EqAt.none_bool b
  |int b=>obtain⟨t,rfl⟩:=rx;exact EqAt.none_int b t
  |str b=>obtain⟨t,rfl⟩:=rx;exact EqAt.none_str b t
  |_=>exact absurd (show false=true from fx) Bool.false_ne_true
 |bl a =>
  cases ry;cases x with
  |non=>cases rx;exact EqAt.bool_none a
  |bl b=>cases rx;exact EqAt.bool_bool a b
  |int b=>obtain⟨t,rfl⟩:=rx;exact EqAt.bool_int a b t
  |str b=>obtain⟨t,rfl⟩:=rx;exact EqAt.bool_str a b t
  |_=>exact absurd (show false=true from fx) Bool.false_ne_true
 |int a =>
  obtain⟨t',rfl⟩:=ry;cases x with
  |non=>cases rx;exact EqAt.int_none a t'
  |bl b=>cases rx;exact EqAt.int_bool a t' b
  |int b=>obtain⟨t,rfl⟩:=rx;exact EqAt.int_int a t' b t
  |str b=>obtain⟨t,rfl⟩:=rx;exact EqAt.int_str a t' b t
  |_=>exact absurd (show false=true from fx) Bool.false_ne_true
 |str a =>
  obtain⟨t',rfl⟩:=ry;cases x with
  |non=>cases rx;exact EqAt.str_none a t'
  |bl b=>cases rx;exact EqAt.str_bool a t' b
  |int b=>obtain⟨t,rfl⟩:=rx;exact EqAt.str_int a t' b t
  |str b=>obtain⟨t,rfl⟩:=rx;exact EqAt.str_str a t' b t
  |_=>exact absurd (show false=true from fx) Bool.false_ne_true
 |_=>exact absurd (show false=true from fy) Bool.false_ne_true
def eqU(x:V)(u:Value):Bool:=match u with
 |.none=>eqV .non x
 |.bool b=>eqV (.bl b) x
 |.int i _=>eqV (.int i) x
 |.str z _=>eqV (.str z) x
 |_=>false
theorem se{x y:V}{u:Value}(r:aA y u)(f:cn y=true):eqU x u=eqV y x:=by
 cases y with
 |non=>cases r;rfl
 |bl b=>cases r;rfl
 |int i=>obtain⟨t,rfl⟩:=r;rfl
 |str z=>obtain⟨t,rfl⟩:=r;rfl
 |_=>exact absurd (show false=true from f) Bool.false_ne_true
theorem lf{x:V}:∀{xs:List V}{us:List Value},aw xs us→xs.all cn=true→us.any (eqU x)=xs.any λy=>eqV y x
 |_,_,.nil,_=>rfl
 |y::xs,u::us,.cons r t,f=>by
  rw[List.all_cons,and_eq_true]at f;rw[any_cons,any_cons,se r f.1,lf t f.2]
theorem iX{A:Around}{s:Shared}{x:V}{v:Value}(rx:aA x v)(fx:cn x=true):∀{xs:List V}{us:List Value},aw xs us→xs.all cn=true→∀u∈us,EqAt A s u v (eqU x u)
 |_,_,.nil,_=>λu hu=>by cases hu
 |y::xs,u::us,.cons r t,f=>λu' hu=>by
  rw[List.all_cons,and_eq_true]at f;rcases mem_cons.mp hu with rfl|hu
  ·rw[se r f.1];exact ib r rx f.1 fx
  ·exact iX rx fx t f.2 u' hu
def inV(x:V)(xs:List V):Bool:=xs.any λy=>eqV y x
def rIn(K:PySem.W.Frag)(neg:Bool):R2:=λx y H Q=>∃p xs,y=.ref p∧(SqL K H p xs∨SqT K H p xs)∧cn x=true∧xs.all cn=true∧Q (.bl (if neg then !inV x xs else inV x xs)) H
theorem qJ:OpR X (compareOp .In) (rIn X.K false):=by
 intro pins s σ H x y v u Q I rx ry h;obtain⟨p,xs,rfl,hq,fx,fs,q⟩:=h;cases ry;rcases hq with hq|hq
 ·obtain⟨its,r,pl,hz⟩:=I.list hq;refine SeqAt.in_listAt (eqU x) pl.isList (λw hw=>iX rx fx r fs w (by simpa using hw)) ⟨.bl _,H,I,rfl,?_⟩;rw[show its.toArray.any (eqU x)=its.any (eqU x)by simp,lf r fs];exact q
 ·obtain⟨its,r,pl,hz⟩:=I.tuple hq;refine SeqAt.in_tupleAt (eqU x) pl (λw hw=>iX rx fx r fs w (by simpa using hw)) ⟨.bl _,H,I,rfl,?_⟩;rw[show its.toArray.any (eqU x)=its.any (eqU x)by simp,lf r fs];exact q
theorem cX:cK X (.builtin "len") (λxs H Q=>∃p ys,xs=[.ref p]∧(SqL X.K H p ys∨SqT X.K H p ys)∧Q (.int ys.length) H):=by
 intro pins s σ H xs us Q I r h;obtain⟨p,ys,rfl,hq,q⟩:=h;obtain⟨u,rfl,rx⟩:=dE r;cases rx;have hn:=iU;rcases hq with hq|hq
 ·obtain⟨its,r',pl,hz⟩:=I.list hq;have hlen:=r'.length;exact Calls.call_len_list pl.isList (by simp only[size_toArray]<;>omega) ⟨.int ys.length,H,I.tok _,⟨s.toks+1,by rw[size_toArray,hlen]⟩,q⟩
 ·obtain⟨its,r',pl,hz⟩:=I.tuple hq;have hlen:=r'.length;exact len_tuple pl (by simp only[size_toArray]<;>omega) ⟨.int ys.length,H,I.tok _,⟨s.toks+1,by rw[size_toArray,hlen]⟩,q⟩
theorem lg:cK X (.builtin "len") (λxs H Q=>∃z,xs=[.str z]∧z.length≤sizeLine∧Q (.int z.length) H):=by
 intro pins s σ H xs us Q I r h;obtain⟨z,rfl,hz,q⟩:=h;obtain⟨u,rfl,t,rfl⟩:=dE r;have hn:=iU;exact len_str (by omega) ⟨.int z.length,H,I.tok _,⟨_,rfl⟩,q⟩
theorem cH:cK X (.type "tuple") (λxs H Q=>∃p ys,xs=[.ref p]∧((SqL X.K H p ys∧∀l,H l=none→Q (.ref l) (upd H l (.tup ys)))∨(SqT X.K H p ys∧Q (.ref p) H))):=by
 intro pins s σ H xs us Q I r h;obtain⟨p,ys,rfl,h⟩:=h;obtain⟨u,rfl,rx⟩:=dE r;cases rx;rcases h with⟨hq,q⟩|⟨hq,q⟩
 ·obtain⟨its,r',pl,hz⟩:=I.list hq;have hlen:=r'.length;refine call_tuple_list pl.isList (λh' kp=>?_) (by simp only[size_toArray]<;>omega);have I1:Inv X pins σ H {s with heap:=h'}:=I.kept (t':=s.toks) kp
  have I2:Inv X pins σ (upd H h'.objs.size (.tup ys)) {s with heap:=h'.push {cls:=.type "tuple",data:=.seq its.toArray}} :=
   I1.laid (t':=s.toks) (λb o e=>get?_push_of_some _ e) (le_refl _) (show bf X.prog X.w _ _ _ (.tup ys)from⟨hz,its,r',IsTup.new _ _⟩)
  exact⟨.ref h'.objs.size,_,I2,rfl,q _ (I1.hok.fresh (le_refl _))⟩
 ·obtain⟨its,r',pl,hz⟩:=I.tuple hq;exact call_tuple_same pl ⟨.ref p,H,I,rfl,q⟩
def tyV(K:PySem.W.Frag)(T:String)(x:V)(H:Hp):Prop:=match x with
 |.str _=>T="str"
 |.int _=>T="int"
 |.ref p=>(T="list"∧∃xs,SqL K H p xs)∨(T="tuple"∧∃o,K.lookup p=some o∧o.cls=.type "tuple"∧o.dict=none) ∨
   (T="dict"∧((∃kvs,H p=some (.dK kvs))∨∃kvs,H p=some (.dT kvs)))∨(T="set"∧∃S n,H p=some (.set S n))
 |_=>False
theorem sf{pins:List (Addr×Obj)}{σ:St}{H:Hp}{s:Shared}{T:String}{x:V}{v:Value}(I:Inv X pins σ H s)(r:aA x v)(ty:tyV X.K T x H):
  s.TypeIs v T∧∀a,v=.ref a→∃ob,s.heap.get? a=some ob∧ob.dict=none:=by
 cases x with
 |str z =>
  obtain⟨t,rfl⟩:=r;cases (show T="str" from ty);exact⟨typeIs_str s z t,λ_ e=>nomatch e⟩
 |int i =>
  obtain⟨t,rfl⟩:=r;cases (show T="int" from ty);exact⟨typeIs_int s i t,λ_ e=>nomatch e⟩
 |ref p =>
  cases r;rcases ty with⟨rfl,xs,hq⟩|⟨rfl,o,hk,hc,hd⟩|⟨rfl,hk⟩|⟨rfl,S,n,hk⟩
  ·obtain⟨its,_,pl,_⟩:=I.list hq;refine⟨pl.isList.typeIs,λa e=>?_⟩;cases e;obtain⟨o,n,e,c,hd,_⟩:=pl;exact⟨o,e,hd⟩
  ·refine⟨⟨o,I.kIn p o hk,hc⟩,λa e=>?_⟩;cases e;exact⟨o,I.kIn _ o hk,hd⟩
  ·have z:∃o,s.heap.get? p=some o∧o.ExactDict:=by
    rcases hk with⟨kvs,hk⟩|⟨kvs,hk⟩
    ·obtain⟨_,_,_,_,o,_,_,e,ex,_⟩:=I.hok p _ hk;exact⟨o,e,ex⟩
    ·obtain⟨_,_,_,_,o,_,_,e,ex,_⟩:=I.hok p _ hk;exact⟨o,e,ex⟩
   obtain⟨o,e,ex⟩:=z;refine⟨⟨o,e,ex.1⟩,λa e2=>?_⟩;cases e2;exact⟨o,e,ex.2.1⟩
  ·obtain⟨o,_,_,_,e,ex,_⟩:=I.hok p _ hk;refine⟨⟨o,e,ex.1⟩,λa e2=>?_⟩;cases e2;exact⟨o,e,ex.2.1⟩
 |_=>exact False.elim ty
def Aj(K:PySem.W.Frag)(T:String)(r:V→List V→Hp→VK→Prop)(to:TE):TE:=λσ H Q=>to σ H λx H1=>tyV K T x H1∧r x [] H1 Q
def tBM(K:PySem.W.Frag)(T:String)(r:V→List V→Hp→VK→Prop)(to:TE)(t:TA):TE:=λσ H Q=>to σ H λx H1=>tyV K T x H1∧t σ H1 λxs H2=>r x xs H2 Q
variable{o e:Expr}{es:List Expr}{to:TE}{t:TA}{name:Str}{apos cpos:Pos}{T id:String}{r:V→List V→Hp→VK→Prop}
theorem sg(pa:PlainAttrs T)(slot:Slot T name id)(hty:typeOf (.builtin id)=pure (.type "method_descriptor"))(hm:MtR X id r)(ho:PE X o to)(hbase:attributeBase o name X.env (eval o X.env)=eval o X.env:=by rfl)(hline:(apos.endLine==cpos.line)=true:=by rfl):PE X (.Call (.Attribute o name apos) [] [] cpos) (Aj X.K T r to):=by
 intro pins s σ H Q I h;refine wpAny_Call_method0_late hbase hline (thn (ho pins s σ H _ I h) λv s1 hpt=>?_);obtain⟨x,H1,I1,r1,ty,q1⟩:=hpt;obtain⟨h1,h2⟩:=sf I1 r1 ty;exact⟨T,id,pa,slot,hty,h1,h2,callWith_builtin rfl (PySem.evalArgs_none (hm pins s1 σ H1 x [] v [] Q I1 r1 .nil q1))⟩
theorem cp(pa:PlainAttrs T)(slot:Slot T name id)(hty:typeOf (.builtin id)=pure (.type "method_descriptor"))(hm:MtR X id r)(ho:PE X o to)(ha:PA X (e::es) t)(hbase:attributeBase o name X.env (eval o X.env)=eval o X.env:=by rfl)(hfew:((backTo cpos (starEach (e::es) X.env)).all (λx=>!x.1)&&(backToKw cpos (keywordEach [] X.env)).all (λx=>x.1.isSome)
   && decide ((e::es).length+([]:List Keyword).length+(if ([]:List Keyword).isEmpty then 0 else 1)<30))=true:=by rfl)(hline:(apos.endLine==cpos.line)=true:=by rfl)(hs:starEach (e::es) X.env=(false,eval e X.env)::starEach es X.env:=by rfl)(hplain:(backTo cpos (starEach es X.env)).any (·.1)=false:=by rfl):
  PE X (.Call (.Attribute o name apos) (e::es) [] cpos) (tBM X.K T r to t):=by
 intro pins s σ H Q I h;refine wpAny_Call_method_late hbase hfew hline rfl (thn (ho pins s σ H _ I h) λv s1 hpt=>?_);obtain⟨x,H1,I1,r1,ty,q1⟩:=hpt;obtain⟨h1,h2⟩:=sf I1 r1 ty;refine⟨T,id,pa,slot,hty,h1,h2,?_⟩;have hA:=ha cpos pins s1 σ H1 _ I1 q1;rw[hs]at hA⊢;refine callWith_builtin (by show(false||(backTo cpos (starEach es X.env)).any (·.1))=false;rw[hplain]<;>rfl) (evalArgs_plain ?_);exact thn hA λus s2 ⟨vs,H2,I2,r2,q2⟩=>hm pins s2 σ H2 x vs v us Q I2 r1 r2 q2
end
def MtM(X:Cx)(id:String)(r:V→List V→Hp→VK→Prop):Prop :=
 ∀(pins:List (Addr×Obj))(s:Shared)(σ:St)(H:Hp)(x:V)(xs:List V)(v:Value)(us:List Value)(Q:VK),Inv X pins σ H s→aA x v→aw xs us→r x xs H Q →
  wpAny (model X.prog X.w) X.A (call (.builtin id) (v::us)) (EP X pins σ Q) X.xe s
theorem aw.one:∀{x:V}{us:List Value},aw [x] us→∃u,us=[u]∧aA x u
 |_,_,.cons r .nil=>⟨_,rfl,r⟩
theorem aw.two:∀{x y:V}{us:List Value},aw [x,y] us→∃u v,us=[u,v]∧aA x u∧aA y v
 |_,_,_,.cons r (.cons q .nil)=>⟨_,_,rfl,r,q⟩
theorem aw.zero:∀{us:List Value},aw [] us→us=[]
 |_,.nil=>rfl
theorem aw.dropLast{xs:List V}{us:List Value}(h:aw xs us):aw xs.dropLast us.dropLast:=by
 induction h with
 |nil=>exact .nil
 |cons r t ih =>
  cases t with
  |nil=>exact .nil
  |cons q t'=>exact .cons r ih
theorem aw.rep{xs:List V}{us:List Value}(h:aw xs us):∀k:Nat,aw (replicate k xs).flatten (replicate k us).flatten
 |0=>.nil
 |k+1=>by
  rw[replicate_succ,replicate_succ,flatten_cons,flatten_cons];exact aw.append h (aw.rep h k)
theorem ow{α:Type}(l:List α):l.eraseIdx (l.length-1)=l.dropLast:=by
 induction l with
 |nil=>rfl
 |cons a r ih =>
  cases r with
  |nil=>rfl
  |cons b r =>
   have e:(a::b::r).length-1=((b::r).length-1)+1:=by
    have h1:(a::b::r).length=r.length+2:=rfl;have h2:(b::r).length=r.length+1:=rfl;omega
   rw[e,List.eraseIdx_cons_succ,ih]
   all_goals rfl
theorem jS(its:List Value):∀(k:Nat)(acc:List Value),
  foldl (λx1 x2=>x1++x2) acc.toArray (replicate k its.toArray)=(acc++(replicate k its).flatten).toArray
 |0,acc=>by simp
 |k+1,acc=>by
  have e:acc.toArray++its.toArray=(acc++its).toArray:=by simp
  have e2:(acc++its)++(replicate k its).flatten=acc++(replicate (k+1) its).flatten:=by
   rw[replicate_succ,flatten_cons,append_assoc]
  rw[←e2,←jS its k (acc++its),←e,replicate_succ,List.foldl_cons]
section
variable{X:Cx}{pins:List (Addr×Obj)}{σ:St}{H:Hp}{s:Shared}{l b:Addr}{xs ys zs:List V}
theorem Inv.lset{its its':List Value}{n:Nat}{f:Array Value→Array Value}{t':Nat}(I:Inv X pins σ H s)(hH:H l=some (.lst xs))(e:s.heap.get? l=some {cls:=.type "list",data:=.seq its.toArray n})(hf:f its.toArray=its'.toArray)(hv:aw ys its')(hz:ys.length≤sizeLine):
  Inv X pins σ (upd H l (.lst ys)) {s with heap:=s.heap.update l (Obj.mapSeq f),toks:=t'}:=by
 have q:=PySem.IsL.update e f;rw[hf]at q;refine I.write (x:=l) (e:=l) (by rw[hH];exact trivial) (.inl rfl) (λb' u hb hu=>(Heap.get?_update_other s.heap (Obj.mapSeq f) (symm hb)).trans hu) ⟨_,q⟩ ?_;exact⟨hz,its',_,hv,q⟩
theorem Inv.lnew{its:List Value}{t':Nat}(I:Inv X pins σ H s)(hv:aw ys its)(hz:ys.length≤sizeLine):
  Inv X pins σ (upd H s.heap.objs.size (.lst ys)) {s with heap:=s.heap.push {cls:=.type "list",data:=.seq its.toArray},toks:=t'} :=
 I.laid (λ_ _ q=>get?_push_of_some _ q) (le_refl _) ⟨hz,its,0,hv,get?_push_size _ rfl⟩
theorem Inv.fresh(I:Inv X pins σ H s):H s.heap.objs.size=none:=I.hok.fresh (le_refl _)
theorem Inv.lstM(I:Inv X pins σ H s)(hH:H l=some (.lst xs)):xs.length≤sizeLine∧∃(its:List Value) (n:Nat),aw xs its∧xs.length=its.length∧s.heap.get? l=some {cls:=.type "list",data:=.seq its.toArray n}:=by
 obtain⟨z,its,n,r,e⟩:=I.hok l _ hH;exact⟨z,its,n,r,r.length,e⟩
theorem sh{n:Nat}(h:n≤sizeLine):Builtin.List.listTooLong n=false:=by
 unfold Builtin.List.listTooLong;exact decide_eq_false (by omega)
def vd:V→List V→Hp→VK→Prop:=λx vs H Q=>∃l xs y,x=.ref l∧vs=[y]∧H l=some (.lst xs)∧xs.length<sizeLine∧Q .non (upd H l (.lst (xs++[y])))
theorem aH:MtM X "list.append" vd:=by
 intro pins s σ H x vs v us Q I rx rv h;obtain⟨l,xs,y,rfl,rfl,hH,hz,q⟩:=h;cases rx;obtain⟨u,rfl,ru⟩:=rv.one;obtain⟨z,its,n,r,hl,e⟩:=I.lstM hH;refine call_meets F.slot_list_append ⟨_,e,rfl⟩ F.entry_list_append (F.args_list_append_2 _ _) (PySem.list_append l its.toArray n u (by rw[size_toArray];omega)) ⟨e,?_⟩;refine⟨.non,_,I.lset (its':=its++[u]) hH e (by simp) (r.append (.cons ru .nil)) ?_,rfl,q⟩;rw[length_append,length_singleton];omega
def Ak:V→List V→Hp→VK→Prop:=λx vs H Q=>∃l xs y,x=.ref l∧vs=[]∧H l=some (.lst xs)∧xs[xs.length-1]?=some y∧Q y (upd H l (.lst xs.dropLast))
theorem si:MtM X "list.pop" Ak:=by
 intro pins s σ H x vs v us Q I rx rv h;obtain⟨l,xs,y,rfl,rfl,hH,hy,q⟩:=h;cases rx;have hus:=rv.zero;subst hus;obtain⟨z,its,n,r,hl,e⟩:=I.lstM hH;obtain⟨u,hu,ru⟩:=r.get hy;have hy':its.toArray[its.toArray.size-1]?=some u:=by
  show its.toArray[its.length-1]?=some u;rw[←getElem?_toList,←hl];exact hu
 refine call_meets F.slot_list_pop ⟨_,e,rfl⟩ F.entry_list_pop (F.args_list_pop_1 _) (MeetsSeq.list_pop_last l its.toArray n u hy' (by rw[size_toArray];omega)) ⟨e,?_⟩;refine⟨y,_,I.lset (its':=its.dropLast) hH e ?_ r.dropLast ?_,ru,q⟩
 ·show its.toArray.eraseIdxIfInBounds (its.toArray.size-1)=its.dropLast.toArray;rw[size_toArray,List.eraseIdxIfInBounds_toArray,ow]
 ·rw[List.length_dropLast];omega
def Al:R2:=λx y H Q=>∃l b xs zs,x=.ref l∧y=.ref b∧H l=some (.lst xs)∧H b=some (.lst zs)∧xs.length+zs.length≤sizeLine∧∀p,H p=none→Q (.ref p) (upd H p (.lst (xs++zs)))
theorem fH:OpR X (binaryOp .Add) Al:=by
 intro pins s σ H x y v u Q I rx ry h;obtain⟨l,b,xs,zs,rfl,rfl,hH,hB,hz,q⟩:=h;cases rx;cases ry;obtain⟨z,its,n,r,hl,e⟩:=I.lstM hH;obtain⟨z2,its2,n2,r2,hl2,e2⟩:=I.lstM hB;refine PySem.P.add_list e e2 ?_ (by rw[size_toArray,size_toArray];omega);have ea:its.toArray++its2.toArray=(its++its2).toArray:=by simp
 rw[ea];exact⟨.ref _,_,I.lnew (t':=s.toks) (r.append r2) (by rw[length_append];omega),rfl,q _ I.fresh⟩
def Am:R2:=λx y H Q=>∃l k xs,x=.ref l∧y=.int k∧H l=some (.lst xs)∧-(2 ^ 63)≤k∧k<2 ^ 63∧xs.length*k.toNat≤sizeLine ∧
 ∀p,H p=none→Q (.ref p) (upd H p (.lst (replicate k.toNat xs).flatten))
theorem ve{α:Type}(xs:List α)(k:Nat):(replicate k xs).flatten.length=k*xs.length:=by
 induction k with
 |zero=>simp
 |succ k ih=>rw[replicate_succ,flatten_cons,length_append,ih,Nat.succ_mul,Nat.add_comm]
theorem oz:OpR X (binaryOp .Mult) Am:=by
 intro pins s σ H x y v u Q I rx ry h;obtain⟨l,k,xs,rfl,rfl,hH,h1,h2,hz,q⟩:=h;cases rx;obtain⟨t,rfl⟩:=ry;obtain⟨z,its,n,r,hl,e⟩:=I.lstM hH;have hlen:its.toArray.size*k.toNat≤sizeLine:=by rw[size_toArray,←hl];exact hz
 have hcap:¬its.toArray.size*k.toNat>(2 ^ 63-1) / 8:=by
  have:(sizeLine:Nat)≤(2 ^ 63-1) / 8:=by decide
  omega
 have hfit:¬(!Builtin.List.listFitsIndex k)=true:=by
  rw[fitsIndex_both h1 h2];exact Bool.false_ne_true
 have hlong:¬Builtin.List.listTooLong (its.toArray.size*k.toNat)=true:=by
  rw[sh hlen];exact Bool.false_ne_true
 have hnew:foldl (λx1 x2=>x1++x2) #[] (replicate (if its.toArray.isEmpty=true then 0 else k.toNat) its.toArray)=(replicate k.toNat its).flatten.toArray:=by
  have f0:∀m:Nat,foldl (λx1 x2=>x1++x2) #[] (replicate m its.toArray)=(replicate m its).flatten.toArray:=λm=>by
   have:=jS its m [];rw[List.nil_append]at this;exact this
  rw[f0];cases its with
  |nil=>simp
  |cons a r'=>rw[if_neg (by simp)]
 refine wpAny_binaryOp_repeat_ref (T:="list") (U:="int") (by decide) ⟨_,e,rfl⟩ (λs'=>typeIs_int s' k t) noFill_list_mul F.fills_int_mul F.slot_int_rmul repeat_list F.slot_int_index.lookup
  (call_meets F.slot_int_rmul (typeIs_int s k t) F.entry_int_rmul (F.args_int_rmul_2 _ _) (int___rmul___int_list k t l its.toArray n)
   ⟨e,rfl,⟨_,e,rfl⟩,call_meets F.slot_list_mul ⟨_,e,rfl⟩ F.entry_list_mul (F.args_list_mul_2 _ _) (AutoListH.list___mul___list_int_3 l its.toArray n k t hfit hcap hlong) ⟨e,?_⟩⟩)
 rw[hnew];exact⟨.ref _,_,I.lnew (t':=s.toks) (r.rep k.toNat) (by rw[ve,Nat.mul_comm];exact hz),rfl,q _ I.fresh⟩
end
section
variable{prog:Program}{w:World}{A:Around}{E:Value→Shared→Prop}{s:Shared}
end
section
variable{X:Cx}
end
section
variable{κ:Type}[DecidableEq κ]
def aZ(kvs:List (κ×V))(k:κ):Option V:=(kvs.find? λkv=>decide (kv.1=k)).map (·.2)
def cP(kvs:List (κ×V))(k:κ)(v:V):List (κ×V) :=
 if (kvs.any λkv=>decide (kv.1=k))=true then kvs.map (λkv=>if kv.1=k then (kv.1,v)else kv)else kvs++[(k,v)]
def cS(kvs:List (κ×V))(k:κ):List (κ×V):=kvs.filter λkv=>decide (kv.1≠k)
theorem aT{p:κ×V}{r:List (κ×V)}{k:κ}(e:p.1=k):aZ (p::r) k=some p.2:=by simp[aZ,find?_cons,e]
theorem aN{p:κ×V}{r:List (κ×V)}{k:κ}(e:¬p.1=k):aZ (p::r) k=aZ r k:=by simp[aZ,find?_cons,e]
theorem gr(k:κ):∀kvs:List (κ×V),(kvs.any λkv=>decide (kv.1=k))=(aZ kvs k).isSome
 |[]=>rfl
 |p::r=>by
  rw[any_cons]
  by_cases e:p.1=k
  ·simp only[aT e,decide_eq_true e,Bool.true_or,Option.isSome_some]
  ·rw[aN e,decide_eq_false e,Bool.false_or];exact gr k r
theorem lR(k j:κ)(y:V):∀kvs:List (κ×V),aZ (kvs.map λkv=>if kv.1=k then (kv.1,y)else kv) j=(aZ kvs j).map λx=>if j=k then y else x
 |[]=>rfl
 |p::r=>by
  have ih:=lR k j y r;rw[map_cons]
  by_cases h:p.1=k
  ·rw[if_pos h]
   by_cases e:p.1=j
   ·rw[aT (p:=(p.1,y)) e,aT e,map_some,if_pos (e.symm.trans h)]
   ·rw[aN (p:=(p.1,y)) e,aN e,ih]
  ·rw[if_neg h]
   by_cases e:p.1=j
   ·rw[aT (p:=p) e,aT e,map_some,if_neg (λz=>h (e.trans z))]
   ·rw[aN (p:=p) e,aN e,ih]
theorem jT(k j:κ)(y:V):∀kvs:List (κ×V),aZ kvs k=none→aZ (kvs++[(k,y)]) j=if j=k then some y else aZ kvs j
 |[],_=>by
  by_cases e:k=j
  ·rw[if_pos e.symm];exact aT (p:=(k,y)) e
  ·rw[if_neg (λz=>e z.symm)];exact aN (p:=(k,y)) e
 |p::r,hn=>by
  rw[List.cons_append];have hk:¬p.1=k:=λz=>by rw[aT z]at hn;cases hn
  rw[aN hk]at hn;have ih:=jT k j y r hn
  by_cases e:p.1=j
  ·rw[aT e,aT e,if_neg (λz=>hk (e.trans z))]
  ·rw[aN e,aN e,ih]
theorem lS(kvs:List (κ×V))(k j:κ)(y:V):aZ (cP kvs k y) j=if j=k then some y else aZ kvs j:=by
 unfold cP
 by_cases a:(kvs.any λkv=>decide (kv.1=k))=true
 ·rw[if_pos a,lR];rw[gr]at a
  by_cases e:j=k
  ·obtain⟨x,hx⟩:=Option.isSome_iff_exists.mp a;rw[if_pos e,e,hx,map_some,if_pos rfl]
  ·rw[if_neg e];cases aZ kvs j with
   |none=>rfl
   |some x=>rw[map_some,if_neg e]
 ·rw[if_neg a];refine jT k j y kvs ?_;rw[gr]at a;cases q:aZ kvs k with
  |none=>rfl
  |some x=>rw[q]at a;exact(a rfl).elim
theorem dt(kvs:List (κ×V))(k:κ)(v:V):(cP kvs k v).length≤kvs.length+1:=by
 unfold cP
 split
 ·rw[length_map];omega
 ·rw[length_append,length_cons,length_nil];omega
theorem dD.isSome_eq{o:Option V}{u:Option Value}(r:dD o u):o.isSome=u.isSome:=by
 cases o with
 |none=>cases u with
  |none=>rfl
  |some _=>exact(show False from r).elim
 |some _=>cases u with
  |none=>exact(show False from r).elim
  |some _=>rfl
theorem dD.getD{o:Option V}{u:Option Value}{d:V}{d':Value}(r:dD o u)(rd:aA d d'):aA (o.getD d) (u.getD d'):=by
 cases o with
 |none=>cases u with
  |none=>exact rd
  |some _=>exact(show False from r).elim
 |some _=>cases u with
  |none=>exact(show False from r).elim
  |some _=>exact r
theorem KV.val{kvs:List (κ×V)}{vs:List (κ×Value)}(r:KV kvs vs)(k:κ):dD (aZ kvs k) (valueAt vs k):=by
 unfold KV at r
 induction r with
 |nil=>exact True.intro
 |@cons p q ps qs h t ih =>
  obtain⟨h1,h2⟩:=h
  by_cases e:p.1=k
  ·have e':q.1=k:=h1.symm.trans e;have b:valueAt (q::qs) k=some q.2:=by simp[valueAt,find?_cons,e']
   rw[aT e,b];exact h2
  ·have e':¬q.1=k:=λz=>e (h1.trans z);have b:valueAt (q::qs) k=valueAt qs k:=by simp[valueAt,find?_cons,e']
   rw[aN e,b];exact ih
theorem KV.any{kvs:List (κ×V)}{vs:List (κ×Value)}(r:KV kvs vs)(k:κ):(kvs.any λkv=>decide (kv.1=k))=vs.any λkv=>decide (kv.1=k):=by
 unfold KV at r
 induction r with
 |nil=>rfl
 |cons h t ih=>rw[any_cons,any_cons,ih,h.1]
theorem KV.repl{kvs:List (κ×V)}{vs:List (κ×Value)}(r:KV kvs vs)(k:κ){y:V}{u:Value}(ry:aA y u):
  KV (kvs.map λkv=>if kv.1=k then (kv.1,y)else kv) (vs.map λkv=>if kv.1=k then (kv.1,u)else kv):=by
 unfold KV at r⊢
 induction r with
 |nil=>exact .nil
 |@cons p q ps qs h t ih =>
  rw[map_cons,map_cons];refine .cons ?_ ih;obtain⟨h1,h2⟩:=h
  by_cases e:p.1=k
  ·rw[if_pos e,if_pos (h1.symm.trans e)];exact⟨h1,ry⟩
  ·rw[if_neg e,if_neg (λz=>e (h1.trans z))];exact⟨h1,h2⟩
theorem KV.put{kvs:List (κ×V)}{vs:List (κ×Value)}(r:KV kvs vs)(k:κ){y:V}{u:Value}(ry:aA y u):KV (cP kvs k y) (stored vs k u):=by
 unfold cP stored;rw[r.any k]
 by_cases e:(vs.any λkv=>decide (kv.1=k))=true
 ·rw[if_pos e,if_pos e];exact r.repl k ry
 ·rw[if_neg e,if_neg e];exact Paired.snoc r ⟨rfl,ry⟩
theorem KV.drop{kvs:List (κ×V)}{vs:List (κ×Value)}(r:KV kvs vs)(k:κ):KV (cS kvs k) (without vs k):=by
 unfold KV at r⊢;unfold cS without
 induction r with
 |nil=>exact .nil
 |@cons p q ps qs h t ih =>
  obtain⟨h1,h2⟩:=h;rw[filter_cons,filter_cons]
  by_cases e:p.1=k
  ·have a:¬decide (p.1≠k)=true:=by simp[e]
   have b:¬decide (q.1≠k)=true:=by simp[h1.symm.trans e]
   rw[if_neg a,if_neg b];exact ih
  ·have e':¬q.1=k:=λz=>e (h1.trans z);have a:decide (p.1≠k)=true:=by simp[e]
   have b:decide (q.1≠k)=true:=by simp[e']
   rw[if_pos a,if_pos b];exact .cons ⟨h1,h2⟩ ih
theorem KV.length{kvs:List (κ×V)}{vs:List (κ×Value)}(r:KV kvs vs):kvs.length=vs.length:=Paired.length r
theorem lT(kvs:List (κ×V))(k:κ):(cS kvs k).length≤kvs.length:=length_filter_le _ _
end
theorem fk{P:Program}{w:World}{k:Key}{u:Value}(r:aA (kV k) u):(aG P w).is k u=true:=by
 cases k with
 |inl i=>obtain⟨t,e⟩:=(show ∃t,u=Value.int i t from r);subst e;exact lK P w i t
 |inr x=>obtain⟨t,e⟩:=(show ∃t,u=Value.str x t from r);subst e;exact lL P w x t
theorem jU{P:Program}{w:World}:∀{ks:List Key}{us:List Value},aw (ks.map kV) us→ItemsAre (aG P w) ks us
 |[],_,r=>by rw[map_nil]at r;cases r;exact .nil
 |k::ks,_,r=>by
  rw[map_cons]at r;cases r with
  |cons h t=>exact .cons (fk h) (jU t)
abbrev KT(H:Hp):List (List Key×V)→List (List Key×Addr×Value)→Prop:=Paired λp q=>p.1=q.1∧H q.2.1=some (.tup (p.1.map kV))∧aA p.2 q.2.2
theorem KT.val{H:Hp}{kvs:List (List Key×V)}{xs:List (List Key×Addr×Value)}(r:KT H kvs xs)(k:List Key):dD (aZ kvs k) ((atKey xs k).map (·.2)):=by
 induction r with
 |nil=>exact True.intro
 |@cons p q ps qs h t ih =>
  obtain⟨h1,_,h2⟩:=h
  by_cases e:p.1=k
  ·have e':q.1=k:=h1.symm.trans e;have b:atKey (q::qs) k=some q.2:=by simp[atKey,find?_cons,e']
   rw[aT e,b];exact h2
  ·have e':¬q.1=k:=λz=>e (h1.trans z);have b:atKey (q::qs) k=atKey qs k:=by simp[atKey,find?_cons,e']
   rw[aN e,b];exact ih
theorem KT.repl{H:Hp}{kvs:List (List Key×V)}{xs:List (List Key×Addr×Value)}(r:KT H kvs xs)(k:List Key){y:V}{u:Value}(ry:aA y u):
  KT H (kvs.map λkv=>if kv.1=k then (kv.1,y)else kv) (xs.map (putAt k u)):=by
 induction r with
 |nil=>exact .nil
 |@cons p q ps qs h t ih =>
  rw[map_cons,map_cons];refine .cons ?_ ih;obtain⟨h1,h2,h3⟩:=h;unfold putAt
  by_cases e:p.1=k
  ·rw[if_pos e,if_pos (h1.symm.trans e)];exact⟨h1,h2,ry⟩
  ·rw[if_neg e,if_neg (λz=>e (h1.trans z))];exact⟨h1,h2,h3⟩
theorem KT.put{H:Hp}{kvs:List (List Key×V)}{xs:List (List Key×Addr×Value)}(r:KT H kvs xs)(k:List Key){b:Addr}{y:V}{u:Value}(hb:H b=some (.tup (k.map kV)))(ry:aA y u):
  KT H (cP kvs k y) (storedH xs k b u):=by
 have e:(kvs.any λkv=>decide (kv.1=k))=(atKey xs k).isSome:=by
  rw[gr,(r.val k).isSome_eq,isSome_map]
 unfold cP storedH;rw[e]
 by_cases q:(atKey xs k).isSome=true
 ·rw[if_pos q,if_pos q];exact r.repl k ry
 ·rw[if_neg q,if_neg q];exact Paired.snoc r ⟨rfl,hb,ry⟩
theorem KT.keeps{H H':Hp}{kvs:List (List Key×V)}{xs:List (List Key×Addr×Value)}(r:KT H kvs xs)(ht:∀b ys,H b=some (.tup ys)→H' b=some (.tup ys)):KT H' kvs xs :=
 Paired.mapP r λ_ _ z=>⟨z.1,ht _ _ z.2.1,z.2.2⟩
section
variable{P:Program}{w:World}{H:Hp}{h:Heap}{a:Addr}
theorem wQ{u:HO}(ok:HOk P w H h)(e:Rd H a u):bf P w H h a u:=e.ok ok
theorem iY{kvs:List (Key×V)}(ok:HOk P w H h)(e:Rd H a (.dK kvs)):kvs.length≤sizeLine∧(a==sysModules)=false∧∃vs,KV kvs vs∧h.DictOf (aG P w) a vs :=
 show bf P w H h a (.dK kvs)from wQ ok e
theorem pG{kvs:List (Key×V)}(ok:HOk P w H h)(e:H a=some (.dK kvs)):kvs.length≤sizeLine∧(a==sysModules)=false∧∃vs,KV kvs vs∧h.DictOf (aG P w) a vs:=iY ok (.inl e)
theorem ic{ks:List Key}(ok:HOk P w H h)(e:H a=some (.tup (ks.map kV))):(tupleKind (aG P w)).is h ks a:=by
 obtain⟨_,its,r,o,h1,h2,n,h3⟩:=(show bf P w H h a (.tup (ks.map kV))from ok a _ e);exact⟨o,its.toArray,n,h1,h2,h3,by simpa using jU r⟩
theorem iZ{kvs:List (List Key×V)}(ok:HOk P w H h)(e:Rd H a (.dT kvs)):kvs.length≤sizeLine∧(a==sysModules)=false ∧
  ∃xs,KT H kvs xs∧h.DictOfH (tupleKind (aG P w)) a xs:=by
 obtain⟨z,y,xs,r,o,es,ep,h1,h2,h3,h4,h5⟩:=(show bf P w H h a (.dT kvs)from wQ ok e);refine⟨z,y,xs,r,o,es,ep,h1,h2,h3,h4,λx hx=>?_,h5⟩;have all:∀{l:List (List Key×V)}{m:List (List Key×Addr×Value)},KT H l m→∀x∈m,(tupleKind (aG P w)).is h x.1 x.2.1:=by
  intro l m q
  induction q with
  |nil=>intro x hx;exact nomatch hx
  |@cons p q ps qs hq t ih =>
   intro x hx;rcases mem_cons.mp hx with e|hx
   ·subst e;exact ic ok (by rw[←hq.1];exact hq.2.1)
   ·exact ih x hx
 exact all r x hx
theorem zg{kvs:List (List Key×V)}(ok:HOk P w H h)(e:H a=some (.dT kvs)):kvs.length≤sizeLine∧(a==sysModules)=false ∧
  ∃xs,KT H kvs xs∧h.DictOfH (tupleKind (aG P w)) a xs:=iZ ok (.inl e)
end
def dG(H:Hp)(a:Addr)(y:V)(r:Option V):Prop :=
 (∃kvs k,Rd H a (.dK kvs)∧y=kV k∧r=aZ kvs k)∨∃kvs k b,Rd H a (.dT kvs)∧y=.ref b∧H b=some (.tup (k.map kV))∧r=aZ kvs k
def qK(H:Hp)(a:Addr)(y v:V)(H':Hp):Prop :=
 (∃kvs k,H a=some (.dK kvs)∧y=kV k∧kvs.length<sizeLine∧H'=upd H a (.dK (cP kvs k v))) ∨
 ∃kvs k b,H a=some (.dT kvs)∧y=.ref b∧H b=some (.tup (k.map kV))∧kvs.length<sizeLine∧H'=upd H a (.dT (cP kvs k v))
theorem dG.k{H:Hp}{a:Addr}{kvs:List (Key×V)}{k:Key}(e:H a=some (.dK kvs)):dG H a (kV k) (aZ kvs k):=.inl ⟨kvs,k,.inl e,rfl,rfl⟩
theorem qK.k{H:Hp}{a:Addr}{kvs:List (Key×V)}{k:Key}{v:V}(e:H a=some (.dK kvs))(hl:kvs.length<sizeLine):qK H a (kV k) v (upd H a (.dK (cP kvs k v))):=.inl ⟨kvs,k,e,rfl,hl,rfl⟩
section
variable{X:Cx}{pins:List (Addr×Obj)}{σ:St}{H:Hp}{s:Shared}{a:Addr}{y v:V}{u r:Value}{o:Option V}{A:Around}{E:Value→Shared→Prop}
theorem Inv.big(I:Inv X pins σ H s):sysModules<s.heap.objs.size:=by
 have h:mainGlobals<s.heap.objs.size:=(I.mod.glob.keeps I.bk).lt;exact lt_trans (by decide) h
theorem qL{Q:Value→Shared→Prop}(hu:A.units+1<cLine)(I:Inv X pins σ H s)(g:dG H a y (some v))(ry:aA y u)(h:∀w' s',Inv X pins σ H s'→aA v w'→Q w' s'):
  wpAny (model X.prog X.w) A (getItem (.ref a) u) Q E s:=by
 rcases g with⟨kvs,k,e,ey,l⟩|⟨kvs,k,b,e,ey,eb,l⟩
 ·subst ey;obtain⟨z,hd,vs,rel,dd⟩:=iY I.hok e;obtain⟨w',hw,rw'⟩:=dD.some_of (v:=v) (o:=valueAt vs k) (by rw[l];exact rel.val k);exact wpAny_getItem_of (fk ry) dd.mapOf hw (h w' _ (I.tok _) rw')
 ·subst ey;cases (show u=Value.ref b from ry);obtain⟨z,hd,xs,rel,dd⟩:=iZ I.hok e;obtain⟨w',hw,rw'⟩:=dD.some_of (v:=v) (o:=(atKey xs k).map (·.2)) (by rw[l];exact rel.val k);obtain⟨p,hp,hp2⟩:=Option.map_eq_some_iff.mp hw;refine wpAny_getItem_heap (tupleKind_room_in1 hu) (ic I.hok eb) dd hp ?_;rw[hp2];exact h w' _ (I.tok _) rw'
theorem An{Q:Value→Shared→Prop}(hu:A.units+1<cLine)(I:Inv X pins σ H s)(g:dG H a y o)(ry:aA y u)(h:∀s',Inv X pins σ H s'→Q (.bool o.isSome) s'):
  wpAny (model X.prog X.w) A (compareOp .In u (.ref a)) Q E s:=by
 rcases g with⟨kvs,k,e,ey,l⟩|⟨kvs,k,b,e,ey,eb,l⟩
 ·subst ey;obtain⟨z,hd,vs,rel,dd⟩:=iY I.hok e;refine wpAny_in_of (fk ry) hd dd.mapOf ?_;rw[←(rel.val k).isSome_eq,←l];exact h _ (I.tok _)
 ·subst ey;cases (show u=Value.ref b from ry);obtain⟨z,hd,xs,rel,dd⟩:=iZ I.hok e;refine wpAny_in_heap (tupleKind_room_in1 hu) (ic I.hok eb) hd dd ?_;have q:=(rel.val k).isSome_eq;rw[isSome_map]at q;rw[←q,←l];exact h _ (I.tok _)
theorem vf{Q:Value→Shared→Prop}(hu:A.units+1<cLine)(I:Inv X pins σ H s)(g:dG H a y o)(ry:aA y u)(h:∀s',Inv X pins σ H s'→Q (.bool (!o.isSome)) s'):
  wpAny (model X.prog X.w) A (compareOp .NotIn u (.ref a)) Q E s:=by
 rcases g with⟨kvs,k,e,ey,l⟩|⟨kvs,k,b,e,ey,eb,l⟩
 ·subst ey;obtain⟨z,hd,vs,rel,dd⟩:=iY I.hok e;refine wpAny_notIn_of (fk ry) hd dd.mapOf ?_;rw[←(rel.val k).isSome_eq,←l];exact h _ (I.tok _)
 ·subst ey;cases (show u=Value.ref b from ry);obtain⟨z,hd,xs,rel,dd⟩:=iZ I.hok e;refine wpAny_notIn_heap (tupleKind_room_in1 hu) (ic I.hok eb) hd dd ?_;have q:=(rel.val k).isSome_eq;rw[isSome_map]at q;rw[←q,←l];exact h _ (I.tok _)
theorem iJ{h':Heap}{t':Nat}{ob:HO}(I:Inv X pins σ H s)(mu:Mut (H a))(hs:SameBut a s.heap h')(he:∃q,h'.get? a=some q)(new:bf X.prog X.w (upd H a ob) h' a ob):
  Inv X pins σ (upd H a ob) {s with heap:=h',toks:=t'} :=
 I.write (x:=a) (e:=a) mu (.inl rfl) (λb q hb z=>(hs.2 b hb).trans z) he new
theorem ja{P:Program}{w:World}{H':Hp}{h':Heap}{kvs:List (Key×V)}{vs:List (Key×Value)}(z:kvs.length≤sizeLine)(hd:(a==sysModules)=false)(rel:KV kvs vs)(dd:h'.DictOf (aG P w) a vs):
  bf P w H' h' a (.dK kvs):=⟨z,hd,vs,rel,dd⟩
theorem qM{H':Hp}{Q:Unit→Shared→Prop}(hu:A.units+1<cLine)(I:Inv X pins σ H s)(g:qK H a y v H')(ry:aA y u)(rv:aA v r)(h:∀s',Inv X pins σ H' s'→Q () s'):
  wpAny (model X.prog X.w) A (setItem (.ref a) u r) Q E s:=by
 rcases g with⟨kvs,k,e,ey,l,eH⟩|⟨kvs,k,b,e,ey,eb,l,eH⟩
 ·subst ey eH;obtain⟨z,hd,vs,rel,dd⟩:=pG I.hok e;have hz:vs.length≤sizeLine:=by rw[←rel.length];exact z
  have hl:(cP kvs k v).length≤sizeLine:=by have:=dt kvs k v;omega
  refine wpAny_setItem_pairs (hsz:=hz) (fk ry) dd λh' dd' hs=>h _ ?_;have he:∃q,h'.get? a=some q:=let⟨q,_,_,hq,_⟩:=dd';⟨q,hq⟩;exact iJ I (by rw[e];exact True.intro) hs he (ja hl hd (rel.put k rv) dd')
 ·subst ey eH;cases (show u=Value.ref b from ry);obtain⟨z,hd,xs,rel,dd⟩:=zg I.hok e;have hz:xs.length≤sizeLine:=by rw[←Paired.length rel];exact z
  have hl:(cP kvs k v).length≤sizeLine:=by have:=dt kvs k v;omega
  refine wpAny_setItem_heap (hsz:=hz) (tupleKind_room_in1 hu) (ic I.hok eb) dd λh' dd' hs=>h _ ?_;obtain⟨q,es,ep,hq,h2,h3,h4,_,h5⟩:=dd';refine iJ I (by rw[e];exact True.intro) hs ⟨q,hq⟩ ⟨hl,hd,_,(rel.put k eb rv).keeps λc ys ec=>?_,q,es,ep,hq,h2,h3,h4,h5⟩;rw[ai (lM ec e (λz=>nomatch z))];exact ec
end
section
variable{X:Cx}{pins:List (Addr×Obj)}{σ:St}{H:Hp}{s:Shared}{a:Addr}{kvs:List (Key×V)}{k:Key}{u:Value}{A:Around}{E:Value→Shared→Prop}
theorem zh{v:V}{more:List Value}{Q:Value→Shared→Prop}(I:Inv X pins σ H s)(e:H a=some (.dK kvs))(ry:aA (kV k) u)(l:aZ kvs k=some v)(hm:more=[]∨∃x,more=[x])(h:∀w' s',Inv X pins σ (upd H a (.dK (cS kvs k))) s'→aA v w'→Q w' s'):wpAny (model X.prog X.w) A (call (.builtin "dict.pop") (.ref a::u::more)) Q E s:=by
 obtain⟨z,hd,vs,rel,dd⟩:=pG I.hok e;obtain⟨w',hw,rw'⟩:=dD.some_of (v:=v) (o:=valueAt vs k) (by rw[←l];exact rel.val k);have hp:(keyPart u).isSome=true:=by
  cases k with
  |inl i=>obtain⟨t,q⟩:=(show ∃t,u=Value.int i t from ry);subst q;rfl
  |inr x=>obtain⟨t,q⟩:=(show ∃t,u=Value.str x t from ry);subst q;rfl
 have ha:argsOk "dict.pop" ⟨.ref a::u::more,[]⟩:=by
  rcases hm with q|⟨x,q⟩
  ·subst q;exact PySem.F.args_dict_pop_2 _ _
  ·subst q;exact PySem.F.args_dict_pop_3 _ _ _
 refine call_meetsIn slot_dict_pop dd.typeIs PySem.F.entry_dict_pop ha (meets_dict_pop_there (aG X.prog X.w) a (fk ry) more hm hp)
  ⟨vs,w',dd,by rw[←rel.length];exact z,hw,λh' dd' hs=>h w' _ ?_ rw'⟩
 have he:∃q,h'.get? a=some q:=let⟨q,_,_,hq,_⟩:=dd';⟨q,hq⟩;exact iJ I (by rw[e];exact True.intro) hs he (ja (le_trans (lT kvs k) z) hd (rel.drop k) dd')
theorem xy{r:Value}{Q:Value→Shared→Prop}(I:Inv X pins σ H s)(e:H a=some (.dK kvs))(ry:aA (kV k) u)(l:aZ kvs k=none)(h:∀s',Inv X pins σ H s'→Q r s'):
  wpAny (model X.prog X.w) A (call (.builtin "dict.pop") [.ref a,u,r]) Q E s:=by
 obtain⟨z,hd,vs,rel,dd⟩:=pG I.hok e;have hn:valueAt vs k=none:=dD.none_of (by rw[←l];exact rel.val k);have hp:(keyPart u).isSome=true:=by
  cases k with
  |inl i=>obtain⟨t,q⟩:=(show ∃t,u=Value.int i t from ry);subst q;rfl
  |inr x=>obtain⟨t,q⟩:=(show ∃t,u=Value.str x t from ry);subst q;rfl
 exact call_meetsIn slot_dict_pop dd.typeIs PySem.F.entry_dict_pop (PySem.F.args_dict_pop_3 _ _ _) (meets_dict_pop_default (aG X.prog X.w) a (fk ry) hd hp r) ⟨vs,dd,hn,h _ (I.tok _)⟩
end
def zi(i:Expr):Prop:=∀ov iv,subscripted i false ov iv=operate [ov,iv] (getItem ov iv)
theorem vg{prog:Program}{w:World}{A:Around}{E:Value→Shared→Prop}{s:Shared}{env:Env}{value slice:Expr}{pos:Pos}{T id:String}{Q:Value→Shared→Prop}(hl:typeLookup (.type T) "__getitem__"=pure (some (.builtin id)))(hs:zi slice)(h:wpAny (model prog w) A (eval value env) (λo s₁=>wpAny (model prog w) A (eval slice env) (λi s₂=>s₂.TypeIs o T∧wpAny (model prog w) A (getItem o i) Q E s₂) E s₁) E s):
  wpAny (model prog w) A (eval (.Subscript value slice pos) env) Q E s:=by
 refine Subscript_ (wpAny_mono h (λo s₁ h₁=>wpAny_mono h₁ (λi s₂ h₂=>?_) λ_ _ x=>x) λ_ _ x=>x);obtain⟨hT,h₂⟩:=h₂;unfold subscriptTail;refine wpAny_bind ?_;rw[getitemInPython_of_ne hT.not_modules];refine wpAny_bind (wpAny_specialOf hT hl ?_);have fin:wpAny (model prog w) A (subscripted slice false o i) (λr s₃=>wpAny (model prog w) A (letTemporaryGo value o r >>= λ_=>pure r) Q E s₃) E s₂:=by
  rw[hs o i];exact wpAny_operating (wpAny_mono h₂ (λr s₃ h₃=>wpAny_bind (wpAny_letTemporaryGo (wpAny_pure h₃))) λ_ _ x=>x)
 first
  |exact wpAny_pure (wpAny_bind fin)
  |exact wpAny_bind (wpAny_pure (wpAny_bind fin))
  |exact wpAny_bind fin
theorem lU{X:Cx}{pins:List (Addr×Obj)}{σ:St}{H:Hp}{s:Shared}{a:Addr}{y:V}{o:Option V}(I:Inv X pins σ H s)(g:dG H a y o):s.TypeIs (.ref a) "dict":=by
 rcases g with⟨kvs,k,e,_,_⟩|⟨kvs,k,b,e,_,_,_⟩
 ·obtain⟨_,_,vs,_,dd⟩:=iY I.hok e;exact dd.typeIs
 ·obtain⟨_,_,xs,_,dd⟩:=iZ I.hok e;exact dd.typeIs
def zj(td ty:TE):TE:=λσ H Q=>td σ H λx H1=>ty σ H1 λy H2=>∃a v,x=.ref a∧dG H2 a y (some v)∧Q v H2
def Ao(ty td:TE):TE:=λσ H Q=>ty σ H λy H1=>td σ H1 λx H2=>∃a o,x=.ref a∧dG H2 a y o∧Q (.bl o.isSome) H2
def vh(ty td:TE):TE:=λσ H Q=>ty σ H λy H1=>td σ H1 λx H2=>∃a o,x=.ref a∧dG H2 a y o∧Q (.bl (!o.isSome)) H2
def zk(td ty tv:TE):TS:=λD σ H=>tv σ H λv H1=>td σ H1 λx H2=>ty σ H2 λy H3=>∃a H4,x=.ref a∧qK H3 a y v H4∧D.nx σ H4
section
variable{X:Cx}{o i e value:Expr}{pos pos' tpos:Pos}{td ty tv:TE}
theorem lh(hu:X.A.units+1<cLine)(ho:PE X o td)(hi:PE X i ty)(hs:zi i):PE X (.Subscript o i pos) (zj td ty):=by
 intro pins s σ H Q I h;refine vg PySem.F.slot_dict_getitem.lookup hs (thn (ho pins s σ H _ I h) λu s1 ⟨x,H1,I1,rx,q1⟩=>thn (hi pins s1 σ H1 _ I1 q1) λiv s2 hpt=>?_);obtain⟨y,H2,I2,ry,a,v,ex,g,q2⟩:=hpt;subst ex;obtain rfl:u=Value.ref a:=rx;exact⟨lU I2 g,qL hu I2 g ry λw' s3 I3 rw'=>⟨v,H2,I3,rw',q2⟩⟩
theorem sj(hu:X.A.units+1<cLine)(hi:PE X i ty)(ho:PE X o td):PC X .In i o (Ao ty td):=by
 intro pins s σ H Q I h;refine thn (hi pins s σ H _ I h) λiv s1 ⟨y,H1,I1,ry,q1⟩=>thn (ho pins s1 σ H1 _ I1 q1) λu s2 hpt=>?_;obtain⟨x,H2,I2,rx,a,ov,ex,g,q2⟩:=hpt;subst ex;obtain rfl:u=Value.ref a:=rx;exact An hu I2 g ry λs3 I3=>⟨.bl ov.isSome,H2,I3,rfl,q2⟩
theorem dH(hu:X.A.units+1<cLine)(hi:PE X i ty)(ho:PE X o td):PC X .NotIn i o (vh ty td):=by
 intro pins s σ H Q I h;refine thn (hi pins s σ H _ I h) λiv s1 ⟨y,H1,I1,ry,q1⟩=>thn (ho pins s1 σ H1 _ I1 q1) λu s2 hpt=>?_;obtain⟨x,H2,I2,rx,a,ov,ex,g,q2⟩:=hpt;subst ex;obtain rfl:u=Value.ref a:=rx;exact vf hu I2 g ry λs3 I3=>⟨.bl (!ov.isSome),H2,I3,rfl,q2⟩
theorem pH(hu:X.A.units+1<cLine)(ho:PE X o td)(hi:PE X i ty)(hv:PE X value tv)(hs:swapsWith value (some (.Subscript o i pos')) pos.line X.env=pure false):
  PS X (.Assign [.Subscript o i pos'] value pos) (zk td ty tv):=by
 intro pins s σ H D I h;refine wpAny_Assign_Subscript (thn (hv pins s σ H _ I h) λr s1 ⟨v,H1,I1,rv,q1⟩=>thn (ho pins s1 σ H1 _ I1 q1) λu s2 ⟨x,H2,I2,rx,q2⟩=>thn (hi pins s2 σ H2 _ I2 q2) λiv s3 ⟨y,H3,I3,ry,a,H4,ex,g,q3⟩=>?_) hs;subst ex;obtain rfl:u=Value.ref a:=rx;exact qM hu I3 g ry rv λs4 I4=>⟨σ,H4,I4,q3⟩
end
theorem sk{P:Program}{w:World}{H:Hp}(h:Heap)(hb:sysModules<h.objs.size):bf P w H (h.push {cls:=.type "dict",data:=.dict #[]}) h.objs.size (.dK []) :=
 ⟨zero_le _,beq_eq_false_iff_ne.mpr (symm (ne_of_lt hb)),[],.nil,Heap.DictOf.new h⟩
def xz:TE:=λ_ H Q=>∀p,H p=none→Q (.ref p) (upd H p (.dK []))
section
variable{X:Cx}{pos:Pos}
theorem lV:PE X (.Dict [] [] pos) xz:=λpins s σ H Q I h =>
 wpAny_Dict_empty ⟨.ref s.heap.objs.size,_,I.laid (a:=s.heap.objs.size) (o:=.dK []) (t':=s.toks) (λ_ _ q=>get?_push_of_some _ q) (le_refl _) (sk s.heap I.big),rfl,h _ (I.hok.fresh (le_refl _))⟩
end
structure M1(X:Cx)(o:Expr)(m:Str)(apos:Pos)(e:Expr)(cpos:Pos):Prop where
 base:attributeBase o m X.env (eval o X.env)=eval o X.env
 few:((backTo cpos (starEach [e] X.env)).all (λx=>!x.1)&&(backToKw cpos (keywordEach [] X.env)).all (λx=>x.1.isSome)
  && decide (([e]:List Expr).length+([]:List Keyword).length+(if ([]:List Keyword).isEmpty then 0 else 1)<30))=true
 line:(apos.endLine==cpos.line)=true
 trees:backTo cpos (starEach [e] X.env)=[(false,eval e X.env)]
structure M2(X:Cx)(o:Expr)(m:Str)(apos:Pos)(e f:Expr)(cpos:Pos):Prop where
 base:attributeBase o m X.env (eval o X.env)=eval o X.env
 few:((backTo cpos (starEach [e,f] X.env)).all (λx=>!x.1)&&(backToKw cpos (keywordEach [] X.env)).all (λx=>x.1.isSome)
  && decide (([e,f]:List Expr).length+([]:List Keyword).length+(if ([]:List Keyword).isEmpty then 0 else 1)<30))=true
 line:(apos.endLine==cpos.line)=true
 trees:backTo cpos (starEach [e,f] X.env)=[(false,eval e X.env),(false,eval f X.env)]
def IsD(H:Hp)(a:Addr):Prop:=(∃kvs,Rd H a (.dK kvs))∨∃kvs,Rd H a (.dT kvs)
theorem sm{X:Cx}{pins:List (Addr×Obj)}{σ:St}{H:Hp}{s:Shared}{a:Addr}(I:Inv X pins σ H s)(d:IsD H a):
  s.TypeIs (.ref a) "dict"∧(∀b,Value.ref a=.ref b→∃ob,s.heap.get? b=some ob∧ob.dict=none)∧(a==sysModules)=false:=by
 rcases d with⟨kvs,e⟩|⟨kvs,e⟩
 ·obtain⟨_,hd,vs,_,dd⟩:=iY I.hok e;refine⟨dd.typeIs,λb q=>?_,hd⟩;cases q;obtain⟨ob,_,_,h1,h2,_⟩:=dd;exact⟨ob,h1,h2.2.1⟩
 ·obtain⟨_,hd,xs,_,dd⟩:=iZ I.hok e;refine⟨dd.typeIs,λb q=>?_,hd⟩;cases q;obtain⟨ob,_,_,h1,h2,_⟩:=dd;exact⟨ob,h1,h2.2.1⟩
section
variable{X:Cx}{pins:List (Addr×Obj)}{σ:St}{H:Hp}{s:Shared}{a:Addr}{y d:V}{u r:Value}{o:Option V}{A:Around}{E:Value→Shared→Prop}
theorem xA{Q:Value→Shared→Prop}(hu:A.units+1<cLine)(I:Inv X pins σ H s)(g:dG H a y o)(ry:aA y u)(h:∀w' s',Inv X pins σ H s'→aA (o.getD .non) w'→Q w' s'):
  wpAny (model X.prog X.w) A (call (.builtin "dict.get") [.ref a,u]) Q E s:=by
 rcases g with⟨kvs,k,e,ey,l⟩|⟨kvs,k,b,e,ey,eb,l⟩
 ·subst ey;obtain⟨z,hd,vs,rel,dd⟩:=iY I.hok e;refine call_meetsIn slot_dict_get dd.typeIs PySem.F.entry_dict_get (PySem.F.args_dict_get_2 _ _) (meets_dict_get (aG X.prog X.w) a (fk ry) hd) ⟨_,dd.mapOf,h _ _ (I.tok _) ?_⟩;rw[l];exact(rel.val k).getD rfl
 ·subst ey;cases (show u=Value.ref b from ry);obtain⟨z,hd,xs,rel,dd⟩:=iZ I.hok e;refine call_meetsIn slot_dict_get dd.typeIs PySem.F.entry_dict_get (PySem.F.args_dict_get_2 _ _) (meetsH_dict_get (tupleKind (aG X.prog X.w)) a b hd) ⟨tupleKind_room_in1 hu,k,xs,ic I.hok eb,dd,h _ _ (I.tok _) ?_⟩;rw[l];exact(rel.val k).getD rfl
end
def xB(td ty:TE):TE:=λσ H Q=>td σ H λx H1=>∃a,x=.ref a∧IsD H1 a∧ty σ H1 λy H2=>∃o,dG H2 a y o∧Q (o.getD .non) H2
def xC(td ty tx:TE):TE:=λσ H Q=>td σ H λx H1=>∃a,x=.ref a∧IsD H1 a∧ty σ H1 λy H2=>tx σ H2 λz H3=>∃kvs k,H3 a=some (.dK kvs)∧y=kV k ∧
 (∀v,aZ kvs k=some v→Q v (upd H3 a (.dK (cS kvs k))))∧(aZ kvs k=none→Q z H3)
section
variable{X:Cx}{o e f:Expr}{apos cpos:Pos}{td ty tx:TE}
theorem lW(hu:X.A.units+1<cLine)(ho:PE X o td)(he:PE X e ty)(m:M1 X o "get" apos e cpos):PE X (.Call (.Attribute o "get" apos) [e] [] cpos) (xB td ty):=by
 intro pins s σ H Q I h;refine wpAny_Call_method m.base m.few m.line plainAttrs_dict slot_dict_get PySem.F.type_dict_get (thn (ho pins s σ H _ I h) λu s1 hpt=>?_);obtain⟨x,H1,I1,rx,a,ex,d,q1⟩:=hpt;subst ex;obtain rfl:u=Value.ref a:=rx;obtain⟨t1,t2,_⟩:=sm I1 d;refine⟨t1,t2,?_⟩;rw[m.trees];refine callWith_builtin rfl (evalArgs_plain (spliced_cons (thn (he pins s1 σ H1 _ I1 q1) λiv s2 ⟨y,H2,I2,ry,ov,g,q2⟩=>spliced_nil ?_)));exact xA hu I2 g ry λw' s3 I3 rw'=>⟨_,H2,I3,rw',q2⟩
theorem so(ho:PE X o td)(he:PE X e ty)(hf:PE X f tx)(m:M2 X o "pop" apos e f cpos):PE X (.Call (.Attribute o "pop" apos) [e,f] [] cpos) (xC td ty tx):=by
 intro pins s σ H Q I h;refine wpAny_Call_method m.base m.few m.line plainAttrs_dict slot_dict_pop PySem.F.type_dict_pop (thn (ho pins s σ H _ I h) λu s1 hpt=>?_);obtain⟨x,H1,I1,rx,a,ex,d,q1⟩:=hpt;subst ex;obtain rfl:u=Value.ref a:=rx;obtain⟨t1,t2,_⟩:=sm I1 d;refine⟨t1,t2,?_⟩;rw[m.trees];refine callWith_builtin rfl (evalArgs_plain (spliced_cons (thn (he pins s1 σ H1 _ I1 q1) λiv s2 ⟨y,H2,I2,ry,q2⟩ =>
  spliced_cons (thn (hf pins s2 σ H2 _ I2 q2) λfv s3 ⟨z,H3,I3,rz,kvs,k,ea,ey,q3,q4⟩=>spliced_nil ?_))))
 subst ey;cases l:aZ kvs k with
 |some v=>exact zh I3 ea ry l (.inr ⟨fv,rfl⟩) λw' s4 I4 rw'=>⟨v,_,I4,rw',q3 v l⟩
 |none=>exact xy I3 ea ry l λs4 I4=>⟨z,H3,I4,rz,q4 l⟩
end
section
variable{X:Cx}{pins:List (Addr×Obj)}{σ:St}{H:Hp}{s:Shared}{a:Addr}{kvs:List (Key×V)}{A:Around}{E:Value→Shared→Prop}
end
section
variable{X:Cx}{pins:List (Addr×Obj)}{σ:St}{H:Hp}{s:Shared}{a:Addr}{y:V}{u:Value}{A:Around}{E:Value→Shared→Prop}
end
end L2
namespace Att
open PySem PySem.W PySem.Calls PyProof.Rows
theorem iF{P:Params}{h:Heap}:∀(ns:List Int)(vs:List Value),WellAll P h vs (ns.map WData.int)→IntsAre vs ns:=by
 intro ns
 induction ns with
 |nil =>
  intro vs w;rw[map_nil]at w;cases w;exact .nil
 |cons n ns ih =>
  intro vs w;rw[map_cons]at w;cases w with
  |cons a b =>
   cases a;exact .cons _ _ (ih _ b)
theorem qN{l:OpenLaw}{n:Nat}(hn:l.most=some n){P:Params}{h:Heap}{args:List WData}{vals:List Value}(hpre:l.row.toRowW.claim.pre args=true)(hwl:WellAll P h vals args):
  ∃a vs ns,vals=[Value.ref a]∧args=[WData.list (ns.map WData.int)]∧h.get? a=some {cls:=.type "list",data:=.seq vs.toArray}∧IntsAre vs ns∧ns.length≤n:=by
 have hsh:WShape.hasAll [] args [.list .int]=true:=(pre_splitW hpre).1;have hc:l.pre.holds [] {args:=args}=true:=(pre_splitW hpre).2;obtain⟨d,r,rfl,h1,h2⟩:=hasAllW_cons hsh;obtain rfl:=hasAllW_nil h2;obtain⟨xs,rfl,h3⟩:=hasW_list h1;obtain⟨ns,rfl⟩:=items_int h3;have hlen:ns.length≤n:=by
  unfold OpenLaw.pre at hc;have h4:(WTm.not (.lt (.lit (.int (n:Int))) (.len (.arg 0)))).holds [] {args:=[.list (ns.map .int)]}=true:=by
   have h4:=(holds_andW hc).1;rw[hn]at h4;exact h4
  have h5:=condW_of h4 (w_not (w_lt w_lit (w_len_list (w_arg rfl))));rw[length_map]at h5;refine Nat.le_of_not_lt λq=>?_;have q':(n:Int)<((ns.length:Nat):Int):=by omega
  first
   |(rw[decide_eq_true q']at h5;exact absurd h5 (by decide))
   |(simp at h5;omega)
 cases hwl with
 |cons w1 w2 =>
  cases w2;cases w1 with
  |list ho hall=>exact⟨_,_,ns,rfl,rfl,ho,iF ns _ hall,hlen⟩
theorem qO(l:OpenLaw)(args:List WData):l.row.toRowW.claim.post args (.bool true) args=true :=
 postW_of (r:=l.row.toRowW) (X:=(true==true))
  (show WShape.has [] (.bool true) .bool=true by first|rfl|decide|simp[WShape.has,WShape.arms,WShape.armsAll])
  (show(WTm.eq .res (.lit (.bool true))).value [] {args:=args,res:=some (.bool true),after:=args}=some (.bool (true==true))from w_eq_bool (w_res rfl) w_lit) rfl
theorem lX{l:OpenLaw}{n:Nat}{q:Program}{loose:List Str}{XP:(Str→Option Value)→Heap→Prop}{YP:World→Heap→Prop}{d:DefRec}(hn:l.most=some n)(hdf:d.params.defaults=[])(call:∀(w:World) (s₀ s₁:Shared) (mg mb:Str→Option Value) (fa:Addr) (o:Obj) (pm cd doc:Value) (a:Addr) (vs:List Value) (ns:List Int),
   Ground q loose [] XP w s₀ mg mb s₁.heap→YP w s₁.heap →
   s₁.heap.get? fa=some o→o.data=.func (docDef d.name d.params d.body d.scope pm cd doc)→s₁.heap.CodeRec cd d.name→mg d.name=some (.ref fa) →
   s₁.heap.get? a=some {cls:=.type "list",data:=.seq vs.toArray}→IntsAre vs ns→ns.length≤n→s₁.gens=#[] →
   codeAny (model l.prog w) callerA (.call (.ref fa) ⟨[.ref a],[]⟩) (λr s'=>r=.ok (.ret (.bool true))∧OldK s₁.heap s'.heap∧s'.os=s₁.os∧AllBare s'.gens) s₁):
  WalkO q loose XP YP l.row.toRowW d [] (λf vs=>PySem.call f vs):=by
 intro w s₀ s₁ mg mb G Y fa o pm cd doc dV kV ho hd hcd hD hmg hg args vals as hpre hlay hrd hwl hlo;obtain rfl:dV=.none:=Dflts.none hD hdf;obtain rfl:kV=.none:=Dflts.noKw hD;obtain⟨a,vs,ns,rfl,rfl,hobj,hints,hlen⟩:=qN hn hpre hwl;refine enter_call (codeAny_mono (call w s₀ s₁ mg mb fa o pm cd doc a vs ns G Y ho (fd_plain hd) hcd hmg hobj hints hlen hg) λr s' hq=>?_);obtain⟨rfl,h2,h3,h4⟩:=hq;exact⟨.inl ⟨.bool true,.bool true,[],rfl,λ_=>rfl,.bool true,qO l _,λ_=>⟨Pairwise.nil,λ_ hm=>(nomatch hm)⟩⟩,h2,h3,h4⟩
section
variable{prog:Program}{w:World}{A:Around}{E:Value→Shared→Prop}{s:Shared}{K:Frag}
end
end Att
namespace L2
open PySem PySem.Spec PyProof.Rows
theorem jV:∀{vs:List Value}{ns:List Int},IntsAre vs ns→aw (ns.map V.int) vs
 |_,_,.nil=>.nil
 |_,_,.cons n t h=>.cons ⟨t,rfl⟩ (jV h)
def bR(s:Stmt)(j:Nat):Stmt:=match s with
 |.ClassDef _ _ _ body _ _ _ _ _ _ _=>body.getD j (.Pass ⟨0,0,0,0⟩)
 |_=>.Pass ⟨0,0,0,0⟩
def cY(s:Stmt):Arguments:=match s with
 |.FunctionDef _ a _ _ _ _ _ _ _ _=>a
 |_=>{posonlyargs:=[],args:=[],vararg:=none,kwonlyargs:=[],kw_defaults:=[],kwarg:=none,defaults:=[]}
def bo(s:Stmt):List Stmt:=match s with
 |.FunctionDef _ _ b _ _ _ _ _ _ _=>b
 |_=>[]
def aj(s:Stmt):Scope:=match s with
 |.FunctionDef _ _ _ _ _ _ sc _ _ _=>sc
 |_=>{kind:=.function,names:=[],isGenerator:=false,isCoroutine:=false}
abbrev CX0:CXT:=λ_ _ _ _ _ _=>False
abbrev E0:XK:=λ_ _ _=>False
theorem aU{X:Cx}:cr CX0 X E0:=λ_ _ _ _ _ _ _ h=>h.elim
structure Fun(K:PySem.W.Frag)(x qual:Str)(st:Stmt)(f:Addr)(fd:FuncData):Prop where
 ex:∃(oc:Value) (od:Option Addr) (kV doc pm:Value) (an:Option Addr) (cdv ct:Value) (osl:Array (Option Value)),
  fd=fnOf x qual (cY st) (bo st) (aj st) .none kV doc pm an cdv ct∧K.lookup f=some ⟨oc,od,.func fd,osl⟩∧codeIn K cdv qual=true
 kp:keepIn K (.ref f)=true
section
variable{P:Program}{w:World}{K:PySem.W.Frag}{mg:Str→Option Value}{base:Heap}
theorem Fun.ok{x qual:Str}{st:Stmt}{f:Addr}{fd:FuncData}{N ps:List Str}{k:Nat}{sp:Sp}(F:Fun K x qual st f fd)(S:FnScope N ps (aj st))(len:∀vs H Q E,sp vs H Q E→vs.length=ps.length)(hbody:∀(cdv:Value) (A:Around) (outer:List Env) (s:Shared) (H:Hp) (vs:List V) (Q:VK) (E:XK),Room k (A.deeper (envOfC qual (aj st) s.heap.objs.size f cdv))→sp vs H Q E →
   ∃t,PSs (iE CX0 P w K mg base N qual (aj st) f cdv A outer s H E).nox (bo st) t∧t {nx:=λ_ H'=>Q .non H',rt:=Q} (start N vs) H):FnOk P w K mg base CX0 (k+1) f fd ps sp:=by
 obtain⟨oc,od,kV,doc,pm,an,cdv,ct,osl,rfl,lk,hcd⟩:=F.ex;refine rW lk hcd S len λA outer s H vs Q E hr hsp=>?_;obtain⟨t,h,q⟩:=hbody cdv A outer s H vs Q E hr hsp;exact⟨t,h.nox,q⟩
theorem Fun.binds{x qual:Str}{st:Stmt}{f:Addr}{fd:FuncData}{ps:List Str}(F:Fun K x qual st f fd)(h:∀(kV doc pm:Value) (an:Option Addr) (cdv ct:Value) (us:List Value),us.length=ps.length→bindArgs (fnOf x qual (cY st) (bo st) (aj st) .none kV doc pm an cdv ct) ⟨us,[]⟩=pure (ps.zip us)):aq K fd ps []:=by
 obtain⟨oc,od,kV,doc,pm,an,cdv,ct,osl,rfl,lk,hcd⟩:=F.ex;exact .all (h kV doc pm an cdv ct)
theorem cw{x qual:Str}{st:Stmt}{f:Addr}{oc:Value}{od an:Option Addr}{osl:Array (Option Value)}{kV doc pm cdv ct:Value}(l:K.lookup f=some ⟨oc,od,.func (fnOf x qual (cY st) (bo st) (aj st) .none kV doc pm an cdv ct),osl⟩)(c:codeIn K cdv qual=true)(k:keepIn K (.ref f)=true):Fun K x qual st f (fnOf x qual (cY st) (bo st) (aj st) .none kV doc pm an cdv ct):=⟨⟨oc,od,kV,doc,pm,an,cdv,ct,osl,rfl,l,c⟩,k⟩
end
theorem dj{A:Around}{k:Nat}(hr:Room k A):A.units+1<cLine:=lt_of_le_of_lt (Nat.add_le_add_left (by decide:1≤64) _) hr.units
theorem ao{n:Nat}(h:n≤1000):n<sizeLine:=lt_of_le_of_lt h (by decide)
section
variable{X:Cx}
theorem pv(i:Nat){x:Str}{pos:Pos}(hN:X.N[i]?=some x:=by rfl)(hv:Vis X.env.scope x:=by first|exact Or.inl rfl|exact Or.inr (Or.inl rfl)|exact Or.inr (Or.inr rfl))(hd:(x==("__debug__":Str))=false:=by decide)(hcd:(x==("__classdict__":Str))=false:=by decide):PE X (.Name x pos) (gY i):=xl hN hv hd hcd
end
theorem bv{A B:Prop}(h:B):if false=true then A else B:=by
 rw[if_neg Bool.false_ne_true];exact h
theorem bX{A B:Prop}(h:A):if true=true then A else B:=by
 rw[if_pos rfl];exact h
def Same(H H':Hp):Prop:=∀b o,H b=some o→H' b=some o
theorem Same.refl(H:Hp):Same H H:=λ_ _ h=>h
theorem Same.trans{H H1 H2:Hp}(a:Same H H1)(b:Same H1 H2):Same H H2:=λc o h=>b c o (a c o h)
theorem Same.free{H H':Hp}(e:Same H H'){l:Addr}(h:H' l=Option.none):H l=Option.none:=by
 cases q:H l with
 |none=>rfl
 |some o =>
  rw[e l o q]at h;cases h
theorem Same.seq{K:PySem.W.Frag}{H H':Hp}{a:Addr}{xs:List V}(e:Same H H')(h:SqL K H a xs):SqL K H' a xs:=by
 rcases h with (h|⟨o,h⟩)|h
 ·exact .inl (.inl (e _ _ h))
 ·exact .inl (.inr ⟨o,e _ _ h⟩)
 ·exact .inr h
section
variable{κ:Type}[DecidableEq κ]
theorem qP{p:κ×V}{r:List (κ×V)}{k:κ}(e:p.1=k):cS (p::r) k=cS r k:=by
 unfold cS;rw[filter_cons,if_neg (by simp[e])]
theorem qQ{p:κ×V}{r:List (κ×V)}{k:κ}(e:¬p.1=k):cS (p::r) k=p::cS r k:=by
 unfold cS;rw[filter_cons,if_pos (by simp[e])]
end
structure LcOk(X:Cx)(scope:Scope)(cl:List (Str×Addr)):Prop where
 kind:scope.kind=.function
 clos:closureFor scope X.env=pure cl
 names:∀x∈scope.names,x.2=.local→scope.names.lookup x.1=some .local
 nocell:∀x∈scope.names,x.2≠.cell
 cells:∀x c,cl.lookup x=some c→X.env.cells.lookup x=some c
 has:∀x,((relabel scope X.env).names.lookup x=some .cell∨(relabel scope X.env).names.lookup x=some .free)→∃c,cl.lookup x=some c
abbrev eM(X:Cx)(N:List Str)(scope:Scope)(cl:List (Str×Addr))(s:Shared)(H:Hp)(ex:List Addr):Cx :=
 {X with N:=N,s₀:=s,H₀:=H,env:=compEnvC scope cl s.heap.objs.size X.env,outer:=X.stack,stack:=X.stack,ex:=ex,fn:=λ_=>false,pn:=[],xe:=λ_ _=>False}
section
variable{X:Cx}{pins:List (Addr×Obj)}{σ:St}{H:Hp}{s:Shared}{N:List Str}{scope:Scope}{cl:List (Str×Addr)}{fp:List Addr}
theorem sq(I:Inv X pins σ H s)(L:LcOk X scope cl)(hf:∀b∈fp,hJ X pins H b)(ho:∀b∈fp,b<s.heap.objs.size):(eM X N scope cl s H fp).Ok where
 mod:=I.ok.mod
 kind:=L.kind
 glob:=I.ok.glob
 blt:=I.ok.blt
 above:=le_refl _
 inj:=λx y c h1 h2=>I.ok.inj x y c (L.cells x c h1) (L.cells y c h2)
 has:=λx hx=>L.has x hx
 cab:=λx c h _=>absurd h (by simp)
 hd:=I.ok.hd
 frames:=I.ok.frames
 stk:=.inl rfl
 exf:=λb hb=>⟨ne_of_lt (ho b hb),λx c h=>(hf b hb).2.2.2.2.1 x c (L.cells x c h)⟩
 bs:=I.bs
 bsz:=le_trans I.ok.bsz I.sz
 noex:=λb o e hb=>by
  rcases (hf b hb).2.2.2.1 with z|z
  ·exact I.ok.noex b o e z
  ·exact absurd (lt_of_lt_of_le (lt_size e) (le_trans I.ok.bsz z)) (lt_irrefl _)
 exfs:=λb hb hs=>by
  rcases mem_cons.mp (I.stkSub b hs)with z|z
  ·exact(hf b hb).2.1 z
  ·exact(hf b hb).2.2.1 z
 funs:=I.stack
 frf:=I.stkFree
def cZ(k:Nat)(js:List Nat)(σ:St):St:=replicate k none++js.map λj=>(σ[j]?).getD none
theorem lY{h₁:Heap}{tk:Nat}{k:Nat}{js:List Nat}(I:Inv X pins σ H s)(L:LcOk X scope cl)(hf:∀b∈fp,hJ X pins H b)(ho:∀b∈fp,b<s.heap.objs.size)(hns:∃m,h₁.Ns s.heap.objs.size m)(hk:∀b o,s.heap.get? b=some o→h₁.get? b=some o)(hN:N.length=k+js.length)(hj:∀(i j:Nat) x,js[i]?=some j→N[k+i]?=some x→X.N[j]?=some x∧Vis X.env.scope x∧X.env.scope.names.lookup x≠some .local∧((relabel scope X.env).names.lookup x=some .cell∨(relabel scope X.env).names.lookup x=some .free)):
  Inv (eM X N scope cl s H fp) [] (cZ k js σ) H {s with heap:=h₁,toks:=tk}:=by
 obtain⟨m,hm⟩:=hns;have cellK:∀c v,s.heap.IsCell c v→h₁.IsCell c v:=λc v ⟨o,e,d⟩=>⟨o,hk c o e,d⟩;refine⟨sq I L hf ho,rfl,I.bare,Un.kept hk,⟨m,hm,λi x v e1 e2 e3=>?_⟩,λx c e=>?_,I.hok.fresh (le_refl _),λx c e=>I.freeC x c (L.cells x c e),λp hp=>absurd (show p∈([]:List (Addr×Obj))from hp) (by simp),I.hok.kept hk,?_⟩
 ·unfold cZ at e2
  by_cases hi:i<k
  ·rw[getElem?_append_left (by simpa using hi),List.getElem?_replicate]at e2
   split at e2<;>cases e2
  ·obtain⟨i',rfl⟩:∃i',i=k+i':=⟨i-k,by omega⟩;rw[getElem?_append_right (by simp),length_replicate,Nat.add_sub_cancel_left,getElem?_map]at e2;cases ej:js[i']? with
   |none=>rw[ej]at e2;cases e2
   |some j =>
    rw[ej]at e2;have e2':(σ[j]?).getD none=some v:=Option.some.inj e2;obtain⟨h1,h2,h3,h4⟩:=hj i' j x ej e1;have e4:σ[j]?=some (some v):=by
     cases q:σ[j]? with
     |none=>rw[q]at e2';cases e2'
     |some y=>rw[q]at e2';exact congrArg some e2'
    obtain⟨m0,_,hl⟩:=I.loc;obtain⟨u,r,lk⟩:=hl j x v h1 e4 h2;refine⟨u,r,.inr ⟨h4,?_⟩⟩;rcases lk with⟨q,_⟩|⟨_,c,e5,e6⟩
    ·exact absurd q h3
    ·obtain⟨c',e7⟩:=L.has x h4;have:c'=c:=Option.some.inj ((L.cells x c' e7).symm.trans e5);subst this;exact⟨c',e7,cellK c' _ e6⟩
 ·obtain⟨v,e1⟩:=I.cell x c (L.cells x c e);exact⟨v,cellK c v e1⟩
 ·unfold cZ;rw[length_append,length_replicate,length_map];exact hN.symm
theorem sr{H':Hp}{σ':St}{s':Shared}{h':Heap}(I:Inv X pins σ H s)(hf:∀b∈fp,hJ X pins H b)(J:Inv (eM X N scope cl s H fp) [] σ' H' s')(hs:SameBut s.heap.objs.size s'.heap h'):Inv X pins σ H' {s' with heap:=h'}:=by
 have ne:∀b o,s.heap.get? b=some o→b≠s.heap.objs.size:=λb o e=>ne_of_lt (lt_size e);have u:=J.base;have u':Un (frs X.stack) fp H H' s.heap h' :=
  ⟨λb o e n hb hx=>(hs.2 b (ne b o e)).trans (u.keep b o e n hb hx),λb o e n hb hx=>by
   obtain⟨sl,q⟩:=u.slot b o e n hb hx;exact⟨sl,(hs.2 b (ne b o e)).trans q⟩,u.free,λb o e hx=>by
   obtain⟨o',q⟩:=u.there b o e hx;exact⟨o',(hs.2 b (ne b o e)).trans q⟩,u.tups,u.frzs,u.tbls⟩
 have nt:∀b o,H' b=some o→b≠s.heap.objs.size:=λb o e z=>by
  have:=J.free;rw[show(eM X N scope cl s H fp).env.locals=s.heap.objs.size from rfl,←z,e]at this;cases this
 refine I.call' (s':={s' with heap:=h'}) J.os u' (λb o e=>?_) J.bare λb hb=>?_
 ·refine(J.hok b o e).stay (λc v hc q=>(hs.2 c ?_).trans q) (λ_ q=>q) λ_ _ q=>q;rcases hc with z|z
  ·rw[z];exact nt b o e
  ·exact nt c _ z
 ·obtain⟨f0,f1,f2,f3,f4,f5⟩:=hf b hb;exact⟨f3,f1,f4,f5⟩
end
section
variable{prog:Program}{w:World}{A:Around}{R:Result→Shared→Prop}{s:Shared}
theorem vi{elt target iter:Expr}{scope:Scope}{pos:Pos}{it acc:Value}{env:Env}(I:Nat→Shared→Prop)(turn:∀n s,I n s→wpAny (model prog w) A (pyNext it) (λr s₁=>match r with
   |none=>R (.ok .next) s₁
   | some v=>wpAny (model prog w) A (letOwnedTupleGo target it v) (λ_ s₂=>wpAny (model prog w) A (assign target env v) (λ_ s₃=>wpAny (model prog w) A (eval elt env) (λx s₄ =>
     wpAny (model prog w) A (call (.builtin "list.append") [acc,x]) (λ_ s₅=>∃m,m<n∧I m s₅) (λ_ _=>False) s₄) (λ_ _=>False) s₃) (λ_ _=>False) s₂) (λ_ _=>False) s₁) (λ_ _=>False) s)(n:Nat)(h:I n s):codeAny (model prog w) A (.compLoop (.ListComp elt [⟨target,iter,[],0⟩] scope pos) 0 it acc env) R s:=by
 refine codeAny_loop rfl I (λn s hI=>?_) n h;show wpAny _ _ ((compTurn (.ListComp elt [⟨target,iter,[],0⟩] scope pos) 0 it acc env).onRaise (λx=>do noteFrame x env;theTreesLotGoes x)) _ _ s;refine wpAny_noted ?_;rw[compTurn_list1];refine wpAny_bind (wpAny_standAt (wpAny_bind (wpAny_mono (turn n s hI) (λr s₁ h₁=>?_) λ_ _ h'=>h'.elim)));cases r with
 |none=>exact wpAny_pure h₁
 |some v =>
  refine wpAny_bind (wpAny_mono h₁ (λ_ s₂ h₂=>?_) λ_ _ h'=>h'.elim);exact wpAny_bind (wpAny_mono h₂ (λ_ s₂ h₂=>wpAny_bind (wpAny_bind (wpAny_mono h₂ (λx s₃ h₃=>wpAny_bind (wpAny_mono h₃
   (λ_ s₄ h₄=>wpAny_pure (wpAny_pure ⟨rfl,h₄⟩)) λ_ _ h'=>h'.elim)) λ_ _ h'=>h'.elim))) λ_ _ h'=>h'.elim)
theorem jb(elt target iter c:Expr)(scope:Scope)(pos:Pos)(it acc:Value)(env:Env):
  compTurn (.ListComp elt [⟨target,iter,[c],0⟩] scope pos) 0 it acc env=(standAt iter.pos >>= λ_=>pyNext it >>= λr=>match r with
   |none=>pure (.done .next)
   |some v=>letOwnedTupleGo target it v >>= λ_=>assign target env v >>= λ_ =>
    (forIn [c] true λc r=>if r=true then do let ok ← isTrue c env (eval c env);pure (ForInStep.yield ok)else pure (ForInStep.yield r)) >>= λok =>
    if ok=true then (eval elt env >>= λx=>call (.builtin "list.append") [acc,x] >>= λ_=>pure ()) >>= λ_ =>
     again (.compLoop (.ListComp elt [⟨target,iter,[c],0⟩] scope pos) 0 it acc env)
    else again (.compLoop (.ListComp elt [⟨target,iter,[c],0⟩] scope pos) 0 it acc env)):=by rfl
theorem su{elt target iter c:Expr}{scope:Scope}{pos:Pos}{it acc:Value}{env:Env}(I:Nat→Shared→Prop)(turn:∀n s,I n s→wpAny (model prog w) A (pyNext it) (λr s₁=>match r with
   |none=>R (.ok .next) s₁
   | some v=>wpAny (model prog w) A (letOwnedTupleGo target it v) (λ_ s₂=>wpAny (model prog w) A (assign target env v) (λ_ s₃=>wpAny (model prog w) A (isTrue c env (eval c env)) (λok s₃ =>
     if ok=true then wpAny (model prog w) A (eval elt env) (λx s₄ =>
      wpAny (model prog w) A (call (.builtin "list.append") [acc,x]) (λ_ s₅=>∃m,m<n∧I m s₅) (λ_ _=>False) s₄) (λ_ _=>False) s₃
     else ∃m,m<n∧I m s₃) (λ_ _=>False) s₃) (λ_ _=>False) s₂) (λ_ _=>False) s₁) (λ_ _=>False) s)(n:Nat)(h:I n s):codeAny (model prog w) A (.compLoop (.ListComp elt [⟨target,iter,[c],0⟩] scope pos) 0 it acc env) R s:=by
 refine codeAny_loop rfl I (λn s hI=>?_) n h;show wpAny _ _ ((compTurn (.ListComp elt [⟨target,iter,[c],0⟩] scope pos) 0 it acc env).onRaise (λx=>do noteFrame x env;theTreesLotGoes x)) _ _ s;refine wpAny_noted ?_;rw[jb];refine wpAny_bind (wpAny_standAt (wpAny_bind (wpAny_mono (turn n s hI) (λr s₁ h₁=>?_) λ_ _ h'=>h'.elim)));cases r with
 |none=>exact wpAny_pure h₁
 |some v =>
  refine wpAny_bind (wpAny_mono h₁ (λ_ s₂ h₂=>?_) λ_ _ h'=>h'.elim);refine wpAny_bind (wpAny_mono h₂ (λ_ s₃ h₃=>?_) λ_ _ h'=>h'.elim);rw[List.forIn_cons];simp only[if_true];refine wpAny_bind (wpAny_bind (wpAny_bind (wpAny_mono h₃ (λok s₄ h₄=>wpAny_pure ?_) λ_ _ h'=>h'.elim)));simp only[List.forIn_nil];refine wpAny_pure ?_;cases ok with
  |true =>
   rw[if_pos rfl]at h₄⊢;exact wpAny_bind (wpAny_bind (wpAny_mono h₄ (λx s₃ h₃=>wpAny_bind (wpAny_mono h₃ (λ_ s₄ h₄=>wpAny_pure (wpAny_pure ⟨rfl,h₄⟩)) λ_ _ h'=>h'.elim)) λ_ _ h'=>h'.elim))
  |false =>
   rw[if_neg (by simp)]at h₄⊢;exact wpAny_pure ⟨rfl,h₄⟩
end
def LcW(k:Nat)(js:List Nat)(g:TG)(te:TE)(σ:St)(Q:VK)(J:It)(H1:Hp)(p:Addr):Prop:=∃W:Nat→Nat→List V→St→Hp→Prop,
 (∃m,W 0 m [] (cZ k js σ) (upd H1 p (.lst [])))∧∀i m ys σ' H',W i m ys σ' H'→(J.stop i H'∧Q (.ref p) H') ∨
  (J.go i H'∧ys.length<sizeLine∧∀x H2,J.yld i H' x H2→g x σ' H2 λσ2 H3=>te σ2 H3 λy H4=>H4 p=some (.lst ys)∧∃m',m'<m∧W (i+1) m' (ys++[y]) σ2 (upd H4 p (.lst (ys++[y]))))
def tLc(k:Nat)(js:List Nat)(wi:TI)(g:TG)(te:TE):TE:=λσ H Q=>wi σ H λJ H1=>∀p,H1 p=none→LcW k js g te σ Q J H1 p
def zl(k:Nat)(js:List Nat)(g:TG)(tc:TT)(te:TE)(σ:St)(Q:VK)(J:It)(H1:Hp)(p:Addr):Prop:=∃W:Nat→Nat→List V→St→Hp→Prop,
 (∃m,W 0 m [] (cZ k js σ) (upd H1 p (.lst [])))∧∀i m ys σ' H',W i m ys σ' H'→(J.stop i H'∧Q (.ref p) H') ∨
  (J.go i H'∧ys.length<sizeLine∧∀x H2,J.yld i H' x H2→g x σ' H2 λσ2 H3=>tc σ2 H3 λb H4=>if b=true then te σ2 H4 λy H5=>H5 p=some (.lst ys)∧∃m',m'<m∧W (i+1) m' (ys++[y]) σ2 (upd H5 p (.lst (ys++[y])))
   else ∃m',m'<m∧W (i+1) m' ys σ2 H4)
def Ap(k:Nat)(js:List Nat)(wi:TI)(g:TG)(tc:TT)(te:TE):TE:=λσ H Q=>wi σ H λJ H1=>∀p,H1 p=none→zl k js g tc te σ Q J H1 p
section
variable{X:Cx}{N:List Str}{scope:Scope}{cl:List (Str×Addr)}{k:Nat}{js:List Nat}
theorem jW{elt tg iter:Expr}{pos:Pos}{wi:TI}{g:TG}{te:TE}(hc:X.calm=true)(L:LcOk X scope cl)(hN:N.length=k+js.length)(hj:∀(i j:Nat) x,js[i]?=some j→N[k+i]?=some x→X.N[j]?=some x∧Vis X.env.scope x∧X.env.scope.names.lookup x≠some .local∧((relabel scope X.env).names.lookup x=some .cell∨(relabel scope X.env).names.lookup x=some .free))(hi:PI X tg iter wi)(hg:∀s H fp,PG (eM X N scope cl s H fp) tg g)(he:∀s H fp,PE (eM X N scope cl s H fp) elt te)(hs:∀x,foldedSetIterable iter X.env x=pure x:=by intro _;rfl):PE X (.ListComp elt [⟨tg,iter,[],0⟩] scope pos) (tLc k js wi g te):=by
 intro pins s σ H Q I h;rw[eval_ListComp];refine wpAny_comprehension_free (use:=none) rfl hs L.clos L.kind L.names ?_;refine thn (hi pins s σ H _ I h) λv s1 h1=>thn h1 λitv s2 h2=>?_;obtain⟨it,fp,tn,J,H2,e,I2,T,st2,f2,hW⟩:=h2;subst e;have hfp:∀b∈fp,b<s2.heap.objs.size:=λb hb=>by
  obtain⟨o,e,_⟩:=T.obj _ _ st2 b hb;exact lt_size e
 refine wpAny_newObj_type (wpAny_newFunctionEnv L.nocell (by intro y hy;simp at hy) (λh₁ hns hsb=>?_) L.kind);dsimp only at hns hsb⊢;obtain⟨W,⟨m0,w0⟩,turn⟩:=hW s2.heap.objs.size (I2.hok.fresh (le_refl _));have I3:Inv X pins σ (upd H2 s2.heap.objs.size (.lst [])) {s2 with heap:=s2.heap.push {cls:=.type "list",dict:=none,data:=.seq ([]:List Value).toArray}}:=I2.lnew (t':=s2.toks) .nil (zero_le _)
 generalize hA:s2.heap.push {cls:=.type "list",dict:=none,data:=.seq ([]:List Value).toArray}=hpA at hns hsb I3⊢;have hszA:hpA.objs.size=s2.heap.objs.size+1:=by rw[←hA,size_push]
 have keepA:∀b o,s2.heap.get? b=some o→hpA.get? b=some o:=λb o e=>by rw[←hA];exact get?_push_of_some _ e
 have f3:∀b∈fp,hJ X pins (upd H2 s2.heap.objs.size (.lst [])) b:=λb hb=>⟨by rw[ai (ne_of_lt (hfp b hb))];exact(f2 b hb).1,(f2 b hb).2⟩;have hfp3:∀b∈fp,b<hpA.objs.size:=λb hb=>by rw[hszA];exact lt_succ_of_lt (hfp b hb)
 have keep1:∀b o,hpA.get? b=some o→h₁.get? b=some o:=λb o e=>hsb.extBut b o (ne_of_lt (lt_size e)) (get?_push_of_some _ e);have J0:=lY (N:=N) (k:=k) (js:=js) (tk:=s2.toks+([]:List (Str×Value)).length) I3 L f3 hfp3 ⟨_,hns⟩ keep1 hN hj;have st1:tn 0 h₁:=T.keep _ _ _ st2 λb hb o e=>keep1 b o (keepA b o e);have stat:∀{H':Hp},(∀b∈fp,H' b=none)→∀b∈fp,hJ (eM X N scope cl {s2 with heap:=hpA} (upd H2 s2.heap.objs.size (.lst [])) fp) [] H' b:=λhn b hb =>
  ⟨hn b hb,ne_of_lt (hfp3 b hb),(sq (N:=N) I3 L f3 hfp3).exfs b hb,.inl hb,λx c h=>(f3 b hb).2.2.2.2.1 x c (L.cells x c h),λp hp=>absurd (show p∈([]:List (Addr×Obj))from hp) (by simp)⟩
 have loop:codeAny (model X.prog X.w) X.A (.compLoop (.ListComp elt [⟨tg,iter,[],0⟩] scope pos) 0 (.ref it) (.ref s2.heap.objs.size) (compEnvC scope cl hpA.objs.size X.env))
   (compPost (model X.prog X.w) X.A X.xe none (EP X pins σ Q) (.ref s2.heap.objs.size) hpA.objs.size) {s2 with heap:=h₁,toks:=s2.toks+([]:List (Str×Value)).length}:=by
  refine vi (λn s'=>∃i ys σ' H',Inv (eM X N scope cl {s2 with heap:=hpA} (upd H2 s2.heap.objs.size (.lst [])) fp) [] σ' H' s'∧tn i s'.heap∧(∀b∈fp,H' b=none)∧W i n ys σ' H') ?_ m0 ⟨0,[],_,_,J0,st1,λb hb=>(f3 b hb).1,w0⟩
  rintro n s3 ⟨i,ys,σ3,H3,J3,st3,fr3,w3⟩;rcases turn i n ys σ3 H3 w3 with⟨stop,qn⟩|⟨go,hlen,step⟩
  ·refine thn (T.done (eM X N scope cl {s2 with heap:=hpA} (upd H2 s2.heap.objs.size (.lst [])) fp) rfl rfl rfl hc i [] s3 σ3 H3 (λ_ _=>False) J3 (stat fr3) st3 stop) λr s4 hpt=>?_
   obtain⟨hr,J4⟩:=hpt;subst hr;obtain⟨m,hm,_⟩:=J4.loc;exact⟨m,hm,λh' hs'=>⟨.ref s2.heap.objs.size,H3,sr I3 f3 J4 hs',rfl,qn⟩⟩
  ·refine thn (T.item (eM X N scope cl {s2 with heap:=hpA} (upd H2 s2.heap.objs.size (.lst [])) fp) rfl rfl rfl hc i [] s3 σ3 H3 (λ_ _=>False) J3 (stat fr3) st3 go) λr s4 hpt=>?_
   obtain⟨u,hr,h4⟩:=hpt;subst hr;refine thn h4 λ_ s5 hpt=>?_;obtain⟨x,H5,J5,r5,y5,st5,fr5⟩:=hpt;have J5':=J5.pinned (stat fr5) (T.obj _ _ st5);refine thn (hg _ _ _ _ s5 σ3 H5 x u _ J5' r5 (step x H5 y5)) λ_ s6 hpt=>?_;obtain⟨σ6,H6,J6,q6⟩:=hpt;refine thn (he _ _ _ _ s6 σ6 H6 _ J6 q6) λy s7 hpt=>?_;obtain⟨vy,H7,J7,r7,q7,m',hm',w7⟩:=hpt;refine thn (aH _ s7 σ6 H7 (.ref s2.heap.objs.size) [vy] _ _ (λ_ H8=>H8=upd H7 s2.heap.objs.size (.lst (ys++[vy]))) J7 rfl (.cons r7 .nil) ⟨_,ys,vy,rfl,rfl,q7,hlen,rfl⟩) λ_ s8 hpt=>?_;obtain⟨_,H8,J8,_,e8⟩:=hpt;subst e8;refine⟨m',hm',i+1,ys++[vy],σ6,_,J8.unpinned,T.keep _ _ _ st5 λb hb o e=>(J8.pin (b,o) (mem_append_right _ (mem_append_right _ (bQ hb e)))).1,λb hb=>?_,w7⟩;obtain⟨o,e,d⟩:=T.obj _ _ st5 b hb;exact(J8.pin (b,o) (mem_append_right _ (mem_append_right _ (bQ hb e)))).2.1
 exact codeAny_compStart_list loop (T.self _ 0 _ _ _ st1 loop)
theorem sv{elt tg iter c:Expr}{pos:Pos}{wi:TI}{g:TG}{tc:TT}{te:TE}(hc:X.calm=true)(L:LcOk X scope cl)(hN:N.length=k+js.length)(hj:∀(i j:Nat) x,js[i]?=some j→N[k+i]?=some x→X.N[j]?=some x∧Vis X.env.scope x∧X.env.scope.names.lookup x≠some .local∧((relabel scope X.env).names.lookup x=some .cell∨(relabel scope X.env).names.lookup x=some .free))(hi:PI X tg iter wi)(hg:∀s H fp,PG (eM X N scope cl s H fp) tg g)(ht:∀s H fp,PT (eM X N scope cl s H fp) c tc)(he:∀s H fp,PE (eM X N scope cl s H fp) elt te)(hs:∀x,foldedSetIterable iter X.env x=pure x:=by intro _;rfl):PE X (.ListComp elt [⟨tg,iter,[c],0⟩] scope pos) (Ap k js wi g tc te):=by
 intro pins s σ H Q I h;rw[eval_ListComp];refine wpAny_comprehension_free (use:=none) rfl hs L.clos L.kind L.names ?_;refine thn (hi pins s σ H _ I h) λv s1 h1=>thn h1 λitv s2 h2=>?_;obtain⟨it,fp,tn,J,H2,e,I2,T,st2,f2,hW⟩:=h2;subst e;have hfp:∀b∈fp,b<s2.heap.objs.size:=λb hb=>by
  obtain⟨o,e,_⟩:=T.obj _ _ st2 b hb;exact lt_size e
 refine wpAny_newObj_type (wpAny_newFunctionEnv L.nocell (by intro y hy;simp at hy) (λh₁ hns hsb=>?_) L.kind);dsimp only at hns hsb⊢;obtain⟨W,⟨m0,w0⟩,turn⟩:=hW s2.heap.objs.size (I2.hok.fresh (le_refl _));have I3:Inv X pins σ (upd H2 s2.heap.objs.size (.lst [])) {s2 with heap:=s2.heap.push {cls:=.type "list",dict:=none,data:=.seq ([]:List Value).toArray}}:=I2.lnew (t':=s2.toks) .nil (zero_le _)
 generalize hA:s2.heap.push {cls:=.type "list",dict:=none,data:=.seq ([]:List Value).toArray}=hpA at hns hsb I3⊢;have hszA:hpA.objs.size=s2.heap.objs.size+1:=by rw[←hA,size_push]
 have keepA:∀b o,s2.heap.get? b=some o→hpA.get? b=some o:=λb o e=>by rw[←hA];exact get?_push_of_some _ e
 have f3:∀b∈fp,hJ X pins (upd H2 s2.heap.objs.size (.lst [])) b:=λb hb=>⟨by rw[ai (ne_of_lt (hfp b hb))];exact(f2 b hb).1,(f2 b hb).2⟩;have hfp3:∀b∈fp,b<hpA.objs.size:=λb hb=>by rw[hszA];exact lt_succ_of_lt (hfp b hb)
 have keep1:∀b o,hpA.get? b=some o→h₁.get? b=some o:=λb o e=>hsb.extBut b o (ne_of_lt (lt_size e)) (get?_push_of_some _ e);have J0:=lY (N:=N) (k:=k) (js:=js) (tk:=s2.toks+([]:List (Str×Value)).length) I3 L f3 hfp3 ⟨_,hns⟩ keep1 hN hj;have st1:tn 0 h₁:=T.keep _ _ _ st2 λb hb o e=>keep1 b o (keepA b o e);have stat:∀{H':Hp},(∀b∈fp,H' b=none)→∀b∈fp,hJ (eM X N scope cl {s2 with heap:=hpA} (upd H2 s2.heap.objs.size (.lst [])) fp) [] H' b:=λhn b hb =>
  ⟨hn b hb,ne_of_lt (hfp3 b hb),(sq (N:=N) I3 L f3 hfp3).exfs b hb,.inl hb,λx c h=>(f3 b hb).2.2.2.2.1 x c (L.cells x c h),λp hp=>absurd (show p∈([]:List (Addr×Obj))from hp) (by simp)⟩
 have loop:codeAny (model X.prog X.w) X.A (.compLoop (.ListComp elt [⟨tg,iter,[c],0⟩] scope pos) 0 (.ref it) (.ref s2.heap.objs.size) (compEnvC scope cl hpA.objs.size X.env))
   (compPost (model X.prog X.w) X.A X.xe none (EP X pins σ Q) (.ref s2.heap.objs.size) hpA.objs.size) {s2 with heap:=h₁,toks:=s2.toks+([]:List (Str×Value)).length}:=by
  refine su (λn s'=>∃i ys σ' H',Inv (eM X N scope cl {s2 with heap:=hpA} (upd H2 s2.heap.objs.size (.lst [])) fp) [] σ' H' s'∧tn i s'.heap∧(∀b∈fp,H' b=none)∧W i n ys σ' H') ?_ m0 ⟨0,[],_,_,J0,st1,λb hb=>(f3 b hb).1,w0⟩
  rintro n s3 ⟨i,ys,σ3,H3,J3,st3,fr3,w3⟩;rcases turn i n ys σ3 H3 w3 with⟨stop,qn⟩|⟨go,hlen,step⟩
  ·refine thn (T.done (eM X N scope cl {s2 with heap:=hpA} (upd H2 s2.heap.objs.size (.lst [])) fp) rfl rfl rfl hc i [] s3 σ3 H3 (λ_ _=>False) J3 (stat fr3) st3 stop) λr s4 hpt=>?_
   obtain⟨hr,J4⟩:=hpt;subst hr;obtain⟨m,hm,_⟩:=J4.loc;exact⟨m,hm,λh' hs'=>⟨.ref s2.heap.objs.size,H3,sr I3 f3 J4 hs',rfl,qn⟩⟩
  ·refine thn (T.item (eM X N scope cl {s2 with heap:=hpA} (upd H2 s2.heap.objs.size (.lst [])) fp) rfl rfl rfl hc i [] s3 σ3 H3 (λ_ _=>False) J3 (stat fr3) st3 go) λr s4 hpt=>?_
   obtain⟨u,hr,h4⟩:=hpt;subst hr;refine thn h4 λ_ s5 hpt=>?_;obtain⟨x,H5,J5,r5,y5,st5,fr5⟩:=hpt;have J5':=J5.pinned (stat fr5) (T.obj _ _ st5);refine thn (hg _ _ _ _ s5 σ3 H5 x u _ J5' r5 (step x H5 y5)) λ_ s6 hpt=>?_;obtain⟨σ6,H6,J6,q6⟩:=hpt;refine thn (ht _ _ _ _ s6 σ6 H6 _ J6 q6) λb s6 hpt=>?_;obtain⟨H6,J6,q6⟩:=hpt;cases b with
   |true =>
    rw[if_pos rfl]at q6⊢;refine thn (he _ _ _ _ s6 σ6 H6 _ J6 q6) λy s7 hpt=>?_;obtain⟨vy,H7,J7,r7,q7,m',hm',w7⟩:=hpt;refine thn (aH _ s7 σ6 H7 (.ref s2.heap.objs.size) [vy] _ _ (λ_ H8=>H8=upd H7 s2.heap.objs.size (.lst (ys++[vy]))) J7 rfl (.cons r7 .nil) ⟨_,ys,vy,rfl,rfl,q7,hlen,rfl⟩) λ_ s8 hpt=>?_;obtain⟨_,H8,J8,_,e8⟩:=hpt;subst e8;refine⟨m',hm',i+1,ys++[vy],σ6,_,J8.unpinned,T.keep _ _ _ st5 λb hb o e=>(J8.pin (b,o) (mem_append_right _ (mem_append_right _ (bQ hb e)))).1,λb hb=>?_,w7⟩;obtain⟨o,e,d⟩:=T.obj _ _ st5 b hb;exact(J8.pin (b,o) (mem_append_right _ (mem_append_right _ (bQ hb e)))).2.1
   |false =>
    rw[if_neg (by simp)]at q6⊢;obtain⟨m',hm',w7⟩:=q6;refine⟨m',hm',i+1,ys,σ6,_,J6.unpinned,T.keep _ _ _ st5 λb hb o e=>(J6.pin (b,o) (mem_append_right _ (mem_append_right _ (bQ hb e)))).1,λb hb=>?_,w7⟩;obtain⟨o,e,d⟩:=T.obj _ _ st5 b hb;exact(J6.pin (b,o) (mem_append_right _ (mem_append_right _ (bQ hb e)))).2.1
 exact codeAny_compStart_list loop (T.self _ 0 _ _ _ st1 loop)
end
end L2
namespace TB
open PySem PySem.SetTable
def adv(mask:Nat)(p:Probe):Probe :=
 if p.more>0 then {p with j:=p.j+1,more:=p.more-1} else
 {p with j:=(leap mask p.i p.perturb).1,more:=runEnd mask (leap mask p.i p.perturb).1-(leap mask p.i p.perturb).1,i:=(leap mask p.i p.perturb).1,perturb:=(leap mask p.i p.perturb).2}
theorem oB(t:SetTable)(p:Probe):advance t p=adv t.mask p:=rfl
def lvP(mask:Nat)(x:Nat×Nat):Probe:={j:=x.1,more:=runEnd mask x.1-x.1,i:=x.1,perturb:=x.2,dummy:=none}
def st(mask:Nat)(h:Int):Probe:=lvP mask (bits h % (mask+1),bits h)
def nth(mask:Nat):Probe→Nat→Probe
 |p,0=>p
 |p,n+1=>nth mask (adv mask p) n
theorem gu(mask:Nat):∀(a b:Nat)(p:Probe),nth mask p (a+b)=nth mask (nth mask p a) b
 |0,b,p=>by rw[zero_add];rfl
 |a+1,b,p=>by
  rw[show a+1+b=(a+b)+1 by omega];show nth mask (adv mask p) (a+b)=nth mask (nth mask (adv mask p) a) b;exact gu mask a b _
theorem sw(mask:Nat)(p:Probe)(n:Nat):nth mask p (n+1)=adv mask (nth mask p n):=by
 rw[gu];rfl
def pos(mask:Nat)(h:Int)(n:Nat):Nat:=(nth mask (st mask h) n).j
theorem jX(mask:Nat):∀(m:Nat)(p:Probe),p.more=m→nth mask p m={p with j:=p.j+m,more:=0}
 |0,p,h=>by
  show p=_;cases p;simp at h;subst h;rfl
 |m+1,p,h=>by
  show nth mask (adv mask p) m=_;have e:adv mask p={p with j:=p.j+1,more:=m}:=by
   unfold adv;rw[if_pos (by omega),h];rfl
  rw[e,jX mask m _ rfl];simp only[Probe.mk.injEq,and_true];omega
theorem lZ(mask:Nat):∀(m:Nat)(p:Probe),m≤p.more→nth mask p m={p with j:=p.j+m,more:=p.more-m}
 |0,p,h=>by
  show p=_;cases p;rfl
 |m+1,p,h=>by
  show nth mask (adv mask p) m=_;have e:adv mask p={p with j:=p.j+1,more:=p.more-1}:=by
   unfold adv;rw[if_pos (by omega)]
  rw[e,lZ mask m _ (by show m≤p.more-1;omega)];simp only[Probe.mk.injEq,and_true];omega
theorem fJ(mask:Nat)(x:Nat×Nat):nth mask (lvP mask x) (runEnd mask x.1-x.1+1)=lvP mask (leap mask x.1 x.2):=by
 have e:=jX mask (runEnd mask x.1-x.1) (lvP mask x) rfl;rw[sw,e];unfold adv;rw[if_neg (by simp)];rfl
theorem xE(mask i:Nat):runEnd mask i-i≤9:=by unfold runEnd;split<;>omega
def lv(mask:Nat):Nat→Nat×Nat→Nat×Nat
 |0,x=>x
 |k+1,x=>lv mask k (leap mask x.1 x.2)
theorem oC(mask:Nat):∀(a b:Nat)(x:Nat×Nat),lv mask (a+b) x=lv mask b (lv mask a x)
 |0,b,x=>by rw[zero_add];rfl
 |a+1,b,x=>by
  rw[show a+1+b=(a+b)+1 by omega];exact oC mask a b _
theorem ma(mask:Nat):∀(k:Nat)(x:Nat×Nat),∃n,n≤10*k∧nth mask (lvP mask x) n=lvP mask (lv mask k x)
 |0,x=>⟨0,by omega,rfl⟩
 |k+1,x=>by
  obtain⟨n,hn,e⟩:=ma mask k (leap mask x.1 x.2);refine⟨(runEnd mask x.1-x.1+1)+n,?_,?_⟩
  ·have:=xE mask x.1;omega
  ·rw[gu,fJ];exact e
theorem fK(mask:Nat):∀(k:Nat)(x:Nat×Nat),(lv mask k x).2=x.2 / 32 ^ k
 |0,x=>by simp[lv]
 |k+1,x=>by
  show(lv mask k (leap mask x.1 x.2)).2=_;rw[fK mask k];show x.2 / 32 / 32 ^ k=_;rw[Nat.div_div_eq_div_mul,Nat.pow_succ,Nat.mul_comm 32]
theorem pI(mask:Nat):∀(k:Nat)(x:Nat×Nat),x.1≤mask→(lv mask k x).1≤mask
 |0,x,h=>h
 |k+1,x,h=>pI mask k _ (by show(x.1*5+1+x.2 / 32) % (mask+1)≤mask;have:=mod_lt (x.1*5+1+x.2 / 32) (show 0<mask+1 by omega);omega)
theorem pJ(h:Int):bits h<2 ^ 64:=by
 unfold bits;have h1:=emod_nonneg h (b:=2 ^ 64) (by decide);have h2:=Int.emod_lt_of_pos h (b:=2 ^ 64) (by decide);omega
def gv(mask:Nat):Nat→Nat→Nat
 |0,i=>i
 |k+1,i=>gv mask k ((i*5+1) % (mask+1))
theorem jc(mask:Nat):∀(k i:Nat),lv mask k (i,0)=(gv mask k i,0)
 |0,i=>rfl
 |k+1,i=>by
  show lv mask k ((i*5+1+0 / 32) % (mask+1),0 / 32)=_;simp only[Nat.zero_div,Nat.add_zero];exact jc mask k _
def Cyc(mask:Nat):Prop:=∀i,i≤mask→∀j,j≤mask→∃k,k≤mask∧gv mask k i=j
theorem fb(mask:Nat):∀(a b i:Nat),gv mask (a+b) i=gv mask b (gv mask a i)
 |0,b,i=>by rw[zero_add];rfl
 |a+1,b,i=>by
  rw[show a+1+b=(a+b)+1 by omega];exact fb mask a b _
def vj(mask:Nat):Nat→Nat→List Nat
 |0,_=>[]
 |n+1,i=>i::vj mask n ((i*5+1) % (mask+1))
theorem md{mask j:Nat}:∀{n i:Nat},j∈vj mask n i→∃k,k<n∧gv mask k i=j
 |0,_,h=>by simp[vj]at h
 |n+1,i,h=>by
  rcases mem_cons.mp h with e|e
  ·exact⟨0,by omega,e.symm⟩
  ·obtain⟨k,hk,e'⟩:=md e;exact⟨k+1,by omega,e'⟩
theorem sx{mask:Nat}(h0:gv mask (mask+1) 0=0)(h:(List.range (mask+1)).all (λj=>(vj mask (mask+1) 0).contains j)=true):Cyc mask:=by
 have all:∀j,j≤mask→∃k,k≤mask∧gv mask k 0=j:=λj hj=>by
  rw[all_eq_true]at h;have h1:=h j (mem_range.mpr (by omega));rw[List.contains_iff_mem]at h1;obtain⟨k,hk,e⟩:=md h1;exact⟨k,by omega,e⟩
 intro i hi j hj;obtain⟨a,ha,ea⟩:=all i hi;obtain⟨b,hb,eb⟩:=all j hj
 by_cases hab:a≤b
 ·refine⟨b-a,by omega,?_⟩;rw[←ea,←fb,show a+(b-a)=b by omega];exact eb
 ·refine⟨mask+1-a+b,by omega,?_⟩;rw[←ea,←fb,show a+(mask+1-a+b)=(mask+1)+b by omega,fb,h0];exact eb
def Mk(m:Nat):Prop:=m=7∨m=15∨m=31∨m=63∨m=127∨m=255
theorem Mk.cyc{m:Nat}(h:Mk m):Cyc m:=by
 rcases h with e|e|e|e|e|e<;>subst e<;>exact sx (by decide +kernel) (by decide +kernel)
theorem Mk.ge{m:Nat}(h:Mk m):7≤m∧m≤255:=by rcases h with e|e|e|e|e|e<;>subst e<;>omega
def mkB(m:Nat):Bool:=m==7||m==15||m==31||m==63||m==127||m==255
theorem xF:(List.range 256).all (λw=>mkB (sizeAbove w-1)&&decide (w≤sizeAbove w-1)&&decide (sizeAbove w≤256))=true:=by decide +kernel
theorem jd{w:Nat}(h:w≤255):Mk (sizeAbove w-1)∧w≤sizeAbove w-1∧sizeAbove w≤256:=by
 have h1:=(all_eq_true.mp xF) w (mem_range.mpr (by omega));rw[and_eq_true,and_eq_true,decide_eq_true_eq,decide_eq_true_eq]at h1;refine⟨?_,h1.1.2,h1.2⟩;have h2:=h1.1.1;unfold mkB at h2;rw[or_eq_true,or_eq_true,or_eq_true,or_eq_true,or_eq_true,beq_iff_eq,beq_iff_eq,beq_iff_eq,beq_iff_eq,beq_iff_eq,beq_iff_eq]at h2;rcases h2 with ((((h|h)|h)|h)|h)|h
 ·exact .inl h
 ·exact .inr (.inl h)
 ·exact .inr (.inr (.inl h))
 ·exact .inr (.inr (.inr (.inl h)))
 ·exact .inr (.inr (.inr (.inr (.inl h))))
 ·exact .inr (.inr (.inr (.inr (.inr h))))
theorem cover{mask:Nat}(c:Cyc mask)(h:Int){j:Nat}(hj:j≤mask):∃n,n<10*turns mask∧pos mask h n=j:=by
 have h0:(lv mask 13 (bits h % (mask+1),bits h)).2=0:=by
  rw[fK];have:=pJ h;exact Nat.div_eq_of_lt (by have e:(32:Nat) ^ 13=36893488147419103232:=(by decide);rw[e];show bits h<_;omega)
 have h1:(lv mask 13 (bits h % (mask+1),bits h)).1≤mask:=pI mask _ _ (by have:=mod_lt (bits h) (show 0<mask+1 by omega);show bits h % (mask+1)≤mask;omega);obtain⟨k,hk,e⟩:=c _ h1 j hj;obtain⟨n,hn,en⟩:=ma mask (13+k) (bits h % (mask+1),bits h);refine⟨n,by unfold turns;omega,?_⟩;unfold pos st;rw[en,oC];have ex:lv mask 13 (bits h % (mask+1),bits h)=((lv mask 13 (bits h % (mask+1),bits h)).1,0):=by rw[←h0]
 rw[ex,jc];exact e
def InT(mask:Nat)(p:Probe):Prop:=p.j+p.more≤mask
theorem ie{mask i:Nat}(h:i≤mask):runEnd mask i≤mask∧i≤runEnd mask i:=by unfold runEnd;split<;>omega
theorem vk{mask:Nat}{p:Probe}(h:InT mask p):InT mask (adv mask p):=by
 unfold adv InT at *
 split
 ·show p.j+1+(p.more-1)≤mask;omega
 ·have hl:(leap mask p.i p.perturb).1≤mask:=by
   show(p.i*5+1+p.perturb / 32) % (mask+1)≤mask;have:=mod_lt (p.i*5+1+p.perturb / 32) (show 0<mask+1 by omega);omega
  have:=ie hl;show(leap mask p.i p.perturb).1+(runEnd mask (leap mask p.i p.perturb).1-(leap mask p.i p.perturb).1)≤mask;omega
theorem pK{mask:Nat}:∀(n:Nat){p:Probe},InT mask p→InT mask (nth mask p n)
 |0,_,h=>h
 |n+1,_,h=>pK n (vk h)
theorem xG{mask:Nat}{x:Nat×Nat}(h:x.1≤mask):InT mask (lvP mask x):=by
 have:=ie h;show x.1+(runEnd mask x.1-x.1)≤mask;omega
theorem je(mask:Nat)(h:Int)(n:Nat):pos mask h n≤mask:=by
 have:InT mask (nth mask (st mask h) n):=pK n (xG (by have:=mod_lt (bits h) (show 0<mask+1 by omega);show bits h % (mask+1)≤mask;omega));unfold InT at this;unfold pos;omega
theorem sy(E:Nat→Prop):∀N,E N→∃n,n≤N∧E n∧∀m,m<n→¬E m
 |N,h=>by
  induction N using Nat.strongRecOn with
  |_ N ih =>
   by_cases z:∃m,m<N∧E m
   ·obtain⟨m,hm,e⟩:=z;obtain⟨n,hn,e',no⟩:=ih m hm e;exact⟨n,by omega,e',no⟩
   ·exact⟨N,le_refl _,h,λm hm e=>z ⟨m,hm,e⟩⟩
theorem jY(mask:Nat):∀(n:Nat)(p:Probe),(nth mask p n).dummy=p.dummy
 |0,_=>rfl
 |n+1,p=>by
  show(nth mask (adv mask p) n).dummy=_;rw[jY mask n];unfold adv
  split<;>rfl
theorem mf(t:SetTable)(ha:Nat→Int)(h:Int):∀(n:Nat)(p:Probe)(fuel:Nat),n<fuel →
  (∀m,m<n→∃i,t.slot (nth t.mask p m).j=.live i∧(ha i==h)=false)→t.slot (nth t.mask p n).j=.empty →
  probe.go t ha h fuel p=some (.empty (nth t.mask p n).j p.dummy)
 |0,p,fuel+1,_,_,e=>by
  have e':t.slot p.j=.empty:=e;unfold probe.go;rw[e'];rfl
 |n+1,p,fuel+1,hf,hl,e=>by
  obtain⟨i,h1,h2⟩:=hl 0 (by omega);have h1':t.slot p.j=.live i:=h1;unfold probe.go;rw[h1'];simp only[h2,false_eq_true,if_false,oB];rw[mf t ha h n (adv t.mask p) fuel (by omega) (λm hm=>hl (m+1) (by omega)) e]
  congr 2
  exact jY t.mask 1 p
theorem jf(xs:Array Nat)(j:Nat)(hs:∀a b,a<b→b<xs.size→xs.getD a 0<xs.getD b 0):∀(fuel lo hi:Nat),hi-lo≤fuel→lo≤hi→hi≤xs.size →
  (∀k,k<lo→xs.getD k 0<j)→(∀k,hi≤k→k<xs.size→j≤xs.getD k 0) →
  below.go xs j fuel lo hi≤xs.size∧(∀k,k<below.go xs j fuel lo hi→xs.getD k 0<j)∧(∀k,below.go xs j fuel lo hi≤k→k<xs.size→j≤xs.getD k 0)
 |0,lo,hi,hf,hl,hh,h1,h2=>by
  have e:lo=hi:=by omega
  subst e;exact⟨hh,h1,h2⟩
 |fuel+1,lo,hi,hf,hl,hh,h1,h2=>by
  unfold below.go
  by_cases hlt:lo<hi
  ·rw[if_pos hlt];have hm:(lo+hi) / 2<hi:=by omega
   have hm2:lo≤(lo+hi) / 2:=by omega
   have eg:xs.getD ((lo+hi) / 2) j=xs.getD ((lo+hi) / 2) 0:=by
    rw[getD_eq_getD_getElem?,getD_eq_getD_getElem?,Array.getElem?_eq_getElem (by omega)];rfl
   simp only[eg]
   split
   ·rename_i hc
    refine jf xs j hs fuel _ hi (by omega) (by omega) hh (λk hk=>?_) h2
    by_cases e:k=(lo+hi) / 2
    ·rw[e];exact hc
    ·have:=hs k ((lo+hi) / 2) (by omega) (by omega);omega
   ·rename_i hc
    refine jf xs j hs fuel lo _ (by omega) (by omega) (by omega) h1 (λk hk hk2=>?_)
    by_cases e:k=(lo+hi) / 2
    ·rw[e];omega
    ·have:=hs ((lo+hi) / 2) k (by omega) hk2;omega
  ·rw[if_neg hlt];have e:lo=hi:=by omega
   subst e;exact⟨hh,h1,h2⟩
def Up(l:List Nat):Prop:=l.Pairwise (· < ·)
theorem xH{l:List Nat}(h:Up l){a b:Nat}(hab:a<b)(hb:b<l.length):l.toArray.getD a 0<l.toArray.getD b 0:=by
 unfold Up at h;have:=pairwise_iff_getElem.mp h a b (by omega) hb hab;simp[getD_eq_getD_getElem?,show a<l.length by omega,hb];exact this
theorem cE{l:List Nat}(h:Up l)(j:Nat):below l.toArray j≤l.length∧(∀k (hk:k<l.length),k<below l.toArray j→l[k]<j)∧(∀k (hk:k<l.length),below l.toArray j≤k→j≤l[k]):=by
 have:=jf l.toArray j (λa b hab hb=>xH h hab (by simpa using hb)) l.toArray.size 0 l.toArray.size (by omega) (by omega) (le_refl _) (by intro k hk;omega) (by intro k hk hk2;omega);unfold below;refine⟨by simpa using this.1,λk hk h1=>?_,λk hk h1=>?_⟩
 ·have:=this.2.1 k h1;simpa [getD_eq_getD_getElem?,hk]using this
 ·have:=this.2.2 k h1 (by simpa using hk);simpa [getD_eq_getD_getElem?,hk]using this
structure Tb(t:SetTable)(l:List Nat):Prop where
 pl:t.place=l.toArray
 nd:t.dummies=#[]
 up:Up l
 le:∀j∈l,j≤t.mask
theorem pL(j:Nat):has #[] j=false:=by
 unfold has;simp
theorem vm{t:SetTable}{l:List Nat}(T:Tb t l){i j:Nat}(h:l[i]?=some j):t.slot j=.live i:=by
 obtain⟨hi,e⟩:=List.getElem?_eq_some_iff.mp h;obtain⟨b1,b2,b3⟩:=cE T.up j;have eb:below l.toArray j=i:=by
  rcases Nat.lt_trichotomy (below l.toArray j) i with z|z|z
  ·have:=b3 (below l.toArray j) (by omega) (le_refl _);have:=pairwise_iff_getElem.mp T.up (below l.toArray j) i (by omega) hi z;omega
  ·exact z
  ·have:=b2 i hi z;omega
 unfold SetTable.slot;rw[T.pl,eb];simp[h]
theorem sB{t:SetTable}{l:List Nat}(T:Tb t l){j:Nat}(h:j∉l):t.slot j=.empty:=by
 unfold SetTable.slot;rw[T.pl,T.nd,pL];have:¬(l.toArray[below l.toArray j]?==some j)=true:=by
  intro z;have z':l[below l.toArray j]?=some j:=by simpa using z
  exact h (mem_of_getElem? z')
 simp only[this,false_eq_true,if_false]
theorem qR{l:List Nat}(h:Up l){j:Nat}(hj:j∉l):Up (l.take (below l.toArray j)++j::l.drop (below l.toArray j)):=by
 obtain⟨b1,b2,b3⟩:=cE h j;unfold Up;rw[List.pairwise_append,pairwise_cons];have hsub1:(l.take (below l.toArray j)).Pairwise (· < ·):=Pairwise.sublist (take_sublist _ _) h;have hsub2:(l.drop (below l.toArray j)).Pairwise (· < ·):=Pairwise.sublist (List.drop_sublist _ _) h;have h1:∀a∈l.take (below l.toArray j),a<j:=by
  intro a ha;obtain⟨k,hk,e⟩:=mem_iff_getElem.mp ha;rw[length_take]at hk;rw[List.getElem_take]at e;rw[←e];exact b2 k (by omega) (by omega)
 have h2:∀a∈l.drop (below l.toArray j),j<a:=by
  intro a ha;have hne:a≠j:=λe=>hj (e ▸ List.mem_of_mem_drop ha);obtain⟨k,hk,e⟩:=mem_iff_getElem.mp ha;rw[length_drop]at hk;rw[List.getElem_drop]at e;have:=b3 (below l.toArray j+k) (by omega) (by omega);omega
 refine⟨hsub1,⟨h2,hsub2⟩,λa ha b hb=>?_⟩;rcases mem_cons.mp hb with rfl|hb
 ·exact h1 a ha
 ·have:=h1 a ha;have:=h2 b hb;omega
theorem xI{t:SetTable}{l:List Nat}(T:Tb t l){j:Nat}(hj:j∉l)(hm:j≤t.mask):Tb (t.put j).1 (l.take (below l.toArray j)++j::l.drop (below l.toArray j))∧(t.put j).2=below l.toArray j∧(t.put j).1.mask=t.mask:=by
 refine⟨⟨?_,?_,qR T.up hj,?_⟩,?_,rfl⟩
 ·show insertAt t.place (below t.place j) j=_;rw[T.pl];apply toList_inj.mp;rw[SetTable.toList_insertAt]
 ·show(if has t.dummies j=true then _ else t.dummies)=#[];rw[T.nd,pL];rfl
 ·intro a ha;rcases mem_append.mp ha with h|h
  ·exact T.le a (List.mem_of_mem_take h)
  ·rcases mem_cons.mp h with rfl|h
   ·exact hm
   ·exact T.le a (List.mem_of_mem_drop h)
 ·show below t.place j=_;rw[T.pl]
def zm(mask:Nat)(zs:List (Nat×Int)):Prop:=∀z∈zs,∃n,pos mask z.2 n=z.1∧∀m,m<n→pos mask z.2 m∈zs.map (·.1)
def emp(owner:Array (Option Nat))(j:Nat):Bool:=(owner.getD j (some 0)).isNone
theorem jZ(mask:Nat)(owner:Array (Option Nat)):∀(fuel:Nat)(x:Nat×Nat),x.1≤mask→(∃k,k<fuel∧emp owner (lv mask k x).1=true) →
  ∃j n,layClean.free mask owner fuel x.1 x.2=some j∧(nth mask (lvP mask x) n).j=j∧emp owner j=true∧∀m,m<n→emp owner (nth mask (lvP mask x) m).j=false
 |0,x,_,h=>by obtain⟨k,hk,_⟩:=h;omega
 |fuel+1,x,hx,h=>by
  unfold layClean.free;have hr:=ie hx;have hpart:∀m,m≤runEnd mask x.1-x.1→(nth mask (lvP mask x) m).j=x.1+m:=λm hm=>by
   rw[lZ mask m (lvP mask x) hm];rfl
  cases e:(List.range (runEnd mask x.1+1-x.1)).find? (λk=>(owner.getD (x.1+k) (some 0)).isNone)with
  |some k =>
   rw[List.find?_range_eq_some]at e;obtain⟨e1,e2,e3⟩:=e;have hk:k≤runEnd mask x.1-x.1:=by have:=mem_range.mp e2;omega
   refine⟨x.1+k,k,rfl,hpart k hk,e1,λm hm=>?_⟩;rw[hpart m (by omega)];have:=e3 m hm;simpa [emp]using this
  |none =>
   rw[List.find?_range_eq_none]at e;obtain⟨k,hk,h1⟩:=h;have hk0:k≠0:=by
    rintro rfl;have:=e 0 (by omega);have h1':(owner.getD x.1 (some 0)).isNone=true:=h1;rw[Nat.add_zero,h1']at this;simp at this
   obtain⟨k',rfl⟩:∃k',k=k'+1:=⟨k-1,by omega⟩;have hl:(leap mask x.1 x.2).1≤mask:=pI mask 1 x hx;obtain⟨j,n,f1,f2,f3,f4⟩:=jZ mask owner fuel (leap mask x.1 x.2) hl ⟨k',by omega,h1⟩;refine⟨j,(runEnd mask x.1-x.1+1)+n,f1,?_,f3,λm hm=>?_⟩
   ·rw[gu,fJ];exact f2
   ·by_cases hm2:m≤runEnd mask x.1-x.1
    ·rw[hpart m hm2];have:=e m (by omega);simpa [emp]using this
    ·obtain⟨m',rfl⟩:∃m',m=(runEnd mask x.1-x.1+1)+m':=⟨m-(runEnd mask x.1-x.1+1),by omega⟩;rw[gu,fJ];exact f4 m' (by omega)
theorem vp{mask:Nat}(c:Cyc mask)(owner:Array (Option Nat))(h:Int){j₀:Nat}(hj:j₀≤mask)(he:emp owner j₀=true):
  ∃j n,layClean.free mask owner (turns mask) (bits h % (mask+1)) (bits h)=some j∧pos mask h n=j∧emp owner j=true∧∀m,m<n→emp owner (pos mask h m)=false:=by
 have h0:(lv mask 13 (bits h % (mask+1),bits h)).2=0:=by
  rw[fK];have:=pJ h;exact Nat.div_eq_of_lt (by have e:(32:Nat) ^ 13=36893488147419103232:=(by decide);rw[e];show bits h<_;omega)
 have hx:bits h % (mask+1)≤mask:=by have:=mod_lt (bits h) (show 0<mask+1 by omega);omega
 have h1:(lv mask 13 (bits h % (mask+1),bits h)).1≤mask:=pI mask _ _ hx;obtain⟨k,hk,e⟩:=c _ h1 j₀ hj;refine jZ mask owner (turns mask) (bits h % (mask+1),bits h) hx ⟨13+k,by unfold turns;omega,?_⟩;rw[oC];have ex:lv mask 13 (bits h % (mask+1),bits h)=((lv mask 13 (bits h % (mask+1),bits h)).1,0):=by rw[←h0]
 rw[ex,jc,e];exact he
def live(mask:Nat)(owner:Array (Option Nat)):List (Nat×Nat):=(List.range (mask+1)).filterMap λj=>(owner.getD j none).map (j,·)
theorem eN{α β:Type}{f g:α→Option β}:∀{l:List α},(∀x∈l,g x=f x)→l.filterMap g=l.filterMap f
 |[],_=>rfl
 |x::l,h=>by
  have ih:=eN (l:=l) λy hy=>h y (mem_cons_of_mem _ hy);have hx:=h x mem_cons_self;cases e:f x with
  |none=>rw[filterMap_cons_none e,filterMap_cons_none (hx.trans e),ih]
  |some b=>rw[filterMap_cons_some e,filterMap_cons_some (hx.trans e),ih]
theorem fm{α β:Type}(f g:α→Option β)(a:α)(v:β)(hf:f a=none)(hg:g a=some v)(hne:∀x,x≠a→g x=f x):∀(l:List α),l.Nodup→a∈l →
  (l.filterMap g).Perm (v::l.filterMap f)
 |[],_,h=>by simp at h
 |x::l,hn,h=>by
  obtain⟨h1,h2⟩:=nodup_cons.mp hn
  by_cases e:x=a
  ·subst e;rw[filterMap_cons_some hg,filterMap_cons_none hf];have:l.filterMap g=l.filterMap f:=eN λy hy=>hne y (λe=>h1 (e ▸ hy));rw[this]
  ·have ha:a∈l:=by
    rcases mem_cons.mp h with z|z
    ·exact absurd z.symm e
    ·exact z
   have ih:=fm f g a v hf hg hne l h2 ha;cases ef:f x with
   |none =>
    rw[filterMap_cons_none ef,filterMap_cons_none (by rw[hne x e,ef])];exact ih
   |some b =>
    rw[filterMap_cons_some ef,filterMap_cons_some (by rw[hne x e,ef])];exact(ih.cons b).trans (List.Perm.swap _ _ _)
structure Lay(mask:Nat)(owner:Array (Option Nat))(hs:List Int):Prop where
 size:owner.size=mask+1
 perm:((live mask owner).map (·.2)).Perm (List.range hs.length)
 path:∀j i,owner.getD j none=some i→∃h,hs[i]?=some h∧∃n,pos mask h n=j∧∀m,m<n→emp owner (pos mask h m)=false
theorem gw{mask:Nat}{owner:Array (Option Nat)}(hs:owner.size=mask+1){j:Nat}(hj:j≤mask):emp owner j=(owner.getD j none).isNone:=by
 unfold emp;rw[getD_eq_getD_getElem?,getD_eq_getD_getElem?,Array.getElem?_eq_getElem (by omega)];rfl
theorem vq(mask:Nat):Lay mask (Array.replicate (mask+1) none) []:=by
 have e:∀j,(Array.replicate (mask+1) (none:Option Nat)).getD j none=none:=λj=>by
  rw[getD_eq_getD_getElem?,Array.getElem?_replicate]
  split<;>rfl
 refine⟨by simp,?_,λj i h=>?_⟩
 ·have:live mask (Array.replicate (mask+1) none)=[]:=by
   unfold live;rw[List.filterMap_eq_nil_iff];intro j _;rw[e];rfl
  rw[this];simp
 ·rw[e]at h;cases h
theorem sC{mask:Nat}{owner:Array (Option Nat)}{hs:List Int}(L:Lay mask owner hs)(hl:hs.length≤mask):∃j,j≤mask∧emp owner j=true:=by
 by_cases h:∃j,j≤mask∧emp owner j=true
 ·exact h
 ·exfalso
  have all:∀j,j≤mask→∃i,owner.getD j none=some i:=λj hj=>by
   cases e:owner.getD j none with
   |some i=>exact⟨i,rfl⟩
   |none=>exact(h ⟨j,hj,by rw[gw L.size hj,e];rfl⟩).elim
  have len:(live mask owner).length=mask+1:=by
   have key:∀l:List Nat,(∀j∈l,j≤mask)→(l.filterMap λj=>(owner.getD j none).map (j,·)).length=l.length:=by
    intro l
    induction l with
    |nil=>intro _;rfl
    |cons x l ih =>
     intro hl;obtain⟨i,e⟩:=all x (hl x (by simp));rw[filterMap_cons_some (by rw[e];rfl),length_cons,length_cons,ih λj hj=>hl j (by simp[hj])]
   unfold live;rw[key _ (λj hj=>by have:=mem_range.mp hj;omega),length_range]
  have:=L.perm.length_eq;rw[length_map,length_range,len]at this;omega
theorem gx{owner:Array (Option Nat)}{j k:Nat}{v:Option Nat}(hj:j<owner.size):(owner.setIfInBounds j v).getD k none=if k=j then v else owner.getD k none:=by
 rw[getD_eq_getD_getElem?,getD_eq_getD_getElem?,Array.getElem?_setIfInBounds]
 by_cases e:j=k
 ·subst e;simp[hj]
 ·rw[if_neg e,if_neg (λz=>e z.symm)]
theorem pM{mask:Nat}{owner:Array (Option Nat)}{j k i:Nat}(hs:owner.size=mask+1)(hj:j≤mask)(hk:k≤mask)(h:emp owner k=false):emp (owner.setIfInBounds j (some i)) k=false:=by
 rw[gw (by simpa using hs) hk,gx (by omega)];rw[gw hs hk]at h
 split
 ·rfl
 ·exact h
theorem sD{mask:Nat}(c:Cyc mask){owner:Array (Option Nat)}{hs:List Int}(L:Lay mask owner hs)(hl:hs.length≤mask)(h:Int):
  ∃j,layClean.free mask owner (turns mask) (bits h % (mask+1)) (bits h)=some j∧Lay mask (owner.setIfInBounds j (some hs.length)) (hs++[h]):=by
 obtain⟨j₀,hj₀,e₀⟩:=sC L hl;obtain⟨j,n,e1,e2,e3,e4⟩:=vp c owner h hj₀ e₀;have hj:j≤mask:=by rw[←e2];exact je mask h n
 have hjn:owner.getD j none=none:=by
  rw[gw L.size hj]at e3;exact Option.isNone_iff_eq_none.mp e3
 refine⟨j,e1,by simpa using L.size,?_,λk i hk=>?_⟩
 ·have p:=fm (λk=>(owner.getD k none).map (k,·)) (λk=>((owner.setIfInBounds j (some hs.length)).getD k none).map (k,·)) j (j,hs.length) (by simp[hjn])
   (by show((owner.setIfInBounds j (some hs.length)).getD j none).map (j,·)=_;rw[gx (by rw[L.size];omega),if_pos rfl];rfl) (λx hx=>by show((owner.setIfInBounds j (some hs.length)).getD x none).map (x,·)=(owner.getD x none).map (x,·);rw[gx (by rw[L.size];omega),if_neg hx]) (List.range (mask+1)) List.nodup_range (mem_range.mpr (by omega))
  have p2:((live mask (owner.setIfInBounds j (some hs.length))).map (·.2)).Perm (hs.length::(live mask owner).map (·.2)):=p.map (·.2);rw[length_append,length_singleton,List.range_succ];exact p2.trans ((L.perm.cons _).trans (List.perm_append_singleton _ _).symm)
 ·rw[gx (by rw[L.size];omega)]at hk
  by_cases e:k=j
  ·subst e;rw[if_pos rfl]at hk;cases hk;exact⟨h,by simp,n,e2,λm hm=>pM L.size hj (je _ _ _) (e4 m hm)⟩
  ·rw[if_neg e]at hk;obtain⟨h',a1,n',a2,a3⟩:=L.path k i hk;have hi:i<hs.length:=(List.getElem?_eq_some_iff.mp a1).1;exact⟨h',by rw[getElem?_append_left hi];exact a1,n',a2,λm hm=>pM L.size hj (je _ _ _) (a3 m hm)⟩
theorem ix{mask:Nat}(c:Cyc mask)(hashes:Array Int)(hl:hashes.size≤mask+1):∃owner,layClean mask hashes=some owner∧Lay mask owner hashes.toList:=by
 have key:∀(r hs:List Int)(owner:Array (Option Nat)),Lay mask owner hs→hs.length+r.length≤mask+1 →
   ∃owner',r.foldl (λacc h=>do
    let(owner,k) ← acc
    let j ← layClean.free mask owner (turns mask) (bits h % (mask+1)) (bits h)
    pure (owner.setIfInBounds j (some k),k+1)) (some (owner,hs.length))=some (owner',hs.length+r.length)∧Lay mask owner' (hs++r):=by
  intro r
  induction r with
  |nil=>intro hs owner L _;exact⟨owner,rfl,by simpa using L⟩
  |cons h r ih =>
   intro hs owner L hle;rw[length_cons]at hle;obtain⟨j,e,L'⟩:=sD c L (by omega) h;obtain⟨owner',e',L''⟩:=ih (hs++[h]) _ L' (by rw[length_append,length_singleton];omega);refine⟨owner',?_,by rw[append_assoc]at L'';exact L''⟩;rw[List.foldl_cons];have eb:(do
    let(owner,k) ← some (owner,hs.length)
    let j ← layClean.free mask owner (turns mask) (bits h % (mask+1)) (bits h)
    pure (owner.setIfInBounds j (some k),k+1))=some (owner.setIfInBounds j (some hs.length),hs.length+1):=by
    show(layClean.free mask owner (turns mask) (bits h % (mask+1)) (bits h)).bind _=_;rw[e];rfl
   rw[eb];rw[length_append,length_singleton]at e';rw[e',length_cons]
   congr 2
   omega
 obtain⟨owner',e,L⟩:=key hashes.toList [] _ (vq mask) (by simpa using hl);refine⟨owner',?_,by simpa using L⟩
 unfold layClean;rw[←Array.foldl_toList];have e2:(0:Nat)=([]:List Int).length:=rfl;rw[e2,e];rfl
theorem ka{t:SetTable}{hashes:Array Int}{wanted:Nat}(c:Cyc (sizeAbove wanted-1))(hl:hashes.size≤sizeAbove wanted-1+1):
  ∃(t':SetTable) (zs:List (Nat×Nat)),t.relaid hashes wanted=some (t',(zs.map (·.2)).toArray)∧t'.mask=sizeAbove wanted-1∧t'.led=t.led∧t'.plain=t.plain ∧
   Tb t' (zs.map (·.1))∧(zs.map (·.2)).Perm (List.range hashes.size)∧zm t'.mask (zs.map λz=>(z.1,hashes.getD z.2 0)):=by
 obtain⟨owner,e,L⟩:=ix c hashes hl;refine⟨{mask:=sizeAbove wanted-1,place:=((live (sizeAbove wanted-1) owner).map (·.1)).toArray,dummies:=#[],finger:=t.finger,led:=t.led,moves:=t.movedTo (sizeAbove wanted-1),plain:=t.plain},live (sizeAbove wanted-1) owner,?_,rfl,rfl,rfl,⟨rfl,rfl,?_,?_⟩,?_,?_⟩
 ·unfold relaid laid;rw[e];rfl
 ·unfold Up live;rw[List.map_filterMap];have e1:((List.range (sizeAbove wanted-1+1)).filterMap λj=>((owner.getD j none).map (j,·)).map (·.1))=(List.range (sizeAbove wanted-1+1)).filter λj=>(owner.getD j none).isSome:=by
   generalize List.range (sizeAbove wanted-1+1)=l
   induction l with
   |nil=>rfl
   |cons x l ih =>
    cases ex:owner.getD x none with
    |none=>rw[filterMap_cons_none (by rw[ex];rfl),filter_cons_of_neg (by simp[ex])];exact ih
    |some i=>rw[filterMap_cons_some (b:=x) (by rw[ex];rfl),filter_cons_of_pos (by simp[ex]),ih]
  rw[e1];exact Pairwise.sublist filter_sublist List.pairwise_lt_range
 ·intro j hj;obtain⟨z,hz,rfl⟩:=mem_map.mp hj;unfold live at hz;obtain⟨k,hk,e1⟩:=mem_filterMap.mp hz;cases ex:owner.getD k none with
  |none=>rw[ex]at e1;cases e1
  |some i =>
   rw[ex]at e1;have e2:(k,i)=z:=Option.some.inj e1;subst e2;have:=mem_range.mp hk;show k≤sizeAbove wanted-1;omega
 ·have:=L.perm;rw[length_toList]at this;exact this
 ·intro y hy;obtain⟨z,hz,rfl⟩:=mem_map.mp hy;have key:∀z:Nat×Nat,z∈live (sizeAbove wanted-1) owner↔z.1≤sizeAbove wanted-1∧owner.getD z.1 none=some z.2:=by
   intro z;unfold live;rw[mem_filterMap];constructor
   ·rintro⟨k,hk,e1⟩;cases ex:owner.getD k none with
    |none=>rw[ex]at e1;cases e1
    |some i =>
     rw[ex]at e1;have e2:(k,i)=z:=Option.some.inj e1;subst e2;have:=mem_range.mp hk;exact⟨by omega,ex⟩
   ·rintro⟨h1,h2⟩;exact⟨z.1,mem_range.mpr (by omega),by rw[h2];rfl⟩
  obtain⟨z1,z2⟩:=(key z).mp hz;obtain⟨h,a1,n,a2,a3⟩:=L.path _ _ z2;have eh:hashes.getD z.2 0=h:=by
   have a1':hashes[z.2]?=some h:=by simpa using a1
   rw[getD_eq_getD_getElem?,a1'];rfl
  refine⟨n,by rw[eh];exact a2,λm hm=>?_⟩;have:=a3 m hm;have hle:=je (sizeAbove wanted-1) h m;rw[gw L.size hle]at this;cases ex:owner.getD (pos (sizeAbove wanted-1) h m) none with
  |none=>rw[ex]at this;cases this
  |some i =>
   rw[map_map];show pos (sizeAbove wanted-1) (hashes.getD z.2 0) m∈_;rw[eh];exact mem_map.mpr ⟨(pos (sizeAbove wanted-1) h m,i),(key _).mpr ⟨hle,ex⟩,rfl⟩
section
variable{prog:Program}{w:World}{K:Type}[DecidableEq K]{knd:KeyKind prog w K}{A:Around}{E:Value→Shared→Prop}{s:Shared}
end
section
variable{prog:Program}{w:World}{K:Type}[DecidableEq K](knd:KeyKind prog w K)
variable{knd}
variable{A:Around}{E:Value→Shared→Prop}{s:Shared}
theorem gy{t:SetTable}{l:List Nat}(T:Tb t l):t.fill=l.length:=by
 unfold SetTable.fill;rw[T.pl,T.nd];simp
theorem li{t:SetTable}{l:List Nat}(T:Tb t l){n:Nat}(hn:l.length=n)(hf:n≤t.mask):t.fits n=true:=by
 unfold SetTable.fits;rw[gy T,T.pl];simp[hn,hf]
end
theorem pN:∀(n:Nat)(l:List Nat),(∀j,j<n→j∈l)→n≤l.length
 |0,_,_=>zero_le _
 |n+1,l,h=>by
  have hn:=h n (by omega);have ih:=pN n (l.erase n) λj hj=>(List.mem_erase_of_ne (by omega)).mpr (h j (by omega));rw[List.length_erase_of_mem hn]at ih;have:0<l.length:=List.length_pos_of_mem hn;omega
theorem oE(n:Nat)(l:List Nat)(h:l.length≤n):∃j,j≤n∧j∉l:=by
 by_cases z:∃j,j≤n∧j∉l
 ·exact z
 ·exfalso
  have:=pN (n+1) l λj hj=>by
   by_cases e:j∈l
   ·exact e
   ·exact(z ⟨j,by omega,e⟩).elim
  omega
section
variable{prog:Program}{w:World}{K:Type}[DecidableEq K]{knd:KeyKind prog w K}{A:Around}{E:Value→Shared→Prop}{s:Shared}
theorem stored{a:Addr}{o:Obj}{es:Array (Int×Value)}{ep:Nat}{t:SetTable}(ho:s.heap.get? a=some o)(hd:o.data=.set es ep t)(es':Array (Int×Value))(t':SetTable):
  (s.heap.update a (Obj.putSet es' t')).get? a=some {o with data:=.set es' (ep+1) t'}:=by
 have:=Heap.get?_update_self (Obj.putSet es' t') ho (by rw[putSet_of es' t' hd];rfl);rw[putSet_of es' t' hd]at this;exact this
theorem sE{n:Nat}(h:n≤64):n≤sizeLine:=by rw[sizeLine_eq];omega
end
section
variable{prog:Program}{w:World}{K:Type}[DecidableEq K]{knd:KeyKind prog w K}{A:Around}{R:Result→Shared→Prop}{I:Addr}{fp wr:List Addr}{G:Array GenState→Array GenState→Prop}{n:Nat}{P:Nat→Value→Prop}{St:Nat→Shared→Prop}
end
section
variable{prog:Program}{w:World}{K:Type}[DecidableEq K]{knd:KeyKind prog w K}{A:Around}{E:Value→Shared→Prop}{s:Shared}
end
end TB
namespace SRT
open PySem PySem.W PyProof.Rows
def run{α:Type}(f:Nat→Nat→Bool):KasT α→α
 |.ret a=>a
 |.ask i j k=>run f (k (f i j))
theorem dI{α β:Type}(f:Nat→Nat→Bool)(g:α→KasT β):∀t:KasT α,run f (t.bind g)=run f (g (run f t))
 |.ret a=>rfl
 |.ask i j k=>dI f g (k (f i j))
def path{α:Type}(f:Nat→Nat→Bool)(n:Nat):KasT α→Prop
 |.ret _=>True
 |.ask i j k=>i<n∧j<n∧path f n (k (f i j))
theorem de{α β:Type}{f:Nat→Nat→Bool}{n:Nat}{g:α→KasT β}:∀{t:KasT α},path f n t→path f n (g (run f t))→path f n (t.bind g)
 |.ret a,_,h=>h
 |.ask i j k,h,h'=>⟨h.1,h.2.1,de (t:=k (f i j)) h.2.2 h'⟩
theorem pO{α:Type}{f:Nat→Nat→Bool}{n:Nat}{cmp:Nat→Nat→(Bool→Shared→Prop)→Shared→Prop}{s:Shared}(hc:∀i j C,i<n→j<n→C (f i j) s→cmp i j C s)(Q:α→Shared→Prop):∀t:KasT α,path f n t→Q (run f t) s→t.kasWp cmp Q s
 |.ret a,_,h=>h
 |.ask i j k,p,h=>hc i j _ p.1 p.2.1 (pO hc Q (k (f i j)) p.2.2 h)
structure Ord(f:Nat→Nat→Bool)(n:Nat):Prop where
 irr:∀i,i<n→f i i=false
 tr:∀i j k,i<n→j<n→k<n→f i j=true→f j k=true→f i k=true
 tot:∀i j,i<n→j<n→i≠j→f i j=true∨f j i=true
section
variable{f:Nat→Nat→Bool}{n:Nat}
structure Row(n:Nat)(p:Array Nat):Prop where
 perm:p.toList.Perm (List.range n)
theorem Row.size{p:Array Nat}(r:Row n p):p.size=n:=by have:=r.perm.length_eq;simpa using this
theorem Row.lt{p:Array Nat}(r:Row n p){i:Nat}(hi:i<n):p.getD i 0<n:=by
 have hs:=r.size;have:p.getD i 0∈p.toList:=by
  rw[getD_eq_getD_getElem?,Array.getElem?_eq_getElem (by omega)];exact Array.getElem_mem_toList (by omega)
 exact mem_range.mp (r.perm.mem_iff.mp this)
theorem Row.ne{p:Array Nat}(r:Row n p){i j:Nat}(hi:i<n)(hj:j<n)(hij:i≠j):p.getD i 0≠p.getD j 0:=by
 have hs:=r.size;have nd:p.toList.Nodup:=r.perm.nodup_iff.mpr List.nodup_range;rw[getD_eq_getD_getElem?,getD_eq_getD_getElem?,Array.getElem?_eq_getElem (by omega),Array.getElem?_eq_getElem (by omega)];intro e;have e':p.toList[i]'(by simpa using (by omega:i<p.size))=p.toList[j]'(by simpa using (by omega:j<p.size)):=by simpa using e
 exact hij ((getElem_inj nd).mp e')
theorem Row.rev{p:Array Nat}(r:Row n p)(i j:Nat):Row n (kas_rev p i j):=⟨(Array.perm_iff_toList_perm.mp (mirror_perm p i j _)).trans r.perm⟩
theorem Row.bub{p:Array Nat}(r:Row n p)(i j:Nat):Row n (bubble p i j):=⟨(Array.perm_iff_toList_perm.mp (bubble_perm p i j)).trans r.perm⟩
def Up(f:Nat→Nat→Bool)(p:Array Nat)(m:Nat):Prop:=∀i j,i<j→j<m→f (p.getD i 0) (p.getD j 0)=true
theorem vr(O:Ord f n){p:Array Nat}(r:Row n p){m:Nat}(hm:m<n)(h1:1≤m)(u:Up f p m)(h:f (p.getD m 0) (p.getD (m-1) 0)=false):Up f p (m+1):=by
 have hl:f (p.getD (m-1) 0) (p.getD m 0)=true:=by
  rcases O.tot _ _ (r.lt (i:=m) hm) (r.lt (i:=m-1) (by omega)) (r.ne hm (by omega) (by omega))with z|z
  ·rw[h]at z;cases z
  ·exact z
 intro i j hij hj
 by_cases e:j=m
 ·subst e
  by_cases e2:i=j-1
  ·rw[e2];exact hl
  ·exact O.tr _ _ _ (r.lt (by omega)) (r.lt (by omega)) (r.lt hm) (u i (j-1) (by omega) (by omega)) hl
 ·exact u i j hij (by omega)
theorem lj(O:Ord f n){p:Array Nat}(r:Row n p):∀(fuel m:Nat),1≤m→m+fuel≤n→Up f p m →
  m≤run f (kas_asc p fuel m)∧run f (kas_asc p fuel m)≤m+fuel∧Up f p (run f (kas_asc p fuel m))∧(run f (kas_asc p fuel m)<m+fuel→f (p.getD (run f (kas_asc p fuel m)) 0) (p.getD (run f (kas_asc p fuel m)-1) 0)=true)
 |0,m,_,_,u=>⟨le_refl _,le_refl _,u,λh=>absurd h (by simp[kas_asc,run])⟩
 |fuel+1,m,h1,hm,u=>by
  cases e:f (p.getD m 0) (p.getD (m-1) 0)with
  |true =>
   have er:run f (kas_asc p (fuel+1) m)=m:=by
    show run f (if f (p.getD m 0) (p.getD (m-1) 0)=true then KasT.ret m else kas_asc p fuel (m+1))=m
    rw[e,if_pos rfl];rfl
   rw[er];exact⟨le_refl _,by omega,u,λ_=>e⟩
  |false =>
   have er:run f (kas_asc p (fuel+1) m)=run f (kas_asc p fuel (m+1)):=by
    show run f (if f (p.getD m 0) (p.getD (m-1) 0)=true then KasT.ret m else kas_asc p fuel (m+1))=_
    rw[e,if_neg (by simp)]
   rw[er];obtain⟨a1,a2,a3,a4⟩:=lj O r fuel (m+1) (by omega) (by omega) (vr O r (by omega) h1 u e);exact⟨by omega,by omega,a3,λh=>a4 (by omega)⟩
def xJ(f:Nat→Nat→Bool)(p:Array Nat)(m:Nat):Prop:=∀i j,i<j→j<m→f (p.getD j 0) (p.getD i 0)=true
theorem ll(O:Ord f n){p:Array Nat}(r:Row n p):∀(fuel m:Nat),1≤m→m+fuel≤n→xJ f p m →
  ∃m',run f (kas_desc fuel p m 0)=(p,m',0)∧m≤m'∧m'≤m+fuel∧xJ f p m'
 |0,m,_,_,u=>⟨m,rfl,le_refl _,le_refl _,u⟩
 |fuel+1,m,h1,hm,u=>by
  cases e:f (p.getD m 0) (p.getD (m-1) 0)with
  |true =>
   have er:run f (kas_desc (fuel+1) p m 0)=run f (kas_desc fuel p (m+1) 0):=by
    show run f (if f (p.getD m 0) (p.getD (m-1) 0)=true then (if 0>0 then _ else kas_desc fuel p (m+1) 0)else _)=_
    rw[e,if_pos rfl,if_neg (by omega)]
   rw[er];obtain⟨m',a1,a2,a3,a4⟩:=ll O r fuel (m+1) (by omega) (by omega) (by
    intro i j hij hj
    by_cases ej:j=m
    ·subst ej
     by_cases e2:i=j-1
     ·rw[e2];exact e
     ·exact O.tr _ _ _ (r.lt (by omega)) (r.lt (i:=j-1) (by omega)) (r.lt (by omega)) e (u i (j-1) (by omega) (by omega))
    ·exact u i j hij (by omega))
   exact⟨m',a1,by omega,by omega,a4⟩
  |false =>
   have e2:f (p.getD (m-1) 0) (p.getD m 0)=true:=by
    rcases O.tot _ _ (r.lt (i:=m) (by omega)) (r.lt (i:=m-1) (by omega)) (r.ne (by omega) (by omega) (by omega))with z|z
    ·rw[e]at z;cases z
    ·exact z
   have er:run f (kas_desc (fuel+1) p m 0)=(p,m,0):=by
    show run f (if f (p.getD m 0) (p.getD (m-1) 0)=true then _ else KasT.ask (p.getD (m-1) 0) (p.getD m 0) λd=>if d=true then .ret (p,m,0)else kas_desc fuel p (m+1) (0+1))=_
    rw[e,if_neg (by simp)];show run f (if f (p.getD (m-1) 0) (p.getD m 0)=true then KasT.ret (p,m,0)else kas_desc fuel p (m+1) (0+1))=_
    rw[e2,if_pos rfl];rfl
   exact⟨m,er,le_refl _,by omega,u⟩
theorem pP{p:Array Nat}{m:Nat}(hm:m≤p.size)(k:Nat)(hk:k<m):(kas_rev p 0 m).getD k 0=p.getD (m-1-k) 0:=by
 unfold kas_rev;rw[getD_eq_getD_getElem?,getElem?_mirror_all hm k,if_pos ⟨by omega,hk⟩,getD_eq_getD_getElem?]
 congr 2
 omega
theorem xK{p:Array Nat}{m:Nat}(hm:m≤p.size)(d:xJ f p m):Up f (kas_rev p 0 m) m:=by
 intro i j hij hj;rw[pP hm i (by omega),pP hm j hj];exact d _ _ (by omega) (by omega)
theorem mh(O:Ord f n){p:Array Nat}(r:Row n p)(h2:1≤n):∃m p',run f (kas_count n p)=(m,p')∧1≤m∧m≤n∧Row n p'∧Up f p' m:=by
 obtain⟨a1,a2,a3,a4⟩:=lj O r (n-1) 1 (by omega) (by omega) (by intro i j hij hj;omega);have er:run f (kas_count n p)=run f (if (run f (kas_asc p (n-1) 1)==n)=true then KasT.ret (run f (kas_asc p (n-1) 1),p)else if run f (kas_asc p (n-1) 1)>1 then .ask (p.getD 0 0) (p.getD (run f (kas_asc p (n-1) 1)-1) 0) λc=>if c=true then .ret (run f (kas_asc p (n-1) 1),p)else kas_descPart (run f (kas_asc p (n-1) 1)) n (kas_rev p 0 (run f (kas_asc p (n-1) 1)))
  else kas_descPart (run f (kas_asc p (n-1) 1)) n p):=by
  unfold kas_count;rw[dI]
 rw[er];generalize run f (kas_asc p (n-1) 1)=m at a1 a2 a3 a4⊢
 by_cases e:m=n
 ·rw[if_pos (by simp[e])];exact⟨m,p,rfl,a1,by omega,r,a3⟩
 ·rw[if_neg (by simpa using e)]
  by_cases e1:m>1
  ·rw[if_pos e1];refine⟨m,p,?_,a1,by omega,r,a3⟩;show run f (if f (p.getD 0 0) (p.getD (m-1) 0)=true then KasT.ret (m,p)else _)=_
   rw[a3 0 (m-1) (by omega) (by omega),if_pos rfl];rfl
  ·rw[if_neg e1];have em:m=1:=by omega
   subst em;have hd:=a4 (by omega);unfold kas_descPart;obtain⟨m',b1,b2,b3,b4⟩:=ll O r (n-(1+1)) (1+1) (by omega) (by omega) (by
    intro i j hij hj;have:i=0∧j=1:=by omega
    rw[this.1,this.2];exact hd)
   rw[dI,b1];dsimp only;rw[if_neg (by omega)];unfold kas_tail3;have hs:=r.size;have ur:=xK (f:=f) (by omega:m'≤p.size) b4;obtain⟨c1,c2,c3,c4⟩:=lj O (r.rev 0 m') (n-m') m' (by omega) (by omega) ur;rw[dI];exact⟨_,_,rfl,by omega,by omega,r.rev 0 m',c3⟩
theorem gB(O:Ord f n){p:Array Nat}(r:Row n p){k:Nat}(hk:k<n)(u:Up f p k):∀(fuel l r':Nat),r'-l≤fuel→l≤r'→r'≤k →
  (∀i,i<l→f (p.getD i 0) (p.getD k 0)=true)→(∀i,r'≤i→i<k→f (p.getD k 0) (p.getD i 0)=true) →
  run f (kas_place p k fuel l r')≤k∧(∀i,i<run f (kas_place p k fuel l r')→f (p.getD i 0) (p.getD k 0)=true)∧(∀i,run f (kas_place p k fuel l r')≤i→i<k→f (p.getD k 0) (p.getD i 0)=true)
 |0,l,r',h1,h2,h3,h4,h5=>by
  have:l=r':=by omega
  subst this;exact⟨h3,h4,h5⟩
 |fuel+1,l,r',h1,h2,h3,h4,h5=>by
  unfold kas_place
  by_cases e:l≥r'
  ·rw[if_pos e];have:l=r':=by omega
   subst this;exact⟨h3,h4,h5⟩
  ·rw[if_neg e];have hmid:(l+r') / 2<k:=by omega
   cases c:f (p.getD k 0) (p.getD ((l+r') / 2) 0)with
   |true =>
    have er:run f (KasT.ask (p.getD k 0) (p.getD ((l+r') / 2) 0) λc=>if c=true then kas_place p k fuel l ((l+r') / 2)else kas_place p k fuel ((l+r') / 2+1) r')=run f (kas_place p k fuel l ((l+r') / 2)):=by
     show run f (if f (p.getD k 0) (p.getD ((l+r') / 2) 0)=true then _ else _)=_
     rw[c,if_pos rfl]
    rw[er];refine gB O r hk u fuel l _ (by omega) (by omega) (by omega) h4 (λi hi hik=>?_)
    by_cases ei:i=(l+r') / 2
    ·rw[ei];exact c
    ·exact O.tr _ _ _ (r.lt hk) (r.lt (i:=(l+r') / 2) (by omega)) (r.lt (by omega)) c (u _ _ (by omega) hik)
   |false =>
    have er:run f (KasT.ask (p.getD k 0) (p.getD ((l+r') / 2) 0) λc=>if c=true then kas_place p k fuel l ((l+r') / 2)else kas_place p k fuel ((l+r') / 2+1) r')=run f (kas_place p k fuel ((l+r') / 2+1) r'):=by
     show run f (if f (p.getD k 0) (p.getD ((l+r') / 2) 0)=true then _ else _)=_
     rw[c,if_neg (by simp)]
    rw[er];have c':f (p.getD ((l+r') / 2) 0) (p.getD k 0)=true:=by
     rcases O.tot _ _ (r.lt (i:=k) hk) (r.lt (i:=(l+r') / 2) (by omega)) (r.ne hk (by omega) (by omega))with z|z
     ·rw[c]at z;cases z
     ·exact z
    refine gB O r hk u fuel _ r' (by omega) (by omega) h3 (λi hi=>?_) h5
    by_cases ei:i=(l+r') / 2
    ·rw[ei];exact c'
    ·exact O.tr _ _ _ (r.lt (by omega)) (r.lt (i:=(l+r') / 2) (by omega)) (r.lt hk) (u i _ (by omega) (by omega)) c'
theorem iK{p:Array Nat}{k l:Nat}(hk:k<p.size)(hl:l≤k)(i:Nat):(bubble p k (k-l)).getD i 0=if i=l then p.getD k 0 else if l<i∧i≤k then p.getD (i-1) 0 else p.getD i 0:=by
 simp only[getD_eq_getD_getElem?];rw[getElem?_bubble hk (k-l) (by omega) i];have e:k-(k-l)=l:=by omega
 rw[e]
 by_cases h1:i=l
 ·rw[if_pos h1,if_pos h1]
 ·rw[if_neg h1,if_neg h1]
  by_cases h2:l<i∧i≤k
  ·rw[if_pos h2,if_pos h2]
  ·rw[if_neg h2,if_neg h2]
theorem sF(O:Ord f n):∀(fuel:Nat)(p:Array Nat)(k:Nat),Row n p→k+fuel=n→Up f p k→Row n (run f (kas_bin fuel p k))∧Up f (run f (kas_bin fuel p k)) n
 |0,p,k,r,hk,u=>by
  have:k=n:=by omega
  subst this;exact⟨r,u⟩
 |fuel+1,p,k,r,hk,u=>by
  have hkn:k<n:=by omega
  obtain⟨a1,a2,a3⟩:=gB O r hkn u k 0 k (by omega) (by omega) (le_refl _) (λi hi=>by omega) (λi h1 h2=>by omega);have er:run f (kas_bin (fuel+1) p k)=run f (kas_bin fuel (bubble p k (k-run f (kas_place p k k 0 k))) (k+1)):=by
   show run f ((kas_place p k k 0 k).bind λl=>kas_bin fuel (bubble p k (k-l)) (k+1))=_;rw[dI]
  rw[er];generalize run f (kas_place p k k 0 k)=l at a1 a2 a3⊢;have hs:=r.size;refine sF O fuel _ (k+1) (r.bub _ _) (by omega) ?_;intro i j hij hj;rw[iK (by omega) a1 i,iK (by omega) a1 j]
  by_cases ei:i=l
  ·rw[if_pos ei,if_neg (by omega),if_pos ⟨by omega,by omega⟩];exact a3 (j-1) (by omega) (by omega)
  ·rw[if_neg ei]
   by_cases ej:j=l
   ·rw[if_pos ej,if_neg (by omega)];exact a2 i (by omega)
   ·rw[if_neg ej]
    by_cases hi2:l<i∧i≤k
    ·rw[if_pos hi2,if_pos ⟨by omega,by omega⟩];exact u _ _ (by omega) (by omega)
    ·rw[if_neg hi2]
     by_cases hj2:l<j∧j≤k
     ·rw[if_pos hj2]
      by_cases e3:i=j-1
      ·omega
      ·exact u i (j-1) (by omega) (by omega)
     ·rw[if_neg hj2];exact u i j hij (by omega)
theorem jg{p:Array Nat}(r:Row n p):∀(fuel m:Nat),1≤m→m+fuel≤n→path f n (kas_asc p fuel m)
 |0,m,_,_=>trivial
 |fuel+1,m,h1,hm=>by
  refine⟨r.lt (by omega),r.lt (by omega),?_⟩;show path f n (if f (p.getD m 0) (p.getD (m-1) 0)=true then KasT.ret m else kas_asc p fuel (m+1))
  split
  ·exact trivial
  ·exact jg r fuel (m+1) (by omega) (by omega)
theorem kb(O:Ord f n){p:Array Nat}(r:Row n p):∀(fuel m:Nat),1≤m→m+fuel≤n→path f n (kas_desc fuel p m 0)
 |0,m,_,_=>trivial
 |fuel+1,m,h1,hm=>by
  refine⟨r.lt (by omega),r.lt (by omega),?_⟩;show path f n (if f (p.getD m 0) (p.getD (m-1) 0)=true then (if 0>0 then _ else kas_desc fuel p (m+1) 0)else KasT.ask (p.getD (m-1) 0) (p.getD m 0) λd=>if d=true then .ret (p,m,0)else kas_desc fuel p (m+1) (0+1))
  cases e:f (p.getD m 0) (p.getD (m-1) 0)with
  |true =>
   rw[if_pos rfl,if_neg (by omega)];exact kb O r fuel (m+1) (by omega) (by omega)
  |false =>
   rw[if_neg (by simp)];have e2:f (p.getD (m-1) 0) (p.getD m 0)=true:=by
    rcases O.tot _ _ (r.lt (i:=m) (by omega)) (r.lt (i:=m-1) (by omega)) (r.ne (by omega) (by omega) (by omega))with z|z
    ·rw[e]at z;cases z
    ·exact z
   refine⟨r.lt (by omega),r.lt (by omega),?_⟩;dsimp only;rw[e2,if_pos rfl];exact trivial
theorem oF(O:Ord f n){p:Array Nat}(r:Row n p)(h2:1≤n):path f n (kas_count n p):=by
 obtain⟨a1,a2,a3,a4⟩:=lj O r (n-1) 1 (by omega) (by omega) (by intro i j hij hj;omega);unfold kas_count;refine de (jg r _ _ (by omega) (by omega)) ?_;generalize run f (kas_asc p (n-1) 1)=m at a1 a2 a3 a4⊢
 by_cases e:m=n
 ·rw[if_pos (by simp[e])];exact trivial
 ·rw[if_neg (by simpa using e)]
  by_cases e1:m>1
  ·rw[if_pos e1];refine⟨r.lt (by omega),r.lt (by omega),?_⟩;dsimp only;rw[a3 0 (m-1) (by omega) (by omega),if_pos rfl];exact trivial
  ·rw[if_neg e1];have em:m=1:=by omega
   subst em;have hd:=a4 (by omega);unfold kas_descPart;refine de (kb O r _ _ (by omega) (by omega)) ?_;obtain⟨m',b1,b2,b3,b4⟩:=ll O r (n-(1+1)) (1+1) (by omega) (by omega) (by
    intro i j hij hj;have:i=0∧j=1:=by omega
    rw[this.1,this.2];exact hd)
   rw[b1];dsimp only;rw[if_neg (by omega)];unfold kas_tail3;exact de (jg (r.rev 0 m') _ _ (by omega) (by omega)) trivial
theorem fO{p:Array Nat}(r:Row n p){k:Nat}(hk:k<n):∀(fuel l r':Nat),r'≤k→path f n (kas_place p k fuel l r')
 |0,l,r',_=>trivial
 |fuel+1,l,r',h=>by
  unfold kas_place
  by_cases e:l≥r'
  ·rw[if_pos e];exact trivial
  ·rw[if_neg e];refine⟨r.lt hk,r.lt (by omega),?_⟩;dsimp only
   split
   ·exact fO r hk fuel _ _ (by omega)
   ·exact fO r hk fuel _ _ h
theorem ml(O:Ord f n):∀(fuel:Nat)(p:Array Nat)(k:Nat),Row n p→k+fuel=n→Up f p k→path f n (kas_bin fuel p k)
 |0,p,k,r,hk,u=>trivial
 |fuel+1,p,k,r,hk,u=>by
  have hkn:k<n:=by omega
  show path f n ((kas_place p k k 0 k).bind λl=>kas_bin fuel (bubble p k (k-l)) (k+1));refine de (fO r hkn _ _ _ (le_refl _)) ?_;obtain⟨a1,a2,a3⟩:=gB O r hkn u k 0 k (by omega) (by omega) (le_refl _) (λi hi=>by omega) (λi h1 h2=>by omega);generalize run f (kas_place p k k 0 k)=l at a1 a2 a3⊢;have hs:=r.size;refine ml O fuel _ (k+1) (r.bub _ _) (by omega) ?_;intro i j hij hj;rw[iK (by omega) a1 i,iK (by omega) a1 j]
  by_cases ei:i=l
  ·rw[if_pos ei,if_neg (by omega),if_pos ⟨by omega,by omega⟩];exact a3 (j-1) (by omega) (by omega)
  ·rw[if_neg ei]
   by_cases ej:j=l
   ·rw[if_pos ej,if_neg (by omega)];exact a2 i (by omega)
   ·rw[if_neg ej]
    by_cases hi2:l<i∧i≤k
    ·rw[if_pos hi2,if_pos ⟨by omega,by omega⟩];exact u _ _ (by omega) (by omega)
    ·rw[if_neg hi2]
     by_cases hj2:l<j∧j≤k
     ·rw[if_pos hj2]
      by_cases e3:i=j-1
      ·omega
      ·exact u i (j-1) (by omega) (by omega)
     ·rw[if_neg hj2];exact u i j hij (by omega)
theorem qS(O:Ord f n)(h:1≤n):path f n (kas_sort n):=by
 have r0:Row n (toArray (List.range n)):=⟨by simp⟩;obtain⟨m,p',e,h1,h2,r,u⟩:=mh O r0 h;unfold kas_sort;refine de (oF O r0 h) ?_;rw[e];dsimp only
 by_cases hm:m<n
 ·rw[if_pos hm];have:max m 1=m:=by omega
  rw[this];exact ml O (n-m) p' m r (by omega) u
 ·rw[if_neg hm];exact trivial
theorem vt(O:Ord f n)(h:1≤n):Row n (run f (kas_sort n))∧Up f (run f (kas_sort n)) n:=by
 have r0:Row n (toArray (List.range n)):=⟨by simp⟩;obtain⟨m,p',e,h1,h2,r,u⟩:=mh O r0 h;unfold kas_sort;rw[dI,e];dsimp only
 by_cases hm:m<n
 ·rw[if_pos hm];have:max m 1=m:=by omega
  rw[this];exact sF O (n-m) p' m r (by omega) u
 ·rw[if_neg hm];have:m=n:=by omega
  subst this;exact⟨r,u⟩
end
section
variable{prog:Program}{w:World}{A:Around}{E:Value→Shared→Prop}{s:Shared}
theorem vw{vs:List Value}(h:vs.length<2):((vs.toArray.zip vs.toArray).map (·.2)).toList=(toArray ((toArray (List.range vs.length)).toList.map λi=>vs.getD i Value.none)).toList:=by
 cases vs with
 |nil=>simp
 |cons v r =>
  cases r with
  |nil=>simp
  |cons u r=>exact absurd h (by simp)
theorem gC{f:Nat→Nat→Bool}{a:Addr}{vs:List Value}{n:Nat}{κ:SortKind}{P:PySem.Fin→Shared→Prop}(O:Ord f vs.length)(ho:s.heap.get? a=some (seqObj "list" vs.toArray n))(h64:vs.length<64)(hk:∀s':Shared,(∀b o,b≠a→s.heap.get? b=some o→s'.heap.get? b=some o)→∀Q:SortKind→Shared→Prop,2≤vs.length→Q κ s'→wpAny (model prog w) A (keyKind' vs.toArray) Q (λ_ _=>False) s')(hlt:∀s':Shared,(∀b o,b≠a→s.heap.get? b=some o→s'.heap.get? b=some o)→∀(i j:Nat) (C:Bool→Shared→Prop),i<vs.length→j<vs.length→C (f i j) s'→wpAny (model prog w) A (keyLt' κ (vs.getD i Value.none) (vs.getD j Value.none)) C (λ_ _=>False) s')(h:∀p:Array Nat,Row vs.length p→Up f p vs.length→P (.done (.ret .none)) {s with heap:=sortedHeap s.heap a vs (toArray (p.toList.map λi=>vs.getD i Value.none))}):
  wpAny (model prog w) A (Builtin.«list.sort» ⟨[.ref a],[]⟩) P E s:=by
 have ha:a<s.heap.objs.size:=lt_size ho;have s1:=SameBut.update s.heap a (Obj.mapSeq λ_=>(#[]:Array Value));obtain⟨e1,ho1⟩:∃e1,(s.heap.update a (Obj.mapSeq λ_=>(#[]:Array Value))).get? a=some (seqObj "list" #[] e1):=⟨_,get?_update_seq ho λ_=>#[]⟩;rw[list_sort_plain];refine wpAny_bind (listItems_at ho rfl ?_);refine wpAny_bind (listUpdate_at ho rfl ?_ (by rw[size_toArray,sizeLine_eq];omega) (zero_le _));refine wpAny_bind (seqEpoch_at ho1 rfl ?_);refine wpAny_bind (wpAny_newTuple ?_ (by show vs.length≤_;rw[sizeLine_eq];omega));refine wpAny_bind (wpAny_newList ?_ (zero_le _));refine wpAny_holding ?_;have ho6:(((s.heap.update a (Obj.mapSeq λ_=>(#[]:Array Value))).push (seqObj "tuple" vs.toArray 0)).push (seqObj "list" #[] 0)).get? a=some (seqObj "list" #[] e1):=get?_push_of_some _ (get?_push_of_some _ ho1);have keep:∀b o,b≠a→s.heap.get? b=some o→(((s.heap.update a (Obj.mapSeq λ_=>(#[]:Array Value))).push (seqObj "tuple" vs.toArray 0)).push (seqObj "list" #[] 0)).get? b=some o:=λb o hb e =>
  get?_push_of_some _ (get?_push_of_some _ ((s1.2 b hb).trans e))
 show wpAny (model prog w) A _ P E {s with heap:=((s.heap.update a (Obj.mapSeq λ_=>(#[]:Array Value))).push (seqObj "tuple" vs.toArray 0)).push (seqObj "list" #[] 0)}
 dsimp only
 by_cases hn2:vs.toArray.size<2
 ·rw[if_pos hn2,if_pos hn2];refine wpAny_bind (wpAny_pure ?_);rw[StateT.run_pure];refine wpAny_bind (wpAny_pure ?_);dsimp only;have hn2':vs.length<2:=by simpa using hn2
  have hr:Row vs.length (toArray (List.range vs.length)):=⟨by simp⟩;have hu:Up f (toArray (List.range vs.length)) vs.length:=λi j hij hj=>by omega
  have e2:(arrOf (SortSt.mk' general' (vs.toArray.zip vs.toArray) #[] 7 none)).map (·.2)=toArray ((toArray (List.range vs.length)).toList.map λi=>vs.getD i Value.none):=by
   show(vs.toArray.zip vs.toArray).map (·.2)=_;apply toList_inj.mp;exact vw hn2'
  refine wpAny_bind (seqEpoch_at ho6 rfl ?_);rw[e2];refine wpAny_bind (listUpdate_at ho6 rfl ?_ (zero_le _) (by rw[size_toArray,length_map,length_toList,hr.size,sizeLine_eq];omega));show wpAny _ _ (if (e1 != e1)=true then _ else _) _ _ _
  simp only[bne_self_eq_false,false_eq_true,if_false];exact wpAny_pure (h _ hr hu)
 ·have hn2':2≤vs.length:=by rw[size_toArray]at hn2;omega
  rw[if_neg hn2,if_neg hn2];refine wpAny_bind (wpAny_mono (hk {s with heap:=((s.heap.update a (Obj.mapSeq λ_=>(#[]:Array Value))).push (seqObj "tuple" vs.toArray 0)).push (seqObj "list" #[] 0)} keep (λk' s'=>k'=κ∧s'={s with heap:=((s.heap.update a (Obj.mapSeq λ_=>(#[]:Array Value))).push (seqObj "tuple" vs.toArray 0)).push (seqObj "list" #[] 0)}) hn2' ⟨rfl,rfl⟩) (λκ' s0 hes=>?_) λ_ _ x=>x.elim)
  obtain⟨ek,es⟩:=hes;subst ek es;obtain⟨hrow,hup⟩:=vt O (by omega:1≤vs.length);refine wpAny_bind (wpAny_mono (kat_run (Q:=λst' s'=>∃p:Array Nat,p.size=vs.length∧arrOf st'=p.map (kas_item (vs.toArray.zip vs.toArray))∧failedOf st'=none∧p=run f (kas_sort vs.length)∧s'={s with heap:=((s.heap.update a (Obj.mapSeq λ_=>(#[]:Array Value))).push (seqObj "tuple" vs.toArray 0)).push (seqObj "list" #[] 0)})
   rfl hn2' h64 (λp' st' s' a1 a2 a3 a4=>⟨p',a1,a2,a3,a4⟩) (pO (n:=vs.length) (λi j C hi hj hC=>hlt _ keep i j C hi hj hC) (λp s'=>p=run f (kas_sort vs.length)∧s'={s with heap:=((s.heap.update a (Obj.mapSeq λ_=>(#[]:Array Value))).push (seqObj "tuple" vs.toArray 0)).push (seqObj "list" #[] 0)}) _ (qS O (by omega)) ⟨rfl,rfl⟩)) ?_ λ_ _ e=>e)
  rintro⟨⟨⟩,st'⟩ s' ⟨p,hp,har,hf,ep,es⟩;subst es;dsimp only;have hout:=kat_snds (ks:=vs) rfl har;refine wpAny_bind (seqEpoch_at ho6 rfl ?_);rw[hout];refine wpAny_bind (listUpdate_at ho6 rfl ?_ (zero_le _) (by rw[size_toArray,length_map,length_toList,hp,sizeLine_eq];omega));rw[hf];simp only[bne_self_eq_false,false_eq_true,if_false];rw[ep];exact wpAny_pure (h _ hrow hup)
theorem mm{l:Addr}{vs:List Value}{Q:List Value→Shared→Prop}(hl:IsTup s.heap l vs.toArray)(h:Q vs {s with heap:=(s.heap.push (seqObj "list" #[] 0)).update s.heap.objs.size (Obj.mapSeq (· ++ vs.toArray))})(hsz:vs.length≤sizeLine):
  wpAny (model prog w) A (collect (.ref l)) Q E s:=by
 obtain⟨o,ho,hc,n,hd⟩:=id hl;unfold collect;refine wpAny_bind (wpAny_runValue (codeAny_builtin entry_proto_collect' ?_));show wpAny _ _ (do again (.builtin "list.__iadd__" ⟨[←newList [],.ref l],[]⟩)) _ _ s
 refine wpAny_bind (wpAny_newList (wpAny_pure ⟨Code.quiet_builtin _ (by decide +kernel),codeAny_builtin entry_list_iadd' ?_⟩));show wpAny _ _ (Builtin.List.listExtendWith (.ref s.heap.objs.size) (.ref l) (.ref s.heap.objs.size)) _ _ {s with heap:=s.heap.push (seqObj "list" #[] 0)}
 unfold Builtin.List.listExtendWith;have ho':(s.heap.push (seqObj "list" #[] 0)).get? l=some o:=get?_push_of_some _ ho;refine wpAny_bind (wpAny_typeOf (T:="tuple") ⟨o,ho',hc⟩ ?_);have ht:(Value.type "tuple"==Value.type "tuple")=true:=by rfl
 rw[if_pos (by rw[ht];simp)];refine wpAny_bind (listItems_at ho' hd ?_);refine wpAny_bind (listItems_at (xs:=#[]) (n:=0) (get?_push_size _ rfl) rfl ?_);rw[if_neg (by simp)];refine wpAny_bind (listUpdate_at (xs:=#[]) (n:=0) (get?_push_size _ rfl) rfl ?_ (zero_le _) (by show(#[]++vs.toArray).size≤sizeLine+1;simp only[Array.size_append,size_toArray,length_nil];omega));refine wpAny_pure ?_;show wpAny (model prog w) A (do
   let o ← load s.heap.objs.size
   match o.data with
   |.seq xs _=>pure xs.toList
   | _=>unsupported "internal:collect") Q E {s with heap:=(s.heap.push (seqObj "list" #[] 0)).update s.heap.objs.size (Obj.mapSeq (· ++ vs.toArray))}
 refine wpAny_bind (wpAny_load (get?_update_seq (get?_push_size _ rfl) _) ?_);show wpAny _ _ (pure ((#[]:Array Value)++vs.toArray).toList) Q E _;rw[show((#[]:Array Value)++vs.toArray).toList=vs by simp];exact wpAny_pure h
theorem mn{l:Addr}{vs:List Value}{Q:List Value→Shared→Prop}(hl:s.heap.IsList l vs.toArray∨IsTup s.heap l vs.toArray)(h:Q vs {s with heap:=(s.heap.push (seqObj "list" #[] 0)).update s.heap.objs.size (Obj.mapSeq (· ++ vs.toArray))})(hsz:vs.length≤sizeLine):
  wpAny (model prog w) A (collect (.ref l)) Q E s:=by
 rcases hl with hl|hl
 ·exact collect_list hl h hsz
 ·exact mm hl h hsz
theorem jh{f:Nat→Nat→Bool}{l:Addr}{vs:List Value}{κ:SortKind}{Q:Value→Shared→Prop}(O:Ord f vs.length)(hl:s.heap.IsList l vs.toArray∨IsTup s.heap l vs.toArray)(h64:vs.length<64)(hk:∀(A':Around) (s':Shared),A'.units≤A.units+2→(∀b o,s.heap.get? b=some o→s'.heap.get? b=some o)→∀Q:SortKind→Shared→Prop,2≤vs.length→Q κ s'→wpAny (model prog w) A' (keyKind' vs.toArray) Q (λ_ _=>False) s')(hlt:∀(A':Around) (s':Shared),A'.units≤A.units+2→(∀b o,s.heap.get? b=some o→s'.heap.get? b=some o)→∀(i j:Nat) (C:Bool→Shared→Prop),i<vs.length→j<vs.length→C (f i j) s'→wpAny (model prog w) A' (keyLt' κ (vs.getD i Value.none) (vs.getD j Value.none)) C (λ_ _=>False) s')(h:∀(p:Array Nat) (h':Heap),Row vs.length p→Up f p vs.length→(∀b o,s.heap.get? b=some o→h'.get? b=some o)→s.heap.objs.size≤s.heap.objs.size+1→(∃k,h'.get? (s.heap.objs.size+1)=some (seqObj "list" (toArray (p.toList.map λi=>vs.getD i Value.none)) k))→Q (.ref (s.heap.objs.size+1)) {s with heap:=h'}):
  wpAny (model prog w) A (call (.builtin "sorted") [.ref l]) Q E s:=by
 refine Calls.call_function_entry kind_sorted plain_sorted entry_sorted (args_sorted1 _) ?_;unfold Builtin.«sorted»;refine wpAny_bind (m:=checkCount "sorted" 1 1 _) (wpAny_pure ?_);refine wpAny_bind (mn hl ?_ (by rw[sizeLine_eq];omega));refine wpAny_bind (wpAny_newList ?_ (by rw[sizeLine_eq];omega));have hsz:((s.heap.push (seqObj "list" #[] 0)).update s.heap.objs.size (Obj.mapSeq (· ++ vs.toArray))).objs.size=s.heap.objs.size+1:=by
  rw[Heap.size_update,size_push']
 have hoL:(((s.heap.push (seqObj "list" #[] 0)).update s.heap.objs.size (Obj.mapSeq (· ++ vs.toArray))).push (seqObj "list" vs.toArray 0)).get? (s.heap.objs.size+1)=some (seqObj "list" vs.toArray 0):=by
  rw[←hsz];exact get?_push_size _ rfl
 have keep:∀b o,s.heap.get? b=some o→(((s.heap.push (seqObj "list" #[] 0)).update s.heap.objs.size (Obj.mapSeq (· ++ vs.toArray))).push (seqObj "list" vs.toArray 0)).get? b=some o:=λb o q=>by
  have hlt:b<s.heap.objs.size:=lt_size q;rw[Heap.get?_push_ne _ _ _ (by rw[hsz];exact ne_of_lt (lt_succ_of_lt hlt)),get?_update_ne _ _ _ _ (ne_of_lt hlt),Heap.get?_push_ne _ _ _ (ne_of_lt hlt)];exact q
 have neD:∀b o,s.heap.get? b=some o→b≠s.heap.objs.size+1:=λb o q=>ne_of_lt (lt_succ_of_lt (lt_size q));show wpAny _ _ _ _ _ {s with heap:=((s.heap.push (seqObj "list" #[] 0)).update s.heap.objs.size (Obj.mapSeq (· ++ vs.toArray))).push (seqObj "list" vs.toArray 0)}
 rw[hsz];refine wpAny_bind (wpAny_holding (wpAny_call_entry slot_list_sort ⟨_,hoL,rfl⟩ entry_list_sort (gC (κ:=κ) (s:={s with heap:=((s.heap.push (seqObj "list" #[] 0)).update s.heap.objs.size (Obj.mapSeq (· ++ vs.toArray))).push (seqObj "list" vs.toArray 0)}) O hoL h64 ?_ ?_ λp hr hu=>⟨_,rfl,?_⟩) (args_list_sort _)))
 ·intro s' hs' Q' h2 hq;exact hk _ s' (by simp[Around.in1_units]) (λb o e=>hs' b o (neD b o e) (keep b o e)) Q' h2 hq
 ·intro s' hs' i j C hi hj hC;exact hlt _ s' (by simp[Around.in1_units]) (λb o e=>hs' b o (neD b o e) (keep b o e)) i j C hi hj hC
 ·refine wpAny_pure ⟨_,rfl,h p _ hr hu (λb o e=>?_) (le_succ _) ?_⟩
  ·unfold sortedHeap;rw[get?_update_ne _ _ _ _ (neD b o e)];refine get?_push_of_some _ (get?_push_of_some _ ?_);rw[get?_update_ne _ _ _ _ (neD b o e)];exact keep b o e
  ·unfold sortedHeap;obtain⟨e1,ho1⟩:∃e1,((((s.heap.push (seqObj "list" #[] 0)).update s.heap.objs.size (Obj.mapSeq (· ++ vs.toArray))).push (seqObj "list" vs.toArray 0)).update (s.heap.objs.size+1) (Obj.mapSeq λ_=>(#[]:Array Value))).get? (s.heap.objs.size+1)=some (seqObj "list" #[] e1):=⟨_,get?_update_seq hoL λ_=>#[]⟩;exact⟨_,get?_update_seq (get?_push_of_some _ (get?_push_of_some _ ho1)) _⟩
theorem qT{f:Nat→Nat→Bool}{l:Addr}{vs:List Value}{κ:SortKind}{Q:Value→Shared→Prop}(O:Ord f vs.length)(hl:s.heap.IsList l vs.toArray)(h64:vs.length<64)(hk:∀(A':Around) (s':Shared),A'.units≤A.units+2→(∀b o,s.heap.get? b=some o→s'.heap.get? b=some o)→∀Q:SortKind→Shared→Prop,2≤vs.length→Q κ s'→wpAny (model prog w) A' (keyKind' vs.toArray) Q (λ_ _=>False) s')(hlt:∀(A':Around) (s':Shared),A'.units≤A.units+2→(∀b o,s.heap.get? b=some o→s'.heap.get? b=some o)→∀(i j:Nat) (C:Bool→Shared→Prop),i<vs.length→j<vs.length→C (f i j) s'→wpAny (model prog w) A' (keyLt' κ (vs.getD i Value.none) (vs.getD j Value.none)) C (λ_ _=>False) s')(h:∀(p:Array Nat) (h':Heap),Row vs.length p→Up f p vs.length→(∀b o,s.heap.get? b=some o→h'.get? b=some o)→s.heap.objs.size≤s.heap.objs.size+1→(∃k,h'.get? (s.heap.objs.size+1)=some (seqObj "list" (toArray (p.toList.map λi=>vs.getD i Value.none)) k))→Q (.ref (s.heap.objs.size+1)) {s with heap:=h'}):
  wpAny (model prog w) A (call (.builtin "sorted") [.ref l]) Q E s:=jh O (.inl hl) h64 hk hlt h
end
end SRT
namespace L2
open PySem PySem.Spec PyProof.Rows
section
variable{X:Cx}{tg:Expr}
theorem iL:∀{bs:List Bool}{us:List Value},aw (bs.map V.bl) us→us=bs.map Value.bool
 |[],_,.nil=>rfl
 |b::bs,_,.cons r t=>by
  have e:_=Value.bool b:=r;rw[e,iL t];rfl
theorem sG(hc:X.calm=true):cK X (.builtin "all") (λxs H Q=>∃a,∃bs:List Bool,xs=[.ref a]∧SqL X.K H a (bs.map V.bl)∧Q (.bl (bs.all id)) H):=by
 intro pins s σ H xs us Q I r h;obtain⟨a,bs,rfl,hq,q⟩:=h;obtain⟨u,rfl,ru⟩:=dE r;cases ru;obtain⟨its,rv,pl,hz⟩:=I.list hq;have e:=iL rv;subst e;refine call_all_walk (wpAny_pyIter_list pl.isList ?_);have hlt:a<s.heap.objs.size:=by obtain⟨o,e,_⟩:=pl.isList;exact lt_size e
 have hne:a≠s.heap.objs.size:=ne_of_lt hlt;refine⟨s.heap.objs.size,_,_,_,_,_,λi=>bs.getD i false,rfl,Walks.list (by simp[I.ok.hd hc]) s.heap.objs.size a hne (bs.map Value.bool).toArray,⟨⟨_,get?_push_size _ rfl,rfl,rfl⟩,pl.isList.push _⟩,?_,?_⟩
 ·intro i v s' Q' E' hP hQ;have hP':(bs.map Value.bool)[i]?=some v:=by simpa using hP
  rw[getElem?_map]at hP';cases eb:bs[i]? with
  |none=>rw[eb]at hP';cases hP'
  |some b =>
   rw[eb]at hP';have ev:Value.bool b=v:=Option.some.inj hP';subst ev;refine wpAny_truthy_bool ?_;have hQ':Q' (bs.getD i false) s':=hQ;rw[getD_eq_getElem?_getD,eb]at hQ';exact hQ'
 ·intro h' tk hk;refine⟨.bl (bs.all id),H,I.kept (t':=tk) (λb o e=>hk b o (by simp only[mem_singleton];exact ne_of_lt (lt_size e)) (get?_push_of_some _ e)),?_,q⟩;have e1:((List.range (bs.map Value.bool).toArray.size).all λi=>bs.getD i false)=bs.all id:=by
   rw[size_toArray,length_map];rw[Bool.eq_iff_iff,all_eq_true,all_eq_true];constructor
   ·intro hh x hx;obtain⟨i,hi,e⟩:=mem_iff_getElem.mp hx;have:=hh i (mem_range.mpr hi);rw[getD_eq_getElem?_getD,getElem?_eq_getElem hi,e]at this;exact this
   ·intro hh i hi;have hi':=mem_range.mp hi;rw[getD_eq_getElem?_getD,getElem?_eq_getElem hi'];exact hh _ (getElem_mem hi')
  show _=Value.bool _;rw[e1]
theorem iy:cK X (.builtin "isinstance") (λxs H Q=>∃x n t b,xs=[x,.ty n]∧TyOf X.K H x t∧kitOne X.K t (.type n)=some b∧Q (.bl b) H):=by
 intro pins s σ H xs us Q I r h;obtain⟨x,n,t,b,rfl,ty,e,q⟩:=h;obtain⟨u,u',rfl,ru,ru'⟩:=wO r;cases (show u'=Value.type n from ru');exact qH I ru ty e λtk=>⟨.bl b,H,I.tok tk,rfl,q⟩
def Its(x:Str):It:=⟨λi _=>i<x.cps.size,λi H v H'=>H'=H∧∃c,x.cps[i]?=some c∧v=.str ⟨#[c]⟩,λi _=>x.cps.size≤i⟩
theorem sH{P:Program}{w:World}{K:PySem.W.Frag}(x:Str)(t:Tok)(it:Addr):Turn P w K tg (Its x) [it] it (λi h=>h.IsStrIter it (strIterType x) x t i) where
 mem:=by simp
 obj:=λi h st b hb=>by
  have e:b=it:=by simpa using hb
  subst e;obtain⟨o,e,c,d⟩:=st;exact⟨o,e,λv z=>by rw[d]at z;cases z⟩
 keep:=λi h h' st k=>by
  obtain⟨o,e,r⟩:=st;exact⟨o,k it (by simp) o e,r⟩
 item:=by
  intro X hP hw hK hc i pins s σ H E I hf st hg;subst hP hw hK;obtain⟨f0,f1,f2,f3,f4,f5⟩:=hf it (by simp);have hg':i<x.cps.size:=hg;have fin:∀(h':Heap)(tk:Nat),h'.IsStrIter it (strIterType x) x t (i+1)→SameBut it s.heap h'→∃u',some (Value.str ⟨#[x.cps[i]]⟩ s.toks)=some u'∧wpAny (model X.prog X.w) X.A (letOwnedTupleGo tg (.ref it) u') (λ_ s2=>∃y H',Inv X pins σ H' s2∧aA y u'∧(Its x).yld i H y H'∧s2.heap.IsStrIter it (strIterType x) x t (i+1)∧∀b∈[it],H' b=none) E {s with heap:=h',toks:=tk}:=λh' tk st' sb=>by
   have I1:Inv X pins σ H {s with heap:=h',toks:=tk}:=I.turned (t':=tk) (λb o hb e=>(sb.2 b hb).trans e) f0 f1 f3 f4 f5
   obtain⟨o,e,c,d⟩:=id st';refine⟨_,rfl,py (s:={s with heap:=h',toks:=tk}) e c d ?_ ⟨.str ⟨#[x.cps[i]]⟩,H,I1,⟨_,rfl⟩,⟨rfl,x.cps[i],by simp[hg'],rfl⟩,st',λb hb=>(hf b hb).1⟩⟩;unfold strIterType
   split<;>decide
  cases ha:x.cps.all (· < 128)with
  |true =>
   have et:strIterType x="str_ascii_iterator":=by simp[strIterType,ha]
   rw[et]at st fin⊢;exact wpAny_pyNext_ascii_item st (c:=x.cps[i]) (by simp[hg']) λh' st' sb=>fin h' _ st' sb
  |false =>
   have et:strIterType x="str_iterator":=by simp[strIterType,ha]
   rw[et]at st fin⊢;exact wpAny_pyNext_wide_item st (c:=x.cps[i]) (by simp[hg']) λh' st' sb=>fin h' _ st' sb
 done:=by
  intro X hP hw hK hc i pins s σ H E I hf st hg;subst hP hw hK;obtain⟨f0,f1,f2,f3,f4,f5⟩:=hf it (by simp);have hg':x.cps.size≤i:=hg;cases ha:x.cps.all (· < 128)with
  |true =>
   have et:strIterType x="str_ascii_iterator":=by simp[strIterType,ha]
   rw[et]at st;exact wpAny_pyNext_ascii_end (I.ok.hd hc) st (by simp[hg']) λh' eb=>⟨rfl,I.turned (t':=s.toks) (λb o hb e=>eb b o hb e) f0 f1 f3 f4 f5⟩
  |false =>
   have et:strIterType x="str_iterator":=by simp[strIterType,ha]
   rw[et]at st;exact wpAny_pyNext_wide_end (I.ok.hd hc) st (by simp[hg']) λh' eb=>⟨rfl,I.turned (t':=s.toks) (λb o hb e=>eb b o hb e) f0 f1 f3 f4 f5⟩
 self:=λA i s Q E st h=>by
  cases ha:x.cps.all (· < 128)with
  |true =>
   have et:strIterType x="str_ascii_iterator":=by simp[strIterType,ha]
   rw[et]at st;exact wpAny_pyIter_striter_ascii st h
  |false =>
   have et:strIterType x="str_iterator":=by simp[strIterType,ha]
   rw[et]at st;exact wpAny_pyIter_striter_wide st h
def Aq(tl:TE):TI:=λσ H R=>tl σ H λv H1=>∃x,v=.str x∧R (Its x) H1
theorem xL{l:Expr}{tl:TE}(hl:PE X l tl):PI X tg l (Aq tl):=by
 intro pins s σ H R I h;refine thn (hl pins s σ H _ I h) λv s1 hpt=>?_;obtain⟨y,H1,I1,r1,q1⟩:=hpt;obtain⟨x,e,q⟩:=q1;subst e;obtain⟨t,rfl⟩:=r1;refine wpAny_pyIter_strU ?_;refine⟨s1.heap.objs.size,[s1.heap.objs.size],_,_,H1,rfl,I1.kept (t':=s1.toks) λb o e=>get?_push_of_some _ e,sH x t _,⟨_,get?_push_size _ rfl,rfl,rfl⟩,λb hb=>?_,q⟩;have e:b=s1.heap.objs.size:=by simpa using hb
 subst e;exact I1.fpOk (le_refl _) (I1.hok.fresh (le_refl _))
theorem ig:∀{as:List Addr}{us:List Value},aw (as.map V.ref) us→us=as.map Value.ref
 |[],_,.nil=>rfl
 |b::bs,_,.cons r t=>by
  have e:_=Value.ref b:=r;rw[e,ig t];rfl
def vx:V→List V→Hp→VK→Prop:=λx vs H Q=>∃d kvs k y,x=.ref d∧vs=[kV k,y]∧H d=some (.dK kvs)∧kvs.length<sizeLine∧(∀v,aZ kvs k=some v→Q v H)∧(aZ kvs k=none→Q y (upd H d (.dK (cP kvs k y))))
theorem jM:MtM X "dict.setdefault" vx:=by
 intro pins s σ H x vs v us Q I rx rv h;obtain⟨d,kvs,k,y,rfl,rfl,hd,hz,q1,q2⟩:=h;cases rx;obtain⟨u,u',rfl,ru,ru'⟩:=rv.two;obtain⟨z,hs,ws,rel,dd⟩:=pG I.hok hd;have hzw:ws.length≤sizeLine:=by rw[←rel.length];exact z
 refine call_meetsIn F.slot_dict_setdefault dd.typeIs F.entry_dict_setdefault (F.args_dict_setdefault_3 _ _ _) (kt_meets_setdefault (aG X.prog X.w) d (fk ru) hs u') ⟨ws,dd,hzw,λw' hw=>?_,λhw h' dd' sb=>?_⟩
 ·have:=rel.val k;rw[hw]at this;cases e:aZ kvs k with
  |none=>rw[e]at this;cases this
  |some v =>
   rw[e]at this;exact⟨v,H,I.tok _,this,q1 v e⟩
 ·have:=rel.val k;rw[hw]at this;cases e:aZ kvs k with
  |some v=>rw[e]at this;cases this
  |none =>
   have he:∃q,h'.get? d=some q:=let⟨q,_,_,hq,_⟩:=dd';⟨q,hq⟩;have hl:(cP kvs k y).length≤sizeLine:=by have:=dt kvs k y;omega
   exact⟨y,_,iJ I (by rw[hd];exact True.intro) sb he (ja hl hs (rel.put k ru') dd'),ru',q2 e⟩
theorem sI:OpR X (binaryOp .Add) (λx y H Q=>∃a b ys,x=.ref a∧y=.ref b∧SqT X.K H a []∧SqT X.K H b ys∧Q (.ref b) H):=by
 intro pins s σ H x y v u Q I rx ry h;obtain⟨a,b,ys,rfl,rfl,ha,hb,q⟩:=h;cases rx;cases ry;obtain⟨its,r1,ht,_⟩:=I.tuple ha;obtain⟨its2,r2,hb',_⟩:=I.tuple hb;cases r1;obtain⟨⟨cls,dd,data,sl⟩,ho,hc,n,hd⟩:=id ht;obtain⟨⟨cls2,dd2,data2,sl2⟩,ho2,hc2,n2,hd2⟩:=id hb';simp only at hc hd hc2 hd2;subst hc hd hc2 hd2;exact concat_meets ⟨_,ho,rfl⟩ ⟨_,ho2,rfl⟩ noFill_tuple_add seq_tuple_add slot_tuple_add entry_tuple_add (args_tuple_add_2 _ _)
  (tuple_addW0 a b _ its2.toArray n n2 dd dd2 sl sl2 (by rfl)) ⟨ho,ho2,⟨.ref b,H,I,rfl,q⟩⟩
theorem oG(hu:X.A.units<cLine):OpR X (compareOp .Eq) (λx y H Q=>∃a b xs,x=.ref a∧y=.ref b∧SqL X.K H a xs∧SqL X.K H b []∧Q (.bl (decide (xs=[]))) H):=by
 intro pins s σ H x y v u Q I rx ry h;obtain⟨a,b,xs,rfl,rfl,ha,hb,q⟩:=h;cases rx;cases ry;obtain⟨its,r1,ht,_⟩:=I.list ha;obtain⟨its2,r2,hb',_⟩:=I.list hb;cases r2
 by_cases e:xs=[]
 ·subst e;cases r1;refine eq_listAt (e:=λ_=>true) ht.isList hb'.isList rfl hu (λj h1 h2=>absurd h2 (by simp)) ⟨.bl _,H,I,?_,q⟩;rfl
 ·have e2:its≠[]:=λz=>e (r1.nil_iff.mp z);have e3:its.length≠0:=λz=>e2 (length_eq_zero_iff.mp z);refine SeqAt.eq_list_lengthsAt ht.isList hb'.isList (by simp[e3]) hu ⟨.bl _,H,I,?_,q⟩;show _=Value.bool _;simp[e]
end
end L2
namespace ZT
open PySem PySem.SeqAt
section
variable{prog:Program}{w:World}{A:Around}{E:Value→Shared→Prop}{s:Shared}
end
end ZT
namespace L2
open PySem PySem.Spec PyProof.Rows
section
variable{X:Cx}{tg:Expr}
abbrev iG:=Addr×Int×List V
def numAt(zs:List iG)(i:Nat):Int:=(zs.getD i (0,0,[])).2.1
theorem sJ{zs:List iG}(h:(zs.map (·.2.1)).Nodup):SRT.Ord (λi j=>decide (numAt zs i<numAt zs j)) zs.length:=by
 refine⟨λi _=>by simp,λi j k _ _ _ h1 h2=>?_,λi j hi hj hij=>?_⟩
 ·simp only[decide_eq_true_eq]at *;omega
 ·simp only[decide_eq_true_eq];have:numAt zs i≠numAt zs j:=by
   unfold numAt;rw[getD_eq_getElem?_getD,getD_eq_getElem?_getD,getElem?_eq_getElem hi,getElem?_eq_getElem hj];intro e;have e':(zs.map (·.2.1))[i]'(by simpa using hi)=(zs.map (·.2.1))[j]'(by simpa using hj):=by simpa using e
   exact hij ((getElem_inj h).mp e')
  omega
theorem mq{prog:Program}{w:World}{A:Around}{s:Shared}{b:Bool}{Q:Bool→Shared→Prop}(h:Q false s):∀(l:List Value)(i:Nat),PySem.W.KatLex prog w A b false Q (l.zip l) i s
 |[],i=>h
 |v::l,i=>kat_cons (EqAt.same v prog w _ _ (PySem.W.kat_yes (mq h l (i+1))))
theorem gE:cK X (.builtin "sorted") (λxs H Q=>∃l,∃zs:List iG,xs=[.ref l]∧(SqL X.K H l ((zs.map (·.1)).map V.ref)∨SqT X.K H l ((zs.map (·.1)).map V.ref))∧(∀z∈zs,H z.1=some (.tup (.int z.2.1::z.2.2)))∧(zs.map (·.2.1)).Nodup∧zs.length<64 ∧
  ∀zs':List iG,zs'.Perm zs→zs'.Pairwise (λa b=>a.2.1<b.2.1)→∀p,H p=none→Q (.ref p) (upd H p (.lst ((zs'.map (·.1)).map V.ref)))):=by
 intro pins s σ H xs us Q I r h;obtain⟨l,zs,rfl,hq,hk,hnd,h64,q⟩:=h;obtain⟨u,rfl,ru⟩:=dE r;cases ru;obtain⟨its,rv,pl⟩:∃its,aw ((zs.map (·.1)).map V.ref) its∧(s.heap.IsList l its.toArray∨IsTup s.heap l its.toArray):=by
  rcases hq with hq|hq
  ·obtain⟨its,rv,pl,hz⟩:=I.list hq;exact⟨its,rv,.inl pl.isList⟩
  ·obtain⟨its,rv,pl,hz⟩:=I.tuple hq;exact⟨its,rv,.inr pl⟩
 have e:=ig rv;subst e;have hlen:((zs.map (·.1)).map Value.ref).length=zs.length:=by simp
 have hobj:∀z∈zs,∃o its n t,s.heap.get? z.1=some o∧o.cls=.type "tuple"∧o.data=.seq its n∧its.toList=.int z.2.1 t::its.toList.drop 1:=λz hz'=>by
  obtain⟨_,its,rr,o,e1,e2,n,e3⟩:=I.hok z.1 _ (hk z hz');cases rr with
  |cons r1 r2 =>
   obtain⟨t,rfl⟩:=r1;exact⟨o,_,n,t,e1,e2,e3,by simp⟩
 have hget:∀i,i<zs.length→((zs.map (·.1)).map Value.ref).getD i Value.none=.ref (zs.getD i (0,0,[])).1∧zs.getD i (0,0,[])∈zs:=λi hi=>by
  rw[getD_eq_getElem?_getD,getD_eq_getElem?_getD,getElem?_map,getElem?_map,getElem?_eq_getElem hi];exact⟨rfl,getElem_mem hi⟩
 refine SRT.jh (κ:=tuples' true) (f:=λi j=>decide (numAt zs i<numAt zs j)) (by rw[hlen];exact sJ hnd) pl (by rw[hlen];exact h64) ?kind ?less ?fin
 case kind =>
  intro A' s' _ kp Q' h2 hQ';have key:∀ys:List iG,(∀z∈ys,z∈zs)→∃fs:List Value,KatTups s'.heap ((ys.map (·.1)).map Value.ref) fs∧fs.length=ys.length∧∀v∈fs,∃i t,v=Value.int i t:=by
   intro ys
   induction ys with
   |nil=>intro _;exact⟨[],KatTups.nil,rfl,λv hv=>by simp at hv⟩
   |cons z ys ih =>
    intro hm;obtain⟨fs,h1,h2',h3⟩:=ih λy hy=>hm y (by simp[hy]);obtain⟨o,its,n,t,e1,e2,e3,e4⟩:=hobj z (hm z (by simp));refine⟨.int z.2.1 t::fs,KatTups.cons (kp _ _ e1) e2 e3 ?_ h1,by simp[h2'],λv hv=>?_⟩
    ·rw[←getElem?_toList,e4];rfl
    ·rcases mem_cons.mp hv with rfl|hv
     ·exact⟨_,_,rfl⟩
     ·exact h3 v hv
  obtain⟨fs,h1,h2',h3⟩:=key zs λz hz'=>hz';refine PySem.W.kat_kind (T:=.type "int") h1 (by rw[h2'];rw[hlen]at h2;omega) (λv hv=>?_) (by rfl) hQ';obtain⟨i,t,rfl⟩:=h3 v hv;exact .now
 case less =>
  intro A' s' _ kp i j C hi hj hC;rw[hlen]at hi hj;obtain⟨gi,mi⟩:=hget i hi;obtain⟨gj,mj⟩:=hget j hj;rw[gi,gj];obtain⟨oi,ii,ni,ti,a1,a2,a3,a4⟩:=hobj _ mi;obtain⟨oj,ij,nj,tj,b1,b2,b3,b4⟩:=hobj _ mj;refine PySem.W.kat_lt (kp _ _ a1) a3 (kp _ _ b1) b3 ?_
  by_cases hij:i=j
  ·subst hij;rw[a1]at b1;cases b1;rw[a3]at b3;cases b3;have:C false s':=by simpa using hC
   have e2:decide (ii.size<ii.size)=false:=by simp
   rw[e2];exact mq this _ _
  ·have hne:numAt zs i≠numAt zs j:=by
    rcases (sJ hnd).tot i j hi hj hij with h1|h1<;>simp only[decide_eq_true_eq]at h1<;>omega
   rw[a4,b4];refine kat_cons (wpAny_eqBool_int ?_);have e2:((zs.getD i (0,0,[])).2.1==(zs.getD j (0,0,[])).2.1)=false:=beq_eq_false_iff_ne.mpr hne;rw[e2];refine PySem.W.kat_no ?_;exact kat_lt_int hC
 case fin =>
  intro p h' hrow hup kp _ hg;obtain⟨c,hg⟩:=hg;rw[hlen]at hrow hup;obtain⟨zs',hzs'⟩:∃zs',zs'=p.toList.map λi=>zs.getD i (0,0,[]):=⟨_,rfl⟩;have hperm:zs'.Perm zs:=by
   rw[hzs'];refine(hrow.perm.map _).trans ?_;have:(List.range zs.length).map (λi=>zs.getD i (0,0,[]))=zs:=by
    apply ext_getElem?;intro i;rw[getElem?_map]
    by_cases hi:i<zs.length
    ·rw[getElem?_range hi,getElem?_eq_getElem hi];show some (zs.getD i (0,0,[]))=_;rw[getD_eq_getElem?_getD,getElem?_eq_getElem hi];rfl
    ·rw[getElem?_eq_none (by rw[length_range];omega),getElem?_eq_none (by omega)];rfl
   rw[this]
  have hpl:p.size=zs.length:=hrow.size;have hpw:zs'.Pairwise (λa b=>a.2.1<b.2.1):=by
   rw[pairwise_iff_getElem];intro i j hi hj hij;have hi':i<p.size:=by rw[hzs',length_map,length_toList]at hi;exact hi
   have hj':j<p.size:=by rw[hzs',length_map,length_toList]at hj;exact hj
   have:=hup i j hij (by omega);simp only[decide_eq_true_eq,numAt]at this;rw[getD_eq_getD_getElem?,getD_eq_getD_getElem?,Array.getElem?_eq_getElem hi',Array.getElem?_eq_getElem hj']at this;simpa [hzs']using this
  have hout:(toArray (p.toList.map λi=>((zs.map (·.1)).map Value.ref).getD i Value.none))=((zs'.map (·.1)).map Value.ref).toArray:=by
   congr 1
   rw[hzs'];simp only[map_map];apply map_congr_left;intro i hi;have hi':i<zs.length:=mem_range.mp (hrow.perm.mem_iff.mp hi);have:=(hget i hi').1;simp only[map_map]at this;exact this
  rw[hout]at hg;have hv:aw ((zs'.map (·.1)).map V.ref) ((zs'.map (·.1)).map Value.ref):=by
   generalize zs'.map (·.1)=as
   induction as with
   |nil=>exact .nil
   |cons a as ih=>exact .cons rfl ih
  refine⟨.ref (s.heap.objs.size+1),_,I.laid (t':=s.toks) (o:=.lst ((zs'.map (·.1)).map V.ref)) kp (le_succ _) ⟨?_,_,c,hv,hg⟩,rfl,q zs' hperm hpw _ (I.hok.fresh (le_succ _))⟩;rw[length_map,length_map,hperm.length_eq,sizeLine_eq];omega
end
theorem lm{scope:Scope}{env:Env}(h:∀y∈scope.names,y.2≠.free):relabel scope env=scope:=by
 unfold relabel;rw[map_eq_self (l:=scope.names) (λx hx=>by
  obtain⟨n,k⟩:=x;have:(k==NameKind.free)=false:=by simpa using h _ hx
  simp[this])]
theorem ji{X:Cx}{scope:Scope}(hk:scope.kind=.function)(hf:∀y∈scope.names,y.2≠.free)(hc:∀y∈scope.names,y.2≠.cell)(hn:∀x∈scope.names,x.2=.local→scope.names.lookup x.1=some .local):LcOk X scope [] :=
 ⟨hk,closureFor_none hf,hn,hc,λx c h=>by simp at h,λx h=>by
  rw[lm hf]at h;rcases h with h|h
  ·exact absurd rfl (hc _ (PySem.mem_of_lookup h))
  ·exact absurd rfl (hf _ (PySem.mem_of_lookup h))⟩
theorem wR{k:Nat}{js:List Nat}{J:It}{g:TG}{te:TE}{σ:St}{H1:Hp}{Q:VK}{p:Addr}(n:Nat)(hn:n≤1000)(Pv:Nat→List V→St→Hp→Prop)(h0:Pv 0 [] (cZ k js σ) (upd H1 p (.lst [])))(hy:∀i ys σ' H',Pv i ys σ' H'→ys.length≤i)(go:∀i ys σ' H',i<n→Pv i ys σ' H'→J.go i H')(stop:∀ys σ' H',Pv n ys σ' H'→J.stop n H'∧Q (.ref p) H')(step:∀i ys σ' H',i<n→Pv i ys σ' H'→∀x H2,J.yld i H' x H2→g x σ' H2 λσ2 H3=>te σ2 H3 λy H4=>H4 p=some (.lst ys)∧Pv (i+1) (ys++[y]) σ2 (upd H4 p (.lst (ys++[y]))))(mg:∀x σ H (Q Q':St→Hp→Prop),(∀σ H,Q σ H→Q' σ H)→g x σ H Q→g x σ H Q')(me:∀σ H (Q Q':VK),(∀y H,Q y H→Q' y H)→te σ H Q→te σ H Q'):
  LcW k js g te σ Q J H1 p:=by
 refine⟨λi m ys σ' H'=>m=n-i∧i≤n∧Pv i ys σ' H',⟨n,by simp,zero_le _,h0⟩,?_⟩;rintro i m ys σ' H' ⟨rfl,hi,hp⟩
 by_cases hlt:i<n
 ·refine .inr ⟨go i ys σ' H' hlt hp,?_,λx H2 y=>?_⟩
  ·have:=hy i ys σ' H' hp;exact lt_of_le_of_lt this (ao (by omega))
  ·refine mg _ _ _ _ _ (λσ2 H3 h3=>me _ _ _ _ (λz H4 h4=>⟨h4.1,n-(i+1),by omega,rfl,hlt,h4.2⟩) h3) (step i ys σ' H' hlt hp x H2 y)
 ·have e:i=n:=by omega
  subst e;exact .inl (stop ys σ' H' hp)
theorem af{H:Hp}{p:Addr}{o:HO}(h:H p=none):Same H (upd H p o):=λb u e=>by rw[ai (av e h)];exact e
theorem bh{H:Hp}{p a:Addr}{o u:HO}(h:H p=none)(e:H a=some u):upd H p o a=some u:=by rw[ai (av e h)];exact e
theorem bq{H0 H:Hp}{p:Addr}{o:HO}(h0:H0 p=none)(s:Same H0 H):Same H0 (upd H p o):=λb u e=>by
 rw[ai (av e h0)];exact s b u e
structure Fly(P:Program)(w:World)(outer:List Env)(H:Hp)(s:Shared)(H':Hp)(ea C:Addr)(s':Shared):Prop where
 os:s'.os=s.os
 bare:AllBare s'.gens
 un:Un (frs outer) [] H H' s.heap s'.heap
 new:H' ea=none
 fly:∃B a0,FlyingW B outer ea (.ref C) a0 s'.heap∧HOk P w H' B∧(∀b o,s.heap.get? b=some o→H b=none→b∉frs outer→B.get? b=some o) ∧
  ∀b o,s.heap.get? b=some o→b∉frs outer→∃o',B.get? b=some o'
def CX1(P:Program)(w:World):CXT:=λouter H s E e s'=>∃ea C H',e=.ref ea∧Fly P w outer H s H' ea C s'∧E (.ref C) none H'
theorem bf.ex{P:Program}{w:World}{H:Hp}{h:Heap}{a:Addr}{o:HO}(x:bf P w H h a o):∃ob,h.get? a=some ob:=by
 cases o with
 |lst xs=>obtain⟨_,_,_,_,e⟩:=x;exact⟨_,e⟩
 |tup xs=>obtain⟨_,_,_,ob,e,_⟩:=x;exact⟨ob,e⟩
 |dK kvs=>obtain⟨_,_,_,_,o,_,_,e,_⟩:=x;exact⟨_,e⟩
 |dT kvs=>obtain⟨_,_,_,_,o,_,_,e,_⟩:=x;exact⟨_,e⟩
 |set S n=>obtain⟨o,_,_,_,e,_⟩:=x;exact⟨_,e⟩
 |ins C dx fs=>obtain⟨_,_,_,e,_⟩:=x;exact⟨_,e⟩
 |own y=>obtain⟨_,e⟩:=x;exact⟨_,e⟩
 |xd fs=>obtain⟨_,⟨_,_,_,e,_⟩,_⟩:=x;exact⟨_,e⟩
 |rng lo hi=>obtain⟨_,_,_,e⟩:=x;exact⟨_,e⟩
 |frz ob u=>obtain⟨e,_⟩:=x;exact⟨_,e⟩
 |tbl ps=>exact⟨_,(show h.get? a=some _ from x)⟩
 |met f y=>exact⟨_,(show h.get? a=some _ from x)⟩
 |ext φ=>obtain⟨_,⟨_,e⟩,_⟩:=x;exact⟨_,e⟩
theorem sK{P:Program}{w:World}{H:Hp}{h:Heap}{l:List Addr}(x:HOk P w H h)(hl:∀b∈l,H b=none):HOk P w H (hideAll h l):=λa o e =>
 (x a o e).stay (λb u hb q=>hideAll_get l q λz=>by
  have:=hl b z;rcases hb with hb|hb
  ·rw[hb,e]at this;cases this
  ·rw[hb]at this;cases this) (λ_ q=>q) λ_ _ q=>q
section
variable{P:Program}{w:World}{l:List Env}{H H':Hp}{h1 h2 h3 B:Heap}{ea:Addr}{cls a0:Value}
theorem mr(un:Un (frs l) [] H H' h1 h2)(fl:FlyingW B l ea cls a0 h2)(hB:HOk P w H' B)(kp:∀b o,h1.get? b=some o→H b=none→b∉frs l→B.get? b=some o)(th:∀b o,h1.get? b=some o→b∉frs l→∃o',B.get? b=some o')(st:B.StaysIn h3)(hs:h2.UpToSlots h3):Un (frs l) [] H H' h1 h3∧HOk P w H' h3:=by
 refine⟨⟨λb o e n hb _=>st b o (kp b o e n hb),λb o e n hb hx=>?_,un.free,λb o e _=>?_,un.tups,un.frzs,un.tbls⟩,hB.kept st⟩
 ·obtain⟨sl,q⟩:=un.slot b o e n hb hx;obtain⟨_,o',ho',hd⟩:=fl.2.2.1.mem hb;rw[q]at ho';cases ho';obtain⟨sl',q'⟩:=hs b _ q hd;exact⟨sl',q'⟩
 ·by_cases hb:b∈frs l
  ·obtain⟨_,o',ho',hd⟩:=fl.2.2.1.mem hb;obtain⟨sl',q'⟩:=hs b _ ho' hd;exact⟨_,q'⟩
  ·obtain⟨o',q⟩:=th b o e hb;exact⟨o',st b o' q⟩
end
section
variable{X:Cx}{pins:List (Addr×Obj)}{σ:St}{H H':Hp}{s s':Shared}{ea C:Addr}{E:XK}
theorem Inv.fly_up(I:Inv X pins σ H s)(hex:X.ex=[])(J:Inv X pins σ H' s')(new:H' ea=none){B:Heap}{a0:Value}(fl:FlyingW B X.outer ea (.ref C) a0 s'.heap)(hB:HOk X.prog X.w H' B)(kp:∀b o,s.heap.get? b=some o→H b=none→b∉frs X.stack→B.get? b=some o)(th:∀b o,s.heap.get? b=some o→b∉frs X.stack→∃o',B.get? b=some o'):Fly X.prog X.w X.outer X.H₀ X.s₀ H' ea C s':=by
 have ub:=I.base;rw[hex]at ub;have uj:=J.base;rw[hex]at uj;have ne:∀b o,X.s₀.heap.get? b=some o→b∉frs X.outer→b∉frs X.stack:=λb o e n hb=>by
  rcases mem_cons.mp (I.stkSub b hb)with z|z
  ·have:=lt_size e;rw[z]at this;exact absurd (lt_of_lt_of_le this I.ok.above) (lt_irrefl _)
  ·exact n z
 refine⟨J.os,J.bare,uj,new,B,a0,fl,hB,λb o e n hb=>?_,λb o e hb=>?_⟩
 ·exact kp b o (ub.keep b o e n hb (by simp)) (ub.free b o e n (by simp)) (ne b o e hb)
 ·obtain⟨o',q⟩:=ub.there b o e (by simp);exact th b o' q (ne b o e hb)
structure Lv(X:Cx)(E:XK):Prop where
 ex:X.ex=[]
 stk:X.stack=X.env::X.outer
 fr:X.env.frame=some X.env.locals
 xe:X.xe=λe s'=>wpAny (model X.prog X.w) X.A (leaving X.env e) (λ_ s''=>CX1 X.prog X.w X.outer X.H₀ X.s₀ E e s'') (λe' s''=>CX1 X.prog X.w X.outer X.H₀ X.s₀ E e' s'') s'
theorem aV{P:Program}{w:World}{K:PySem.W.Frag}{mg:Str→Option Value}{base:Heap}{N:List Str}{qual:Str}{scope:Scope}{f:Addr}{cd:Value}{A:Around}{outer:List Env}{s:Shared}{H:Hp}{E:XK} :
  Lv (iE (CX1 P w) P w K mg base N qual scope f cd A outer s H E) E:=⟨rfl,rfl,rfl,rfl⟩
theorem aW(L:Lv X E):cr (CX1 X.prog X.w) X E:=by
 intro pins σ H s e s' I h;obtain⟨ea,C,H',rfl,F,hE⟩:=h;rw[L.xe];obtain⟨B,a0,fl,hB,kp,th⟩:=id F.fly;have fl':=fl;rw[L.stk]at fl';refine wpAny_leaves_onW (by rw[I.ok.frames,L.stk]) L.fr fl' λh' fl2 hs=>?_;obtain⟨u,ok⟩:=mr F.un fl hB kp th fl2.1 hs;have J:Inv X pins σ H' {s' with heap:=h'}:=I.call' (s':={s' with heap:=h'}) F.os u ok F.bare λb z=>absurd z (by simp)
 exact⟨ea,C,H',rfl,I.fly_up L.ex J F.new fl2 hB kp th,hE⟩
theorem Inv.ground(I:Inv X pins σ H s):(hideAll s.heap (frs X.stack)).StaysIn s.heap∧s.heap.FunFrames (hideAll s.heap (frs X.stack)) X.stack∧HOk X.prog X.w H (hideAll s.heap (frs X.stack)) :=
 ⟨λb o q=>of_hideAll _ q,PySem.W.funFrames_hide I.stack λenv he b hb=>mem_filterMap.mpr ⟨env,he,hb⟩,sK I.hok I.stkFree⟩
theorem zn(L:Lv X E)(I:Inv X pins σ H s){h':Heap}{vs:List Value}(hx:Heap.MadeExcOf s.heap h' ea (.ref C) vs)(hE:E (.ref C) none H):X.xe (.ref ea) {s with heap:=h'}:=by
 rw[L.xe];obtain⟨g1,g2,g3⟩:=I.ground;have g2':s.heap.FunFrames (hideAll s.heap (frs X.stack)) (X.env::X.outer):=L.stk ▸ g2;refine wpAny_leaves_madeW (s:={s with heap:=h'}) (by rw[I.ok.frames,L.stk]) L.fr g1 g2' hx λh'' t fl _ _ hs=>?_;have hs':s.heap.UpToSlots h'':=(Heap.UpToSlots.of_keeps hx.keeps).trans hs;have u:Un (frs X.stack) [] H H s.heap h'':=⟨λb o e n hb _=>fl.1 b o (hideAll_get _ e hb),λb o e n hb _=>by
   obtain⟨_,o',ho',hd⟩:=g2.mem hb;rw[e]at ho';cases ho';exact hs' b o e hd,λb o e n _=>n,λb o e _=>by
   by_cases hb:b∈frs X.stack
   ·obtain⟨_,o',ho',hd⟩:=g2.mem hb;obtain⟨sl,q⟩:=hs' b o' ho' hd;exact⟨_,q⟩
   ·exact⟨o,fl.1 b o (hideAll_get _ e hb)⟩,λ_ _ q=>q,λ_ _ _ q=>q,λb ps q=>⟨#[],by simpa using q⟩⟩
 have J:Inv X pins σ H {s with heap:=h''}:=I.call' (s':={s with heap:=h''}) rfl u (g3.kept fl.1) I.bare λb z=>absurd z (by simp)
 have new:H ea=none:=by
  cases q:H ea with
  |none=>rfl
  |some o =>
   obtain⟨ob,e⟩:=(I.hok ea o q).ex;have h2:=hx.new;rw[e]at h2;cases h2
 exact⟨ea,C,H,rfl,I.fly_up L.ex J new fl g3 (λb o e _ hb=>hideAll_get _ e hb) λb o e hb=>⟨o,hideAll_get _ e hb⟩,hE⟩
end
end L2
namespace XI
open PySem PySem.Spec PySem.W
section
variable{prog:Program}{w:World}{A:Around}{E:Value→Shared→Prop}{h:Heap}{g:Array GenState}{d:Drawn}{t:Nat}{os:OsState}{a:Addr}{o:Obj}{vs:Array Value}{nm q:Str}{C N:Addr}{bs bm:List Value}{hdct:Bool}{sn:List Str}{sub:List Value}{ab:Bool}{col:Option Bool}{dd:Option Addr}{k0 k1 k2 k3 k5:Option Value}{newId:String}
theorem qU{R:Result→Shared→Prop}(hC:h.get? C=some (excClassObj nm q C N bs bm hdct sn sub ab col dd k0 k1 k2 k3 k5 newId))(hb:bm.contains (.type "object")=true)(hx:h.get? a=some o)(hc:o.cls=.ref C)(hq:R (.ok (.ret (.ref C))) ⟨h,g,d,t,os⟩):
  codeAny (model prog w) A (.call (.builtin "getset_descriptor.__get__") ⟨[.builtin "object.__class__",.ref a,.ref C],[]⟩) R ⟨h,g,d,t,os⟩:=by
 have hT5:(⟨h,g,d,t,os⟩:Shared).TypeIs (.builtin "object.__class__") "getset_descriptor":=F.typeOf_object_class;have hcB:(Value.ref C::bm).contains (.type (".".intercalate ("object.__class__".cutAt '.').dropLast))=true:=by
  rw[F.owner_object_class,List.contains_cons,hb];rfl
 refine codeAny_call_builtin F.slot_gs_get.plain F.entry_gs_get (F.slot_gs_get.check _ _ _ _ _ _ _ _ hT5 (F.args_gs_get _ _ _) ?_)
 repeat (any_goals (first|assumption|(with_reducible refine wpAny_loadPart_at hx ?_;rw[hc]) | (with_reducible refine wpAny_isSubtype_exc hC ?_;rw[hcB])|wp_step))
 refine⟨Code.quiet_builtin _ (by decide +kernel),codeAny_builtin F.entry_object_class ?_⟩
 repeat (any_goals (first|assumption|(with_reducible refine wpAny_loadPart_at hx ?_;rw[hc])|wp_step))
theorem sL{M:Model}{nameV:Value}{Q:Unit→Shared→Prop}(hC:h.get? C=some (excClassObj nm q C N bs bm hdct sn sub ab col dd k0 k1 k2 k3 k5 newId))(hb:bm.contains (.type "BaseException")=true)(hx:h.get? a=some o)(hc:o.cls=.ref C)(hq:Q () ⟨h,g,d,t,os⟩):wpAny M A (checkBuiltinCall "BaseException.__getattribute__" ⟨[.ref a,nameV],[]⟩) Q E ⟨h,g,d,t,os⟩:=by
 have hk:builtinKind "BaseException.__getattribute__"=some .slot:=by decide +kernel
 have hsplit:splitId "BaseException.__getattribute__"=some ("BaseException","__getattribute__"):=by decide +kernel
 have hcB:(Value.ref C::bm).contains (.type "BaseException")=true:=by rw[List.contains_cons,hb];rfl
 have ha:=F.args_bexc_ga (.ref a) nameV;simp only[checkBuiltinCall,hk,hsplit];refine wpAny_bind ?_
 ·unfold isInstance
  repeat (first|(with_reducible refine wpAny_loadPart_at hx ?_;rw[hc]) | (with_reducible refine wpAny_isSubtype_exc hC ?_;rw[hcB])|wp_step)
  exact hq
theorem mv{tk:Tok}{Q:Fin→Shared→Prop}(hC:h.get? C=some (excClassObj nm q C N bs bm hdct sn sub ab col dd k0 k1 k2 k3 k5 newId))(hb:bm.contains (.type "object")=true)(LC:Looks (model prog w) h (typeLookup (.ref C) "__class__") (some (.builtin "object.__class__")))(hx:h.get? a=some o)(hc:o.cls=.ref C)(hq:Q (.done (.ret (.ref C))) ⟨h,g,d,t,os⟩):
  wpAny (model prog w) A (Builtin.«object.__getattribute__» ⟨[.ref a,.str "__class__" tk],[]⟩) Q E ⟨h,g,d,t,os⟩:=by
 have hT5:(⟨h,g,d,t,os⟩:Shared).TypeIs (.builtin "object.__class__") "getset_descriptor":=F.typeOf_object_class;have f5:=F.typeOf_object_class;have f6:=F.slot_gs_get.lookup;have f7:=F.slot_gs_set.lookup
 repeat (any_goals (first|assumption|(with_reducible refine wpAny_loadPart_at hx ?_;rw[hc])|with_reducible refine LC.at ?_|wp_step))
 refine qU hC hb hx hc ?_
 repeat (any_goals (first|assumption|wp_step))
theorem oH{Q:Option Value→Shared→Prop}(hC:h.get? C=some (excClassObj nm q C N bs bm hdct sn sub ab col dd k0 k1 k2 k3 k5 newId))(hb:bm.contains (.type "object")=true)(hbb:bm.contains (.type "BaseException")=true)(LG:Looks (model prog w) h (typeLookup (.ref C) "__getattribute__") (some (.builtin "BaseException.__getattribute__")))(LA:Looks (model prog w) h (typeLookup (.ref C) "__getattr__") none)(LC:Looks (model prog w) h (typeLookup (.ref C) "__class__") (some (.builtin "object.__class__")))(hx:h.get? a=some o)(hc:o.cls=.ref C)(hq:Q (some (.ref C)) ⟨h,g,d,t+1,os⟩):
  wpAny (model prog w) A (getAttr? (.ref a) "__class__") Q E ⟨h,g,d,t,os⟩:=by
 have f3:=F.attr_ValueError.ga.bind (.ref a);have hx0:(false&&onTheHeap (builtin "BaseException.__getattribute__"))=false:=rfl;have hx2:(builtin "BaseException.__getattribute__"==builtin "object.__getattribute__")=false:=by decide +kernel
 have hx1:(onTheHeap (Value.ref C)&&builtin "BaseException.__getattribute__"==builtin "object.__getattribute__")=false:=by rw[hx2];rfl
 unfold getAttr? getAttrBy?
 repeat (any_goals (first|assumption|(with_reducible refine wpAny_loadPart_at hx ?_;rw[hc])|with_reducible refine LG.at ?_|with_reducible refine LA.at ?_|wp_step))
 refine codeAny_call_builtin F.attr_ValueError.ga.plain F.entry_bexc_ga (sL hC hbb hx hc (mv hC hb LC hx hc ?_))
 repeat (any_goals (first|assumption|wp_step))
end
def dJ(K:Frag)(C:Addr):Bool:=ktsIn K C "object"&&findIn K (.ref C) "__getattribute__"==some (some (.builtin "BaseException.__getattribute__"))&&findIn K (.ref C) "__getattr__"==some none&&findIn K (.ref C) "__class__"==some (some (.builtin "object.__class__"))
def mw(e C:Addr)(h:Heap):Prop:=∃o vs,h.get? e=some o∧o.cls=.ref C∧o.data=.fields vs
theorem mx{K:Frag}{e C:Addr}(q:dJ K C=true):KitX K (.ref e) (.ref C) (mw e C):=by
 unfold dJ at q;simp only[and_eq_true,beq_iff_eq]at q;obtain⟨⟨⟨q1,q2⟩,q3⟩,q4⟩:=q;refine⟨λM h X p=>?_,λM h X p=>?_,λh tp dd its n sl X htp=>?_,λ{prog w A E Q s} X p hq=>?_⟩
 ·obtain⟨o,vs,h1,h2,_⟩:=p;exact h2 ▸ (Looks.ld h1).andThen .now
 ·obtain⟨nm,q',N,bs,bm,hdct,sn,sub,ab,col,dd,k0,k1,k2,k3,k5,newId,hC,_,_⟩:=kts_cls X q1;intro A' Q' E' s' k q;unfold isType loadHead;exact wpAny_bind (wpAny_loadPart (k _ _ hC) (wpAny_pure q))
 ·obtain⟨nm,q',N,bs,bm,hdct,sn,sub,ab,col,dd',k0,k1,k2,k3,k5,newId,hC,_,_⟩:=kts_cls X q1;refine Bool.eq_false_iff.mpr λz=>?_;have e:C=tp:=Value.ref.inj (beq_iff_eq.mp z);subst e;have z2:Value.type "type"=Value.type "tuple":=congrArg Obj.cls (Option.some.inj (hC.symm.trans htp));injection z2 with z3
  exact absurd z3 (by decide)
 ·obtain⟨h0,g,d,t,os⟩:=s;obtain⟨o,vs,h1,h2,_⟩:=p;obtain⟨nm,q',N,bs,bm,hdct,sn,sub,ab,col,dd,k0,k1,k2,k3,k5,newId,hC,hb1,hb2⟩:=kts_cls X q1;exact oH hC hb2 hb1 (looks_findIn X q2) (looks_findIn X q3) (looks_findIn X q4) h1 h2 hq
end XI
namespace L2
open PySem PySem.Spec PyProof.Rows
section
variable{X:Cx}{pins:List (Addr×Obj)}{σ:St}{H:Hp}{s:Shared}
def tF2(te:TE):TE:=λσ H Q=>te σ H λv H1=>∃i:Int,v=.int i∧0≤i∧i≤60∧∀y,Q (.str y) H1
theorem fQ(i:Int)(h0:0≤i)(h1:i≤60):(ofString (toString i)).length≤100:=by
 have key:∀n:Fin 61,(ofString (toString ((n.val:Nat):Int))).length≤100:=by decide +kernel
 have:=key ⟨i.toNat,by omega⟩;have e:((i.toNat:Nat):Int)=i:=by omega
 rw[e]at this;exact this
theorem wS{x:Str}{j:Nat}{p1 p2 p3:Pos}{e:Expr}{te:TE}(he:PE X e te)(hx:x.length≤800):PE X (.JoinedStr [.Constant (.str x) j p1,.FormattedValue e (-1) none p2] p3) (tF2 te):=by
 intro pins s σ H Q I h;have hl:(empty++x).length≤800:=by rw[strLen_append];show 0+x.length≤800;omega
 refine JoinedStr_many (joinParts_cons (Constant_str ?_));refine⟨le_of_lt (ao (by omega)),?_⟩;refine joinParts_cons (FormattedValue_plain (thn (he pins _ σ H _ (I.tok _) h) λv s1 hpt=>?_));obtain⟨y,H1,I1,r1,q1⟩:=hpt;obtain⟨i,rfl,h0,h1,q⟩:=q1;obtain⟨t,rfl⟩:=r1;have h2:=fQ i h0 h1;have h3:((empty++x)++ofString (toString i)).length≤1000:=by rw[strLen_append];omega
 refine formatField_int_small (lt_of_le_of_lt (log2_le_self _) (by omega)) ⟨le_of_lt (ao h3),?_⟩;exact joinParts_nil ⟨.str _,H1,(I1.tok _).tok _,⟨_,rfl⟩,q _⟩ (le_of_lt (ao h3))
abbrev bmV:List Value:=[.type "ValueError",.type "Exception",.type "BaseException",.type "object"]
abbrev zo(X:Cx)(x:Str)(C:Addr):Prop:=OwnCls x C bmV "ValueError.__new__" X.mg X.base
def xM(C:Addr)(E:XK)(ta:TE):TS:=λ_ σ H=>aE ta dF σ H λvs H1=>vs.length≤sizeLine∧E (.ref C) none H1
theorem bA{E:XK}(L:Lv X E){x:Str}{C:Addr}{np cpos pos:Pos}{a:Expr}{ta:TE}(O:zo X x C)(hh:X.A.handled=none)(hg:Gl X x)(ha:PE X a ta)(hs:starEach [a] X.env=[(false,eval a X.env)]:=by rfl)(hd:(x==("__debug__":Str))=false:=by decide):PS X (.Raise (some (.Call (.Name x np) [a] [] cpos)) none pos) (xM C E ta):=by
 intro pins s σ H D I h;obtain⟨tl,N,nm,q,bs,hdct,sn,sub,ab,col,dd,k0,k1,k2,k3,k5,mN,hC,hN,hni,T⟩:=O.obj;refine wpAny_Raise_call_subT (C:=C) (nm:=nm) (q:=q) (N:=N) (bs:=bs) (bm:=tl) (hdct:=hdct) (sn:=sn) (sub:=sub) (ab:=ab) (col:=col) (dd:=dd) (k0:=k0) (k1:=k1) (k2:=k2) (k3:=k3) (k5:=k5)
  PySem.F.excBase_ValueError (mN:=mN) (T.hasType PySem.F.excBase_ValueError.hasBase) hh (by rw[hs];rfl) hni (eZ I hg O.bound ⟨rfl,?_⟩ hd)
 have hA:PA X [a] (aE ta dF):=aa ha ae hs;have h':=hA cpos pins s σ H (λvs H1=>vs.length≤sizeLine∧E (.ref C) none H1) I h;rw[hs]at h'⊢;refine evalArgs_plain (thn h' λus s2 hpt=>?_);obtain⟨vs,H2,I2,r2,q2⟩:=hpt;exact⟨rfl,by rw[←r2.length];exact q2.1,I2.bk _ _ hC,hN.keeps I2.bk,T.keeps I2.bk,λh' e hx=>zn L I2 hx q2.2⟩
theorem vz{M:Model}{A:Around}{E:Value→Shared→Prop}{nm q:Str}{C N:Addr}{bs bm:List Value}{hdct:Bool}{sn:List Str}{sub:List Value}{ab:Bool}{col:Option Bool}{dd:Option Addr}{k0 k1 k2 k3 k5:Option Value}{newId:String}{h:Heap}{g:Array GenState}{d:Drawn}{t:Nat}{os:OsState}{e T:Addr}{oe:Obj}{Q:Bool→Shared→Prop}(hT:h.get? T=some (excClassObj nm q T N bs bm hdct sn sub ab col dd k0 k1 k2 k3 k5 newId))(hbase:bm.contains (.type "BaseException")=true)(LCT:PySem.W.Looks M h (isSubtype (.ref C) (.ref T)) true)(he:h.get? e=some oe)(hcls:oe.cls=.ref C)(hq:Q true ⟨h,g,d,t,os⟩):wpAny M A (excMatches (.ref e) (.ref T)) Q E ⟨h,g,d,t,os⟩:=by
 have hcB:(Value.ref T::bm).contains (.type "BaseException")=true:=by rw[List.contains_cons,hbase,Bool.or_true]
 have f:=tc_notTuple;unfold excMatches
 repeat (first|(with_reducible refine wpAny_loadPart_at he ?_;rw[hcls])|with_reducible refine LCT.at ?_|with_reducible refine wpAny_loadPart_at hT ?_|(with_reducible refine wpAny_isSubtype_exc hT ?_;rw[hcB])|wp_step)
 exact hq
theorem Inv.forget(I:Inv X pins σ H s){l:Nat}{n:Str}{h':Heap}{m:Str→Option Value}{v:Option Value}{tk:Nat}(hN:X.N.Nodup)(hl:X.N[l]?=some n)(hm:s.heap.Ns X.env.locals m)(hn':h'.Ns X.env.locals (λx=>if x=n then v else m x))(hs:SameBut X.env.locals s.heap h'):Inv X pins (σ.set l none) H {s with heap:=h',toks:=tk}:=by
 obtain⟨m0,hn,hlk⟩:=id I.loc;have em:∀x,m0 x=m x:=λx=>by
  obtain⟨o,es,ep,e1,e2,e3,e4⟩:=hn;obtain⟨o',es',ep',f1,f2,f3,f4⟩:=hm;rw[e1]at f1;cases f1;rw[e2]at f2;cases f2;rw[←e4,←f4]
 have hlσ:l<σ.length:=by rw[I.len];exact(List.getElem?_eq_some_iff.mp hl).1
 have cne:=I.cne;have ne:∀b o,X.s₀.heap.get? b=some o→b≠X.env.locals:=λb o e=>ne_of_lt (lt_of_lt_of_le (lt_size e) I.ok.above);refine⟨I.ok,I.os,I.bare,⟨λb o e n hb hx=>(hs.2 b (ne b o e)).trans (I.base.keep b o e n hb hx),λb o e n hb hx=>?_,I.base.free,λb o e hx=>?_,I.base.tups,I.base.frzs,I.base.tbls⟩,⟨_,hn',λj y v' e1 e2 e3=>?_⟩,λy c e=>?_,I.free,I.freeC,λp hp=>?_,λb ob e=>?_,by simpa using I.len⟩
 ·obtain⟨sl,e1⟩:=I.base.slot b o e n hb hx;exact⟨sl,(hs.2 b (ne b o e)).trans e1⟩
 ·obtain⟨o',e1⟩:=I.base.there b o e hx;exact⟨o',(hs.2 b (ne b o e)).trans e1⟩
 ·by_cases hj:j=l
  ·subst hj;rw[getElem?_set_self hlσ]at e2;cases e2
  ·rw[List.getElem?_set_ne (symm hj)]at e2;obtain⟨u',r',q⟩:=hlk j y v' e1 e2 e3;refine⟨u',r',?_⟩;rcases q with⟨k,e⟩|⟨k,c,e,z⟩
   ·refine .inl ⟨k,?_⟩;have hy:y≠n:=λe=>hj (iO hN e1 (e ▸ hl));show(if y=n then v else m y)=some u';rw[if_neg hy,←em];exact e
   ·exact .inr ⟨k,c,e,z.sameBut hs (cne y c e)⟩
 ·obtain⟨w',z⟩:=I.cell y c e;exact⟨w',z.sameBut hs (cne y c e)⟩
 ·obtain⟨p1,p2,p3,p4,p5⟩:=I.pin p hp;exact⟨(hs.2 p.1 p3).trans p1,p2,p3,p4,p5⟩
 ·refine(I.hok b ob e).stay (λc w' hc q=>(hs.2 c ?_).trans q) (λ_ q=>q) λ_ _ q=>q;rintro rfl;rcases hc with hc|hc
  ·rw[←hc,I.free]at e;cases e
  ·rw[I.free]at hc;cases hc
theorem Inv.caught{H':Hp}{ea C:Addr}{s':Shared}{B h6:Heap}{a0:Value}(I:Inv X pins σ H s)(F:Fly X.prog X.w X.stack H s H' ea C s')(fl:FlyingW B X.stack ea (.ref C) a0 s'.heap)(hB:HOk X.prog X.w H' B)(kp:∀b o,s.heap.get? b=some o→H b=none→b∉frs X.stack→B.get? b=some o)(th:∀b o,s.heap.get? b=some o→b∉frs X.stack→∃o',B.get? b=some o')(f6:FlyingW B X.stack ea (.ref C) a0 h6)(hs:s'.heap.UpToSlots h6):
  Inv X pins σ (upd H' ea (.ext (XI.mw ea C))) {s' with heap:=h6}:=by
 obtain⟨u,ok⟩:=mr F.un fl hB kp th f6.1 hs;obtain⟨oe,vs,g1,g2,g3,_⟩:=f6.first;have ne:∀b o,s.heap.get? b=some o→b≠ea:=λb o e z=>by
  by_cases hb:b∈frs X.stack
  ·obtain⟨_,o',ho',hd⟩:=f6.2.2.1.mem hb;rw[z,g1]at ho';cases ho';exact hd _ g3
  ·obtain⟨o',q⟩:=th b o e hb;rw[z,f6.2.1]at q;cases q
 have ner:∀b u,H' b=some u→b≠ea:=λb u e z=>by rw[z,F.new]at e;cases e
 refine I.call' (s':={s' with heap:=h6}) F.os ⟨u.keep,u.slot,λb o e n hx=>?_,u.there,λb xs e=>?_,λb o v e=>?_,λb ps e=>?_⟩ (λb ob e=>?_) F.bare λb z=>absurd z (by simp)
 ·rw[ai (ne b o e)];exact u.free b o e n hx
 ·have:=u.tups b xs e;rw[ai (ner b _ this)];exact this
 ·have:=u.frzs b o v e;rw[ai (ner b _ this)];exact this
 ·obtain⟨more,this⟩:=u.tbls b ps e;exact⟨more,by rw[ai (ner b _ this)];exact this⟩
 ·by_cases hb:b=ea
  ·subst hb;rw[ac]at e;cases e;refine⟨⟨oe,vs,g1,g2,g3⟩,⟨oe,g1⟩,λh1 h2 ⟨o,vs,a1,a2,a3⟩ k=>⟨o,vs,k o a1,a2,a3⟩⟩
  ·rw[ai hb]at e;exact(ok b ob e).stay (λ_ _ _ q=>q) (λc q=>by rw[ai (ner c _ q)];exact q) λc xs q=>by rw[ai (ner c _ q)];exact q
structure TryOk(X:Cx):Prop where
 no:∀e s,¬X.xe e s
 stk:X.stack=X.env::X.outer
 fr:X.env.frame=some X.env.locals
end
end L2
namespace DL
open PySem PySem.Spec PyProof.Rows
theorem jj:entryFor table "dict.update.loop"=some Builtin.«dict.update.loop»:=entryFor_of_tree (by kernel_rfl)
theorem dX:plainId "dict.update.loop"=true:=by decide +kernel
theorem lp:typeLookup (.type "list") "keys"=pure none:=by rw[typeLookup_type,builtinLookup_eq_fast];kernel_rfl
section
variable{prog:Program}{w:World}{A:Around}{E:Value→Shared→Prop}{s:Shared}
theorem vA{a:Addr}{xs:Array Value}{k:Nat}{sl:Array (Option Value)}{u:Tok}{Q:Value→Shared→Prop}(hx:s.heap.get? a=some {cls:=.type "list",dict:=none,data:=.seq xs k,slots:=sl})(hA:A.handled=none)(h:∀h' tk e,Heap.NewExcOf s.heap h' e "AttributeError"→E (.ref e) {s with heap:=h',toks:=tk}):
  wpAny (model prog w) A (getAttrBy (.ref a) (.str "keys" u) false) Q E s:=by
 obtain⟨hp,g,d,tk,os⟩:=s;have hT:∀tk',(⟨hp,g,d,tk',os⟩:Shared).TypeIs (.ref a) "list":=λ_=>⟨_,hx,rfl⟩;have f1:=sub_AttributeError;have f3:=F.slot_list_getattribute.lookup;have f4:=F.slot_list_getattribute.bind (.ref a);have f5:=am_list_getattr_none;unfold getAttrBy
 repeat (any_goals (first|assumption|exact hT _|((with_reducible show wpAny _ _ (call (builtin "list.__getattribute__") _ _) _ _ _);refine call_meets F.slot_list_getattribute (hT _) am_entry_list_getattribute (F.args_list_getattribute_2 _ _) (meets_getattribute_miss_list a xs k sl "keys" _ lp (by decide) (by size_fits)) ⟨hx,hA,λh' tk' e hx'=>?_⟩)|wp_step))
 obtain⟨t',u',he⟩:=hx'.there;show wpAny _ _ (getattributeRaised _ _ _ _ _ _ _) _ _ _;unfold getattributeRaised
 repeat (any_goals (first|assumption|wp_step))
 exact h _ _ _ hx'.of
theorem vB{a:Addr}{xs:Array Value}{k:Nat}{sl:Array (Option Value)}{Q:Option Value→Shared→Prop}(hx:s.heap.get? a=some {cls:=.type "list",dict:=none,data:=.seq xs k,slots:=sl})(hA:A.handled=none)(h:∀h' tk,(∀b o,s.heap.get? b=some o→h'.get? b=some o)→Q none {s with heap:=h',toks:=tk}):
  wpAny (model prog w) A (getAttr? (.ref a) "keys") Q E s:=by
 obtain⟨hp,g,d,tk,os⟩:=s;have f1:=sub_AttributeError;unfold getAttr? getAttrBy?
 repeat (any_goals (first|assumption|((with_reducible show wpAny _ _ (getAttrBy _ _ false) _ _ _);refine vA (s:=⟨hp,g,d,_,os⟩) hx hA λh' tk' e hx'=>?_)|wp_step))
 obtain⟨⟨oc,od,odt,osl⟩,vs,he,hc,_,_⟩:=hx'.there;simp only at hc;subst hc
 repeat (any_goals (first|assumption|with_reducible refine wpAny_loadPart_at he ?_|wp_step))
 exact h h' tk' λb o e=>hx'.keeps b o e
end
section
variable{prog:Program}{w:World}{A:Around}{E:Value→Shared→Prop}{R:Result→Shared→Prop}{I:Addr}{fp wr:List Addr}{G:Array GenState→Array GenState→Prop}{n:Nat}{P:Nat→Value→Prop}{St:Nat→Shared→Prop}
theorem qV(W:WalksS prog w A.in1 I fp wr G n P St)(d:Addr)(hdf:d∉fp)(ad:Nat→Addr)(kk vv:Nat→Value)(hval:∀i v,P i v→v=.ref (ad i))(had:∀i,i<n→ad i∉d::wr)(D:Nat→Heap→Prop)(hD:∀i (h h':Heap),D i h→(∀b o,b∉wr→h.get? b=some o→h'.get? b=some o)→D i h')(step:∀i (s:Shared) (E:Value→Shared→Prop) (Q:Unit→Shared→Prop),i<n→D i s.heap→(∀h' tk,s.toks≤tk→SameBut d s.heap h'→D (i+1) h'→Q () {s with heap:=h',toks:=tk})→wpAny (model prog w) A.in1 (dictSet d (kk i) (vv i)) Q E s):
  ∀(k i:Nat)(s:Shared)(tk:Tok),n-i=k→i≤n→St i s→D i s.heap→(∀j,j<n→IsTup s.heap (ad j) #[kk j,vv j]) →
   (∀s',Moved (d::wr) G s s'→D n s'.heap→R (.ok (.ret .none)) s') →
   codeAny (model prog w) A (.builtin "dict.update.loop" ⟨[.ref d,.ref I,.int i tk,.none],[]⟩) R s:=by
 have hdw:d∉wr:=λh=>hdf (W.sub _ h);have hsub:∀b∈wr,b∈d::wr:=λb hb=>mem_cons_of_mem _ hb;have hadw:∀i,i<n→ad i∉wr:=λi hi h=>had i hi (mem_cons_of_mem _ h);have hadd:∀i,i<n→ad i≠d:=λi hi h=>had i hi (by rw[h];exact mem_cons_self);intro k
 induction k with
 |zero =>
  intro i s tk hk hi hst hDi htp hR;have hin:i=n:=by omega
  subst hin;refine codeAny_builtin jj ?_;rw[Around.under_plainId dX _];show wpAny _ A.in1 (pyNext (.ref I) >>= _) _ _ s;refine wpAny_bind (W.done s _ _ hst λs' hm=>?_);show wpAny _ A.in1 (Builtin.Dict.addKeywords d [] >>= λ_=>ret Value.none) _ _ s';exact wpAny_bind (wpAny_pure (wpAny_pure (hR s' (hm.mono hsub) (hD _ _ _ hDi hm.heap))))
 |succ k ih =>
  intro i s tk hk hi hst hDi htp hR;have hlt:i<n:=by omega
  refine codeAny_builtin jj ?_;rw[Around.under_plainId dX _];show wpAny _ A.in1 (pyNext (.ref I) >>= _) _ _ s;refine wpAny_bind (W.item i s _ _ hlt hst λv s' hP hst' hm=>?_);have hv:=hval i v hP;subst hv;have hDi':D i s'.heap:=hD _ _ _ hDi hm.heap;have htp':∀j,j<n→IsTup s'.heap (ad j) #[kk j,vv j]:=λj hj=>by
   obtain⟨o,ho,r⟩:=htp j hj;exact⟨o,hm.heap _ o (hadw j hj) ho,r⟩
  obtain⟨ot,hot,hct,nt,hdt⟩:=htp' i hlt;have hT:s'.TypeIs (.ref (ad i)) "tuple":=⟨ot,hot,hct⟩;refine wpAny_bind (wpAny_holding ?_);refine wpAny_bind (wpAny_tryCatch ?_);unfold Builtin.Dict.pairItems;refine wpAny_bind (wpAny_typeOf hT ?_);rw[if_pos (by decide)];generalize hDS:dictSet=DS;obtain⟨hp,g,dr,t,os⟩:=s';obtain⟨ocls,odict,odata,oslots⟩:=ot;simp only at hct hdt;subst hct hdt
  repeat (any_goals (first|assumption|with_reducible refine wpAny_loadPart_at hot ?_|wp_step))
  subst hDS;refine step i _ _ _ hlt hDi' λh' tk' htk hsb hD'=>?_;have hsb':SameBut d hp h':=hsb;have hkeep:∀b o,b∉d::wr→hp.get? b=some o→h'.get? b=some o:=λb o hb e=>by
   rw[hsb'.2 b (λz:b=d=>hb (by rw[z];exact mem_cons_self))];exact e
  refine wpAny_pure ⟨plainId_quiet dX _,?_⟩;refine ih (i+1) _ _ (by omega) hlt (W.frame _ _ _ _ hst' htk λb hb o e=>?_) hD' (λj hj=>?_) λs'' hm'' hD''=>?_
  ·rw[hsb'.2 b (λh:b=d=>hdf (by rw[←h];exact hb))];exact e
  ·obtain⟨o,ho,r⟩:=htp' j hj;exact⟨o,hkeep _ o (had j hj) ho,r⟩
  ·exact hR s'' (Moved.trans W.gtrans ((hm.mono hsub).then_heap htk λb o hb e=>hkeep b o hb e) hm'') hD''
end
section
variable{prog:Program}{w:World}{A:Around}{E:Value→Shared→Prop}{s:Shared}
theorem jk{l:Addr}{items:Array Value}{nl:Nat}{sl:Array (Option Value)}{Q:Value→Shared→Prop}(hh:A.handled=none)(hl:s.heap.get? l=some {cls:=.type "list",dict:=none,data:=.seq items nl,slots:=sl})(ad:Nat→Addr)(kk vv:Nat→Value)(hi:∀(i:Nat) (v:Value),items[i]?=some v→v=Value.ref (ad i))(ht:∀i,i<items.size→IsTup s.heap (ad i) #[kk i,vv i])(D:Nat→Heap→Prop)(hD0:∀h',h'.get? s.heap.objs.size=some {cls:=.type "dict",data:=.dict #[]}→(∀b o,s.heap.get? b=some o→h'.get? b=some o)→D 0 h')(hD:∀i (h h':Heap),D i h→(∀b o,b≤s.heap.objs.size→h.get? b=some o→h'.get? b=some o)→D i h')(step:∀i (s':Shared) (E:Value→Shared→Prop) (Q:Unit→Shared→Prop),i<items.size→D i s'.heap→(∀h' tk,s'.toks≤tk→SameBut s.heap.objs.size s'.heap h'→D (i+1) h'→Q () {s' with heap:=h',toks:=tk}) →
   wpAny (model prog w) A.in1.in1 (dictSet s.heap.objs.size (kk i) (vv i)) Q E s')(h:∀h' tk,D items.size h'→(∀b o,s.heap.get? b=some o→h'.get? b=some o)→Q (.ref s.heap.objs.size) {s with heap:=h',toks:=tk}):
  wpAny (model prog w) A (call (.type "dict") [.ref l]) Q E s:=by
 refine callType_codes (Q₁:=λobj s₁=>obj=.ref s.heap.objs.size∧s₁={s with heap:=s.heap.push {cls:=.type "dict",data:=.dict #[]}}) F.kt_called_dict (F.kt_typeCall_dict_1 _) F.entry_dict_init (kt_code_dict_new _ ⟨rfl,rfl⟩) ?_;rintro obj s₁ ⟨rfl,rfl⟩;have hnew:(s.heap.push {cls:=.type "dict",data:=.dict #[]}).get? s.heap.objs.size=some {cls:=.type "dict",data:=.dict #[]}:=get?_push_size _ rfl;have hTd:Shared.TypeIs {s with heap:=s.heap.push {cls:=.type "dict",data:=.dict #[]}} (.ref s.heap.objs.size) "dict":=⟨_,hnew,rfl⟩
 have hl':(s.heap.push {cls:=.type "dict",data:=.dict #[]}).get? l=some {cls:=.type "list",dict:=none,data:=.seq items nl,slots:=sl}:=get?_push_of_some _ hl;have hTl:Shared.TypeIs {s with heap:=s.heap.push {cls:=.type "dict",data:=.dict #[]}} (.ref l) "list":=⟨_,hl',rfl⟩
 refine⟨hTd,F.args_dict_init_2 _ _,?_⟩;unfold Builtin.«dict.__init__»;refine wpAny_bind ?_;unfold Builtin.Dict.selfAndRest;refine wpAny_bind (wpAny_notOrdered_dict hTd ?_);show wpAny _ _ (pure (s.heap.objs.size,[Value.ref l])) _ _ _;refine wpAny_pure ?_;show wpAny _ _ (Builtin.Dict.updateFrom "dict.__init__" s.heap.objs.size (.ref l) [] .none) _ _ _;unfold Builtin.Dict.updateFrom;refine wpAny_bind (wpAny_typeOf hTl ?_);rw[if_pos (by decide)];refine wpAny_bind (vB (s:={s with heap:=s.heap.push {cls:=.type "dict",data:=.dict #[]}}) hl' (show A.in1.in1.handled=none by simp[hh]) λh1 tk1 hk1=>?_);have hk1':∀b o,(s.heap.push {cls:=.type "dict",data:=.dict #[]}).get? b=some o→h1.get? b=some o:=hk1;have hL1:h1.IsList l items:=⟨_,hk1' _ _ hl',rfl,nl,rfl⟩;rw[if_pos (show(none:Option Value).isNone=true from rfl)];refine wpAny_bind (wpAny_rule ?_);refine wpAny_bind (wpAny_pyIter_list hL1 ?_);have hlS:l<s.heap.objs.size:=lt_size hl;have hS1:s.heap.objs.size<h1.objs.size:=lt_size (hk1' _ _ hnew);have k0:∀b o,s.heap.get? b=some o→h1.get? b=some o:=λb o e=>hk1' b o (get?_push_of_some _ e);have hadlt:∀i,i<items.size→ad i<s.heap.objs.size:=λi hi'=>by
  obtain⟨o,ho,_⟩:=ht i hi';exact lt_size ho
 refine wpAny_pure ⟨plainId_quiet dX _,qV (A:=A.in1) ((Walks.list (show A.in1.in1.handled=none by simp[hh]) h1.objs.size l (ne_of_lt (lt_trans hlS hS1)) items).toS) s.heap.objs.size ?hdf ad kk vv hi ?had D ?hD' (λi s' E Q hi' hDi hq=>step i s' E Q hi' hDi hq)
  (items.size-0) 0 _ 0 (by omega) (zero_le _) ⟨⟨_,get?_push_size _ rfl,rfl,rfl⟩,hL1.push _⟩ ?hD0' ?ht' λs' hm hDn=>?_⟩
 case hdf =>
  simp only[mem_cons,not_mem_nil,or_false,not_or];exact⟨ne_of_lt hS1,ne_of_gt hlS⟩
 case had =>
  intro i hi';simp only[mem_cons,not_mem_nil,or_false,not_or];exact⟨ne_of_lt (hadlt i hi'),ne_of_lt (lt_trans (hadlt i hi') hS1)⟩
 case hD' =>
  intro i g g' hDi hk;refine hD i g g' hDi λb o hb e=>hk b o ?_ e;simp only[mem_cons,not_mem_nil,or_false];exact ne_of_lt (lt_of_le_of_lt hb hS1)
 case hD0' =>
  exact hD0 _ (get?_push_of_some _ (hk1' _ _ hnew)) λb o e=>get?_push_of_some _ (k0 b o e)
 case ht' =>
  intro j hj;obtain⟨o,ho,r⟩:=ht j hj;exact⟨o,get?_push_of_some _ (k0 _ _ ho),r⟩
 obtain⟨h',g',d',tk',os'⟩:=s';have eg:g'=s.gens:=hm.gens;have ed:d'=s.drawn:=hm.drawn;have eo:os'=s.os:=hm.os;subst eg;subst ed;subst eo;refine⟨rfl,h h' tk' hDn λb o e=>?_⟩;have hb:b<s.heap.objs.size:=lt_size e;refine hm.heap b o ?_ (get?_push_of_some _ (k0 b o e));simp only[mem_cons,not_mem_nil,or_false,not_or];exact⟨ne_of_lt hb,ne_of_lt (lt_trans hb hS1)⟩
end
end DL
namespace L2
open PySem PySem.Spec PyProof.Rows
section
variable{X:Cx}
theorem xN{pins:List (Addr×Obj)}{σ:St}{H:Hp}{s:Shared}(I:Inv X pins σ H s){a:Addr}{x y:V}(h:H a=some (.tup [x,y])):∃u v,aA x u∧aA y v∧IsTup s.heap a #[u,v]:=by
 obtain⟨_,its,r,ht⟩:=I.hok a _ h;cases r with
 |cons r1 r =>
  cases r with
  |cons r2 r=>cases r;exact⟨_,_,r1,r2,by simpa using ht⟩
theorem sM{κ:Type}{pins:List (Addr×Obj)}{σ:St}{H:Hp}{s:Shared}(I:Inv X pins σ H s){zs:List (Addr×κ×V)}(kf:Addr×κ×V→V)(hk:∀z∈zs,H z.1=some (.tup [kf z,z.2.2])):
  ∃f:Addr×κ×V→Value×Value,∀z∈zs,aA (kf z) (f z).1∧aA z.2.2 (f z).2∧IsTup s.heap z.1 #[(f z).1,(f z).2]:=by
 have hch:∀z:Addr×κ×V,∃p:Value×Value,z∈zs→aA (kf z) p.1∧aA z.2.2 p.2∧IsTup s.heap z.1 #[p.1,p.2]:=λz=>by
  by_cases hz':z∈zs
  ·obtain⟨u,v,a,b,c⟩:=xN I (hk z hz');exact⟨(u,v),λ_=>⟨a,b,c⟩⟩
  ·exact⟨(.none,.none),λh=>absurd h hz'⟩
 exact⟨λz=>Classical.choose (hch z),λz hz=>Classical.choose_spec (hch z) hz⟩
theorem cN{α:Type}{l:List α}{i:Nat}{d:α}(h:i<l.length):l.getD i d∈l∧l[i]?=some (l.getD i d):=by
 rw[getD_eq_getElem?_getD,getElem?_eq_getElem h];exact⟨getElem_mem h,rfl⟩
theorem qW{κ:Type}{zs:List (Addr×κ×V)}{d:Addr×κ×V}{i:Nat}{v:Value}(h:(((zs.map (·.1)).map Value.ref).toArray)[i]?=some v):v=Value.ref (zs.getD i d).1:=by
 have h':((zs.map (·.1)).map Value.ref)[i]?=some v:=by simpa using h
 rw[getElem?_map,getElem?_map]at h';rw[getD_eq_getElem?_getD];cases e:zs[i]? with
 |none=>rw[e]at h';cases h'
 |some z=>rw[e]at h';exact(Option.some.inj h').symm
theorem fc{α:Type}{l:List α}{i:Nat}{x:α}(h:l[i]?=some x):l.take (i+1)=l.take i++[x]:=by rw[take_succ,h];rfl
theorem qX{α κ:Type}{l:List α}{f:α→κ}{i:Nat}{x:α}(hn:(l.map f).Nodup)(h:l[i]?=some x):f x∉(l.take i).map f:=by
 intro hm;obtain⟨y,hy,e⟩:=mem_map.mp hm;obtain⟨j,hj,e2⟩:=mem_iff_getElem.mp hy;have hj':j<i:=by rw[length_take]at hj;omega
 have hi:i<l.length:=(List.getElem?_eq_some_iff.mp h).1;have e3:(l.map f)[j]'(by rw[length_map];omega)=(l.map f)[i]'(by rw[length_map];omega):=by
  rw[List.getElem_map,List.getElem_map];rw[List.getElem_take]at e2;rw[e2,e,(List.getElem?_eq_some_iff.mp h).2]
 have:=(getElem_inj hn).mp e3;omega
theorem iz(hc:X.calm=true):cK X (.type "dict") (λxs H Q=>∃l,∃zs:List (Addr×Key×V),xs=[.ref l]∧H l=some (.lst ((zs.map (·.1)).map V.ref))∧(∀z∈zs,H z.1=some (.tup [kV z.2.1,z.2.2]))∧zs.length≤1000 ∧
  (zs.map (·.2.1)).Nodup∧((∀d o,H d=none→Q (.ref d) (upd H d (.frz o (.dK (zs.map (·.2))))))∨∀d,H d=none→Q (.ref d) (upd H d (.dK (zs.map (·.2)))))):=by
 intro pins s σ H xs us Q I r h;obtain⟨l,zs,rfl,hl,hk,hz,hnd,q⟩:=h;obtain⟨u,rfl,ru⟩:=dE r;cases ru;obtain⟨_,its,nl,rv,ho⟩:=I.hok l _ hl;have e:=ig rv;subst e;obtain⟨f,hf⟩:=sM I (λz=>kV z.2.1) hk;have hsz:(((zs.map (·.1)).map Value.ref).toArray).size=zs.length:=by simp
 refine DL.jk (s:=s) (I.ok.hd hc) ho (λi=>(zs.getD i (0,.inl 0,.non)).1) (λi=>(f (zs.getD i (0,.inl 0,.non))).1) (λi=>(f (zs.getD i (0,.inl 0,.non))).2) (λi v hv=>qW hv) (λi hi=>?_)
  (λi h'=>h'.DictOf (aG X.prog X.w) s.heap.objs.size ((zs.take i).map λz=>(z.2.1,(f z).2))) (λh' hg _=>?_) (λi g g' hd hk=>?_) (λi s' E Q hi hd hq=>?_) λh' tk hd hkeep=>?_
 ·rw[hsz]at hi;exact(hf _ (cN hi).1).2.2
 ·exact⟨_,#[],0,hg,⟨rfl,rfl,rfl⟩,rfl,λ_ he=>by simp at he,Pairs.nil,nodup_nil⟩
 ·obtain⟨o,es,ep,ho,r⟩:=hd;exact⟨o,es,ep,hk _ o (le_refl _) ho,r⟩
 ·rw[hsz]at hi;obtain⟨hm,hg⟩:=cN (d:=((0,.inl 0,.non):Addr×Key×V)) hi;refine wpAny_dictSet_pairs (hsz:=by rw[length_map,length_take];have:=ao hz;omega) (k:=(zs.getD i (0,.inl 0,.non)).2.1) (fk (hf _ hm).1) hd λh' hd' hs=>hq h' _ (le_succ _) hs ?_;have e1:=fc hg;have e2:=qX hnd hg;rw[e1,map_append];unfold stored at hd';rw[if_neg]at hd'
  ·exact hd'
  ·intro ha;obtain⟨p,hp,he⟩:=any_eq_true.mp ha;obtain⟨z,hz',rfl⟩:=mem_map.mp hp;exact e2 (mem_map.mpr ⟨z,hz',of_decide_eq_true he⟩)
 ·rw[hsz,take_length]at hd;obtain⟨ob,hob⟩:∃ob,h'.get? s.heap.objs.size=some ob:=let⟨o,_,_,ho,_⟩:=hd;⟨o,ho⟩;have hrel:KV (zs.map (·.2)) (zs.map λz=>(z.2.1,(f z).2)):=by
   have:∀ys:List (Addr×Key×V),(∀z∈ys,z∈zs)→KV (ys.map (·.2)) (ys.map λz=>(z.2.1,(f z).2)):=by
    intro ys
    induction ys with
    |nil=>intro _;exact .nil
    |cons z ys ih=>intro hm;exact .cons ⟨rfl,(hf z (hm z (by simp))).2.1⟩ (ih λy hy=>hm y (by simp[hy]))
   exact this zs λz hz=>hz
  have hdk:∀H':Hp,bf X.prog X.w H' h' s.heap.objs.size (.dK (zs.map (·.2))):=λH'=>ja (le_of_lt (ao (by rw[length_map];exact hz))) (beq_eq_false_iff_ne.mpr (symm (ne_of_lt I.big))) hrel hd;rcases q with q|q
  ·exact⟨.ref s.heap.objs.size,_,I.laid (t':=tk) (o:=.frz ob (.dK (zs.map (·.2)))) hkeep (le_refl _) ⟨hob,hdk _⟩,rfl,q _ ob (I.hok.fresh (le_refl _))⟩
  ·exact⟨.ref s.heap.objs.size,_,I.laid (t':=tk) (o:=.dK (zs.map (·.2))) hkeep (le_refl _) (hdk _),rfl,q _ (I.hok.fresh (le_refl _))⟩
theorem oI(hc:X.calm=true):cK X (.type "dict") (λxs H Q=>∃l,∃zs:List (Addr×Key×V),xs=[.ref l]∧H l=some (.lst ((zs.map (·.1)).map V.ref))∧(∀z∈zs,H z.1=some (.tup [kV z.2.1,z.2.2]))∧zs.length≤1000∧(zs.map (·.2.1)).Nodup∧∀d o,H d=none→Q (.ref d) (upd H d (.frz o (.dK (zs.map (·.2)))))) :=
 λpins s σ H xs us Q I r ⟨l,zs,h1,h2,h3,h4,h5,q⟩=>iz hc pins s σ H xs us Q I r ⟨l,zs,h1,h2,h3,h4,h5,.inl q⟩
theorem iA(hc:X.calm=true):cK X (.type "dict") (λxs H Q=>∃l,∃zs:List (Addr×Key×V),xs=[.ref l]∧H l=some (.lst ((zs.map (·.1)).map V.ref))∧(∀z∈zs,H z.1=some (.tup [kV z.2.1,z.2.2]))∧zs.length≤1000∧(zs.map (·.2.1)).Nodup∧∀d,H d=none→Q (.ref d) (upd H d (.dK (zs.map (·.2))))) :=
 λpins s σ H xs us Q I r ⟨l,zs,h1,h2,h3,h4,h5,q⟩=>iz hc pins s σ H xs us Q I r ⟨l,zs,h1,h2,h3,h4,h5,.inr q⟩
end
section
variable{prog:Program}{w:World}{A:Around}{E:Value→Shared→Prop}{s:Shared}
end
section
variable{X:Cx}{tg:Expr}
end
section
variable{prog:Program}{w:World}{A:Around}{E:Value→Shared→Prop}{s:Shared}
end
section
variable{X:Cx}
theorem vC{P:Program}{w:World}{kvs:List (Key×V)}{vs:List (Key×Value)}{acc:Array Value}(rel:KV kvs vs)(h:ItemsOf (λi v=>∃k x,vs[i]?=some (k,x)∧(aG P w).is k v=true) acc vs.length):aw (kvs.map λp=>kV p.1) acc.toList:=by
 obtain⟨h1,h2⟩:=h;have hl:acc.toList.length=vs.length:=by simpa using h1
 have h3:∀(i:Nat)(v:Value),acc.toList[i]?=some v→∃k x,vs[i]?=some (k,x)∧(aG P w).is k v=true:=λi v hv=>h2 i v (by simpa using hv);clear h1 h2;generalize acc.toList=l at hl h3
 induction rel generalizing l with
 |nil =>
  cases l with
  |nil=>exact .nil
  |cons a r=>simp at hl
 |@cons p q kvs vs r _ ih =>
  cases l with
  |nil=>simp at hl
  |cons a l =>
   refine .cons ?_ (ih l (by simpa using hl) λi v hv=>by simpa using h3 (i+1) v (by simpa using hv))
   obtain⟨k,x,e1,e2⟩:=h3 0 a rfl;have e3:q=(k,x):=by simpa using e1
   show aA (kV p.1) a;rw[r.1,e3];rcases aR e2 with⟨i,t,e4,e5⟩|⟨y,t,e4,e5⟩
   ·rw[e4,e5];exact⟨t,rfl⟩
   ·rw[e4,e5];exact⟨t,rfl⟩
end
end L2
namespace HT
open PySem PyProof.Rows
def eF(x y:Str):Bool:=decide (x.cps.toList<y.cps.toList)
theorem vD{x y:Str}(h:x.cps.toList=y.cps.toList):x=y:=by
 obtain⟨x⟩:=x;obtain⟨y⟩:=y
 congr
 exact toList_inj.mp h
theorem qY(x:Str):eF x x=false:=decide_eq_false (List.lt_irrefl _)
theorem sN{x y z:Str}(h1:eF x y=true)(h2:eF y z=true):eF x z=true:=by
 unfold eF at *;rw[decide_eq_true_eq]at *;exact List.lt_trans h1 h2
theorem qZ{x y:Str}(h:x≠y):eF x y=true∨eF y x=true:=by
 unfold eF;rw[decide_eq_true_eq,decide_eq_true_eq];rcases Decidable.em (x.cps.toList<y.cps.toList)with a|a
 ·exact .inl a
 ·refine .inr ?_;have hle:y.cps.toList≤x.cps.toList:=not_lt.mp a;rcases Decidable.em (y.cps.toList<x.cps.toList)with b|b
  ·exact b
  ·have hle2:x.cps.toList≤y.cps.toList:=not_lt.mp b;exact absurd (vD (List.le_antisymm hle2 hle)) h
section
open PySem.SeqAt
open PySem.AutoSeq1 (wpAny_loadPart')
open PySem.MeetsSeq PySem.MeetsSeq2 PySem.MeetsSeq3
end
section
variable{prog:Program}{w:World}{A:Around}{E:Value→Shared→Prop}{s:Shared}
end
end HT
namespace L2
open PySem PySem.Spec PyProof.Rows
section
variable{X:Cx}
theorem sO{α β:Type}{l:List α}{f:α→β}{d:α}{e:β}{i:Nat}(h:i<l.length):(l.map f).getD i e=f (l.getD i d):=by
 rw[getD_eq_getElem?_getD,getD_eq_getElem?_getD,getElem?_map,getElem?_eq_getElem h];rfl
theorem ik{α:Type}{zs:List α}{val:α→V}{d:α}:∀{us:List Value},aw (zs.map val) us→∀(ps:List Nat),(∀i∈ps,i<zs.length)→aw ((ps.map λi=>zs.getD i d).map val) (ps.map λi=>us.getD i Value.none):=by
 intro us rv ps
 induction ps with
 |nil=>intro _;exact .nil
 |cons i ps ih =>
  intro h;refine .cons ?_ (ih λj hj=>h j (by simp[hj]));have hi:=h i (by simp);obtain⟨u,hu,r⟩:=rv.get (i:=i) (x:=val (zs.getD i d)) (by rw[getElem?_map,(cN (d:=d) hi).2];rfl);have:us.getD i Value.none=u:=by rw[getD_eq_getElem?_getD,hu];rfl
  show aA (val (zs.getD i d)) (us.getD i Value.none);rw[this];exact r
theorem my{α:Type}{zs:List α}{val:α→V}{d:α}{us:List Value}{f:α→α→Bool}{l:Addr}{pins:List (Addr×Obj)}{σ:St}{H:Hp}{s:Shared}{Q:VK}{κ:SortKind}{E:Value→Shared→Prop}(I:Inv X pins σ H s)(rv:aw (zs.map val) us)(O:SRT.Ord (λi j=>f (zs.getD i d) (zs.getD j d)) zs.length)(pl:s.heap.IsList l us.toArray)(h64:zs.length<64)(hk:∀(A':Around) (s':Shared),A'.units≤X.A.units+2→(∀b o,s.heap.get? b=some o→s'.heap.get? b=some o)→∀Q:SortKind→Shared→Prop,2≤zs.length→Q κ s'→wpAny (model X.prog X.w) A' (keyKind' us.toArray) Q (λ_ _=>False) s')(hlt:∀(A':Around) (s':Shared),A'.units≤X.A.units+2→(∀b o,s.heap.get? b=some o→s'.heap.get? b=some o)→∀(i j:Nat) (C:Bool→Shared→Prop),i<zs.length→j<zs.length→C (f (zs.getD i d) (zs.getD j d)) s'→wpAny (model X.prog X.w) A' (keyLt' κ (us.getD i Value.none) (us.getD j Value.none)) C (λ_ _=>False) s')(q:∀zs':List α,zs'.Perm zs→zs'.Pairwise (λa b=>f a b=true)→∀p,H p=none→Q (.ref p) (upd H p (.lst (zs'.map val)))):wpAny (model X.prog X.w) X.A (call (.builtin "sorted") [.ref l]) (EP X pins σ Q) E s:=by
 have hlen:us.length=zs.length:=by rw[←rv.length,length_map]
 refine SRT.qT (κ:=κ) (f:=λi j=>f (zs.getD i d) (zs.getD j d)) (by rw[hlen];exact O) pl (by rw[hlen];exact h64) (λA' s' h1 h2 Q' h3=>hk A' s' h1 h2 Q' (by omega)) (λA' s' h1 h2 i j C hi hj=>hlt A' s' h1 h2 i j C (by omega) (by omega)) ?_;intro p h' hrow hup kp _ hg;obtain⟨c,hg⟩:=hg;rw[hlen]at hrow hup;have hin:∀i∈p.toList,i<zs.length:=λi hi=>mem_range.mp (hrow.perm.mem_iff.mp hi);have hperm:(p.toList.map λi=>zs.getD i d).Perm zs:=by
  refine(hrow.perm.map _).trans ?_;have:(List.range zs.length).map (λi=>zs.getD i d)=zs:=by
   apply ext_getElem?;intro i;rw[getElem?_map]
   by_cases hi:i<zs.length
   ·rw[getElem?_range hi,(cN (d:=d) hi).2];rfl
   ·rw[getElem?_eq_none (by rw[length_range];omega),getElem?_eq_none (by omega)];rfl
  rw[this]
 have hpl:p.size=zs.length:=hrow.size;have hpw:(p.toList.map λi=>zs.getD i d).Pairwise (λa b=>f a b=true):=by
  rw[pairwise_iff_getElem];intro i j hi hj hij;have hi':i<p.size:=by rw[length_map,length_toList]at hi;exact hi
  have hj':j<p.size:=by rw[length_map,length_toList]at hj;exact hj
  have:=hup i j hij (by omega);simp only[]at this;rw[getD_eq_getD_getElem?,getD_eq_getD_getElem?,Array.getElem?_eq_getElem hi',Array.getElem?_eq_getElem hj']at this;simpa using this
 refine⟨.ref (s.heap.objs.size+1),_,I.laid (t':=s.toks) (o:=.lst ((p.toList.map λi=>zs.getD i d).map val)) kp (le_succ _) ⟨?_,_,c,ik rv p.toList hin,hg⟩,rfl,q _ hperm hpw _ (I.hok.fresh (le_succ _))⟩;rw[length_map,hperm.length_eq,sizeLine_eq];omega
theorem pQ{ns:List Int}{us:List Value}(r:aw (ns.map V.int) us):IntsAre us ns:=ou r
theorem il:cK X (.builtin "sorted") (λxs H Q=>∃l,∃ns:List Int,xs=[.ref l]∧H l=some (.lst (ns.map V.int))∧ns.Nodup∧ns.length<64 ∧
  ∀ms:List Int,ms.Perm ns→ms.Pairwise (λa b=>a<b)→∀p,H p=none→Q (.ref p) (upd H p (.lst (ms.map V.int)))):=by
 intro pins s σ H xs us Q I r h;obtain⟨l,ns,rfl,hl,hnd,h64,q⟩:=h;obtain⟨u,rfl,ru⟩:=dE r;cases ru;obtain⟨_,its,n,rv,ho⟩:=I.hok l _ hl;have hI:=pQ rv;have hlen:its.length=ns.length:=by rw[←rv.length,length_map]
 refine my (val:=V.int) (d:=(0:Int)) (f:=λa b=>decide (a<b)) (κ:=oneType') I rv ⟨λi _=>by simp,λi j k _ _ _ h1 h2=>?_,λi j hi hj hij=>?_⟩ ⟨_,ho,rfl,n,rfl⟩ h64 (λA' s' _ _ Q' h2 hQ=>?_) (λA' s' _ _ i j C hi hj hC=>?_) λzs' h1 h2 p hp=>q zs' h1 (h2.imp λh=>by simpa using h) p hp
 ·simp only[decide_eq_true_eq]at *;omega
 ·simp only[decide_eq_true_eq];have:ns.getD i 0≠ns.getD j 0:=by
   rw[getD_eq_getElem?_getD,getD_eq_getElem?_getD,getElem?_eq_getElem hi,getElem?_eq_getElem hj];exact λe=>hij ((getElem_inj hnd).mp e)
  omega
 ·rw[ksk_kind (keys:=its.toArray) (kz:=ns) (by simpa using hI) (by rw[size_toArray];omega)];exact wpAny_pure hQ
 ·have gi:∀i,i<ns.length→∃t,its.getD i Value.none=.int (ns.getD i 0) t:=λi hi=>by
   obtain⟨v,hv,r⟩:=rv.get (i:=i) (x:=.int (ns.getD i 0)) (by rw[getElem?_map,(cN (d:=(0:Int)) hi).2];rfl);obtain⟨t,rfl⟩:=r;exact⟨t,by rw[getD_eq_getElem?_getD,hv];rfl⟩
  obtain⟨t,e1⟩:=gi i hi;obtain⟨t',e2⟩:=gi j hj;rw[e1,e2];exact kat_lt_int hC
end
def kc(H:Hp):Nat→V→V→Prop
 |0,x,y=>x=y∧cn x=true
 |n+1,x,y=>(x=y∧cn x=true)∨∃a b xs ys,x=.ref a∧y=.ref b∧H a=some (.tup xs)∧H b=some (.tup ys)∧xs.length=ys.length∧∀(i:Nat) x' y',xs[i]?=some x'→ys[i]?=some y'→kc H n x' y'
theorem gF{x:V}(f:cn x=true):eqV x x=true:=by
 cases x<;>first|rfl|(simp[eqV];done) | (exact absurd (show false=true from f) Bool.false_ne_true)
theorem dk{H:Hp}{n:Nat}{x y:V}(h:x=y∧cn x=true):kc H n x y:=by
 cases n with
 |zero=>exact h
 |succ n=>exact .inl h
section
variable{X:Cx}{pins:List (Addr×Obj)}{σ:St}{H:Hp}{s:Shared}
theorem sP(I:Inv X pins σ H s):∀(n:Nat){A:Around}{x y:V}{u v:Value},aA x u→aA y v→kc H n x y→A.units+n<cLine→EqAt A s u v true:=by
 intro n
 induction n with
 |zero =>
  intro A x y u v ru rv h hu;obtain⟨e,f⟩:=h;subst e;have:=ib (A:=A) (s:=s) ru rv f f;rw[gF f]at this;exact this
 |succ n ih =>
  intro A x y u v ru rv h hu;rcases h with⟨e,f⟩|⟨a,b,xs,ys,rfl,rfl,ha,hb,hl,hx⟩
  ·subst e;have:=ib (A:=A) (s:=s) ru rv f f;rw[gF f]at this;exact this
  ·cases ru;cases rv
   by_cases hab:a=b
   ·subst hab;exact EqAt.same _
   ·obtain⟨_,us,r1,t1⟩:=I.hok a _ ha;obtain⟨_,ws,r2,t2⟩:=I.hok b _ hb;have l1:=r1.length;have l2:=r2.length;have:=RcAt.tuples (A:=A) (s:=s) (e:=λ_=>true) t1 t2 (by omega) (λj h1 h2=>by
     have h1':j<xs.length:=by rw[l1];simpa using h1
     have h2':j<ys.length:=by rw[l2];simpa using h2
     obtain⟨u',hu1,hu2⟩:=r1.get (getElem?_eq_getElem h1');obtain⟨v',hv1,hv2⟩:=r2.get (getElem?_eq_getElem h2');have e1:us.toArray[j]=u':=by
      have:us[j]?=some us.toArray[j]:=by rw[getElem?_eq_getElem (by simpa using h1)];simp
      rw[hu1]at this;exact(Option.some.inj this).symm
     have e2:ws.toArray[j]=v':=by
      have:ws[j]?=some ws.toArray[j]:=by rw[getElem?_eq_getElem (by simpa using h2)];simp
      rw[hv1]at this;exact(Option.some.inj this).symm
     rw[e1,e2];exact ih hu2 hv2 (hx j _ _ (getElem?_eq_getElem h1') (getElem?_eq_getElem h2')) (by simp[Around.in1_units];omega))
    have e3:((List.range (min us.toArray.size ws.toArray.size)).all (λ_=>true)&&us.toArray.size==ws.toArray.size)=true:=by
     have:us.toArray.size=ws.toArray.size:=by simp only[size_toArray];omega
     simp[this]
    rw[e3]at this;exact EqAt.of_refs hab this
def dL(H:Hp)(xs ys:List V):Prop:=xs.length=ys.length∧∀(i:Nat) x y,xs[i]?=some x→ys[i]?=some y→kc H 3 x y
theorem gG{pins:List (Addr×Obj)}{σ:St}{H:Hp}{s:Shared}(I:Inv X pins σ H s){xs ys:List V}{us ws:List Value}(r1:aw xs us)(r2:aw ys ws)(h:dL H xs ys){A:Around}(hu:A.units+3<cLine):
  ∀j (h1:j<us.toArray.size) (h2:j<ws.toArray.size),EqAt A s us.toArray[j] ws.toArray[j] true:=λj h1 h2=>by
 have h1':j<xs.length:=by rw[r1.length];simpa using h1
 have h2':j<ys.length:=by rw[r2.length];simpa using h2
 obtain⟨u',hu1,hu2⟩:=r1.get (getElem?_eq_getElem h1');obtain⟨v',hv1,hv2⟩:=r2.get (getElem?_eq_getElem h2');have e1:us.toArray[j]=u':=by
  have:us[j]?=some us.toArray[j]:=by rw[getElem?_eq_getElem (by simpa using h1)];simp
  rw[hu1]at this;exact(Option.some.inj this).symm
 have e2:ws.toArray[j]=v':=by
  have:ws[j]?=some ws.toArray[j]:=by rw[getElem?_eq_getElem (by simpa using h2)];simp
  rw[hv1]at this;exact(Option.some.inj this).symm
 rw[e1,e2];exact sP I 3 hu2 hv2 (h.2 j _ _ (getElem?_eq_getElem h1') (getElem?_eq_getElem h2')) hu
theorem sQ(hu:X.A.units+4<cLine):OpR X (compareOp .NotEq) (λx y H Q=>rNe x y H Q∨(∃a b xs ys,x=.ref a∧y=.ref b∧dL H xs ys∧((H a=some (.lst xs)∧H b=some (.lst ys))∨(H a=some (.tup xs)∧H b=some (.tup ys)))∧Q (.bl false) H)):=by
 intro pins s σ H x y v u Q I rx ry h;rcases h with h|⟨a,b,xs,ys,rfl,rfl,hx,h,q⟩
 ·exact iS pins s σ H x y v u Q I rx ry h
 ·cases rx;cases ry;rcases h with⟨ha,hb⟩|⟨ha,hb⟩
  ·obtain⟨_,us,n1,r1,o1⟩:=I.hok a _ ha;obtain⟨_,ws,n2,r2,o2⟩:=I.hok b _ hb;have hl:=hx.1;have l1:=r1.length;have l2:=r2.length;refine RcNeAt.lists (e:=λ_=>true) ⟨_,o1,rfl,n1,rfl⟩ ⟨_,o2,rfl,n2,rfl⟩ (by simp only[size_toArray];omega) (by omega) (gG I r1 r2 hx (by simp[Around.in1_units];omega)) _ _ _ _ ⟨.bl false,H,I,?_,q⟩;show _=Value.bool false;simp
  ·obtain⟨_,us,r1,t1⟩:=I.hok a _ ha;obtain⟨_,ws,r2,t2⟩:=I.hok b _ hb;have hl:=hx.1;have l1:=r1.length;have l2:=r2.length;refine RcNeAt.tuples (e:=λ_=>true) t1 t2 (by omega) (gG I r1 r2 hx (by simp[Around.in1_units];omega)) _ _ _ _ ⟨.bl false,H,I,?_,q⟩;show _=Value.bool false;have:us.toArray.size=ws.toArray.size:=by simp only[size_toArray];omega
   simp[this]
theorem wT{A:Around}{s:Shared}{bs:List Bool}:∀y,y∈(bs.map Value.bool).toArray→EqAt A s y (.bool true) (y==.bool true):=λy hy=>by
 have hy':y∈bs.map Value.bool:=by simpa using hy
 obtain⟨b,_,rfl⟩:=mem_map.mp hy';have:=EqAt.bool_bool (A:=A) (s:=s) b true;cases b<;>exact this
theorem sR:MtM X "list.count" (λx vs H Q=>∃l,∃bs:List Bool,x=.ref l∧vs=[.bl true]∧H l=some (.lst (bs.map V.bl))∧Q (.int (bs.count true:Nat)) H):=by
 intro pins s σ H x vs v us Q I rx rv h;obtain⟨l,bs,rfl,rfl,hl,q⟩:=h;cases rx;obtain⟨u,rfl,ru⟩:=dE rv;cases (show u=Value.bool true from ru);obtain⟨_,its,n,r,ho⟩:=I.hok l _ hl;have e:=iL r;subst e;refine call_meets PySem.F.slot_list_count ⟨_,ho,rfl⟩ PySem.F.entry_list_count (PySem.F.args_list_count_2 _ _) (SeqAt.list_countAt l _ n none #[] (.bool true) (λy=>y==.bool true)) ⟨ho,wT,⟨.int (bs.count true:Nat),H,I.tok _,?_,q⟩⟩;have:((bs.map Value.bool).toArray.toList.countP λy=>y==.bool true)=bs.count true:=by
  rw[List.count];simp only[List.countP_map]
  congr 1
  funext b
  cases b<;>rfl
 rw[this];exact⟨_,rfl⟩
theorem sS:MtM X "list.index" (λx vs H Q=>∃l j,∃bs:List Bool,x=.ref l∧vs=[.bl true]∧H l=some (.lst (bs.map V.bl))∧bs.length≤1000∧bs[j]?=some true∧(∀m,m<j→bs[m]?=some false)∧Q (.int (j:Nat)) H):=by
 intro pins s σ H x vs v us Q I rx rv h;obtain⟨l,j,bs,rfl,rfl,hl,hz,hj,hm,q⟩:=h;cases rx;obtain⟨u,rfl,ru⟩:=dE rv;cases (show u=Value.bool true from ru);obtain⟨_,its,n,r,ho⟩:=I.hok l _ hl;have e:=iL r;subst e;have hjl:j<bs.length:=(List.getElem?_eq_some_iff.mp hj).1;refine call_meets PySem.F.slot_list_index ⟨_,ho,rfl⟩ PySem.F.entry_list_index (PySem.F.args_list_index_2 _ _) (SeqAt.list_indexAt l _ n none #[] (.bool true) (λy=>y==.bool true) j (by simpa using hjl) (by omega) ?_ ?_) ⟨ho,wT,⟨.int (j:Nat),H,I.tok _,⟨_,rfl⟩,q⟩⟩
 ·have:=(List.getElem?_eq_some_iff.mp hj).2;simp[this]
 ·intro m hm1 hm2;have:=(List.getElem?_eq_some_iff.mp (hm m hm2)).2;simp[this]
theorem aP:cK X (.builtin "isinstance") (λxs H Q=>∃ea C c b,xs=[.ref ea,c]∧H ea=some (.ext (XI.mw ea C))∧XI.dJ X.K C=true∧((∃n,c=.ty n∧kitOne X.K (.ref C) (.type n)=some b)∨(∃D,c=.ref D∧kitOne X.K (.ref C) (.ref D)=some b))∧Q (.bl b) H):=by
 intro pins s σ H xs us Q I r h;obtain⟨ea,C,c,b,rfl,hH,hxc,hc,q⟩:=h;obtain⟨u,u',rfl,ru,ru'⟩:=wO r;cases ru;obtain⟨hex,_,_⟩:=I.hok ea _ hH;rcases hc with⟨n,rfl,e⟩|⟨D,rfl,e⟩
 ·cases (show u'=Value.type n from ru');exact kia_one (XI.mx hxc) I.kIn hex e (λz=>nomatch z) λtk=>⟨.bl b,H,I.tok tk,rfl,q⟩
 ·cases (show u'=Value.ref D from ru');exact kia_one (XI.mx hxc) I.kIn hex e (λz=>nomatch z) λtk=>⟨.bl b,H,I.tok tk,rfl,q⟩
end
section
variable{prog:Program}{w:World}{A:Around}{E:Value→Shared→Prop}{s:Shared}
end
section
variable{P:Program}{w:World}
end
section
variable{X:Cx}{o e:Expr}{td ty:TE}{apos cpos:Pos}
end
def Ext(p:Addr)(H H':Hp):Prop:=∀b o,b≠p→H b=some o→H' b=some o
theorem Ext.of{p:Addr}{H H':Hp}(s:Same H H'):Ext p H H':=λb o _ e=>s b o e
theorem Ext.upd{p:Addr}{H:Hp}{o:HO}:Ext p H (upd H p o):=λb u hb e=>by rw[ai hb];exact e
theorem Ext.trans{p:Addr}{H H1 H2:Hp}(a:Ext p H H1)(b:Ext p H1 H2):Ext p H H2:=λc o hc e=>b c o hc (a c o hc e)
def MonoE(te:TE):Prop:=∀σ H (Q Q':VK),(∀y H,Q y H→Q' y H)→te σ H Q→te σ H Q'
theorem sT{js:List Nat}{J:It}{te:TE}{σ:St}{H1:Hp}{Q:VK}{p:Addr}{fr:List (Option V)}(n:Nat)(hn:n≤1000)(hp:H1 p=none)(hfr:cZ 1 js σ=none::fr)(R:Nat→V→Hp→Prop)(hR:∀i y H H',R i y H→Ext p H H'→R i y H')(go:∀i H',i<n→Same H1 H'→J.go i H')(stop:∀H',Same H1 H'→J.stop n H')(me:MonoE te)(step:∀i H' x H2,i<n→Same H1 H'→(∃ys,H' p=some (.lst ys))→J.yld i H' x H2→H2=H'∧te (some x::fr) H' λy H4=>Same H' H4∧R i y H4)(fin:∀ys H',Same H1 H'→H' p=some (.lst ys)→ys.length=n→(∀(j:Nat) y,ys[j]?=some y→R j y H')→Q (.ref p) H'):LcW 1 js (cm 0) te σ Q J H1 p:=by
 refine wR (k:=1) (js:=js) (J:=J) (p:=p) n hn (λi ys σ' H'=>(∃o,σ'=o::fr)∧Same H1 H'∧H' p=some (.lst ys)∧ys.length=i∧∀(j:Nat) y,ys[j]?=some y→R j y H') ⟨⟨none,hfr⟩,af hp,ac,rfl,λj y h=>by simp at h⟩
  (λi ys σ' H' h=>by have:=h.2.2.2.1;omega) (λi ys σ' H' hi h=>go i H' hi h.2.1) (λys σ' H' h=>⟨stop H' h.2.1,fin ys H' h.2.1 h.2.2.1 h.2.2.2.1 h.2.2.2.2⟩) (λi ys σ' H' hi h x H2 hy=>?_) ?_ me
 ·obtain⟨⟨o,rfl⟩,s1,hl,hlen,hrs⟩:=h;obtain⟨rfl,ht⟩:=step i H' x H2 hi s1 ⟨ys,hl⟩ hy;refine me _ _ _ _ (λy H4 h4=>?_) ht;obtain⟨s4,r4⟩:=h4;refine⟨s4 _ _ hl,⟨some x,rfl⟩,bq hp (s1.trans s4),ac,by rw[length_append,hlen];rfl,λj z hz=>?_⟩;have ex:Ext p H2 (upd H4 p (.lst (ys++[y]))):=(Ext.of s4).trans Ext.upd
  by_cases hj:j<ys.length
  ·rw[getElem?_append_left hj]at hz;exact hR _ _ _ _ (hrs j z hz) ex
  ·rw[getElem?_append_right (by omega)]at hz;have hj':j-ys.length=0:=by
    cases e:j-ys.length with
    |zero=>rfl
    |succ m=>rw[e]at hz;simp at hz
   rw[hj']at hz;have ez:y=z:=by simpa using hz
   subst ez;have ej:j=i:=by omega
   subst ej;exact hR _ _ _ _ r4 Ext.upd
 ·intro _ _ _ _ _ m q;exact m _ _ q
theorem jl{H:Hp}{p q:Addr}(hp:∃ys,H p=some (.lst ys))(hq:H q=none):q≠p:=λe=>by
 obtain⟨ys,h⟩:=hp;rw[←e,hq]at h;cases h
section
variable{X:Cx}{N:List Str}{scope:Scope}{cl:List (Str×Addr)}{k:Nat}{js:List Nat}
end
abbrev TJ:=St→Hp→(Hp→Prop)→Prop
section
variable{X:Cx}{tg:Expr}
def PJ(X:Cx)(ps:List Expr)(b:Nat)(t:TJ):Prop :=
 ∀(out:Str)(pins:List (Addr×Obj))(s:Shared)(σ:St)(H:Hp)(Q:VK),Inv X pins σ H s→out.length+b≤1000→(t σ H λH1=>∀y,Q (.str y) H1)→wpAny (model X.prog X.w) X.A (joinParts out (evalEach ps X.env)) (EP X pins σ Q) X.xe s
theorem dY:PJ X [] 0 (λσ H k=>k H):=by
 intro out pins s σ H Q I hb h;exact joinParts_nilE (joinParts_nil ⟨.str _,H,I.tok _,⟨_,rfl⟩,h _⟩ (le_of_lt (ao (by omega))))
theorem cj{x:Str}{c b:Nat}{j:Nat}{p:Pos}{ps:List Expr}{t:TJ}(hx:x.length≤c)(h:PJ X ps b t):PJ X (.Constant (.str x) j p::ps) (c+b) t:=by
 intro out pins s σ H Q I hb hq;refine joinParts_cons (Constant_str ?_);have hl:(out++x).length=out.length+x.length:=strLen_append ..;exact⟨le_of_lt (ao (by omega)),h _ pins _ σ H Q (I.tok _) (by omega) hq⟩
theorem jm{e:Expr}{te:TE}{b:Nat}{p:Pos}{ps:List Expr}{t:TJ}(he:PE X e te)(h:PJ X ps b t):PJ X (.FormattedValue e (-1) none p::ps) (100+b) (λσ H k=>te σ H λv H1=>∃i:Int,v=.int i∧0≤i∧i≤60∧t σ H1 k):=by
 intro out pins s σ H Q I hb hq;refine joinParts_cons (FormattedValue_plain (thn (he pins _ σ H _ I hq) λv s1 hpt=>?_));obtain⟨y,H1,I1,r1,q1⟩:=hpt;obtain⟨i,rfl,h0,h1,q⟩:=q1;obtain⟨tk,rfl⟩:=r1;have h2:=fQ i h0 h1;have hl:(out++ofString (toString i)).length=out.length+(ofString (toString i)).length:=strLen_append ..;refine formatField_int_small (lt_of_le_of_lt (log2_le_self _) (by omega)) ⟨le_of_lt (ao (by omega)),?_⟩;exact h _ pins _ σ H1 Q (I1.tok _) (by omega) q
theorem xO{e:Expr}{te:TE}{b:Nat}{p:Pos}{ps:List Expr}{t:TJ}(he:PE X e te)(h:PJ X ps b t):PJ X (.FormattedValue e (-1) none p::ps) (100+b) (λσ H k=>te σ H λv H1=>∃x:Str,v=.str x∧x.length≤100∧t σ H1 k):=by
 intro out pins s σ H Q I hb hq;refine joinParts_cons (FormattedValue_plain (thn (he pins _ σ H _ I hq) λv s1 hpt=>?_));obtain⟨y,H1,I1,r1,q1⟩:=hpt;obtain⟨x,rfl,h2,q⟩:=q1;obtain⟨tk,rfl⟩:=r1;have hl:(out++x).length=out.length+x.length:=strLen_append ..;refine formatField_str (λt' tk=>⟨le_of_lt (ao (by omega)),?_⟩) (le_of_lt (ao (by omega)));exact h _ pins _ σ H1 Q (I1.tok _) (by omega) q
def zp(t:TJ):TE:=λσ H Q=>t σ H λH1=>∀y,Q (.str y) H1
theorem db{p1 p2:Expr}{ps:List Expr}{pos:Pos}{b:Nat}{t:TJ}(h:PJ X (p1::p2::ps) b t)(hb:b≤1000):PE X (.JoinedStr (p1::p2::ps) pos) (zp t):=by
 intro pins s σ H Q I hq;exact JoinedStr_many (h empty pins s σ H Q I (by show 0+b≤1000;omega) hq)
theorem Ar{E:XK}(L:Lv X E):PassesOwn (model X.prog X.w) X.A X.env X.xe:=by
 rw[L.xe];exact PassesOwn.leaving
theorem sU(hu:X.A.units+4<cLine):OpR X (compareOp .Eq) (λx y H Q=>rEq x y H Q∨(∃a b xs ys,x=.ref a∧y=.ref b∧dL H xs ys∧((H a=some (.lst xs)∧H b=some (.lst ys))∨(H a=some (.tup xs)∧H b=some (.tup ys)))∧Q (.bl true) H)):=by
 intro pins s σ H x y v u Q I rx ry h;rcases h with h|⟨a,b,xs,ys,rfl,rfl,hx,h,q⟩
 ·exact gl pins s σ H x y v u Q I rx ry h
 ·cases rx;cases ry;rcases h with⟨ha,hb⟩|⟨ha,hb⟩
  ·obtain⟨_,us,n1,r1,o1⟩:=I.hok a _ ha;obtain⟨_,ws,n2,r2,o2⟩:=I.hok b _ hb;have hl:=hx.1;have l1:=r1.length;have l2:=r2.length;refine eq_listAt (e:=λ_=>true) ⟨_,o1,rfl,n1,rfl⟩ ⟨_,o2,rfl,n2,rfl⟩ (by simp only[size_toArray];omega) (by omega) (gG I r1 r2 hx (by simp[Around.in1_units];omega)) ⟨.bl true,H,I,?_,q⟩;show _=Value.bool true;simp
  ·obtain⟨_,us,r1,t1⟩:=I.hok a _ ha;obtain⟨_,ws,r2,t2⟩:=I.hok b _ hb;have hl:=hx.1;have l1:=r1.length;have l2:=r2.length;refine SeqAt.eq_tupleAt (e:=λ_=>true) t1 t2 (by omega) (gG I r1 r2 hx (by simp[Around.in1_units];omega)) ⟨.bl true,H,I,?_,q⟩;show _=Value.bool true;have:us.toArray.size=ws.toArray.size:=by simp only[size_toArray];omega
   simp[this]
end
theorem Same.seqT{K:PySem.W.Frag}{H H':Hp}{a:Addr}{xs:List V}(e:Same H H')(h:SqT K H a xs):SqT K H' a xs:=by
 rcases h with (h|⟨o,h⟩)|h
 ·exact .inl (.inl (e _ _ h))
 ·exact .inl (.inr ⟨o,e _ _ h⟩)
 ·exact .inr h
structure Src(J:It)(H1:Hp)(xs:List V):Prop where
 go:∀i H',i<xs.length→Same H1 H'→J.go i H'
 stop:∀H',Same H1 H'→J.stop xs.length H'
 yl:∀i H' x H2,i<xs.length→Same H1 H'→J.yld i H' x H2→H2=H'∧xs[i]?=some x
theorem pR{K:PySem.W.Frag}{a:Addr}{xs:List V}{H1:Hp}(h:SqT K H1 a xs):Src (Itt K a) H1 xs :=
 ⟨λi H' hi s=>⟨xs,xs[i],s.seqT h,getElem?_eq_getElem hi⟩,λH' s=>⟨xs,s.seqT h,le_refl _⟩,λi H' x H2 _ s ⟨e,y⟩=>⟨e,y xs (by subst e;exact s.seqT h)⟩⟩
theorem lr{K:PySem.W.Frag}{a:Addr}{xs:List V}{H1:Hp}(h:SqL K H1 a xs):Src (Itl K a) H1 xs :=
 ⟨λi H' hi s=>⟨xs,xs[i],s.seq h,getElem?_eq_getElem hi⟩,λH' s=>⟨xs,s.seq h,le_refl _⟩,λi H' x H2 _ s ⟨e,y⟩=>⟨e,y xs (by subst e;exact s.seq h)⟩⟩
theorem Paired.snoc{α β:Type}{R:α→β→Prop}:∀{as:List α}{bs:List β}{a:α}{b:β},Paired R as bs→R a b→Paired R (as++[a]) (bs++[b])
 |_,_,_,_,.nil,h=>.cons h .nil
 |_,_,_,_,.cons r t,h=>.cons r (Paired.snoc t h)
theorem sV{α:Type}{js:List Nat}{J:It}{tc:TT}{te:TE}{σ:St}{H1:Hp}{Q:VK}{p:Addr}{fr:List (Option V)}(zs:List α)(val:α→V)(hn:zs.length≤1000)(hp:H1 p=none)(S:Src J H1 (zs.map val))(hfr:cZ 1 js σ=none::fr)(g:α→Bool)(R:α→V→Hp→Prop)(hR:∀z y H H',R z y H→Ext p H H'→R z y H')(cond:∀z H' (k:Bool→Hp→Prop),z∈zs→Same H1 H'→(∃ys,H' p=some (.lst ys))→(∀H4,Same H' H4→k (g z) H4)→tc (some (val z)::fr) H' k)(elt:∀z H' (k:VK),z∈zs→g z=true→Same H1 H'→(∃ys,H' p=some (.lst ys))→(∀y H4,Same H' H4→R z y H4→k y H4)→te (some (val z)::fr) H' k)(fin:∀ys H',Same H1 H'→H' p=some (.lst ys)→Paired (λz y=>R z y H') (zs.filter g) ys→Q (.ref p) H'):zl 1 js (cm 0) tc te σ Q J H1 p:=by
 have grow:∀{as:List α}{ys:List V}{H H':Hp},Ext p H H'→Paired (λz y=>R z y H) as ys→Paired (λz y=>R z y H') as ys:=λex r=>Paired.mapP r λa b h=>hR a b _ _ h ex;have hlen:∀{as:List α}{ys:List V}{H:Hp},Paired (λz y=>R z y H) as ys→ys.length=as.length:=λr=>(Paired.length r).symm;refine⟨λi m ys σ' H'=>m=zs.length-i∧i≤zs.length∧(∃o,σ'=o::fr)∧Same H1 H'∧H' p=some (.lst ys)∧Paired (λz y=>R z y H') ((zs.take i).filter g) ys,⟨zs.length,by simp,zero_le _,⟨none,hfr⟩,af hp,ac,.nil⟩,?_⟩;rintro i m ys σ' H' ⟨rfl,hi,⟨o,rfl⟩,s1,hl,hys⟩
 by_cases hlt:i<zs.length
 ·have hlt':i<(zs.map val).length:=by rw[length_map];exact hlt
  refine .inr ⟨S.go i H' hlt' s1,?_,λx H2 hy=>?_⟩
  ·have h1:ys.length≤zs.length:=by
    rw[hlen hys];exact le_trans (length_filter_le _ _) (by rw[length_take];omega)
   exact lt_of_le_of_lt h1 (ao hn)
  ·obtain⟨rfl,hx⟩:=S.yl i H' x H2 hlt' s1 hy;have gz:zs[i]?=some zs[i]:=getElem?_eq_getElem hlt;have mz:=mem_of_getElem? gz;rw[getElem?_map,gz]at hx;have ex:val zs[i]=x:=Option.some.inj hx;have et:zs.take (i+1)=zs.take i++[zs[i]]:=fc gz;subst ex;generalize zs[i]=z at gz mz et⊢;refine cond z H2 _ mz s1 ⟨ys,hl⟩ λH4 s4=>?_;cases hb:g z with
   |true =>
    rw[if_pos rfl];refine elt z H4 _ mz hb (s1.trans s4) ⟨ys,s4 _ _ hl⟩ λy H5 s5 r5=>⟨s5 _ _ (s4 _ _ hl),zs.length-(i+1),by omega,rfl,hlt,⟨_,rfl⟩,bq hp ((s1.trans s4).trans s5),ac,?_⟩;rw[et,List.filter_append,filter_cons_of_pos hb];exact Paired.snoc (grow ((Ext.of (s4.trans s5)).trans Ext.upd) hys) (hR _ _ _ _ r5 Ext.upd)
   |false =>
    rw[if_neg (by simp)];refine⟨zs.length-(i+1),by omega,rfl,hlt,⟨_,rfl⟩,s1.trans s4,s4 _ _ hl,?_⟩;rw[et,List.filter_append,filter_cons_of_neg (by simp[hb]),List.filter_nil,append_nil];exact grow (Ext.of s4) hys
 ·have e:i=zs.length:=by omega
  subst e;have st:=S.stop H' s1;rw[length_map]at st;refine .inl ⟨st,fin ys H' s1 hl ?_⟩;rw[take_length]at hys;exact hys
theorem ls{α:Type}{js:List Nat}{J:It}{te:TE}{σ:St}{H1:Hp}{Q:VK}{p:Addr}{fr:List (Option V)}(zs:List α)(val:α→V)(hn:zs.length≤1000)(hp:H1 p=none)(S:Src J H1 (zs.map val))(hfr:cZ 1 js σ=none::fr)(R:α→V→Hp→Prop)(hR:∀z y H H',R z y H→Ext p H H'→R z y H')(elt:∀z H' (k:VK),z∈zs→Same H1 H'→(∃ys,H' p=some (.lst ys))→(∀y H4,Same H' H4→R z y H4→k y H4)→te (some (val z)::fr) H' k)(fin:∀ys H',Same H1 H'→H' p=some (.lst ys)→Paired (λz y=>R z y H') zs ys→Q (.ref p) H'):LcW 1 js (cm 0) te σ Q J H1 p:=by
 have grow:∀{as:List α}{ys:List V}{H H':Hp},Ext p H H'→Paired (λz y=>R z y H) as ys→Paired (λz y=>R z y H') as ys:=λex r=>Paired.mapP r λa b h=>hR a b _ _ h ex;have hlen:∀{as:List α}{ys:List V}{H:Hp},Paired (λz y=>R z y H) as ys→ys.length=as.length:=λr=>(Paired.length r).symm;refine⟨λi m ys σ' H'=>m=zs.length-i∧i≤zs.length∧(∃o,σ'=o::fr)∧Same H1 H'∧H' p=some (.lst ys)∧Paired (λz y=>R z y H') (zs.take i) ys,⟨zs.length,by simp,zero_le _,⟨none,hfr⟩,af hp,ac,.nil⟩,?_⟩;rintro i m ys σ' H' ⟨rfl,hi,⟨o,rfl⟩,s1,hl,hys⟩
 by_cases hlt:i<zs.length
 ·have hlt':i<(zs.map val).length:=by rw[length_map];exact hlt
  refine .inr ⟨S.go i H' hlt' s1,?_,λx H2 hy=>?_⟩
  ·have h1:ys.length≤zs.length:=by
    rw[hlen hys,length_take];omega
   exact lt_of_le_of_lt h1 (ao hn)
  ·obtain⟨rfl,hx⟩:=S.yl i H' x H2 hlt' s1 hy;have gz:zs[i]?=some zs[i]:=getElem?_eq_getElem hlt;have mz:=mem_of_getElem? gz;rw[getElem?_map,gz]at hx;have ex:val zs[i]=x:=Option.some.inj hx;have et:zs.take (i+1)=zs.take i++[zs[i]]:=fc gz;subst ex;generalize zs[i]=z at gz mz et⊢;refine elt z H2 _ mz s1 ⟨ys,hl⟩ λy H5 s5 r5=>⟨s5 _ _ hl,zs.length-(i+1),by omega,rfl,hlt,⟨_,rfl⟩,bq hp (s1.trans s5),ac,?_⟩;rw[et];exact Paired.snoc (grow ((Ext.of s5).trans Ext.upd) hys) (hR _ _ _ _ r5 Ext.upd)
 ·have e:i=zs.length:=by omega
  subst e;have st:=S.stop H' s1;rw[length_map]at st;refine .inl ⟨st,fin ys H' s1 hl ?_⟩;rw[take_length]at hys;exact hys
theorem kd{α β:Type}{R:α→V→Prop}{val:β→V}{S:α→β→Prop}{zs:List α}{ys:List V}(h:Paired R zs ys)(f:∀z y,z∈zs→R z y→∃b,y=val b∧S z b):
  ∃bs:List (α×β),bs.map (·.1)=zs∧ys=bs.map (λx=>val x.2)∧∀x∈bs,S x.1 x.2:=by
 induction h with
 |nil=>exact⟨[],rfl,rfl,by simp⟩
 |@cons a y as bs r _ ih =>
  obtain⟨cs,e1,e2,e3⟩:=ih λz y hz=>f z y (by simp[hz]);obtain⟨b,e,s⟩:=f _ _ (by simp) r;refine⟨(a,b)::cs,by rw[map_cons,e1],by rw[map_cons,←e2,e],λx hx=>?_⟩;rcases mem_cons.mp hx with rfl|hx
  ·exact s
  ·exact e3 x hx
theorem fR{α:Type}{R:α→V→Prop}{f:α→V}{zs:List α}{ys:List V}(h:Paired R zs ys)(hf:∀z y,z∈zs→R z y→y=f z):ys=zs.map f:=by
 induction h with
 |nil=>rfl
 |cons r _ ih=>rw[map_cons,←ih λz y hz=>hf z y (by simp[hz]),hf _ _ (by simp) r]
theorem vE(p:Int)(ms:List Int):inV (.int p) (ms.map V.int)=decide (p∈ms):=by
 unfold inV;rw[any_map,Bool.eq_iff_iff,any_eq_true,decide_eq_true_eq];constructor
 ·rintro⟨x,hx,e⟩;have:x=p:=by simpa [eqV]using e
  rw[←this];exact hx
 ·intro h;exact⟨p,h,by simp[eqV]⟩
theorem rc(ms:List Int):(ms.map V.int).all cn=true:=by
 rw[all_map,all_eq_true];intro x _;rfl
theorem mG{X:Cx}:cr (CX1 X.prog X.w) X E0:=λ_ _ _ _ _ _ _ ⟨_,_,_,_,_,h⟩=>h.elim
end L2
namespace TW
structure Nd(S:Type) where
 num:Int
 par:Int
 nm:S
 st:Option Int
section
variable{S:Type}
inductive Reach(ns:List (Nd S))(f:Int):Nd S→Prop where
 |base {n:Nd S}:n∈ns→n.par=f→Reach ns f n
 |step {m n:Nd S}:Reach ns f m→m.st=none→n∈ns→n.par=m.num→Reach ns f n
theorem Reach.mem{ns:List (Nd S)}{f:Int}{n:Nd S}(h:Reach ns f n):n∈ns:=by
 cases h<;>assumption
theorem Reach.mono{ns ms:List (Nd S)}{f:Int}{n:Nd S}(h:Reach ns f n)(hs:∀x∈ns,x∈ms):Reach ms f n:=by
 induction h with
 |base hm hp=>exact .base (hs _ hm) hp
 |step _ hf hm hp ih=>exact .step ih hf (hs _ hm) hp
def inside(ns:List (Nd S))(k:Int):List (Nd S):=ns.filter λn=>decide (n.par=k)
def eG(dn:List Int)(n:Nd S):Bool:=decide (n.par∈dn)
structure Walk(ns:List (Nd S))(f:Int)(dn:List Int)(fd:List (Nd S))(pd:List Int):Prop where
 perm:fd.Perm (ns.filter (eG dn))
 reach:∀n∈fd,Reach ns f n
 cover:∀k,(k∈pd∨k∈dn)↔(k=f∨∃m∈fd,m.st=none∧m.num=k)
theorem Walk.start(ns:List (Nd S))(f:Int):Walk ns f [] [] [f]:=by
 refine⟨?_,by simp,λk=>by simp⟩;have e:ns.filter (eG [])=[]:=by
  rw[List.filter_eq_nil_iff];intro a _;simp[eG]
 rw[e]
theorem eO{α:Type}(p q:α→Bool)(hd:∀x,p x=true→q x=true→False):∀l:List α,
  (l.filter p++l.filter q).Perm (l.filter λx=>p x||q x)
 |[]=>by simp
 |x::l=>by
  have ih:=eO p q hd l;cases hp:p x with
  |true =>
   have hq:q x=false:=by
    cases h:q x with
    |false=>rfl
    |true=>exact(hd x hp h).elim
   rw[filter_cons_of_pos hp,filter_cons_of_neg (by simp[hq]),filter_cons_of_pos (by simp[hp])];exact List.Perm.cons x ih
  |false =>
   cases hq:q x with
   |true =>
    rw[filter_cons_of_neg (by simp[hp]),filter_cons_of_pos hq,filter_cons_of_pos (by simp[hq])];exact List.perm_middle.trans (List.Perm.cons x ih)
   |false =>
    rw[filter_cons_of_neg (by simp[hp]),filter_cons_of_neg (by simp[hq]),filter_cons_of_neg (by simp[hp,hq])];exact ih
def here(ns:List (Nd S))(dn:List Int)(x:Int):List (Nd S):=if x∈dn then []else inside ns x
def bp(l:List (Nd S)):List Int:=(l.filter λn=>n.st.isNone).map (·.num)
theorem mH{l:List (Nd S)}{k:Int}:k∈bp l↔∃m∈l,m.st=none∧m.num=k:=by
 unfold bp;rw[mem_map];constructor
 ·rintro⟨m,hm,e⟩;rw[mem_filter]at hm;exact⟨m,hm.1,by simpa using hm.2,e⟩
 ·rintro⟨m,hm,h,e⟩;exact⟨m,mem_filter.mpr ⟨hm,by simp[h]⟩,e⟩
theorem Walk.turn{ns:List (Nd S)}{f x:Int}{dn:List Int}{fd:List (Nd S)}{pd:List Int}(w:Walk ns f dn fd (pd++[x])):
  Walk ns f (x::dn) (fd++here ns dn x) (pd++bp (here ns dn x)):=by
 have hx:=(w.cover x).mp (.inl (by simp))
 by_cases hd:x∈dn
 ·have eh:here ns dn x=[]:=by unfold here;rw[if_pos hd]
  rw[eh];refine⟨?_,by simpa using w.reach,λk=>?_⟩
  ·have e:ns.filter (eG (x::dn))=ns.filter (eG dn):=by
    apply filter_congr;intro n _;simp only[eG,mem_cons,decide_eq_decide];constructor
    ·rintro(h|h)
     ·rw[h];exact hd
     ·exact h
    ·exact .inr
   rw[e,append_nil];exact w.perm
  ·have c:=w.cover k;rw[append_nil,←c];simp only[bp,List.filter_nil,map_nil,append_nil,mem_append,mem_cons,not_mem_nil,or_false];constructor
   ·rintro(h|h|h)
    ·exact .inl (.inl h)
    ·exact .inl (.inr h)
    ·exact .inr h
   ·rintro((h|h)|h)
    ·exact .inl h
    ·exact .inr (.inl h)
    ·exact .inr (.inr h)
 ·have eh:here ns dn x=inside ns x:=by unfold here;rw[if_neg hd]
  rw[eh];refine⟨?_,λn hn=>?_,λk=>?_⟩
  ·have e:ns.filter (eG (x::dn))=ns.filter λn=>eG dn n||decide (n.par=x):=by
    apply filter_congr;intro n _;rw[Bool.eq_iff_iff];simp only[eG,mem_cons,decide_eq_true_eq,or_eq_true];constructor
    ·rintro(h|h)
     ·exact .inr h
     ·exact .inl h
    ·rintro(h|h)
     ·exact .inr h
     ·exact .inl h
   rw[e];refine(List.Perm.append_right _ w.perm).trans (eO _ _ (λy h1 h2=>?_) ns);simp only[eG,decide_eq_true_eq]at h1 h2;rw[h2]at h1;exact hd h1
  ·rcases mem_append.mp hn with h|h
   ·exact w.reach n h
   ·unfold inside at h;rw[mem_filter]at h;obtain⟨hm,hp⟩:=h;simp only[decide_eq_true_eq]at hp;rcases hx with e|⟨m,hm',hf,e⟩
    ·exact .base hm (hp.trans e)
    ·exact .step (w.reach m hm') hf hm (hp.trans e.symm)
  ·have c:=w.cover k;simp only[mem_append,mem_cons,not_mem_nil,or_false]at c⊢;rw[mH];constructor
   ·rintro((h|⟨m,hm,h1,h2⟩)|h|h)
    ·rcases c.mp (.inl (.inl h))with e|⟨m,hm,z⟩
     ·exact .inl e
     ·exact .inr ⟨m,.inl hm,z⟩
    ·exact .inr ⟨m,.inr hm,h1,h2⟩
    ·rcases c.mp (.inl (.inr h))with e|⟨m,hm,z⟩
     ·exact .inl e
     ·exact .inr ⟨m,.inl hm,z⟩
    ·rcases c.mp (.inr h)with e|⟨m,hm,z⟩
     ·exact .inl e
     ·exact .inr ⟨m,.inl hm,z⟩
   ·rintro(e|⟨m,hm|hm,z⟩)
    ·rcases c.mpr (.inl e)with (h|h)|h
     ·exact .inl (.inl h)
     ·exact .inr (.inl h)
     ·exact .inr (.inr h)
    ·rcases c.mpr (.inr ⟨m,hm,z⟩)with (h|h)|h
     ·exact .inl (.inl h)
     ·exact .inr (.inl h)
     ·exact .inr (.inr h)
    ·exact .inl (.inr ⟨m,hm,z⟩)
theorem Walk.len{ns:List (Nd S)}{f:Int}{dn:List Int}{fd:List (Nd S)}{pd:List Int}(w:Walk ns f dn fd pd):fd.length≤ns.length:=by
 rw[w.perm.length_eq];exact length_filter_le _ _
theorem eP(l:List (Nd S)):(bp l).length≤l.length:=by
 unfold bp;rw[length_map];exact length_filter_le _ _
theorem Walk.mem{ns:List (Nd S)}{f:Int}{dn:List Int}{fd:List (Nd S)}(w:Walk ns f dn fd [])(n:Nd S):n∈fd↔Reach ns f n:=by
 constructor
 ·exact w.reach n
 ·have cov:∀k,(k=f∨∃m∈fd,m.st=none∧m.num=k)→k∈dn:=λk h=>by
   rcases (w.cover k).mpr h with z|z
   ·simp at z
   ·exact z
  have back:∀x,x∈ns→x.par∈dn→x∈fd:=λx hx hp=>w.perm.mem_iff.mpr (mem_filter.mpr ⟨hx,by simp[eG,hp]⟩);intro h
  induction h with
  |base hm hp=>exact back _ hm (cov _ (.inl hp))
  |step _ hf hm hp ih=>exact back _ hm (cov _ (.inr ⟨_,ih,hf,hp.symm⟩))
def dy(ns:List (Nd S)):Prop:=ns.Pairwise λa b=>a.num<b.num
def lu(ns:List (Nd S)):Prop:=(ns.map λn=>(n.par,n.nm)).Nodup
structure Tree(ns:List (Nd S)):Prop where
 rise:dy ns
 own:lu ns
 down:∀n∈ns,Reach ns 0 n
theorem sW{t:List (Nd S)}(h:dy t){a b:Nd S}(ha:a∈t)(hb:b∈t)(e:a.num=b.num):a=b:=by
 unfold dy at h
 induction t with
 |nil=>simp at ha
 |cons x r ih =>
  rw[pairwise_cons]at h;rcases mem_cons.mp ha with ea|ha'
  ·rcases mem_cons.mp hb with eb|hb'
   ·rw[ea,eb]
   ·have:=h.1 b hb';rw[←ea]at this;omega
  ·rcases mem_cons.mp hb with eb|hb'
   ·have:=h.1 a ha';rw[←eb]at this;omega
   ·exact ih h.2 ha' hb'
end
end TW
namespace TW
section
variable{S:Type}
inductive PathTo(ns:List (Nd S)):Int→List S→Prop where
 |top:PathTo ns 0 []
 |node {n:Nd S} {p:List S}:n∈ns→PathTo ns n.par p→PathTo ns n.num (p++[n.nm])
structure Tree1(ns:List (Nd S)):Prop extends Tree ns where
 pos:∀n∈ns,1≤n.num
theorem Tree1.inj{ns:List (Nd S)}(T:Tree1 ns){a b:Nd S}(ha:a∈ns)(hb:b∈ns)(e:a.num=b.num):a=b:=sW T.rise ha hb e
theorem PathTo.zero{ns:List (Nd S)}(T:Tree1 ns){k:Int}{p:List S}(h:PathTo ns k p)(e:k=0):p=[]:=by
 cases h with
 |top=>rfl
 |@node n p hm _=>have:=T.pos n hm;omega
theorem PathTo.inv{ns:List (Nd S)}(T:Tree1 ns){k:Int}{p:List S}(h:PathTo ns k p){n:Nd S}(hn:n∈ns)(e:k=n.num):∃q,p=q++[n.nm]∧PathTo ns n.par q:=by
 cases h with
 |top=>have:=T.pos n hn;omega
 |@node m q hm hq =>
  have:m=n:=T.inj hm hn e;subst this;exact⟨q,rfl,hq⟩
theorem PathTo.uniq{ns:List (Nd S)}(T:Tree1 ns){k:Int}{p:List S}(h:PathTo ns k p):∀{q:List S},PathTo ns k q→p=q:=by
 induction h with
 |top=>intro q hq;exact(hq.zero T rfl).symm
 |@node n p hm _ ih =>
  intro q hq;obtain⟨q',e,hq'⟩:=hq.inv T hm rfl;rw[e,ih hq']
theorem PathTo.ex{ns:List (Nd S)}(T:Tree1 ns){n:Nd S}(hn:n∈ns):∃p,PathTo ns n.num p:=by
 have key:∀x,Reach ns 0 x→∃p,PathTo ns x.num p:=by
  intro x r
  induction r with
  |base hm hp=>exact⟨_,.node hm (by rw[hp];exact .top)⟩
  |step _ _ hm hp ih =>
   obtain⟨p,h⟩:=ih;exact⟨_,.node hm (by rw[hp];exact h)⟩
 exact key n (T.down n hn)
inductive Und(ns:List (Nd S))(g:Int):Int→Prop where
 |here:Und ns g g
 |up {n:Nd S}:n∈ns→Und ns g n.par→Und ns g n.num
theorem Und.zero{ns:List (Nd S)}(T:Tree1 ns){g k:Int}(h:Und ns g k)(e:k=0):g=0:=by
 cases h with
 |here=>exact e
 |@up n hm _=>have:=T.pos n hm;omega
theorem Und.inv{ns:List (Nd S)}(T:Tree1 ns){g k:Int}(h:Und ns g k){n:Nd S}(hn:n∈ns)(e:k=n.num)(hg:k≠g):Und ns g n.par:=by
 cases h with
 |here=>exact absurd rfl hg
 |@up m hm hu =>
  have:m=n:=T.inj hm hn e;subst this;exact hu
theorem ke{ns:List (Nd S)}(T:Tree1 ns){n:Nd S}(hn:n∈ns):n.par=0∨∃m∈ns,m.st=none∧m.num=n.par:=by
 have:=T.down n hn;cases this with
 |base _ hp=>exact .inl hp
 |@step m _ hr hf _ hp=>exact .inr ⟨m,hr.mem,hf,hp.symm⟩
theorem kg{ns:List (Nd S)}(T:Tree1 ns){g:Int}{n:Nd S}(h:Reach ns g n):Und ns g n.num∧∃p q,PathTo ns n.num (p++q)∧q≠[]∧PathTo ns g p:=by
 induction h with
 |@base n hm hp =>
  obtain⟨p,h⟩:=PathTo.ex T hm;obtain⟨q,e,hq⟩:=h.inv T hm rfl;refine⟨.up hm (by rw[hp];exact .here),q,[n.nm],by rw[←e];exact h,by simp,by rw[←hp];exact hq⟩
 |@step m n hr hf hm hp ih =>
  obtain⟨hu,p,q,h1,h2,h3⟩:=ih;refine⟨.up hm (by rw[hp];exact hu),p,q++[n.nm],?_,by simp,h3⟩;rw[←append_assoc];exact .node hm (by rw[hp];exact h1)
theorem jn{ns:List (Nd S)}(T:Tree1 ns){g:Int}{n:Nd S}(h:Reach ns g n):n.num≠g:=by
 obtain⟨_,p,q,h1,h2,h3⟩:=kg T h;intro e;rw[e]at h1;have:=h1.uniq T h3;have hl:=congrArg length this;rw[length_append]at hl;have:q.length≠0:=λz=>h2 (length_eq_zero_iff.mp z);omega
theorem re{ns:List (Nd S)}(T:Tree1 ns){g:Int}(hg:1≤g):∀{k:Int}{p:List S},PathTo ns k p→∀{n:Nd S},n∈ns→k=n.num→Und ns g k→k≠g→Reach ns g n:=by
 intro k p h
 induction h with
 |top=>intro n hn e;have:=T.pos n hn;omega
 |@node m p hm hp ih =>
  intro n hn e hu hne;have:m=n:=T.inj hm hn e;subst this;have hu':=hu.inv T hm rfl hne
  by_cases hpg:m.par=g
  ·exact .base hm hpg
  ·rcases ke T hm with h0|⟨r,hr,hf,er⟩
   ·have:=hu'.zero T h0;omega
   ·exact .step (ih hr er.symm hu' hpg) hf hm er.symm
theorem dM{ns:List (Nd S)}(T:Tree1 ns){g:Int}(hg:1≤g){n:Nd S}(hn:n∈ns):Reach ns g n↔n.num≠g∧Und ns g n.num:=by
 constructor
 ·intro h;exact⟨jn T h,(kg T h).1⟩
 ·rintro⟨h1,h2⟩;obtain⟨p,hp⟩:=PathTo.ex T hn;exact re T hg hp hn rfl h2 h1
end
end TW
namespace TW
section
variable{S:Type}
theorem kh{t:List (Nd S)}:dy t↔(t.map (·.num)).Pairwise (λa b:Int=>a<b):=by
 unfold dy;rw[pairwise_map]
def jN(t:List (Nd S))(p:Int):Prop:=p=0∨∃m∈t,m.st=none∧m.num=p
theorem made{t u:List (Nd S)}{n:Nd S}(T:Tree1 t)(hp:u.Perm (n::t))(hr:dy u)(h1:1≤n.num)(hf:jN t n.par)(ho:∀m∈t,¬(m.par=n.par∧m.nm=n.nm)):Tree1 u:=by
 have hm:∀x,x∈u↔x=n∨x∈t:=λx=>by rw[hp.mem_iff,mem_cons]
 have ht:∀x,x∈t→x∈u:=λx hx=>(hm x).mpr (.inr hx);refine⟨⟨hr,?_,λx hx=>?_⟩,λx hx=>?_⟩
 ·unfold lu;rw[(hp.map λn:Nd S=>(n.par,n.nm)).nodup_iff,map_cons,nodup_cons];refine⟨λhx=>?_,T.own⟩;obtain⟨m,h2,e⟩:=mem_map.mp hx;injection e with e1 e2
  exact ho m h2 ⟨e1,e2⟩
 ·rcases (hm x).mp hx with e|hx
  ·subst e;rcases hf with e|⟨m,h2,h3,e⟩
   ·exact .base hx e
   ·exact .step ((T.down m h2).mono ht) h3 hx e.symm
  ·exact(T.down x hx).mono ht
 ·rcases (hm x).mp hx with e|hx
  ·subst e;exact h1
  ·exact T.pos x hx
def put(z:Nd S)(m:Nd S):Nd S:=if m.num=z.num then z else m
theorem pS(z m:Nd S):(put z m).num=m.num:=by
 unfold put
 split
 ·rename_i h;exact h.symm
 ·rfl
theorem cq{z m:Nd S}(h:m.num≠z.num):put z m=m:=by unfold put;rw[if_neg h]
theorem eQ{z m:Nd S}(h:m.num=z.num):put z m=z:=by unfold put;rw[if_pos h]
theorem sX(z:Nd S)(t:List (Nd S)):(t.map (put z)).map (·.num)=t.map (·.num):=by
 rw[map_map];apply map_congr_left;intro m _;exact pS z m
theorem mJ{z:Nd S}{t:List (Nd S)}(h:dy t):dy (t.map (put z)):=by
 rw[kh,sX,←kh];exact h
theorem pT{z:Nd S}{t:List (Nd S)}(T:Tree1 t):∀n∈t.map (put z),1≤n.num:=λn hn=>by
 obtain⟨m,hm,rfl⟩:=mem_map.mp hn;rw[pS];exact T.pos m hm
theorem wrote{t:List (Nd S)}{y z:Nd S}(T:Tree1 t)(hy:y∈t)(e1:z.num=y.num)(e2:z.par=y.par)(e3:z.nm=y.nm)(hs:y.st≠none):Tree1 (t.map (put z)):=by
 have par:∀m∈t,(put z m).par=m.par∧(put z m).nm=m.nm:=λm hm=>by
  by_cases h:m.num=z.num
  ·have:m=y:=T.inj hm hy (h.trans e1);subst this;rw[eQ h];exact⟨e2,e3⟩
  ·rw[cq h];exact⟨rfl,rfl⟩
 refine⟨⟨mJ T.rise,?_,λn hn=>?_⟩,pT T⟩
 ·have:(t.map (put z)).map (λn=>(n.par,n.nm))=t.map (λn=>(n.par,n.nm)):=by
   rw[map_map];apply map_congr_left;intro m hm;show((put z m).par,(put z m).nm)=_;rw[(par m hm).1,(par m hm).2]
  unfold lu;rw[this];exact T.own
 ·obtain⟨m,hm,rfl⟩:=mem_map.mp hn;have key:∀x,Reach t 0 x→Reach (t.map (put z)) 0 (put z x):=by
   intro x r
   induction r with
   |@base x hx hp=>exact .base (mem_map.mpr ⟨x,hx,rfl⟩) (by rw[(par x hx).1];exact hp)
   |@step a x ra hf hx hp ih =>
    have ha:put z a=a:=cq λe=>hs (by rw[←T.inj ra.mem hy (e.trans e1)];exact hf);rw[ha]at ih;exact .step ih hf (mem_map.mpr ⟨x,hx,rfl⟩) (by rw[(par x hx).1];exact hp)
  exact key m (T.down m hm)
theorem ki{t:List (Nd S)}{k:Int}{n:Nd S}(r:Reach t 0 n)(h:¬Und t k n.num){u:List (Nd S)}(hu:∀x∈t,¬Und t k x.num→x∈u):Reach u 0 n:=by
 induction r with
 |@base n hm hp=>exact .base (hu n hm h) hp
 |@step m n rm hf hn hp ih=>exact .step (ih λhx=>h (.up hn (by rw[hp];exact hx))) hf (hu n hn h) hp
theorem dropped{t:List (Nd S)}{k:Int}(T:Tree1 t){p:Nd S→Bool}(hp:∀n∈t,p n=true↔¬Und t k n.num):Tree1 (t.filter p):=by
 refine⟨⟨T.rise.sublist filter_sublist,T.own.sublist (filter_sublist.map _),λn hn=>?_⟩,λn hn=>T.pos n (mem_filter.mp hn).1⟩;obtain⟨h1,h2⟩:=mem_filter.mp hn;exact ki (T.down n h1) ((hp n h1).mp h2) λx hx hu=>mem_filter.mpr ⟨hx,(hp x hx).mpr hu⟩
theorem moved{t:List (Nd S)}{y z:Nd S}(T:Tree1 t)(hy:y∈t)(e1:z.num=y.num)(e4:z.st=y.st)(hf:jN t z.par)(hi:z.par≠0→¬Und t y.num z.par)(ho:∀m∈t,m.num≠y.num→¬(m.par=z.par∧m.nm=z.nm)):Tree1 (t.map (put z)):=by
 have hz:z∈t.map (put z):=mem_map.mpr ⟨y,hy,eQ e1.symm⟩;have other:∀m∈t,m.num≠y.num→m∈t.map (put z):=λm hm h=>mem_map.mpr ⟨m,hm,cq (by rw[e1];exact h)⟩;have free:∀n∈t,¬Und t y.num n.num→Reach (t.map (put z)) 0 n:=λn hn h=>ki (T.down n hn) h λx hx hu=>other x hx λe=>hu (by rw[e];exact .here);have rz:Reach (t.map (put z)) 0 z:=by
  rcases hf with e|⟨m,h2,h3,e⟩
  ·exact .base hz e
  ·have h0:z.par≠0:=λe'=>by have:=T.pos m h2;omega
   exact .step (free m h2 (by rw[e];exact hi h0)) h3 hz e.symm
 refine⟨⟨mJ T.rise,?_,λn hn=>?_⟩,pT T⟩
 ·have h:=T.own;have hr:=T.rise;unfold lu dy Nodup at *;rw[pairwise_map]at h;rw[map_map,pairwise_map];have both:=h.and hr;refine both.imp_of_mem λ{a b} ha hb hab=>?_;obtain⟨h1,h2⟩:=hab;show((put z a).par,(put z a).nm)≠((put z b).par,(put z b).nm)
  by_cases ea:a.num=y.num
  ·have eb:b.num≠y.num:=by omega
   rw[eQ (by rw[e1];exact ea),cq (by rw[e1];exact eb)];intro e;injection e with q1 q2
   exact ho b hb eb ⟨q1.symm,q2.symm⟩
  ·by_cases eb:b.num=y.num
   ·rw[eQ (m:=b) (by rw[e1];exact eb),cq (by rw[e1];exact ea)];intro e;injection e with q1 q2
    exact ho a ha ea ⟨q1,q2⟩
   ·rw[cq (by rw[e1];exact ea),cq (by rw[e1];exact eb)];exact h1
 ·obtain⟨m,hm,rfl⟩:=mem_map.mp hn
  by_cases em:m.num=y.num
  ·rw[eQ (by rw[e1];exact em)];exact rz
  ·rw[cq (by rw[e1];exact em)]
   by_cases hu:Und t y.num m.num
   ·have r:Reach t y.num m:=(dM T (T.pos y hy) hm).mpr ⟨em,hu⟩;clear hu em hm hn
    induction r with
    |@base n hn hp =>
     have hzs:z.st=none:=by
      rcases ke T hn with e|⟨a,ha,h3,e⟩
      ·have:=T.pos y hy;omega
      ·have:a=y:=T.inj ha hy (e.trans hp);subst this;rw[e4];exact h3
     have hne:n.num≠y.num:=jn T (.base hn hp);exact .step rz hzs (other n hn hne) (by rw[hp,e1])
    |@step a n ra hfa hn hp ih=>exact .step ih hfa (other n hn (jn T (.step ra hfa hn hp))) hp
   ·exact free m hm hu
end
end TW
namespace TW
section
variable{S:Type}
inductive Deed(S:Type) where
 |make (n p:Int) (nm:S) (st:Option Int)
 |write (n st:Int)
 |move (n p:Int) (nm:S)
 |drop (n:Int)
inductive Wd where
 |known|noNode|notFile|notFolder|inside|taken
def dl(t:List (Nd S))(k:Int):Prop:=∃m∈t,m.num=k
inductive Told(t:List (Nd S)):Deed S→Sum Wd (List (Nd S))→Prop where
 |mKnown {n p:Int} {nm:S} {st:Option Int}:dl t n→Told t (.make n p nm st) (.inl .known)
 |mNo {n p:Int} {nm:S} {st:Option Int}:¬dl t n→p≠0→¬dl t p→Told t (.make n p nm st) (.inl .noNode)
 |mFile {n p:Int} {nm:S} {st:Option Int} {m:Nd S}:¬dl t n→p≠0→m∈t→m.num=p→m.st≠none→Told t (.make n p nm st) (.inl .notFolder)
 |mTaken {n p:Int} {nm:S} {st:Option Int} {m:Nd S}:¬dl t n→jN t p→m∈t→m.par=p→m.nm=nm→Told t (.make n p nm st) (.inl .taken)
 |made {n p:Int} {nm:S} {st:Option Int} {u:List (Nd S)}:¬dl t n→jN t p→(∀m∈t,¬(m.par=p∧m.nm=nm))→u.Perm (⟨n,p,nm,st⟩::t)→dy u→Told t (.make n p nm st) (.inr u)
 |wNo {n st:Int}:¬dl t n→Told t (.write n st) (.inl .noNode)
 |wFold {n st:Int} {y:Nd S}:y∈t→y.num=n→y.st=none→Told t (.write n st) (.inl .notFile)
 |wrote {n st:Int} {y:Nd S}:y∈t→y.num=n→y.st≠none→Told t (.write n st) (.inr (t.map (put ⟨n,y.par,y.nm,some st⟩)))
 |vNo {n p:Int} {nm:S}:¬dl t n→Told t (.move n p nm) (.inl .noNode)
 |vNoP {n p:Int} {nm:S}:dl t n→p≠0→¬dl t p→Told t (.move n p nm) (.inl .noNode)
 |vFile {n p:Int} {nm:S} {m:Nd S}:dl t n→p≠0→m∈t→m.num=p→m.st≠none→Told t (.move n p nm) (.inl .notFolder)
 |vIn {n p:Int} {nm:S}:dl t n→jN t p→p≠0→Und t n p→Told t (.move n p nm) (.inl .inside)
 |vTaken {n p:Int} {nm:S} {m:Nd S}:dl t n→jN t p→(p≠0→¬Und t n p)→m∈t→m.num≠n→m.par=p→m.nm=nm→Told t (.move n p nm) (.inl .taken)
 |moved {n p:Int} {nm:S} {y:Nd S}:y∈t→y.num=n→jN t p→(p≠0→¬Und t n p)→(∀m∈t,m.num≠n→¬(m.par=p∧m.nm=nm))→Told t (.move n p nm) (.inr (t.map (put ⟨n,p,nm,y.st⟩)))
 |dNo {n:Int}:¬dl t n→Told t (.drop n) (.inl .noNode)
 |dropped {n:Int} {f:Nd S→Bool}:dl t n→(∀m∈t,f m=true↔¬Und t n m.num)→Told t (.drop n) (.inr (t.filter f))
theorem cI{t:List (Nd S)}{p:Int}(h:jN t p)(h0:p≠0)(hn:¬dl t p):False:=by
 rcases h with h|⟨m,hm,_,e⟩
 ·exact h0 h
 ·exact hn ⟨m,hm,e⟩
theorem bK{t:List (Nd S)}(T:Tree1 t){p:Int}{m:Nd S}(h:jN t p)(h0:p≠0)(hm:m∈t)(e:m.num=p)(hs:m.st≠none):False:=by
 rcases h with h|⟨y,hy,h2,e2⟩
 ·exact h0 h
 ·have:=T.inj hm hy (e.trans e2.symm);subst this;exact hs h2
theorem sY{t u:List (Nd S)}(ht:dy t)(hu:dy u)(h:t.Perm u):t=u:=by
 have main:∀{l m:List (Nd S)},dy l→dy m→(∀x,x∈l↔x∈m)→l=m:=by
  intro l
  induction l with
  |nil =>
   intro m _ _ h;cases m with
   |nil=>rfl
   |cons b m=>exact absurd ((h b).mpr (by simp)) (by simp)
  |cons a l ih =>
   intro m hl hm h;cases m with
   |nil=>exact absurd ((h a).mp (by simp)) (by simp)
   |cons b m =>
    unfold dy at hl hm ih;rw[pairwise_cons]at hl hm;have e:a=b:=by
     rcases mem_cons.mp ((h a).mp (by simp))with e|h1
     ·exact e
     ·rcases mem_cons.mp ((h b).mpr (by simp))with e|h2
      ·exact e.symm
      ·have:=hl.1 b h2;have:=hm.1 a h1;omega
    subst e;rw[ih hl.2 hm.2 λx=>?_];constructor
    ·intro hx;rcases mem_cons.mp ((h x).mp (by simp[hx]))with e|h1
     ·subst e;have:=hl.1 x hx;omega
     ·exact h1
    ·intro hx;rcases mem_cons.mp ((h x).mpr (by simp[hx]))with e|h1
     ·subst e;have:=hm.1 x hx;omega
     ·exact h1
 exact main ht hu λx=>h.mem_iff
theorem Told.one{t:List (Nd S)}(T:Tree1 t){d:Deed S}{r r':Sum Wd (List (Nd S))}(h:Told t d r)(h':Told t d r'):r=r':=by
 have hno:∀{k:Int}{m:Nd S},m∈t→m.num=k→¬dl t k→False:=λhm e hn=>hn ⟨_,hm,e⟩;have one:∀{k:Int}{a b:Nd S},a∈t→a.num=k→b∈t→b.num=k→a=b:=λha ea hb eb=>T.inj ha hb (ea.trans eb.symm);cases h with
 |mKnown a1=>cases h'<;>first|rfl|(exfalso;contradiction)
 |mNo a1 a2 a3=>cases h' with
  |mKnown b1=>exact absurd b1 a1
  |mNo=>rfl
  |mFile b1 b2 b3 b4 b5=>exact(hno b3 b4 a3).elim
  |mTaken b1 b2=>exact(cI b2 a2 a3).elim
  |made b1 b2=>exact(cI b2 a2 a3).elim
 |mFile a1 a2 a3 a4 a5=>cases h' with
  |mKnown b1=>exact absurd b1 a1
  |mNo b1 b2 b3=>exact(hno a3 a4 b3).elim
  |mFile=>rfl
  |mTaken b1 b2=>exact(bK T b2 a2 a3 a4 a5).elim
  |made b1 b2=>exact(bK T b2 a2 a3 a4 a5).elim
 |mTaken a1 a2 a3 a4 a5=>cases h' with
  |mKnown b1=>exact absurd b1 a1
  |mNo b1 b2 b3=>exact(cI a2 b2 b3).elim
  |mFile b1 b2 b3 b4 b5=>exact(bK T a2 b2 b3 b4 b5).elim
  |mTaken=>rfl
  |made b1 b2 b3=>exact(b3 _ a3 ⟨a4,a5⟩).elim
 |made a1 a2 a3 a4 a5=>cases h' with
  |mKnown b1=>exact absurd b1 a1
  |mNo b1 b2 b3=>exact(cI a2 b2 b3).elim
  |mFile b1 b2 b3 b4 b5=>exact(bK T a2 b2 b3 b4 b5).elim
  |mTaken b1 b2 b3 b4 b5=>exact(a3 _ b3 ⟨b4,b5⟩).elim
  |made b1 b2 b3 b4 b5=>rw[sY a5 b5 (a4.trans b4.symm)]
 |wNo a1=>cases h' with
  |wNo=>rfl
  |wFold b1 b2=>exact(hno b1 b2 a1).elim
  |wrote b1 b2=>exact(hno b1 b2 a1).elim
 |wFold a1 a2 a3=>cases h' with
  |wNo b1=>exact(hno a1 a2 b1).elim
  |wFold=>rfl
  |wrote b1 b2 b3=>rw[one a1 a2 b1 b2]at a3;exact absurd a3 b3
 |wrote a1 a2 a3=>cases h' with
  |wNo b1=>exact(hno a1 a2 b1).elim
  |wFold b1 b2 b3=>rw[one b1 b2 a1 a2]at b3;exact absurd b3 a3
  |wrote b1 b2 b3=>rw[one b1 b2 a1 a2]
 |vNo a1=>cases h' with
  |vNo=>rfl
  |vNoP=>rfl
  |vFile b1=>exact absurd b1 a1
  |vIn b1=>exact absurd b1 a1
  |vTaken b1=>exact absurd b1 a1
  |moved b1 b2=>exact(hno b1 b2 a1).elim
 |vNoP a1 a2 a3=>cases h' with
  |vNo=>rfl
  |vNoP=>rfl
  |vFile b1 b2 b3 b4=>exact(hno b3 b4 a3).elim
  |vIn b1 b2=>exact(cI b2 a2 a3).elim
  |vTaken b1 b2=>exact(cI b2 a2 a3).elim
  |moved b1 b2 b3=>exact(cI b3 a2 a3).elim
 |vFile a1 a2 a3 a4 a5=>cases h' with
  |vNo b1=>exact absurd a1 b1
  |vNoP b1 b2 b3=>exact(hno a3 a4 b3).elim
  |vFile=>rfl
  |vIn b1 b2=>exact(bK T b2 a2 a3 a4 a5).elim
  |vTaken b1 b2=>exact(bK T b2 a2 a3 a4 a5).elim
  |moved b1 b2 b3=>exact(bK T b3 a2 a3 a4 a5).elim
 |vIn a1 a2 a3 a4=>cases h' with
  |vNo b1=>exact absurd a1 b1
  |vNoP b1 b2 b3=>exact(cI a2 b2 b3).elim
  |vFile b1 b2 b3 b4 b5=>exact(bK T a2 b2 b3 b4 b5).elim
  |vIn=>rfl
  |vTaken b1 b2 b3=>exact absurd a4 (b3 a3)
  |moved b1 b2 b3 b4=>exact absurd a4 (b4 a3)
 |vTaken a1 a2 a3 a4 a5 a6 a7=>cases h' with
  |vNo b1=>exact absurd a1 b1
  |vNoP b1 b2 b3=>exact(cI a2 b2 b3).elim
  |vFile b1 b2 b3 b4 b5=>exact(bK T a2 b2 b3 b4 b5).elim
  |vIn b1 b2 b3 b4=>exact absurd b4 (a3 b3)
  |vTaken=>rfl
  |moved b1 b2 b3 b4 b5=>exact(b5 _ a4 a5 ⟨a6,a7⟩).elim
 |moved a1 a2 a3 a4 a5=>cases h' with
  |vNo b1=>exact(hno a1 a2 b1).elim
  |vNoP b1 b2 b3=>exact(cI a3 b2 b3).elim
  |vFile b1 b2 b3 b4 b5=>exact(bK T a3 b2 b3 b4 b5).elim
  |vIn b1 b2 b3 b4=>exact absurd b4 (a4 b3)
  |vTaken b1 b2 b3 b4 b5 b6 b7=>exact(a5 _ b4 b5 ⟨b6,b7⟩).elim
  |moved b1 b2=>rw[one b1 b2 a1 a2]
 |dNo a1=>cases h' with
  |dNo=>rfl
  |dropped b1=>exact absurd b1 a1
 |dropped a1 a2=>cases h' with
  |dNo b1=>exact absurd a1 b1
  |dropped b1 b2 =>
   congr 1
   apply filter_congr;intro m hm;rw[Bool.eq_iff_iff,a2 m hm,b2 m hm]
def Deed.pos:Deed S→Prop
 |.make n _ _ _=>1≤n
 |_=>True
theorem Told.tree{t u:List (Nd S)}(T:Tree1 t){d:Deed S}(h:Told t d (.inr u))(hp:d.pos):Tree1 u:=by
 generalize er:(Sum.inr u:Sum Wd (List (Nd S)))=r at h;cases h with
 |made a1 a2 a3 a4 a5 =>
  injection er with er
  subst er;exact TW.made T a4 a5 hp a2 λm hm=>a3 m hm
 |wrote a1 a2 a3 =>
  injection er with er
  subst er a2;exact TW.wrote T a1 rfl rfl rfl a3
 |moved a1 a2 a3 a4 a5 =>
  injection er with er
  subst er a2;exact TW.moved T a1 rfl rfl a3 a4 a5
 |dropped a1 a2 =>
  injection er with er
  subst er;exact TW.dropped T a2
 |_=>cases er
theorem Told.len{t u:List (Nd S)}{d:Deed S}(h:Told t d (.inr u)):u.length≤t.length+1:=by
 generalize er:(Sum.inr u:Sum Wd (List (Nd S)))=r at h;cases h with
 |made a1 a2 a3 a4 a5 =>
  injection er with er
  subst er;rw[a4.length_eq];simp
 |wrote a1 a2 a3 =>
  injection er with er
  subst er;simp
 |moved a1 a2 a3 a4 a5 =>
  injection er with er
  subst er;simp
 |dropped a1 a2 =>
  injection er with er
  subst er;exact Nat.le_succ_of_le (length_filter_le _ _)
 |_=>cases er
end
end TW
namespace TW
section
variable{S:Type}
end
end TW
namespace L2
open PySem PySem.Spec PyProof.Rows
section
variable{P:Program}{w:World}{K:PySem.W.Frag}{mg:Str→Option Value}{base:Heap}
theorem Fun.okX{x qual:Str}{st:Stmt}{f:Addr}{fd:FuncData}{N ps:List Str}{k:Nat}{sp:Sp}(F:Fun K x qual st f fd)(S:FnScope N ps (aj st))(len:∀vs H Q E,sp vs H Q E→vs.length=ps.length)(hbody:∀(cdv:Value) (A:Around) (outer:List Env) (s:Shared) (H:Hp) (vs:List V) (Q:VK) (E:XK),Room k (A.deeper (envOfC qual (aj st) s.heap.objs.size f cdv))→sp vs H Q E →
   ∃t,PSs (iE (CX1 P w) P w K mg base N qual (aj st) f cdv A outer s H E) (bo st) t∧t {nx:=λ_ H'=>Q .non H',rt:=Q} (start N vs) H):FnOk P w K mg base (CX1 P w) (k+1) f fd ps sp:=by
 obtain⟨oc,od,kV,doc,pm,an,cdv,ct,osl,rfl,lk,hcd⟩:=F.ex;exact rW lk hcd S len λA outer s H vs Q E hr hsp=>hbody cdv A outer s H vs Q E hr hsp
theorem LcOk.mk'{X:Cx}{scope:Scope}{cl:List (Str×Addr)}(fs:List Str)(hk:scope.kind=.function)(hc:closureFor scope X.env=pure cl)(hn:∀x∈scope.names,x.2=.local→scope.names.lookup x.1=some .local)(hnc:∀x∈scope.names,x.2≠.cell)(hcl:∀y∈cl,X.env.cells.lookup y.1=some y.2)(hfs:cl.map (·.1)=fs)(hall:scope.names.all (λy=>!(y.2==.free)||fs.contains y.1)=true):LcOk X scope cl:=by
 refine⟨hk,hc,hn,hnc,λx c h=>hcl (x,c) (PySem.mem_of_lookup h),λx h=>?_⟩;have hm:∃k,(x,k)∈(relabel scope X.env).names∧(k=.cell∨k=.free):=by
  rcases h with h|h
  ·exact⟨_,PySem.mem_of_lookup h,.inl rfl⟩
  ·exact⟨_,PySem.mem_of_lookup h,.inr rfl⟩
 obtain⟨k,hm,hk'⟩:=hm;unfold relabel at hm;obtain⟨⟨y,k0⟩,hy,e⟩:=mem_map.mp hm;have hfree:x=y∧k0=.free:=by
  cases k0 with
  |free =>
   simp only at e
   split at e
   ·injection e with e1 e2;exact⟨e1.symm,rfl⟩
   ·injection e with e1 e2;exact⟨e1.symm,rfl⟩
  |cell=>exact absurd rfl (hnc _ hy)
  |_ =>
   exfalso
   have e2:k=_:=(congrArg Prod.snd e).symm;simp at e2;rcases hk' with z|z<;>rw[z]at e2<;>cases e2
 obtain⟨rfl,rfl⟩:=hfree;have:=all_eq_true.mp hall _ hy;have hin:fs.contains x=true:=by simpa using this
 rw[←hfs]at hin;have hmem:x∈cl.map (·.1):=List.contains_iff_mem.mp hin;cases e:cl.lookup x with
 |some c=>exact⟨c,rfl⟩
 |none =>
  exfalso
  obtain⟨y,hy,ey⟩:=mem_map.mp hmem;have:=List.lookup_eq_none_iff.mp e y hy;rw[ey]at this;simp at this
end
end L2
namespace TK
open PySem L2
abbrev Nd:=TW.Nd Str
def stV:Option Int→V
 |none=>.non
 |some i=>.int i
def vals(n:Nd):List V:=[.int n.num,.int n.par,.str n.nm,stV n.st]
abbrev ZN:=List (Addr×Nd)
def be(zs:ZN):List V:=(zs.map (·.1)).map V.ref
def nds(zs:ZN):List Nd:=zs.map (·.2)
def At(H:Hp)(zs:ZN):Prop:=∀z∈zs,H z.1=some (.tup (vals z.2))
theorem At.same{H H':Hp}{zs:ZN}(h:At H zs)(s:Same H H'):At H' zs:=λz hz=>s _ _ (h z hz)
theorem cx(zs:ZN):(be zs).length=zs.length:=by simp[be]
theorem bi(zs:ZN):(nds zs).length=zs.length:=by simp[nds]
theorem dm{zs:ZN}{i:Nat}{x:V}(h:(be zs)[i]?=some x):∃z,zs[i]?=some z∧x=.ref z.1:=by
 unfold be at h;rw[getElem?_map,getElem?_map]at h;cases e:zs[i]? with
 |none=>rw[e]at h;cases h
 |some z=>rw[e]at h;exact⟨z,rfl,(Option.some.inj h).symm⟩
theorem mK{zs:ZN}{i:Nat}{z:Addr×Nd}(h:zs[i]?=some z):(be zs)[i]?=some (.ref z.1):=by
 unfold be;rw[getElem?_map,getElem?_map,h];rfl
theorem at0(n:Nd):atI (vals n) 0=some (.int n.num):=rfl
theorem at1(n:Nd):atI (vals n) 1=some (.int n.par):=rfl
theorem at2(n:Nd):atI (vals n) 2=some (.str n.nm):=rfl
theorem at3(n:Nd):atI (vals n) 3=some (stV n.st):=rfl
theorem xP{σ:St}(h:σ.length=2):∃a b,σ=[a,b]:=by
 match σ,h with
 |[a,b],_=>exact⟨a,b,rfl⟩
theorem ap{n:Nat}(h:n≤1000):n≤sizeLine:=le_of_lt (ao h)
theorem le2:2≤sizeLine:=ap (by decide)
theorem jo{A:Around}{k:Nat}(hr:Room k A):A.units+4<cLine:=lt_of_le_of_lt (Nat.add_le_add_left (by decide:4≤64) _) hr.units
def ins(zs:ZN)(k:Int):ZN:=zs.filter λz=>decide (z.2.par=k)
theorem pU(zs:ZN)(k:Int):nds (ins zs k)=TW.inside (nds zs) k:=by
 unfold nds ins TW.inside;rw[filter_map];rfl
theorem eR(zs:ZN)(z:Addr×Nd)(k:Int):ins (zs++[z]) k=if z.2.par=k then ins zs k++[z]else ins zs k:=by
 unfold ins;rw[List.filter_append]
 by_cases h:z.2.par=k
 ·rw[if_pos h,filter_cons_of_pos (by simp[h])];rfl
 ·rw[if_neg h,filter_cons_of_neg (by simp[h])];simp
theorem vF{zs:ZN}{k:Int}{z:Addr×Nd}(h:z∈ins zs k):z∈zs:=(mem_filter.mp h).1
theorem kj(zs:ZN)(z:Addr×Nd):be (zs++[z])=be zs++[.ref z.1]:=by simp[be]
theorem sZ{zs:ZN}(h:be zs=[]):zs=[]:=by
 cases zs with
 |nil=>rfl
 |cons a r=>simp[be]at h
structure Mem(H0 H:Hp)(d:Addr)(L:Int→Addr)(kvs:List (Key×V))(xs:ZN)(dn:List Int):Prop where
 dict:H d=some (.dK kvs)
 d0:H0 d=none
 len:kvs.length≤xs.length
 val:∀k:Int,aZ kvs (Sum.inl k:Key)=if k∈dn∨ins xs k=[]then none else some (.ref (L k))
 at':∀k,k∉dn→ins xs k≠[]→H (L k)=some (.lst (be (ins xs k)))∧H0 (L k)=none
 inj:∀k k',k∉dn→k'∉dn→ins xs k≠[]→ins xs k'≠[]→L k=L k'→k=k'
 same:Same H0 H
theorem Mem.grow{H0 H H':Hp}{d:Addr}{L:Int→Addr}{kvs:List (Key×V)}{xs:ZN}{dn:List Int}(m:Mem H0 H d L kvs xs dn)(s:Same H H'):Mem H0 H' d L kvs xs dn :=
 ⟨s _ _ m.dict,m.d0,m.len,m.val,λk h1 h2=>⟨s _ _ (m.at' k h1 h2).1,(m.at' k h1 h2).2⟩,m.inj,m.same.trans s⟩
theorem Mem.other{H0 H:Hp}{d p:Addr}{L:Int→Addr}{kvs:List (Key×V)}{xs:ZN}{dn:List Int}{is:List Int}{o:HO}(m:Mem H0 H d L kvs xs dn)(hp:H p=some (.lst (is.map V.int)))(h0:H0 p=none):Mem H0 (upd H p o) d L kvs xs dn:=by
 refine⟨?_,m.d0,m.len,m.val,λk h1 h2=>⟨?_,(m.at' k h1 h2).2⟩,m.inj,bq h0 m.same⟩
 ·rw[ai]
  ·exact m.dict
  ·intro e;have:=m.dict;rw[e,hp]at this;cases this
 ·have e1:=(m.at' k h1 h2).1;rw[ai]
  ·exact e1
  ·intro e;rw[e,hp]at e1;injection e1 with e1
   injection e1 with e1
   have hne:=h2;cases hk:ins xs k with
   |nil=>exact h2 hk
   |cons a r =>
    rw[hk]at e1;cases is with
    |nil=>simp[be]at e1
    |cons i r'=>simp[be]at e1
theorem Mem.start{H0:Hp}{d:Addr}(h:H0 d=none):Mem H0 (upd H0 d (.dK [])) d (λ_=>d) [] [] [] :=
 ⟨ac,h,by simp,λk=>by rw[if_pos (.inr rfl)];rfl,λk _ h=>absurd rfl h,λk k' _ _ h=>absurd rfl h,af h⟩
theorem Mem.hit{H0 H:Hp}{d:Addr}{L:Int→Addr}{kvs:List (Key×V)}{xs:ZN}{z:Addr×Nd}(m:Mem H0 H d L kvs xs [])(hp:ins xs z.2.par≠[]):
  Mem H0 (upd H (L z.2.par) (.lst (be (ins xs z.2.par)++[.ref z.1]))) d L kvs (xs++[z]) []:=by
 have e1:=(m.at' z.2.par (by simp) hp);have hd:d≠L z.2.par:=λe=>by
  have:=m.dict;rw[e,e1.1]at this;cases this
 have ne:∀k,ins (xs++[z]) k=[]↔ins xs k=[]:=λk=>by
  rw[eR]
  by_cases h:z.2.par=k
  ·rw[if_pos h];subst h;simp[hp]
  ·rw[if_neg h]
 refine⟨by rw[ai hd];exact m.dict,m.d0,by have:=m.len;simp;omega,λk=>?_,λk h1 h2=>?_,λk k' _ _ h2 h3 e=>m.inj k k' (by simp) (by simp) (λh=>h2 ((ne k).mpr h)) (λh=>h3 ((ne k').mpr h)) e,bq e1.2 m.same⟩
 ·rw[m.val k];simp only[ne k]
 ·have h2':ins xs k≠[]:=λh=>h2 ((ne k).mpr h);refine⟨?_,(m.at' k h1 h2').2⟩
  by_cases h:z.2.par=k
  ·subst h;rw[ac,eR,if_pos rfl,kj]
  ·rw[ai,eR,if_neg h]
   ·exact(m.at' k h1 h2').1
   ·intro e;exact h (m.inj _ _ (by simp) (by simp) hp h2' e.symm)
theorem Mem.fresh{H0 H:Hp}{d q:Addr}{L:Int→Addr}{kvs:List (Key×V)}{xs:ZN}{z:Addr×Nd}(m:Mem H0 H d L kvs xs [])(hp:ins xs z.2.par=[])(hq:H q=none):
  Mem H0 (upd (upd (upd H q (.lst [])) d (.dK (cP kvs (Sum.inl z.2.par:Key) (.ref q)))) q (.lst ([]++[.ref z.1]))) d (λk=>if k=z.2.par then q else L k) (cP kvs (Sum.inl z.2.par:Key) (.ref q)) (xs++[z]) []:=by
 have hdq:d≠q:=λe=>by
  have:=m.dict;rw[e,hq]at this;cases this
 have lq:∀k,ins xs k≠[]→L k≠q:=λk h e=>by
  have:=(m.at' k (by simp) h).1;rw[e,hq]at this;cases this
 have ld:∀k,ins xs k≠[]→L k≠d:=λk h e=>by
  have:=(m.at' k (by simp) h).1;rw[e,m.dict]at this;cases this
 have q0:H0 q=none:=m.same.free hq;have e2:∀k,k≠z.2.par→ins (xs++[z]) k=ins xs k:=λk h=>by rw[eR,if_neg (λe=>h e.symm)]
 have e3:ins (xs++[z]) z.2.par=[z]:=by rw[eR,if_pos rfl,hp];rfl
 refine⟨by rw[ai hdq,ac],m.d0,?_,λk=>?_,λk h1 h2=>?_,λk k' _ _ h2 h3 e=>?_,?_⟩
 ·have h1:=m.len;have h2:=dt kvs (Sum.inl z.2.par:Key) (.ref q);rw[length_append,length_singleton];omega
 ·rw[lS]
  by_cases h:k=z.2.par
  ·subst h;rw[if_pos rfl,if_neg (by rw[e3];simp),if_pos rfl]
  ·rw[if_neg (λe=>h (Sum.inl.inj e)),m.val k,e2 k h,if_neg h]
 ·by_cases h:k=z.2.par
  ·subst h;simp only[if_true];exact⟨by rw[ac,e3];rfl,q0⟩
  ·rw[e2 k h]at h2;simp only[if_neg h];refine⟨?_,(m.at' k h1 h2).2⟩;rw[ai (lq k h2),ai (ld k h2),ai (lq k h2),e2 k h];exact(m.at' k h1 h2).1
 ·by_cases h:k=z.2.par
  ·by_cases h':k'=z.2.par
   ·rw[h,h']
   ·rw[e2 k' h']at h3;simp only[if_pos h,if_neg h']at e;exact absurd e.symm (lq k' h3)
  ·rw[e2 k h]at h2
   by_cases h':k'=z.2.par
   ·simp only[if_neg h,if_pos h']at e;exact absurd e (lq k h2)
   ·rw[e2 k' h']at h3;simp only[if_neg h,if_neg h']at e;exact m.inj k k' (by simp) (by simp) h2 h3 e
 ·exact bq q0 (bq m.d0 (m.same.trans (af hq)))
theorem rf{κ:Type}[DecidableEq κ](kvs:List (κ×V))(k j:κ):aZ (cS kvs k) j=if j=k then none else aZ kvs j:=by
 induction kvs with
 |nil=>simp[cS,aZ]
 |cons p r ih =>
  by_cases e:p.1=k
  ·rw[qP e,ih]
   by_cases h:j=k
   ·rw[if_pos h,if_pos h]
   ·rw[if_neg h,if_neg h,aN (λz=>h (z.symm.trans e))]
  ·rw[qQ e]
   by_cases h:p.1=j
   ·rw[aT h,if_neg (λz=>e (h.trans z)),aT h]
   ·rw[aN h,ih,aN h]
theorem Mem.drop{H0 H:Hp}{d:Addr}{L:Int→Addr}{kvs:List (Key×V)}{xs:ZN}{dn:List Int}(m:Mem H0 H d L kvs xs dn)(x:Int):Mem H0 (upd H d (.dK (cS kvs (Sum.inl x:Key)))) d L (cS kvs (Sum.inl x:Key)) xs (x::dn):=by
 have ld:∀k,k∉dn→ins xs k≠[]→L k≠d:=λk h0 h e=>by
  have:=(m.at' k h0 h).1;rw[e,m.dict]at this;cases this
 have no:∀k,k∉x::dn→k∉dn:=λk h h'=>h (mem_cons_of_mem _ h');refine⟨ac,m.d0,le_trans (lT _ _) m.len,λk=>?_,λk h1 h2=>?_,λk k' h0 h1 h2 h3 e=>m.inj k k' (no k h0) (no k' h1) h2 h3 e,bq m.d0 m.same⟩
 ·rw[rf,m.val k]
  by_cases h:k=x
  ·rw[if_pos (by rw[h]),if_pos (.inl (by rw[h];simp))]
  ·rw[if_neg (λe=>h (Sum.inl.inj e))];simp[h]
 ·rw[ai (ld k (no k h1) h2)];exact m.at' k (no k h1) h2
theorem Mem.skip{H0 H:Hp}{d:Addr}{L:Int→Addr}{kvs:List (Key×V)}{xs:ZN}{dn:List Int}(m:Mem H0 H d L kvs xs dn){x:Int}(hx:x∈dn∨ins xs x=[]):Mem H0 H d L kvs xs (x::dn):=by
 have no:∀k,k∉x::dn→k∉dn:=λk h h'=>h (mem_cons_of_mem _ h');refine⟨m.dict,m.d0,m.len,λk=>?_,λk h1 h2=>m.at' k (no k h1) h2,λk k' h0 h1 h2 h3 e=>m.inj k k' (no k h0) (no k' h1) h2 h3 e,m.same⟩;rw[m.val k]
 by_cases h:k=x
 ·subst h;rw[if_pos hx,if_pos (.inl (by simp))]
 ·simp[h]
theorem tm{Q:VK}{H0 H:Hp}{d q:Addr}{L:Int→Addr}{kvs:List (Key×V)}{zs:ZN}{dn:List Int}{x:Int}(m:Mem H0 H d L kvs zs dn)(hq:H q=some (.lst []))(k:∀hl Hc kvs' hs,Mem H0 Hc d L kvs' zs (x::dn)→Hc hl=some (.lst (be hs))→nds hs=TW.here (nds zs) dn x→(∀z∈hs,z∈zs)→(∀p,p≠d→Hc p=H p)→(hs=[]→hl=q)→Q (.ref hl) Hc):
  ∃kvs k,H d=some (.dK kvs)∧V.int x=kV k∧(∀v,aZ kvs k=some v→Q v (upd H d (.dK (cS kvs k))))∧(aZ kvs k=none→Q (.ref q) H):=by
 refine⟨kvs,.inl x,m.dict,rfl,λv hv=>?_,λhn=>?_⟩
 ·rw[m.val x]at hv
  by_cases h:x∈dn∨ins zs x=[]
  ·rw[if_pos h]at hv;cases hv
  ·rw[if_neg h]at hv;have h1:x∉dn:=λz=>h (.inl z);have h2:ins zs x≠[]:=λz=>h (.inr z);cases hv;have a:=(m.at' x h1 h2).1;have ld:L x≠d:=λe=>by rw[e,m.dict]at a;cases a
   refine k (L x) _ _ (ins zs x) (m.drop x) (by rw[ai ld];exact a) ?_ (λz hz=>vF hz) (λp hp=>ai hp) (λe=>absurd e h2);rw[pU];unfold TW.here;rw[if_neg h1]
 ·rw[m.val x]at hn
  by_cases h:x∈dn∨ins zs x=[]
  ·refine k q _ _ [] (m.skip h) hq ?_ (by simp) (λp _=>rfl) (λ_=>rfl);unfold TW.here
   by_cases h1:x∈dn
   ·rw[if_pos h1];rfl
   ·rw[if_neg h1];rcases h with h|h
    ·exact absurd h h1
    ·rw[←pU,h]
  ·rw[if_neg h]at hn;cases hn
theorem pV{H:Hp}{p hl:Addr}{hs:ZN}{is:List Int}(hp:H p=some (.lst (is.map V.int)))(h:H hl=some (.lst (be hs)))(hne:hs≠[]):hl≠p:=by
 intro e;rw[e,hp]at h;injection h with h
 injection h with h
 cases hs with
 |nil=>exact hne rfl
 |cons a r =>
  cases is with
  |nil=>simp[be]at h
  |cons i r'=>simp[be]at h
def kl(H:Hp)(p:Addr):Nat:=match H p with
 |some (.lst xs)=>xs.length
 |_=>0
theorem gH{H:Hp}{p:Addr}{xs:List V}(h:H p=some (.lst xs)):kl H p=xs.length:=by unfold kl;rw[h]
def dN(l:List Nd):List V:=(l.map (·.num)).map V.int
def fo(K:PySem.W.Frag)(H:Hp)(a:Addr):Prop:=∃ns:List Int,SqL K H a (ns.map V.int)
theorem fo.same{K:PySem.W.Frag}{H H':Hp}{a:Addr}(h:fo K H a)(s:Same H H'):fo K H' a:=let⟨ns,e⟩:=h;⟨ns,s.seq e⟩
theorem mO{ns:List Int}{i:Int}(h0:0≤i)(h1:i<ns.length):∃j,atI (ns.map V.int) i=some (.int j):=by
 refine⟨ns[i.toNat]'(by omega),?_⟩;have:=cV (xs:=ns.map V.int) (j:=i.toNat) (v:=.int (ns[i.toNat]'(by omega))) (by rw[getElem?_map,getElem?_eq_getElem (by omega)];rfl);rw[show((i.toNat:Nat):Int)=i by omega]at this;exact this
def Has(P:Program)(w:World)(K:PySem.W.Frag)(mg:Str→Option Value)(base:Heap)(k:Nat)(x:Str)(ps:List Str)(sp:Sp):Prop:=∃f fd,FnOk P w K mg base CX0 k f fd ps sp∧mg x=some (.ref f)∧keepIn K (.ref f)=true∧aq K fd ps []
def tp(z:Addr×Nd):iG:=(z.1,z.2.num,[.int z.2.par,.str z.2.nm,stV z.2.st])
def un(t:iG):Addr×Nd:=(t.1,match t.2.2 with
 |[.int p,.str s,.int i]=>⟨t.2.1,p,s,some i⟩
 |[.int p,.str s,_]=>⟨t.2.1,p,s,none⟩
 | _=>⟨0,0,"",none⟩)
theorem wU(z:Addr×Nd):un (tp z)=z:=by
 obtain⟨a,⟨n,p,s,st⟩⟩:=z;cases st<;>rfl
theorem back{zs:ZN}{ts:List iG}(h:ts.Perm (zs.map tp)):(ts.map un).Perm zs∧(ts.map un).map tp=ts:=by
 constructor
 ·have:=h.map un;rw[map_map]at this;have e:zs.map (un∘tp)=zs.map id:=map_congr_left λz _=>wU z;rw[e,List.map_id]at this;exact this
 ·rw[map_map,map_congr_left (g:=id)]
  ·simp
  ·intro t ht;obtain⟨z,_,rfl⟩:=mem_map.mp (h.mem_iff.mp ht);show tp (un (tp z))=tp z;rw[wU]
theorem pW(zs:ZN):((zs.map tp).map (·.1)).map V.ref=be zs:=by
 unfold be;simp only[map_map];rfl
def dZ(zs:ZN):List (Key×V):=zs.map λz=>((Sum.inl z.2.num:Key),V.ref z.1)
theorem lw{zs:ZN}(hn:((nds zs).map (·.num)).Nodup){z:Addr×Nd}(hz:z∈zs):aZ (dZ zs) (Sum.inl z.2.num:Key)=some (.ref z.1):=by
 induction zs with
 |nil=>simp at hz
 |cons y zs ih =>
  have hn':y.2.num∉(nds zs).map (·.num)∧((nds zs).map (·.num)).Nodup:=by simpa [nds]using hn
  show aZ (((Sum.inl y.2.num:Key),V.ref y.1)::dZ zs) _=_;rcases mem_cons.mp hz with e|hz'
  ·subst e;exact aT rfl
  ·rw[aN]
   ·exact ih hn'.2 hz'
   ·intro e;injection e with e
    exact hn'.1 (mem_map.mpr ⟨z.2,mem_map.mpr ⟨z,hz',rfl⟩,e.symm⟩)
theorem oJ{zs:ZN}{k:Int}(h:∀z∈zs,z.2.num≠k):aZ (dZ zs) (Sum.inl k:Key)=none:=by
 induction zs with
 |nil=>rfl
 |cons y zs ih =>
  show aZ (((Sum.inl y.2.num:Key),V.ref y.1)::dZ zs) _=_;rw[aN]
  ·exact ih λz hz=>h z (mem_cons_of_mem _ hz)
  ·intro e;injection e with e
   exact h y (by simp) e
def lx(H:Hp)(d:Addr)(zs:ZN):Prop:=∃o,H d=some (.frz o (.dK (dZ zs)))
theorem lx.get{H:Hp}{d:Addr}{zs:ZN}(h:lx H d zs)(hn:((nds zs).map (·.num)).Nodup){z:Addr×Nd}(hz:z∈zs):dG H d (.int z.2.num) (some (.ref z.1)):=by
 obtain⟨o,e⟩:=h;exact .inl ⟨dZ zs,Sum.inl z.2.num,.inr ⟨o,e⟩,rfl,(lw hn hz).symm⟩
theorem lx.not{H:Hp}{d:Addr}{zs:ZN}(h:lx H d zs){k:Int}(hk:∀z∈zs,z.2.num≠k):dG H d (.int k) none:=by
 obtain⟨o,e⟩:=h;exact .inl ⟨dZ zs,Sum.inl k,.inr ⟨o,e⟩,rfl,(oJ hk).symm⟩
theorem cJ{ns:List Nd}(T:TW.Tree1 ns):(ns.map (·.num)).Nodup:=by
 have h:=T.rise;unfold TW.dy at h;unfold Nodup;rw[pairwise_map];exact h.imp λh e=>by omega
theorem vG{ys:List V}{zs:ZN}{H:Hp}{p:Addr}{g:Addr×Nd→List V}(hlen:ys.length=zs.length)(h:∀(i:Nat) y,ys[i]?=some y→∃q z,zs[i]?=some z∧y=.ref q∧q≠p∧H q=some (.tup (g z))):
  ∃as:List (Addr×(Addr×Nd)),as.map (·.2)=zs∧ys=(as.map (·.1)).map V.ref∧∀a∈as,a.1≠p∧H a.1=some (.tup (g a.2)):=by
 induction ys generalizing zs with
 |nil =>
  have:zs=[]:=length_eq_zero_iff.mp hlen.symm;subst this;exact⟨[],rfl,rfl,by simp⟩
 |cons y ys ih =>
  cases zs with
  |nil=>simp at hlen
  |cons z zs =>
   obtain⟨as,e1,e2,e3⟩:=ih (zs:=zs) (by simpa using hlen) λi x hx=>by simpa using h (i+1) x (by simpa using hx)
   obtain⟨q,z',f1,f2,f3,f4⟩:=h 0 y rfl;have:z=z':=by simpa using f1
   subst this;refine⟨(q,z)::as,by simp[e1],by simp[e2,f2],λa ha=>?_⟩;rcases mem_cons.mp ha with rfl|ha
   ·exact⟨f3,f4⟩
   ·exact e3 a ha
theorem mQ{κ:Type}[DecidableEq κ]{kvs:List (κ×V)}(hn:(kvs.map (·.1)).Nodup){k:κ}{v:V}(h:(k,v)∈kvs):aZ kvs k=some v:=by
 induction kvs with
 |nil=>simp at h
 |cons y kvs ih =>
  have hn':y.1∉kvs.map (·.1)∧(kvs.map (·.1)).Nodup:=by simpa using hn
  rcases mem_cons.mp h with e|h'
  ·subst e;exact aT rfl
  ·rw[aN]
   ·exact ih hn'.2 h'
   ·intro e;exact hn'.1 (mem_map.mpr ⟨_,h',e.symm⟩)
theorem pX{κ:Type}[DecidableEq κ]{kvs:List (κ×V)}{k:κ}(h:k∉kvs.map (·.1)):aZ kvs k=none:=by
 induction kvs with
 |nil=>rfl
 |cons y kvs ih =>
  have h':¬k=y.1∧k∉kvs.map (·.1):=by simpa using h
  rw[aN (λe=>h'.1 e.symm)];exact ih h'.2
def cy(P:Program)(w:World)(K:PySem.W.Frag)(mg:Str→Option Value)(base:Heap)(k:Nat)(x:Str)(ps:List Str)(sp:Sp):Prop:=∃f fd,FnOk P w K mg base (CX1 P w) k f fd ps sp∧mg x=some (.ref f)∧keepIn K (.ref f)=true∧aq K fd ps []
structure Tre(H:Hp)(t:Addr)(zs:ZN):Prop where
 tup:H t=some (.tup (be zs))
 nod:At H zs
 tr:TW.Tree1 (nds zs)
 len:zs.length≤30
theorem Tre.same{H H':Hp}{t:Addr}{zs:ZN}(h:Tre H t zs)(s:Same H H'):Tre H' t zs:=⟨s _ _ h.tup,h.nod.same s,h.tr,h.len⟩
theorem rg{ns:List Nd}(T:TW.Tree1 ns){f:Int}{dn:List Int}{fd:List Nd}(wk:TW.Walk ns f dn fd []):(fd.map (·.num)).Nodup:=by
 have h:=cJ T;have:(fd.map (·.num)).Perm ((ns.filter (TW.eG dn)).map (·.num)):=wk.perm.map _;exact this.nodup_iff.mpr (h.sublist (filter_sublist.map _))
theorem _root_.L2.Same.rd{H H':Hp}(s:Same H H'){a:Addr}{u:HO}(r:Rd H a u):Rd H' a u:=by
 rcases r with r|⟨o,r⟩
 ·exact .inl (s _ _ r)
 ·exact .inr ⟨o,s _ _ r⟩
def fq(as:List (Addr×(Addr×Nd))):List (Key×V):=as.map λa=>((Sum.inl a.2.2.num:Key),V.ref a.1)
def bH(n:Nd):List V:=[.int n.par,.str n.nm,stV n.st]
structure Book(H:Hp)(d:Addr)(as:List (Addr×(Addr×Nd)))(zs:ZN):Prop where
 dict:Rd H d (.dK (fq as))
 of:as.map (·.2)=zs
 at':∀a∈as,H a.1=some (.tup (bH a.2.2))
theorem Book.same{H H':Hp}{d:Addr}{as:List (Addr×(Addr×Nd))}{zs:ZN}(b:Book H d as zs)(s:Same H H'):Book H' d as zs:=⟨s.rd b.dict,b.of,λa ha=>s _ _ (b.at' a ha)⟩
theorem fX{as:List (Addr×(Addr×Nd))}{zs:ZN}(h:as.map (·.2)=zs):(fq as).map (·.1)=((nds zs).map (·.num)).map (Sum.inl:Int→Key):=by
 rw[←h];unfold fq nds;simp only[map_map];rfl
theorem tu{as:List (Addr×(Addr×Nd))}{zs:ZN}(h:as.map (·.2)=zs)(hn:((nds zs).map (·.num)).Nodup):((fq as).map (·.1)).Nodup:=by
 rw[fX h];unfold Nodup at hn⊢;rw[pairwise_map];exact hn.imp λh e=>h (by injection e)
theorem Book.get{H:Hp}{d:Addr}{as:List (Addr×(Addr×Nd))}{zs:ZN}(b:Book H d as zs)(hn:((nds zs).map (·.num)).Nodup){z:Addr×Nd}(hz:z∈zs):∃q,dG H d (.int z.2.num) (some (.ref q))∧H q=some (.tup (bH z.2)):=by
 have:z∈as.map (·.2):=by rw[b.of];exact hz
 obtain⟨a,ha,rfl⟩:=mem_map.mp this;refine⟨a.1,.inl ⟨fq as,Sum.inl a.2.2.num,b.dict,rfl,?_⟩,b.at' a ha⟩;exact(mQ (tu b.of hn) (mem_map.mpr ⟨a,ha,rfl⟩)).symm
theorem Book.not{H:Hp}{d:Addr}{as:List (Addr×(Addr×Nd))}{zs:ZN}(b:Book H d as zs){k:Int}(hk:∀z∈zs,z.2.num≠k):dG H d (.int k) none:=by
 refine .inl ⟨fq as,Sum.inl k,b.dict,rfl,(pX λhm=>?_).symm⟩;rw[fX b.of]at hm;obtain⟨i,hi,e⟩:=mem_map.mp hm;obtain⟨n,hn,rfl⟩:=mem_map.mp hi;obtain⟨z,hz,rfl⟩:=mem_map.mp hn;injection e with e
 exact hk z hz e
abbrev fu(x:Str)(mg:Str→Option Value)(base:Heap)(C:Addr):Prop:=PyProof.Rows.OwnCls x C bmV "ValueError.__new__" mg base
theorem pY(o:Option Int):(!decide (stV o=V.non))=o.isSome:=by cases o<;>simp[stV]
theorem eS(zs:ZN):zs.map (λz=>V.ref z.1)=be zs:=by simp[be]
def As:TW.Wd→Str
 |.known=>"Known"
 |.noNode=>"NoNode"
 |.notFile=>"NotFile"
 |.notFolder=>"NotFolder"
 |.inside=>"Inside"
 |.taken=>"Taken"
abbrev vH(mg:Str→Option Value)(base:Heap)(cls:TW.Wd→Addr):Prop:=∀w,fu (As w) mg base (cls w)
structure Outs(H:Hp)(t:List Nd)(d:TW.Deed Str)(cls:TW.Wd→Addr)(Q:VK)(E:XK):Prop where
 ok:∀us t' H',Same H H'→H' t'=some (.tup (be us))→At H' us→TW.Told t d (.inr (nds us))→Q (.ref t') H'
 no:∀w H',Same H H'→TW.Told t d (.inl w)→E (.ref (cls w)) none H'
theorem mR{K:PySem.W.Frag}{H:Hp}{l:Addr}{zs:ZN}{Q:VK}(hl:SqL K H l (be zs)∨SqT K H l (be zs))(hA:At H zs)(hn:((nds zs).map (·.num)).Nodup)(h64:zs.length<64)(q:∀us t' H',Same H H'→H' t'=some (.tup (be us))→At H' us→us.Perm zs→TW.dy (nds us)→Q (.ref t') H'):
  ∃l',∃ts:List iG,[V.ref l]=[V.ref l']∧(SqL K H l' ((ts.map (·.1)).map V.ref)∨SqT K H l' ((ts.map (·.1)).map V.ref))∧(∀z∈ts,H z.1=some (.tup (.int z.2.1::z.2.2)))∧(ts.map (·.2.1)).Nodup∧ts.length<64 ∧
   ∀ts':List iG,ts'.Perm ts→ts'.Pairwise (λa b=>a.2.1<b.2.1)→∀p,H p=none→∃p' ys,[V.ref p]=[V.ref p']∧((SqL K (upd H p (.lst ((ts'.map (·.1)).map V.ref))) p' ys∧∀l,upd H p (.lst ((ts'.map (·.1)).map V.ref)) l=none→Q (.ref l) (upd (upd H p (.lst ((ts'.map (·.1)).map V.ref))) l (.tup ys))) ∨
    (SqT K (upd H p (.lst ((ts'.map (·.1)).map V.ref))) p' ys∧Q (.ref p') (upd H p (.lst ((ts'.map (·.1)).map V.ref))))):=by
 have hnum:(zs.map tp).map (·.2.1)=(nds zs).map (·.num):=by
  unfold nds;simp only[map_map];rfl
 refine⟨l,zs.map tp,rfl,by rw[pW];exact hl,λz hz=>?_,by rw[hnum];exact hn,by rw[length_map];exact h64,λts pm up p hp=>?_⟩
 ·obtain⟨y,hy,rfl⟩:=mem_map.mp hz;exact hA y hy
 ·obtain⟨pm2,eb⟩:=back pm;have er:(ts.map (·.1)).map V.ref=be (ts.map un):=by rw[←pW,eb]
  rw[er];refine⟨p,_,rfl,.inl ⟨SqL.of ac,λl hl=>?_⟩⟩;refine q (ts.map un) l _ ((af hp).trans (af hl)) ac ?_ pm2 ?_
  ·intro z hz;exact((af hp).trans (af hl)) _ _ (hA z (pm2.mem_iff.mp hz))
  ·unfold nds TW.dy;rw[pairwise_map];have up2:((ts.map un).map tp).Pairwise (λa b=>a.2.1<b.2.1):=by rw[eb];exact up
   rw[pairwise_map]at up2;exact up2
def gI:TW.Deed Str→List V
 |.make n p nm st=>[.str "make",.int n,.int p,.str nm,stV st]
 |.write n st=>[.str "write",.int n,.int st]
 |.move n p nm=>[.str "move",.int n,.int p,.str nm]
 |.drop n=>[.str "drop",.int n]
def dq:TW.Deed Str→Prop
 |.make n p nm _=>1≤n∧n≤60∧0≤p∧p≤60∧nm.length≤100
 |.write n _=>1≤n∧n≤60
 |.move n p nm=>1≤n∧n≤60∧0≤p∧p≤60∧nm.length≤100
 |.drop n=>1≤n∧n≤60
theorem dq.pos{d:TW.Deed Str}(h:dq d):d.pos:=by
 cases d<;>first|exact h.1|trivial
theorem bO{zs:ZN}{z:Addr×Nd}(h:z∈zs):z.2∈nds zs:=mem_map.mpr ⟨z,h,rfl⟩
theorem jp{zs:ZN}{n:Nd}(h:n∈nds zs):∃z∈zs,z.2=n:=mem_map.mp h
theorem fe{zs:ZN}{k:Int}(h:¬∃z∈zs,z.2.num=k):¬TW.dl (nds zs) k:=λ⟨m,hm,e⟩=>by
 obtain⟨z,hz,rfl⟩:=jp hm;exact h ⟨z,hz,e⟩
theorem mS{zs:ZN}{k:Int}{z:Addr×Nd}(hz:z∈zs)(e:z.2.num=k):TW.dl (nds zs) k:=⟨z.2,bO hz,e⟩
def top(i:Nat):Stmt:=PySem.Challenge.pw_treewatch_k87_ledgers_refused.main.body.getD i (.Pass ⟨0,0,0,0⟩)
abbrev eu:Stmt:=bR (top 39) 0
abbrev dz:Stmt:=bR (top 39) 1
abbrev fY:Stmt:=bR (top 39) 2
abbrev du:Stmt:=bR (top 39) 3
abbrev cz:Stmt:=bR (top 39) 4
abbrev bY:Stmt:=bR (top 39) 5
abbrev eA:Stmt:=bR (top 39) 6
abbrev eT:Stmt:=bR (top 39) 7
abbrev eB:Stmt:=bR (top 39) 8
abbrev cA:Stmt:=bR (top 39) 10
abbrev eD:Stmt:=bR (top 39) 11
abbrev dA:Stmt:=bR (top 39) 12
abbrev dB:Stmt:=bR (top 39) 13
abbrev mX:Stmt:=top 19
abbrev xQ:Stmt:=top 20
abbrev xR:Stmt:=top 21
abbrev tw:Stmt:=top 22
abbrev tz:Stmt:=top 23
abbrev xS:Stmt:=top 25
abbrev cB:Stmt:=top 27
abbrev cF:Stmt:=top 28
abbrev aO:Stmt:=top 29
abbrev xT:Stmt:=top 31
abbrev pZ:Stmt:=top 32
abbrev tD:Stmt:=top 33
abbrev oK:Stmt:=top 34
abbrev tE:Stmt:=top 35
abbrev qa:Stmt:=top 36
abbrev tF:Stmt:=top 37
abbrev ly:Stmt:=top 41
abbrev lz:Stmt:=top 42
abbrev tG:Stmt:=top 44
abbrev tH:Stmt:=top 45
abbrev dv:Stmt:=top 46
abbrev eE:Stmt:=top 47
abbrev oM:Stmt:=top 48
structure Txt(mg:Str→Option Value):Prop where
 isin:mg "isinstance"=none
 dict:mg "dict"=none
 len:mg "len"=none
 tuple:mg "tuple"=none
 list:mg "list"=none
 range:mg "range"=none
 sorted:mg "sorted"=none
 reversed:mg "reversed"=none
 ValueError:mg "ValueError"=none
 str:mg "str"=none
 set:mg "set"=none
 max:mg "max"=none
 min:mg "min"=none
 sum:mg "sum"=none
 zip:mg "zip"=none
 enumerate:mg "enumerate"=none
 all:mg "all"=none
 int:mg "int"=none
 bool:mg "bool"=none
 top:∃t,mg "TOP"=some (.int 0 t)
 letters:∃t,mg "LETTERS"=some (.str "abcdefghijklmnopqrstuvwxyz" t)
 longest:∃t,mg "LONGEST_NAME"=some (.int 5 t)
end TK
namespace TB
open PySem PySem.SetTable
theorem rh{t:SetTable}{l:List Nat}(T:Tb t l)(mk:Mk t.mask)(hl:l.length≤t.mask)(h:Int):∃j,t.freeSlot h=some (j,false)∧j∉l∧j≤t.mask:=by
 obtain⟨j₀,hj₀,hj₀'⟩:=oE t.mask l hl;obtain⟨n₀,hn₀,en₀⟩:=cover mk.cyc h hj₀;obtain⟨N,hNle,hN,hNno⟩:=sy (λm=>pos t.mask h m∉l) n₀ (by rw[en₀];exact hj₀');have hp:=mf t (λ_=>h+1) h N (st t.mask h) (10*turns t.mask) (by omega) (λm hm=>by
  have hin:pos t.mask h m∈l:=by
   by_cases z:pos t.mask h m∈l
   ·exact z
   ·exact(hNno m hm z).elim
  obtain⟨i,hi,e⟩:=mem_iff_getElem.mp hin;exact⟨i,vm T (by show l[i]?=some (pos t.mask h m);rw[getElem?_eq_getElem hi,e]),by rw[beq_eq_false_iff_ne];omega⟩) (sB T hN)
 refine⟨pos t.mask h N,?_,hN,je _ _ _⟩;unfold SetTable.freeSlot;have hp':t.probe (λ_=>h+1) h (t.probeStart h)=some (.empty (pos t.mask h N) none):=hp;rw[hp'];rfl
theorem vI{t:SetTable}{l:List Nat}(T:Tb t l)(mk:Mk t.mask)(hl:l.length+1≤t.mask)(es:Array (Int×Value))(hes:es.size=l.length)(h:Int)(x:Value):
  ∃p t' l',layNew t es h x=(insertAt es p (h,x),t',false,false)∧Tb t' l'∧l'.length=l.length+1∧t'.mask=t.mask∧t'.plain=t.plain∧t'.led=t.led:=by
 obtain⟨j,hf,hj,hjm⟩:=rh T mk (by omega) h;obtain⟨T1,hp1,hm1⟩:=xI T hj hjm;have hlen:(l.take (below l.toArray j)++j::l.drop (below l.toArray j)).length=l.length+1:=by
  rw[length_append,length_cons,length_take,length_drop];have:=(cE T.up j).1;omega
 have hsz:(insertAt es (t.put j).2 (h,x)).size=l.length+1:=by
  rw[←length_toList,SetTable.toList_insertAt,length_append,length_cons,length_take,length_drop,length_toList,hes,hp1];have:=(cE T.up j).1;omega
 have hfit:(t.put j).1.fits (insertAt es (t.put j).2 (h,x)).size=true:=li T1 (by rw[hlen,hsz]) (by rw[hsz,hm1];exact hl);refine⟨(t.put j).2,(t.put j).1,_,?_,T1,hlen,hm1,rfl,rfl⟩;unfold layNew;rw[hf];show(insertAt es (t.put j).2 (h,x),(t.put j).1.orStandIn (insertAt es (t.put j).2 (h,x)).size,false,!((t.put j).1.fits (insertAt es (t.put j).2 (h,x)).size))=_;rw[hfit];unfold SetTable.orStandIn;rw[if_pos hfit];rfl
theorem ri{t:SetTable}(es:Array (Int×Value))(h0:0<es.size)(h60:es.size≤60):
  ∃es' t' l',relayAll t es (grown es.size)=(es',t',false)∧es'.toList.Perm es.toList∧Tb t' l'∧l'.length=es.size∧Mk t'.mask∧es.size*5<t'.mask*3∧t'.plain=t.plain∧t'.led=t.led:=by
 have hw:grown es.size=es.size*4:=by unfold SetTable.grown;rw[if_neg (by omega)]
 obtain⟨hmk,hle,h256⟩:=jd (w:=es.size*4) (by omega);rw[hw];obtain⟨t',zs,e,hm,hled,hpl,T,hperm,_⟩:=ka (t:=t) (hashes:=es.map (·.1)) (wanted:=es.size*4) hmk.cyc (by rw[size_map];omega);rw[size_map]at hperm;have hlen:zs.length=es.size:=by
  have:=hperm.length_eq;rw[length_map,length_range]at this;exact this
 have hp:(((zs.map (·.2)).toArray).filterMap (λi=>es[i]?)).toList.Perm es.toList:=by
  rw[Array.toList_filterMap];exact(hperm.filterMap _).trans (by rw[filterMap_getElem?_range])
 have hsz:(((zs.map (·.2)).toArray).filterMap (λi=>es[i]?)).size=es.size:=by
  rw[←length_toList,hp.length_eq,length_toList]
 have hfit:t'.fits (((zs.map (·.2)).toArray).filterMap (λi=>es[i]?)).size=true:=li T (by rw[hsz,length_map,hlen]) (by rw[hsz,hm];omega);have hcov:coversAll (zs.map (·.2)).toArray es.size=true:=by
  unfold coversAll;exact List.isPerm_iff.mpr hperm
 refine⟨((zs.map (·.2)).toArray).filterMap (λi=>es[i]?),t',zs.map (·.1),?_,hp,T,by rw[length_map,hlen],by rw[hm];exact hmk,by rw[hm];omega,hpl,hled⟩;unfold relayAll;rw[e];dsimp only;rw[hcov,hfit];rfl
def bt(w:World):Bool:=w.params.followText "set-order"
def gJ(tk:Int→Tok)(n:Int):Int×Value:=(hashInt n,.int n (tk n))
structure ISt(w:World)(es:Array (Int×Value))(t:SetTable)(ns:List Int):Prop where
 ent:∃tk,es.toList=ns.map (gJ tk)
 nd:ns.Nodup
 tb:∃l,Tb t l∧l.length=ns.length
 mkm:Mk t.mask
 room:ns.length*5<t.mask*3
 pl:t.plain=true
 led:bt w=false→t.led=true
def IS(w:World)(h:Heap)(a:Addr)(ns:List Int):Prop:=∃o es ep t,h.get? a=some o∧o.ExactSet∧o.data=.set es ep t∧ISt w es t ns
theorem ISt.size{w:World}{es:Array (Int×Value)}{t:SetTable}{ns:List Int}(h:ISt w es t ns):es.size=ns.length:=by
 obtain⟨tk,e⟩:=h.ent;rw[←length_toList,e,length_map]
theorem ISt.fits{w:World}{es:Array (Int×Value)}{t:SetTable}{ns:List Int}(h:ISt w es t ns):t.fits es.size=true:=by
 obtain⟨l,T,hl⟩:=h.tb;have:=h.mkm.ge;have:=h.room;exact li T (by rw[hl,h.size]) (by rw[h.size];omega)
theorem ISt.elems{prog:Program}{w:World}{es:Array (Int×Value)}{t:SetTable}{ns:List Int}(h:ISt w es t ns):ElemsOf (intKind prog w) es.toList:=by
 obtain⟨tk,e⟩:=h.ent;rw[e];intro z hz;obtain⟨n,hn,rfl⟩:=mem_map.mp hz;exact⟨⟨n,intKind_is _ _ _ _,rfl⟩,rfl⟩
theorem dh{es':List (Int×Value)}:∀{l:List (Int×Value)},es'.Perm l→∀{tk:Int→Tok}{ns:List Int},l=ns.map (gJ tk)→∃ns':List Int,ns'.Perm ns∧es'=ns'.map (gJ tk):=by
 intro l p tk ns e;have hall:∀z∈es',∃n,z=gJ tk n:=λz hz=>by
  have:=p.mem_iff.mp hz;rw[e]at this;obtain⟨n,hn,e⟩:=mem_map.mp this;exact⟨n,e.symm⟩
 obtain⟨ns',e'⟩:∃ns':List Int,es'=ns'.map (gJ tk):=by
  clear p e
  induction es' with
  |nil=>exact⟨[],rfl⟩
  |cons z es' ih =>
   obtain⟨n,hn⟩:=hall z mem_cons_self;obtain⟨ns',e⟩:=ih λy hy=>hall y (mem_cons_of_mem _ hy);exact⟨n::ns',by rw[hn,e];rfl⟩
 refine⟨ns',?_,e'⟩;have hv:∀m:List Int,(m.map (gJ tk)).map (λz=>match z.2 with | .int n _=>n | _=>0)=m:=λm=>by
  rw[map_map]
  induction m with
  |nil=>rfl
  |cons x m ih=>rw[map_cons,ih];rfl
 have:=p.map (λz=>match z.2 with | .int n _=>n | _=>0);rw[e',e,hv,hv]at this;exact this
theorem tI{tk:Int→Tok}{ns:List Int}{n:Int}{t:Tok}(hn:n∉ns):∃tk',(gJ tk' n=(hashInt n,Value.int n t))∧ns.map (gJ tk')=ns.map (gJ tk):=by
 refine⟨λm=>if m=n then t else tk m,by show(hashInt n,Value.int n (if n=n then t else tk n))=_;rw[if_pos rfl],?_⟩
 apply map_congr_left;intro m hm;show(hashInt m,Value.int m (if m=n then t else tk m))=_;rw[if_neg (by rintro rfl;exact hn hm)];rfl
section
variable{prog:Program}{w:World}{A:Around}{E:Value→Shared→Prop}{s:Shared}
theorem add_int{a:Addr}{ns:List Int}{n:Int}{t0:Tok}{Q:Bool→Shared→Prop}(hS:IS w s.heap a ns)(hroom:ns.length<60)(h:∀r h' ns',SameBut a s.heap h'→IS w h' a ns'→((n∈ns∧ns'=ns)∨(n∉ns∧ns'.Perm (n::ns)))→Q r {s with heap:=h'}):
  wpAny (model prog w) A (setAddHashed a (.int n t0) (hashInt n)) Q E s:=by
 obtain⟨o,es,ep,t,ho,hex,hd,S⟩:=id hS;have hsz:=S.size;have hf:=S.fits;have hel:ElemsOf (intKind prog w) es.toList:=S.elems;have hkey:(intKind prog w).is n (.int n t0)=true:=intKind_is _ _ _ _;have hb:es.size<scanBound:=by unfold scanBound;omega
 have hge:=S.mkm.ge;have hrm:=S.room;unfold setAddHashed setAddHashedIn;refine wpAny_holding (wpAny_bind (wpAny_setState_of ho hd hf ?_));dsimp only;rw[byScan_of (knd:=intKind prog w) (x:=.int n t0) rfl hb hel];simp only[↓reduceIte];unfold setAddByScan;refine wpAny_bind ?_;refine wpAny_bind (wpAny_rule ?_);refine wpAny_bind (wpAny_setScan_of (knd:=intKind prog w) (k:=n) hkey ho hd hf hel ?_);obtain⟨tk,hent⟩:=S.ent;cases hr:List.findIdx? (λe=>(intKind prog w).is n e.2) es.toList with
 |some j =>
  dsimp only;obtain⟨hj,hpj,_⟩:=List.findIdx?_eq_some_iff_getElem.mp hr;have hin:n∈ns:=by
   have hm:es.toList[j]∈es.toList:=getElem_mem hj;generalize es.toList[j]=z at hm hpj;rw[hent]at hm;obtain⟨m,hm1,rfl⟩:=mem_map.mp hm;have:=(intKind prog w).inj _ n m hpj (intKind_is _ _ _ _);rw[this];exact hm1
  refine wpAny_pure (wpAny_pure ?_);have e:s={s with heap:=s.heap}:=by cases s;rfl
  have:=h false s.heap ns (SameBut.refl a s.heap) hS (.inl ⟨hin,rfl⟩);rw[e];exact this
 |none =>
  dsimp only;have hnin:n∉ns:=λhin=>by
   have:=List.findIdx?_eq_none_iff.mp hr (gJ tk n) (by rw[hent];exact mem_map.mpr ⟨n,hin,rfl⟩);have h2:(intKind prog w).is n (gJ tk n).2=true:=intKind_is _ _ _ _;rw[h2]at this;cases this
  obtain⟨l,T,hl⟩:=S.tb;obtain⟨p,t1,l1,e1,T1,hl1,hm1,hp1,hled1⟩:=vI T S.mkm (by omega) es (by omega) (hashInt n) (.int n t0);rw[e1];dsimp only;obtain⟨tk',htk1,htk2⟩:=tI (tk:=tk) (t:=t0) hnin;obtain⟨ns1,hns1,hes1⟩:=dh (es':=(insertAt es p (hashInt n,Value.int n t0)).toList) (l:=(n::ns).map (gJ tk')) (tk:=tk') (ns:=n::ns) (by
   refine(SetTable.insertAt_perm es p _).trans ?_;rw[Array.toList_push,hent,←htk2,map_cons,htk1];exact List.perm_append_singleton _ _) rfl
  have hn1:ns1.length=ns.length+1:=by rw[hns1.length_eq,length_cons]
  have hnd1:ns1.Nodup:=hns1.nodup_iff.mpr (nodup_cons.mpr ⟨hnin,S.nd⟩);have hsz1:(insertAt es p (hashInt n,Value.int n t0)).size=ns1.length:=by rw[←length_toList,hes1,length_map]
  refine wpAny_bind (wpAny_pure ?_);rw[hp1,S.pl];simp only[if_true];refine wpAny_bind ?_;rw[hashByValue_scannable 8 (x:=.int n t0) rfl];refine wpAny_pure ?_;simp only[plainKind,if_true];refine wpAny_bind (wpAny_storeSet_of ho hd ?_ (by rw[hsz1];exact sE (by omega)));have ho1:=stored ho hd (insertAt es p (hashInt n,Value.int n t0)) t1;have hsb1:=SameBut.update s.heap a (Obj.putSet (insertAt es p (hashInt n,Value.int n t0)) t1);have hfill:t1.fill=ns1.length:=by rw[gy T1,hl1,hl,hn1]
  by_cases hfull:t1.tooFull=true
  ·rw[hfull];simp only[Bool.not_false,Bool.and_self,if_true];obtain⟨es2,t2,l2,e2,p2,T2,hl2,hmk2,hrm2,hp2,hled2⟩:=ri (t:=t1) (insertAt es p (hashInt n,Value.int n t0)) (by omega) (by omega);rw[e2];dsimp only;obtain⟨ns2,hns2,hes2⟩:=dh p2 hes1;have hn2:ns2.length=ns1.length:=hns2.length_eq;have hsz2:es2.size=ns2.length:=by rw[←length_toList,hes2,length_map]
   refine wpAny_bind (wpAny_pure ?_);refine wpAny_bind (wpAny_storeSet_of ho1 rfl ?_ (by rw[hsz2];exact sE (by omega)));have ho2:=stored (s:={s with heap:=s.heap.update a (Obj.putSet (insertAt es p (hashInt n,Value.int n t0)) t1)}) ho1 rfl es2 t2
   refine wpAny_pure (wpAny_pure (h true _ ns2 (hsb1.trans (SameBut.update _ a _)) ⟨_,es2,_,t2,ho2,hex,rfl,⟨⟨tk',hes2⟩,hns2.nodup_iff.mpr hnd1,⟨l2,T2,by omega⟩,hmk2,by rw[hn2,←hsz1];exact hrm2,by rw[hp2,hp1];exact S.pl,λz=>by rw[hled2,hled1];exact S.led z⟩⟩ (.inr ⟨hnin,hns2.trans hns1⟩)))
  ·have hnf:t1.tooFull=false:=by simpa using hfull
   rw[hnf];simp only[Bool.and_false,false_eq_true,if_false];refine wpAny_pure (wpAny_pure (h true _ ns1 hsb1 ⟨_,_,_,t1,ho1,hex,rfl,⟨⟨tk',hes1⟩,hnd1,⟨l1,T1,by omega⟩,by rw[hm1];exact S.mkm,?_,by rw[hp1];exact S.pl,λz=>by rw[hled1];exact S.led z⟩⟩ (.inr ⟨hnin,hns1⟩)));unfold SetTable.tooFull at hnf;rw[decide_eq_false_iff_not,hfill]at hnf;omega
end
theorem jq:entryFor table "set.__iter__"=some Builtin.«frozenset.__iter__» :=
 entryFor_alias (id':="frozenset.__iter__") (by kernel_rfl) rfl (by decide +kernel) (by kernel_rfl)
theorem bZ:Slot "set_iterator" "__next__" "set_iterator.__next__" :=
 .of (owner:="set_iterator") (n:="__next__") (by rw[typeLookup_type,builtinLookup_eq_fast];kernel_rfl) (by decide +kernel) (by decide +kernel) (by decide +kernel)
  (by first|exact .inl (by decide +kernel)|exact .inr (by decide +kernel)) (by rw[isSubtype_type];kernel_rfl)
theorem gK:Slot "set_iterator" "__iter__" "set_iterator.__iter__" :=
 .of (owner:="set_iterator") (n:="__iter__") (by rw[typeLookup_type,builtinLookup_eq_fast];kernel_rfl) (by decide +kernel) (by decide +kernel) (by decide +kernel)
  (by first|exact .inl (by decide +kernel)|exact .inr (by decide +kernel)) (by rw[isSubtype_type];kernel_rfl)
theorem fw:entryFor table "set_iterator.__next__"=some Builtin.«set_iterator.__next__»:=entryFor_of_tree (by kernel_rfl)
theorem mY:Manifest.owners.lookup (String.ofList ['r','o','t','a','r','e','t','i','_','t','e','s'].reverse)=some Manifest.sig_set_iterator:=by kernel_rfl
theorem gL(a:Value):argsOk "set_iterator.__next__" ⟨[a],[]⟩:=by
 unfold argsOk;rw[signature?_of (id:="set_iterator.__next__") (n:=['_','_','t','x','e','n','_','_']) (o:=['r','o','t','a','r','e','t','i','_','t','e','s']) (by kernel_rfl) mY];kernel_rfl
theorem lA(a:Value):argsOk "set_iterator.__iter__" ⟨[a],[]⟩:=by
 unfold argsOk;rw[signature?_of (id:="set_iterator.__iter__") (n:=['_','_','r','e','t','i','_','_']) (o:=['r','o','t','a','r','e','t','i','_','t','e','s']) (by kernel_rfl) mY];kernel_rfl
theorem jO:∃b,entryFor table "set_iterator.__iter__"=some b∧b=Builtin.«dict_keyiterator.__iter__» :=
 ⟨_,entryFor_alias (id':="dict_keyiterator.__iter__") (by kernel_rfl) rfl (by decide +kernel) (by kernel_rfl),rfl⟩
theorem km{α:Type}(next:Nat→Nat):∀(fuel k:Nat)(left:List α)(out:Array α),left.length=fuel→(pickOrder.go next fuel k left out).toList.Perm (out.toList++left)
 |0,k,left,out,h=>by
  have:left=[]:=length_eq_zero_iff.mp h;subst this;rw[append_nil];exact .rfl
 |fuel+1,k,left,out,h=>by
  unfold pickOrder.go;have hlt:next k % left.length<left.length:=mod_lt _ (by omega);rw[getElem?_eq_getElem hlt];dsimp only;refine(km next fuel (k+1) _ _ (by rw[List.length_eraseIdx,if_pos hlt];omega)).trans ?_;rw[Array.toList_push,append_assoc];refine List.Perm.append_left _ ?_;rw[List.singleton_append];rw[List.eraseIdx_eq_take_drop_succ];refine List.perm_middle.symm.trans ?_;rw[List.getElem_cons_drop,List.take_append_drop]
def eU(w:World)(a:Addr)(ep:Nat)(es:Array (Int×Value)):Array (Int×Value):=if bt w then pickOrder (w.params.setOrder a ep) es else es
theorem jr(w:World)(a:Addr)(ep:Nat)(es:Array (Int×Value)):(eU w a ep es).toList.Perm es.toList:=by
 unfold eU
 split
 ·exact km _ _ _ _ _ rfl
 ·exact .rfl
theorem mZ(w:World)(a:Addr)(ep:Nat)(es:Array (Int×Value)):(eU w a ep es).size=es.size:=by
 rw[←length_toList,(jr w a ep es).length_eq,length_toList]
def oN(w:World)(t:SetTable)(h:Heap)(I a:Addr)(n ep i:Nat):Prop :=
 ∃o slot,h.get? I=some o∧o.cls=.type "set_iterator"∧o.data=.fields #[.int (slot:Nat) 0,.int (i:Nat) 0,.ref a,.int (n:Nat) 0,.int (ep:Nat) 0]∧(bt w=false→below t.place slot=i)
theorem oN.typeIs{w:World}{t:SetTable}{s:Shared}{I a:Addr}{n ep i:Nat}(x:oN w t s.heap I a n ep i):s.TypeIs (.ref I) "set_iterator":=let⟨o,_,ho,hc,_⟩:=x;⟨o,ho,hc⟩
section
variable{prog:Program}{w:World}{A:Around}{E:Value→Shared→Prop}{s:Shared}
theorem im{es:Array (Int×Value)}{t:SetTable}{ns:List Int}(S:ISt w es t ns):(!t.plain&&decide (es.size>1))=false:=by rw[S.pl];rfl
theorem tJ{a:Addr}{o:Obj}{es:Array (Int×Value)}{ep:Nat}{t:SetTable}{ns:List Int}{Q:Value→Shared→Prop}(S:ISt w es t ns)(ho:s.heap.get? a=some o)(hex:o.ExactSet)(hd:o.data=.set es ep t)(hQ:Q (.ref s.heap.objs.size) {s with heap:=s.heap.push {cls:=.type "set_iterator",data:=.fields #[.int 0 0,.int 0 0,.ref a,.int es.size 0,.int ep 0]}}):wpAny (model prog w) A (pyIter (.ref a)) Q E s:=by
 have hT:s.TypeIs (.ref a) "set":=⟨o,ho,hex.1⟩;refine wpAny_pyIter_slot hT F.slot_set_iter (wpAny_call_entry F.slot_set_iter hT jq ?_ (F.args_set_iter_1 _));unfold Builtin.«frozenset.__iter__» Builtin.Frozenset.slot0;refine wpAny_bind ?_;show wpAny _ _ (pure a) _ _ s;refine wpAny_pure ?_;unfold Builtin.Frozenset.sizeOf;refine wpAny_bind (wpAny_bind (wpAny_setEntries_of ho hd S.fits (wpAny_pure ?_)));refine wpAny_bind ?_;unfold setDrawn;refine wpAny_bind (wpAny_setState_of ho hd S.fits ?_);unfold setsByText;refine wpAny_bind (wpAny_bind (wpAny_askSetting (wpAny_pure ?_)));refine wpAny_pure ?_;have hdr:(!(model prog w).w.params.followText "set-order"&&(!t.plain&&decide (es.size>1)))=false:=by rw[im S,Bool.and_false]
 show wpAny _ _ (if (!(model prog w).w.params.followText "set-order"&&(!t.plain&&decide (es.size>1)))=true then _ else _) _ _ _
 rw[hdr];simp only[false_eq_true,if_false];refine wpAny_bind (wpAny_pure ?_);refine wpAny_bind (wpAny_setEpoch_of ho hd S.fits ?_);refine wpAny_bind (wpAny_newObj_type (wpAny_pure ⟨_,rfl,"set_iterator",_,⟨_,get?_push_size _ rfl,rfl⟩,bZ.lookup,?_⟩));simpa [rawInt]using hQ
theorem nc{a:Addr}{o:Obj}{es:Array (Int×Value)}{ep slot i:Nat}{t:SetTable}{ns:List Int}{Q:Option (Value×Nat)→Shared→Prop}(S:ISt w es t ns)(ho:s.heap.get? a=some o)(hd:o.data=.set es ep t)(hs:bt w=false→below t.place slot=i)(h1:∀v slot',(eU w a ep es)[i]?.map (·.2)=some v→(bt w=false→below t.place slot'=i+1)→Q (some (v,slot')) s)(h2:(eU w a ep es)[i]?=none→Q none s):wpAny (model prog w) A (setNext a slot i ep) Q E s:=by
 unfold setNext;refine wpAny_bind (wpAny_setState_of ho hd S.fits ?_);unfold setsByText;refine wpAny_bind (wpAny_bind (wpAny_askSetting (wpAny_pure ?_)));show wpAny _ _ (if bt w=true then _ else _) _ _ _;cases hb:bt w with
 |true =>
  simp only[if_true,bne_self_eq_false,false_eq_true,if_false];refine wpAny_bind ?_;unfold setWalk;refine wpAny_bind (wpAny_setState_of ho hd S.fits ?_);unfold setsByText;refine wpAny_bind (wpAny_bind (wpAny_askSetting (wpAny_pure ?_)));show wpAny _ _ (if bt w=true then _ else _) _ _ _;rw[hb];simp only[if_true];refine wpAny_bind (wpAny_askSetting (wpAny_pure ?_));have e:eU w a ep es=pickOrder (w.params.setOrder a ep) es:=by unfold eU;rw[hb];rfl
  rw[e]at h1 h2;show wpAny _ _ (pure (((pickOrder (w.params.setOrder a ep) es)[i]?).map λe=>(e.2,slot))) _ _ _;cases hx:(pickOrder (w.params.setOrder a ep) es)[i]? with
  |none=>exact wpAny_pure (h2 hx)
  |some x=>exact wpAny_pure (h1 x.2 slot (by rw[hx];rfl) (λz=>absurd (hb.symm.trans z) (by decide)))
 |false =>
  simp only[false_eq_true,if_false];have e:eU w a ep es=es:=by unfold eU;rw[hb];rfl
  rw[e]at h1 h2;show wpAny _ _ (if (!t.plain&&decide (es.size>1))=true then _ else _) _ _ _
  rw[im S];simp only[false_eq_true,if_false];refine wpAny_bind ?_;show wpAny _ _ (if (!t.led && !es.isEmpty)=true then _ else _) _ _ _
  rw[S.led hb];simp only[Bool.not_true,Bool.false_and,false_eq_true,if_false];refine wpAny_pure ?_;have hsl:=hs hb;obtain⟨l,T,hl⟩:=S.tb;have hlen:l.length=es.size:=by rw[hl,S.size]
  rw[hsl]
  by_cases hi:i<es.size
  ·have e1:es[i]?=some es[i]:=Array.getElem?_eq_getElem hi;have e2:t.place[i]?=some (l[i]'(by omega)):=by rw[T.pl,List.getElem?_toArray,getElem?_eq_getElem (by omega)]
   rw[e1,e2];refine wpAny_pure (h1 _ _ (by rw[e1];rfl) λ_=>?_);obtain⟨b1,b2,b3⟩:=cE T.up (l[i]'(by omega)+1);rw[T.pl];rcases Nat.lt_trichotomy (below l.toArray (l[i]'(by omega)+1)) (i+1)with z|z|z
   ·have:=b3 i (by omega) (by omega);omega
   ·exact z
   ·have hi2:i+1<l.length:=by omega
    have q1:=b2 (i+1) hi2 z;have q2:=pairwise_iff_getElem.mp T.up i (i+1) (by omega) hi2 (by omega);omega
  ·have e1:es[i]?=none:=Array.getElem?_eq_none (by omega);rw[e1];exact wpAny_pure (h2 e1)
theorem vJ{I a:Addr}{o:Obj}{es:Array (Int×Value)}{ep i:Nat}{t:SetTable}{ns:List Int}{Q:Option Value→Shared→Prop}(S:ISt w es t ns)(hi:i<es.size)(hit:oN w t s.heap I a es.size ep i)(ho:s.heap.get? a=some o)(hd:o.data=.set es ep t)(hne:a≠I)(hQ:∀v h',(eU w a ep es)[i]?.map (·.2)=some v→oN w t h' I a es.size ep (i+1)→SameBut I s.heap h'→Q (some v) {s with heap:=h'}):wpAny (model prog w) A (pyNext (.ref I)) Q E s:=by
 obtain⟨oi,slot,hoi,hci,hdi,hsl⟩:=id hit;unfold pyNext;refine wpAny_bind (wpAny_attempt (wpAny_callSpecial?_slot (name:=ofString "__next__") hit.typeIs bZ
  (wpAny_call_entry bZ hit.typeIs fw ?_ (gL _))))
 unfold Builtin.«set_iterator.__next__»;refine wpAny_bind (wpAny_pure ?_);refine wpAny_bind (wpAny_fieldsOf hoi hdi ?_);dsimp only;refine wpAny_bind (wpAny_setEntries_of ho hd S.fits ?_);rw[if_neg (by simp)];show wpAny _ _ (setNext a (toNat (slot:Int)) (toNat (i:Int)) (toNat (ep:Int)) >>= _) _ _ _;rw[toNat_natCast,toNat_natCast,toNat_natCast];refine wpAny_bind (nc S ho hd hsl (λv slot' hv hs'=>?_) λhn=>?_)
 ·dsimp only;refine wpAny_bind (wpAny_setField hoi hdi (by simp) ?_);have h1:(s.heap.update I (Obj.mapFields (·.setIfInBounds 0 (rawInt (slot':Nat))))).get? I=some _:=Heap.get?_update_self _ hoi (Obj.isFreed_of_fields (Obj.data_mapFields hdi _));refine wpAny_bind (wpAny_setField h1 (Obj.data_mapFields hdi _) (by simp) ?_);have h2:=Heap.get?_update_self (Obj.mapFields (·.setIfInBounds 1 (rawInt ((i:Int)+1)))) h1 (Obj.isFreed_of_fields (Obj.data_mapFields (Obj.data_mapFields hdi _) _));refine wpAny_pure ⟨_,rfl,wpAny_pure (hQ v _ hv ⟨_,slot',h2,?_,?_,hs'⟩ ((SameBut.update ..).trans (SameBut.update ..)))⟩
  ·rw[Obj.cls_mapFields,Obj.cls_mapFields];exact hci
  ·rw[Obj.data_mapFields (Obj.data_mapFields hdi _)];simp[rawInt]
 ·exfalso
  rw[Array.getElem?_eq_none_iff,mZ]at hn;omega
theorem xU{I a:Addr}{o:Obj}{es:Array (Int×Value)}{ep:Nat}{t:SetTable}{ns:List Int}{Q:Option Value→Shared→Prop}(hh:A.handled=none)(S:ISt w es t ns)(hit:oN w t s.heap I a es.size ep es.size)(ho:s.heap.get? a=some o)(hd:o.data=.set es ep t)(hQ:∀h',Heap.ExtBut I s.heap h'→Q none {s with heap:=h'}):wpAny (model prog w) A (pyNext (.ref I)) Q E s:=by
 obtain⟨oi,slot,hoi,hci,hdi,hsl⟩:=id hit;unfold pyNext;refine wpAny_bind (wpAny_attempt (wpAny_callSpecial?_slot (name:=ofString "__next__") hit.typeIs bZ
  (wpAny_call_entry bZ hit.typeIs fw ?_ (gL _))))
 unfold Builtin.«set_iterator.__next__»;refine wpAny_bind (wpAny_pure ?_);refine wpAny_bind (wpAny_fieldsOf hoi hdi ?_);dsimp only;refine wpAny_bind (wpAny_setEntries_of ho hd S.fits ?_);rw[if_neg (by simp)];show wpAny _ _ (setNext a (toNat (slot:Int)) (toNat (es.size:Int)) (toNat (ep:Int)) >>= _) _ _ _;rw[toNat_natCast,toNat_natCast,toNat_natCast];refine wpAny_bind (nc S ho hd hsl (λv slot' hv hs'=>?_) λhn=>?_)
 ·exfalso
  have:(eU w a ep es)[es.size]?=none:=Array.getElem?_eq_none (by rw[mZ];exact le_refl _);rw[this]at hv;cases hv
 ·dsimp only;refine wpAny_bind (wpAny_setField hoi hdi (by simp) ?_);show wpAny _ _ (newExc (.type "StopIteration") [] >>= _) _ _ _;refine wpAny_bind ?_;simp only[newExc,newTuple];refine wpAny_bind (wpAny_newObj_type ?_ (by size_fits));refine wpAny_bind (m:=firstArgMember _ _) (wpAny_of_eq (a:=Value.none) (by first|rfl|(simp only[firstArgMember];rfl)) ?_)
  refine wpAny_newObj_type ?_ (by size_fits);simp only[raiseNew];refine wpAny_bind (wpAny_handled ?_);rw[show A.in1.handled=none from hh];refine wpAny_bind (wpAny_pure (wpAny_throw ?_));refine wpAny_bind (wpAny_isInstance (T:="StopIteration") (b:=true) ⟨_,get?_push_size _ rfl,rfl⟩ isSubtype_stop ?_);exact wpAny_pure (hQ _ (((SameBut.update ..).extBut.push _).push _))
theorem vK{I a:Addr}{n ep i:Nat}{t:SetTable}{Q:Value→Shared→Prop}(hit:oN w t s.heap I a n ep i)(h:Q (.ref I) s):wpAny (model prog w) A (pyIter (.ref I)) Q E s:=by
 obtain⟨b,hb,e⟩:=jO;subst e;refine wpAny_pyIter_slot hit.typeIs gK (wpAny_call_entry gK hit.typeIs hb ?_ (lA _));show wpAny _ _ (ret (.ref I)) _ _ s;exact wpAny_pure ⟨_,rfl,"set_iterator",_,hit.typeIs,bZ.lookup,h⟩
theorem rj{es:Array (Int×Value)}{t:SetTable}{ns:List Int}{ep:Nat}(S:ISt w es t ns)(hh:A.handled=none)(I a:Addr)(hne:a≠I)(o:Obj)(hd:o.data=.set es ep t):
  Walks prog w A I [I,a] [I] es.size (λi v=>(eU w a ep es)[i]?.map (·.2)=some v) (λi h=>oN w t h I a es.size ep i∧h.get? a=some o) where
 sub:=λb hb=>by simp at hb;simp[hb]
 frame:=λi h h' st hk=>by
  obtain⟨⟨oi,slot,h1,h2⟩,h3⟩:=st;exact⟨⟨oi,slot,hk I (by simp) _ h1,h2⟩,hk a (by simp) _ h3⟩
 item:=λi s Q E hi st hQ=>by
  refine vJ S hi st.1 st.2 hd hne λv h' hv hit' hs'=>?_;exact hQ v h' s.toks hv ⟨hit',hs'.extBut a o hne st.2⟩ λb o hb e=>hs'.extBut b o (λh=>hb (by simp[h])) e
 done:=λs Q E st hQ=>xU hh S st.1 st.2 hd λh' he'=>hQ h' s.toks λb o hb e=>he' b o (λh=>hb (by simp[h])) e
 self:=λ_ _ _ _ st hQ=>vK st.1 hQ
theorem tK{r:Addr}{Q:Bool→Shared→Prop}(hT:s.TypeIs (.ref r) "set")(h:Q false s):wpAny (model prog w) A (Builtin.List.listLengthHint (.ref r)) Q E s:=by
 unfold Builtin.List.listLengthHint;refine wpAny_bind (wpAny_specialOf hT PySem.F.slot_set_len.lookup ?_);generalize hid:("set.__len__":String)=id0
 wp_delta
 rw[show splitId id0=some ("set","__len__")from by subst hid;decide +kernel];subst hid;refine wpAny_bind (wpAny_isInstance (T:="set") (b:=true) hT (by rw[isSubtype_type];kernel_rfl) ?_);refine wpAny_ite_split (λhab=>absurd hab (by decide)) (λ_=>?_);refine wpAny_ite_split (λ_=>?_) (λhab=>absurd (by decide +kernel) hab);refine wpAny_bind (wpAny_typeOf hT ?_);exact wpAny_pure h
theorem vL{es:Array (Int×Value)}{t:SetTable}{ns:List Int}{ep:Nat}{a:Addr}{o:Obj}(S:ISt w es t ns)(hex:o.ExactSet)(hd:o.data=.set es ep t):
  KdlSrc prog w "set" a a es.size (λi v=>(eU w a ep es)[i]?.map (·.2)=some v) (λh=>h.get? a=some o) where
 type:=λ_ hm=>⟨o,hm,hex.1⟩
 there:=λ_ hm=>⟨lt_size hm,lt_size hm⟩
 keep:=λ_ _ hm hk=>hk a (.inl rfl) o hm
 notList:=by decide
 notTuple:=by decide
 hint:=λ_ _ _ _ hm hq=>tK ⟨o,hm,hex.1⟩ hq
 iter:=λA s hh hm=>⟨{cls:=.type "set_iterator",data:=.fields #[.int 0 0,.int 0 0,.ref a,.int es.size 0,.int ep 0]},_,(λ_ _ hq=>tJ S hm hex hd hq),rj S hh _ a (ne_of_lt (lt_size hm)) o hd,
  ⟨⟨_,0,get?_push_size _ rfl,rfl,rfl,λ_=>by
   obtain⟨l,T,hl⟩:=S.tb;obtain⟨b1,b2,b3⟩:=cE T.up 0;rw[T.pl];rcases Nat.eq_zero_or_pos (below l.toArray 0)with z|z
   ·exact z
   ·have:=b2 0 (by omega) z;omega⟩,get?_push_of_some _ hm⟩⟩
end
theorem IS.at{w:World}{h h':Heap}{S:Addr}{ns:List Int}(x:IS w h S ns)(k:∀o,h.get? S=some o→h'.get? S=some o):IS w h' S ns:=by
 obtain⟨o,es,ep,t,ho,r⟩:=x;exact⟨o,es,ep,t,k o ho,r⟩
theorem nh{w:World}{h:Heap}{a:Addr}(ho:h.get? a=some {cls:=.type "set",dict:=none,data:=.set #[] 0 (.fresh 0 0 (!bt w))}):IS w h a [] :=
 ⟨_,#[],0,_,ho,⟨rfl,rfl,rfl⟩,rfl,⟨⟨λ_=>0,rfl⟩,nodup_nil,⟨[],⟨rfl,rfl,Pairwise.nil,λ_ h=>by simp at h⟩,rfl⟩,Or.inl rfl,(by show 0<21;decide),rfl,λz=>by show(!bt w)=true;rw[z];rfl⟩⟩
section
variable{prog:Program}{w:World}{A:Around}{R:Result→Shared→Prop}{I:Addr}{fp wr:List Addr}{G:Array GenState→Array GenState→Prop}{n:Nat}{P:Nat→Value→Prop}{St:Nat→Shared→Prop}
end
section
variable{prog:Program}{w:World}{A:Around}{E:Value→Shared→Prop}{s:Shared}
theorem jP(a:Value){Q₁:Value→Shared→Prop}(h:Q₁ (.ref s.heap.objs.size) {s with heap:=s.heap.push {cls:=.type "set",dict:=none,data:=.set #[] 0 (.fresh 0 0 (!bt w))}}):
  codeAny (model prog w) A (.call (.builtin "set.__new__") ⟨[.type "set",a],[]⟩) (wants Q₁ E) s:=by
 refine codeAny_of_tree ?_;show wpAny _ A.in1 (do checkBuiltinCall "set.__new__" ⟨[.type "set",a],[]⟩;again (.builtin "set.__new__" ⟨[.type "set",a],[]⟩)) _ _ s
 refine wpAny_bind (wpAny_of_eq (F.newCall_set_1 a) (wpAny_pure ⟨plainId_quiet F.plain_set_new _,codeAny_builtin F.entry_set_new ?_⟩));rw[Around.under_plainId F.plain_set_new _];unfold Builtin.«set.__new__» Builtin.Frozenset.newClass;have hsub:=sub_set_self;obtain⟨hp,g,d,tk,os⟩:=s;dsimp only
 wp_walk
 refine wpAny_askSetting (wpAny_pure ?_);dsimp only;simp only[newObj];refine wpAny_bind (wpAny_alloc (wpAny_pure ?_));exact wpAny_pure h
set_option maxRecDepth 100000 in
set_option maxHeartbeats 3200000 in
theorem lB{x:Value}{Q:Value→Shared→Prop}(h:wpAny (model prog w) A.in1.in1 (Builtin.«set.__init__» ⟨[.ref s.heap.objs.size,x],[]⟩)
   (λfin s'=>match fin with | .done f=>wants (λr s₂=>r=.none∧Q (.ref s.heap.objs.size) s₂) E (.ok f) s' | .again c'=>c'.quiet=true∧codeAny (model prog w) A.in1 c' (wants (λr s₂=>r=.none∧Q (.ref s.heap.objs.size) s₂) E) s')
   (λe s'=>wants (λr s₂=>r=.none∧Q (.ref s.heap.objs.size) s₂) E (.error e) s') {s with heap:=s.heap.push {cls:=.type "set",dict:=none,data:=.set #[] 0 (.fresh 0 0 (!bt w))}}):
  wpAny (model prog w) A (call (.type "set") [x]) Q E s:=by
 obtain⟨c,tl,hmro⟩:=F.called_set.mro;have hmade:=F.called_set.made;have hsub:=F.called_set.sub;refine wpAny_call (codeAny_of_tree ?_);show wpAny _ _ (callAny (.type "set") _) _ _ _;refine wpAny_pure ⟨Code.quiet_builtin _ (by decide +kernel),codeAny_builtin F.entry_type_call ?_⟩;rw[Around.under_plain (weight_type_call_type "set" [x] []) rfl];have h1:=F.called_set.notType;have h2:=F.called_set.canCreate;have hct:=F.typeCall_set_1 x
 repeat (any_goals (first|assumption|wp_step))
 refine codeAny_mono (jP x (E:=E) (Q₁:=λobj s₁=>obj=.ref s.heap.objs.size∧s₁={s with heap:=s.heap.push {cls:=.type "set",dict:=none,data:=.set #[] 0 (.fresh 0 0 (!bt w))}}) ⟨rfl,rfl⟩) λr s₁ hr=>?_
 cases r with
 |error e=>exact hr
 |ok fl =>
  cases fl with
  |ret obj =>
   obtain⟨rfl,rfl⟩:=hr;have hS:(s.heap.push {cls:=.type "set",dict:=none,data:=.set #[] 0 (.fresh 0 0 (!bt w))}).get? s.heap.objs.size=some {cls:=.type "set",dict:=none,data:=.set #[] 0 (.fresh 0 0 (!bt w))}:=get?_push_size _ rfl;have hT:Shared.TypeIs {s with heap:=s.heap.push {cls:=.type "set",dict:=none,data:=.set #[] 0 (.fresh 0 0 (!bt w))}} (.ref s.heap.objs.size) "set":=⟨_,hS,rfl⟩
   have hli:=F.called_set.init.lookup;have hbi:=F.called_set.init.bind (.ref s.heap.objs.size)
   repeat (any_goals (first|assumption|wp_step))
   refine codeAny_mono (codeAny_call_builtin (R:=wants (λr s₂=>r=.none∧Q (.ref s.heap.objs.size) s₂) E) F.called_set.init.plain F.entry_set_init (check_set_init_1 hT ?_)) λr₂ s₂ hr₂=>?_
   ·exact h
   ·cases r₂ with
    |error e=>exact hr₂
    |ok fl₂ =>
     cases fl₂ with
     |ret r =>
      obtain⟨rfl,hq⟩:=hr₂
      repeat (any_goals (first|assumption|wp_step))
     |_=>exact hr₂.elim
  |_=>exact hr.elim
end
end TB
namespace SRT
open PySem PySem.W PyProof.Rows
section
variable{prog:Program}{w:World}{A:Around}{E:Value→Shared→Prop}{s:Shared}
theorem nk{f:Nat→Nat→Bool}{vs:List Value}{κ:SortKind}{Q:Value→Shared→Prop}(O:Ord f vs.length)(h64:vs.length<64)(hk:∀(A':Around) (s':Shared),A'.units≤A.units+1→(∀b o,s.heap.get? b=some o→s'.heap.get? b=some o)→∀Q:SortKind→Shared→Prop,2≤vs.length→Q κ s'→wpAny (model prog w) A' (keyKind' vs.toArray) Q (λ_ _=>False) s')(hlt:∀(A':Around) (s':Shared),A'.units≤A.units+1→(∀b o,s.heap.get? b=some o→s'.heap.get? b=some o)→∀(i j:Nat) (C:Bool→Shared→Prop),i<vs.length→j<vs.length→C (f i j) s'→wpAny (model prog w) A' (keyLt' κ (vs.getD i Value.none) (vs.getD j Value.none)) C (λ_ _=>False) s')(h:∀(p:Array Nat) (h':Heap),Row vs.length p→Up f p vs.length→(∀b o,s.heap.get? b=some o→h'.get? b=some o)→(∃k,h'.get? s.heap.objs.size=some (seqObj "list" (toArray (p.toList.map λi=>vs.getD i Value.none)) k))→Q (.ref s.heap.objs.size) {s with heap:=h'}):
  wpAny (model prog w) A (do
   let l ← newList vs
   let _ ← holding [l] (call (.builtin "list.sort") [l] [])
   ret l) (λfin s'=>∃v,fin=.done (.ret v)∧Q v s') E s:=by
 refine wpAny_bind (wpAny_newList ?_ (by rw[sizeLine_eq];omega));have hoL:(s.heap.push (seqObj "list" vs.toArray 0)).get? s.heap.objs.size=some (seqObj "list" vs.toArray 0):=get?_push_size _ rfl;have keep:∀b o,s.heap.get? b=some o→(s.heap.push (seqObj "list" vs.toArray 0)).get? b=some o:=λb o q=>get?_push_of_some _ q;have neD:∀b o,s.heap.get? b=some o→b≠s.heap.objs.size:=λb o q=>ne_of_lt (lt_size q);show wpAny _ _ _ _ _ {s with heap:=s.heap.push (seqObj "list" vs.toArray 0)}
 refine wpAny_bind (wpAny_holding (wpAny_call_entry slot_list_sort ⟨_,hoL,rfl⟩ entry_list_sort (gC (κ:=κ) (s:={s with heap:=s.heap.push (seqObj "list" vs.toArray 0)}) O hoL h64 ?_ ?_ λp hr hu=>⟨_,rfl,?_⟩) (args_list_sort _)))
 ·intro s' hs' Q' h2 hq;exact hk _ s' (by simp[Around.in1_units]) (λb o e=>hs' b o (neD b o e) (keep b o e)) Q' h2 hq
 ·intro s' hs' i j C hi hj hC;exact hlt _ s' (by simp[Around.in1_units]) (λb o e=>hs' b o (neD b o e) (keep b o e)) i j C hi hj hC
 ·refine wpAny_pure ⟨_,rfl,h p _ hr hu (λb o e=>?_) ?_⟩
  ·unfold sortedHeap;rw[get?_update_ne _ _ _ _ (neD b o e)];refine get?_push_of_some _ (get?_push_of_some _ ?_);rw[get?_update_ne _ _ _ _ (neD b o e)];exact keep b o e
  ·unfold sortedHeap;obtain⟨e1,ho1⟩:∃e1,((s.heap.push (seqObj "list" vs.toArray 0)).update s.heap.objs.size (Obj.mapSeq λ_=>(#[]:Array Value))).get? s.heap.objs.size=some (seqObj "list" #[] e1):=⟨_,get?_update_seq hoL λ_=>#[]⟩;exact⟨_,get?_update_seq (get?_push_of_some _ (get?_push_of_some _ ho1)) _⟩
theorem nn{T:String}{r d:Addr}{n:Nat}{P:Nat→Value→Prop}{OK:Heap→Prop}{Q:List Value→Shared→Prop}(K:KdlSrc prog w T r d n P OK)(hh:A.handled=none)(hok:OK s.heap)(hn:n≤sizeLine)(hQ:∀h' tk acc,(∀b o,s.heap.get? b=some o→h'.get? b=some o)→s.heap.objs.size<h'.objs.size→ItemsOf P acc n→Q acc.toList {s with heap:=h',toks:=tk}):wpAny (model prog w) A (collect (.ref r)) Q E s:=by
 unfold collect;refine wpAny_bind (wpAny_runValue (codeAny_builtin entry_proto_collect' ?_));show wpAny _ _ (do again (.builtin "list.__iadd__" ⟨[←newList [],.ref r],[]⟩)) _ _ s
 refine wpAny_bind (wpAny_newList (wpAny_pure ⟨Code.quiet_builtin _ (by decide +kernel),codeAny_builtin entry_list_iadd' ?_⟩));rw[Around.under_plainId PySem.F.plain_list_iadd _];show wpAny _ _ (Builtin.List.listExtendWith (.ref s.heap.objs.size) (.ref r) (.ref s.heap.objs.size)) _ _ {s with heap:=s.heap.push (seqObj "list" #[] 0)}
 have hlt:=K.there _ hok;have hS:(s.heap.push (seqObj "list" #[] 0)).get? s.heap.objs.size=some (seqObj "list" #[] 0):=get?_push_size _ rfl;have key:=PySem.W.kdl_extend (A:=A) (s:={s with heap:=s.heap.push (seqObj "list" #[] 0)}) (R:=λr s'=>∃h' tk acc c',r=.ok (.ret (.ref s.heap.objs.size))∧s'={s with heap:=h',toks:=tk}∧(∀b o,s.heap.get? b=some o→h'.get? b=some o)∧h'.get? s.heap.objs.size=some {cls:=.type "list",dict:=none,data:=.seq acc c',slots:=#[]}∧ItemsOf P acc n)
  K hh (K.keep _ _ hok λb _ o e=>get?_push_of_some _ e) s.heap.objs.size (ne_of_gt hlt.1) (ne_of_gt hlt.2) (.ref s.heap.objs.size) 0 hS (λh' tk acc' c' hk hS' hacc=>⟨h',tk,acc',c',rfl,rfl,λb o e=>hk b o (ne_of_lt (lt_size e)) (get?_push_of_some _ e),hS',hacc⟩) hn
 have fin:∀(h':Heap)(tk:Nat)(acc:Array Value)(c':Nat),(∀b o,s.heap.get? b=some o→h'.get? b=some o)→h'.get? s.heap.objs.size=some {cls:=.type "list",dict:=none,data:=.seq acc c',slots:=#[]}→ItemsOf P acc n→wpAny (model prog w) A (do
   let o ← load s.heap.objs.size
   match o.data with
   |.seq xs _=>pure xs.toList
   | _=>unsupported "internal:collect") Q E {s with heap:=h',toks:=tk}:=λh' tk acc c' hk hS' hacc=>by
  refine wpAny_bind (wpAny_load hS' ?_);exact wpAny_pure (hQ h' tk acc hk (lt_size hS') hacc)
 refine wpAny_mono key (λfn s' hf=>?_) λe s' hf=>?_
 ·cases fn with
  |done f =>
   obtain⟨h',tk,acc,c',e1,e2,hk,hS',hacc⟩:=hf;cases e1;subst e2;exact fin h' tk acc c' hk hS' hacc
  |again c =>
   refine⟨hf.1,codeAny_mono hf.2 λr s' hr=>?_⟩;obtain⟨h',tk,acc,c',e1,e2,hk,hS',hacc⟩:=hr;subst e1 e2;exact fin h' tk acc c' hk hS' hacc
 ·obtain⟨h',tk,acc,c',e1,_⟩:=hf;cases e1
theorem jt{T:String}{r d:Addr}{n:Nat}{P:Nat→Value→Prop}{OK:Heap→Prop}{κ:SortKind}{Q:Value→Shared→Prop}(K:KdlSrc prog w T r d n P OK)(hh:A.handled=none)(hok:OK s.heap)(hn:n≤sizeLine)(hQ:∀(h1:Heap) (tk:Nat) (vs:List Value),(∀b o,s.heap.get? b=some o→h1.get? b=some o)→s.heap.objs.size<h1.objs.size→ItemsOf P vs.toArray n→∃f:Nat→Nat→Bool,Ord f vs.length∧vs.length<64 ∧
   (∀(A':Around) (s':Shared),A'.units≤A.units+2→(∀b o,s.heap.get? b=some o→s'.heap.get? b=some o)→∀Q:SortKind→Shared→Prop,2≤vs.length→Q κ s'→wpAny (model prog w) A' (keyKind' vs.toArray) Q (λ_ _=>False) s') ∧
   (∀(A':Around) (s':Shared),A'.units≤A.units+2→(∀b o,s.heap.get? b=some o→s'.heap.get? b=some o)→∀(i j:Nat) (C:Bool→Shared→Prop),i<vs.length→j<vs.length→C (f i j) s'→wpAny (model prog w) A' (keyLt' κ (vs.getD i Value.none) (vs.getD j Value.none)) C (λ_ _=>False) s') ∧
   ∀(p:Array Nat) (h':Heap),Row vs.length p→Up f p vs.length→(∀b o,s.heap.get? b=some o→h'.get? b=some o)→(∃k,h'.get? h1.objs.size=some (seqObj "list" (toArray (p.toList.map λi=>vs.getD i Value.none)) k))→Q (.ref h1.objs.size) {s with heap:=h',toks:=tk}):
  wpAny (model prog w) A (call (.builtin "sorted") [.ref r]) Q E s:=by
 refine Calls.call_function_entry kind_sorted plain_sorted entry_sorted (args_sorted1 _) ?_;unfold Builtin.«sorted»;refine wpAny_bind (m:=checkCount "sorted" 1 1 _) (wpAny_pure ?_);refine wpAny_bind (nn K hh hok hn λh1 tk acc hk hlt hacc=>?_);obtain⟨f,O,h64,hkk,hltt,hq⟩:=hQ h1 tk acc.toList hk hlt (by rw[Array.toArray_toList];exact hacc);exact nk (s:={s with heap:=h1,toks:=tk}) O h64 (λA' s' hu hk'=>hkk A' s' (by have:=hu;simp only[Around.in1_units]at this;omega) λb o e=>hk' b o (hk b o e)) (λA' s' hu hk'=>hltt A' s' (by have:=hu;simp only[Around.in1_units]at this;omega) λb o e=>hk' b o (hk b o e))
  λp h' hr hu' hk' hg=>hq p h' hr hu' (λb o e=>hk' b o (hk b o e)) hg
end
end SRT
namespace L2
open PySem PySem.Spec PyProof.Rows
section
variable{X:Cx}
def eJ(w:World)(a:Addr)(ns:List Int):HO:=.ext λh=>TB.IS w h a ns
theorem Inv.intS{pins:List (Addr×Obj)}{σ:St}{H:Hp}{s:Shared}(I:Inv X pins σ H s){a:Addr}{ns:List Int}(h:H a=some (eJ X.w a ns)):TB.IS X.w s.heap a ns:=(I.hok a _ h).1
theorem Inv.layS{pins:List (Addr×Obj)}{σ:St}{H:Hp}{s:Shared}(I:Inv X pins σ H s){h':Heap}{t':Nat}{a:Addr}{ns:List Int}(k:∀b u,s.heap.get? b=some u→h'.get? b=some u)(hp:s.heap.objs.size≤a)(hS:TB.IS X.w h' a ns):
  Inv X pins σ (upd H a (eJ X.w a ns)) {s with heap:=h',toks:=t'}:=by
 obtain⟨o,es,ep,t,ho,r⟩:=id hS;exact I.laid k hp ⟨hS,⟨o,ho⟩,λh1 h2 hI hh=>hI.at hh⟩
theorem ju(hc:X.calm=true):cK X (.builtin "sorted") (λxs H Q=>∃l,∃ns:List Int,xs=[.ref l]∧H l=some (eJ X.w l ns)∧ns.length≤60 ∧
  ∀ms:List Int,ms.Perm ns→ms.Pairwise (λa b=>a<b)→∀p,H p=none→Q (.ref p) (upd H p (.lst (ms.map V.int)))):=by
 intro pins s σ H xs us Q I r h;obtain⟨l,ns,rfl,hl,h60,q⟩:=h;obtain⟨u,rfl,ru⟩:=dE r;cases ru;obtain⟨o,es,ep,t,ho,hex,hd,S⟩:=I.intS hl;obtain⟨tk0,hent⟩:=S.ent;obtain⟨ns',hperm,hord⟩:=TB.dh (TB.jr X.w l ep es) hent;have hnd':ns'.Nodup:=hperm.nodup_iff.mpr S.nd;have hl':ns'.length=ns.length:=hperm.length_eq;refine SRT.jt (κ:=oneType') (TB.vL S hex hd) (I.ok.hd hc) ho (by rw[S.size,sizeLine_eq];omega) λh1 tk vs hk1 hlt1 hit=>?_;have evs:vs=ns'.map λn=>Value.int n (tk0 n):=by
  apply ext_getElem?;intro i;have hvl:vs.length=es.size:=by have:=hit.1;rw[size_toArray]at this;exact this
  by_cases hi:i<vs.length
  ·have:Option.map (λx=>x.2) (TB.eU X.w l ep es)[i]?=some vs[i]:=hit.2 i vs[i] (by rw[List.getElem?_toArray];exact getElem?_eq_getElem hi);rw[getElem?_eq_getElem hi,getElem?_map];rw[←getElem?_toList,hord,getElem?_map]at this;cases e:ns'[i]? with
   |none=>rw[e]at this;cases this
   |some n =>
    rw[e]at this;have e2:(TB.gJ tk0 n).2=vs[i]:=Option.some.inj this;show some vs[i]=some (Value.int n (tk0 n));rw[←e2];rfl
  ·rw[getElem?_eq_none (by omega),getElem?_eq_none (by rw[length_map,hl',←S.size];omega)]
 have hvl:vs.length=ns'.length:=by rw[evs,length_map]
 have gd:∀i,i<ns'.length→vs.getD i Value.none=.int (ns'.getD i 0) (tk0 (ns'.getD i 0)):=λi hi=>by
  rw[evs,sO (d:=(0:Int)) hi]
 have rv:aw (ns'.map V.int) vs:=by
  rw[evs];clear hperm hord hnd' hl' evs hvl gd hit
  induction ns' with
  |nil=>exact .nil
  |cons n ns' ih=>exact .cons ⟨_,rfl⟩ ih
 refine⟨λi j=>decide (ns'.getD i 0<ns'.getD j 0),⟨λi _=>by simp,λi j k _ _ _ h1 h2=>?_,λi j hi hj hij=>?_⟩,by omega,λA' s' _ _ Q' h2 hQ=>?_,λA' s' _ _ i j C hi hj hC=>?_,λp h' hrow hup kp hg=>?_⟩
 ·simp only[decide_eq_true_eq]at *;omega
 ·simp only[decide_eq_true_eq];have:ns'.getD i 0≠ns'.getD j 0:=by
   rw[getD_eq_getElem?_getD,getD_eq_getElem?_getD,getElem?_eq_getElem (by omega),getElem?_eq_getElem (by omega)];exact λe=>hij ((getElem_inj hnd').mp e)
  omega
 ·rw[ksk_kind (keys:=vs.toArray) (kz:=ns') (by simpa using pQ rv) (by rw[size_toArray];omega)];exact wpAny_pure hQ
 ·rw[gd i (by omega),gd j (by omega)];exact kat_lt_int hC
 ·obtain⟨c,hg⟩:=hg;rw[hvl]at hrow hup;have hin:∀i∈p.toList,i<ns'.length:=λi hi=>mem_range.mp (hrow.perm.mem_iff.mp hi);have hperm2:(p.toList.map λi=>ns'.getD i 0).Perm ns':=by
   refine(hrow.perm.map _).trans ?_;have:(List.range ns'.length).map (λi=>ns'.getD i 0)=ns':=by
    apply ext_getElem?;intro i;rw[getElem?_map]
    by_cases hi:i<ns'.length
    ·rw[getElem?_range hi,(cN (d:=(0:Int)) hi).2];rfl
    ·rw[getElem?_eq_none (by rw[length_range];omega),getElem?_eq_none (by omega)];rfl
   rw[this]
  have hpl:p.size=ns'.length:=hrow.size;have hpw:(p.toList.map λi=>ns'.getD i 0).Pairwise (λa b=>a<b):=by
   rw[pairwise_iff_getElem];intro i j hi hj hij;have hi':i<p.size:=by rw[length_map,length_toList]at hi;exact hi
   have hj':j<p.size:=by rw[length_map,length_toList]at hj;exact hj
   have:=hup i j hij (by omega);simp only[]at this;rw[getD_eq_getD_getElem?,getD_eq_getD_getElem?,Array.getElem?_eq_getElem hi',Array.getElem?_eq_getElem hj']at this;simpa using this
  refine⟨.ref h1.objs.size,_,I.laid (t':=tk) (o:=.lst ((p.toList.map λi=>ns'.getD i 0).map V.int)) kp (le_of_lt hlt1) ⟨?_,_,c,ik rv p.toList hin,hg⟩,rfl,q _ (hperm2.trans hperm) hpw _ (I.hok.fresh (le_of_lt hlt1))⟩;rw[length_map,hperm2.length_eq,sizeLine_eq];omega
end
end L2
namespace TB
open PySem PySem.SetTable
theorem vM{mask finger moves:Nat}{led plain:Bool}{hashes:Array Int}(c:Cyc mask)(hl:hashes.size≤mask+1):
  ∃(t':SetTable) (zs:List (Nat×Nat)),SetTable.laid mask finger moves led plain hashes=some (t',(zs.map (·.2)).toArray)∧t'.mask=mask∧t'.led=led∧t'.plain=plain ∧
   Tb t' (zs.map (·.1))∧(zs.map (·.2)).Perm (List.range hashes.size):=by
 obtain⟨owner,e,L⟩:=ix c hashes hl;refine⟨{mask:=mask,place:=((live mask owner).map (·.1)).toArray,dummies:=#[],finger:=finger,led:=led,moves:=moves,plain:=plain},live mask owner,?_,rfl,rfl,rfl,⟨rfl,rfl,?_,?_⟩,?_⟩
 ·unfold laid;rw[e];rfl
 ·unfold Up live;rw[List.map_filterMap];have e1:((List.range (mask+1)).filterMap λj=>((owner.getD j none).map (j,·)).map (·.1))=(List.range (mask+1)).filter λj=>(owner.getD j none).isSome:=by
   generalize List.range (mask+1)=l
   induction l with
   |nil=>rfl
   |cons x l ih =>
    cases ex:owner.getD x none with
    |none=>rw[filterMap_cons_none (by rw[ex];rfl),filter_cons_of_neg (by simp[ex])];exact ih
    |some i=>rw[filterMap_cons_some (b:=x) (by rw[ex];rfl),filter_cons_of_pos (by simp[ex]),ih]
  rw[e1];exact Pairwise.sublist filter_sublist List.pairwise_lt_range
 ·intro j hj;obtain⟨z,hz,rfl⟩:=mem_map.mp hj;unfold live at hz;obtain⟨k,hk,e1⟩:=mem_filterMap.mp hz;cases ex:owner.getD k none with
  |none=>rw[ex]at e1;cases e1
  |some i =>
   rw[ex]at e1;have e2:(k,i)=z:=Option.some.inj e1;subst e2;have:=mem_range.mp hk;show k≤mask;omega
 ·have:=L.perm;rw[length_toList]at this;exact this
theorem nq{es:Array (Int×Value)}{zs:List (Nat×Nat)}(h:(zs.map (·.2)).Perm (List.range es.size)):(((zs.map (·.2)).toArray).filterMap (λi=>es[i]?)).toList.Perm es.toList:=by
 rw[Array.toList_filterMap];exact(h.filterMap _).trans (by rw[filterMap_getElem?_range])
section
variable{prog:Program}{w:World}{A:Around}{E:Value→Shared→Prop}{s:Shared}
theorem tL{a:Addr}{ns:List Int}{wanted:Nat}{Q:Unit→Shared→Prop}(hS:IS w s.heap a ns)(hw:wanted≤255)(hroom:ns.length*5<(sizeAbove wanted-1)*3)(h:∀h' ns' o es ep t,SameBut a s.heap h'→h'.get? a=some o→o.ExactSet→o.data=.set es ep t→ISt w es t ns'→ns'.Perm ns→t.mask=sizeAbove wanted-1→Q () {s with heap:=h'}):wpAny (model prog w) A (setRelay a wanted) Q E s:=by
 obtain⟨o,es,ep,t,ho,hex,hd,S⟩:=hS;obtain⟨hmk,hle,h256⟩:=jd hw;have hsz:=S.size;have hge:=hmk.ge;unfold setRelay;refine wpAny_bind (wpAny_setState_of ho hd S.fits ?_);dsimp only;rw[if_neg (by rw[sizeLine_eq];omega)];obtain⟨t',zs,e,hm,hled,hpl,T,hperm,_⟩:=ka (t:=t) (hashes:=es.map (·.1)) (wanted:=wanted) hmk.cyc (by rw[size_map];omega);rw[size_map]at hperm;have hp:=nq hperm;have hsz2:(((zs.map (·.2)).toArray).filterMap (λi=>es[i]?)).size=es.size:=by rw[←length_toList,hp.length_eq,length_toList]
 obtain⟨tk,hent⟩:=S.ent;obtain⟨ns',hns',hes'⟩:=dh hp hent;have hzl:zs.length=es.size:=by
  have:=hperm.length_eq;rw[length_map,length_range]at this;exact this
 have hnl:ns'.length=ns.length:=hns'.length_eq;refine wpAny_bind ?_;rw[e];show wpAny _ _ (@ite _ _ _ _ _) _ _ _;rw[if_neg (by rw[hsz2];simp)];refine wpAny_pure ?_;dsimp only;refine wpAny_storeSet_of ho hd ?_ (by rw[hsz2,sizeLine_eq];omega);exact h _ ns' _ _ _ t' (SameBut.update s.heap a _) (stored ho hd _ t') hex rfl ⟨⟨tk,hes'⟩,hns'.nodup_iff.mpr S.nd,⟨_,T,by rw[length_map];omega⟩,by rw[hm];exact hmk,by rw[hm,hnl];exact hroom,by rw[hpl];exact S.pl,λz=>by rw[hled];exact S.led z⟩ hns' hm
theorem lC{a:Addr}{ns:List Int}{more:Nat}{Q:Unit→Shared→Prop}(hS:IS w s.heap a ns)(hw:ns.length+more≤120)(h:∀h' ns' o es ep t,SameBut a s.heap h'→h'.get? a=some o→o.ExactSet→o.data=.set es ep t→ISt w es t ns'→ns'.Perm ns→(ns.length+more)*5<t.mask*3→Q () {s with heap:=h'}):wpAny (model prog w) A (setRoomFor a more) Q E s:=by
 obtain⟨o,es,ep,t,ho,hex,hd,S⟩:=id hS;obtain⟨l,T,hl⟩:=S.tb;have hfill:t.fill=ns.length:=by rw[gy T,hl]
 have hpl:t.place.size=ns.length:=by rw[T.pl,size_toArray,hl]
 unfold setRoomFor;refine wpAny_bind (wpAny_setState_of ho hd S.fits ?_);dsimp only
 by_cases hc:(t.fill+more)*5≥t.mask*3
 ·have e:t.roomFor more=some ((t.place.size+more)*2):=by unfold SetTable.roomFor;rw[if_pos hc]
  rw[e];dsimp only;rw[hpl];obtain⟨hmk,hle,_⟩:=jd (w:=(ns.length+more)*2) (by omega);have hge:=hmk.ge;have hge2:=S.mkm.ge;refine tL hS (by omega) (by omega) λh' ns' o' es' ep' t' hsb ho' hex' hd' S' hp hm=>h h' ns' o' es' ep' t' hsb ho' hex' hd' S' hp ?_;rw[hm];omega
 ·have e:t.roomFor more=none:=by unfold SetTable.roomFor;rw[if_neg hc]
  rw[e];dsimp only;have es':s={s with heap:=s.heap}:=by cases s;rfl
  rw[es'];exact wpAny_pure (h s.heap ns o es ep t (SameBut.refl a s.heap) ho hex hd S (.refl _) (by rw[hfill]at hc;omega))
theorem ko{a b:Addr}{ns:List Int}{each:Sem Unit}{Q:Unit→Shared→Prop}(hab:a≠b)(ha:IS w s.heap a [])(hb:IS w s.heap b ns)(hn:ns.length≤60)(h:∀h' ns',SameBut a s.heap h'→IS w h' a ns'→ns'.Perm ns→Q () {s with heap:=h'}):wpAny (model prog w) A (setMerge a b each) Q E s:=by
 obtain⟨ob,eb,epb,tb,hob,hexb,hdb,Sb⟩:=id hb;unfold setMerge;have hne:(a==b)=false:=by simpa using hab
 rw[hne];simp only[false_eq_true,if_false];refine wpAny_bind (wpAny_setState_of hob hdb Sb.fits ?_);dsimp only;have es':s={s with heap:=s.heap}:=by cases s;rfl
 by_cases he:eb.isEmpty=true
 ·rw[he];simp only[if_true];have hz:ns=[]:=by
   have:=Sb.size;have h0:eb.size=0:=by simpa [isEmpty]using he
   exact length_eq_zero_iff.mp (by omega)
  subst hz;rw[es'];exact wpAny_pure (h s.heap [] (SameBut.refl a s.heap) ha (.refl _))
 ·have he':eb.isEmpty=false:=by simpa using he
  rw[he'];simp only[false_eq_true,if_false];have hsb:=Sb.size;refine wpAny_bind (lC ha (by rw[length_nil];omega) λh1 ns1 o1 es1 ep1 t1 hs1 ho1 hex1 hd1 S1 hp1 hrm1=>?_);have e1:ns1=[]:=hp1.eq_nil;subst e1;rw[length_nil,zero_add]at hrm1;have hob1:h1.get? b=some ob:=(hs1.2 b (symm hab)).trans hob;refine wpAny_bind (wpAny_setState_of (s:={s with heap:=h1}) ho1 hd1 S1.fits ?_);dsimp only;obtain⟨l1,T1,hl1⟩:=S1.tb;have hfill1:t1.fill=0:=by rw[gy T1,hl1];rfl
  obtain⟨lb,Tb1,hlb⟩:=Sb.tb;obtain⟨tk,hent⟩:=Sb.ent;have hge1:=S1.mkm.ge;cases hr:t1.road tb with
  |slotForSlot =>
   dsimp only;refine wpAny_storeSet_of (s:={s with heap:=h1}) ho1 hd1 ?_ (by rw[hsb,sizeLine_eq];omega);refine h _ ns (hs1.trans (SameBut.update ..)) ⟨_,_,_,_,stored (s:={s with heap:=h1}) ho1 hd1 _ _,hex1,rfl,⟨⟨tk,hent⟩,Sb.nd,⟨lb,⟨Tb1.pl,Tb1.nd,Tb1.up,Tb1.le⟩,hlb⟩,Sb.mkm,Sb.room,by show(t1.plain&&tb.plain)=true;rw[S1.pl,Sb.pl];rfl,λz=>by show(t1.led&&tb.led)=true;rw[S1.led z,Sb.led z];rfl⟩⟩ (.refl _)
  |clean =>
   dsimp only;obtain⟨t',zs,e,hm,hled,hpl,T,hperm⟩:=vM (mask:=t1.mask) (finger:=t1.finger) (moves:=t1.moves) (led:=t1.led&&tb.led) (plain:=t1.plain&&tb.plain) (hashes:=eb.map (·.1)) S1.mkm.cyc (by rw[size_map];omega);rw[size_map]at hperm;have hp:=nq hperm;have hsz2:(((zs.map (·.2)).toArray).filterMap (λi=>eb[i]?)).size=eb.size:=by rw[←length_toList,hp.length_eq,length_toList]
   obtain⟨ns',hns',hes'⟩:=dh hp hent;have hzl:zs.length=eb.size:=by
    have:=hperm.length_eq;rw[length_map,length_range]at this;exact this
   have hnl:ns'.length=ns.length:=hns'.length_eq;refine wpAny_bind ?_;rw[e];show wpAny _ _ (@ite _ _ _ _ _) _ _ _;rw[if_neg (by rw[hsz2];simp)];refine wpAny_pure ?_;dsimp only;refine wpAny_storeSet_of (s:={s with heap:=h1}) ho1 hd1 ?_ (by rw[hsz2,hsb,sizeLine_eq];omega);exact h _ ns' (hs1.trans (SameBut.update ..)) ⟨_,_,_,_,stored (s:={s with heap:=h1}) ho1 hd1 _ _,hex1,rfl,⟨⟨tk,hes'⟩,hns'.nodup_iff.mpr Sb.nd,⟨_,T,by rw[length_map];omega⟩,by rw[hm];exact S1.mkm,by rw[hm,hnl,←hsb];exact hrm1,by rw[hpl,S1.pl,Sb.pl];rfl,λz=>by rw[hled,S1.led z,Sb.led z];rfl⟩⟩ hns'
  |oneByOne =>
   exfalso
   unfold SetTable.road at hr;rw[hfill1]at hr;simp only[bne_self_eq_false,false_eq_true,if_false]at hr
   split at hr<;>cases hr
theorem vO{b:Addr}{o:Obj}{es:Array (Int×Value)}{ep:Nat}{t:SetTable}{ns:List Int}{Q:Array (Int×Value)→Shared→Prop}(S:ISt w es t ns)(ho:s.heap.get? b=some o)(hd:o.data=.set es ep t)(h:Q (eU w b ep es) s):wpAny (model prog w) A (setWalk b) Q E s:=by
 unfold setWalk;refine wpAny_bind (wpAny_setState_of ho hd S.fits ?_);unfold setsByText;refine wpAny_bind (wpAny_bind (wpAny_askSetting (wpAny_pure ?_)));show wpAny _ _ (if bt w=true then _ else _) _ _ _;unfold eU at h;cases hb:bt w with
 |true =>
  rw[hb]at h;simp only[if_true]at h⊢;exact wpAny_bind (wpAny_askSetting (wpAny_pure h))
 |false =>
  rw[hb]at h;simp only[false_eq_true,if_false]at h⊢;show wpAny _ _ (if (!t.plain&&decide (es.size>1))=true then _ else _) _ _ _
  rw[im S];simp only[false_eq_true,if_false];refine wpAny_bind ?_;show wpAny _ _ (if (!t.led&&decide (es.size>1))=true then _ else _) _ _ _
  rw[S.led hb];simp only[Bool.not_true,Bool.false_and,false_eq_true,if_false];exact wpAny_pure (wpAny_pure h)
theorem nr{b:Addr}{os:List Addr}{f:Option Addr}{o:Obj}{es:Array (Int×Value)}{ep:Nat}{t:SetTable}{ns:List Int}{Q:Array (Int×Value)→Shared→Prop}(S:ISt w es t ns)(ho:s.heap.get? b=some o)(hd:o.data=.set es ep t)(h:Q (eU w b ep es) s):wpAny (model prog w) A (setWalkUnseen b os f) Q E s:=by
 unfold setWalkUnseen;refine wpAny_bind (wpAny_setState_of ho hd S.fits ?_);dsimp only;refine wpAny_bind ?_;unfold setsByText;refine wpAny_bind (wpAny_askSetting (wpAny_pure ?_));have hc:((model prog w).w.params.followText "set-order"||t.led&&t.plain||decide (es.size≤1))=true:=by
  cases hb:bt w with
  |true =>
   have:(model prog w).w.params.followText "set-order"=true:=hb;rw[this];rfl
  |false=>rw[S.led hb,S.pl];simp
 show wpAny _ _ (if ((model prog w).w.params.followText "set-order"||t.led&&t.plain||decide (es.size≤1))=true then _ else _) _ _ _
 rw[hc];simp only[if_true];exact vO S ho hd h
theorem tM{a b:Addr}{ms ns:List Int}{each:Sem Unit}{Q:Unit→Shared→Prop}(hab:a≠b)(ha:IS w s.heap a ms)(hb:IS w s.heap b ns)(hn:ms.length+ns.length≤60)(hE:∀(h':Heap) (Q':Unit→Shared→Prop),SameBut a s.heap h'→Q' () {s with heap:=h'}→wpAny (model prog w) A each Q' E {s with heap:=h'})(h:∀h' us,SameBut a s.heap h'→IS w h' a us→(∀x,x∈us↔x∈ms∨x∈ns)→Q () {s with heap:=h'}):wpAny (model prog w) A (setMerge a b each) Q E s:=by
 by_cases hms:ms=[]
 ·subst hms;exact ko hab ha hb (by omega) λh' ns' hsb hS hp=>h h' ns' hsb hS λx=>by rw[hp.mem_iff];simp
 ·obtain⟨ob,eb,epb,tb,hob,hexb,hdb,Sb⟩:=id hb;have hml:0<ms.length:=List.length_pos_iff.mpr hms;unfold setMerge;have hne:(a==b)=false:=by simpa using hab
  rw[hne];simp only[false_eq_true,if_false];refine wpAny_bind (wpAny_setState_of hob hdb Sb.fits ?_);dsimp only;have es':s={s with heap:=s.heap}:=by cases s;rfl
  by_cases he:eb.isEmpty=true
  ·rw[he];simp only[if_true];have hz:ns=[]:=by
    have:=Sb.size;have h0:eb.size=0:=by simpa [isEmpty]using he
    exact length_eq_zero_iff.mp (by omega)
   subst hz;rw[es'];exact wpAny_pure (h s.heap ms (SameBut.refl a s.heap) ha λx=>by simp)
  ·have he':eb.isEmpty=false:=by simpa using he
   rw[he'];simp only[false_eq_true,if_false];have hsb:=Sb.size;refine wpAny_bind (lC ha (by omega) λh1 ns1 o1 es1 ep1 t1 hs1 ho1 hex1 hd1 S1 hp1 hrm1=>?_);have hob1:h1.get? b=some ob:=(hs1.2 b (symm hab)).trans hob;refine wpAny_bind (wpAny_setState_of (s:={s with heap:=h1}) ho1 hd1 S1.fits ?_);dsimp only;obtain⟨l1,T1,hl1⟩:=S1.tb;have hfill1:t1.fill≠0:=by rw[gy T1,hl1,hp1.length_eq];omega
   have hroad:t1.road tb=.oneByOne:=by
    unfold SetTable.road;rw[if_pos (by simpa using hfill1)]
   rw[hroad];dsimp only;refine wpAny_bind (nr (s:={s with heap:=h1}) Sb hob1 hdb ?_);obtain⟨tk,hent⟩:=Sb.ent;obtain⟨ns',hns',hord⟩:=dh (jr w b epb eb) hent;have hnl:ns'.length=ns.length:=hns'.length_eq;rw[←Array.forIn_toList,hord];refine wpAny_bind ?_;refine wpAny_forIn_list _ (λrest _ s'=>∃h' us i,s'={s with heap:=h'}∧rest=(ns'.drop i).map (gJ tk)∧SameBut a s.heap h'∧IS w h' a us∧(∀x,x∈us↔x∈ms∨x∈ns'.take i)∧us.length≤ms.length+i∧i≤ns'.length) _ ?_ ?_ _ _
    ⟨h1,ns1,0,rfl,rfl,hs1,⟨o1,es1,ep1,t1,ho1,hex1,hd1,S1⟩,λx=>by rw[hp1.mem_iff];simp,by rw[hp1.length_eq];omega,zero_le _⟩
   ·rintro⟨hh,xx⟩ rest bb s' ⟨h',us,i,rfl,hr,hsb',hS',hmem,hlen,hi⟩;have hlt:i<ns'.length:=by
     rcases Nat.lt_or_ge i ns'.length with z|z
     ·exact z
     ·rw[List.drop_of_length_le z]at hr;cases hr
    rw[List.drop_eq_getElem_cons hlt,map_cons]at hr;injection hr with hr1 hr2
    have hr3:hh=hashInt ns'[i]∧xx=Value.int ns'[i] (tk ns'[i]):=by
     have:(hh,xx)=(hashInt ns'[i],Value.int ns'[i] (tk ns'[i])):=hr1;injection this with q1 q2
     exact⟨q1,q2⟩
    obtain⟨rfl,rfl⟩:=hr3;refine wpAny_bind (wpAny_holding (add_int (s:={s with heap:=h'}) hS' (by omega) λr h2 us2 hsb2 hS2 hor=>?_));refine wpAny_bind (hE h2 _ (hsb'.trans hsb2) ?_);have hob2:h2.get? b=some ob:=((hsb'.trans hsb2).2 b (symm hab)).trans hob;refine wpAny_bind (wpAny_setState_of (s:={s with heap:=h2}) hob2 hdb Sb.fits ?_);rw[if_neg (by simp)];refine wpAny_pure ⟨h2,us2,i+1,rfl,hr2,hsb'.trans hsb2,hS2,λx=>?_,?_,hlt⟩
    ·have ht:ns'.take (i+1)=ns'.take i++[ns'[i]]:=by rw[take_succ,getElem?_eq_getElem hlt];rfl
     rw[ht,mem_append,mem_singleton];rcases hor with⟨hin,e⟩|⟨_,e⟩
     ·rw[e,hmem x];constructor
      ·rintro(z|z)
       ·exact .inl z
       ·exact .inr (.inl z)
      ·rintro(z|z|z)
       ·exact .inl z
       ·exact .inr z
       ·rw[z];exact(hmem _).mp hin
     ·rw[e.mem_iff,mem_cons,hmem x];constructor
      ·rintro(z|z|z)
       ·exact .inr (.inr z)
       ·exact .inl z
       ·exact .inr (.inl z)
      ·rintro(z|z|z)
       ·exact .inr (.inl z)
       ·exact .inr (.inr z)
       ·exact .inl z
    ·rcases hor with⟨_,e⟩|⟨_,e⟩
     ·rw[e];omega
     ·have:=e.length_eq;rw[length_cons]at this;omega
   ·rintro bb s' ⟨h',us,i,rfl,hr,hsb',hS',hmem,hlen,hi⟩;have hie:ns'.drop i=[]:=by simpa using hr.symm
    have hin:i=ns'.length:=by
     have:=congrArg length hie;rw[length_drop,length_nil]at this;omega
    refine wpAny_pure (h h' us hsb' hS' λx=>?_);rw[hmem x,hin,take_length,hns'.mem_iff]
end
theorem lD:entryFor table "set.__or__"=some Builtin.«frozenset.__or__» :=
 entryFor_alias (id':="frozenset.__or__") (by kernel_rfl) rfl (by decide +kernel) (by kernel_rfl)
section
variable{prog:Program}{w:World}{A:Around}{E:Value→Shared→Prop}{s:Shared}
theorem xV{Q:Value→Shared→Prop}(h:∀h',(∀b o,s.heap.get? b=some o→h'.get? b=some o)→IS w h' s.heap.objs.size []→Q (.ref s.heap.objs.size) {s with heap:=h'}):wpAny (model prog w) A (newSet (.type "set")) Q E s:=by
 unfold newSet setsByText;refine wpAny_bind (wpAny_bind (wpAny_askSetting (wpAny_pure ?_)));dsimp only;simp only[newObj];exact wpAny_bind (wpAny_alloc (wpAny_pure (h _ (λb o e=>get?_push_of_some _ e) (nh (get?_push_size _ rfl)))))
theorem lE{a:Addr}{Q:Bool→Shared→Prop}(hT:s.TypeIs (.ref a) "set")(h:Q true s):wpAny (model prog w) A (Builtin.Frozenset.isAnySet (.ref a)) Q E s:=by
 unfold Builtin.Frozenset.isAnySet;refine wpAny_bind (wpAny_isInstance (b:=true) hT sub_set_self ?_);exact wpAny_pure h
theorem vP{a:Addr}{ns:List Int}{Q:Value→Shared→Prop}(ha:IS w s.heap a ns)(hn:ns.length≤60)(h:∀h' us,(∀b o,s.heap.get? b=some o→h'.get? b=some o)→IS w h' s.heap.objs.size us→us.Perm ns→Q (.ref s.heap.objs.size) {s with heap:=h'}):wpAny (model prog w) A (Builtin.Frozenset.copyOf a) Q E s:=by
 obtain⟨o,es,ep,t,ho,hex,hd,S⟩:=id ha;have hT:s.TypeIs (.ref a) "set":=⟨o,ho,hex.1⟩;unfold Builtin.Frozenset.copyOf Builtin.Frozenset.baseOf;refine wpAny_bind ?_;refine wpAny_bind (wpAny_isInstance (b:=true) hT sub_set_self ?_);refine wpAny_pure ?_;simp only[if_true];refine wpAny_bind (xV λh1 hk hS=>?_);refine wpAny_bind ?_;show wpAny _ _ (pure s.heap.objs.size) _ _ _;refine wpAny_pure ?_;have hlt:a<s.heap.objs.size:=lt_size ho;refine wpAny_bind (ko (s:={s with heap:=h1}) (ne_of_gt hlt) hS (ha.at λo e=>hk a o e) hn λh' us hsb hS' hp=>?_);refine wpAny_pure (h h' us (λb o e=>?_) hS' hp);rw[hsb.2 b (ne_of_lt (lt_size e))];exact hk b o e
theorem tN{a b:Addr}{ms ns:List Int}{Q:Value→Shared→Prop}(hab:a≠b)(ha:IS w s.heap a ms)(hb:IS w s.heap b ns)(hn:ms.length+ns.length≤60)(h:∀h' us,(∀b o,s.heap.get? b=some o→h'.get? b=some o)→IS w h' s.heap.objs.size us→(∀x,x∈us↔x∈ms∨x∈ns)→Q (.ref s.heap.objs.size) {s with heap:=h'}):wpAny (model prog w) A (binaryOp .BitOr (.ref a) (.ref b)) Q E s:=by
 obtain⟨oa,ea,epa,ta,hoa,hexa,hda,Sa⟩:=id ha;obtain⟨ob,eb,epb,tb,hob,hexb,hdb,Sb⟩:=id hb;have hTa:s.TypeIs (.ref a) "set":=⟨oa,hoa,hexa.1⟩;have hTb:s.TypeIs (.ref b) "set":=⟨ob,hob,hexb.1⟩;refine wpAny_binaryOp_same hTa hTb F.fills_set_or F.slot_set_or (wpAny_call_entry F.slot_set_or hTa lD ?_ (F.args_set_or_2 _ _));unfold Builtin.«frozenset.__or__»;refine wpAny_bind ?_;unfold Builtin.Frozenset.slot1;refine wpAny_bind (wpAny_pure (wpAny_pure ?_));dsimp only;simp only[false_eq_true,if_false];refine wpAny_bind ?_;refine wpAny_bind (lE hTa ?_);show wpAny _ _ (Builtin.Frozenset.isAnySet (.ref b)) _ _ _;refine lE hTb ?_;simp only[Bool.not_true,false_eq_true,if_false];refine wpAny_bind ?_;show wpAny _ _ (pure a) _ _ _;refine wpAny_pure ?_;refine wpAny_bind ?_;refine wpAny_bind (vP ha (by omega) λh1 us hk hS hp=>?_);have hne:(Value.ref b != Value.ref a)=true:=by
  rw[bne_iff_ne];intro e;injection e with e
  exact hab e.symm
 rw[hne];simp only[if_true];refine wpAny_bind ?_;show wpAny _ _ (pure s.heap.objs.size) _ _ _;refine wpAny_pure ?_;refine wpAny_bind ?_;refine wpAny_holding ?_;unfold Builtin.Frozenset.updateFrom;have hob1:h1.get? b=some ob:=hk b ob hob;have hTb1:Shared.TypeIs {s with heap:=h1} (.ref b) "set":=⟨ob,hob1,hexb.1⟩
 refine wpAny_bind (lE hTb1 ?_);simp only[if_true];refine wpAny_bind ?_;show wpAny _ _ (pure b) _ _ _;refine wpAny_pure ?_;unfold Builtin.Frozenset.merge;refine wpAny_bind (wpAny_setEpoch_of (s:={s with heap:=h1}) hob1 hdb Sb.fits ?_);have hbn:s.heap.objs.size≠b:=ne_of_gt (lt_size hob);refine tM (s:={s with heap:=h1}) hbn hS (hb.at λo e=>hk b o e) (by rw[hp.length_eq];exact hn) (λh' Q' hsb hq=>?_) λh' vs hsb hS' hmem=>?_
 ·unfold Builtin.Frozenset.unchanged;have hob2:h'.get? b=some ob:=(hsb.2 b (symm hbn)).trans hob1;refine wpAny_bind (wpAny_setEpoch_of (s:={s with heap:=h'}) hob2 hdb Sb.fits ?_);rw[if_neg (by simp)];exact wpAny_pure hq
 ·refine wpAny_pure (wpAny_pure ⟨_,rfl,(λe=>nomatch e),h h' vs (λc o e=>?_) hS' λx=>by rw[hmem x,hp.mem_iff]⟩);rw[hsb.2 c (ne_of_lt (lt_size e))];exact hk c o e
theorem tO{d:Addr}{od:Obj}{ed:Array DictEntry}{epd:Nat}{ks:List Int}{Q:Value→Shared→Prop}(hod:s.heap.get? d=some od)(hexd:od.ExactDict)(hdd:od.data=.dict ed epd)(hsm:(d==sysModules)=false)(hk:∀(i:Nat) (e:DictEntry),ed[i]?=some e→∃k t,ks[i]?=some k∧e.key=.int k t∧e.hash=hashInt k)(hlen:ed.size=ks.length)(hn:ks.length≤60)(h:∀h' us,(∀b o,s.heap.get? b=some o→h'.get? b=some o)→IS w h' s.heap.objs.size us→(∀x,x∈us↔x∈ks)→Q (.ref s.heap.objs.size) {s with heap:=h'}):wpAny (model prog w) A (call (.type "set") [.ref d]) Q E s:=by
 refine lB ?_;have hS:(s.heap.push {cls:=.type "set",dict:=none,data:=.set #[] 0 (.fresh 0 0 (!bt w))}).get? s.heap.objs.size=some {cls:=.type "set",dict:=none,data:=.set #[] 0 (.fresh 0 0 (!bt w))}:=get?_push_size _ rfl;have hI:IS w (s.heap.push {cls:=.type "set",dict:=none,data:=.set #[] 0 (.fresh 0 0 (!bt w))}) s.heap.objs.size []:=nh hS;have hod1:(s.heap.push {cls:=.type "set",dict:=none,data:=.set #[] 0 (.fresh 0 0 (!bt w))}).get? d=some od:=get?_push_of_some _ hod;have hkeep:∀b o,s.heap.get? b=some o→(s.heap.push {cls:=.type "set",dict:=none,data:=.set #[] 0 (.fresh 0 0 (!bt w))}).get? b=some o:=λb o e=>get?_push_of_some _ e;have hdS:s.heap.objs.size≠d:=ne_of_gt (lt_size hod);generalize (s.heap.push {cls:=.type "set",dict:=none,data:=.set #[] 0 (.fresh 0 0 (!bt w))})=h0 at hS hI hod1 hkeep⊢;have hT:Shared.TypeIs {s with heap:=h0} (.ref d) "dict":=⟨od,hod1,hexd.1⟩
 have hTS:Shared.TypeIs {s with heap:=h0} (.ref s.heap.objs.size) "set":=⟨_,hS,rfl⟩
 have h1:isSubtype (.type "dict") (.type "set")=pure false:=by rw[isSubtype_type];kernel_rfl
 have h2:isSubtype (.type "dict") (.type "frozenset")=pure false:=by rw[isSubtype_type];kernel_rfl
 generalize hU:@Builtin.Frozenset.updateFrom=U;unfold Builtin.«set.__init__» noKeywords
 wp_walk
 rw[hdd];refine wpAny_pure ?_;refine wpAny_bind (wpAny_dictEntries (s:={s with heap:=h0}) hod1 hdd ?_);refine wpAny_bind (lC (s:={s with heap:=h0}) hI (by rw[length_nil];omega) λh3 ns3 o3 es3 ep3 t3 hs3 ho3 hex3 hd3 S3 hp3 _=>?_);have e3:ns3=[]:=hp3.eq_nil;subst e3;have hod3:h3.get? d=some od:=(hs3.2 d (symm hdS)).trans hod1;refine wpAny_bind (wpAny_dictEntries (s:={s with heap:=h3}) hod3 hdd ?_);refine wpAny_bind ?_;rw[Std.Legacy.Range.forIn_eq_forIn_range'];simp only[Std.Legacy.Range.size,Nat.sub_zero,Nat.add_sub_cancel,Nat.div_one];refine wpAny_forIn_list _ (λrest _ s'=>∃h' us i,s'={s with heap:=h'}∧rest=range' i (ed.size-i)∧i≤ed.size∧SameBut s.heap.objs.size h0 h'∧IS w h' s.heap.objs.size us∧(∀x,x∈us↔x∈ks.take i)∧us.length≤i) _ ?_ ?_ _ _
  ⟨h3,[],0,rfl,by simp,zero_le _,hs3,⟨o3,es3,ep3,t3,ho3,hex3,hd3,S3⟩,λx=>by simp,le_refl _⟩
 ·rintro x rest b s' ⟨h',us,i,rfl,hr,hi,hsb,hS',hmem,hl⟩;have hlt:i<ed.size:=by
   rcases Nat.lt_or_ge i ed.size with h|h
   ·exact h
   ·rw[Nat.sub_eq_zero_of_le h]at hr;simp at hr
  obtain⟨rfl,hrest⟩:x=i∧rest=range' (i+1) (ed.size-(i+1)):=by
   have e:ed.size-i=(ed.size-(i+1))+1:=by omega
   rw[e,List.range'_succ]at hr;injection hr with h1 h2
   exact⟨h1,h2⟩
  have hod':h'.get? d=some od:=(hsb.2 d (symm hdS)).trans hod1;refine wpAny_bind (wpAny_dictEntries (s:={s with heap:=h'}) hod' hdd ?_);have hx:ed[x]?=some ed[x]:=Array.getElem?_eq_getElem hlt;obtain⟨k,kt,hk1,hk2,hk3⟩:=hk x _ hx;rw[hx];show wpAny _ _ (holding [ed[x].key] (setAddHashed s.heap.objs.size ed[x].key ed[x].hash) >>= _) _ _ _;rw[hk2,hk3];refine wpAny_bind (wpAny_holding (add_int (s:={s with heap:=h'}) hS' (by omega) λr h2 us2 hsb2 hS2 hor=>?_));have hod2:h2.get? d=some od:=(hsb2.2 d (symm hdS)).trans hod';refine wpAny_bind (wpAny_dictEpoch (s:={s with heap:=h2}) hod2 hdd ?_);rw[if_neg (by simp)];refine wpAny_pure ⟨h2,us2,x+1,rfl,hrest,hlt,hsb.trans hsb2,hS2,λy=>?_,?_⟩
  ·have ht:ks.take (x+1)=ks.take x++[k]:=by rw[take_succ,hk1];rfl
   rw[ht,mem_append,mem_singleton];rcases hor with⟨hin,e⟩|⟨_,e⟩
   ·rw[e,hmem y];constructor
    ·exact .inl
    ·rintro(z|z)
     ·exact z
     ·rw[z];exact(hmem _).mp hin
   ·rw[e.mem_iff,mem_cons,hmem y];exact Or.comm
  ·rcases hor with⟨_,e⟩|⟨_,e⟩
   ·rw[e];omega
   ·have:=e.length_eq;rw[length_cons]at this;omega
 ·rintro b s' ⟨h',us,i,rfl,hr,hi,hsb,hS',hmem,hl⟩;have hin:i=ed.size:=by
   have:=congrArg length hr;rw[length_nil,List.length_range']at this;omega
  refine wpAny_pure (wpAny_pure ⟨rfl,h h' us (λc o e=>?_) hS' λx=>?_⟩)
  ·rw[hsb.2 c (ne_of_lt (lt_size e))];exact hkeep c o e
  ·rw[hmem x,hin,hlen,take_length]
end
end TB
namespace L2
open PySem PySem.Spec PyProof.Rows
section
variable{X:Cx}
theorem Inv.dK{pins:List (Addr×Obj)}{σ:St}{H:Hp}{s:Shared}(I:Inv X pins σ H s){a:Addr}{kvs:List (Key×V)}(h:Rd H a (.dK kvs)):
  kvs.length≤sizeLine∧(a==sysModules)=false∧∃vs,KV kvs vs∧s.heap.DictOf (aG X.prog X.w) a vs:=by
 rcases h with h|⟨o,h⟩
 ·obtain⟨hz,hsm,vs,rel,dd⟩:=I.hok a _ h;exact⟨hz,hsm,vs,rel,dd⟩
 ·obtain⟨_,hz,hsm,vs,rel,dd⟩:=I.hok a _ h;exact⟨hz,hsm,vs,rel,dd⟩
def kq:V→Bool
 |.non=>true
 |.int _=>true
 |.str _=>true
 |_=>false
theorem fZ{x:V}(h:kq x=true):cn x=true:=by cases x<;>first|rfl|cases h
theorem tP{x y:V}(hx:kq x=true)(hy:kq y=true):eqV x y=decide (x=y):=by
 cases x<;>cases y<;>simp_all [eqV,kq]<;>rw[Bool.eq_iff_iff]<;>simp
def OT(H:Hp)(x:V)(o:Option (List V)):Prop:=(x=.non∧o=none)∨∃a xs,x=.ref a∧H a=some (.tup xs)∧o=some xs∧∀v∈xs,kq v=true
theorem xW{xs ys:List V}(hl:xs.length=ys.length):((List.range xs.length).all λi=>decide (xs.getD i .non=ys.getD i .non))=decide (xs=ys):=by
 rw[Bool.eq_iff_iff,all_eq_true,decide_eq_true_eq];constructor
 ·intro h;apply ext_getElem?;intro i
  by_cases hi:i<xs.length
  ·have:=h i (mem_range.mpr hi);rw[decide_eq_true_eq,getD_eq_getElem?_getD,getD_eq_getElem?_getD,getElem?_eq_getElem hi,getElem?_eq_getElem (by omega)]at this;rw[getElem?_eq_getElem hi,getElem?_eq_getElem (by omega)];exact congrArg some this
  ·rw[getElem?_eq_none (by omega),getElem?_eq_none (by omega)]
 ·intro h i hi;rw[h];simp
theorem xX(hu:X.A.units+1<cLine):OpR X (compareOp .NotEq) (λx y H Q=>∃ox oy,OT H x ox∧OT H y oy∧Q (.bl (!decide (ox=oy))) H):=by
 intro pins s σ H x y v u Q I rx ry h;obtain⟨ox,oy,hx,hy,q⟩:=h;have hu0:X.A.units<cLine:=by omega
 rcases hx with⟨rfl,rfl⟩|⟨a,xs,rfl,ha,rfl,fx⟩<;>rcases hy with⟨rfl,rfl⟩|⟨b,ys,rfl,hb,rfl,fy⟩<;>cases rx<;>cases ry
 ·exact RcNeAt.none_none _ _ _ _ ⟨.bl false,H,I,rfl,q⟩
 ·obtain⟨_,ws,r2,t2⟩:=I.hok b _ hb;exact RcNeAt.none_tuple t2 hu0 _ _ _ _ ⟨.bl true,H,I,rfl,q⟩
 ·obtain⟨_,us,r1,t1⟩:=I.hok a _ ha;exact RcNeAt.tuple_none t1 hu0 _ _ _ _ ⟨.bl true,H,I,rfl,q⟩
 ·obtain⟨_,us,r1,t1⟩:=I.hok a _ ha;obtain⟨_,ws,r2,t2⟩:=I.hok b _ hb;have l1:=r1.length;have l2:=r2.length;refine RcNeAt.tuples (e:=λi=>decide (xs.getD i .non=ys.getD i .non)) t1 t2 hu0 (λj h1 h2=>?_) _ _ _ _ ⟨.bl _,H,I,rfl,?_⟩
  ·have h1':j<xs.length:=by rw[l1];simpa using h1
   have h2':j<ys.length:=by rw[l2];simpa using h2
   obtain⟨u',hu1,hu2⟩:=r1.get (getElem?_eq_getElem h1');obtain⟨v',hv1,hv2⟩:=r2.get (getElem?_eq_getElem h2');have e1:us.toArray[j]=u':=by
    have:us[j]?=some us.toArray[j]:=by rw[getElem?_eq_getElem (by simpa using h1)];simp
    rw[hu1]at this;exact(Option.some.inj this).symm
   have e2:ws.toArray[j]=v':=by
    have:ws[j]?=some ws.toArray[j]:=by rw[getElem?_eq_getElem (by simpa using h2)];simp
    rw[hv1]at this;exact(Option.some.inj this).symm
   rw[e1,e2,getD_eq_getElem?_getD,getD_eq_getElem?_getD,getElem?_eq_getElem h1',getElem?_eq_getElem h2'];have f1:=fx _ (getElem_mem h1');have f2:=fy _ (getElem_mem h2');show EqAt _ _ _ _ (decide (xs[j]=ys[j]));rw[←tP f1 f2];exact ib hu2 hv2 (fZ f1) (fZ f2)
  ·have e:((List.range (min us.toArray.size ws.toArray.size)).all (λi=>decide (xs.getD i .non=ys.getD i .non))&&us.toArray.size==ws.toArray.size)=decide (some xs=some ys):=by
    simp only[size_toArray,←l1,←l2]
    by_cases hl:xs.length=ys.length
    ·rw[←hl,Nat.min_self,xW hl];simp
    ·have:(xs.length==ys.length)=false:=by simpa using hl
     rw[this,Bool.and_false];refine(decide_eq_false ?_).symm;intro e;injection e with e
     exact hl (by rw[e])
   rw[e];exact q
end
theorem gM{α:Type}[DecidableEq α]:∀{l m:List α},l.Nodup→(∀x∈l,x∈m)→l.length≤m.length
 |[],_,_,_=>zero_le _
 |x::l,m,hn,h=>by
  obtain⟨h1,h2⟩:=nodup_cons.mp hn;have hx:=h x mem_cons_self;have ih:=gM (l:=l) (m:=m.erase x) h2 λy hy=>(List.mem_erase_of_ne (by rintro rfl;exact h1 hy)).mpr (h y (mem_cons_of_mem _ hy));rw[List.length_erase_of_mem hx]at ih;have:=List.length_pos_of_mem hx;rw[length_cons];omega
section
variable{X:Cx}
theorem iB:cK X (.type "set") (λxs H Q=>∃d kvs,∃ks:List Int,xs=[.ref d]∧Rd H d (.dK kvs)∧kvs.map (·.1)=ks.map (Sum.inl:Int→Key)∧ks.length≤60 ∧
  ∀ms:List Int,ms.Nodup→(∀x,x∈ms↔x∈ks)→∀q,H q=none→Q (.ref q) (upd H q (eJ X.w q ms))):=by
 intro pins s σ H xs us Q I r h;obtain⟨d,kvs,ks,rfl,hH,hks,hl,q⟩:=h;obtain⟨u,rfl,ru⟩:=dE r;cases ru;obtain⟨hz,hsm,vs,rel,o,es,ep,ho,hx,hd,hk,hp,hn⟩:=I.dK hH;have hlen:es.size=ks.length:=by
  have e1:=hp.length;have e2:=rel.length;have e3:=congrArg length hks;rw[length_map,length_map]at e3;rw[length_toList]at e1;omega
 have key:∀(es:List DictEntry)(vs:List (Key×Value))(kvs:List (Key×V))(ks:List Int),Pairs (aG X.prog X.w) es vs→KV kvs vs→kvs.map (·.1)=ks.map (Sum.inl:Int→Key)→(∀e∈es,∃k,(aG X.prog X.w).is k e.key=true∧e.hash=(aG X.prog X.w).hash k) →
   ∀(i:Nat)(e:DictEntry),es[i]?=some e→∃k t,ks[i]?=some k∧e.key=.int k t∧e.hash=hashInt k:=by
  intro es vs kvs ks hp
  induction hp generalizing kvs ks with
  |nil=>intro _ _ _ i e he;simp at he
  |@cons e0 kv0 es0 kvs0 h1 h2 _ ih =>
   intro r hks hk i e he;cases r with
   |@cons p _ kvs1 _ r1 r2 =>
    cases ks with
    |nil=>simp at hks
    |cons k ks =>
     rw[map_cons,map_cons]at hks;injection hks with g1 g2
     cases i with
     |zero =>
      have ee:e0=e:=by simpa using he
      subst ee;have g3:kv0.1=Sum.inl k:=r1.1.symm.trans g1;rw[g3]at h1;obtain⟨k',hk1,hk2⟩:=hk _ mem_cons_self;have g4:k'=Sum.inl k:=(aG X.prog X.w).inj _ _ _ hk1 h1;subst g4;have h1':iN (Sum.inl k) e0.key=true:=h1;rcases aR h1' with⟨j,t,e1,e2⟩|⟨y,t,e1,e2⟩
      ·injection e1 with e1
       subst e1;exact⟨k,t,rfl,e2,hk2⟩
      ·cases e1
     |succ i=>exact ih _ ks r2 g2 (λe he=>hk e (mem_cons_of_mem _ he)) i e (by simpa using he)
 refine TB.tO (ks:=ks) ho hx hd hsm (λi e he=>?_) hlen hl λh' us hkeep hS hmem=>?_
 ·exact key es.toList vs kvs ks hp rel hks (λe he=>hk e (by simpa using he)) i e (by rw[getElem?_toList];exact he)
 ·have hnd:us.Nodup:=by obtain⟨_,_,_,_,_,_,_,S⟩:=hS;exact S.nd
  exact⟨.ref s.heap.objs.size,_,I.layS (t':=s.toks) hkeep (le_refl _) hS,rfl,q us hnd hmem _ (I.hok.fresh (le_refl _))⟩
theorem tQ:OpR X (binaryOp .BitOr) (λx y H Q=>∃a b,∃ms ns:List Int,x=.ref a∧y=.ref b∧a≠b∧H a=some (eJ X.w a ms)∧H b=some (eJ X.w b ns)∧ms.length+ns.length≤60 ∧
  ∀us:List Int,us.Nodup→(∀x,x∈us↔x∈ms∨x∈ns)→∀q,H q=none→Q (.ref q) (upd H q (eJ X.w q us))):=by
 intro pins s σ H x y v u Q I rx ry h;obtain⟨a,b,ms,ns,rfl,rfl,hab,ha,hb,hl,q⟩:=h;cases rx;cases ry;refine TB.tN hab (I.intS ha) (I.intS hb) hl λh' us hkeep hS hmem=>?_;have hnd:us.Nodup:=by obtain⟨_,_,_,_,_,_,_,S⟩:=hS;exact S.nd
 exact⟨.ref s.heap.objs.size,_,I.layS (t':=s.toks) hkeep (le_refl _) hS,rfl,q us hnd hmem _ (I.hok.fresh (le_refl _))⟩
end
end L2
namespace TW
section
variable{S:Type}
def bc(t:List (Nd S))(k:Int):Option (Nd S):=t.find? λn=>n.num==k
theorem oO{t:List (Nd S)}(T:Tree1 t){m:Nd S}(hm:m∈t){k:Int}(e:m.num=k):bc t k=some m:=by
 subst e;unfold bc;cases h:t.find? λn=>n.num==m.num with
 |none=>have:=List.find?_eq_none.mp h m hm;simp at this
 |some y =>
  have h1:=List.find?_some h;have h2:=List.mem_of_find?_eq_some h;have h3:y.num=m.num:=by simpa using h1
  rw[T.inj h2 hm h3]
theorem oP{t:List (Nd S)}{k:Int}(h:∀m∈t,m.num≠k):bc t k=none:=by
 unfold bc;rw[List.find?_eq_none];intro m hm;simpa using h m hm
end
end TW
namespace TW
section
variable{S:Type}
structure Row(S:Type) where
 k:Int
 o:Option (Nd S)
 n:Option (Nd S)
structure Chg(t u:List (Nd S))(rs:List (Row S)):Prop where
 up:rs.Pairwise λa b=>a.k<b.k
 mem:∀r,r∈rs↔r.o=bc t r.k∧r.n=bc u r.k∧r.o≠r.n
theorem io{t:List (Nd S)}{k:Int}{m:Nd S}(h:bc t k=some m):m∈t∧m.num=k:=by
 unfold bc at h;have h1:=List.find?_some h;have h2:=List.mem_of_find?_eq_some h;exact⟨h2,by simpa using h1⟩
theorem qb:∀{a b:List (Row S)},a.Pairwise (λx y=>x.k<y.k)→b.Pairwise (λx y=>x.k<y.k)→(∀r,r∈a↔r∈b)→a=b
 |[],[],_,_,_=>rfl
 |[],y::b,_,_,h=>absurd ((h y).mpr mem_cons_self) (by simp)
 |x::a,[],_,_,h=>absurd ((h x).mp mem_cons_self) (by simp)
 |x::a,y::b,ha,hb,h=>by
  obtain⟨a1,a2⟩:=pairwise_cons.mp ha;obtain⟨b1,b2⟩:=pairwise_cons.mp hb;have e:x=y:=by
   rcases mem_cons.mp ((h x).mp mem_cons_self)with e|e
   ·exact e
   ·rcases mem_cons.mp ((h y).mpr mem_cons_self)with e'|e'
    ·exact e'.symm
    ·have q1:=b1 x e;have q2:=a1 y e';omega
  subst e
  congr 1
  refine qb a2 b2 λr=>⟨λhr=>?_,λhr=>?_⟩
  ·rcases mem_cons.mp ((h r).mp (mem_cons_of_mem _ hr))with e|e
   ·have:=a1 r hr;rw[e]at this;omega
   ·exact e
  ·rcases mem_cons.mp ((h r).mpr (mem_cons_of_mem _ hr))with e|e
   ·have:=b1 r hr;rw[e]at this;omega
   ·exact e
theorem Chg.uniq{t u:List (Nd S)}{a b:List (Row S)}(ha:Chg t u a)(hb:Chg t u b):a=b:=qb ha.up hb.up λr=>(ha.mem r).trans (hb.mem r).symm
def gO(t u:List (Nd S))(k:Int):Row S:=⟨k,bc t k,bc u k⟩
theorem xY[DecidableEq (Nd S)]{t u:List (Nd S)}{ns:List Int}(hu:ns.Pairwise (· < ·))(hm:∀k,bc t k≠none∨bc u k≠none→k∈ns∨bc t k=bc u k):Chg t u ((ns.map (gO t u)).filter λr=>decide (r.o≠r.n)):=by
 refine⟨?_,λr=>?_⟩
 ·refine Pairwise.filter _ ?_;rw[pairwise_map];exact hu
 ·rw[mem_filter,mem_map,decide_eq_true_eq];constructor
  ·rintro⟨⟨k,hk,rfl⟩,hne⟩;exact⟨rfl,rfl,hne⟩
  ·rintro⟨h1,h2,h3⟩;refine⟨⟨r.k,?_,?_⟩,h3⟩
   ·have h4:bc t r.k≠bc u r.k:=by rw[←h1,←h2];exact h3
    have h5:bc t r.k≠none∨bc u r.k≠none:=by
     by_cases z:bc t r.k=none
     ·exact .inr λz2=>h4 (z.trans z2.symm)
     ·exact .inl z
    rcases hm r.k h5 with z|z
    ·exact z
    ·exact absurd z h4
   ·show(⟨r.k,bc t r.k,bc u r.k⟩:Row S)=r;rw[←h1,←h2]
end
end TW
namespace L2
open PySem PySem.Spec PyProof.Rows
end L2
namespace TK
open PySem L2
instance decNd:DecidableEq (TW.Nd Str):=λa b=>Classical.propDecidable _
abbrev Row:=TW.Row Str
def gf(H:Hp)(v:V)(o:Option Nd):Prop:=(v=.non∧o=none)∨∃q n,v=.ref q∧H q=some (.tup (bH n))∧o=some n
theorem gf.same{H H':Hp}{v:V}{o:Option Nd}(h:gf H v o)(s:Same H H'):gf H' v o:=by
 rcases h with h|⟨q,n,e,h,e2⟩
 ·exact .inl h
 ·exact .inr ⟨q,n,e,s _ _ h,e2⟩
theorem jv(n:Nd):∀v∈bH n,kq v=true:=λv hv=>by
 unfold bH at hv;simp only[mem_cons,not_mem_nil,or_false]at hv;rcases hv with rfl|rfl|rfl
 ·rfl
 ·rfl
 ·cases n.st<;>rfl
theorem gf.ot{H:Hp}{v:V}{o:Option Nd}(h:gf H v o):OT H v (o.map bH):=by
 rcases h with⟨e,e2⟩|⟨q,n,e,h,e2⟩
 ·exact .inl ⟨e,by rw[e2];rfl⟩
 ·exact .inr ⟨q,bH n,e,h,by rw[e2];rfl,jv n⟩
theorem rk{a b:Nd}(h:bH a=bH b)(e:a.num=b.num):a=b:=by
 obtain⟨n1,p1,m1,s1⟩:=a;obtain⟨n2,p2,m2,s2⟩:=b;unfold bH at h;simp only[List.cons.injEq,V.int.injEq,V.str.injEq,and_true]at h;obtain⟨h1,h2,h3⟩:=h;have h4:s1=s2:=by
  cases s1<;>cases s2<;>simp_all [stV]
 simp only at e;subst e h1 h2 h4;rfl
def vQ(r:Row):Prop:=(∀n,r.o=some n→n.num=r.k)∧∀n,r.n=some n→n.num=r.k
theorem vQ.eq{r:Row}(h:vQ r):r.o.map bH=r.n.map bH↔r.o=r.n:=by
 obtain⟨k,o,n⟩:=r;constructor
 ·intro e;cases o with
  |none=>cases n with
   |none=>rfl
   |some b=>cases e
  |some a=>cases n with
   |none=>cases e
   |some b =>
    have e2:bH a=bH b:=Option.some.inj e;exact congrArg some (rk e2 ((h.1 a rfl).trans (h.2 b rfl).symm))
 ·intro e;show o.map bH=n.map bH;have:o=n:=e;rw[this]
structure RowAt(H:Hp)(e:Addr)(r:Row):Prop where
 at':∃vo vn,H e=some (.tup [.int r.k,vo,vn])∧gf H vo r.o∧gf H vn r.n
 ok:vQ r
theorem RowAt.same{H H':Hp}{e:Addr}{r:Row}(h:RowAt H e r)(s:Same H H'):RowAt H' e r:=by
 obtain⟨⟨vo,vn,h1,h2,h3⟩,hk⟩:=h;exact⟨⟨vo,vn,s _ _ h1,h2.same s,h3.same s⟩,hk⟩
abbrev ZR:=List (Addr×Row)
def gP(es:ZR):List V:=es.map λe=>V.ref e.1
def dP(es:ZR):List Row:=es.map (·.2)
structure ChgAt(H:Hp)(c:Addr)(es:ZR):Prop where
 tup:H c=some (.tup (gP es))
 at':∀e∈es,RowAt H e.1 e.2
 len:es.length≤60
theorem ChgAt.same{H H':Hp}{c:Addr}{es:ZR}(h:ChgAt H c es)(s:Same H H'):ChgAt H' c es:=⟨s _ _ h.tup,λe he=>(h.at' e he).same s,h.len⟩
theorem tR{t u:List Nd}(k:Int):vQ (TW.gO t u k):=⟨λn h=>(TW.io h).2,λn h=>(TW.io h).2⟩
theorem kr{H:Hp}{v w:V}{o:Option Nd}(hv:gf H v o)(hw:gf H w o):kc H 2 v w:=by
 rcases hv with⟨rfl,rfl⟩|⟨q,n,rfl,hq,rfl⟩
 ·rcases hw with⟨rfl,_⟩|⟨q,n,_,_,e⟩
  ·exact dk ⟨rfl,rfl⟩
  ·cases e
 ·rcases hw with⟨_,e⟩|⟨q2,n2,rfl,hq2,e⟩
  ·cases e
  ·have:n=n2:=Option.some.inj e;subst this;exact .inr ⟨q,q2,_,_,rfl,rfl,hq,hq2,rfl,λi x y hx hy=>by
    have e:x=y:=Option.some.inj (hx.symm.trans hy);subst e;exact dk ⟨rfl,fZ (jv n x (mem_of_getElem? hx))⟩⟩
theorem oQ{H:Hp}{es fs:ZR}(h:dP es=dP fs)(he:∀e∈es,RowAt H e.1 e.2)(hf:∀e∈fs,RowAt H e.1 e.2):dL H (gP es) (gP fs):=by
 have hl:es.length=fs.length:=by
  have:=congrArg length h;unfold dP at this;rw[length_map,length_map]at this;exact this
 refine⟨by unfold gP;rw[length_map,length_map];exact hl,λi x y hx hy=>?_⟩;unfold gP at hx hy;rw[getElem?_map]at hx hy;cases ga:es[i]? with
 |none=>rw[ga]at hx;cases hx
 |some a =>
  cases gb:fs[i]? with
  |none=>rw[gb]at hy;cases hy
  |some b =>
   rw[ga]at hx;rw[gb]at hy;have ex:V.ref a.1=x:=Option.some.inj hx;have ey:V.ref b.1=y:=Option.some.inj hy;subst ex ey;have e:a.2=b.2:=by
    have h1:(dP es)[i]?=some a.2:=by unfold dP;rw[getElem?_map,ga];rfl
    have h2:(dP fs)[i]?=some b.2:=by unfold dP;rw[getElem?_map,gb];rfl
    rw[h,h2]at h1;exact(Option.some.inj h1).symm
   obtain⟨⟨vo,vn,a1,a2,a3⟩,_⟩:=he a (mem_of_getElem? ga);obtain⟨⟨wo,wn,b1,b2,b3⟩,_⟩:=hf b (mem_of_getElem? gb);rw[←e]at b1 b2 b3;refine .inr ⟨a.1,b.1,_,_,rfl,rfl,a1,b1,rfl,λj x' y' hx' hy'=>?_⟩
   match j,hx',hy' with
   |0,hx',hy' =>
    cases hx';cases hy';exact dk ⟨rfl,rfl⟩
   |1,hx',hy' =>
    cases hx';cases hy';exact kr a2 b2
   |2,hx',hy' =>
    cases hx';cases hy';exact kr a3 b3
   |j+3,hx',hy'=>simp at hx'
theorem Book.optV{H:Hp}{d:Addr}{as:List (Addr×(Addr×Nd))}{zs:ZN}(b:Book H d as zs)(T:TW.Tree1 (nds zs))(k:Int):∃r,dG H d (.int k) r∧gf H (r.getD .non) (TW.bc (nds zs) k):=by
 by_cases hk:∃z∈zs,z.2.num=k
 ·obtain⟨z,hz,rfl⟩:=hk;obtain⟨q,hq1,hq2⟩:=b.get (cJ T) hz;refine⟨_,hq1,?_⟩;rw[TW.oO T (bO hz) rfl];exact .inr ⟨q,z.2,rfl,hq2,rfl⟩
 ·refine⟨none,b.not λz hz e=>hk ⟨z,hz,e⟩,?_⟩;rw[TW.oP λm hm e=>?_]
  ·exact .inl ⟨rfl,rfl⟩
  ·obtain⟨z,hz,rfl⟩:=jp hm;exact hk ⟨z,hz,e⟩
theorem jw{as:List (Addr×(Addr×Nd))}{zs:ZN}(h:as.map (·.2)=zs):(fq as).map (·.1)=((nds zs).map (·.num)).map (Sum.inl:Int→Key):=fX h
theorem nu{es:ZR}{t u:List Nd}{ns:List Int}(h:dP es=ns.map (TW.gO t u)):dP (es.filter λe=>!decide (e.2.o=e.2.n))=(ns.map (TW.gO t u)).filter λr=>decide (r.o≠r.n):=by
 rw[←h];unfold dP;rw[filter_map]
 congr 1
 apply filter_congr;intro e _;show(!decide (e.2.o=e.2.n))=decide (e.2.o≠e.2.n)
 by_cases z:e.2.o=e.2.n<;>simp[z]
theorem ku{t:List Nd}{k:Int}(h:TW.bc t k≠none):k∈t.map (·.num):=by
 cases e:TW.bc t k with
 |none=>exact absurd e h
 |some m =>
  obtain⟨h1,h2⟩:=TW.io e;exact mem_map.mpr ⟨m,h1,h2⟩
end TK
namespace L2
open PySem PySem.Spec PyProof.Rows
section
variable{X:Cx}
end
end L2
namespace TW
section
variable{S:Type}
end
end TW
namespace L2
open PySem PySem.Spec PyProof.Rows
end L2
namespace TK
open PySem L2
theorem vR(o:Option Int):cn (stV o)=true:=by cases o<;>rfl
theorem oR(H:Hp)(n:Nd)(k:Nat):∀(i:Nat) x y,(vals n)[i]?=some x→(vals n)[i]?=some y→kc H k x y:=λi x y h1 h2=>by
 have e:x=y:=Option.some.inj (h1.symm.trans h2);subst e;refine dk ⟨rfl,?_⟩
 match i,h1 with
 |0,h=>cases h;rfl
 |1,h=>cases h;rfl
 |2,h=>cases h;rfl
 |3,h=>cases h;exact vR _
 |i+4,h=>simp[vals]at h
theorem nw{H:Hp}{us ws:ZN}(h:nds us=nds ws)(hu:At H us)(hw:At H ws):dL H (be us) (be ws):=by
 refine⟨by rw[cx,cx,←bi us,←bi ws,h],λi x y hx hy=>?_⟩;obtain⟨a,ga,rfl⟩:=dm hx;obtain⟨b,gb,rfl⟩:=dm hy;have e:a.2=b.2:=by
  have h1:(nds us)[i]?=some a.2:=by unfold nds;rw[getElem?_map,ga];rfl
  have h2:(nds ws)[i]?=some b.2:=by unfold nds;rw[getElem?_map,gb];rfl
  rw[h,h2]at h1;exact(Option.some.inj h1).symm
 refine .inr ⟨a.1,b.1,_,_,rfl,rfl,hu a (mem_of_getElem? ga),hw b (mem_of_getElem? gb),rfl,?_⟩;rw[e];exact oR H b.2 2
end TK
namespace L2
open PySem PySem.Spec PyProof.Rows
section
variable{X:Cx}
abbrev Cx.within(X:Cx)(pl:List (Addr×Obj))(xe:Value→Shared→Prop):Cx:={X with pn:=pl,xe:=xe}
theorem Cx.Ok.within(ok:X.Ok)(pl:List (Addr×Obj))(xe:Value→Shared→Prop):(X.within pl xe).Ok:=⟨ok.mod,ok.kind,ok.glob,ok.blt,ok.above,ok.inj,ok.has,ok.cab,ok.hd,ok.frames,ok.stk,ok.exf,ok.bs,ok.bsz,ok.noex,ok.exfs,ok.funs,ok.frf⟩
theorem Cx.Ok.without{pl:List (Addr×Obj)}{xe:Value→Shared→Prop}(ok:(X.within pl xe).Ok):X.Ok:=⟨ok.mod,ok.kind,ok.glob,ok.blt,ok.above,ok.inj,ok.has,ok.cab,ok.hd,ok.frames,ok.stk,ok.exf,ok.bs,ok.bsz,ok.noex,ok.exfs,ok.funs,ok.frf⟩
theorem Inv.within{pins:List (Addr×Obj)}{σ:St}{H:Hp}{s:Shared}(I:Inv X pins σ H s)(xe:Value→Shared→Prop):Inv (X.within (X.pn++pins) xe) [] σ H s :=
 ⟨I.ok.within _ _,I.os,I.bare,I.base,I.loc,I.cell,I.free,I.freeC,λp hp=>I.pin p (by simpa using hp),I.hok,I.len⟩
theorem Inv.without{pins pins':List (Addr×Obj)}{σ:St}{H:Hp}{s:Shared}{xe:Value→Shared→Prop}(I:Inv (X.within (X.pn++pins) xe) pins' σ H s):Inv X pins σ H s :=
 ⟨I.ok.without,I.os,I.bare,I.base,I.loc,I.cell,I.free,I.freeC,λp hp=>I.pin p (mem_append_left _ hp),I.hok,I.len⟩
end
structure RoomM(k:Nat)(A:Around):Prop where
 dp:A.depth+3*k+5<recursionLimit
 un:A.units+16*k+200<cLine
theorem RoomM.mono{j k:Nat}{A:Around}(r:RoomM k A)(h:j≤k):RoomM j A:=⟨by have:=r.dp;omega,by have:=r.un;omega⟩
theorem RoomM.deeper{k:Nat}{A:Around}(r:RoomM (k+1) A)(env:Env):RoomM k (A.deeper env) :=
 ⟨by have:=r.dp;show A.depth+1+3*k+5<_;omega,by have:=r.un;show A.units+3+16*k+200<_;omega⟩
theorem RoomM.depth{k:Nat}{A:Around}(r:RoomM k A):A.depth<recursionLimit:=by have:=r.dp;omega
structure FnOkM(P:Program)(w:World)(K:PySem.W.Frag)(mg:Str→Option Value)(base:Heap)(CX:CXT)(k:Nat)(f:Addr)(fd:FuncData)(ps:List Str)(sp:Sp):Prop where
 len:∀vs H Q E,sp vs H Q E→vs.length=ps.length
 run:∀(A:Around)(outer:List Env)(s:Shared)(H:Hp)(args:Args)(us:List Value)(vs:List V)(Q:VK)(E:XK),RoomM k A→Env0 P w K mg base A outer s H→BindsTo s fd args (ps.zip us)→aw vs us→sp vs H Q E →
  codeAny (model P w) A (.call (.ref f) args) (CR CX outer P w H s Q E) s
abbrev kx(CX:CXT)(P:Program)(w:World)(K:PySem.W.Frag)(mg:Str→Option Value)(base:Heap)(N:List Str)(qual:Str)(scope:Scope)(f:Addr)(cd:Value)(A:Around)(outer:List Env)(s:Shared)(H:Hp)(E:XK):Cx:={iE CX P w K mg base N qual scope f cd A outer s H E with calm:=false}
theorem oS{CX:CXT}{P:Program}{w:World}{K:PySem.W.Frag}{mg:Str→Option Value}{base:Heap}{N ps:List Str}{qual:Str}{scope:Scope}{f:Addr}{cd:Value}{A:Around}{outer:List Env}{s s1:Shared}{H:Hp}{E:XK}{us:List Value}{vs:List V}(S:FnScope N ps scope)(e0:Env0 P w K mg base A outer s H)(hl:vs.length=ps.length)(r:aw vs us)(x:InCallC s s.heap.objs.size (bindL (envOfC qual scope s.heap.objs.size f cd).kindOf (ps.zip us) λ_=>none) (cellsFrom (s.heap.objs.size+1) scope.names []) (bindC (envOfC qual scope s.heap.objs.size f cd).kindOf (ps.zip us) λ_=>none) s1):
  Inv (kx CX P w K mg base N qual scope f cd A outer s H E) [] (start N vs) H s1:=by
 have hpl:ps.length≤N.length:=by have:=congrArg length S.pre;rw[length_take]at this;omega
 obtain⟨h1,tk,rfl,hk⟩:=x.done;have noA:∀b:Addr,b∉(kx CX P w K mg base N qual scope f cd A outer s H E).ex:=λb z=>absurd (show b∈([]:List Addr)from z) (by simp);refine⟨⟨e0.mod,S.kind,rfl,rfl,le_refl _,λy z c h1 h2=>?_,λy hy=>?_,λy c _ h=>?_,λh=>absurd (show false=true from h) (by decide),Around.frames_deeper e0.frames,.inr ⟨rfl,rfl⟩,λb z=>absurd z (noA b),e0.bs,e0.bsz,λb _ _=>noA b,λb z=>absurd z (noA b),e0.funs,e0.frf⟩,
  rfl,e0.bare,Un.kept hk,⟨_,x.toInCall.ns,λi y v h1 h2 h3=>?_⟩,λy c h=>⟨_,x.cell y c h⟩,e0.hok.fresh (le_refl _),λy c h=>?_,λp hp=>absurd (show p∈([]:List (Addr×Obj))from hp) (by simp),e0.hok.kept hk,?_⟩
 ·exact name_of_addr x.apart (PySem.mem_of_lookup h1) (PySem.mem_of_lookup h2)
 ·have hy:scope.names.lookup y=some .cell∨scope.names.lookup y=some .free:=hy;rcases hy with hy|hy
  ·exact gm hy
  ·exact absurd rfl (S.nofree _ (PySem.mem_of_lookup hy))
 ·exact le_of_lt (x.above y c (PySem.mem_of_lookup h))
 ·have hi:i<vs.length:=by
   unfold start at h2
   by_cases hi:i<vs.length
   ·exact hi
   ·rw[getElem?_append_right (by simpa using hi)]at h2;rw[List.getElem?_replicate]at h2
    split at h2<;>cases h2
  have ha:vs[i]?=some v:=by
   unfold start at h2;rw[getElem?_append_left (by simpa using hi),getElem?_map]at h2;cases e:vs[i]? with
   |none=>rw[e]at h2;cases h2
   |some a=>rw[e]at h2;cases h2;rfl
  obtain⟨u,hu,rv⟩:=r.get ha;have hp:ps[i]?=some y:=by
   rw[←S.pre,List.getElem?_take_of_lt (by omega)];exact h1
  have ndP:ps.Nodup:=by rw[←S.pre];exact S.nd.sublist (take_sublist _ _)
  refine⟨u,rv,?_⟩;rcases S.par y (mem_of_getElem? hp)with k|k
  ·exact .inl ⟨k,hX ndP hp hu k⟩
  ·obtain⟨c,e⟩:=gm (n:=s.heap.objs.size+1) k;refine .inr ⟨.inl k,c,e,?_⟩;have q:=x.cell y c e;rw[hZ ndP hp hu (by show scope.names.lookup y≠_;rw[k];decide)]at q;exact q
 ·exact e0.hok.fresh (le_of_lt (x.above y c (PySem.mem_of_lookup h)))
 ·unfold start;show _=N.length;rw[length_append,length_map,length_replicate];omega
theorem xZ{CX:CXT}{P:Program}{w:World}{K:PySem.W.Frag}{mg:Str→Option Value}{base:Heap}{k:Nat}{f:Addr}{name qual:Str}{params:Arguments}{body:List Stmt}{scope:Scope}{dV kV doc pm cdv ct oc:Value}{an od:Option Addr}{osl:Array (Option Value)}{N ps:List Str}{sp:Sp}(lk:K.lookup f=some ⟨oc,od,.func (fnOf name qual params body scope dV kV doc pm an cdv ct),osl⟩)(hcd:codeIn K cdv qual=true)(S:FnScope N ps scope)(len:∀vs H Q E,sp vs H Q E→vs.length=ps.length)(hbody:∀(A:Around) (outer:List Env) (s:Shared) (H:Hp) (vs:List V) (Q:VK) (E:XK),RoomM k (A.deeper (envOfC qual scope s.heap.objs.size f cdv))→sp vs H Q E →
   ∃t,PSs (kx CX P w K mg base N qual scope f cdv A outer s H E) body t∧t {nx:=λ_ H'=>Q .non H',rt:=Q} (start N vs) H):
  FnOkM P w K mg base CX (k+1) f (fnOf name qual params body scope dV kV doc pm an cdv ct) ps sp:=by
 refine⟨len,λA outer s H args us vs Q E hr e0 hb r hsp=>?_⟩;have hl:=len _ _ _ _ hsp;have KX:K.In s.heap:=e0.mod.kin.keeps λb o e=>(e0.bs b o e).1;have lim:s.heap.NoLimit:=e0.mod.nolimit.keeps λb o e=>(e0.bs b o e).1;have hkind:∀y∈ps.zip us,scope.names.lookup y.1=some .local∨(scope.names.lookup y.1=some .cell∧((cellsFrom (s.heap.objs.size+1) scope.names []).lookup y.1).isSome=true):=λ⟨n,v⟩ hy=>by
  rcases S.par n (of_mem_zip hy).1 with q|q
  ·exact .inl q
  ·exact .inr ⟨q,cellsFrom_some _ _ _ (.inl q)⟩
 refine codeAny_call_function hr.depth (KX _ _ lk) rfl S.co S.gen rfl (codeRec_of KX hcd) (hb _ _ _ _ ?_);refine wpAny_newFunctionEnv_cells S.kind hkind λenv he s1 x=>?_;subst he;refine⟨lim.keeps x.toInCall.keep,codeAny_func ?_⟩;obtain⟨t,ht,hq⟩:=hbody A outer s H vs Q E (hr.deeper _) hsp;have I:Inv (kx CX P w K mg base N qual scope f cdv A outer s H E) [] (start N vs) H s1:=oS S e0 hl r x;refine wpAny_mono (ht [] s1 (start N vs) H _ I hq) (λfl s' hs=>?_) λe s' hs=>hs;have fin:∀{σ':St}{H':Hp}{v:V}{u:Value},Inv (kx CX P w K mg base N qual scope f cdv A outer s H E) [] σ' H' s'→aA v u→Q v H'→CE outer P w H s Q u s' :=
  λ{σ' H' v u} J rv q=>⟨v,H',J.os,J.bare,J.base,J.hok,rv,q⟩
 cases fl with
 |ret u =>
  obtain⟨v,σ',H',J,rv,q⟩:=hs;exact fin J rv q
 |next =>
  obtain⟨σ',H',J,q⟩:=hs;exact fin (v:=V.non) (u:=Value.none) J rfl q
 |brk =>
  obtain⟨_,_,_,q⟩:=hs;exact False.elim q
 |cont =>
  obtain⟨_,_,_,q⟩:=hs;exact False.elim q
section
variable{X:Cx}{CX:CXT}{k:Nat}{f C:Addr}{fd:FuncData}{ps:List Str}{sp:Sp}{dvs:List V}{ds:List Value}{E:XK}{x m:Str}{p pos apos:Pos}{e o:Expr}{es:List Expr}{ta:TE}{t:TA}
theorem vS{pins:List (Addr×Obj)}{σ:St}{H:Hp}{s:Shared}{Q:VK}{us:List Value}{vs:List V}(F:FnOkM X.prog X.w X.K X.mg X.base CX k f fd ps sp)(hr:RoomM k X.A)(hb:aq X.K fd ps ds)(hd:aw dvs ds)(hx:cr CX X E)(I:Inv X pins σ H s)(r:aw vs us)(h:sp (vs++dvs) H Q E):wpAny (model X.prog X.w) X.A (call (.ref f) us) (EP X pins σ Q) X.xe s:=by
 have r2:aw (vs++dvs) (us++ds):=r.append hd;have hl:(us++ds).length=ps.length:=by rw[←r2.length];exact F.len _ _ _ _ h
 refine wpAny_call (codeAny_mono (F.run X.A X.stack s H ⟨us,[]⟩ (us++ds) (vs++dvs) Q E hr I.env0 (hb s us I.kIn hl) r2 h) λr s' hq=>?_);cases r with
 |error e=>exact hx pins σ H s e s' I hq
 |ok fl =>
  cases fl with
  |ret u=>exact I.after hq
  |next=>exact False.elim hq
  |brk=>exact False.elim hq
  |cont=>exact False.elim hq
theorem tS(F:FnOkM X.prog X.w X.K X.mg X.base CX k f fd ps sp)(hr:RoomM k X.A)(hg:Gl X x)(hm:X.mg x=some (.ref f))(hk:keepIn X.K (.ref f)=true)(hb:aq X.K fd ps ds)(hd:aw dvs ds)(hx:cr CX X E)(ha:PA X (e::es) t)(hdb:(x==("__debug__":Str))=false:=by decide)(he:starEach (e::es) X.env=(false,eval e X.env)::starEach es X.env:=by rfl)(hpl:(backTo pos (starEach es X.env)).any (·.1)=false:=by rfl):
  PE X (.Call (.Name x p) (e::es) [] pos) (lP sp dvs E t):=by
 intro pins s σ H Q I h;refine wpAny_Call_Name_kw (eZ I hg hm ?_ hdb);refine callWith_K (h₀:=X.base) I.ok.mod.kin hk (thn (ha pos pins s σ H _ I h) λus s1 ⟨vs,H1,I1,r,q⟩=>⟨I1.kIn,?_⟩) he hpl;exact vS F hr hb hd hx I1 r q
abbrev Cx.hnd(X:Cx)(pl:List (Addr×Obj))(v:Option Value):Cx:={X with pn:=pl,xe:=λ_ _=>False,A:=X.A.mark v,calm:=false}
theorem Inv.hnd{pins:List (Addr×Obj)}{σ:St}{H:Hp}{s:Shared}{v:Option Value}(I:Inv X pins σ H s):Inv (X.hnd (X.pn++pins) v) [] σ H s :=
 ⟨⟨I.ok.mod,I.ok.kind,I.ok.glob,I.ok.blt,I.ok.above,I.ok.inj,I.ok.has,I.ok.cab,λh=>absurd (show false=true from h) (by decide),I.ok.frames,I.ok.stk,I.ok.exf,I.ok.bs,I.ok.bsz,I.ok.noex,I.ok.exfs,I.ok.funs,I.ok.frf⟩,I.os,I.bare,I.base,I.loc,I.cell,I.free,I.freeC,λp hp=>I.pin p (by simpa using hp),I.hok,I.len⟩
theorem Inv.unhnd{pins pins':List (Addr×Obj)}{σ σ0:St}{H H0:Hp}{s s0:Shared}{v:Option Value}(I:Inv (X.hnd (X.pn++pins) v) pins' σ H s)(I0:Inv X pins σ0 H0 s0):Inv X pins σ H s :=
 ⟨I0.ok,I.os,I.bare,I.base,I.loc,I.cell,I.free,I.freeC,λp hp=>I.pin p (mem_append_left _ hp),I.hok,I.len⟩
def wV(D:Ends)(n l:Nat)(T:Addr)(K:PySem.W.Frag)(th:TS):XK:=λcl _ H'=>∃C,cl=.ref C∧subIn K (.ref C) (.ref T)=some true∧∀ea (σ':St),σ'.length=n→H' ea=none →
 th {nx:=λσ2 H2=>D.nx (σ2.set l none) H2,bk:=λσ2 H2=>D.bk (σ2.set l none) H2,ct:=λσ2 H2=>D.ct (σ2.set l none) H2,rt:=D.rt} (σ'.set l (some (.ref ea))) (upd H' ea (.ext (XI.mw ea C)))
def zq(n l:Nat)(T:Addr)(K:PySem.W.Frag)(tb:XK→TS)(th:TS):TS:=λD σ H=>tb (wV D n l T K th) D σ H
theorem vT(Y:TryOk X){l:Nat}{n x:Str}{T:Addr}{body:List Stmt}{b0:Stmt}{body2:List Stmt}{tb:XK→TS}{th:TS}{px p3 p4:Pos}(hN:X.N.Nodup)(hl:X.N[l]?=some n)(ln:X.env.scope.names.lookup n=some .local)(he:∀pl xe E,cr (CX1 X.prog X.w) (X.within pl xe) E→PassesOwn (model X.prog X.w) X.A X.env xe→PSs (X.within pl xe) body (tb E))(hb:∀pl v,PSs (X.hnd pl v) (b0::body2) th)(hg:Gl X x)(hm:X.mg x=some (.ref T))(hT:PySem.W.ktsIn X.K T "BaseException"=true)(hdx:(x==("__debug__":Str))=false:=by decide):
  PS X (.Try body [.ExceptHandler (some (.Name x px)) (some n) (b0::body2) p3] [] [] p4) (zq X.N.length l T X.K tb th):=by
 intro pins s σ H D I h;refine wpAny_Try_except ?_;refine wpAny_mono (he (X.pn++pins) _ (wV D X.N.length l T X.K th) ?hp PassesOwn.looking [] s σ H D (I.within _) h) (λf s1 q=>?_) (λev s1 hx=>hx)
 ·intro pins' σ H1 s0 ev s1 I0 hx;obtain⟨ea,C,H',rfl,F,⟨C',eC,hsub,hk⟩⟩:=hx;cases eC;have I1:Inv X pins σ H1 s0:=I0.without;have hk:=hk ea σ I1.len F.new;obtain⟨B,a0,fl,hB,kp,th⟩:=id F.fly;have frm:X.A.frames=some (X.env::X.outer):=by rw[I1.ok.frames,Y.stk]
  have fl':=fl;rw[show(X.within _ _).stack=X.stack from rfl,Y.stk]at fl';refine wpAny_looks_onW frm Y.fr fl' λh4 held4 hs4=>?_;refine wpAny_landsW held4 λh5 fl5 hs5=>?_;have sm5:s1.heap.UpToSlots h5:=hs4.trans hs5;have fl5':FlyingW B X.stack ea (.ref C) a0 h5:=by rw[Y.stk];exact fl5
  have J5:=I1.caught F fl hB kp th fl5' sm5;obtain⟨ob,hob,hobc⟩:=fl5.there;obtain⟨nm,q',N,bs,bm,hdct,sn,sub,ab,col,dd,k0,k1,k2,k3,k5,newId,hTo,hbase,_⟩:=PySem.W.kts_cls J5.kIn hT;obtain⟨hp1,g1,d1,t1,os1⟩:=s1;refine wpAny_handleBy_cons (codeAny_handlers_test ?_) (by intro q;cases q);refine Calls.Name_function_global J5.ok.kind hg (Calls.loadGlobal_global (by rw[J5.ok.glob];exact J5.mod.glob.keeps J5.bk) hm ?_) hdx;refine vz hTo hbase (PySem.W.looks_subIn J5.kIn hsub) hob hobc ?_;refine codeAny_handlers_suite_as ?_;refine lands_againW (s:=⟨h5,g1,d1,t1,os1⟩) fl5 λh6 fl6 hs6=>?_;have fl6':FlyingW B X.stack ea (.ref C) a0 h6:=by rw[Y.stk];exact fl6
  have J6:=I1.caught F fl hB kp th fl6' (sm5.trans hs6);refine iP J6 hN hl (.inl ln) (v:=.ref ea) rfl (λs2 J7=>?_) (.inr ln);have hcls:(X.env.scope.kind==.class||(X.env.scope.kind==.module&&X.env.locals != X.env.globals))=false:=by rw[J7.ok.kind];rfl
  have hkn:X.env.kindOf n=some .local:=ln;refine wpAny_mono (hb (X.pn++pins) _ [] s2 _ _ _ J7.hnd hk) (λf s3 q=>?_) (λ_ _ z=>z.elim);cases f with
  |next =>
   obtain⟨σ',H8,I8,q'⟩:=q;have J8:Inv X pins σ' H8 s3:=I8.unhnd J7;obtain⟨m8,hn8,_⟩:=id J8.loc;exact wpAny_nameGoes_keeps hkn hn8 hcls λh9 v9 hn9 hs9=>⟨_,_,J8.forget hN hl hn8 hn9 hs9,q'⟩
  |brk =>
   obtain⟨σ',H8,I8,q'⟩:=q;have J8:Inv X pins σ' H8 s3:=I8.unhnd J7;obtain⟨m8,hn8,_⟩:=id J8.loc;exact wpAny_nameGoes_keeps hkn hn8 hcls λh9 v9 hn9 hs9=>⟨_,_,J8.forget hN hl hn8 hn9 hs9,q'⟩
  |cont =>
   obtain⟨σ',H8,I8,q'⟩:=q;have J8:Inv X pins σ' H8 s3:=I8.unhnd J7;obtain⟨m8,hn8,_⟩:=id J8.loc;exact wpAny_nameGoes_keeps hkn hn8 hcls λh9 v9 hn9 hs9=>⟨_,_,J8.forget hN hl hn8 hn9 hs9,q'⟩
  |ret v =>
   obtain⟨x',σ',H8,I8,r',q'⟩:=q;have J8:Inv X pins σ' H8 s3:=I8.unhnd J7;obtain⟨m8,hn8,_⟩:=id J8.loc;exact wpAny_nameGoes_keeps hkn hn8 hcls λh9 v9 hn9 hs9=>⟨x',_,_,J8.forget hN hl hn8 hn9 hs9,r',q'⟩
 ·cases f with
  |next=>obtain⟨σ',H',I',q'⟩:=q;exact wpAny_execs_nil ⟨σ',H',I'.without,q'⟩
  |brk=>obtain⟨σ',H',I',q'⟩:=q;exact⟨σ',H',I'.without,q'⟩
  |cont=>obtain⟨σ',H',I',q'⟩:=q;exact⟨σ',H',I'.without,q'⟩
  |ret v=>obtain⟨x',σ',H',I',r',q'⟩:=q;exact⟨x',σ',H',I'.without,r',q'⟩
end
section
variable{X:Cx}{tg:Expr}
end
end L2
namespace L2
open PySem PyProof PyProof.Rows
section
variable{X:Cx}{pos:Pos}
end
end L2
namespace L2
open PySem PySem.Spec PyProof.Rows
def tT(CX:CXT)(P:Program)(w:World)(K:PySem.W.Frag)(mg:Str→Option Value)(base:Heap)(N:List Str)(qual:Str)(scope:Scope)(f:Addr)(cd:Value)(cl:List (Str×Addr))(A:Around)(outer:List Env)(s:Shared)(H:Hp)(E:XK):Cx where
 prog:=P
 w:=w
 K:=K
 mg:=mg
 base:=base
 A:=A.deeper (envX qual scope s.heap.objs.size f cd cl)
 N:=N
 s₀:=s
 H₀:=H
 env:=envX qual scope s.heap.objs.size f cd cl
 outer:=outer
 stack:=envX qual scope s.heap.objs.size f cd cl::outer
 ex:=[]
 calm:=true
 fn:=λ_=>false
 pn:=[]
 xe:=λe s'=>wpAny (model P w) (A.deeper (envX qual scope s.heap.objs.size f cd cl)) (leaving (envX qual scope s.heap.objs.size f cd cl) e) (λ_ s''=>CX outer H s E e s'') (λe' s''=>CX outer H s E e' s'') s'
structure LaScope(ps:List Str)(scope:Scope)(cl:List (Str×Addr)):Prop where
 kind:scope.kind=.function
 co:scope.isCoroutine=false
 gen:scope.isGenerator=false
 nocell:∀x∈scope.names,x.2≠.cell
 par:∀x∈ps,scope.names.lookup x=some .local
 nd:ps.Nodup
 has:∀x,scope.names.lookup x=some .free→∃c,cl.lookup x=some c
 inj:∀x y c,cl.lookup x=some c→cl.lookup y=some c→x=y
structure Capt(base:Heap)(scope:Scope)(cl:List (Str×Addr))(fs:List Str)(fv:List V):Prop where
 cell:∀x c,cl.lookup x=some c→∃v,base.IsCell c v
 len:fs.length=fv.length
 val:∀(i:Nat) x v,fs[i]?=some x→fv[i]?=some v→scope.names.lookup x=some .free∧∃c u,cl.lookup x=some c∧base.IsCell c (some u)∧aA v u
theorem qc:∀(ps:List Str)(us:List Value),((ps.zip us).map (·.1)).Sublist ps
 |[],_=>by simp
 |_::_,[]=>by simp
 |p::ps,u::us=>by rw[List.zip_cons_cons,map_cons];exact(qc ps us).cons₂ _
theorem ny{ps:List Str}{us:List Value}{i:Nat}{x:Str}{u:Value}(nd:ps.Nodup)(h1:ps[i]?=some x)(h2:us[i]?=some u):(ps.zip us).reverse.lookup x=some u:=by
 have mem:(x,u)∈(ps.zip us).reverse:=by
  rw[List.mem_reverse];exact mem_of_getElem? (i:=i) (by rw[List.getElem?_zip_eq_some];exact⟨h1,h2⟩)
 have nd2:((ps.zip us).reverse.map (·.1)).Nodup:=by
  rw[List.map_reverse];unfold Nodup;rw[List.pairwise_reverse];exact(nd.sublist (qc ps us)).imp λh=>symm h
 generalize (ps.zip us).reverse=l at mem nd2
 induction l with
 |nil=>cases mem
 |cons a r ih =>
  obtain⟨y,w⟩:=a;rw[map_cons,nodup_cons]at nd2;rcases mem_cons.mp mem with e|e
  ·cases e;rw[lookup_cons,beq_self_eq_true]
  ·have ne:x≠y:=λz=>nd2.1 (by rw[←z];exact mem_map.mpr ⟨(x,u),e,rfl⟩);rw[lookup_cons,show(x==y)=false by simpa using ne]
   exact ih e nd2.2
section
variable{CX:CXT}{P:Program}{w:World}{K:PySem.W.Frag}{mg:Str→Option Value}{base:Heap}{k:Nat}{f c:Addr}{name qual:Str}{params:Arguments}{body:Expr}{scope:Scope}{cl:List (Str×Addr)}{pm ctv:Value}{ps fs:List Str}{fv:List V}{sp:Sp}
theorem tU{A:Around}{outer:List Env}{s:Shared}{H:Hp}{E:XK}{us:List Value}{vs:List V}{h₁:Heap}{tk:Nat}(S:LaScope ps scope cl)(C:Capt base scope cl fs fv)(hd:A.handled=none)(e0:Env0 P w K mg base A outer s H)(hl:vs.length=ps.length)(r:aw vs us)(hns:h₁.Ns s.heap.objs.size (λx=>(ps.zip us).reverse.lookup x))(hk:∀b o,s.heap.get? b=some o→h₁.get? b=some o):
  Inv (tT CX P w K mg base (ps++fs) qual scope f (.ref c) cl A outer s H E) [] (vs.map some++fv.map some) H {s with heap:=h₁,toks:=tk}:=by
 have noA:∀b:Addr,b∉(tT CX P w K mg base (ps++fs) qual scope f (.ref c) cl A outer s H E).ex:=λb z=>absurd (show b∈([]:List Addr)from z) (by simp);have cellB:∀c v,base.IsCell c v→h₁.IsCell c v∧H c=none∧c≠s.heap.objs.size:=λc v ⟨o,e,d⟩=>⟨⟨o,hk c o (e0.bs _ _ e).1,d⟩,(e0.bs _ _ e).2,ne_of_lt (lt_size (e0.bs _ _ e).1)⟩;refine⟨⟨e0.mod,S.kind,rfl,rfl,le_refl _,S.inj,λy hy=>?_,λy c h _=>absurd h (by simp[tT]),λ_=>hd,Around.frames_deeper e0.frames,.inr ⟨rfl,rfl⟩,λb z=>absurd z (noA b),e0.bs,e0.bsz,λb _ _=>noA b,λb z=>absurd z (noA b),e0.funs,e0.frf⟩,
  rfl,e0.bare,Un.kept hk,⟨_,hns,λi y v h1 h2 h3=>?_⟩,λy c h=>?_,e0.hok.fresh (le_refl _),λy c h=>?_,λp hp=>absurd (show p∈([]:List (Addr×Obj))from hp) (by simp),e0.hok.kept hk,?_⟩
 ·have hy:scope.names.lookup y=some .cell∨scope.names.lookup y=some .free:=hy;rcases hy with hy|hy
  ·exact absurd rfl (S.nocell _ (PySem.mem_of_lookup hy))
  ·exact S.has y hy
 ·have h1:(ps++fs)[i]?=some y:=h1
  by_cases hi:i<ps.length
  ·rw[getElem?_append_left hi]at h1;rw[getElem?_append_left (by rw[length_map];omega),getElem?_map]at h2;cases e:vs[i]? with
   |none=>rw[e]at h2;cases h2
   |some a =>
    rw[e]at h2;cases h2;obtain⟨u,hu,rv⟩:=r.get e;exact⟨u,rv,.inl ⟨S.par y (mem_of_getElem? h1),ny S.nd h1 hu⟩⟩
  ·rw[getElem?_append_right (by omega)]at h1;rw[getElem?_append_right (by rw[length_map];omega),length_map,hl,getElem?_map]at h2;cases e:fv[i-ps.length]? with
   |none=>rw[e]at h2;cases h2
   |some a =>
    rw[e]at h2;cases h2;obtain⟨g1,cc,u,g2,g3,rv⟩:=C.val _ _ _ h1 e;exact⟨u,rv,.inr ⟨.inr g1,cc,g2,(cellB _ _ g3).1⟩⟩
 ·obtain⟨v,hv⟩:=C.cell y c h;exact⟨v,(cellB _ _ hv).1⟩
 ·obtain⟨v,hv⟩:=C.cell y c h;exact(cellB _ _ hv).2.1
 ·show _=(ps++fs).length;rw[length_append,length_append,length_map,length_map,hl,C.len]
end
def cdφ(c:Addr)(qual:Str)(h:Heap):Prop:=h.CodeRec (.ref c) qual
theorem nz{c:Addr}{qual:Str}:∀h1 h2:Heap,cdφ c qual h1→(∀o,h1.get? c=some o→h2.get? c=some o)→cdφ c qual h2:=λh1 h2 h k=>by
 obtain⟨c',oc,vs,tq,e1,e2,e3⟩:=h;cases e1;exact⟨c,oc,vs,tq,rfl,k _ e2,e3⟩
theorem tV{c:Addr}{qual:Str}{h:Heap}(x:cdφ c qual h):∃o,h.get? c=some o:=by
 obtain⟨c',oc,vs,tq,e1,e2,e3⟩:=x;cases e1;exact⟨oc,e2⟩
def cg(H:Hp)(P:Addr)(qual:Str):Prop:=∃ps:Array Value,H P=some (.tbl ps)∧TriplesOk ps.toList∧∀pos cv,codeAmong pos ps.toList=some cv→∃c,cv=.ref c∧H c=some (.ext (cdφ c qual))
theorem cg.start{H:Hp}{P:Addr}{qual:Str}(h:H P=some (.tbl #[])):cg H P qual:=⟨#[],h,trivial,λpos cv e=>by cases e⟩
theorem ky{pos:Pos}{a b:Int}{t u:Tok}{v cv:Value}:∀{l:List Value},TriplesOk l→codeAmong pos (l++[.int a t,.int b u,v])=some cv→codeAmong pos l=some cv∨cv=v
 |[],_,h=>by
  have h:(if a==pos.line&&b==pos.col then some v else codeAmong pos [])=some cv:=h
  split at h
  ·exact .inr (Option.some.inj h).symm
  ·cases h
 |.int x t1::.int y t2::c::rest,ht,h=>by
  have h:(if x==pos.line&&y==pos.col then some c else codeAmong pos (rest++[.int a t,.int b u,v]))=some cv:=h
  show(if x==pos.line&&y==pos.col then some c else codeAmong pos rest)=some cv∨cv=v
  split at h
  ·rename_i e;rw[if_pos e];exact .inl h
  ·rename_i e;rw[if_neg e];exact ky (show TriplesOk rest from ht) h
theorem iC{a b:Int}{t u:Tok}{v:Value}:∀{l:List Value},TriplesOk l→TriplesOk (l++[.int a t,.int b u,v])
 |[],_=>trivial
 |.int x t1::.int y t2::c::rest,ht=>iC (l:=rest) ht
def ax(P:Addr)(H H':Hp):Prop:=∀b o,b≠P→H b=some o→H' b=some o
theorem ax.refl(P:Addr)(H:Hp):ax P H H:=λ_ _ _ h=>h
theorem ax.trans{P:Addr}{H1 H2 H3:Hp}(a:ax P H1 H2)(b:ax P H2 H3):ax P H1 H3:=λx o n h=>b x o n (a x o n h)
def BmB(base:Heap)(mg:Str→Option Value):Prop:=∃bm o,mg "__builtins__"=some (.ref bm)∧bm≠builtinsNs∧base.get? bm=some o∧o.cls=.type "module"∧o.dict=some builtinsNs∧o.data=.plain
section
variable{X:Cx}{pins:List (Addr×Obj)}{σ:St}{H:Hp}{s:Shared}
theorem Inv.tab{P:Addr}{ps more:Array Value}{h':Heap}{t':Nat}(I:Inv X pins σ H s)(hP:H P=some (.tbl ps))(k:∀b o,b≠P→s.heap.get? b=some o→h'.get? b=some o)(hP':h'.get? P=some {cls:=.none,data:=.fields (ps++more)}):Inv X pins σ (upd H P (.tbl (ps++more))) {s with heap:=h',toks:=t'}:=by
 have ne:∀b,H b=none→b≠P:=λb n z=>by rw[z,hP]at n;cases n
 refine I.un (t':=t') ⟨λb o e n _ _=>k b o (ne b n) e,λb o e n _ _=>⟨o.slots,k b o (ne b n) e⟩,λb o e n _=>by rw[ai (ne b n)];exact n,λb o e _=>?_,λb xs e=>?_,λb o u e=>?_,λb qs e=>?_⟩ λb u e=>?_
 ·by_cases hb:b=P
  ·rw[hb];exact⟨_,hP'⟩
  ·exact⟨o,k b o hb e⟩
 ·rw[ai (λz=>by rw[z,hP]at e;cases e)];exact e
 ·rw[ai (λz=>by rw[z,hP]at e;cases e)];exact e
 ·by_cases hb:b=P
  ·subst hb;rw[hP]at e;cases e;exact⟨more,ac⟩
  ·exact⟨#[],by rw[ai hb,e];simp⟩
 ·by_cases hb:b=P
  ·subst hb;rw[ac]at e;cases e;exact hP'
  ·rw[ai hb]at e;refine(I.hok b u e).stay (λc v hc q=>k c v (λz=>?_) q) (λc q=>?_) λc xs q=>?_
   ·rcases hc with hc|hc
    ·exact hb (hc.symm.trans z)
    ·rw[z,hP]at hc;cases hc
   ·rw[ai (λz=>by rw[z,hP]at q;cases q)];exact q
   ·rw[ai (λz=>by rw[z,hP]at q;cases q)];exact q
theorem vU{c0 P:Addr}{params:Arguments}{body:Expr}{scope:Scope}{pos:Pos}{cl:List (Str×Addr)}{Q:Value→Shared→Prop}{E:Value→Shared→Prop}(I:Inv X pins σ H s)(C0:CodeHd X.base c0 P)(hc:X.env.code=.ref c0)(Bm:BmB X.base X.mg)(T:cg H P (X.env.qual++"<lambda>"))(hdef:defaultsOf params X.env=([],[]))(hcl:closureFor scope X.env=pure cl)(h:∀f c pm ctv H' s',ax P H H'→cg H' P (X.env.qual++"<lambda>")→H' c=some (.ext (cdφ c (X.env.qual++"<lambda>")))→Inv X pins σ H' s'→s'.heap.get? f=some (kla_obj "<lambda>" (X.env.qual++"<lambda>") params body scope cl pm c ctv)→s.heap.objs.size≤f→H' f=none→(∀b v,s.heap.IsCell b v→H b=none→s'.heap.IsCell b v)→Q (.ref f) s'):
  wpAny (model X.prog X.w) X.A (eval (.Lambda params body scope pos) X.env) Q E s:=by
 obtain⟨ps,hP,ht,hq⟩:=T;have hPs:s.heap.get? P=some (tabObj ps):=I.hok P _ hP;have hg:s.heap.Ns mainGlobals X.mg:=I.ok.mod.glob.keeps I.bk;have hgP:mainGlobals≠P:=λq=>by
  obtain⟨o,es,ep,e,hd,_⟩:=I.ok.mod.glob;have:=(I.bs _ _ e).2;rw[q,hP]at this;cases this
 have hb:s.heap.BuiltinsAt X.mg P:=by
  obtain⟨bm,ob,b1,b2,b3,b4,b5,b6⟩:=Bm;refine⟨bm,ob,b1,b2,λq=>?_,λq=>?_,I.bk _ _ b3,b4,b5,b6⟩
  ·obtain⟨o,es,ep,e,hd,_⟩:=I.ok.mod.glob;rw[q,e]at b3;cases b3;rw[hd]at b6;cases b6
  ·have:=(I.bs _ _ b3).2;rw[q,hP]at this;cases this
 have C:=C0.keeps I.bk;have cellP:∀b v,s.heap.IsCell b v→H b=none→b≠P:=λb v _ n z=>by rw[z,hP]at n;cases n
 refine PySem.W.kla_eval hdef ?_;cases ha:codeAmong pos ps.toList with
 |none =>
  refine PySem.W.kla_makeFunction (mg:=X.mg) hcl I.ok.glob hg hc C hPs ht ha hgP hb λc' ctv h' tk hx hge hlt hrec htb=>?_;have J:=I.tab (t':=tk) (more:=#[rawInt pos.line,rawInt pos.col,.ref c']) (h':=h'.push (kla_obj "<lambda>" (X.env.qual++"<lambda>") params body scope cl ((X.mg "__name__").getD .none) c' ctv)) hP (λb o n e=>get?_push_of_some _ (hx b o n e)) (get?_push_of_some _ htb);have fr:H c'=none:=I.hok.fresh hge;have ncP:c'≠P:=λz=>by rw[z,hP]at fr;cases fr
  have fr':upd H P (.tbl (ps ++ #[rawInt pos.line,rawInt pos.col,.ref c'])) c'=none:=by rw[ai ncP];exact fr
  have hrec':cdφ c' (X.env.qual++"<lambda>") (h'.push (kla_obj "<lambda>" (X.env.qual++"<lambda>") params body scope cl ((X.mg "__name__").getD .none) c' ctv)):=nz _ _ hrec λo e=>get?_push_of_some _ e;have Hq:ax P H (upd (upd H P (.tbl (ps ++ #[rawInt pos.line,rawInt pos.col,.ref c']))) c' (.ext (cdφ c' (X.env.qual++"<lambda>")))):=λb o n e=>by
   rw[ai (av e fr),ai n];exact e
  have sz:s.heap.objs.size≤h'.objs.size:=le_trans hge (le_of_lt hlt);have nfc:h'.objs.size≠c':=ne_of_gt hlt;have frf:H h'.objs.size=none:=I.hok.fresh sz;have nfP:h'.objs.size≠P:=λz=>by rw[z,hP]at frf;cases frf
  have J2:Inv X pins σ (upd (upd H P (.tbl (ps ++ #[rawInt pos.line,rawInt pos.col,.ref c']))) c' (.ext (cdφ c' (X.env.qual++"<lambda>")))) {s with heap:=h'.push (kla_obj "<lambda>" (X.env.qual++"<lambda>") params body scope cl ((X.mg "__name__").getD .none) c' ctv),toks:=tk}:=by
   refine⟨J.ok,J.os,J.bare,⟨λb o e n hb hx=>J.base.keep b o e n hb hx,λb o e n hb hx=>J.base.slot b o e n hb hx,λb o e n hx=>?_,J.base.there,λb xs e=>?_,λb o u e=>?_,λb qs e=>?_⟩,J.loc,J.cell,?_,λx c e=>?_,λp hp=>?_,λb u e=>?_,J.len⟩
   ·have h1:=J.base.free b o e n hx;have:b≠c':=ne_of_lt (lt_of_lt_of_le (lt_of_lt_of_le (lt_size e) I.sz) hge);rw[ai this];exact h1
   ·have h1:=J.base.tups b xs e;rw[ai (av h1 fr')];exact h1
   ·have h1:=J.base.frzs b o u e;rw[ai (av h1 fr')];exact h1
   ·obtain⟨m,h1⟩:=J.base.tbls b qs e;exact⟨m,by rw[ai (av h1 fr')];exact h1⟩
   ·rw[ai (ne_of_lt (lt_of_lt_of_le I.lt hge))];exact J.free
   ·have h1:=J.freeC x c e;obtain⟨v,o,ho,_⟩:=I.cell x c e;rw[ai (ne_of_lt (lt_of_lt_of_le (lt_size ho) hge))];exact h1
   ·obtain⟨g1,g2,g3,g4,g5⟩:=J.pin p hp;obtain⟨i1,_⟩:=I.pin p hp;exact⟨g1,by rw[ai (ne_of_lt (lt_of_lt_of_le (lt_size i1) hge))];exact g2,g3,g4,g5⟩
   ·by_cases hb:b=c'
    ·subst hb;rw[ac]at e;cases e;exact⟨hrec',tV hrec',nz⟩
    ·rw[ai hb]at e;exact(J.hok b u e).stay (λ_ _ _ q=>q) (λc q=>by rw[ai (av q fr')];exact q) λc xs q=>by rw[ai (av q fr')];exact q
  refine h h'.objs.size c' _ ctv _ _ Hq ⟨_,by rw[ai (symm ncP)];exact ac,?_,λpos' cv e=>?_⟩ ac J2 (get?_push_size _ rfl) sz ?_ λb v ⟨o,ho,hd⟩ n=>⟨o,get?_push_of_some _ (hx b o (cellP b v ⟨o,ho,hd⟩ n) ho),hd⟩
  ·rw[Array.toList_append];exact iC ht
  ·rw[Array.toList_append]at e;rcases ky ht e with e|e
   ·obtain⟨c,e1,e2⟩:=hq pos' cv e;refine⟨c,e1,Hq c _ (λz=>?_) e2⟩;rw[z,hP]at e2;cases e2
   ·exact⟨c',e,ac⟩
  ·rw[ai nfc,ai nfP];exact frf
 |some cv =>
  obtain⟨c,rfl,hcx⟩:=hq pos cv ha;refine PySem.W.kla_makeFunctionHit (mg:=X.mg) hcl I.ok.glob hg hc C hPs ht ha hb λctv h' tk hk hsz=>?_;have J:=I.kept (t':=tk) (h':=h'.push (kla_obj "<lambda>" (X.env.qual++"<lambda>") params body scope cl ((X.mg "__name__").getD .none) c ctv)) λb o e=>get?_push_of_some _ (hk b o e);exact h h'.objs.size c _ ctv H _ (ax.refl _ _) ⟨ps,hP,ht,hq⟩ hcx J (get?_push_size _ rfl) hsz (I.hok.fresh hsz) λb v ⟨o,ho,hd⟩ _=>⟨o,get?_push_of_some _ (hk b o ho),hd⟩
end
def bB(X:Cx)(H:Hp)(s:Shared):Heap:=hideAll s.heap (trk s.heap H++frs X.stack)
section
variable{X:Cx}{pins:List (Addr×Obj)}{σ:St}{H:Hp}{s:Shared}
theorem oT{b:Addr}{o:Obj}(e:s.heap.get? b=some o)(n:H b=none)(nf:b∉frs X.stack):(bB X H s).get? b=some o :=
 hideAll_get _ e λhm=>by
  rcases mem_append.mp hm with hm|hm
  ·have q:(H b).isSome=true:=(mem_filter.mp hm).2;rw[n]at q;simp at q
  ·exact nf hm
theorem tW{b:Addr}{o:Obj}(e:(bB X H s).get? b=some o):s.heap.get? b=some o∧H b=none∧b∉frs X.stack:=by
 have e':s.heap.get? b=some o:=of_hideAll (trk s.heap H++frs X.stack) e;have hid:b∉trk s.heap H++frs X.stack:=λhm=>by
  have z:(bB X H s).get? b=none:=hideAll_none _ hm;rw[z]at e;cases e
 refine⟨e',?_,λhm=>hid (mem_append_right _ hm)⟩;cases q:H b with
 |none=>rfl
 |some x=>exact absurd (mem_append_left _ (mem_filter.mpr ⟨mem_range.mpr (lt_size e'),by simp[q]⟩)) hid
theorem dQ{h base base':Heap}:∀{l:List Env},h.FunFrames base l→(∀b∈frs l,base'.get? b=none)→h.FunFrames base' l
 |[],_,_=>trivial
 |env::rest,⟨k,⟨L,o,hf,hb,ho,hd⟩,r⟩,hn=>by
  have e:frs (env::rest)=L::frs rest:=by unfold frs;rw[filterMap_cons,hf]
  rw[e]at hn;exact⟨k,⟨L,o,hf,hn L mem_cons_self,ho,hd⟩,dQ r λb hb=>hn b (mem_cons_of_mem _ hb)⟩
theorem Inv.bsub(I:Inv X pins σ H s):∀b o,X.base.get? b=some o→(bB X H s).get? b=some o:=λb o e=>by
 obtain⟨h1,h2⟩:=I.bs b o e;refine oT h1 h2 λhm=>?_;have:=(I.stack.mem hm).1;rw[e]at this;cases this
theorem Inv.env0B(I:Inv X pins σ H s):Env0 X.prog X.w X.K X.mg (bB X H s) X.A X.stack s H:=by
 have kp:=I.bsub;obtain⟨mb,hb,hbb⟩:=I.ok.mod.blt;refine⟨I.ok.frames,⟨I.ok.mod.kin.keeps kp,I.ok.mod.glob.keeps kp,⟨mb,hb.keeps kp,hbb⟩,I.ok.mod.nolimit.keeps kp⟩,λb o e=>⟨(tW e).1,(tW e).2.1⟩,le_of_eq (hideAll_size _ _),dQ I.stack λb hb=>?_,I.stkFree,I.hok,I.bare⟩;cases q:(bB X H s).get? b with
 |none=>rfl
 |some o=>exact absurd hb (tW q).2.2
theorem vV{CX:CXT}{k:Nat}{f:Addr}{fd:FuncData}{ps:List Str}{sp:Sp}{E:XK}{Q:VK}{us:List Value}{vs:List V}(F:FnOk X.prog X.w X.K X.mg (bB X H s) CX k f fd ps sp)(hr:Room k X.A)(hb:aq X.K fd ps [])(hx:cr CX X E)(I:Inv X pins σ H s)(r:aw vs us)(h:sp vs H Q E):wpAny (model X.prog X.w) X.A (call (.ref f) us) (EP X pins σ Q) X.xe s:=by
 have hl:(us++([]:List Value)).length=ps.length:=by rw[append_nil,←r.length];exact F.len _ _ _ _ h
 have hb':=hb s us I.kIn hl;rw[append_nil]at hb';refine wpAny_call (codeAny_mono (F.run X.A X.stack s H ⟨us,[]⟩ us vs Q E hr I.env0B hb' r h) λr s' hq=>?_);cases r with
 |error e=>exact hx pins σ H s e s' I hq
 |ok fl =>
  cases fl with
  |ret u=>exact I.after hq
  |next=>exact False.elim hq
  |brk=>exact False.elim hq
  |cont=>exact False.elim hq
def ya(js:List Nat)(σ:St)(fv:List V):Prop:=js.map (λj=>(σ[j]?).getD none)=fv.map some
def zr(P:Addr)(qual:Str)(js:List Nat)(spG:Addr→Addr→List V→Sp):TE:=λσ H Q=>cg H P qual∧∃fv,ya js σ fv∧∀f c H',ax P H H'→cg H' P qual→H' c=some (.ext (cdφ c qual))→H' f=none→spG f c fv [.ref f] H' Q E0
structure CapOk(X:Cx)(scope:Scope)(cl:List (Str×Addr))(fs:List Str)(js:List Nat):Prop where
 len:fs.length=js.length
 cells:∀x c,cl.lookup x=some c→X.env.cells.lookup x=some c
 at':∀(i j:Nat) x,js[i]?=some j→fs[i]?=some x→X.N[j]?=some x∧X.env.scope.names.lookup x=some .cell∧scope.names.lookup x=some .free∧∃c,cl.lookup x=some c
 fn:∀x,X.fn x=true
theorem Inv.cellF(I:Inv X pins σ H s)(hfn:∀x,X.fn x=true){x:Str}{c:Addr}(h:X.env.cells.lookup x=some c):c∉frs X.stack:=λhm=>by
 rcases mem_cons.mp (I.stkSub c hm)with z|z
 ·exact I.cne x c h z
 ·obtain⟨_,o,ho,_⟩:=I.ok.funs.mem z;have:=lt_of_lt_of_le (lt_size ho) (I.ok.cab x c (hfn x) h);exact absurd this (lt_irrefl _)
theorem Inv.capt{scope:Scope}{cl:List (Str×Addr)}{fs:List Str}{js:List Nat}{fv:List V}(I:Inv X pins σ H s)(O:CapOk X scope cl fs js)(hv:ya js σ fv):Capt (bB X H s) scope cl fs fv:=by
 have cellB:∀x c v,X.env.cells.lookup x=some c→s.heap.IsCell c v→(bB X H s).IsCell c v:=λx c v e ⟨o,ho,hd⟩=>⟨o,oT ho (I.freeC x c e) (I.cellF O.fn e),hd⟩;refine⟨λx c e=>?_,?_,λi x v h1 h2=>?_⟩
 ·obtain⟨v,hv⟩:=I.cell x c (O.cells x c e);exact⟨v,cellB x c v (O.cells x c e) hv⟩
 ·rw[O.len];have:=congrArg length hv;rw[length_map,length_map]at this;exact this
 ·have hi:i<js.length:=by rw[←O.len];exact(List.getElem?_eq_some_iff.mp h1).1
  obtain⟨a1,a2,a3,c,a4⟩:=O.at' i js[i] x (getElem?_eq_getElem hi) h1;have e:(js.map (λj=>(σ[j]?).getD none))[i]?=some (some v):=by
   rw[show js.map (λj=>(σ[j]?).getD none)=fv.map some from hv,getElem?_map,h2];rfl
  rw[getElem?_map,getElem?_eq_getElem hi]at e;have e':(σ[js[i]]?).getD none=some v:=Option.some.inj e;have e4:σ[js[i]]?=some (some v):=by
   cases q:σ[js[i]]? with
   |none=>rw[q]at e';cases e'
   |some y=>rw[q]at e';exact congrArg some e'
  obtain⟨m,_,hl⟩:=I.loc;obtain⟨u,r,lk⟩:=hl js[i] x v a1 e4 (.inr (.inl a2));rcases lk with⟨q,_⟩|⟨_,c',e5,e6⟩
  ·rw[show X.env.kindOf x=X.env.scope.names.lookup x from rfl,a2]at q;cases q
  ·have:c=c':=Option.some.inj ((O.cells x c a4).symm.trans e5);subst this;exact⟨a3,c,u,a4,cellB x c _ e5 e6,r⟩
theorem aQ{g P c0:Addr}{fdg:FuncData}{xg x:Str}{k:Nat}{p lpos pos:Pos}{params:Arguments}{body:Expr}{scope:Scope}{cl:List (Str×Addr)}{fs:List Str}{js:List Nat}{qual:Str}{spG:Addr→Addr→List V→Sp}(C0:CodeHd X.base c0 P)(hc:X.env.code=.ref c0)(Bm:BmB X.base X.mg)(hq:X.env.qual++"<lambda>"=qual)(hdef:defaultsOf params X.env=([],[]))(hcl:closureFor scope X.env=pure cl)(O:CapOk X scope cl fs js)(hG:∀(base':Heap) (f c:Addr) (pm ctv:Value) (fv:List V),(∀b o,X.base.get? b=some o→base'.get? b=some o)→base'.get? f=some (kla_obj "<lambda>" qual params body scope cl pm c ctv)→Capt base' scope cl fs fv→FnOk X.prog X.w X.K X.mg base' CX0 k g fdg [xg] (spG f c fv))(hr:Room k X.A)(hg:Gl X x)(hm:X.mg x=some (.ref g))(hk:keepIn X.K (.ref g)=true)(hb:aq X.K fdg [xg] [])(hdb:(x==("__debug__":Str))=false:=by decide)(he:starEach [.Lambda params body scope lpos] X.env=(false,eval (.Lambda params body scope lpos) X.env)::starEach [] X.env:=by rfl):
  PE X (.Call (.Name x p) [.Lambda params body scope lpos] [] pos) (zr P qual js spG):=by
 intro pins s σ H Q I h;obtain⟨T,fv,hv,q⟩:=h;subst hq;refine wpAny_Call_Name_kw (eZ I hg hm ?_ hdb);refine callWith_K (h₀:=X.base) I.ok.mod.kin hk ?_ he rfl;rw[he];show wpAny _ _ (spliced ((false,eval (.Lambda params body scope lpos) X.env)::backTo pos (starEach [] X.env))) _ _ s;refine spliced_cons (vU I C0 hc Bm T hdef hcl λf c pm ctv H' s' off tq hc' J ho hsz hf hcell=>?_);refine spliced_nil ⟨J.kIn,?_⟩;have nf:f∉frs X.stack:=λhm=>by
  rcases mem_cons.mp (I.stkSub f hm)with z|z
  ·have:=I.lt;rw[←z]at this;exact absurd this (Nat.not_lt.mpr hsz)
  ·exact I.nofs hsz z
 have C:=J.capt O hv;exact vV (hG _ f c pm ctv fv J.bsub (oT ho hf nf) C) hr hb aU J (vs:=[.ref f]) (.cons (show aA (.ref f) (.ref f)from rfl) .nil) (q f c H' off tq hc' hf)
def yb(te:TE)(f:Addr)(sp:Sp)(E:XK):TE:=λσ H Q=>te σ H λv H1=>v=.ref f∧sp [] H1 Q E
theorem rl{f:Addr}{fd:FuncData}{oc:Value}{od:Option Addr}{osl:Array (Option Value)}{k:Nat}{sp:Sp}{CX:CXT}{E:XK}{x:Str}{p pos:Pos}{te:TE}(hv:PE X (.Name x p) te)(ho:X.base.get? f=some ⟨oc,od,.func fd,osl⟩)(F:FnOk X.prog X.w X.K X.mg X.base CX k f fd [] sp)(hr:Room k X.A)(hb:aq X.K fd [] [])(hx:cr CX X E):
  PE X (.Call (.Name x p) [] [] pos) (yb te f sp E):=by
 intro pins s σ H Q I h;refine wpAny_Call_Name_kw (thn (hv pins s σ H _ I h) λu s1 hpt=>?_);obtain⟨v,H1,I1,r,e,q⟩:=hpt;subst e;obtain rfl:u=Value.ref f:=r;refine PySem.W.callWith_of (P:=λh=>h.get? f=some ⟨oc,od,.func fd,osl⟩) rfl (λh e=>⟨.frame,.inl rfl,(PySem.W.Looks.ld (part:=none) e).andThen .now⟩) (evalArgs_nil3 ⟨I1.bk _ _ ho,?_⟩);exact la (us:=[]) (dvs:=[]) F hr hb .nil hx I1 .nil q
end
section
variable{CX:CXT}{P:Program}{w:World}{K:PySem.W.Frag}{mg:Str→Option Value}{base:Heap}{k:Nat}{f c:Addr}{name qual:Str}{params:Arguments}{body:Expr}{scope:Scope}{cl:List (Str×Addr)}{pm ctv:Value}{ps fs:List Str}{fv:List V}{sp:Sp}
theorem ca(ho:base.get? f=some (kla_obj name qual params body scope cl pm c ctv))(hcd:∀vs H Q E,sp vs H Q E→H c=some (.ext (cdφ c qual)))(S:LaScope ps scope cl)(C:Capt base scope cl fs fv)(len:∀vs H Q E,sp vs H Q E→vs.length=ps.length)(hbody:∀(A:Around) (outer:List Env) (s:Shared) (H:Hp) (vs:List V) (Q:VK) (E:XK),Room k (A.deeper (envX qual scope s.heap.objs.size f (.ref c) cl))→sp vs H Q E →
   ∃t,PE (tT CX P w K mg base (ps++fs) qual scope f (.ref c) cl A outer s H E) body t∧t (vs.map some++fv.map some) H Q):
  FnOk P w K mg base CX (k+1) f (PySem.W.kla_fn name qual params body scope cl pm (.ref c) ctv) ps sp:=by
 refine⟨len,λA outer s H args us vs Q E hr e0 hb r hsp=>?_⟩;have hl:=len _ _ _ _ hsp;have kp:∀b o,base.get? b=some o→s.heap.get? b=some o:=λb o e=>(e0.bs b o e).1;have lim:s.heap.NoLimit:=e0.mod.nolimit.keeps kp;have hcd':s.heap.CodeRec (.ref c) qual:=(e0.hok c _ (hcd _ _ _ _ hsp)).1;refine PySem.W.kla_callFunE hr.depth (kp _ _ ho) rfl S.co S.gen rfl hcd' (hb _ _ _ _ ?_);refine wpAny_newFunctionEnv S.nocell (λx hx=>S.par _ (of_mem_zip hx).1) (λh₁ hns hsb=>?_) S.kind;have hk₁:∀b o,s.heap.get? b=some o→h₁.get? b=some o:=λb o e=>hsb.extBut b o (ne_of_lt (lt_size e)) (get?_push_of_some _ e);refine⟨lim.keeps hk₁,PySem.W.kla_codeExpr ?_⟩;obtain⟨t,ht,hq⟩:=hbody A outer s H vs Q E (hr.deeper _) hsp;have I:=tU (CX:=CX) (P:=P) (w:=w) (K:=K) (mg:=mg) (qual:=qual) (f:=f) (c:=c) (E:=E) (tk:=s.toks+(ps.zip us).length) S C hr.hd e0 hl r hns hk₁;exact wpAny_mono (ht [] _ _ H _ I hq) (λu s' ⟨v,H',J,rv,q⟩=>⟨v,H',J.os,J.bare,J.base,J.hok,rv,q⟩) λe s' h=>h
end
section
variable{P:Program}{w:World}{H:Hp}{fs:List Addr}{s s1:Shared}
variable{K:PySem.W.Frag}{mg:Str→Option Value}{base:Heap}{A:Around}{outer:List Env}{k:Nat}{f:Addr}{fd:FuncData}{y:Str}{spK:Sp}{key:V→Str}
end
section
variable{X:Cx}
end
theorem rn{P:Program}{w:World}{K:PySem.W.Frag}{mg mb:Str→Option Value}{k:Nat}{fa a:Addr}{fd:FuncData}{x:Str}{sp:Sp}{s₁:Shared}{vs:List Value}{ns:List Int}{tabs:List Addr}(KX:K.In s₁.heap)(hns:s₁.heap.Ns mainGlobals mg)(hb:s₁.heap.Ns builtinsNs mb)(hbb:∀x:Str,x≠"__name__"→mb x=bootBuiltins x)(hlim:s₁.heap.NoLimit)(hg:s₁.gens=#[])(hT:∀t∈tabs,(∃c,CodeHd s₁.heap c t)∧s₁.heap.get? t=some (tabObj #[]))(hKT:∀t∈tabs,K.lookup t=none)(hbm:BmB s₁.heap mg)(ha:s₁.heap.get? a=some {cls:=.type "list",data:=.seq vs.toArray})(hi:IntsAre vs ns)(hl:ns.length≤sizeLine)(hr:Room k callerA)(F:∀base:Heap,K.In base→base.Ns mainGlobals mg→BmB base mg→FnOk P w K mg base CX0 k fa fd [x] sp)(hbind:∀(s:Shared) (u:Value),BindsTo s fd ⟨[u],[]⟩ [(x,u)])(hsp:∀H:Hp,SqL K H a (ns.map V.int)→(∀t∈tabs,H t=some (.tbl #[]))→sp [.ref a] H (λv _=>v=.bl true) λ_ _ _=>False):
  codeAny (model P w) callerA (.call (.ref fa) ⟨[.ref a],[]⟩) (λr s'=>r=.ok (.ret (.bool true))∧OldK s₁.heap s'.heap∧s'.os=s₁.os∧AllBare s'.gens) s₁:=by
 have rv:=jV hi;have lenV:=hi.length;have naT:a∉tabs:=λh=>by
  have:=(hT a h).2;rw[ha]at this;cases this
 have core:∀(H:Hp),SqL K H a (ns.map V.int)→HOk P w H s₁.heap→(∀t∈tabs,H t=some (.tbl #[]))→(∀b o,H b=some o→(b=a∧K.lookup a=none∧∃ob xs,o=.frz ob (.lst xs))∨b∈tabs) →
   codeAny (model P w) callerA (.call (.ref fa) ⟨[.ref a],[]⟩) (λr s'=>r=.ok (.ret (.bool true))∧OldK s₁.heap s'.heap∧s'.os=s₁.os∧AllBare s'.gens) s₁:=by
  intro H hS hok hTt hA;have base_of:∀{b:Addr}{o:Obj},s₁.heap.get? b=some o→H b=none→(jK s₁.heap H).get? b=some o:=λe n=>rE e n;have noA:∀{b:Addr}{o:Obj}{es:Array DictEntry}{ep:Nat},s₁.heap.get? b=some o→o.data=.dict es ep→H b=none:=λ{b o es ep} e d=>by
   cases q:H b with
   |none=>rfl
   |some u =>
    rcases hA b u q with⟨e',_⟩|hm
    ·subst e';rw[ha]at e;cases e;cases d
    ·rw[(hT b hm).2]at e;cases e;cases d
  have nsK:∀{b:Addr}{m:Str→Option Value},s₁.heap.Ns b m→(jK s₁.heap H).Ns b m:=λ{b m} ⟨o,es,ep,e,d,r⟩=>⟨o,es,ep,base_of e (noA e d),d,r⟩;have hKb:K.In (jK s₁.heap H):=λb o e=>base_of (KX b o e) (by
   cases q:H b with
   |none=>rfl
   |some u =>
    rcases hA b u q with⟨e',hk,_⟩|hm
    ·subst e';rw[hk]at e;cases e
    ·rw[hKT b hm]at e;cases e)
  have hM:Mod K mg (jK s₁.heap H):=⟨hKb,nsK hns,⟨mb,nsK hb,hbb⟩,let⟨mc,h1,h2⟩:=hlim;⟨mc,nsK h1,h2⟩⟩;have e0:Env0 P w K mg (jK s₁.heap H) callerA [] s₁ H:=⟨rfl,hM,λb o e=>uQ e,le_of_eq (qx _ _),trivial,λb hb=>absurd (show b∈([]:List Addr)from hb) (by simp),hok,.of_eq hg⟩;have hBm:BmB (jK s₁.heap H) mg:=by
   obtain⟨bm,o,b1,b2,b3,b4,b5,b6⟩:=hbm;refine⟨bm,o,b1,b2,base_of b3 ?_,b4,b5,b6⟩;cases q:H bm with
   |none=>rfl
   |some u =>
    rcases hA bm u q with⟨e',_⟩|hm
    ·subst e';rw[ha]at b3;cases b3;cases b6
    ·rw[(hT bm hm).2]at b3;cases b3;cases b6
  refine codeAny_mono ((F _ hKb (nsK hns) hBm).run callerA [] s₁ H ⟨[.ref a],[]⟩ [.ref a] [.ref a] _ _ hr e0 (hbind s₁ (.ref a)) (.cons rfl .nil) (hsp H hS hTt)) λr s' h=>?_;cases r with
  |error e=>exact False.elim h
  |ok fl =>
   cases fl with
   |next=>exact False.elim h
   |brk=>exact False.elim h
   |cont=>exact False.elim h
   |ret u =>
    obtain⟨v,H',os,bare,un,hok',r',q⟩:=h;have q':v=.bl true:=q;subst q';obtain rfl:u=Value.bool true:=r';refine⟨rfl,⟨λb o e=>?_,λb o e=>?_⟩,os,bare⟩
    ·cases q:H b with
     |none=>exact .inl (un.keep b o e q (by intro z;exact absurd (show b∈([]:List Addr)from z) (by simp)) (by simp))
     |some u =>
      rcases hA b u q with⟨e',_,ob,xs,z⟩|hm
      ·subst z;have z2:=un.frzs b ob _ q;obtain⟨e1,_⟩:=hok b _ q;obtain⟨e2,_⟩:=hok' b _ z2;rw[e]at e1;cases e1;exact .inl e2
      ·obtain⟨⟨c,C⟩,e1⟩:=hT b hm;obtain⟨more,e2⟩:=un.tbls b _ (hTt b hm);have e3:s'.heap.get? b=some (tabObj (#[]++more)):=hok' b _ e2;rw[e]at e1;cases e1;exact .inr (.inl ⟨(C.tab e).isCodeTable,rfl,#[],more,rfl,e3⟩)
    ·exact un.there b o e (by simp)
 cases hk:K.lookup a with
 |some o =>
  have e:=KX a o hk;rw[ha]at e;cases e;refine core (λb=>if b∈tabs then some (.tbl #[])else none) (.inr ⟨_,vs.toArray,_,hk,rfl,rfl,rfl,by rw[size_toArray,lenV];exact hl,by simpa using rv⟩) (λb u z=>?_) (λt h=>if_pos h) λb o z=>?_
  ·by_cases hb:b∈tabs
   ·have z':=(if_pos hb).symm.trans z;cases z';exact(hT b hb).2
   ·have z':=(if_neg hb).symm.trans z;cases z'
  ·by_cases hb:b∈tabs
   ·exact .inr hb
   ·have z':=(if_neg hb).symm.trans z;cases z'
 |none =>
  refine core (λb=>if b=a then some (.frz {cls:=.type "list",data:=.seq vs.toArray} (.lst (ns.map V.int)))else if b∈tabs then some (.tbl #[])else none) (.inl (.inr ⟨{cls:=.type "list",data:=.seq vs.toArray},if_pos rfl⟩)) (λb u z=>?_) (λt h=>?_) λb o z=>?_
  ·by_cases hb:b=a
   ·have z':=(if_pos hb).symm.trans z;cases z';subst hb;exact⟨ha,by rw[length_map];exact hl,vs,_,rv,ha⟩
   ·have z1:=(if_neg hb).symm.trans z
    by_cases hm:b∈tabs
    ·have z':=(if_pos hm).symm.trans z1;cases z';exact(hT b hm).2
    ·have z':=(if_neg hm).symm.trans z1;cases z'
  ·have:t≠a:=λz=>naT (by rw[←z];exact h);rw[if_neg this,if_pos h]
  ·by_cases hb:b=a
   ·have z':=(if_pos hb).symm.trans z;exact .inl ⟨hb,hk,_,_,(Option.some.inj z').symm⟩
   ·have z1:=(if_neg hb).symm.trans z
    by_cases hm:b∈tabs
    ·exact .inr hm
    ·have z':=(if_neg hm).symm.trans z1;cases z'
theorem tX{l:PySem.W.OpenLaw}{n k:Nat}{q:Program}{loose:List Str}{XP:(Str→Option Value)→Heap→Prop}{YP:World→Heap→Prop}{d:DefRec}{K:Params→PySem.W.Frag}{sp:World→Sp}{x:Str}{tabs:List Addr}(hn:l.most=some n)(hn2:n≤sizeLine)(hdf:d.params.defaults=[])(hr:Room k callerA)(hY:∀(w:World) (h:Heap),YP w h→(K w.params).In h)(hT:∀(w:World) (h:Heap),YP w h→∀t∈tabs,h.get? t=some (tabObj #[]))(hC:∀w:World,∀t∈tabs,(∃c,codeHdIn (K w.params) c t=true)∧(K w.params).lookup t=none)(F:∀(w:World) (mg:Str→Option Value) (fa:Addr) (h:Heap),(K w.params).In h→h.Ns mainGlobals mg→mg d.name=some (.ref fa) →
   ∃fd:FuncData,(∀(s:Shared) (u:Value),BindsTo s fd ⟨[u],[]⟩ [(x,u)]) ∧
    ∀base:Heap,(K w.params).In base→base.Ns mainGlobals mg→BmB base mg→FnOk l.prog w (K w.params) mg base CX0 k fa fd [x] (sp w))(hsp:∀(w:World) (H:Hp) (a:Addr) (ns:List Int),ns.length≤n→SqL (K w.params) H a (ns.map V.int)→(∀t∈tabs,H t=some (.tbl #[]))→sp w [.ref a] H (λv _=>v=.bl true) λ_ _ _=>False):
  PySem.W.WalkO q loose XP YP l.row.toRowW d [] (λf vs=>PySem.call f vs):=by
 refine Att.lX hn hdf λw s₀ s₁ mg mb fa o pm cd doc a vs ns G Y ho hd hcd hmg hobj hints hlen hg=>?_;have KX:=hY w _ Y;obtain⟨fd,hb,hF⟩:=F w mg fa _ KX G.T.g hmg;exact rn KX G.T.g G.T.b G.T.builtins G.T.nolimit hg (λt h=>⟨let⟨c,e⟩:=(hC w t h).1;⟨c,codeHd_of_K KX e⟩,hT w _ Y t h⟩) (λt h=>(hC w t h).2) G.T.bmain hobj hints (le_trans hlen hn2) hr hF hb λH hS hTt=>hsp w H a ns hlen hS hTt
theorem Fun.okT{P:Program}{w:World}{K:PySem.W.Frag}{mg:Str→Option Value}{base:Heap}{x qual:Str}{st:Stmt}{f c0:Addr}{fd:FuncData}{N ps:List Str}{k:Nat}{sp:Sp}(F:Fun K x qual st f fd)(hc:fd.code=.ref c0)(S:FnScope N ps (aj st))(len:∀vs H Q E,sp vs H Q E→vs.length=ps.length)(hbody:∀(A:Around) (outer:List Env) (s:Shared) (H:Hp) (vs:List V) (Q:VK) (E:XK),Room k (A.deeper (envOfC qual (aj st) s.heap.objs.size f (.ref c0)))→sp vs H Q E →
   ∃t,PSs (iE CX0 P w K mg base N qual (aj st) f (.ref c0) A outer s H E).nox (bo st) t∧t {nx:=λ_ H'=>Q .non H',rt:=Q} (start N vs) H):FnOk P w K mg base CX0 (k+1) f fd ps sp:=by
 obtain⟨oc,od,kV,doc,pm,an,cdv,ct,osl,rfl,lk,hcd⟩:=F.ex;obtain rfl:cdv=.ref c0:=hc;refine rW lk hcd S len λA outer s H vs Q E hr hsp=>?_;obtain⟨t,h,q⟩:=hbody A outer s H vs Q E hr hsp;exact⟨t,h.nox,q⟩
theorem BmB.sub{base base':Heap}{mg:Str→Option Value}(h:BmB base mg)(s:∀b o,base.get? b=some o→base'.get? b=some o):BmB base' mg:=let⟨bm,o,b1,b2,b3,r⟩:=h;⟨bm,o,b1,b2,s _ _ b3,r⟩
end L2
namespace TK
open PySem L2
section
variable{P:Program}{w:World}{K:PySem.W.Frag}{mg:Str→Option Value}{base:Heap}
def oU(K:PySem.W.Frag):Sp:=λvs H Q _=>∃a k,vs=[.ref a,.int k]∧0≤k∧fo K H a∧∀r H',Same H H'→Q (.int r) H'
theorem yc:FnScope ["_law_script","_law_k"] ["_law_script","_law_k"] (aj tG):=fsc
theorem vW{f:Addr}{fd:FuncData}(F:Fun K "_law_cell" "_law_cell" tG f fd)(T:Txt mg):FnOk P w K mg base CX0 1 f fd ["_law_script","_law_k"] (oU K):=by
 refine F.ok yc (λvs H Q E h=>?_) (λcdv A outer s H vs Q E hr h=>?_)
 ·obtain⟨a,k,rfl,_⟩:=h;rfl
 ·obtain⟨a,k,rfl,hk,⟨ns,ea⟩,q⟩:=h;refine⟨_,ag (bw (aL yZ (pv 1) (aC cX rfl T.len boot_len (aa (pv 0) ae)) (aS _)) (am (ay (aF cW (pv 0) (pv 1) (λ_ _=>rfl)))) aJ)
   (ag (bw (aL (oG hr.units0) (pv 0) (aY ae) (aS _)) (am (ay ak)) aJ)
   (am (ay (bd iQ (bd iR (aF cW (pv 0) (bd eK (pv 1) (aC cX rfl T.len boot_len (aa (pv 0) ae))) (λ_ _=>rfl)) ak) (pv 1))))),?_⟩
  refine⟨_,rfl,_,rfl,a,_,rfl,.inl (ea),_,_,rfl,rfl,_,rfl,?_⟩;rw[length_map]
  by_cases h:k<(ns.length:Int)
  ·rw[decide_eq_true h];obtain⟨j,ej⟩:=mO hk h;exact bX ⟨_,rfl,_,rfl,a,_,_,_,rfl,rfl,ea,ej,q _ _ (Same.refl _)⟩
  ·rw[decide_eq_false h];refine bv ⟨_,rfl,zero_le _,λp hp=>⟨a,p,_,rfl,rfl,((af hp).seq ea),SqL.of ac,_,rfl,?_⟩⟩
   by_cases h0:ns=[]
   ·subst h0;exact bX (q _ _ (af hp))
   ·have hne:¬ns.map V.int=[]:=by simpa using h0
    rw[decide_eq_false hne];have hpos:0<ns.length:=List.length_pos_iff.mpr h0;have hm1:0≤k % (ns.length:Int):=emod_nonneg _ (by omega);have hm2:k % (ns.length:Int)<ns.length:=Int.emod_lt_of_pos _ (by omega);obtain⟨j,ej⟩:=mO hm1 hm2;have ej':atI (ns.map V.int) (k % ((ns.map V.int).length:Int))=some (.int j):=by rw[length_map];exact ej
    exact bv ⟨_,rfl,_,rfl,_,rfl,a,_,rfl,.inl (((af hp).seq ea)),_,_,rfl,rfl,by rw[length_map];omega,a,_,_,_,rfl,rfl,((af hp).seq ea),ej',_,_,rfl,rfl,.inr ⟨by decide,by decide⟩,_,rfl,_,_,rfl,rfl,q _ _ (af hp)⟩
def gh(K:PySem.W.Frag):Sp:=λvs H Q _=>∃a k m,vs=[.ref a,.int k,.int m]∧0≤k∧0<m∧fo K H a∧∀r H',0≤r→r<m→Same H H'→Q (.int r) H'
theorem tY:FnScope ["_law_script","_law_k","_law_many","_law_drawn"] ["_law_script","_law_k","_law_many"] (aj tH):=fsc
theorem vX{f:Addr}{fd:FuncData}(F:Fun K "_law_pick" "_law_pick" tH f fd)(T:Txt mg)(C:Has P w K mg base 1 "_law_cell" ["_law_script","_law_k"] (oU K)):FnOk P w K mg base CX0 2 f fd ["_law_script","_law_k","_law_many"] (gh K):=by
 obtain⟨fC,fdC,GC,mC,kC,bC⟩:=C;refine F.ok tY (λvs H Q E h=>?_) (λcdv A outer s H vs Q E hr h=>?_)
 ·obtain⟨a,k,m,rfl,_⟩:=h;rfl
 ·obtain⟨a,k,m,rfl,hk,hm,hS,q⟩:=h;refine⟨_,(ag (aM (i:=3) tY.nd rfl (Or.inl rfl) (bd eK (bd iR (bd iQ (ar GC hr rfl mC kC bC .nil aU (aa (pv 0) (aa (pv 1) ae))) (bd iR ak (bd iQ (pv 1) ak))) ak) ak))
   (am (ay (bd eK (bd eK (bd iQ (bd iR (pv 3) (pv 3)) (bd uR (pv 3) ak)) ak) (pv 2))))),?_⟩
  refine⟨_,rfl,_,rfl,a,k,rfl,hk,hS,λr H1 s1=>?_⟩;refine⟨_,rfl,_,_,rfl,rfl,_,_,rfl,rfl,.inl ⟨by decide,by decide⟩,_,_,rfl,rfl,_,_,rfl,rfl,.inr ⟨by decide,by decide⟩,_,_,rfl,rfl,(by decide:(0:Int)<2147483399),?_⟩;generalize hd:(r+6151*(k+1))*40692 % 2147483399=dr;have d0:0≤dr:=by rw[←hd];exact emod_nonneg _ (by decide)
  have d1:dr<2147483399:=by rw[←hd];exact Int.emod_lt_of_pos _ (by decide)
  refine⟨_,rfl,_,rfl,_,_,rfl,rfl,.inl ⟨by omega,by omega⟩,_,rfl,_,_,rfl,rfl,⟨by decide,by decide⟩,_,_,rfl,rfl,_,_,rfl,rfl,(by decide:(0:Int)<2147483629),_,rfl,_,_,rfl,rfl,hm,?_⟩;exact q _ _ (emod_nonneg _ (by omega)) (Int.emod_lt_of_pos _ hm) s1
end
def N12(i:Nat):Str:=(["Inside","Known","NoBack","NoMark","NoMatch","NoNode","NoReader","NotFile","NotFolder","NoTag","NoText","Taken"]:List Str).getD i ""
def W12:List Str:=["inside","known","no back","no mark","no match","no node","no reader","not file","not folder","no tag","no text","taken"]
structure Clss12(mg:Str→Option Value)(K:PySem.W.Frag)(B:Nat→Addr)(D:Addr):Prop where
 m:∀i,i<12→mg (N12 i)=some (.ref (B i))
 tre:mg "TreeError"=some (.ref D)
 base:PySem.W.ktsIn K D "BaseException"=true
structure One12(K:PySem.W.Frag)(B:Nat→Addr)(D:Addr)(i:Nat):Prop where
 lt:i<12
 xc:XI.dJ K (B i)=true
 is:∀j,j<12→kitOne K (.ref (B i)) (.ref (B j))=some (decide (i=j))
 val:kitOne K (.ref (B i)) (.type "ValueError")=some true
 sub:subIn K (.ref (B i)) (.ref D)=some true
def ro(i:Nat):List Bool:=[decide (i=0),decide (i=1),decide (i=2),decide (i=3),decide (i=4),decide (i=5),decide (i=6),decide (i=7),decide (i=8),decide (i=9),decide (i=10),decide (i=11)]
theorem tZ{i:Nat}(h:i<12):(ro i).count true=1∧(ro i)[i]?=some true∧∀m,m<i→(ro i)[m]?=some false:=by
 have:i=0∨i=1∨i=2∨i=3∨i=4∨i=5∨i=6∨i=7∨i=8∨i=9∨i=10∨i=11:=by omega
 rcases this with rfl|rfl|rfl|rfl|rfl|rfl|rfl|rfl|rfl|rfl|rfl|rfl<;>refine⟨by decide,by decide,?_⟩<;>decide
abbrev Z40(i:Nat):List V:=[.bl (decide (i=0)),.bl (decide (i=1)),.bl (decide (i=2)),.bl (decide (i=3))]
abbrev Z34(i:Nat):List V:=[.bl (decide (i=4)),.bl (decide (i=5)),.bl (decide (i=6))]
abbrev Z37(i:Nat):List V:=[.bl (decide (i=7)),.bl (decide (i=8)),.bl (decide (i=9))]
abbrev oV(i:Nat):List V:=[.bl (decide (i=10)),.bl (decide (i=11))]
abbrev Z70(i:Nat):List V:=[.bl (decide (i=0)),.bl (decide (i=1)),.bl (decide (i=2)),.bl (decide (i=3)),.bl (decide (i=4)),.bl (decide (i=5)),.bl (decide (i=6))]
abbrev ua(i:Nat):List V:=[.bl (decide (i=0)),.bl (decide (i=1)),.bl (decide (i=2)),.bl (decide (i=3)),.bl (decide (i=4)),.bl (decide (i=5)),.bl (decide (i=6)),.bl (decide (i=7)),.bl (decide (i=8)),.bl (decide (i=9))]
abbrev Au(i:Nat):List V:=[.bl (decide (i=0)),.bl (decide (i=1)),.bl (decide (i=2)),.bl (decide (i=3)),.bl (decide (i=4)),.bl (decide (i=5)),.bl (decide (i=6)),.bl (decide (i=7)),.bl (decide (i=8)),.bl (decide (i=9)),.bl (decide (i=10)),.bl (decide (i=11))]
abbrev Y9:List V:=[.str "inside",.str "known",.str "no back",.str "no mark",.str "no match",.str "no node",.str "no reader",.str "not file",.str "not folder"]
abbrev Y3:List V:=[.str "no tag",.str "no text",.str "taken"]
section
variable{P:Program}{w:World}{K:PySem.W.Frag}{mg:Str→Option Value}{base:Heap}
theorem _root_.L2.Fun.okM{x qual:Str}{st:Stmt}{f:Addr}{fd:FuncData}{N ps:List Str}{k:Nat}{sp:Sp}(F:Fun K x qual st f fd)(S:FnScope N ps (aj st))(len:∀vs H Q E,sp vs H Q E→vs.length=ps.length)(hbody:∀(cdv:Value) (A:Around) (outer:List Env) (s:Shared) (H:Hp) (vs:List V) (Q:VK) (E:XK),RoomM k (A.deeper (PyProof.Rows.envOfC qual (aj st) s.heap.objs.size f cdv))→sp vs H Q E →
   ∃t,PSs (kx CX0 P w K mg base N qual (aj st) f cdv A outer s H E) (bo st) t∧t {nx:=λ_ H'=>Q .non H',rt:=Q} (start N vs) H):FnOkM P w K mg base CX0 (k+1) f fd ps sp:=by
 obtain⟨oc,od,kV,doc,pm,an,cdv,ct,osl,rfl,lk,hcd⟩:=F.ex;exact xZ lk hcd S len λA outer s H vs Q E hr hsp=>hbody cdv A outer s H vs Q E hr hsp
def wW(B:Nat→Addr)(D:Addr)(K:PySem.W.Frag):Sp:=λvs H Q _=>∃ea i x,vs=[.ref ea]∧One12 K B D i∧H ea=some (.ext (XI.mw ea (B i)))∧W12[i]?=some x∧∀H',Same H H'→Q (.str x) H'
theorem kG:FnScope ["_law_kept","_law_kinds","_law_some"] ["_law_kept"] (aj dv):=fsc
theorem cG{f D:Addr}{B:Nat→Addr}{fd:FuncData}(F:Fun K "_law_class" "_law_class" dv f fd)(T:Txt mg)(L:Clss12 mg K B D):FnOkM P w K mg base CX0 1 f fd ["_law_kept"] (wW B D K):=by
 have m0:mg "Inside"=some (.ref (B 0)):=L.m 0 (by decide);have m1:mg "Known"=some (.ref (B 1)):=L.m 1 (by decide);have m2:mg "NoBack"=some (.ref (B 2)):=L.m 2 (by decide);have m3:mg "NoMark"=some (.ref (B 3)):=L.m 3 (by decide);have m4:mg "NoMatch"=some (.ref (B 4)):=L.m 4 (by decide);have m5:mg "NoNode"=some (.ref (B 5)):=L.m 5 (by decide);have m6:mg "NoReader"=some (.ref (B 6)):=L.m 6 (by decide);have m7:mg "NotFile"=some (.ref (B 7)):=L.m 7 (by decide);have m8:mg "NotFolder"=some (.ref (B 8)):=L.m 8 (by decide);have m9:mg "NoTag"=some (.ref (B 9)):=L.m 9 (by decide);have m10:mg "NoText"=some (.ref (B 10)):=L.m 10 (by decide);have m11:mg "Taken"=some (.ref (B 11)):=L.m 11 (by decide);refine F.okM kG (λvs H Q E h=>?_) (λcdv A outer s H vs Q E hr h=>?_)
 ·obtain⟨ea,i,x,rfl,_⟩:=h;rfl
 ·obtain⟨ea,i,x,rfl,O,hea,hx,q⟩:=h;refine⟨_,ag (aM (i:=1) kG.nd rfl (Or.inl rfl) (aY (aa (aC aP rfl T.isin boot_isinstance (aa (pv 0) (aa (bg (v:=.ref (B 0)) rfl m0 rfl) ae))) (aa (aC aP rfl T.isin boot_isinstance (aa (pv 0) (aa (bg (v:=.ref (B 1)) rfl m1 rfl) ae))) (aa (aC aP rfl T.isin boot_isinstance (aa (pv 0) (aa (bg (v:=.ref (B 2)) rfl m2 rfl) ae))) (aa (aC aP rfl T.isin boot_isinstance (aa (pv 0) (aa (bg (v:=.ref (B 3)) rfl m3 rfl) ae))) ae)))))) (ag (aM (i:=1) kG.nd rfl (Or.inl rfl) (bd fH (pv 1) (aY (aa (aC aP rfl T.isin boot_isinstance (aa (pv 0) (aa (bg (v:=.ref (B 4)) rfl m4 rfl) ae))) (aa (aC aP rfl T.isin boot_isinstance (aa (pv 0) (aa (bg (v:=.ref (B 5)) rfl m5 rfl) ae))) (aa (aC aP rfl T.isin boot_isinstance (aa (pv 0) (aa (bg (v:=.ref (B 6)) rfl m6 rfl) ae))) ae)))))) (ag (aM (i:=1) kG.nd rfl (Or.inl rfl) (bd fH (pv 1) (aY (aa (aC aP rfl T.isin boot_isinstance (aa (pv 0) (aa (bg (v:=.ref (B 7)) rfl m7 rfl) ae))) (aa (aC aP rfl T.isin boot_isinstance (aa (pv 0) (aa (bg (v:=.ref (B 8)) rfl m8 rfl) ae))) (aa (aC aP rfl T.isin boot_isinstance (aa (pv 0) (aa (bg (v:=.ref (B 9)) rfl m9 rfl) ae))) ae)))))) (ag (aM (i:=1) kG.nd rfl (Or.inl rfl) (bd fH (pv 1) (aY (aa (aC aP rfl T.isin boot_isinstance (aa (pv 0) (aa (bg (v:=.ref (B 10)) rfl m10 rfl) ae))) (aa (aC aP rfl T.isin boot_isinstance (aa (pv 0) (aa (bg (v:=.ref (B 11)) rfl m11 rfl) ae))) ae))))) (ag (bw (PW.pt (pw_or (aL iS (cp plainAttrs_list PySem.F.slot_list_count PySem.F.type_list_count sR (pv 1) (aa ir ae)) ak (aS _)) (pw_or1 (dW (fz (aC aP rfl T.isin boot_isinstance (aa (pv 0) (aa (kS (v:=.ty "ValueError") rfl T.ValueError PyProof.Rows.Boot.«ValueError» rfl) ae))) (λ_=>rfl)))))) (am (ay au)) aJ) (ag (aM (i:=2) kG.nd rfl (Or.inl rfl) (aY (aa au (aa au (aa au (aa au (aa au (aa au (aa au (aa au (aa au ae))))))))))) (am (ay (aF cW (bd fH (pv 2) (aY (aa au (aa au (aa au ae))))) (cp plainAttrs_list PySem.F.slot_list_index PySem.F.type_list_index sS (pv 1) (aa ir ae)) (λ_ _=>rfl))))))))),?_⟩;have e:∀j,j<12→kitOne K (.ref (B i)) (.ref (B j))=some (decide (i=j)):=O.is;refine⟨_,rfl,ea,B i,_,_,rfl,hea,O.xc,.inr ⟨_,rfl,e 0 (by decide)⟩,_,rfl,ea,B i,_,_,rfl,hea,O.xc,.inr ⟨_,rfl,e 1 (by decide)⟩,_,rfl,ea,B i,_,_,rfl,hea,O.xc,.inr ⟨_,rfl,e 2 (by decide)⟩,_,rfl,ea,B i,_,_,rfl,hea,O.xc,.inr ⟨_,rfl,e 3 (by decide)⟩,ap (show 4≤1000 by decide),λl0 hl0=>?_⟩;have s0:=af (o:=.lst (Z40 i)) hl0;have g0:upd H l0 (.lst (Z40 i)) l0=some (.lst (Z40 i)):=ac;generalize upd H l0 (.lst (Z40 i))=G0 at s0 g0⊢;refine⟨_,rfl,_,rfl,ea,B i,_,_,rfl,s0 _ _ hea,O.xc,.inr ⟨_,rfl,e 4 (by decide)⟩,_,rfl,ea,B i,_,_,rfl,s0 _ _ hea,O.xc,.inr ⟨_,rfl,e 5 (by decide)⟩,_,rfl,ea,B i,_,_,rfl,s0 _ _ hea,O.xc,.inr ⟨_,rfl,e 6 (by decide)⟩,ap (show 3≤1000 by decide),λk1 hk1=>?_⟩;have u1:=s0.trans (af (o:=.lst (Z34 i)) hk1);refine⟨l0,k1,(Z40 i),(Z34 i),rfl,rfl,bh hk1 g0,ac,ap (show 7≤1000 by decide),λl1 hl1=>?_⟩;have s1:=u1.trans (af (o:=.lst ((Z40 i)++(Z34 i))) hl1);have g1:upd (upd G0 k1 (.lst (Z34 i))) l1 (.lst ((Z40 i)++(Z34 i))) l1=some (.lst (Z70 i)):=ac;generalize upd (upd G0 k1 (.lst (Z34 i))) l1 (.lst ((Z40 i)++(Z34 i)))=G1 at s1 g1⊢;refine⟨_,rfl,_,rfl,ea,B i,_,_,rfl,s1 _ _ hea,O.xc,.inr ⟨_,rfl,e 7 (by decide)⟩,_,rfl,ea,B i,_,_,rfl,s1 _ _ hea,O.xc,.inr ⟨_,rfl,e 8 (by decide)⟩,_,rfl,ea,B i,_,_,rfl,s1 _ _ hea,O.xc,.inr ⟨_,rfl,e 9 (by decide)⟩,ap (show 3≤1000 by decide),λk2 hk2=>?_⟩;have u2:=s1.trans (af (o:=.lst (Z37 i)) hk2);refine⟨l1,k2,(Z70 i),(Z37 i),rfl,rfl,bh hk2 g1,ac,ap (show 10≤1000 by decide),λl2 hl2=>?_⟩;have s2:=u2.trans (af (o:=.lst ((Z70 i)++(Z37 i))) hl2);have g2:upd (upd G1 k2 (.lst (Z37 i))) l2 (.lst ((Z70 i)++(Z37 i))) l2=some (.lst (ua i)):=ac;generalize upd (upd G1 k2 (.lst (Z37 i))) l2 (.lst ((Z70 i)++(Z37 i)))=G2 at s2 g2⊢;refine⟨_,rfl,_,rfl,ea,B i,_,_,rfl,s2 _ _ hea,O.xc,.inr ⟨_,rfl,e 10 (by decide)⟩,_,rfl,ea,B i,_,_,rfl,s2 _ _ hea,O.xc,.inr ⟨_,rfl,e 11 (by decide)⟩,ap (show 2≤1000 by decide),λk3 hk3=>?_⟩;have u3:=s2.trans (af (o:=.lst (oV i)) hk3);refine⟨l2,k3,(ua i),(oV i),rfl,rfl,bh hk3 g2,ac,ap (show 12≤1000 by decide),λl3 hl3=>?_⟩;have s3:=u3.trans (af (o:=.lst ((ua i)++(oV i))) hl3);have g3:upd (upd G2 k3 (.lst (oV i))) l3 (.lst ((ua i)++(oV i))) l3=some (.lst (Au i)):=ac;generalize upd (upd G2 k3 (.lst (oV i))) l3 (.lst ((ua i)++(oV i)))=G3 at s3 g3⊢;obtain⟨b1,b2,b3⟩:=tZ O.lt;have g6:G3 l3=some (.lst ((ro i).map V.bl)):=g3;refine⟨_,rfl,.inl ⟨rfl,_,SqL.of g6⟩,l3,ro i,rfl,rfl,g6,rfl,_,rfl,?_⟩;rw[b1];refine bv ⟨_,rfl,ea,B i,_,_,rfl,s3 _ _ hea,O.xc,.inl ⟨_,rfl,O.val⟩,_,rfl,bv ?_⟩;refine⟨ap (show 9≤1000 by decide),λk4 hk4=>?_⟩;have s4:=s3.trans (af (o:=.lst Y9) hk4);have g7:=bh (o:=.lst Y9) hk4 g6;have g8:upd G3 k4 (.lst Y9) k4=some (.lst Y9):=ac;generalize upd G3 k4 (.lst Y9)=G4 at s4 g7 g8⊢;refine⟨_,rfl,ap (show 3≤1000 by decide),λk5 hk5=>?_⟩;have s5:=s4.trans (af (o:=.lst Y3) hk5);refine⟨k4,k5,Y9,Y3,rfl,rfl,bh hk5 g8,ac,ap (show 12≤1000 by decide),λk6 hk6=>?_⟩;have s6:=s5.trans (af (o:=.lst (Y9++Y3)) hk6);have g9:upd (upd G4 k5 (.lst Y3)) k6 (.lst (Y9++Y3)) k6=some (.lst (W12.map V.str)):=ac;have g10:=bh (o:=.lst (Y9++Y3)) hk6 (bh (o:=.lst Y3) hk5 g7);generalize upd (upd G4 k5 (.lst Y3)) k6 (.lst (Y9++Y3))=G5 at s6 g9 g10⊢;refine⟨_,rfl,.inl ⟨rfl,_,SqL.of g10⟩,l3,i,ro i,rfl,rfl,g10,(show 12≤1000 by decide),b2,b3,k6,_,_,_,rfl,rfl,SqL.of g9,cV (v:=.str x) ?_,q _ s6⟩;rw[getElem?_map,hx];rfl
def ce(f:Addr)(spL:Sp)(B:Nat→Addr)(D:Addr)(K:PySem.W.Frag):Sp:=λvs H Q _=>vs=[.ref f]∧spL [] H Q (λcl _ H1=>∃i x,cl=.ref (B i)∧One12 K B D i∧W12[i]?=some x∧∀H2,Same H1 H2→Q (.str x) H2)
theorem uc:FnScope ["_law_deed","e"] ["_law_deed"] (aj eE):=fsc
theorem cb{g f fC D:Addr}{B:Nat→Addr}{fdg fdL fdC:FuncData}{oc:Value}{od:Option Addr}{osl:Array (Option Value)}{spL:Sp}{k:Nat}(F:Fun K "_law_told" "_law_told" eE g fdg)(L:Clss12 mg K B D)(ho:base.get? f=some ⟨oc,od,.func fdL,osl⟩)(FL:FnOk P w K mg base (CX1 P w) (k+1) f fdL [] spL)(hb:aq K fdL [] [])(GC:FnOkM P w K mg base CX0 1 fC fdC ["_law_kept"] (wW B D K))(mC:mg "_law_class"=some (.ref fC))(kC:keepIn K (.ref fC)=true)(bC:aq K fdC ["_law_kept"] [])(mono:∀(H:Hp) (Q:VK) (E E':XK),(∀c v H',E c v H'→E' c v H')→spL [] H Q E→spL [] H Q E'):FnOk P w K mg base CX0 (k+2) g fdg ["_law_deed"] (ce f spL B D K):=by
 refine F.ok uc (λvs H Q E h=>?_) (λcdv A outer s H vs Q E hr h=>?_)
 ·obtain⟨rfl,_⟩:=h;rfl
 ·obtain⟨rfl,h⟩:=h;refine⟨_,am (vT ⟨λ_ _ h=>h,rfl,rfl⟩ (l:=1) (n:="e") (T:=D) uc.nd rfl rfl (λpl xe E hx _=>am (ay (rl (pv 0) ho FL hr hb hx))) (λpl v=>am (ay (tS GC (RoomM.mono ⟨hr.dp,hr.un⟩ (by omega)) rfl mC kC bC .nil aU (aa (pv 1) ae)))) rfl L.tre L.base),?_⟩;refine⟨_,rfl,rfl,mono _ _ _ _ (λc v H1 h1=>?_) h⟩;obtain⟨i,x,rfl,O,hx,hq⟩:=h1;refine⟨B i,rfl,O.sub,λea σ' hσ hea=>?_⟩;obtain⟨y0,y1,rfl⟩:=xP hσ;exact⟨_,rfl,ea,i,x,rfl,O,ac,hx,λH2 s2=>hq H2 ((af hea).trans s2)⟩
def qd:Sp:=λvs H Q _=>∃t f zs,vs=[.ref t,.int f]∧H t=some (.tup (be zs))∧At H zs∧zs.length≤100∧∀fd dn l H',TW.Walk (nds zs) f dn fd []→H' l=some (.lst (dN fd))→Same H H'→Q (.ref l) H'
theorem jx:FnScope ["nodes","folder","members","node","found","pending","here"] ["nodes","folder"] (aj xQ):=fsc
theorem yd{f:Addr}{fd:FuncData}(F:Fun K "numbers_inside" "numbers_inside" xQ f fd)(T:Txt mg):FnOk P w K mg base CX0 1 f fd ["nodes","folder"] qd:=by
 refine F.ok jx (λvs H Q E h=>?_) (λcdv A outer s H vs Q E hr h=>?_)
 ·obtain⟨t,f,zs,rfl,_⟩:=h;rfl
 ·obtain⟨t,f,zs,rfl,ht,hA,hl,k⟩:=h;refine⟨_,ag (aM (i:=2) jx.nd rfl (Or.inl rfl) lV)
   (ag (kY PassesOwn.never rfl (hO (pv 0)) (ci (i:=3) jx.nd rfl (Or.inl rfl)) (am (aB (cp plainAttrs_list PySem.F.slot_list_append PySem.F.type_list_append aH
     (cp plainAttrs_dict PySem.F.slot_dict_setdefault PySem.F.type_dict_setdefault jM (pv 2) (aa (aF aD (pv 3) ak (λ_ _=>rfl)) (aa (aY ae) ae))) (aa (pv 3) ae)))))
   (ag (aM (i:=4) jx.nd rfl (Or.inl rfl) (aY ae))
   (ag (aM (i:=5) jx.nd rfl (Or.inl rfl) (aY (aa (pv 1) ae)))
   (ag (rK PassesOwn.never (lN (pv 5) (λ_=>rfl))
    (ag (aM (i:=6) jx.nd rfl (Or.inl rfl) (so (pv 2) (sg plainAttrs_list slot_list_pop type_list_pop si (pv 5)) (aY ae) ⟨rfl,rfl,rfl,rfl⟩))
    (am (kY PassesOwn.never rfl (iH (pv 6)) (ci (i:=3) jx.nd rfl (Or.inl rfl))
     (ag (aB (cp plainAttrs_list PySem.F.slot_list_append PySem.F.type_list_append aH (pv 4) (aa (aF aD (pv 3) ak (λ_ _=>rfl)) ae)))
     (am (bw (aL rQ (aF aD (pv 3) ak (λ_ _=>rfl)) dU (aS _)) (am (aB (cp plainAttrs_list PySem.F.slot_list_append PySem.F.type_list_append aH (pv 5) (aa (aF aD (pv 3) ak (λ_ _=>rfl)) ae)))) aJ)))))))
   (am (ay (pv 4))))))),?_⟩
  refine λd hd=>?_;have z100:∀{n:Nat},n≤100→n<sizeLine:=λh=>ao (by omega);refine⟨_,rfl,t,rfl,⟨_,SqT.of (bh hd ht)⟩,pz (xs:=be zs) (λi σ H'=>∃L kvs on,σ=[some (.ref t),some (.int f),some (.ref d),on,none,none,none]∧Mem H H' d L kvs (zs.take i) [])
   ⟨_,_,_,rfl,Mem.start hd⟩ (λi σ H' _ h=>?_) (λi x σ H' hx h=>?_) (λσ H' h=>?_)⟩
  ·obtain⟨_,_,_,_,m⟩:=h;exact SqT.of (m.same _ _ ht)
  ·obtain⟨L,kvs,on,rfl,m⟩:=h;obtain⟨z,gz,rfl⟩:=dm hx;have mz:=mem_of_getElem? gz;have ez:zs.take (i+1)=zs.take i++[z]:=by rw[take_succ,gz];rfl
   have hkl:kvs.length≤100:=by have:=m.len;rw[length_take]at this;omega
   refine⟨_,rfl,.inr (.inr (.inl ⟨rfl,.inl ⟨_,m.dict⟩⟩)),_,rfl,z.1,_,_,_,rfl,rfl,SqT.of (m.same _ _ (hA z mz)),at1 z.2,zero_le _,λq hq=>?_⟩;have m':=m.grow (af (o:=.lst []) hq);refine⟨d,kvs,.inl z.2.par,.ref q,rfl,rfl,m'.dict,z100 hkl,λv hv=>?_,λhn=>?_⟩
   ·rw[m.val]at hv
    by_cases h:z.2.par∈([]:List Int)∨ins (zs.take i) z.2.par=[]
    ·rw[if_pos h]at hv;cases hv
    ·rw[if_neg h]at hv;cases hv;have h2:ins (zs.take i) z.2.par≠[]:=λz=>h (.inr z);have a:=(m'.at' z.2.par (by simp) h2).1;refine⟨.inl ⟨rfl,_,SqL.of a⟩,_,rfl,_,_,_,rfl,rfl,a,?_,?_⟩
     ·refine z100 ?_;rw[cx];exact le_trans (Sublist.length_le (Sublist.trans filter_sublist (take_sublist _ _))) hl
     ·refine⟨L,kvs,_,rfl,?_⟩;rw[ez];exact m'.hit h2
   ·rw[m.val]at hn
    by_cases h:z.2.par∈([]:List Int)∨ins (zs.take i) z.2.par=[]
    ·have h2:ins (zs.take i) z.2.par=[]:=h.resolve_left (by simp);have hqd:q≠d:=λe=>by rw[e,m.dict]at hq;cases hq
     have a:upd (upd H' q (.lst [])) d (.dK (cP kvs (Sum.inl z.2.par:Key) (.ref q))) q=some (.lst []):=by rw[ai hqd];exact ac
     refine⟨.inl ⟨rfl,_,SqL.of a⟩,_,rfl,q,[],_,rfl,rfl,a,z100 (zero_le _),?_⟩;have fr:=m.fresh (z:=z) h2 hq;rw[←ez]at fr;exact⟨_,_,_,rfl,fr⟩
    ·rw[if_neg h]at hn;cases hn
  ·obtain⟨L,kvs,on,rfl,m⟩:=h;rw[cx,take_length]at m;refine⟨zero_le _,λpf hpf=>⟨_,rfl,ap (by simp),λpp hpp=>?_⟩⟩;have m1:=(m.grow (af (o:=.lst []) hpf)).grow (af (o:=.lst [.int f]) hpp);have hpf0:H pf=none:=m.same.free hpf;have hne:pp≠pf:=λe=>by rw[e,ac]at hpp;cases hpp
   have hpp0:H pp=none:=by rw[ai hne]at hpp;exact m.same.free hpp
   dsimp only[cm,fA];refine rN (λσ H'=>∃L kvs dn fd pd on oh,σ=[some (.ref t),some (.int f),some (.ref d),on,some (.ref pf),some (.ref pp),oh]∧pd.length≤fd.length+1∧Mem H H' d L kvs zs dn∧TW.Walk (nds zs) f dn fd pd∧H' pf=some (.lst (dN fd))∧H' pp=some (.lst (pd.map V.int)))
    (λσ H'=>2*(zs.length-kl H' pf)+kl H' pp) ⟨L,kvs,[],[],[f],_,_,rfl,le_refl _,m1,TW.Walk.start _ _,by rw[ai (symm hne),ac];rfl,ac⟩ (λσ H' h=>?_) ?_
   ·obtain⟨L,kvs,dn,fd,pd,on,oh,rfl,hpl,m,wk,ef,ep⟩:=h;refine⟨_,rfl,_,.inl ⟨_,SqL.of ep,rfl⟩,?_⟩
    by_cases hpd:pd=[]
    ·subst hpd;exact bv ⟨_,rfl,k fd dn pf H' wk ef m.same⟩
    ·obtain⟨pd',x,rfl⟩:∃pd' x,pd=pd'++[x]:=⟨pd.dropLast,pd.getLast hpd,(List.dropLast_concat_getLast hpd).symm⟩;have et:(!((pd'++[x]).map V.int).isEmpty)=true:=by simp
     rw[if_pos et];have elast:((pd'++[x]).map V.int)[((pd'++[x]).map V.int).length-1]?=some (.int x):=by simp
     have edrop:((pd'++[x]).map V.int).dropLast=pd'.map V.int:=by simp
     refine⟨_,rfl,d,rfl,.inl ⟨_,Rd.of m.dict⟩,_,rfl,.inl ⟨rfl,_,SqL.of ep⟩,pp,_,.int x,rfl,rfl,ep,elast,zero_le _,λq hq=>?_⟩;rw[edrop]at hq⊢;have m2:=(m.other (o:=.lst (pd'.map V.int)) ep hpp0).grow (af (o:=.lst []) hq);have hqp:q≠pp:=λe=>by rw[e,ac]at hq;cases hq
     have hqf:q≠pf:=λe=>by rw[e,ai (symm hne),ef]at hq;cases hq
     refine tm m2 ac λhl Hc kvs' hs m3 ehl eh hsub hkeep hnil=>?_;have df:pf≠d:=λe=>by have:=m.dict;rw[←e,ef]at this;cases this
     have dp:pp≠d:=λe=>by have:=m.dict;rw[←e,ep]at this;cases this
     have ef3:Hc pf=some (.lst (dN fd)):=by rw[hkeep pf df,ai (symm hqf),ai (symm hne)];exact ef
     have ep3:Hc pp=some (.lst (pd'.map V.int)):=by rw[hkeep pp dp,ai (symm hqp),ac]
     have hlf:hl≠pf:=by
      by_cases h:hs=[]
      ·rw[hnil h];exact hqf
      ·exact pV ef3 ehl h
     have hlp:hl≠pp:=by
      by_cases h:hs=[]
      ·rw[hnil h];exact hqp
      ·exact pV ep3 ehl h
     have wk':=wk.turn;rw[←eh]at wk';have hlen:=wk'.len;rw[length_append,bi,bi]at hlen;rw[length_append,length_singleton]at hpl;refine⟨_,rfl,hl,rfl,⟨_,SqL.of ehl⟩,rM (xs:=be hs) (λj σ H'=>∃on,σ=[some (.ref t),some (.int f),some (.ref d),on,some (.ref pf),some (.ref pp),some (.ref hl)]∧Mem H H' d L kvs' zs (x::dn)∧H' hl=some (.lst (be hs)) ∧
      H' pf=some (.lst (dN (fd++nds (hs.take j))))∧H' pp=some (.lst ((pd'++TW.bp (nds (hs.take j))).map V.int))) ⟨_,rfl,m3,ehl,by rw[ef3];simp[nds],by rw[ep3];simp[nds,TW.bp]⟩
      (λj σ H' _ h=>?_) (λj y σ H' hy h=>?_) (λσ H' h=>?_)⟩
     ·obtain⟨_,_,_,e,_⟩:=h;exact SqL.of e
     ·obtain⟨on,rfl,m4,e1,e2,e3⟩:=h;obtain⟨z,gz,rfl⟩:=dm hy;have mz:=hsub z (mem_of_getElem? gz);have ez:hs.take (j+1)=hs.take j++[z]:=by rw[take_succ,gz];rfl
      have l1:(dN (fd++nds (hs.take j))).length≤100:=by
       unfold dN;rw[length_map,length_map,length_append,bi,length_take];omega
      have l2:((pd'++TW.bp (nds (hs.take j))).map V.int).length≤1000:=by
       have:=TW.eP (nds (hs.take j));rw[bi,length_take]at this;rw[length_map,length_append];omega
      have g0:∀{Hx:Hp},Same H Hx→Hx z.1=some (.tup (vals z.2)):=λs=>s _ _ (hA z mz);have e4:dN (fd++nds (hs.take (j+1)))=dN (fd++nds (hs.take j))++[.int z.2.num]:=by rw[ez];simp[dN,nds]
      have m5:Mem H (upd H' pf (.lst (dN (fd++nds (hs.take j))++[.int z.2.num]))) d L kvs' zs (x::dn):=m4.other e2 hpf0;have e5:(upd H' pf (.lst (dN (fd++nds (hs.take j))++[.int z.2.num]))) hl=some (.lst (be hs)):=by rw[ai hlf];exact e1
      have e6:(upd H' pf (.lst (dN (fd++nds (hs.take j))++[.int z.2.num]))) pp=some (.lst ((pd'++TW.bp (nds (hs.take j))).map V.int)):=by rw[ai hne];exact e3
      refine⟨_,rfl,.inl ⟨rfl,_,SqL.of e2⟩,_,rfl,z.1,_,_,_,rfl,rfl,SqT.of (g0 m4.same),at0 z.2,pf,_,_,rfl,rfl,e2,z100 l1,?_⟩;refine⟨_,rfl,z.1,_,_,_,rfl,rfl,SqT.of (g0 m5.same),at3 z.2,rfl,_,rfl,?_⟩;cases est:z.2.st with
      |none =>
       have e7:TW.bp (nds (hs.take (j+1)))=TW.bp (nds (hs.take j))++[z.2.num]:=by rw[ez];simp[TW.bp,nds,est]
       refine bX ⟨_,rfl,.inl ⟨rfl,_,SqL.of e6⟩,_,rfl,z.1,_,_,_,rfl,rfl,SqT.of (g0 m5.same),at0 z.2,pp,_,_,rfl,rfl,e6,ao l2,?_⟩;refine⟨_,rfl,m5.other e6 hpp0,by rw[ai hlp];exact e5,by rw[ai (symm hne),ac,e4],?_⟩;rw[ac,e7];simp
      |some i =>
       have e7:TW.bp (nds (hs.take (j+1)))=TW.bp (nds (hs.take j)):=by rw[ez];simp[TW.bp,nds,est]
       refine bv ⟨_,rfl,m5,e5,by rw[ac,e4],?_⟩;rw[e6,e7]
     ·obtain⟨on,rfl,m4,e1,e2,e3⟩:=h;rw[cx,take_length]at e2 e3;refine⟨⟨L,kvs',x::dn,_,_,on,_,rfl,?_,m4,wk',e2,e3⟩,?_⟩
      ·have:=TW.eP (nds hs);rw[bi]at this;rw[length_append,length_append,bi];omega
      show 2*(zs.length-kl H' pf)+kl H' pp<_;rw[gH e2,gH e3,gH ef,gH ep];have:=TW.eP (nds hs);rw[bi]at this;simp only[dN,length_map,length_append,bi,length_singleton];omega
   ·rintro σ H Q Q' mo ⟨v,e,k,tv,q⟩;exact⟨v,e,k,tv,mo _ _ q⟩
def gQ:Sp:=λvs H Q _=>∃t zs,vs=[.ref t]∧H t=some (.tup (be zs))∧At H zs∧zs.length≤100∧((nds zs).map (·.num)).Nodup∧∀d H',Same H H'→lx H' d zs→Q (.ref d) H'
theorem zt:FnScope ["tree"] ["tree"] (aj xR):=fsc
theorem ye{f:Addr}{fd:FuncData}(F:Fun K "by_number" "by_number" xR f fd)(T:Txt mg):FnOk P w K mg base CX0 1 f fd ["tree"] gQ:=by
 refine F.ok zt (λvs H Q E h=>?_) (λcdv A outer s H vs Q E hr h=>?_)
 ·obtain⟨t,zs,rfl,_⟩:=h;rfl
 ·obtain⟨t,zs,rfl,ht,hA,hl,hnd,k⟩:=h;refine⟨_,am (ay (bJ (oI rfl) rfl T.dict boot_dict (aa (jW (N:=["node"]) (k:=1) (js:=[]) (g:=cm 0) rfl (ji rfl (by decide +kernel) (by decide +kernel) (by decide +kernel)) rfl (λi j x h=>by simp at h)
   (hO (pv 0)) (λs H fp=>ci (i:=0) (show(["node"]:List Str).Nodup by decide +kernel) rfl (Or.inl rfl) (Or.inr rfl))
   (λs H fp=>aK (aa (aF (r:=lc K) aD (pv 0) ak (λ_ _=>rfl)) (aa (pv 0) ae)))) ae))),?_⟩
  refine⟨_,rfl,t,rfl,⟨_,SqT.of ht⟩,λp hp=>?_⟩;refine sT (fr:=[]) zs.length (by omega) hp rfl (λi y H'=>∃q z,zs[i]?=some z∧y=.ref q∧q≠p∧H' q=some (.tup [.int z.2.num,.ref z.1])) (λi y H1 H2 h ex=>?_) (λi H' hi s1=>?_) (λH' s1=>?_) ?_ (λi H' x H2 hi s1 hpl hy=>?_) (λys H' s1 hp' hlen hys=>?_)
  ·obtain⟨q,z,e1,e2,e3,e4⟩:=h;exact⟨q,z,e1,e2,e3,ex q _ e3 e4⟩
  ·exact⟨_,_,SqT.of (s1 _ _ ht),mK (getElem?_eq_getElem hi)⟩
  ·exact⟨_,SqT.of (s1 _ _ ht),by rw[cx];exact le_refl _⟩
  ·rintro _ _ _ _ m ⟨v1,b1,p1,xs,i1,v2,c1,c2,c3,c4,v3,b3,hz,q⟩;exact⟨v1,b1,p1,xs,i1,v2,c1,c2,c3,c4,v3,b3,hz,λl hl=>m _ _ (q l hl)⟩
  ·obtain⟨rfl,hx⟩:=hy;obtain⟨z,gz,rfl⟩:=dm (hx _ (SqT.of (s1 _ _ ht)));have mz:=mem_of_getElem? gz;refine⟨rfl,_,rfl,z.1,_,_,_,rfl,rfl,SqT.of (s1 _ _ (hA z mz)),at0 z.2,_,rfl,le2,λq hq=>⟨af hq,q,z,gz,rfl,jl hpl hq,ac⟩⟩
  ·obtain⟨as,e1,e2,e3⟩:=vG (g:=λz=>[.int z.2.num,.ref z.1]) hlen hys;have e4:as.length=zs.length:=by rw[←e1,length_map]
   have e5:(as.map λa=>((Sum.inl a.2.2.num:Key),V.ref a.2.1))=dZ zs:=by rw[←e1];unfold dZ;rw[map_map];rfl
   refine⟨p,as.map λa=>(a.1,(Sum.inl a.2.2.num:Key),V.ref a.2.1),rfl,?_,?_,?_,?_,λd o hd=>?_⟩
   ·rw[hp',e2,map_map,map_map,map_map];rfl
   ·intro z hz;obtain⟨a,ha,rfl⟩:=mem_map.mp hz;exact(e3 a ha).2
   ·rw[length_map];omega
   ·rw[map_map];have:(as.map ((λx:Addr×Key×V=>x.2.1)∘λa=>(a.1,(Sum.inl a.2.2.num:Key),V.ref a.2.1)))=((nds zs).map (·.num)).map (Sum.inl:Int→Key):=by
     rw[←e1];unfold nds;simp only[map_map];rfl
    rw[this];unfold Nodup at hnd⊢;rw[pairwise_map];exact hnd.imp λh e=>h (by injection e)
   ·refine k d _ (s1.trans (af hd)) ⟨o,?_⟩;rw[ac,map_map];exact congrArg (λx=>some (HO.frz o (.dK x))) e5
abbrev nA(mg:Str→Option Value)(base:Heap)(C:Addr):Prop:=PyProof.Rows.OwnCls "NoNode" C bmV "ValueError.__new__" mg base
def jy(C:Addr):Sp:=λvs H Q E=>∃d k zs,vs=[.ref d,.int k]∧lx H d zs∧((nds zs).map (·.num)).Nodup∧0≤k∧k≤60∧(∀z∈zs,z.2.num=k→Q (.ref z.1) H)∧((∀z∈zs,z.2.num≠k)→E (.ref C) none H)
theorem zu:FnScope ["nodes","number"] ["nodes","number"] (aj tw):=fsc
theorem yf{f C:Addr}{fd:FuncData}(F:Fun K "node_of" "node_of" tw f fd)(O:nA mg base C):FnOk P w K mg base (CX1 P w) 1 f fd ["nodes","number"] (jy C):=by
 refine F.okX zu (λvs H Q E h=>?_) (λcdv A outer s H vs Q E hr h=>?_)
 ·obtain⟨d,k,zs,rfl,_⟩:=h;rfl
 ·obtain⟨d,k,zs,rfl,hd,hnd,h0,h1,q1,q2⟩:=h;refine⟨_,ag (bw (gZ (dH (dj hr) (pv 1) (pv 0))) (am (bA aV O hr.hd rfl (wS (pv 1) (by decide +kernel)))) aJ) (am (ay (lh (dj hr) (pv 0) (pv 1) (λ_ _=>rfl)))),?_⟩
  by_cases hk:∀z∈zs,z.2.num≠k
  ·refine⟨_,rfl,_,rfl,d,_,rfl,hd.not hk,_,rfl,?_⟩;exact bX ⟨_,rfl,k,rfl,h0,h1,λy=>⟨ap (show 1≤1000 by decide),q2 hk⟩⟩
  ·obtain⟨z,hz,e⟩:∃z∈zs,z.2.num=k:=by
    by_cases h:∃z∈zs,z.2.num=k
    ·exact h
    ·exact absurd (λz hz e=>h ⟨z,hz,e⟩) hk
   subst e;refine⟨_,rfl,_,rfl,d,_,rfl,hd.get hnd hz,_,rfl,?_⟩;exact bv ⟨_,rfl,_,rfl,d,_,rfl,hd.get hnd hz,q1 z hz rfl⟩
def qe(C:Addr):Sp:=λvs H Q E=>∃t k zs,vs=[.ref t,.int k]∧Tre H t zs∧0≤k∧k≤60 ∧
 ((k=0∨∃z∈zs,z.2.num=k)→∀(ms:List Int)(l:Addr)(H':Hp),Same H H'→ms.Pairwise (λa b:Int=>a<b)→ms.length≤zs.length→(∀x,x∈ms↔∃n∈nds zs,n.num=x∧TW.Reach (nds zs) k n)→H' l=some (.lst (ms.map V.int))→Q (.ref l) H') ∧
 (k≠0→(∀z∈zs,z.2.num≠k)→∀H',Same H H'→E (.ref C) none H')
theorem zv:FnScope ["tree","number"] ["tree","number"] (aj xS):=fsc
theorem yg{f C:Addr}{fd:FuncData}(F:Fun K "below" "below" xS f fd)(T:Txt mg)(CB:Has P w K mg base 1 "by_number" ["tree"] gQ)(CN:cy P w K mg base 1 "node_of" ["nodes","number"] (jy C))(CI:Has P w K mg base 1 "numbers_inside" ["nodes","folder"] qd):
  FnOk P w K mg base (CX1 P w) 2 f fd ["tree","number"] (qe C):=by
 obtain⟨fB,fdB,GB,mB,kB,bB⟩:=CB;obtain⟨fN,fdN,GN,mN,kN,bN⟩:=CN;obtain⟨fI,fdI,GI,mI,kI,bI⟩:=CI;obtain⟨tt,hT⟩:=T.top;refine F.okX zv (λvs H Q E h=>?_) (λcdv A outer s H vs Q E hr h=>?_)
 ·obtain⟨t,k,zs,rfl,_⟩:=h;rfl
 ·obtain⟨t,k,zs,rfl,tr,h0,h1,q1,q2⟩:=h;have hnd:=cJ tr.tr;have hl:=tr.len;refine⟨_,ag (bw (aL iS (pv 1) (bg (v:=.int 0) rfl hT ⟨_,rfl⟩) (aS _))
    (am (aB (ar (E:=E) GN hr rfl mN kN bN .nil (aW aV) (aa (ar GB hr rfl mB kB bB .nil aU (aa (pv 0) ae)) (aa (pv 1) ae))))) aJ)
   (am (ay (aC il rfl T.sorted boot_sorted (aa (ar GI hr rfl mI kI bI .nil aU (aa (pv 0) (aa (pv 1) ae))) ae)))),?_⟩
  have main:∀H1,Same H H1→(k=0∨∃z∈zs,z.2.num=k)→xp (tCB (λxs H Q=>∃l,∃ns:List Int,xs=[.ref l]∧H l=some (.lst (ns.map V.int))∧ns.Nodup∧ns.length<64∧∀ms:List Int,ms.Perm ns→ms.Pairwise (λa b=>a<b)→∀p,H p=none→Q (.ref p) (upd H p (.lst (ms.map V.int))))
    (aE (lP qd [] E0 (aE (gY 0) (aE (gY 1) dF))) dF)) {nx:=λ_ H'=>Q .non H',rt:=Q} [some (.ref t),some (.int k)] H1:=by
   intro H1 s1 hk;refine⟨_,rfl,_,rfl,t,k,zs,rfl,s1 _ _ tr.tup,tr.nod.same s1,by omega,λfd dn l H2 wk el s2=>?_⟩;have hfl:=wk.len;rw[bi]at hfl;refine⟨l,fd.map (λn:Nd=>n.num),rfl,(show H2 l=some (.lst ((fd.map λn:Nd=>n.num).map V.int))from el),rg tr.tr wk,by rw[length_map];omega,λms hp hs p hpn=>?_⟩;refine q1 hk ms p _ ((s1.trans s2).trans (af hpn)) hs (by rw[hp.length_eq,length_map];exact hfl) (λx=>?_) ac;rw[hp.mem_iff,mem_map];constructor
   ·rintro⟨n,hn,e⟩;have:=(wk.mem n).mp hn;exact⟨n,this.mem,e,this⟩
   ·rintro⟨n,_,e,hr⟩;exact⟨n,(wk.mem n).mpr hr,e⟩
  refine⟨_,rfl,rfl,_,rfl,?_⟩
  by_cases hk0:k=0
  ·have:decide (V.int k=V.int 0)=true:=by simp[hk0]
   rw[this];exact bv (main H (Same.refl _) (.inl hk0))
  ·have:decide (V.int k=V.int 0)=false:=by simp[hk0]
   rw[this];refine bX ?_;refine⟨_,rfl,t,zs,rfl,tr.tup,tr.nod,by omega,hnd,λd H1 s1 nd1=>?_⟩;refine⟨_,rfl,d,k,zs,rfl,nd1,hnd,h0,h1,λz hz e=>main H1 s1 (.inr ⟨z,hz,e⟩),λhk=>q2 hk0 hk H1 s1⟩
def qf(CN CF:Addr):Sp:=λvs H Q E=>∃d p zs,vs=[.ref d,.int p]∧lx H d zs∧At H zs∧((nds zs).map (·.num)).Nodup∧0≤p∧p≤60 ∧
 (TW.jN (nds zs) p→Q .non H)∧(p≠0→(∀z∈zs,z.2.num≠p)→E (.ref CN) none H)∧(∀z∈zs,z.2.num=p→p≠0→z.2.st≠none→E (.ref CF) none H)
theorem zw:FnScope ["nodes","number"] ["nodes","number"] (aj tz):=fsc
theorem yh{f CN CF:Addr}{fd:FuncData}(F:Fun K "check_folder" "check_folder" tz f fd)(T:Txt mg)(O:fu "NotFolder" mg base CF)(CNo:cy P w K mg base 1 "node_of" ["nodes","number"] (jy CN)):
  FnOk P w K mg base (CX1 P w) 2 f fd ["nodes","number"] (qf CN CF):=by
 obtain⟨fN,fdN,GN,mN,kN,bN⟩:=CNo;obtain⟨tt,hT⟩:=T.top;refine F.okX zw (λvs H Q E h=>?_) (λcdv A outer s H vs Q E hr h=>?_)
 ·obtain⟨d,p,zs,rfl,_⟩:=h;rfl
 ·obtain⟨d,p,zs,rfl,hd,hA,hnd,h0,h1,q1,q2,q3⟩:=h;refine⟨_,am (bw (PW.pt (pw_and (aL iS (pv 1) (bg (v:=.int 0) rfl hT ⟨_,rfl⟩) (aS _)) (pw_and1 (aL pD (aF aD (ar (E:=E) GN hr rfl mN kN bN .nil (aW aV) (aa (pv 0) (aa (pv 1) ae))) ak (λ_ _=>rfl)) dU (aS _)))))
   (am (bA aV O hr.hd rfl (db (cj (c:=100) (by decide +kernel) (jm (pv 1) (cj (c:=100) (by decide +kernel) dY))) (by decide)))) aJ),?_⟩
  refine⟨_,rfl,rfl,_,rfl,?_⟩
  by_cases hp0:p=0
  ·have:decide (V.int p=V.int 0)=true:=by simp[hp0]
   rw[this];exact bv (bv (q1 (.inl hp0)))
  ·have:decide (V.int p=V.int 0)=false:=by simp[hp0]
   rw[this];refine bX ⟨_,rfl,_,rfl,d,p,zs,rfl,hd,hnd,h0,h1,λz hz e=>?_,λhk=>q2 hp0 hk⟩;refine⟨z.1,_,_,_,rfl,rfl,SqT.of (hA z hz),at3 z.2,rfl,_,rfl,?_⟩;rw[pY];cases hs:z.2.st with
   |none=>exact bv (q1 (.inr ⟨z.2,bO hz,hs,e⟩))
   |some i=>exact bX ⟨_,rfl,p,rfl,h0,h1,λy=>⟨ap (show 1≤1000 by decide),q3 z hz e hp0 (by rw[hs];simp)⟩⟩
def nB(CT:Addr):Sp:=λvs H Q E=>∃t k p nm zs,vs=[.ref t,.int k,.int p,.str nm]∧H t=some (.tup (be zs))∧At H zs∧0≤p∧p≤60∧nm.length≤100 ∧
 ((∀z∈zs,z.2.num≠k→¬(z.2.par=p∧z.2.nm=nm))→Q .non H)∧(∀z∈zs,z.2.num≠k→z.2.par=p→z.2.nm=nm→E (.ref CT) none H)
theorem wX:FnScope ["tree","number","parent","name","node"] ["tree","number","parent","name"] (aj xT):=fsc
theorem yi{f CT:Addr}{fd:FuncData}(F:Fun K "check_place" "check_place" xT f fd)(O:fu "Taken" mg base CT):FnOk P w K mg base (CX1 P w) 1 f fd ["tree","number","parent","name"] (nB CT):=by
 refine F.okX wX (λvs H Q E h=>?_) (λcdv A outer s H vs Q E hr h=>?_)
 ·obtain⟨t,k,p,nm,zs,rfl,_⟩:=h;rfl
 ·obtain⟨t,k,p,nm,zs,rfl,ht,hA,h0,h1,hn,q1,q2⟩:=h;refine⟨_,am (kY (Ar aV) rfl (hO (pv 0)) (ci (i:=4) wX.nd rfl (Or.inl rfl))
   (am (bw (PW.pt (pw_and (aL iS (aF aD (pv 4) ak (λ_ _=>rfl)) (pv 1) (aS _)) (pw_and (aL gl (aF aD (pv 4) ak (λ_ _=>rfl)) (pv 2) (aS _)) (pw_and1 (aL gl (aF aD (pv 4) ak (λ_ _=>rfl)) (pv 3) (aS _))))))
    (am (bA aV O hr.hd rfl (db (cj (c:=100) (by decide +kernel) (jm (pv 2) (cj (c:=100) (by decide +kernel) (xO (pv 3) dY)))) (by decide)))) aJ))),?_⟩
  refine⟨_,rfl,t,rfl,⟨_,SqT.of ht⟩,pz (xs:=be zs) (λi σ H'=>(∃on,σ=[some (.ref t),some (.int k),some (.int p),some (.str nm),on])∧H'=H∧∀z∈zs.take i,z.2.num≠k→¬(z.2.par=p∧z.2.nm=nm)) ⟨⟨none,rfl⟩,rfl,by simp⟩ (λi σ H' _ h=>by rw[h.2.1];exact SqT.of ht) (λi x σ H' hx h=>?_) (λσ H' h=>?_)⟩
  ·obtain⟨⟨on,rfl⟩,rfl,hi⟩:=h;obtain⟨z,gz,rfl⟩:=dm hx;have mz:=mem_of_getElem? gz;have az:SqT K H' z.1 (vals z.2):=SqT.of (hA z mz);have et:zs.take (i+1)=zs.take i++[z]:=fc gz;have nxt:(z.2.num≠k→¬(z.2.par=p∧z.2.nm=nm))→∀y∈zs.take (i+1),y.2.num≠k→¬(y.2.par=p∧y.2.nm=nm):=λhz y hy=>by
    rw[et]at hy;rcases mem_append.mp hy with hy|hy
    ·exact hi y hy
    ·have e:y=z:=by simpa using hy
     subst e;exact hz
   refine⟨_,rfl,z.1,_,_,_,rfl,rfl,az,at0 z.2,_,rfl,rfl,_,rfl,?_⟩
   by_cases hk:z.2.num=k
   ·have e1:(!decide (V.int z.2.num=V.int k))=false:=by simp[hk]
    rw[e1];exact bv (bv ⟨⟨_,rfl⟩,rfl,nxt λh=>absurd hk h⟩)
   ·have e1:(!decide (V.int z.2.num=V.int k))=true:=by simp[hk]
    rw[e1];refine bX ⟨_,rfl,z.1,_,_,_,rfl,rfl,az,at1 z.2,_,rfl,rfl,_,rfl,?_⟩
    by_cases hp:z.2.par=p
    ·have e2:decide (V.int z.2.par=V.int p)=true:=by simp[hp]
     rw[e2];refine bX ⟨_,rfl,z.1,_,_,_,rfl,rfl,az,at2 z.2,_,rfl,rfl,_,rfl,?_⟩
     by_cases hm:z.2.nm=nm
     ·have e3:decide (V.str z.2.nm=V.str nm)=true:=by simp[hm]
      rw[e3];exact bX ⟨_,rfl,p,rfl,h0,h1,_,rfl,nm,rfl,hn,λy=>⟨ap (show 1≤1000 by decide),q2 z mz hk hp hm⟩⟩
     ·have e3:decide (V.str z.2.nm=V.str nm)=false:=by simp[hm]
      rw[e3];exact bv ⟨⟨_,rfl⟩,rfl,nxt λ_ h=>hm h.2⟩
    ·have e2:decide (V.int z.2.par=V.int p)=false:=by simp[hp]
     rw[e2];exact bv (bv ⟨⟨_,rfl⟩,rfl,nxt λ_ h=>hp h.1⟩)
  ·obtain⟨_,rfl,hi⟩:=h;rw[cx,take_length]at hi;exact q1 hi
def jz:Sp:=λvs H Q _=>∃t c n zs,vs=[.ref t,.ref c]∧H t=some (.tup (be zs))∧At H zs∧H c=some (.tup (vals n))∧zs.length≤100∧∀us t' H',Same H H'→H' t'=some (.tup (be us))→At H' us→nds us=(nds zs).map (TW.put n)→Q (.ref t') H'
theorem yj:FnScope ["tree","changed"] ["tree","changed"] (aj pZ):=fsc
theorem vY{f:Addr}{fd:FuncData}(F:Fun K "with_node" "with_node" pZ f fd)(T:Txt mg):FnOk P w K mg base CX0 1 f fd ["tree","changed"] jz:=by
 refine F.ok yj (λvs H Q E h=>?_) (λcdv A outer s H vs Q E hr h=>?_)
 ·obtain⟨t,c,n,zs,rfl,_⟩:=h;rfl
 ·obtain⟨t,c,n,zs,rfl,ht,hA,hc,hl,q⟩:=h;refine⟨_,am (ay (bJ cH rfl T.tuple rfl (aa (jW (N:=["node","changed"]) (cl:=[("changed",s.heap.objs.size+1)]) (k:=1) (js:=[1]) (g:=cm 0) rfl
    (LcOk.mk' ["changed"] rfl rfl (by decide +kernel) (by decide +kernel) ?hcl rfl (by decide +kernel)) rfl ?hj (hO (pv 0)) (λs H fp=>ci (i:=0) (show(["node","changed"]:List Str).Nodup by decide +kernel) rfl (Or.inl rfl) (Or.inr rfl))
    (λs H fp=>rF (aL gl (aF (r:=lc K) aD (pv 0) ak (λ_ _=>rfl)) (aF (r:=lc K) aD (pv 1) ak (λ_ _=>rfl)) (aS _)) (pv 1) (pv 0))) ae))),?_⟩
  case hcl =>
   intro y hy;rcases mem_cons.mp hy with e|hy
   ·rw[e];rfl
   ·cases hy
  case hj =>
   intro i j x h1 h2
   match i,h1,h2 with
   |0,h1,h2 =>
    cases h1;cases h2;exact⟨rfl,Or.inr (Or.inl rfl),(show((aj pZ).names.lookup ("changed":Str)≠some NameKind.local)by decide +kernel),by first|exact Or.inl rfl|exact Or.inr rfl⟩
   |i+1,h1,h2=>simp at h1
  refine⟨_,rfl,t,rfl,⟨_,SqT.of ht⟩,λp hp=>?_⟩;refine ls (fr:=[some (.ref c)]) zs (λz=>V.ref z.1) (by omega) hp (pR (by rw[eS];exact SqT.of ht)) rfl (λz y H'=>y=.ref (if z.2.num=n.num then c else z.1)) (λz y H H' h _=>h) (λz H' k mz s1 _ hk=>?_) (λys H' s1 hp' hys=>?_)
  ·refine⟨_,rfl,z.1,_,_,_,rfl,rfl,SqT.of (s1 _ _ (hA z mz)),at0 z.2,_,rfl,c,_,_,_,rfl,rfl,SqT.of (s1 _ _ hc),at0 n,rfl,_,rfl,?_⟩
   by_cases e:z.2.num=n.num
   ·have e1:decide (V.int z.2.num=V.int n.num)=true:=by simp[e]
    rw[e1];exact bX ⟨_,rfl,hk _ H' (Same.refl _) (by rw[if_pos e])⟩
   ·have e1:decide (V.int z.2.num=V.int n.num)=false:=by simp[e]
    rw[e1];exact bv ⟨_,rfl,hk _ H' (Same.refl _) (by rw[if_neg e])⟩
  ·have ey:=fR (f:=λz:Addr×Nd=>V.ref (if z.2.num=n.num then c else z.1)) hys (λz y _ h=>h);refine⟨p,_,rfl,.inl ⟨SqL.of hp',λl hl'=>?_⟩⟩;have er:be (zs.map λz=>if z.2.num=n.num then (c,n)else z)=ys:=by
    rw[ey,←eS,map_map];apply map_congr_left;intro z _;show V.ref (if z.2.num=n.num then (c,n)else z).1=_
    by_cases e:z.2.num=n.num
    ·rw[if_pos e,if_pos e]
    ·rw[if_neg e,if_neg e]
   refine q (zs.map λz=>if z.2.num=n.num then (c,n)else z) l _ (s1.trans (af hl')) (by rw[er];exact ac) (λy hy=>?_) ?_
   ·obtain⟨z,mz,rfl⟩:=mem_map.mp hy
    by_cases e:z.2.num=n.num
    ·rw[if_pos e];exact(s1.trans (af hl')) _ _ hc
    ·rw[if_neg e];exact(s1.trans (af hl')) _ _ (hA z mz)
   ·unfold nds;rw[map_map,map_map];apply map_congr_left;intro z _;show(if z.2.num=n.num then (c,n)else z).2=TW.put n z.2
    unfold TW.put
    by_cases e:z.2.num=n.num
    ·rw[if_pos e,if_pos e]
    ·rw[if_neg e,if_neg e]
def oW(cls:TW.Wd→Addr):Sp:=λvs H Q E=>∃t n p nm st zs,vs=[.ref t,.int n,.int p,.str nm,stV st]∧Tre H t zs∧zs.length≤29∧dq (.make n p nm st)∧Outs H (nds zs) (.make n p nm st) cls Q E
theorem ud:FnScope ["tree","number","parent","name","stamp","nodes"] ["tree","number","parent","name","stamp"] (aj tD):=fsc
theorem vZ{f:Addr}{fd:FuncData}{cls:TW.Wd→Addr}(F:Fun K "make" "make" tD f fd)(T:Txt mg)(O:vH mg base cls)(CB:Has P w K mg base 1 "by_number" ["tree"] gQ)(CF:cy P w K mg base 2 "check_folder" ["nodes","number"] (qf (cls .noNode) (cls .notFolder)))(CL:cy P w K mg base 1 "check_place" ["tree","number","parent","name"] (nB (cls .taken))):FnOk P w K mg base (CX1 P w) 3 f fd ["tree","number","parent","name","stamp"] (oW cls):=by
 obtain⟨fB,fdB,GB,mB,kB,bB⟩:=CB;obtain⟨fF,fdF,GF,mF,kF,bF⟩:=CF;obtain⟨fL,fdL,GL,mL,kL,bL⟩:=CL;refine F.okX ud (λvs H Q E h=>?_) (λcdv A outer s H vs Q E hr h=>?_)
 ·obtain⟨t,n,p,nm,st,zs,rfl,_⟩:=h;rfl
 ·obtain⟨t,n,p,nm,st,zs,rfl,tr,hl,⟨hn1,hn2,hp1,hp2,hnm⟩,o⟩:=h;have hr1:Room 1 _:=hr.mono (by decide);have hnd:=cJ tr.tr;refine⟨_,ag (aM (i:=5) ud.nd rfl (Or.inl rfl) (ar GB hr1 rfl mB kB bB .nil aU (aa (pv 0) ae)))
   (ag (bw (gZ (sj (dj hr) (pv 1) (pv 5))) (am (bA aV (O .known) hr.hd rfl (wS (pv 1) (by decide +kernel)))) aJ)
   (ag (aB (ar (E:=E) GF hr rfl mF kF bF .nil (aW aV) (aa (pv 5) (aa (pv 2) ae))))
   (ag (aB (ar (E:=E) GL hr1 rfl mL kL bL .nil (aW aV) (aa (pv 0) (aa (pv 1) (aa (pv 2) (aa (pv 3) ae))))))
   (am (ay (bJ cH rfl T.tuple rfl (aa (aC gE rfl T.sorted boot_sorted (aa (bd (sI.or va) (pv 0) (aK (aa (aK (aa (pv 1) (aa (pv 2) (aa (pv 3) (aa (pv 4) ae))))) ae))) ae)) ae))))))),?_⟩
  refine⟨_,rfl,t,zs,rfl,tr.tup,tr.nod,by omega,hnd,λd H1 s1 nd1=>?_⟩
  by_cases hk:∃z∈zs,z.2.num=n
  ·obtain⟨z,hz,e⟩:=hk;subst e;exact⟨_,rfl,_,rfl,d,_,rfl,nd1.get hnd hz,_,rfl,bX ⟨_,rfl,_,rfl,by omega,hn2,λy=>⟨ap (show 1≤1000 by decide),o.no .known H1 s1 (.mKnown (mS hz rfl))⟩⟩⟩
  ·have hno:=fe hk;refine⟨_,rfl,_,rfl,d,_,rfl,nd1.not (λz hz e=>hk ⟨z,hz,e⟩),_,rfl,bv ?_⟩;refine⟨_,rfl,_,rfl,d,p,zs,rfl,nd1,tr.nod.same s1,hnd,hp1,hp2,λhF=>?_,λh0 hz=>o.no .noNode H1 s1 (.mNo hno h0 (fe λ⟨z,hz',e⟩=>hz z hz' e)),λz hz e h0 hs=>o.no .notFolder H1 s1 (.mFile hno h0 (bO hz) e hs)⟩;refine⟨_,rfl,_,rfl,_,rfl,_,rfl,t,n,p,nm,zs,rfl,s1 _ _ tr.tup,tr.nod.same s1,hp1,hp2,hnm,λhfree=>?_,λz hz _ e1 e2=>o.no .taken H1 s1 (.mTaken hno hF (bO hz) e1 e2)⟩;refine⟨_,rfl,_,rfl,_,rfl,_,rfl,_,rfl,(show 4≤sizeLine from ap (by decide)),λq hq=>⟨(show 1≤sizeLine from ap (by decide)),λc hc=>?_⟩⟩;have s2:Same H1 (upd (upd H1 q (.tup [.int n,.int p,.str nm,stV st])) c (.tup [.ref q])):=(af hq).trans (af hc);have gq:upd (upd H1 q (.tup [.int n,.int p,.str nm,stV st])) c (.tup [.ref q]) q=some (.tup (vals ⟨n,p,nm,st⟩)):=bh hc ac;have gc:upd (upd H1 q (.tup [.int n,.int p,.str nm,stV st])) c (.tup [.ref q]) c=some (.tup [.ref q]):=ac;generalize upd (upd H1 q (.tup [.int n,.int p,.str nm,stV st])) c (.tup [.ref q])=H2 at s2 gq gc⊢;have fin:∀(l:Addr)(H3:Hp),Same H2 H3→SqT K H3 l (be (zs++[(q,⟨n,p,nm,st⟩)]))→tCB (λxs H Q=>∃l,∃zs:List iG,xs=[.ref l]∧(SqL K H l ((zs.map (·.1)).map V.ref)∨SqT K H l ((zs.map (·.1)).map V.ref))∧(∀z∈zs,H z.1=some (.tup (.int z.2.1::z.2.2)))∧(zs.map (·.2.1)).Nodup∧zs.length<64 ∧
     ∀zs':List iG,zs'.Perm zs→zs'.Pairwise (λa b=>a.2.1<b.2.1)→∀p,H p=none→Q (.ref p) (upd H p (.lst ((zs'.map (·.1)).map V.ref)))) (aE (tC (.ref l)) dF) [] H3 (λx H1=>(λxs H Q=>∃p ys,xs=[V.ref p]∧((SqL K H p ys∧∀l,H l=none→Q (V.ref l) (upd H l (.tup ys)))∨(SqT K H p ys∧Q (.ref p) H))) [x] H1 Q):=by
    intro l H3 s3 hl3;have s123:=(s1.trans s2).trans s3;refine mR (.inr hl3) (λz hz=>?_) ?_ (by rw[length_append];simp;omega) (λus t' H' s' ht' hA' hp hrise=>?_)
    ·rcases mem_append.mp hz with h|h
     ·exact s123 _ _ (tr.nod z h)
     ·have e:z=(q,⟨n,p,nm,st⟩):=by simpa using h
      subst e;exact s3 _ _ gq
    ·have e:(nds (zs++[(q,(⟨n,p,nm,st⟩:Nd))])).map (·.num)=(nds zs).map (·.num)++[n]:=by simp[nds]
     rw[e,List.nodup_append];refine⟨hnd,by simp,λa ha b hb e=>?_⟩;have eb:b=n:=by simpa using hb
     obtain⟨m,hm,em⟩:=mem_map.mp ha;exact hno ⟨m,hm,by rw[em,e,eb]⟩
    ·refine o.ok us t' H' (s123.trans s') ht' hA' (.made hno hF (λm hm=>?_) ?_ hrise)
     ·obtain⟨z,hz,rfl⟩:=jp hm;exact hfree z hz λe=>hno ⟨z.2,hm,e⟩
     ·have:(nds us).Perm (nds (zs++[(q,⟨n,p,nm,st⟩)])):=hp.map _;refine this.trans ?_;unfold nds;rw[map_append];exact List.perm_append_comm
   by_cases hz:zs=[]
   ·subst hz;exact .inl ⟨t,c,_,rfl,rfl,SqT.of ((s1.trans s2) _ _ tr.tup),SqT.of gc,fin c H2 (Same.refl _) (SqT.of gc)⟩
   ·refine .inr ⟨t,c,_,_,rfl,rfl,SqT.of ((s1.trans s2) _ _ tr.tup),SqT.of gc,?_,?_,λh=>absurd h (List.cons_ne_nil _ _),λ_ l hl3=>fin l _ (af hl3) (by rw[kj];exact SqT.of ac)⟩
    ·intro e;exact hz (sZ e)
    ·rw[cx];exact ap (by show zs.length+1≤1000;omega)
def lF(cls:TW.Wd→Addr):Sp:=λvs H Q E=>∃t n st zs,vs=[.ref t,.int n,.int st]∧Tre H t zs∧dq (.write n st)∧Outs H (nds zs) (.write n st) cls Q E
theorem qg:FnScope ["tree","number","stamp","node"] ["tree","number","stamp"] (aj oK):=fsc
theorem ue{f:Addr}{fd:FuncData}{cls:TW.Wd→Addr}(F:Fun K "write" "write" oK f fd)(O:vH mg base cls)(CB:Has P w K mg base 1 "by_number" ["tree"] gQ)(CN:cy P w K mg base 1 "node_of" ["nodes","number"] (jy (cls .noNode)))(CW:Has P w K mg base 1 "with_node" ["tree","changed"] jz):FnOk P w K mg base (CX1 P w) 2 f fd ["tree","number","stamp"] (lF cls):=by
 obtain⟨fB,fdB,GB,mB,kB,bB⟩:=CB;obtain⟨fN,fdN,GN,mN,kN,bN⟩:=CN;obtain⟨fW,fdW,GW,mW,kW,bW⟩:=CW;refine F.okX qg (λvs H Q E h=>?_) (λcdv A outer s H vs Q E hr h=>?_)
 ·obtain⟨t,n,st,zs,rfl,_⟩:=h;rfl
 ·obtain⟨t,n,st,zs,rfl,tr,⟨hn1,hn2⟩,o⟩:=h;have hnd:=cJ tr.tr;have hl:=tr.len;refine⟨_,ag (aM (i:=3) qg.nd rfl (Or.inl rfl) (ar (E:=E) GN hr rfl mN kN bN .nil (aW aV) (aa (ar GB hr rfl mB kB bB .nil aU (aa (pv 0) ae)) (aa (pv 1) ae))))
   (ag (bw (aL rQ (aF aD (pv 3) ak (λ_ _=>rfl)) dU (aS _)) (am (bA aV (O .notFile) hr.hd rfl (db (cj (c:=100) (by decide +kernel) (jm (pv 1) (cj (c:=100) (by decide +kernel) dY))) (by decide)))) aJ)
   (am (ay (ar GW hr rfl mW kW bW .nil aU (aa (pv 0) (aa (aK (aa (pv 1) (aa (aF aD (pv 3) ak (λ_ _=>rfl)) (aa (aF aD (pv 3) ak (λ_ _=>rfl)) (aa (pv 2) ae))))) ae)))))),?_⟩
  refine⟨_,rfl,t,zs,rfl,tr.tup,tr.nod,by omega,hnd,λd H1 s1 nd1=>?_⟩;refine⟨_,rfl,d,n,zs,rfl,nd1,hnd,by omega,hn2,λz hz e=>?_,λhk=>o.no .noNode H1 s1 (.wNo (fe λ⟨z,hz,e⟩=>hk z hz e))⟩;subst e;have az:SqT K H1 z.1 (vals z.2):=SqT.of (s1 _ _ (tr.nod z hz));refine⟨_,rfl,z.1,_,_,_,rfl,rfl,az,at3 z.2,rfl,_,rfl,?_⟩;cases hs:z.2.st with
  |none=>exact bX ⟨_,rfl,_,rfl,by omega,hn2,λy=>⟨ap (show 1≤1000 by decide),o.no .notFile H1 s1 (.wFold (bO hz) rfl hs)⟩⟩
  |some i =>
   refine bv ⟨_,rfl,_,rfl,_,rfl,z.1,_,_,_,rfl,rfl,az,at1 z.2,_,rfl,z.1,_,_,_,rfl,rfl,az,at2 z.2,_,rfl,(show 4≤sizeLine from ap (by decide)),λc hc=>?_⟩;have s2:=s1.trans (af (o:=.tup [.int z.2.num,.int z.2.par,.str z.2.nm,.int st]) hc);refine⟨t,c,⟨z.2.num,z.2.par,z.2.nm,some st⟩,zs,rfl,s2 _ _ tr.tup,tr.nod.same s2,ac,by omega,λus t' H' s' ht' hA' e=>o.ok us t' H' (s2.trans s') ht' hA' ?_⟩;rw[e];exact .wrote (bO hz) rfl (by rw[hs];simp)
def oX(cls:TW.Wd→Addr):Sp:=λvs H Q E=>∃t n p nm zs,vs=[.ref t,.int n,.int p,.str nm]∧Tre H t zs∧dq (.move n p nm)∧Outs H (nds zs) (.move n p nm) cls Q E
theorem oY:FnScope ["tree","number","parent","name","nodes","node"] ["tree","number","parent","name"] (aj tE):=fsc
theorem wa{f:Addr}{fd:FuncData}{cls:TW.Wd→Addr}(F:Fun K "move" "move" tE f fd)(O:vH mg base cls)(CB:Has P w K mg base 1 "by_number" ["tree"] gQ)(CN:cy P w K mg base 1 "node_of" ["nodes","number"] (jy (cls .noNode)))(CF:cy P w K mg base 2 "check_folder" ["nodes","number"] (qf (cls .noNode) (cls .notFolder)))(CE:cy P w K mg base 2 "below" ["tree","number"] (qe (cls .noNode)))(CL:cy P w K mg base 1 "check_place" ["tree","number","parent","name"] (nB (cls .taken)))(CW:Has P w K mg base 1 "with_node" ["tree","changed"] jz):FnOk P w K mg base (CX1 P w) 3 f fd ["tree","number","parent","name"] (oX cls):=by
 obtain⟨fB,fdB,GB,mB,kB,bB⟩:=CB;obtain⟨fN,fdN,GN,mN,kN,bN⟩:=CN;obtain⟨fF,fdF,GF,mF,kF,bF⟩:=CF;obtain⟨fE,fdE,GE,mE,kE,bE⟩:=CE;obtain⟨fL,fdL,GL,mL,kL,bL⟩:=CL;obtain⟨fW,fdW,GW,mW,kW,bW⟩:=CW;refine F.okX oY (λvs H Q E h=>?_) (λcdv A outer s H vs Q E hr h=>?_)
 ·obtain⟨t,n,p,nm,zs,rfl,_⟩:=h;rfl
 ·obtain⟨t,n,p,nm,zs,rfl,tr,⟨hn1,hn2,hp1,hp2,hnm⟩,o⟩:=h;have hnd:=cJ tr.tr;have hl:=tr.len;have hT:=tr.tr;have hr1:Room 1 _:=hr.mono (by decide);refine⟨_,ag (aM (i:=4) oY.nd rfl (Or.inl rfl) (ar GB hr1 rfl mB kB bB .nil aU (aa (pv 0) ae)))
   (ag (aM (i:=5) oY.nd rfl (Or.inl rfl) (ar (E:=E) GN hr1 rfl mN kN bN .nil (aW aV) (aa (pv 4) (aa (pv 1) ae))))
   (ag (aB (ar (E:=E) GF hr rfl mF kF bF .nil (aW aV) (aa (pv 4) (aa (pv 2) ae))))
   (ag (bw (PW.pt (pw_or (aL gl (pv 2) (pv 1) (aS _)) (pw_or1 (aL qJ (pv 2) (ar (E:=E) GE hr rfl mE kE bE .nil (aW aV) (aa (pv 0) (aa (pv 1) ae))) rfl))))
    (am (bA aV (O .inside) hr.hd rfl (db (cj (c:=100) (by decide +kernel) (jm (pv 2) (cj (c:=100) (by decide +kernel) (jm (pv 1) (cj (c:=100) (by decide +kernel) dY))))) (by decide)))) aJ)
   (ag (aB (ar (E:=E) GL hr1 rfl mL kL bL .nil (aW aV) (aa (pv 0) (aa (pv 1) (aa (pv 2) (aa (pv 3) ae))))))
   (am (ay (ar GW hr1 rfl mW kW bW .nil aU (aa (pv 0) (aa (aK (aa (pv 1) (aa (pv 2) (aa (pv 3) (aa (aF aD (pv 5) ak (λ_ _=>rfl)) ae))))) ae))))))))),?_⟩
  refine⟨_,rfl,t,zs,rfl,tr.tup,tr.nod,by omega,hnd,λd H1 s1 nd1=>?_⟩;refine⟨_,rfl,_,rfl,d,n,zs,rfl,nd1,hnd,by omega,hn2,λz hz e=>?_,λhk=>o.no .noNode H1 s1 (.vNo (fe λ⟨z,hz,e⟩=>hk z hz e))⟩;subst e;have hh:TW.dl (nds zs) z.2.num:=mS hz rfl;refine⟨_,rfl,_,rfl,d,p,zs,rfl,nd1,tr.nod.same s1,hnd,hp1,hp2,λhF=>?_,λh0 hk=>o.no .noNode H1 s1 (.vNoP hh h0 (fe λ⟨y,hy,e⟩=>hk y hy e)),λy hy e h0 hs=>o.no .notFolder H1 s1 (.vFile hh h0 (bO hy) e hs)⟩;have insd:∀H2,Same H1 H2→p≠0→TW.Und (nds zs) z.2.num p→∀y:Str,E (.ref (cls .inside)) none H2:=λH2 s2 h0 hu _=>o.no .inside H2 (s1.trans s2) (.vIn hh hF h0 hu);have rest:∀H2,Same H1 H2→(p≠0→¬TW.Und (nds zs) z.2.num p)→fA (wK (lP (nB (cls .taken)) [] E (aE (gY 0) (aE (gY 1) (aE (gY 2) (aE (gY 3) dF)))))) (xp (lP jz [] E0 (aE (gY 0) (aE (iD (aE (gY 1) (aE (gY 2) (aE (gY 3) (aE (tOp (lc K) (gY 5) (tC (.int 3))) dF))))) dF))))
    {nx:=λ_ H'=>Q .non H',rt:=Q} [some (.ref t),some (.int z.2.num),some (.int p),some (.str nm),some (.ref d),some (.ref z.1)] H2:=by
   intro H2 s2 hu;have s12:=s1.trans s2;refine⟨_,rfl,_,rfl,_,rfl,_,rfl,t,z.2.num,p,nm,zs,rfl,s12 _ _ tr.tup,tr.nod.same s12,hp1,hp2,hnm,λhfree=>?_,λy hy hne e1 e2=>o.no .taken H2 s12 (.vTaken hh hF hu (bO hy) hne e1 e2)⟩;refine⟨_,rfl,_,rfl,_,rfl,_,rfl,_,rfl,z.1,_,_,_,rfl,rfl,SqT.of (s12 _ _ (tr.nod z hz)),at3 z.2,(show 4≤sizeLine from ap (by decide)),λc hc=>?_⟩;have s3:=s12.trans (af (o:=.tup [.int z.2.num,.int p,.str nm,stV z.2.st]) hc);refine⟨t,c,⟨z.2.num,p,nm,z.2.st⟩,zs,rfl,s3 _ _ tr.tup,tr.nod.same s3,ac,by omega,λus t' H' s' ht' hA' e=>o.ok us t' H' (s3.trans s') ht' hA' ?_⟩;rw[e];refine .moved (bO hz) rfl hF hu λm hm hne h=>?_;obtain⟨y,hy,rfl⟩:=jp hm;exact hfree y hy hne h
  refine⟨_,rfl,_,rfl,rfl,_,rfl,?_⟩
  by_cases hpn:p=z.2.num
  ·have e1:decide (V.int p=V.int z.2.num)=true:=by simp[hpn]
   rw[e1];exact bX (bX ⟨_,rfl,p,rfl,hp1,hp2,_,rfl,_,rfl,by omega,hn2,λy=>⟨ap (show 1≤1000 by decide),insd H1 (Same.refl _) (by omega) (by rw[hpn];exact .here) y⟩⟩)
  ·have e1:decide (V.int p=V.int z.2.num)=false:=by simp[hpn]
   rw[e1];refine bv ⟨_,rfl,_,rfl,_,rfl,t,z.2.num,zs,rfl,tr.same s1,by omega,hn2,λ_ ms l H2 s2 hms _ hm hl2=>?_,λh0 hk=>absurd rfl (hk z hz)⟩;refine⟨l,_,rfl,.inl (SqL.of hl2),rfl,rc ms,_,rfl,?_⟩;show if (inV (.int p) (ms.map V.int))=true then _ else _
   rw[vE]
   by_cases hin:p∈ms
   ·rw[decide_eq_true hin];obtain⟨m,hm1,hm2,hm3⟩:=(hm p).mp hin;have hu:TW.Und (nds zs) z.2.num p:=by rw[←hm2];exact((TW.dM hT hn1 hm1).mp hm3).2
    have h0:p≠0:=by have:=hT.pos m hm1;omega
    exact bX ⟨_,rfl,p,rfl,hp1,hp2,_,rfl,_,rfl,by omega,hn2,λy=>⟨ap (show 1≤1000 by decide),insd H2 s2 h0 hu y⟩⟩
   ·rw[decide_eq_false hin];refine bv (rest H2 s2 λh0 hu=>?_);rcases hF with e|⟨m,hm1,hm2,hm3⟩
    ·exact h0 e
    ·refine hin ((hm p).mpr ⟨m,hm1,hm3,(TW.dM hT hn1 hm1).mpr ⟨by rw[hm3];exact hpn,by rw[hm3];exact hu⟩⟩)
def oZ(cls:TW.Wd→Addr):Sp:=λvs H Q E=>∃t n zs,vs=[.ref t,.int n]∧Tre H t zs∧dq (.drop n)∧Outs H (nds zs) (.drop n) cls Q E
theorem uf:FnScope ["tree","number","gone"] ["tree","number"] (aj qa):=fsc
def nC(n:Int)(ms:List Int)(m:Nd):Bool:=!decide (m.num=n∨m.num∈ms)
theorem wb{f:Addr}{fd:FuncData}{cls:TW.Wd→Addr}(F:Fun K "drop" "drop" qa f fd)(T:Txt mg)(CB:Has P w K mg base 1 "by_number" ["tree"] gQ)(CN:cy P w K mg base 1 "node_of" ["nodes","number"] (jy (cls .noNode)))(CE:cy P w K mg base 2 "below" ["tree","number"] (qe (cls .noNode))):FnOk P w K mg base (CX1 P w) 3 f fd ["tree","number"] (oZ cls):=by
 obtain⟨fB,fdB,GB,mB,kB,bB⟩:=CB;obtain⟨fN,fdN,GN,mN,kN,bN⟩:=CN;obtain⟨fE,fdE,GE,mE,kE,bE⟩:=CE;refine F.okX uf (λvs H Q E h=>?_) (λcdv A outer s H vs Q E hr h=>?_)
 ·obtain⟨t,n,zs,rfl,_⟩:=h;rfl
 ·obtain⟨t,n,zs,rfl,tr,⟨hn1,hn2⟩,o⟩:=h;have hnd:=cJ tr.tr;have hl:=tr.len;have hT:=tr.tr;have hr1:Room 1 _:=hr.mono (by decide);refine⟨_,ag (aB (ar (E:=E) GN hr1 rfl mN kN bN .nil (aW aV) (aa (ar GB hr1 rfl mB kB bB .nil aU (aa (pv 0) ae)) (aa (pv 1) ae))))
   (ag (aM (i:=2) uf.nd rfl (Or.inr rfl) (bJ (iA rfl) rfl T.dict boot_dict (aa (jW (N:=["inner"]) (k:=1) (js:=[]) (g:=cm 0) rfl (ji rfl (by decide +kernel) (by decide +kernel) (by decide +kernel)) rfl (λi j x h=>by simp at h)
    (iH (ar (E:=E) GE hr rfl mE kE bE .nil (aW aV) (aa (pv 0) (aa (pv 1) ae)))) (λs H fp=>ci (i:=0) (show(["inner"]:List Str).Nodup by decide +kernel) rfl (Or.inl rfl) (Or.inr rfl))
    (λs H fp=>aK (aa (pv 0) (aa ir ae)))) ae)))
   (ag (pH (dj hr) (pv 2) (pv 1) ir rfl)
   (am (ay (bJ cH rfl T.tuple rfl (aa (sv (N:=["node","gone"]) (cl:=[("gone",s.heap.objs.size+1)]) (k:=1) (js:=[2]) (g:=cm 0) rfl
    (LcOk.mk' ["gone"] rfl rfl (by decide +kernel) (by decide +kernel) ?hcl rfl (by decide +kernel)) rfl ?hj (hO (pv 0)) (λs H fp=>ci (i:=0) (show(["node","gone"]:List Str).Nodup by decide +kernel) rfl (Or.inl rfl) (Or.inr rfl))
    (λs H fp=>gZ (dH (dj hr) (aF (r:=lc K) aD (pv 0) ak (λ_ _=>rfl)) (pv 1))) (λs H fp=>pv 0)) ae)))))),?_⟩
  case hcl =>
   intro y hy;rcases mem_cons.mp hy with e|hy
   ·rw[e];rfl
   ·cases hy
  case hj =>
   intro i j x h1 h2
   match i,h1,h2 with
   |0,h1,h2 =>
    cases h1;cases h2;exact⟨rfl,Or.inr (Or.inl rfl),(show((aj qa).names.lookup ("gone":Str)≠some NameKind.local)by decide +kernel),by first|exact Or.inl rfl|exact Or.inr rfl⟩
   |i+1,h1,h2=>simp at h1
  refine⟨_,rfl,t,zs,rfl,tr.tup,tr.nod,by omega,hnd,λd H1 s1 nd1=>?_⟩;refine⟨_,rfl,d,n,zs,rfl,nd1,hnd,by omega,hn2,λz hz e=>?_,λhk=>o.no .noNode H1 s1 (.dNo (fe λ⟨z,hz,e⟩=>hk z hz e))⟩;refine⟨_,rfl,_,rfl,t,n,zs,rfl,tr.same s1,by omega,hn2,λ_ ms l H2 s2 hms hml0 hm hl2=>?_,λh0 hk=>absurd e (hk z hz)⟩;have hml:ms.length≤1000:=by omega
  refine⟨l,rfl,⟨_,SqL.of hl2⟩,λp hp=>?_⟩;refine ls (fr:=[]) ms V.int hml hp (lr (SqL.of hl2)) rfl (λm y H'=>∃q,y=.ref q∧q≠p∧H' q=some (.tup [.int m,.bl true])) (λm y H H' ⟨q,e,ne,h⟩ ex=>⟨q,e,ne,ex q _ ne h⟩) (λm H' k _ s3 hpl hk=>?_) (λys H3 s3 hp3 hys=>?_)
  ·exact⟨_,rfl,le2,λq hq=>hk _ _ (af hq) ⟨q,rfl,jl hpl hq,ac⟩⟩
  ·obtain⟨bs,e1,e2,e3⟩:=kd (val:=V.ref) (S:=λ(m:Int) (q:Addr)=>H3 q=some (.tup [.int m,.bl true])) hys (λm y _ ⟨q,e,_,h⟩=>⟨q,e,h⟩);have s123:=(s1.trans s2).trans s3;have hbl:bs.length=ms.length:=by rw[←e1,length_map]
   refine⟨p,bs.map λx=>(x.2,(Sum.inl x.1:Key),V.bl true),rfl,by rw[hp3,e2,map_map,map_map];rfl,λy hy=>?_,by rw[length_map];omega,?_,λg hg=>?_⟩
   ·obtain⟨x,hx,rfl⟩:=mem_map.mp hy;exact e3 x hx
   ·rw[map_map];have:(bs.map ((λx:Addr×Key×V=>x.2.1)∘λx=>(x.2,(Sum.inl x.1:Key),V.bl true)))=ms.map (Sum.inl:Int→Key):=by rw[←e1,map_map];rfl
    rw[this];unfold Nodup;rw[pairwise_map];exact hms.imp λh e=>by injection e with e;omega
   ·have ekv:(bs.map λx=>(x.2,(Sum.inl x.1:Key),V.bl true)).map (·.2)=ms.map λm=>((Sum.inl m:Key),V.bl true):=by rw[←e1,map_map,map_map];rfl
    rw[ekv];have s4:=s123.trans (af (o:=.dK (ms.map λm=>((Sum.inl m:Key),V.bl true))) hg);have s5:Same H (upd (upd H3 g (.dK (ms.map λm=>((Sum.inl m:Key),V.bl true)))) g (.dK (cP (ms.map λm=>((Sum.inl m:Key),V.bl true)) (Sum.inl n:Key) (.bl true)))):=bq (s123.free hg) s4;refine⟨_,rfl,_,rfl,g,_,rfl,qK.k (k:=Sum.inl n) ac (ao (by rw[length_map];exact hml)),?_⟩;have hgo:(upd (upd H3 g (.dK (ms.map λm=>((Sum.inl m:Key),V.bl true)))) g (.dK (cP (ms.map λm=>((Sum.inl m:Key),V.bl true)) (Sum.inl n:Key) (.bl true)))) g=some (.dK (cP (ms.map λm=>((Sum.inl m:Key),V.bl true)) (Sum.inl n:Key) (.bl true))):=ac;generalize upd (upd H3 g (.dK (ms.map λm=>((Sum.inl m:Key),V.bl true)))) g (.dK (cP (ms.map λm=>((Sum.inl m:Key),V.bl true)) (Sum.inl n:Key) (.bl true)))=H5 at s5 hgo⊢;have hval:∀k:Int,(!(aZ (cP (ms.map λm=>((Sum.inl m:Key),V.bl true)) (Sum.inl n:Key) (.bl true)) (Sum.inl k:Key)).isSome) = !decide (k=n∨k∈ms):=λk=>by
     rw[lS]
     by_cases e:k=n
     ·subst e;simp
     ·have e':¬(Sum.inl k:Key)=Sum.inl n:=λh=>e (by injection h);rw[if_neg e']
      by_cases hk:k∈ms
      ·have:aZ (ms.map λm=>((Sum.inl m:Key),V.bl true)) (Sum.inl k:Key)=some (.bl true):=by
        refine mQ ?_ (mem_map.mpr ⟨k,hk,rfl⟩);rw[map_map];unfold Nodup;rw[pairwise_map];exact hms.imp λh e=>by injection e with e;omega
       rw[this];simp[hk]
      ·have:aZ (ms.map λm=>((Sum.inl m:Key),V.bl true)) (Sum.inl k:Key)=none:=by
        refine pX λhx=>hk ?_;rw[map_map]at hx;obtain⟨m,hm',e⟩:=mem_map.mp hx;injection e with e
        rw[←e];exact hm'
       rw[this];simp[e,hk]
    refine⟨_,rfl,t,rfl,⟨_,SqT.of (s5 _ _ tr.tup)⟩,λp2 hp2=>?_⟩;refine sV (fr:=[some (.ref g)]) zs (λz=>V.ref z.1) (by omega) hp2 (pR (by rw[eS];exact SqT.of (s5 _ _ tr.tup))) rfl (λz=>nC n ms z.2) (λz y _=>y=.ref z.1) (λz y H H' h _=>h) (λz H' k mz s6 _ hk=>?_) (λz H' k mz _ s6 _ hk=>?_) (λys H6 s6 hp6 hys=>?_)
    ·refine⟨_,rfl,z.1,_,_,_,rfl,rfl,SqT.of (s6 _ _ (s5 _ _ (tr.nod z mz))),at0 z.2,_,rfl,g,_,rfl,dG.k (k:=Sum.inl z.2.num) (s6 _ _ hgo),_,rfl,?_⟩;rw[hval];exact hk H' (Same.refl _)
    ·exact⟨_,rfl,hk _ H' (Same.refl _) rfl⟩
    ·have ey:=fR (f:=λz:Addr×Nd=>V.ref z.1) hys (λz y _ h=>h);refine⟨p2,_,rfl,.inl ⟨SqL.of hp6,λl6 hl6=>?_⟩⟩;have s56:=(s5.trans s6).trans (af (o:=.tup ys) hl6);refine o.ok (zs.filter λz=>nC n ms z.2) l6 _ s56 (by rw[ac,ey,eS]) (λy hy=>s56 _ _ (tr.nod y (mem_filter.mp hy).1)) ?_;have en:nds (zs.filter λz=>nC n ms z.2)=(nds zs).filter (nC n ms):=by
      unfold nds;rw[filter_map];rfl
     rw[en];refine .dropped ⟨z.2,bO hz,e⟩ λm hm'=>?_;unfold nC;rw[Bool.not_eq_true',decide_eq_false_iff_not];constructor
     ·intro h hu
      by_cases em:m.num=n
      ·exact h (.inl em)
      ·exact h (.inr ((hm m.num).mpr ⟨m,hm',rfl,(TW.dM hT hn1 hm').mpr ⟨em,hu⟩⟩))
     ·intro h hx;rcases hx with em|hx
      ·exact h (by rw[em];exact .here)
      ·obtain⟨m',h1,h2,h3⟩:=(hm m.num).mp hx;have:m'=m:=hT.inj h1 hm' h2;subst this;exact h ((TW.dM hT hn1 h1).mp h3).2
def pc(cls:TW.Wd→Addr):Sp:=λvs H Q E=>∃t d dd zs,vs=[.ref t,.ref d]∧Tre H t zs∧zs.length≤29∧H d=some (.tup (gI dd))∧dq dd∧Outs H (nds zs) dd cls Q E
theorem ug:FnScope ["tree","deed","word"] ["tree","deed"] (aj tF):=fsc
theorem wc{f:Addr}{fd:FuncData}{cls:TW.Wd→Addr}(F:Fun K "done" "done" tF f fd)(CM:cy P w K mg base 3 "make" ["tree","number","parent","name","stamp"] (oW cls))(CW:cy P w K mg base 2 "write" ["tree","number","stamp"] (lF cls))(CV:cy P w K mg base 3 "move" ["tree","number","parent","name"] (oX cls))(CD:cy P w K mg base 3 "drop" ["tree","number"] (oZ cls)):FnOk P w K mg base (CX1 P w) 4 f fd ["tree","deed"] (pc cls):=by
 obtain⟨fM,fdM,GM,mM,kM,bM⟩:=CM;obtain⟨fW,fdW,GW,mW,kW,bW⟩:=CW;obtain⟨fV,fdV,GV,mV,kV',bV⟩:=CV;obtain⟨fD,fdD,GD,mD,kD,bD⟩:=CD;refine F.okX ug (λvs H Q E h=>?_) (λcdv A outer s H vs Q E hr h=>?_)
 ·obtain⟨t,d,dd,zs,rfl,_⟩:=h;rfl
 ·obtain⟨t,d,dd,zs,rfl,tr,hl,hd,hok,o⟩:=h;have hr2:Room 2 _:=hr.mono (by decide);refine⟨_,ag (aM (i:=2) ug.nd rfl (Or.inl rfl) (aF aD (pv 1) ak (λ_ _=>rfl)))
   (ag (bw (aL gl (pv 2) au (aS _)) (am (ay (ar (E:=E) GM hr rfl mM kM bM .nil (aW aV) (aa (pv 0) (aa (aF aD (pv 1) ak (λ_ _=>rfl)) (aa (aF aD (pv 1) ak (λ_ _=>rfl)) (aa (aF aD (pv 1) ak (λ_ _=>rfl)) (aa (aF aD (pv 1) ak (λ_ _=>rfl)) ae)))))))) aJ)
   (ag (bw (aL gl (pv 2) au (aS _)) (am (ay (ar (E:=E) GW hr2 rfl mW kW bW .nil (aW aV) (aa (pv 0) (aa (aF aD (pv 1) ak (λ_ _=>rfl)) (aa (aF aD (pv 1) ak (λ_ _=>rfl)) ae)))))) aJ)
   (ag (bw (aL gl (pv 2) au (aS _)) (am (ay (ar (E:=E) GV hr rfl mV kV' bV .nil (aW aV) (aa (pv 0) (aa (aF aD (pv 1) ak (λ_ _=>rfl)) (aa (aF aD (pv 1) ak (λ_ _=>rfl)) (aa (aF aD (pv 1) ak (λ_ _=>rfl)) ae))))))) aJ)
   (ag (bw (aL gl (pv 2) au (aS _)) (am (ay (ar (E:=E) GD hr rfl mD kD bD .nil (aW aV) (aa (pv 0) (aa (aF aD (pv 1) ak (λ_ _=>rfl)) ae))))) aJ)
   (am rH))))),?_⟩
  have sd:SqT K H d (gI dd):=SqT.of hd;cases dd with
  |make n p nm st =>
   refine⟨_,rfl,d,_,_,_,rfl,rfl,sd,rfl,?_⟩;refine⟨_,rfl,rfl,_,rfl,bX ⟨_,rfl,_,rfl,d,_,_,_,rfl,rfl,sd,rfl,_,rfl,d,_,_,_,rfl,rfl,sd,rfl,_,rfl,d,_,_,_,rfl,rfl,sd,rfl,_,rfl,d,_,_,_,rfl,rfl,sd,rfl,t,n,p,nm,st,zs,rfl,tr,hl,hok,o⟩⟩
  |write n st =>
   refine⟨_,rfl,d,_,_,_,rfl,rfl,sd,rfl,?_⟩;refine⟨_,rfl,rfl,_,rfl,bv ⟨_,rfl,rfl,_,rfl,bX ⟨_,rfl,_,rfl,d,_,_,_,rfl,rfl,sd,rfl,_,rfl,d,_,_,_,rfl,rfl,sd,rfl,t,n,st,zs,rfl,tr,hok,o⟩⟩⟩
  |move n p nm =>
   refine⟨_,rfl,d,_,_,_,rfl,rfl,sd,rfl,?_⟩;refine⟨_,rfl,rfl,_,rfl,bv ⟨_,rfl,rfl,_,rfl,bv ⟨_,rfl,rfl,_,rfl,bX ⟨_,rfl,_,rfl,d,_,_,_,rfl,rfl,sd,rfl,_,rfl,d,_,_,_,rfl,rfl,sd,rfl,_,rfl,d,_,_,_,rfl,rfl,sd,rfl,t,n,p,nm,zs,rfl,tr,hok,o⟩⟩⟩⟩
  |drop n =>
   refine⟨_,rfl,d,_,_,_,rfl,rfl,sd,rfl,?_⟩;refine⟨_,rfl,rfl,_,rfl,bv ⟨_,rfl,rfl,_,rfl,bv ⟨_,rfl,rfl,_,rfl,bv ⟨_,rfl,rfl,_,rfl,bX ⟨_,rfl,_,rfl,d,_,_,_,rfl,rfl,sd,rfl,t,n,zs,rfl,tr,hok,o⟩⟩⟩⟩⟩
end
end TK
namespace L2
open PySem PySem.Spec PyProof.Rows
def jA(H:Hp):Nat→V→V→Prop
 |0,x,y=>x=y∧cn x=true
 |n+1,x,y=>(x=y∧cn x=true)∨∃a b xs ys,x=.ref a∧y=.ref b∧((H a=some (.tup xs)∧H b=some (.tup ys))∨(H a=some (.lst xs)∧H b=some (.lst ys)))∧xs.length=ys.length∧∀(i:Nat) x' y',xs[i]?=some x'→ys[i]?=some y'→jA H n x' y'
theorem nD{H:Hp}{n:Nat}{x y:V}(h:x=y∧cn x=true):jA H n x y:=by
 cases n with
 |zero=>exact h
 |succ n=>exact .inl h
section
variable{X:Cx}{pins:List (Addr×Obj)}{σ:St}{H:Hp}{s:Shared}
theorem iM{us:List Value}{j:Nat}{u:Value}(h1:j<us.toArray.size)(hu:us[j]?=some u):us.toArray[j]=u:=by
 have:us[j]?=some us.toArray[j]:=by rw[getElem?_eq_getElem (by simpa using h1)];simp
 rw[hu]at this;exact(Option.some.inj this).symm
theorem rp(I:Inv X pins σ H s):∀(n:Nat){A:Around}{x y:V}{u v:Value},aA x u→aA y v→jA H n x y→A.units+n<cLine→EqAt A s u v true:=by
 intro n
 induction n with
 |zero =>
  intro A x y u v ru rv h hu;obtain⟨e,f⟩:=h;subst e;have:=ib (A:=A) (s:=s) ru rv f f
  rwa [gF f]at this
 |succ n ih =>
  intro A x y u v ru rv h hu;rcases h with⟨e,f⟩|⟨a,b,xs,ys,rfl,rfl,hab',hl,hx⟩
  ·subst e;have:=ib (A:=A) (s:=s) ru rv f f
   rwa [gF f]at this
  ·cases ru;cases rv
   by_cases hab:a=b
   ·subst hab;exact EqAt.same _
   ·have part:∀{us ws:List Value},aw xs us→aw ys ws→∀j (h1:j<us.toArray.size) (h2:j<ws.toArray.size),EqAt A.in1 s us.toArray[j] ws.toArray[j] true:=λ{us ws} r1 r2 j h1 h2=>by
     have h1':j<xs.length:=by rw[r1.length];simpa using h1
     have h2':j<ys.length:=by rw[r2.length];simpa using h2
     obtain⟨u',hu1,hu2⟩:=r1.get (getElem?_eq_getElem h1');obtain⟨v',hv1,hv2⟩:=r2.get (getElem?_eq_getElem h2');rw[iM h1 hu1,iM h2 hv1];exact ih hu2 hv2 (hx j _ _ (getElem?_eq_getElem h1') (getElem?_eq_getElem h2')) (by simp[Around.in1_units];omega)
    rcases hab' with⟨ha,hb⟩|⟨ha,hb⟩
    ·obtain⟨_,us,r1,t1⟩:=I.hok a _ ha;obtain⟨_,ws,r2,t2⟩:=I.hok b _ hb;have l1:=r1.length;have l2:=r2.length;have:=RcAt.tuples (A:=A) (s:=s) (e:=λ_=>true) t1 t2 (by omega) (part r1 r2);have e3:((List.range (min us.toArray.size ws.toArray.size)).all (λ_=>true)&&us.toArray.size==ws.toArray.size)=true:=by
      have:us.toArray.size=ws.toArray.size:=by simp only[size_toArray];omega
      simp[this]
     rw[e3]at this;exact EqAt.of_refs hab this
    ·obtain⟨_,us,n1,r1,o1⟩:=I.hok a _ ha;obtain⟨_,ws,n2,r2,o2⟩:=I.hok b _ hb;have l1:=r1.length;have l2:=r2.length;have:=RcAt.lists (A:=A) (s:=s) (e:=λ_=>true) ⟨_,o1,rfl,n1,rfl⟩ ⟨_,o2,rfl,n2,rfl⟩ (by simp only[size_toArray];omega) (by omega) (part r1 r2);rw[show((List.range us.toArray.size).all λ_=>true)=true by rw[all_eq_true];intros;rfl]at this;exact EqAt.of_refs hab this
def kH(H:Hp)(xs ys:List V):Prop:=xs.length=ys.length∧∀(i:Nat) x y,xs[i]?=some x→ys[i]?=some y→jA H 3 x y
theorem jB{H:Hp}{xs:List V}(h:xs.all cn=true):dL H xs xs:=⟨rfl,λi x y hx hy=>by
 rw[hx]at hy;cases hy;exact dk ⟨rfl,all_eq_true.mp h x (mem_of_getElem? hx)⟩⟩
theorem jC(hc:X.calm=true):cK X (.builtin "sorted") (λxs H Q=>∃d kvs,∃ns:List Str,xs=[.ref d]∧Rd H d (.dK kvs)∧kvs.map (·.1)=ns.map (Sum.inr:Str→Key)∧ns.Nodup∧ns.length≤60 ∧
  ∀ms:List Str,ms.Perm ns→ms.Pairwise (λa b=>HT.eF a b=true)→∀p,H p=none→Q (.ref p) (upd H p (.lst (ms.map V.str)))):=by
 intro pins s σ H xs us Q I r h;obtain⟨d,kvs,ns,rfl,hH,hks,hnd',h60,q⟩:=h;obtain⟨u,rfl,ru⟩:=dE r;cases ru;obtain⟨hz,hsm,vs0,rel,dd⟩:=I.dK hH;obtain⟨ep,da⟩:=dd.dictAt;have hzv:vs0.length≤sizeLine:=by rw[←rel.length];exact hz
 refine SRT.jt (κ:=oneType') (PySem.W.kdl_dict hsm) (I.ok.hd hc) da hzv λh1 tk vs hk1 hlt1 hit=>?_;have rv:aw (ns.map V.str) vs:=by
  have:=vC rel hit;have e:(kvs.map λp=>kV p.1)=ns.map V.str:=by
   have:=congrArg (List.map kV) hks;rw[map_map,map_map]at this;exact this
  rw[e]at this;simpa using this
 have hvl:vs.length=ns.length:=by rw[←rv.length,length_map]
 have gd:∀i,i<ns.length→∃t,vs.getD i Value.none=.str (ns.getD i "") t:=λi hi=>by
  obtain⟨v,hv,r⟩:=rv.get (i:=i) (x:=.str (ns.getD i "")) (by rw[getElem?_map,(cN (d:=("":Str)) hi).2];rfl);obtain⟨t,rfl⟩:=r;exact⟨t,by rw[getD_eq_getElem?_getD,hv];rfl⟩
 refine⟨λi j=>HT.eF (ns.getD i "") (ns.getD j ""),⟨λi _=>HT.qY _,λi j k _ _ _ h1 h2=>HT.sN h1 h2,λi j hi hj hij=>HT.qZ ?_⟩,by omega,λA' s' _ _ Q' h2 hQ=>?_,λA' s' _ _ i j C hi hj hC=>?_,λp h' hrow hup kp hg=>?_⟩
 ·rw[getD_eq_getElem?_getD,getD_eq_getElem?_getD,getElem?_eq_getElem (by omega),getElem?_eq_getElem (by omega)];exact λe=>hij ((getElem_inj hnd').mp e)
 ·refine PySem.W.kas_kind (T:=.type "str") (by omega) (λu hu=>?_) (by rfl) (by rfl) hQ;obtain⟨i,hi,e⟩:=List.getElem_of_mem hu;obtain⟨t,e'⟩:=gd i (by omega);rw[getD_eq_getElem?_getD,getElem?_eq_getElem hi,e]at e';rw[show u=_ from e'];exact PySem.W.Looks.now
 ·obtain⟨t1,e1⟩:=gd i (by omega);obtain⟨t2,e2⟩:=gd j (by omega);rw[e1,e2];exact PySem.W.kas_lt_str hC
 ·obtain⟨c,hg⟩:=hg;rw[hvl]at hrow hup;have hin:∀i∈p.toList,i<ns.length:=λi hi=>mem_range.mp (hrow.perm.mem_iff.mp hi);have hperm2:(p.toList.map λi=>ns.getD i "").Perm ns:=by
   refine(hrow.perm.map _).trans ?_;have:(List.range ns.length).map (λi=>ns.getD i "")=ns:=by
    apply ext_getElem?;intro i;rw[getElem?_map]
    by_cases hi:i<ns.length
    ·rw[getElem?_range hi,(cN (d:=("":Str)) hi).2];rfl
    ·rw[getElem?_eq_none (by rw[length_range];omega),getElem?_eq_none (by omega)];rfl
   rw[this]
  have hpl:p.size=ns.length:=hrow.size;have hpw:(p.toList.map λi=>ns.getD i "").Pairwise (λa b=>HT.eF a b=true):=by
   rw[pairwise_iff_getElem];intro i j hi hj hij;have hi':i<p.size:=by rw[length_map,length_toList]at hi;exact hi
   have hj':j<p.size:=by rw[length_map,length_toList]at hj;exact hj
   have:=hup i j hij (by omega);simp only[]at this;rw[getD_eq_getD_getElem?,getD_eq_getD_getElem?,Array.getElem?_eq_getElem hi',Array.getElem?_eq_getElem hj']at this;simpa using this
  refine⟨.ref h1.objs.size,_,I.laid (t':=tk) (o:=.lst ((p.toList.map λi=>ns.getD i "").map V.str)) kp (le_of_lt hlt1) ⟨?_,_,c,ik rv p.toList hin,hg⟩,rfl,q _ hperm2 hpw _ (I.hok.fresh (le_of_lt hlt1))⟩;rw[length_map,hperm2.length_eq,sizeLine_eq];omega
theorem nE:cK X (.type "dict") (λxs H Q=>∃a kvs,xs=[.ref a]∧Rd H a (.dK kvs)∧∀d,H d=none→Q (.ref d) (upd H d (.dK kvs))):=by
 intro pins s σ H xs us Q I r h;obtain⟨a,kvs,rfl,hH,q⟩:=h;obtain⟨u,rfl,ru⟩:=dE r;cases ru;obtain⟨hz,hsm,vs,rel,dd⟩:=I.dK hH;refine kt_call_dict hsm dd (by rw[←rel.length];exact hz) λh' hd hs=>?_;have hkeep:∀b o,s.heap.get? b=some o→h'.get? b=some o:=λb o e=>by
  have:=hs.2 b (ne_of_lt (lt_size e));rw[this];exact get?_push_of_some _ e
 exact⟨.ref s.heap.objs.size,_,I.laid (t':=s.toks) (o:=.dK kvs) hkeep (le_refl _) (ja hz (beq_eq_false_iff_ne.mpr (symm (ne_of_lt I.big))) rel hd),rfl,q _ (I.hok.fresh (le_refl _))⟩
end
end L2
namespace TK
open PySem L2
def Off(S:List Addr)(H H':Hp):Prop:=∀b o,H b=some o→b∉S→H' b=some o
theorem jD{f:Str}{v:V}{r:List (Str×V)}:((f,v)::r).lookup f=some v:=by rw[lookup_cons,beq_self_eq_true]
theorem bx{f g:Str}{v:V}{r:List (Str×V)}(h:¬g=f):((g,v)::r).lookup f=r.lookup f:=by
 have:(f==g)=false:=by simpa using λe:f=g=>h e.symm
 rw[lookup_cons,this]
theorem pe{f:Str}{v w:V}{r:List (Str×V)}:cM f v ((f,w)::r)=(f,v)::r:=by
 show(if f=f then _ else _)=_;rw[if_pos rfl]
theorem bj{f g:Str}{v w:V}{r:List (Str×V)}(h:¬g=f):cM f v ((g,w)::r)=(g,w)::cM f v r:=by
 show(if g=f then _ else _)=_;rw[if_neg h]
def ck(H H':Hp):Prop:=∀b u,H b=some u→(∀xs,u≠.lst xs)→(∀C dx fs,u≠.ins C dx fs)→H' b=some u
theorem ck.trans{H1 H2 H3:Hp}(a:ck H1 H2)(b:ck H2 H3):ck H1 H3:=λp u h n1 n2=>b p u (a p u h n1 n2) n1 n2
theorem bz{H H':Hp}(s:Same H H'):ck H H':=λb u h _ _=>s b u h
theorem jE{H:Hp}{a:Addr}{xs ys:List V}(h:H a=some (.lst xs)):ck H (upd H a (.lst ys)):=λb u hb n _=>by
 rw[ai (λe=>by rw[e,h]at hb;exact n xs (Option.some.inj hb).symm)];exact hb
theorem eV{H:Hp}{a C dx:Addr}{fs gs:List (Str×V)}(h:H a=some (.ins C dx fs)):ck H (upd H a (.ins C dx gs)):=λb u hb _ n=>by
 rw[ai (λe=>by rw[e,h]at hb;exact n C dx fs (Option.some.inj hb).symm)];exact hb
theorem ck.tup{H H':Hp}(s:ck H H'){b:Addr}{xs:List V}(h:H b=some (.tup xs)):H' b=some (.tup xs):=s b _ h (λ_ h=>by cases h) (λ_ _ _ h=>by cases h)
theorem ck.rd{H H':Hp}(s:ck H H'){b:Addr}{kvs:List (Key×V)}(h:Rd H b (.dK kvs)):Rd H' b (.dK kvs):=by
 rcases h with h|⟨o,h⟩
 ·exact .inl (s b _ h (λ_ h=>by cases h) (λ_ _ _ h=>by cases h))
 ·exact .inr ⟨o,s b _ h (λ_ h=>by cases h) (λ_ _ _ h=>by cases h)⟩
theorem Tre.stay{H H':Hp}{t:Addr}{z:ZN}(h:Tre H t z)(s:ck H H'):Tre H' t z:=⟨s.tup h.tup,λz hz=>s.tup (h.nod z hz),h.tr,h.len⟩
abbrev TG:=List (Str×(Addr×ZN))
def cQ(gs:TG):List (Key×V):=gs.map λg=>((Sum.inr g.1:Key),V.ref g.2.1)
structure Tags(H:Hp)(d:Addr)(gs:TG):Prop where
 dct:Rd H d (.dK (cQ gs))
 at':∀g∈gs,Tre H g.2.1 g.2.2
 nd:(gs.map (·.1)).Nodup
 len:gs.length≤50
theorem Tags.stay{H H':Hp}{d:Addr}{gs:TG}(h:Tags H d gs)(s:ck H H'):Tags H' d gs:=⟨s.rd h.dct,λg hg=>(h.at' g hg).stay s,h.nd,h.len⟩
theorem Tags.same{H H':Hp}{d:Addr}{gs:TG}(h:Tags H d gs)(s:Same H H'):Tags H' d gs:=h.stay (bz s)
structure Ent where
 a:Addr
 sa:Addr
 ta:Addr
 da:Addr
 xs:List V
 z:ZN
 gs:TG
structure EntAt(H:Hp)(e:Ent):Prop where
 ob:H e.a=some (.tup [.ref e.sa,.ref e.ta,.ref e.da])
 st:H e.sa=some (.tup e.xs)
 tr:Tre H e.ta e.z
 tg:Tags H e.da e.gs
theorem EntAt.stay{H H':Hp}{e:Ent}(h:EntAt H e)(s:ck H H'):EntAt H' e:=⟨s.tup h.ob,s.tup h.st,h.tr.stay s,h.tg.stay s⟩
abbrev bn(es:List Ent):List V:=es.map λe=>V.ref e.a
def flL(ft t d pl al:Addr):List (Str×V):=[("first_tree",.ref ft),("tree",.ref t),("tag_trees",.ref d),("past",.ref pl),("ahead",.ref al)]
abbrev fi1(t:Addr):List (Str×V):=[("first_tree",V.ref t)]
abbrev fi2(t:Addr):List (Str×V):=[("first_tree",V.ref t),("tree",V.ref t)]
abbrev fi3(t d:Addr):List (Str×V):=[("first_tree",V.ref t),("tree",V.ref t),("tag_trees",V.ref d)]
abbrev fi4(t d pl:Addr):List (Str×V):=[("first_tree",V.ref t),("tree",V.ref t),("tag_trees",V.ref d),("past",V.ref pl)]
theorem yk:¬(("first_tree":Str)="tree"):=by decide +kernel
theorem ym:¬(("first_tree":Str)="tag_trees"):=by decide +kernel
theorem zx:¬(("first_tree":Str)="past"):=by decide +kernel
theorem yn:¬(("first_tree":Str)="ahead"):=by decide +kernel
theorem yo:¬(("tree":Str)="tag_trees"):=by decide +kernel
theorem zy:¬(("tree":Str)="past"):=by decide +kernel
theorem yp:¬(("tree":Str)="ahead"):=by decide +kernel
theorem zz:¬(("tag_trees":Str)="past"):=by decide +kernel
theorem yq:¬(("tag_trees":Str)="ahead"):=by decide +kernel
theorem yr:¬(("past":Str)="ahead"):=by decide +kernel
section
variable{ft t d pl al x:Addr}
theorem zA:(flL ft t d pl al).lookup ("first_tree":Str)=some (.ref ft):=jD
theorem jF:(flL ft t d pl al).lookup ("tree":Str)=some (.ref t):=by unfold flL;rw[bx yk,jD]
theorem uh:cM "tree" (.ref x) (flL ft t d pl al)=flL ft x d pl al:=by unfold flL;rw[bj yk,pe]
theorem gR:(flL ft t d pl al).lookup ("tag_trees":Str)=some (.ref d):=by unfold flL;rw[bx ym,bx yo,jD]
theorem ui:cM "tag_trees" (.ref x) (flL ft t d pl al)=flL ft t x pl al:=by unfold flL;rw[bj ym,bj yo,pe]
theorem qh:(flL ft t d pl al).lookup ("past":Str)=some (.ref pl):=by unfold flL;rw[bx zx,bx zy,bx zz,jD]
theorem uk:(flL ft t d pl al).lookup ("ahead":Str)=some (.ref al):=by unfold flL;rw[bx yn,bx yp,bx yq,bx yr,jD]
theorem yt:cM "ahead" (.ref x) (flL ft t d pl al)=flL ft t d pl x:=by unfold flL;rw[bj yn,bj yp,bj yq,bj yr,pe]
theorem gT:(flL ft t d pl al).length<1000:=by show 5<1000;decide
end
structure LCls(K:PySem.W.Frag)(mg:Str→Option Value)(C:Addr):Prop where
 cl:Cls K C
 n0:di K C "first_tree"
 n1:di K C "tree"
 n2:di K C "tag_trees"
 n3:di K C "past"
 n4:di K C "ahead"
 mgC:mg "Ledger"=some (.ref C)
structure LAt(C:Addr)(H:Hp)(p ft t d pl al:Addr)(zf z:ZN)(gs:TG)(es as:List Ent):Prop where
 ob:∃dx,H p=some (.ins C dx (flL ft t d pl al))
 tf:Tre H ft zf
 tr:Tre H t z
 tg:Tags H d gs
 ps:H pl=some (.lst (bn es))
 ah:H al=some (.lst (bn as))
 ne:pl≠al
 ep:∀e∈es,EntAt H e
 ea:∀e∈as,EntAt H e
theorem LAt.same{C:Addr}{H H':Hp}{p ft t d pl al:Addr}{zf z:ZN}{gs:TG}{es as:List Ent}(h:LAt C H p ft t d pl al zf z gs es as)(s:Same H H'):LAt C H' p ft t d pl al zf z gs es as :=
 ⟨let⟨dx,e⟩:=h.ob;⟨dx,s _ _ e⟩,h.tf.same s,h.tr.same s,h.tg.same s,s _ _ h.ps,s _ _ h.ah,h.ne,λe he=>(h.ep e he).stay (bz s),λe he=>(h.ea e he).stay (bz s)⟩
section
variable{P:Program}{w:World}{K:PySem.W.Frag}{mg:Str→Option Value}{base:Heap}
def jG(C:Addr):Sp:=λvs H Q _=>∃p dx t z,vs=[.ref p,.ref t]∧H p=some (.ins C dx [])∧Tre H t z∧∀d pl al H',H d=none→H pl=none→H al=none→LAt C H' p t t d pl al z z [] [] []→Off [p] H H'→Q .non H'
theorem yu:FnScope ["self","tree"] ["self","tree"] (aj eu):=fsc
theorem we{f C:Addr}{fd:FuncData}(F:Fun K "__init__" "Ledger.__init__" eu f fd)(T:LCls K mg C):FnOk P w K mg base CX0 1 f fd ["self","tree"] (jG C):=by
 refine F.ok yu (λvs H Q E h=>?_) (λcdv A outer s H vs Q E hr h=>?_)
 ·obtain⟨p,dx,t,z,rfl,_⟩:=h;rfl
 ·obtain⟨p,dx,t,z,rfl,hp,tr,k⟩:=h;refine⟨_,ag (dw (pv 0) (pv 1) rfl) (ag (dw (pv 0) (pv 1) rfl) (ag (dw (pv 0) lV rfl) (ag (dw (pv 0) (aY ae) rfl) (am (dw (pv 0) (aY ae) rfl))))),?_⟩;refine⟨_,rfl,_,rfl,p,C,dx,[],rfl,hp,T.cl,T.n0,(by show 0<1000;decide),?_⟩;have q1:upd H p (.ins C dx (fi1 t)) p=some (.ins C dx (fi1 t)):=ac;have f1:∀b,upd H p (.ins C dx (fi1 t)) b=none→H b=none:=λb e=>by
   rw[ai λz=>by rw[z,ac]at e;cases e]at e;exact e
  have o1:Off [p] H (upd H p (.ins C dx (fi1 t))):=λb o e hb=>by
   rw[ai (by simpa using hb)];exact e
  show fA _ _ _ _ (upd H p (.ins C dx (fi1 t)));generalize upd H p (.ins C dx (fi1 t))=H1 at q1 f1 o1⊢;refine⟨_,rfl,_,rfl,p,C,dx,_,rfl,q1,T.cl,T.n1,(by show 1<1000;decide),?_⟩;rw[show cM "tree" (V.ref t) (fi1 t)=(fi2 t)from bj yk];have q2:upd H1 p (.ins C dx (fi2 t)) p=some (.ins C dx (fi2 t)):=ac;have f2:∀b,upd H1 p (.ins C dx (fi2 t)) b=none→H1 b=none:=λb e=>by
   rw[ai λz=>by rw[z,ac]at e;cases e]at e;exact e
  have o2:Off [p] H1 (upd H1 p (.ins C dx (fi2 t))):=λb o e hb=>by
   rw[ai (by simpa using hb)];exact e
  generalize upd H1 p (.ins C dx (fi2 t))=H2 at q2 f2 o2⊢;intro d hd;have nd:p≠d:=av q2 hd;refine⟨_,rfl,p,C,dx,_,rfl,by rw[ai nd];exact q2,T.cl,T.n2,(by show 2<1000;decide),?_⟩;rw[show cM "tag_trees" (V.ref d) (fi2 t)=(fi3 t d)by rw[bj ym,bj yo];rfl];have q3:upd (upd H2 d (.dK [])) p (.ins C dx (fi3 t d)) p=some (.ins C dx (fi3 t d)):=ac;have d3:upd (upd H2 d (.dK [])) p (.ins C dx (fi3 t d)) d=some (.dK []):=by rw[ai (symm nd),ac]
  have f3:∀b,upd (upd H2 d (.dK [])) p (.ins C dx (fi3 t d)) b=none→H2 b=none:=λb e=>by
   rw[ai (λz=>by rw[z,ac]at e;cases e),ai (λz=>by rw[z,ac]at e;cases e)]at e;exact e
  have o3:Off [p] H2 (upd (upd H2 d (.dK [])) p (.ins C dx (fi3 t d))):=λb o e hb=>by
   rw[ai (by simpa using hb),ai (av e hd)];exact e
  show fA _ _ _ _ (upd (upd H2 d (.dK [])) p (.ins C dx (fi3 t d)));generalize upd (upd H2 d (.dK [])) p (.ins C dx (fi3 t d))=H3 at q3 d3 f3 o3⊢;refine⟨zero_le _,λpl hpl=>?_⟩;have np:p≠pl:=av q3 hpl;refine⟨_,rfl,p,C,dx,_,rfl,by rw[ai np];exact q3,T.cl,T.n3,(by show 3<1000;decide),?_⟩;rw[show cM "past" (V.ref pl) (fi3 t d)=(fi4 t d pl)by rw[bj zx,bj zy,bj zz];rfl];have q4:upd (upd H3 pl (.lst [])) p (.ins C dx (fi4 t d pl)) p=some (.ins C dx (fi4 t d pl)):=ac;have l4:upd (upd H3 pl (.lst [])) p (.ins C dx (fi4 t d pl)) pl=some (.lst []):=by rw[ai (symm np),ac]
  have f4:∀b,upd (upd H3 pl (.lst [])) p (.ins C dx (fi4 t d pl)) b=none→H3 b=none:=λb e=>by
   rw[ai (λz=>by rw[z,ac]at e;cases e),ai (λz=>by rw[z,ac]at e;cases e)]at e;exact e
  have o4:Off [p] H3 (upd (upd H3 pl (.lst [])) p (.ins C dx (fi4 t d pl))):=λb o e hb=>by
   rw[ai (by simpa using hb),ai (av e hpl)];exact e
  show _;generalize upd (upd H3 pl (.lst [])) p (.ins C dx (fi4 t d pl))=H4 at q4 l4 f4 o4⊢;refine⟨zero_le _,λal hal=>?_⟩;have na:p≠al:=av q4 hal;refine⟨_,rfl,p,C,dx,_,rfl,by rw[ai na];exact q4,T.cl,T.n4,(by show 4<1000;decide),?_⟩;rw[show cM "ahead" (V.ref al) (fi4 t d pl)=flL t t d pl al by rw[bj yn,bj yp,bj yq,bj yr];rfl];have o5:Off [p] H4 (upd (upd H4 al (.lst [])) p (.ins C dx (flL t t d pl al))):=λb o e hb=>by
   rw[ai (by simpa using hb),ai (av e hal)];exact e
  have oA:Off [p] H (upd (upd H4 al (.lst [])) p (.ins C dx (flL t t d pl al))):=λb o e hb=>o5 _ _ (o4 _ _ (o3 _ _ (o2 _ _ (o1 _ _ e hb) hb) hb) hb) hb;have nt:∀{b:Addr}{xs:List V},H b=some (.tup xs)→b∉[p]:=λ{b xs} hb h=>by
   have e:b=p:=by simpa using h
   rw[e,hp]at hb;cases hb
  have tA:Tre (upd (upd H4 al (.lst [])) p (.ins C dx (flL t t d pl al))) t z:=⟨oA _ _ tr.tup (nt tr.tup),λy hy=>oA _ _ (tr.nod y hy) (nt (tr.nod y hy)),tr.tr,tr.len⟩;refine k d pl al _ (f1 _ (f2 _ hd)) (f1 _ (f2 _ (f3 _ hpl))) (f1 _ (f2 _ (f3 _ (f4 _ hal)))) ⟨⟨dx,ac⟩,tA,tA,⟨.inl (o5 _ _ (o4 _ _ d3 (by simpa using symm nd)) (by simpa using symm nd)),(λg hg=>nomatch hg),nodup_nil,by decide⟩,o5 _ _ l4 (by simpa using symm np),?_,av l4 hal,(λe he=>nomatch he),(λe he=>nomatch he)⟩ oA;rw[ai (symm na),ac];rfl
def ip(C:Addr):Sp:=λvs H Q _=>∃p ft t d pl al zf z gs es as,vs=[.ref p]∧LAt C H p ft t d pl al zf z gs es as∧Q (.ref t) H
theorem yv:FnScope ["self"] ["self"] (aj eT):=fsc
theorem wf{f C:Addr}{fd:FuncData}(F:Fun K "now" "Ledger.now" eT f fd)(T:LCls K mg C):FnOk P w K mg base CX0 1 f fd ["self"] (ip C):=by
 refine F.ok yv (λvs H Q E h=>?_) (λcdv A outer s H vs Q E hr h=>?_)
 ·obtain⟨p,ft,t,d,pl,al,zf,z,gs,es,as,rfl,_⟩:=h;rfl
 ·obtain⟨p,ft,t,d,pl,al,zf,z,gs,es,as,rfl,L,q⟩:=h;obtain⟨dx,hp⟩:=L.ob;exact⟨_,am (ay (aX (pv 0) rfl)),_,rfl,p,C,dx,_,_,rfl,hp,T.cl,T.n1,jF,q⟩
def iq(C:Addr):Sp:=λvs H Q _=>∃p ft t d pl al zf z gs es as,vs=[.ref p]∧LAt C H p ft t d pl al zf z gs es as∧∀u,H u=none→Q (.ref u) (upd H u (.tup [.int es.length,.int as.length]))
theorem yw:FnScope ["self"] ["self"] (aj dB):=fsc
theorem wg{f C:Addr}{fd:FuncData}(F:Fun K "sizes" "Ledger.sizes" dB f fd)(Tx:Txt mg)(T:LCls K mg C):FnOk P w K mg base CX0 1 f fd ["self"] (iq C):=by
 refine F.ok yw (λvs H Q E h=>?_) (λcdv A outer s H vs Q E hr h=>?_)
 ·obtain⟨p,ft,t,d,pl,al,zf,z,gs,es,as,rfl,_⟩:=h;rfl
 ·obtain⟨p,ft,t,d,pl,al,zf,z,gs,es,as,rfl,L,q⟩:=h;obtain⟨dx,hp⟩:=L.ob;refine⟨_,am (ay (aK (aa (aC cX rfl Tx.len boot_len (aa (aX (pv 0) rfl) ae)) (aa (aC cX rfl Tx.len boot_len (aa (aX (pv 0) rfl) ae)) ae)))),?_⟩;refine⟨_,rfl,p,C,dx,_,_,rfl,hp,T.cl,T.n3,qh,pl,_,rfl,.inl (SqL.of L.ps),_,rfl,p,C,dx,_,_,rfl,hp,T.cl,T.n4,uk,al,_,rfl,.inl (SqL.of L.ah),(show 2≤sizeLine from ap (by decide)),λu hu=>?_⟩;rw[length_map,length_map];exact q u hu
end
theorem cf{ft t d pl al:Addr}{m:Str}(h0:¬(("first_tree":Str)=m))(h1:¬(("tree":Str)=m))(h2:¬(("tag_trees":Str)=m))(h3:¬(("past":Str)=m))(h4:¬(("ahead":Str)=m)):(flL ft t d pl al).lookup m=none:=by
 unfold flL;rw[bx h0,bx h1,bx h2,bx h3,bx h4];rfl
theorem kJ{H H':Hp}(s:Same H H'){b:Addr}(h:H' b=none):H b=none:=by
 cases hh:H b with
 |none=>rfl
 |some o=>rw[s _ _ hh]at h;cases h
section
variable{P:Program}{w:World}{K:PySem.W.Frag}{mg:Str→Option Value}{base:Heap}
def qi(C:Addr):Sp:=λvs H Q _=>∃p ft t d pl al zf z gs es as sa xs t' z' d' gs',vs=[.ref p,.ref sa,.ref t',.ref d']∧LAt C H p ft t d pl al zf z gs es as∧H sa=some (.tup xs)∧Tre H t' z'∧Tags H d' gs'∧es.length≤200 ∧
 ∀q al' H',H al'=none→LAt C H' p ft t' d' pl al' zf z' gs' (es++[⟨q,sa,t,d,xs,z,gs⟩]) []→ck H H'→Off [p,pl] H H'→Q .non H'
theorem zB:FnScope ["self","step","tree","tag_trees"] ["self","step","tree","tag_trees"] (aj dz):=fsc
theorem yx{f C:Addr}{fd:FuncData}(F:Fun K "go_on" "Ledger.go_on" dz f fd)(T:LCls K mg C):FnOk P w K mg base CX0 1 f fd ["self","step","tree","tag_trees"] (qi C):=by
 refine F.ok zB (λvs H Q E h=>?_) (λcdv A outer s H vs Q E hr h=>?_)
 ·obtain⟨p,ft,t,d,pl,al,zf,z,gs,es,as,sa,xs,t',z',d',gs',rfl,_⟩:=h;rfl
 ·obtain⟨p,ft,t,d,pl,al,zf,z,gs,es,as,sa,xs,t',z',d',gs',rfl,L,hsa,tr',tg',hl,q⟩:=h;obtain⟨dx,hp⟩:=L.ob;refine⟨_,ag (aB (cp plainAttrs_list PySem.F.slot_list_append PySem.F.type_list_append aH (aX (pv 0) rfl) (aa (aK (aa (pv 1) (aa (aX (pv 0) rfl) (aa (aX (pv 0) rfl) ae)))) ae)))
   (ag (dw (pv 0) (aY ae) rfl) (ag (dw (pv 0) (pv 2) rfl) (am (dw (pv 0) (pv 3) rfl)))),?_⟩
  refine⟨_,rfl,p,C,dx,_,_,rfl,hp,T.cl,T.n3,qh,.inl ⟨rfl,_,SqL.of L.ps⟩,_,rfl,_,rfl,p,C,dx,_,_,rfl,hp,T.cl,T.n1,jF,_,rfl,p,C,dx,_,_,rfl,hp,T.cl,T.n2,gR,(show 3≤sizeLine from ap (by decide)),λe he=>?_⟩;have s1:=af (o:=.tup [.ref sa,.ref t,.ref d]) he;have g1:upd H e (.tup [.ref sa,.ref t,.ref d]) e=some (.tup [.ref sa,.ref t,.ref d]):=ac;generalize upd H e (.tup [.ref sa,.ref t,.ref d])=H1 at s1 g1⊢;have L1:=L.same s1;have hp1:=s1 _ _ hp;refine⟨pl,_,_,rfl,rfl,L1.ps,ao (by rw[length_map];omega),?_⟩;have npl:p≠pl:=lM hp1 L1.ps (by intro h;cases h);have k2:=jE (ys:=bn es++[.ref e]) L1.ps;have hp2:upd H1 pl (.lst (bn es++[.ref e])) p=some (.ins C dx (flL ft t d pl al)):=by rw[ai npl];exact hp1
  have hl2:upd H1 pl (.lst (bn es++[.ref e])) pl=some (.lst (bn (es++[⟨e,sa,t,d,xs,z,gs⟩]))):=by rw[ac];unfold bn;rw[map_append];rfl
  have o2:Off [p,pl] H1 (upd H1 pl (.lst (bn es++[.ref e]))):=λb o h hb=>by rw[ai (λz=>hb (by rw[z];simp))];exact h
  generalize upd H1 pl (.lst (bn es++[.ref e]))=H2 at k2 hp2 hl2 o2⊢;refine⟨zero_le _,λal' hal'=>?_⟩;have na:p≠al':=av hp2 hal';have nla:pl≠al':=av hl2 hal';have fa:H al'=none:=by
   cases hh:H al' with
   |none=>rfl
   |some o =>
    have h2:=o2 _ _ (s1 _ _ hh) (by simp[symm na,symm nla]);rw[hal']at h2;cases h2
  refine⟨_,rfl,p,C,dx,_,rfl,by rw[ai na];exact hp2,T.cl,T.n4,gT,?_⟩;rw[yt];have hpA:upd H2 al' (.lst []) p=some (.ins C dx (flL ft t d pl al)):=by rw[ai na];exact hp2
  have sA:=af (o:=.lst []) hal';have gA:upd H2 al' (.lst []) al'=some (.lst []):=ac;generalize upd H2 al' (.lst [])=H3 at hpA sA gA⊢;have k4:=eV (gs:=flL ft t d pl al') hpA;have g4:upd H3 p (.ins C dx (flL ft t d pl al')) p=some (.ins C dx (flL ft t d pl al')):=ac;have o4:Off [p,pl] H3 (upd H3 p (.ins C dx (flL ft t d pl al'))):=λb o h hb=>by rw[ai (λz=>hb (by rw[z];simp))];exact h
  have l4:upd H3 p (.ins C dx (flL ft t d pl al')) pl=some (.lst (bn (es++[⟨e,sa,t,d,xs,z,gs⟩]))):=by rw[ai (symm npl)];exact sA _ _ hl2
  have a4:upd H3 p (.ins C dx (flL ft t d pl al')) al'=some (.lst []):=by rw[ai (symm na)];exact gA
  generalize upd H3 p (.ins C dx (flL ft t d pl al'))=H4 at k4 g4 o4 l4 a4⊢;refine⟨_,rfl,_,rfl,p,C,dx,_,rfl,g4,T.cl,T.n1,gT,?_⟩;rw[uh];have k5:=eV (gs:=flL ft t' d pl al') g4;have g5:upd H4 p (.ins C dx (flL ft t' d pl al')) p=some (.ins C dx (flL ft t' d pl al')):=ac;have o5:Off [p,pl] H4 (upd H4 p (.ins C dx (flL ft t' d pl al'))):=λb o h hb=>by rw[ai (λz=>hb (by rw[z];simp))];exact h
  have l5:upd H4 p (.ins C dx (flL ft t' d pl al')) pl=some (.lst (bn (es++[⟨e,sa,t,d,xs,z,gs⟩]))):=by rw[ai (symm npl)];exact l4
  have a5:upd H4 p (.ins C dx (flL ft t' d pl al')) al'=some (.lst []):=by rw[ai (symm na)];exact a4
  generalize upd H4 p (.ins C dx (flL ft t' d pl al'))=H5 at k5 g5 o5 l5 a5⊢;refine⟨_,rfl,_,rfl,p,C,dx,_,rfl,g5,T.cl,T.n2,gT,?_⟩;rw[ui];have k6:=eV (gs:=flL ft t' d' pl al') g5;have o6:Off [p,pl] H5 (upd H5 p (.ins C dx (flL ft t' d' pl al'))):=λb o h hb=>by rw[ai (λz=>hb (by rw[z];simp))];exact h
  have kA:ck H (upd H5 p (.ins C dx (flL ft t' d' pl al'))):=(((((bz s1).trans k2).trans (bz sA)).trans k4).trans k5).trans k6;have k16:ck H1 (upd H5 p (.ins C dx (flL ft t' d' pl al'))):=((((k2).trans (bz sA)).trans k4).trans k5).trans k6;refine q e al' _ fa ⟨⟨dx,ac⟩,L.tf.stay kA,tr'.stay kA,tg'.stay kA,by rw[ai (symm npl)];exact l5,by rw[ai (symm na)];exact a5,nla,λy hy=>?_,(λy hy=>nomatch hy)⟩ kA λb o h hb=>o6 _ _ (o5 _ _ (o4 _ _ (sA _ _ (o2 _ _ (s1 _ _ h) hb)) hb) hb) hb;rcases mem_append.mp hy with h|h
  ·exact(L.ep y h).stay kA
  ·have ey:y=⟨e,sa,t,d,xs,z,gs⟩:=by simpa using h
   rw[ey];exact⟨k16.tup g1,kA.tup hsa,L.tr.stay kA,L.tg.stay kA⟩
def cT(C:Addr)(cls:TW.Wd→Addr):Sp:=λvs H Q E=>∃p ft t d pl al zf z gs es as sa dd,vs=[.ref p,.ref sa]∧LAt C H p ft t d pl al zf z gs es as∧z.length≤29∧H sa=some (.tup (gI dd))∧dq dd∧es.length≤200 ∧
 (∀t' us q al' H',H al'=none→TW.Told (nds z) dd (.inr (nds us))→LAt C H' p ft t' d pl al' zf us gs (es++[⟨q,sa,t,d,gI dd,z,gs⟩]) []→ck H H'→Off [p,pl] H H'→Q .non H') ∧
 ∀wd H',Same H H'→TW.Told (nds z) dd (.inl wd)→E (.ref (cls wd)) none H'
theorem zC:FnScope ["self","deed"] ["self","deed"] (aj fY):=fsc
theorem yy{f C fG:Addr}{fd fdG:FuncData}{cls:TW.Wd→Addr}(F:Fun K "do" "Ledger.do" fY f fd)(T:LCls K mg C)(CD:cy P w K mg base 4 "done" ["tree","deed"] (pc cls))(MG:Meth K C "go_on" fG)(GG:FnOk P w K mg base CX0 1 fG fdG ["self","step","tree","tag_trees"] (qi C))(bG:aq K fdG ["self","step","tree","tag_trees"] []):FnOk P w K mg base (CX1 P w) 5 f fd ["self","deed"] (cT C cls):=by
 obtain⟨fD,fdD,GD,mD,kD,bD⟩:=CD;refine F.okX zC (λvs H Q E h=>?_) (λcdv A outer s H vs Q E hr h=>?_)
 ·obtain⟨p,ft,t,d,pl,al,zf,z,gs,es,as,sa,dd,rfl,_⟩:=h;rfl
 ·have hr1:Room 1 _:=hr.mono (by decide);refine⟨_,am (aB (ba (pv 0) T.cl MG GG hr1 bG .nil aU (aa (pv 1) (aa (ar (E:=E) GD hr rfl mD kD bD .nil (aW aV) (aa (aX (pv 0) rfl) (aa (pv 1) ae))) (aa (aX (pv 0) rfl) ae))))),?_⟩;obtain⟨p,ft,t,d,pl,al,zf,z,gs,es,as,sa,dd,rfl,L,hz,hsa,hok,hl,qo,qE⟩:=h;obtain⟨dx,hp⟩:=L.ob;refine⟨_,rfl,p,dx,_,rfl,hp,cf (by decide +kernel) (by decide +kernel) (by decide +kernel) (by decide +kernel) (by decide +kernel),_,rfl,_,rfl,p,C,dx,_,_,rfl,hp,T.cl,T.n1,jF,_,rfl,t,sa,dd,z,rfl,L.tr,hz,hsa,hok,⟨λus t' H1 s1 ht' hA told=>?_,λwd H1 s1 told=>qE wd H1 s1 told⟩⟩;have L1:=L.same s1;have Tb:Tre H1 t' us:=⟨ht',hA,told.tree L.tr.tr hok.pos,by have:=told.len;rw[bi,bi]at this;omega⟩;exact⟨_,rfl,p,C,dx,_,_,rfl,s1 _ _ hp,T.cl,T.n2,gR,p,ft,t,d,pl,al,zf,z,gs,es,as,sa,gI dd,t',us,d,gs,rfl,L1,s1 _ _ hsa,Tb,L1.tg,hl,λq al' H' fa L' k o=>qo t' us q al' H' (kJ s1 fa) told L' ((bz s1).trans k) λb o' h hb=>o _ _ (s1 _ _ h) hb⟩
end
def letters:Str:="abcdefghijklmnopqrstuvwxyz"
def inL(c:Nat):Bool:=!(Builtin.Str.occurrences letters ⟨#[c]⟩ 0 letters.length 1).isEmpty
def cO(x:Str):Bool:=decide (1≤x.length)&&decide (x.length≤5)&&x.cps.toList.all inL
theorem ul:FnScope ["thing"] ["thing"] (aj mX):=fsc
end TK
namespace L2
open PySem PySem.Spec PyProof.Rows
section
variable{X:Cx}
theorem nF(i:Int)(h0:-1≤i)(h1:i≤99):(ofString (toString i)).length≤100:=by
 have key:∀n:Fin 101,(ofString (toString (((n.val:Nat):Int)-1))).length≤100:=by decide +kernel
 have:=key ⟨(i+1).toNat,by omega⟩;have e:(((i+1).toNat:Nat):Int)-1=i:=by omega
 rw[e]at this;exact this
theorem qj{e:Expr}{te:TE}{b:Nat}{p:Pos}{ps:List Expr}{t:TJ}(he:PE X e te)(h:PJ X ps b t):PJ X (.FormattedValue e (-1) none p::ps) (100+b) (λσ H k=>te σ H λv H1=>∃i:Int,v=.int i∧-1≤i∧i≤99∧t σ H1 k):=by
 intro out pins s σ H Q I hb hq;refine joinParts_cons (FormattedValue_plain (thn (he pins _ σ H _ I hq) λv s1 hpt=>?_));obtain⟨y,H1,I1,r1,q1⟩:=hpt;obtain⟨i,rfl,h0,h1,q⟩:=q1;obtain⟨tk,rfl⟩:=r1;have h2:=nF i h0 h1;have hl:(out++ofString (toString i)).length=out.length+(ofString (toString i)).length:=strLen_append ..;refine formatField_int_small (lt_of_le_of_lt (log2_le_self _) (by omega)) ⟨le_of_lt (ao (by omega)),?_⟩;exact h _ pins _ σ H1 Q (I1.tok _) (by omega) q
theorem cU{M:Model}{A:Around}{E:Value→Shared→Prop}{s:Shared}{env:Env}{value:Expr}{pos:Pos}{Q:Value→Shared→Prop}(h:wpAny M A (eval value env) (λv s₁=>wpAny M A (pyReprObj v) (λv' s₂=>wpAny M A (formatField v' empty) Q E s₂) E s₁) E s):wpAny M A (eval (.FormattedValue value 114 none pos) env) Q E s:=by
 show wpAny M A (do let v ← eval value env;standAt pos;formatted pos (← holding [v] (converted 114 v)) none) Q E s
 refine wpAny_bind (wpAny_mono h (λv s₁ h₁=>?_) λ_ _ x=>x);refine wpAny_bind (wpAny_standAt ?_);show wpAny _ _ (do let v' ← holding [v] (pyReprObj v);formatField v' empty) Q E s₁
 exact wpAny_bind (wpAny_holding h₁)
theorem wj{e:Expr}{te:TE}{b:Nat}{p:Pos}{ps:List Expr}{t:TJ}(he:PE X e te)(h:PJ X ps b t):PJ X (.FormattedValue e 114 none p::ps) (300+b) (λσ H k=>te σ H λv H1=>∃x:Str,v=.str x∧(reprText x).length≤300∧t σ H1 k):=by
 intro out pins s σ H Q I hb hq;refine joinParts_cons (cU (thn (he pins _ σ H _ I hq) λv s1 hpt=>?_));obtain⟨y,H1,I1,r1,q1⟩:=hpt;obtain⟨x,rfl,hx,q⟩:=q1;obtain⟨tk,rfl⟩:=r1;have hl:(out++reprText x).length=out.length+(reprText x).length:=strLen_append ..;refine wpAny_pyReprObj_str (formatField_str (λt' tk'=>⟨le_of_lt (ao (by omega)),?_⟩) (le_of_lt (ao (by omega)))) (le_of_lt (ao (by omega)));exact h _ pins _ σ H1 Q (I1.tok _) (by omega) q
end
end L2
namespace TK
open PySem L2
section
variable{P:Program}{w:World}{K:PySem.W.Frag}{mg:Str→Option Value}{base:Heap}
def ff(C:Addr):Sp:=λvs H Q _=>∃p ft t d pl al zf z gs es as,vs=[.ref p]∧LAt C H p ft t d pl al zf z gs es as∧∀ms:List Str,ms.Perm (gs.map (·.1))→ms.Pairwise (λa b=>HT.eF a b=true)→∀l,H l=none→Q (.ref l) (upd H l (.lst (ms.map V.str)))
theorem wl:FnScope ["self"] ["self"] (aj eA):=fsc
theorem um{f C:Addr}{fd:FuncData}(F:Fun K "tags" "Ledger.tags" eA f fd)(Tx:Txt mg)(T:LCls K mg C):FnOk P w K mg base CX0 1 f fd ["self"] (ff C):=by
 refine F.ok wl (λvs H Q E h=>?_) (λcdv A outer s H vs Q E hr h=>?_)
 ·obtain⟨p,ft,t,d,pl,al,zf,z,gs,es,as,rfl,_⟩:=h;rfl
 ·obtain⟨p,ft,t,d,pl,al,zf,z,gs,es,as,rfl,L,q⟩:=h;obtain⟨dx,hp⟩:=L.ob;refine⟨_,am (ay (aC (jC rfl) rfl Tx.sorted boot_sorted (aa (aX (pv 0) rfl) ae))),?_⟩;have hlen:=L.tg.len;exact⟨_,rfl,p,C,dx,_,_,rfl,hp,T.cl,T.n2,gR,d,_,gs.map (·.1),rfl,L.tg.dct,by unfold cQ;rw[map_map,map_map];rfl,L.tg.nd,by rw[length_map];omega,λms h1 h2 l hl=>q ms h1 h2 l hl⟩
def fg:Sp:=λvs H Q _=>∃x:Str,vs=[.str x]∧x.length≤100∧∀H',Same H H'→Q (.bl (cO x)) H'
theorem jH{f:Addr}{fd:FuncData}(F:Fun K "is_name" "is_name" mX f fd)(T:Txt mg):FnOk P w K mg base CX0 1 f fd ["thing"] fg:=by
 obtain⟨tl,hL⟩:=T.letters;obtain⟨tn,hN⟩:=T.longest;refine F.ok ul (λvs H Q E h=>?_) (λcdv A outer s H vs Q E hr h=>?_)
 ·obtain⟨v,rfl,_⟩:=h;rfl
 ·obtain⟨x,rfl,hx,k⟩:=h;refine⟨_,ag (bw (PW.pt (pw_or (dW (fz (aC iy rfl T.isin boot_isinstance (aa (pv 0) (aa (kS (v:=.ty "str") rfl T.str boot_str rfl) ae))) (λ_=>rfl)))
    (pw_or1 (dW (rR wM wM ak (aC lg rfl T.len boot_len (aa (pv 0) ae)) (bg (v:=.int 5) rfl hN ⟨_,rfl⟩))))))
   (am (ay ir)) aJ)
   (am (ay (aC (sG rfl) rfl T.all boot_all (aa (jW (N:=["sign"]) (k:=1) (js:=[]) (g:=cm 0) rfl (ji rfl (by decide +kernel) (by decide +kernel) (by decide +kernel)) rfl (λi j x h=>by simp at h)
    (xL (pv 0)) (λs H fp=>ci (i:=0) (show(["sign"]:List Str).Nodup by decide +kernel) rfl (Or.inl rfl) (Or.inr rfl)) (λs H fp=>kZ qD (pv 0) (bg (v:=.str letters) rfl hL ⟨_,rfl⟩) (by with_unfolding_all rfl))) ae)))),?_⟩
  refine⟨_,rfl,_,_,_,_,rfl,.str x,(by kernel_rfl:_=some true),_,rfl,bv ?_⟩;refine⟨_,rfl,x,rfl,le_of_lt (ao (by omega)),_,_,rfl,rfl,_,rfl,?_⟩
  by_cases a1:1≤x.length
  ·have h1:decide ((1:Int)≤(x.length:Int))=true:=decide_eq_true (by omega);rw[h1];refine bX ⟨_,_,rfl,rfl,_,rfl,?_⟩
   by_cases a2:x.length≤5
   ·have h2:decide ((x.length:Int)≤5)=true:=decide_eq_true (by omega);rw[h2];refine bv ?_;have en:cO x=x.cps.toList.all inL:=by unfold cO;rw[decide_eq_true a1,decide_eq_true a2];rfl
    have hsz:x.cps.size=x.length:=rfl;refine⟨_,rfl,x,rfl,λp hp=>?_⟩;refine wR (k:=1) (js:=[]) (J:=Its x) (p:=p) x.cps.size (by omega) (λi ys σ' H'=>ys=((x.cps.toList.take i).map inL).map V.bl∧σ'.length=1∧Same H H'∧H' p=some (.lst ys))
     ⟨rfl,rfl,af hp,ac⟩ (λi ys σ' H' h=>?_) (λi ys σ' H' hi h=>hi) (λys σ' H' h=>?_) (λi ys σ' H' hi h v H2 hy=>?_) ?_ ?_
    ·rw[h.1,length_map,length_map,length_take];omega
    ·obtain⟨e1,_,s1,e2⟩:=h;have e3:ys=(x.cps.toList.map inL).map V.bl:=by rw[e1,List.take_of_length_le (by simp)]
     subst e3;refine⟨le_refl _,_,_,rfl,SqL.of e2,?_⟩;have e4:(x.cps.toList.map inL).all id=cO x:=by rw[all_map,en];rfl
     rw[e4];exact k _ s1
    ·obtain⟨e1,e0,s1,e2⟩:=h;obtain⟨rfl,c,hc,rfl⟩:=hy;refine⟨_,getElem?_set_self (by omega),_,_,rfl,rfl,e2,?_,by simpa using e0,bq hp s1,ac⟩
     have hc':x.cps.toList[i]?=some c:=by simpa using hc
     rw[e1,take_succ,hc'];simp[inL]
    ·intro _ _ _ _ _ m q;exact m _ _ q
    ·rintro _ _ _ _ m ⟨v,hv,i,j,a1,a2,q⟩;exact⟨v,hv,i,j,a1,a2,m _ _ q⟩
   ·have h2:decide ((x.length:Int)≤5)=false:=decide_eq_false (by omega);have en:cO x=false:=by unfold cO;rw[decide_eq_false a2,Bool.and_false];rfl
    rw[h2];have:=k H (Same.refl _);rw[en]at this;exact bX this
  ·have h1:decide ((1:Int)≤(x.length:Int))=false:=decide_eq_false (by omega);have en:cO x=false:=by unfold cO;rw[decide_eq_false a1];rfl
   rw[h1];have:=k H (Same.refl _);rw[en]at this;exact bv ⟨false,rfl,bX this⟩
end
def fj(gs:TG)(x:Str)(v:Addr×ZN):TG:=if (gs.any λg=>decide (g.1=x))=true then gs.map (λg=>if g.1=x then (g.1,v)else g)else gs++[(x,v)]
theorem uo(gs:TG)(x:Str)(v:Addr×ZN):cP (cQ gs) (Sum.inr x:Key) (V.ref v.1)=cQ (fj gs x v):=by
 have e:((cQ gs).any λkv=>decide (kv.1=(Sum.inr x:Key)))=gs.any λg=>decide (g.1=x):=by
  unfold cQ;rw[any_map]
  congr 1
  funext g
  show decide ((Sum.inr g.1:Key)=Sum.inr x)=decide (g.1=x);rw[Bool.eq_iff_iff,decide_eq_true_iff,decide_eq_true_iff];exact⟨λh=>by injection h,λh=>by rw[h]⟩
 unfold cP fj;rw[e]
 by_cases h:(gs.any λg=>decide (g.1=x))=true
 ·rw[if_pos h,if_pos h];unfold cQ;rw[map_map,map_map];refine map_congr_left λg _=>?_;show(if (Sum.inr g.1:Key)=Sum.inr x then ((Sum.inr g.1:Key),V.ref v.1)else ((Sum.inr g.1:Key),V.ref g.2.1))=((Sum.inr (if g.1=x then (g.1,v)else g).1:Key),V.ref (if g.1=x then (g.1,v)else g).2.1)
  by_cases hx:g.1=x
  ·rw[if_pos (by rw[hx]),if_pos hx]
  ·rw[if_neg (λh=>hx (by injection h)),if_neg hx]
 ·rw[if_neg h,if_neg h];unfold cQ;rw[map_append];rfl
theorem uq{gs:TG}{x:Str}{v:Addr×ZN}:(fj gs x v).length≤gs.length+1:=by
 unfold fj
 split
 ·rw[length_map];omega
 ·rw[length_append];exact le_refl _
theorem ut{gs:TG}{x:Str}{v:Addr×ZN}{g:Str×(Addr×ZN)}(h:g∈fj gs x v):g=(x,v)∨g∈gs:=by
 unfold fj at h
 split at h
 ·obtain⟨y,hy,e⟩:=mem_map.mp h
  by_cases hx:y.1=x
  ·rw[if_pos hx]at e;rw[←e,hx];exact .inl rfl
  ·rw[if_neg hx]at e;rw[←e];exact .inr hy
 ·rcases mem_append.mp h with h|h
  ·exact .inr h
  ·exact .inl (by simpa using h)
theorem qk{gs:TG}{x:Str}:(gs.any λg=>decide (g.1=x))=true↔x∈gs.map (·.1):=by
 rw[any_eq_true,mem_map];exact⟨λ⟨g,hg,e⟩=>⟨g,hg,of_decide_eq_true e⟩,λ⟨g,hg,e⟩=>⟨g,hg,decide_eq_true e⟩⟩
theorem ph{gs:TG}{x:Str}{v:Addr×ZN}:(fj gs x v).map (·.1)=if x∈gs.map (·.1)then gs.map (·.1)else gs.map (·.1)++[x]:=by
 unfold fj
 by_cases h:x∈gs.map (·.1)
 ·rw[if_pos h,if_pos (qk.mpr h),map_map];refine map_congr_left λg _=>?_;show(if g.1=x then (g.1,v)else g).1=g.1
  split<;>rfl
 ·rw[if_neg h,if_neg (λe=>h (qk.mp e)),map_append];rfl
theorem wm{gs:TG}{x:Str}{v:Addr×ZN}(h:(gs.map (·.1)).Nodup):((fj gs x v).map (·.1)).Nodup:=by
 rw[ph]
 split
 ·exact h
 ·rename_i hx
  rw[List.nodup_append];exact⟨h,by simp,λa ha b hb e=>hx (by rw[←show b=x by simpa using hb,←e];exact ha)⟩
theorem Tags.val{H:Hp}{d:Addr}{gs:TG}(h:Tags H d gs)(x:Str):(aZ (cQ gs) (Sum.inr x:Key)).isSome=decide (x∈gs.map (·.1)):=by
 have:∀gs:TG,(aZ (cQ gs) (Sum.inr x:Key)).isSome=decide (x∈gs.map (·.1)):=by
  intro gs
  induction gs with
  |nil=>rfl
  |cons g r ih =>
   unfold cQ at ih⊢;rw[map_cons]
   by_cases e:g.1=x
   ·rw[aT (by rw[e]),decide_eq_true (by rw[map_cons,e];exact mem_cons_self)];rfl
   ·rw[aN (by intro z;exact e (by injection z)),ih];rw[Bool.eq_iff_iff,decide_eq_true_iff,decide_eq_true_iff,map_cons,mem_cons];exact⟨λh=>.inr h,λh=>h.resolve_left (λz=>e z.symm)⟩
 exact this gs
theorem Tags.get{H:Hp}{d:Addr}{gs:TG}(h:Tags H d gs){g:Str×(Addr×ZN)}(hg:g∈gs):aZ (cQ gs) (Sum.inr g.1:Key)=some (.ref g.2.1):=by
 have hn:=h.nd;clear h
 induction gs with
 |nil=>cases hg
 |cons y r ih =>
  rw[map_cons,nodup_cons]at hn;unfold cQ at ih⊢;rw[map_cons];rcases mem_cons.mp hg with e|hr
  ·rw[e];exact aT rfl
  ·rw[aN (by intro z;have e:y.1=g.1:=by injection z
             exact hn.1 (by rw[e];exact mem_map.mpr ⟨g,hr,rfl⟩))]
   exact ih hr hn.2
section
variable{P:Program}{w:World}{K:PySem.W.Frag}{mg:Str→Option Value}{base:Heap}
def pi(C:Addr):Sp:=λvs H Q _=>∃p ft t d pl al zf z gs es as g,vs=[.ref p,.str g.1]∧LAt C H p ft t d pl al zf z gs es as∧g.1.length≤100∧cO g.1=true∧g∈gs∧∀H',Same H H'→Q (.ref g.2.1) H'
theorem uu:FnScope ["self","name"] ["self","name"] (aj cz):=fsc
theorem wp{f C:Addr}{fd:FuncData}(F:Fun K "tagged" "Ledger.tagged" cz f fd)(T:LCls K mg C)(CN:Has P w K mg base 1 "is_name" ["thing"] fg):FnOk P w K mg base CX0 2 f fd ["self","name"] (pi C):=by
 obtain⟨fN,fdN,GN,mN,kN,bN⟩:=CN;refine F.ok uu (λvs H Q E h=>?_) (λcdv A outer s H vs Q E hr h=>?_)
 ·obtain⟨p,ft,t,d,pl,al,zf,z,gs,es,as,g,rfl,_⟩:=h;rfl
 ·obtain⟨p,ft,t,d,pl,al,zf,z,gs,es,as,g,rfl,L,hx,hn,hg,q⟩:=h;obtain⟨dx,hp⟩:=L.ob;refine⟨_,ag (bw (PW.pt (pw_or (dW (fz (ar GN hr rfl mN kN bN .nil aU (aa (pv 1) ae)) (λ_=>rfl))) (pw_or1 (gZ (dH (dj hr) (pv 1) (aX (pv 0) rfl)))))) dc aJ)
   (am (ay (lh (dj hr) (aX (pv 0) rfl) (pv 1) (λ_ _=>rfl)))),?_⟩
  refine⟨_,rfl,g.1,rfl,hx,λH1 s1=>?_⟩;rw[hn];have L1:=L.same s1;have hp1:=s1 _ _ hp;have dg:dG H1 d (kV (Sum.inr g.1)) (some (.ref g.2.1)):=by rw[←L.tg.get hg];exact .inl ⟨_,_,L1.tg.dct,rfl,rfl⟩
  refine⟨true,rfl,bv ⟨_,rfl,_,rfl,p,C,dx,_,_,rfl,hp1,T.cl,T.n2,gR,d,_,rfl,dg,_,rfl,bv ?_⟩⟩;exact⟨_,rfl,p,C,dx,_,_,rfl,hp1,T.cl,T.n2,gR,_,rfl,d,_,rfl,dg,q H1 s1⟩
def jI(C CT:Addr):Sp:=λvs H Q E=>∃p ft t d pl al zf z gs es as x,vs=[.ref p,.str x]∧LAt C H p ft t d pl al zf z gs es as∧x.length≤100∧(reprText x).length≤300∧es.length≤200∧gs.length<50 ∧
 (cO x=true→∀q sa d' al' H',H al'=none→LAt C H' p ft t d' pl al' zf z (fj gs x (t,z)) (es++[⟨q,sa,t,d,[.str "tag",.str x],z,gs⟩]) []→ck H H'→Off [p,pl] H H'→Q (.bl (decide (x∈gs.map (·.1)))) H') ∧
 (cO x=false→∀H',Same H H'→E (.ref CT) none H')
theorem lG:FnScope ["self","name","had","tag_trees"] ["self","name"] (aj du):=fsc
theorem wq{f C CT fG:Addr}{fd fdG:FuncData}(F:Fun K "tag" "Ledger.tag" du f fd)(Tx:Txt mg)(T:LCls K mg C)(O:fu "NoTag" mg base CT)(CN:Has P w K mg base 1 "is_name" ["thing"] fg)(MG:Meth K C "go_on" fG)(GG:FnOk P w K mg base CX0 1 fG fdG ["self","step","tree","tag_trees"] (qi C))(bG:aq K fdG ["self","step","tree","tag_trees"] []):FnOk P w K mg base (CX1 P w) 2 f fd ["self","name"] (jI C CT):=by
 obtain⟨fN,fdN,GN,mN,kN,bN⟩:=CN;refine F.okX lG (λvs H Q E h=>?_) (λcdv A outer s H vs Q E hr h=>?_)
 ·obtain⟨p,ft,t,d,pl,al,zf,z,gs,es,as,x,rfl,_⟩:=h;rfl
 ·obtain⟨p,ft,t,d,pl,al,zf,z,gs,es,as,x,rfl,L,hx,hrx,hl,hgl,qo,qE⟩:=h;obtain⟨dx,hp⟩:=L.ob;refine⟨_,ag (bw (dW (fz (ar GN hr rfl mN kN bN .nil aU (aa (pv 1) ae)) (λ_=>rfl))) (am (bA aV O hr.hd rfl (db (wj (pv 1) (cj (c:=100) (by decide +kernel) dY)) (by decide)))) aJ)
   (ag (aM (i:=2) lG.nd rfl (Or.inl rfl) (xm (sj (dj hr) (pv 1) (aX (pv 0) rfl))))
   (ag (aM (i:=3) lG.nd rfl (Or.inl rfl) (bJ nE rfl Tx.dict rfl (aa (aX (pv 0) rfl) ae)))
   (ag (pH (dj hr) (pv 3) (pv 1) (aX (pv 0) rfl) rfl)
   (ag (aB (ba (pv 0) T.cl MG GG hr bG .nil aU (aa (aK (aa au (aa (pv 1) ae))) (aa (aX (pv 0) rfl) (aa (pv 3) ae)))))
   (am (ay (pv 2))))))),?_⟩
  refine⟨_,rfl,x,rfl,hx,λH1 s1=>⟨_,rfl,?_⟩⟩;have L1:=L.same s1;have hp1:=s1 _ _ hp;cases hb:cO x with
  |false =>
   refine bX ⟨_,rfl,x,rfl,hrx,λy=>⟨ap (show 1≤1000 by decide),qE hb H1 s1⟩⟩
  |true =>
   refine bv ?_;have dg:dG H1 d (kV (Sum.inr x)) (aZ (cQ gs) (Sum.inr x:Key)):=.inl ⟨_,_,L1.tg.dct,rfl,rfl⟩;refine⟨_,rfl,_,rfl,p,C,dx,_,_,rfl,hp1,T.cl,T.n2,gR,d,_,rfl,dg,?_⟩;rw[L.tg.val x];refine⟨_,rfl,p,C,dx,_,_,rfl,hp1,T.cl,T.n2,gR,d,_,rfl,L1.tg.dct,λd' hd'=>?_⟩;have s2:=af (o:=.dK (cQ gs)) hd';have g2:upd H1 d' (.dK (cQ gs)) d'=some (.dK (cQ gs)):=ac;generalize upd H1 d' (.dK (cQ gs))=H2 at s2 g2⊢;have hp2:=s2 _ _ hp1;have npd:p≠d':=lM hp2 g2 (by intro h;cases h);refine⟨_,rfl,p,C,dx,_,_,rfl,hp2,T.cl,T.n1,jF,_,rfl,_,rfl,d',_,rfl,qK.k (k:=Sum.inr x) g2 (ao (by unfold cQ;rw[length_map];omega)),?_⟩;rw[uo gs x (t,z)];have s3:Same H1 (upd H2 d' (.dK (cQ (fj gs x (t,z))))):=bq hd' s2;have g3:upd H2 d' (.dK (cQ (fj gs x (t,z)))) d'=some (.dK (cQ (fj gs x (t,z)))):=ac;generalize upd H2 d' (.dK (cQ (fj gs x (t,z))))=H3 at s3 g3⊢;have L3:=L1.same s3;have hp3:=s3 _ _ hp1;refine⟨_,rfl,p,dx,_,rfl,hp3,cf (by decide +kernel) (by decide +kernel) (by decide +kernel) (by decide +kernel) (by decide +kernel),_,rfl,(show 2≤sizeLine from ap (by decide)),λsa hsa=>?_⟩;have s4:=af (o:=.tup [.str "tag",.str x]) hsa;have g4:upd H3 sa (.tup [.str "tag",.str x]) sa=some (.tup [.str "tag",.str x]):=ac;generalize upd H3 sa (.tup [.str "tag",.str x])=H4 at s4 g4⊢;have L4:=L3.same s4;have s14:=s1.trans (s3.trans s4);have Tg:Tags H4 d' (fj gs x (t,z)):=⟨.inl (s4 _ _ g3),λg hg=>?_,wm L.tg.nd,by have:=uq (gs:=gs) (x:=x) (v:=(t,z));omega⟩
   ·refine⟨_,rfl,p,C,dx,_,_,rfl,s4 _ _ hp3,T.cl,T.n1,jF,_,rfl,p,ft,t,d,pl,al,zf,z,gs,es,as,sa,[.str "tag",.str x],t,z,d',fj gs x (t,z),rfl,L4,g4,L4.tr,Tg,hl,λe al' H' fa L' k o=>?_⟩;exact⟨_,rfl,qo hb e sa d' al' H' (kJ s14 fa) L' ((bz s14).trans k) λb o' h hb'=>o _ _ (s14 _ _ h) hb'⟩
   ·rcases ut hg with e|h
    ·rw[e];exact L4.tr
    ·exact L4.tg.at' g h
end
theorem rq(es:List Ent)(e:Ent):(bn (es++[e]))[(bn (es++[e])).length-1]?=some (V.ref e.a):=by
 unfold bn;rw[map_append,length_append];simp
theorem rA(es:List Ent)(e:Ent):(bn (es++[e])).dropLast=bn es:=by
 unfold bn;rw[map_append];simp
section
variable{P:Program}{w:World}{K:PySem.W.Frag}{mg:Str→Option Value}{base:Heap}
def ql(C CB:Addr):Sp:=λvs H Q E=>∃p dx ft t d pl al sl tl z gs ss ts,vs=[.ref p,.ref sl,.ref tl]∧H p=some (.ins C dx (flL ft t d pl al))∧Tre H t z∧Tags H d gs∧H sl=some (.lst (bn ss))∧H tl=some (.lst (bn ts))∧sl≠tl∧(∀e∈ss,EntAt H e∧∃y,e.xs[0]?=some y)∧ts.length≤200 ∧
 (∀ss' e y q H',ss=ss'++[e]→e.xs[0]?=some y→H' p=some (.ins C dx (flL ft e.ta e.da pl al))→H' sl=some (.lst (bn ss'))→H' tl=some (.lst (bn (ts++[⟨q,e.sa,t,d,e.xs,z,gs⟩])))→EntAt H' ⟨q,e.sa,t,d,e.xs,z,gs⟩→ck H H'→Off [p,sl,tl] H H'→Q y H') ∧
 (ss=[]→∀H',Same H H'→E (.ref CB) none H')
theorem wY:FnScope ["self","source","target","entry"] ["self","source","target"] (aj cA):=fsc
theorem yz{f C CB:Addr}{fd:FuncData}(F:Fun K "pass_over" "Ledger.pass_over" cA f fd)(T:LCls K mg C)(O:fu "NoBack" mg base CB):FnOk P w K mg base (CX1 P w) 1 f fd ["self","source","target"] (ql C CB):=by
 refine F.okX wY (λvs H Q E h=>?_) (λcdv A outer s H vs Q E hr h=>?_)
 ·obtain⟨p,dx,ft,t,d,pl,al,sl,tl,z,gs,ss,ts,rfl,_⟩:=h;rfl
 ·obtain⟨p,dx,ft,t,d,pl,al,sl,tl,z,gs,ss,ts,rfl,hp,tr,tg,hsl,htl,ne,he,hl,qo,qE⟩:=h;refine⟨_,ag (bw (dW (lN (pv 1) (λ_=>rfl))) (am (bA aV O hr.hd rfl au)) aJ)
   (ag (aM (i:=3) wY.nd rfl (Or.inl rfl) (sg plainAttrs_list slot_list_pop type_list_pop si (pv 1)))
   (ag (aB (cp plainAttrs_list PySem.F.slot_list_append PySem.F.type_list_append aH (pv 2) (aa (aK (aa (aF aD (pv 3) ak (λ_ _=>rfl)) (aa (aX (pv 0) rfl) (aa (aX (pv 0) rfl) ae)))) ae)))
   (ag (dw (pv 0) (aF aD (pv 3) ak (λ_ _=>rfl)) rfl)
   (ag (dw (pv 0) (aF aD (pv 3) ak (λ_ _=>rfl)) rfl)
   (am (ay (aF aD (aF aD (pv 3) ak (λ_ _=>rfl)) ak (λ_ _=>rfl)))))))),?_⟩
  refine⟨_,rfl,_,.inl ⟨_,SqL.of hsl,rfl⟩,?_⟩;rcases List.eq_nil_or_concat ss with e0|⟨ss',e,e0⟩
  ·subst e0;exact bX ⟨ap (show 1≤1000 by decide),qE rfl H (Same.refl _)⟩
  ·rw[List.concat_eq_append]at e0;subst e0;have hne:(!(!(bn (ss'++[e])).isEmpty))=false:=by unfold bn;rw[map_append];simp
   rw[hne];refine bv ?_;obtain⟨E0,y,hy⟩:=he e (by simp);refine⟨_,rfl,.inl ⟨rfl,_,SqL.of hsl⟩,sl,_,_,rfl,rfl,hsl,rq ss' e,?_⟩;rw[rA];have nps:p≠sl:=lM hp hsl (by intro h;cases h);have npt:p≠tl:=lM hp htl (by intro h;cases h);have k1:=jE (ys:=bn ss') hsl;have p1:upd H sl (.lst (bn ss')) p=some (.ins C dx (flL ft t d pl al)):=by rw[ai nps];exact hp
   have t1:upd H sl (.lst (bn ss')) tl=some (.lst (bn ts)):=by rw[ai (symm ne)];exact htl
   have l1:upd H sl (.lst (bn ss')) sl=some (.lst (bn ss')):=ac;have o1:Off [p,sl,tl] H (upd H sl (.lst (bn ss'))):=λb o h hb=>by rw[ai (λz=>hb (by rw[z];simp))];exact h
   generalize upd H sl (.lst (bn ss'))=H1 at k1 p1 t1 l1 o1⊢;have E1:=E0.stay k1;refine⟨_,rfl,.inl ⟨rfl,_,SqL.of t1⟩,_,rfl,e.a,_,_,_,rfl,rfl,SqT.of E1.ob,rfl,_,rfl,p,C,dx,_,_,rfl,p1,T.cl,T.n1,jF,_,rfl,p,C,dx,_,_,rfl,p1,T.cl,T.n2,gR,(show 3≤sizeLine from ap (by decide)),λq hq=>?_⟩;have s2:=af (o:=.tup [.ref e.sa,.ref t,.ref d]) hq;have g2:upd H1 q (.tup [.ref e.sa,.ref t,.ref d]) q=some (.tup [.ref e.sa,.ref t,.ref d]):=ac;generalize upd H1 q (.tup [.ref e.sa,.ref t,.ref d])=H2 at s2 g2⊢;refine⟨tl,_,_,rfl,rfl,s2 _ _ t1,ao (by rw[length_map];omega),?_⟩;have k3:=jE (ys:=bn ts++[.ref q]) (s2 _ _ t1);have p3:upd H2 tl (.lst (bn ts++[.ref q])) p=some (.ins C dx (flL ft t d pl al)):=by rw[ai npt];exact s2 _ _ p1
   have l3:upd H2 tl (.lst (bn ts++[.ref q])) sl=some (.lst (bn ss')):=by rw[ai ne];exact s2 _ _ l1
   have t3:upd H2 tl (.lst (bn ts++[.ref q])) tl=some (.lst (bn (ts++[⟨q,e.sa,t,d,e.xs,z,gs⟩]))):=by rw[ac];unfold bn;rw[map_append];rfl
   have o3:Off [p,sl,tl] H2 (upd H2 tl (.lst (bn ts++[.ref q]))):=λb o h hb=>by rw[ai (λz=>hb (by rw[z];simp))];exact h
   generalize upd H2 tl (.lst (bn ts++[.ref q]))=H3 at k3 p3 l3 t3 o3⊢;have E3:=(E1.stay (bz s2)).stay k3;refine⟨_,rfl,e.a,_,_,_,rfl,rfl,SqT.of E3.ob,rfl,_,rfl,p,C,dx,_,rfl,p3,T.cl,T.n1,gT,?_⟩;rw[uh];have k4:=eV (gs:=flL ft e.ta d pl al) p3;have p4:upd H3 p (.ins C dx (flL ft e.ta d pl al)) p=some (.ins C dx (flL ft e.ta d pl al)):=ac;have l4:upd H3 p (.ins C dx (flL ft e.ta d pl al)) sl=some (.lst (bn ss')):=by rw[ai (symm nps)];exact l3
   have t4:upd H3 p (.ins C dx (flL ft e.ta d pl al)) tl=some (.lst (bn (ts++[⟨q,e.sa,t,d,e.xs,z,gs⟩]))):=by rw[ai (symm npt)];exact t3
   have o4:Off [p,sl,tl] H3 (upd H3 p (.ins C dx (flL ft e.ta d pl al))):=λb o h hb=>by rw[ai (λz=>hb (by rw[z];simp))];exact h
   generalize upd H3 p (.ins C dx (flL ft e.ta d pl al))=H4 at k4 p4 l4 t4 o4⊢;have E4:=E3.stay k4;refine⟨_,rfl,e.a,_,_,_,rfl,rfl,SqT.of E4.ob,rfl,_,rfl,p,C,dx,_,rfl,p4,T.cl,T.n2,gT,?_⟩;rw[ui];have k5:=eV (gs:=flL ft e.ta e.da pl al) p4;have p5:upd H4 p (.ins C dx (flL ft e.ta e.da pl al)) p=some (.ins C dx (flL ft e.ta e.da pl al)):=ac;have l5:upd H4 p (.ins C dx (flL ft e.ta e.da pl al)) sl=some (.lst (bn ss')):=by rw[ai (symm nps)];exact l4
   have t5:upd H4 p (.ins C dx (flL ft e.ta e.da pl al)) tl=some (.lst (bn (ts++[⟨q,e.sa,t,d,e.xs,z,gs⟩]))):=by rw[ai (symm npt)];exact t4
   have o5:Off [p,sl,tl] H4 (upd H4 p (.ins C dx (flL ft e.ta e.da pl al))):=λb o h hb=>by rw[ai (λz=>hb (by rw[z];simp))];exact h
   generalize upd H4 p (.ins C dx (flL ft e.ta e.da pl al))=H5 at k5 p5 l5 t5 o5⊢;have E5:=E4.stay k5;have kA:ck H H5:=(((k1.trans (bz s2)).trans k3).trans k4).trans k5;have k25:ck H2 H5:=(k3.trans k4).trans k5;refine⟨_,rfl,e.a,_,_,_,rfl,rfl,SqT.of E5.ob,rfl,e.sa,_,_,_,rfl,rfl,SqT.of E5.st,cV (j:=0) hy,?_⟩;exact qo ss' e y q H5 rfl hy p5 l5 t5 ⟨k25.tup g2,E5.st,tr.stay kA,tg.stay kA⟩ kA λb o h hb=>o5 _ _ (o4 _ _ (o3 _ _ (s2 _ _ (o1 _ _ h hb)) hb) hb) hb
def nG(C CB:Addr):Sp:=λvs H Q E=>∃p ft t d pl al zf z gs es as,vs=[.ref p]∧LAt C H p ft t d pl al zf z gs es as∧(∀e∈es,∃y,e.xs[0]?=some y)∧as.length≤200 ∧
 (∀es' e y q H',es=es'++[e]→e.xs[0]?=some y→LAt C H' p ft e.ta e.da pl al zf e.z e.gs es' (as++[⟨q,e.sa,t,d,e.xs,z,gs⟩])→ck H H'→Off [p,pl,al] H H'→Q y H')∧(es=[]→∀H',Same H H'→E (.ref CB) none H')
theorem zD:FnScope ["self"] ["self"] (aj eD):=fsc
theorem uv{f C CB fP:Addr}{fd fdP:FuncData}(F:Fun K "back" "Ledger.back" eD f fd)(T:LCls K mg C)(MP:Meth K C "pass_over" fP)(GP:FnOk P w K mg base (CX1 P w) 1 fP fdP ["self","source","target"] (ql C CB))(bP:aq K fdP ["self","source","target"] []):FnOk P w K mg base (CX1 P w) 2 f fd ["self"] (nG C CB):=by
 refine F.okX zD (λvs H Q E h=>?_) (λcdv A outer s H vs Q E hr h=>?_)
 ·obtain⟨p,ft,t,d,pl,al,zf,z,gs,es,as,rfl,_⟩:=h;rfl
 ·refine⟨_,am (ay (ba (E:=E) (pv 0) T.cl MP GP hr bP .nil (aW aV) (aa (aX (pv 0) rfl) (aa (aX (pv 0) rfl) ae)))),?_⟩;obtain⟨p,ft,t,d,pl,al,zf,z,gs,es,as,rfl,L,hx,hl,qo,qE⟩:=h;obtain⟨dx,hp⟩:=L.ob;refine⟨_,rfl,p,dx,_,rfl,hp,cf (by decide +kernel) (by decide +kernel) (by decide +kernel) (by decide +kernel) (by decide +kernel),_,rfl,p,C,dx,_,_,rfl,hp,T.cl,T.n3,qh,_,rfl,p,C,dx,_,_,rfl,hp,T.cl,T.n4,uk,?_⟩;refine⟨p,dx,ft,t,d,pl,al,pl,al,z,gs,es,as,rfl,hp,L.tr,L.tg,L.ps,L.ah,L.ne,λe he=>⟨L.ep e he,hx e he⟩,hl,λss' e y q H' e0 hy p' l' t' E' k o=>?_,qE⟩;have Ee:=(L.ep e (by rw[e0];simp)).stay k;have old:∀x∈ss',EntAt H' x:=λx hx=>(L.ep x (by rw[e0];exact mem_append_left _ hx)).stay k;have new:∀x∈as++[⟨q,e.sa,t,d,e.xs,z,gs⟩],EntAt H' x:=λx hx=>by
   rcases mem_append.mp hx with h|h
   ·exact(L.ea x h).stay k
   ·have ex:x=_:=mem_singleton.mp h;rw[ex];exact E'
  exact qo ss' e y q H' e0 hy ⟨⟨dx,p'⟩,L.tf.stay k,Ee.tr,Ee.tg,l',t',L.ne,old,new⟩ k λb o' h hb=>o b o' h (λz=>hb (by simp only[mem_cons,not_mem_nil,or_false]at z⊢;exact z))
def nH(C CB:Addr):Sp:=λvs H Q E=>∃p ft t d pl al zf z gs es as,vs=[.ref p]∧LAt C H p ft t d pl al zf z gs es as∧(∀e∈as,∃y,e.xs[0]?=some y)∧es.length≤200 ∧
 (∀es' e y q H',as=es'++[e]→e.xs[0]?=some y→LAt C H' p ft e.ta e.da pl al zf e.z e.gs (es++[⟨q,e.sa,t,d,e.xs,z,gs⟩]) es'→ck H H'→Off [p,pl,al] H H'→Q y H')∧(as=[]→∀H',Same H H'→E (.ref CB) none H')
theorem zE:FnScope ["self"] ["self"] (aj dA):=fsc
theorem rB{f C CB fP:Addr}{fd fdP:FuncData}(F:Fun K "forth" "Ledger.forth" dA f fd)(T:LCls K mg C)(MP:Meth K C "pass_over" fP)(GP:FnOk P w K mg base (CX1 P w) 1 fP fdP ["self","source","target"] (ql C CB))(bP:aq K fdP ["self","source","target"] []):FnOk P w K mg base (CX1 P w) 2 f fd ["self"] (nH C CB):=by
 refine F.okX zE (λvs H Q E h=>?_) (λcdv A outer s H vs Q E hr h=>?_)
 ·obtain⟨p,ft,t,d,pl,al,zf,z,gs,es,as,rfl,_⟩:=h;rfl
 ·refine⟨_,am (ay (ba (E:=E) (pv 0) T.cl MP GP hr bP .nil (aW aV) (aa (aX (pv 0) rfl) (aa (aX (pv 0) rfl) ae)))),?_⟩;obtain⟨p,ft,t,d,pl,al,zf,z,gs,es,as,rfl,L,hx,hl,qo,qE⟩:=h;obtain⟨dx,hp⟩:=L.ob;refine⟨_,rfl,p,dx,_,rfl,hp,cf (by decide +kernel) (by decide +kernel) (by decide +kernel) (by decide +kernel) (by decide +kernel),_,rfl,p,C,dx,_,_,rfl,hp,T.cl,T.n4,uk,_,rfl,p,C,dx,_,_,rfl,hp,T.cl,T.n3,qh,?_⟩;refine⟨p,dx,ft,t,d,pl,al,al,pl,z,gs,as,es,rfl,hp,L.tr,L.tg,L.ah,L.ps,symm L.ne,λe he=>⟨L.ea e he,hx e he⟩,hl,λss' e y q H' e0 hy p' l' t' E' k o=>?_,qE⟩;have Ee:=(L.ea e (by rw[e0];simp)).stay k;have old:∀x∈ss',EntAt H' x:=λx hx=>(L.ea x (by rw[e0];exact mem_append_left _ hx)).stay k;have new:∀x∈es++[⟨q,e.sa,t,d,e.xs,z,gs⟩],EntAt H' x:=λx hx=>by
   rcases mem_append.mp hx with h|h
   ·exact(L.ep x h).stay k
   ·have ex:x=_:=mem_singleton.mp h;rw[ex];exact E'
  exact qo ss' e y q H' e0 hy ⟨⟨dx,p'⟩,L.tf.stay k,Ee.tr,Ee.tg,t',l',L.ne,new,old⟩ k λb o' h hb=>o b o' h (λz=>hb (by simp only[mem_cons,not_mem_nil,or_false]at z⊢;exact z.imp id Or.symm))
def pj:Sp:=λvs H Q _=>∃t zs,vs=[.ref t]∧Tre H t zs∧∀d as H',Same H H'→H d=none→Book H' d as zs→H' d=some (.dK (fq as))→Q (.ref d) H'
theorem yA:FnScope ["tree"] ["tree"] (aj cB):=fsc
theorem wt{f:Addr}{fd:FuncData}(F:Fun K "parts_by_number" "parts_by_number" cB f fd)(T:Txt mg):FnOk P w K mg base CX0 1 f fd ["tree"] pj:=by
 refine F.ok yA (λvs H Q E h=>?_) (λcdv A outer s H vs Q E hr h=>?_)
 ·obtain⟨t,zs,rfl,_⟩:=h;rfl
 ·obtain⟨t,zs,rfl,tr,k⟩:=h;have hnd:=cJ tr.tr;have hl:=tr.len;have ht:=tr.tup;have hA:=tr.nod;refine⟨_,am (ay (bJ (iA rfl) rfl T.dict boot_dict (aa (jW (N:=["node"]) (k:=1) (js:=[]) (g:=cm 0) rfl (ji rfl (by decide +kernel) (by decide +kernel) (by decide +kernel)) rfl (λi j x h=>by simp at h)
   (hO (pv 0)) (λs H fp=>ci (i:=0) (show(["node"]:List Str).Nodup by decide +kernel) rfl (Or.inl rfl) (Or.inr rfl))
   (λs H fp=>aK (aa (aF (r:=lc K) aD (pv 0) ak (λ_ _=>rfl)) (aa (rY (r:=zd K) xw (pv 0) (uZ ak) uY) ae)))) ae))),?_⟩
  refine⟨_,rfl,t,rfl,⟨_,SqT.of ht⟩,λp hp=>?_⟩;refine sT (fr:=[]) zs.length (by omega) hp rfl (λi y H'=>∃q t' z,zs[i]?=some z∧y=.ref q∧q≠p∧t'≠p∧H' q=some (.tup [.int z.2.num,.ref t'])∧H' t'=some (.tup (bH z.2))) (λi y H1 H2 h ex=>?_) (λi H' hi s1=>?_) (λH' s1=>?_) ?_ (λi H' x H2 hi s1 hpl hy=>?_) (λys H' s1 hp' hlen hys=>?_)
  ·obtain⟨q,t',z,e1,e2,e3,e4,e5,e6⟩:=h;exact⟨q,t',z,e1,e2,e3,e4,ex q _ e3 e5,ex t' _ e4 e6⟩
  ·exact⟨_,_,SqT.of (s1 _ _ ht),mK (getElem?_eq_getElem hi)⟩
  ·exact⟨_,SqT.of (s1 _ _ ht),by rw[cx];exact le_refl _⟩
  ·rintro _ _ _ _ m ⟨v1,b1,p1,xs,i1,v2,c1,c2,c3,c4,v3,b3,i3,d0,a3,xs3,d1,d2,d3,q⟩;refine⟨v1,b1,p1,xs,i1,v2,c1,c2,c3,c4,v3,b3,i3,d0,a3,xs3,d1,d2,d3,λl hl=>?_⟩;obtain⟨hz',q'⟩:=q l hl;exact⟨hz',λl' hl'=>m _ _ (q' l' hl')⟩
  ·obtain⟨rfl,hx⟩:=hy;obtain⟨z,gz,rfl⟩:=dm (hx _ (SqT.of (s1 _ _ ht)));have mz:=mem_of_getElem? gz;have hz1:=s1 _ _ (hA z mz);have ecut:rZ (vals z.2) (some 1) none=bH z.2:=rfl;refine⟨rfl,_,rfl,z.1,_,_,_,rfl,rfl,SqT.of hz1,at0 z.2,_,rfl,_,rfl,z.1,_,rfl,SqT.of hz1,(by intro h;exact absurd h.1 (show ¬HT.sIx 4 0 (some 1)=0 by decide)),λt' ht'=>?_⟩;rw[ecut];have s2:=af (o:=.tup (bH z.2)) ht';have hpl2:∃ys,upd H2 t' (.tup (bH z.2)) p=some (.lst ys):=let⟨ys,e⟩:=hpl;⟨ys,s2 _ _ e⟩;refine⟨le2,λq hq=>⟨s2.trans (af hq),q,t',z,gz,rfl,jl hpl2 hq,jl hpl ht',ac,bh hq ac⟩⟩
  ·obtain⟨as,e1,e2,e3⟩:∃as:List ((Addr×Addr)×(Addr×Nd)),as.map (·.2)=zs∧ys=(as.map (·.1.1)).map V.ref∧∀a∈as,H' a.1.1=some (.tup [.int a.2.2.num,.ref a.1.2])∧H' a.1.2=some (.tup (bH a.2.2)):=by
    clear hp';have main:∀(ys:List V)(xs:ZN),ys.length=xs.length→(∀(i:Nat) y,ys[i]?=some y→∃q t' z,xs[i]?=some z∧y=.ref q∧q≠p∧t'≠p∧H' q=some (.tup [.int z.2.num,.ref t'])∧H' t'=some (.tup (bH z.2))) →
      ∃as:List ((Addr×Addr)×(Addr×Nd)),as.map (·.2)=xs∧ys=(as.map (·.1.1)).map V.ref∧∀a∈as,H' a.1.1=some (.tup [.int a.2.2.num,.ref a.1.2])∧H' a.1.2=some (.tup (bH a.2.2)):=by
     intro ys
     induction ys with
     |nil =>
      intro xs hl _;have:xs=[]:=length_eq_zero_iff.mp hl.symm;subst this;exact⟨[],rfl,rfl,by simp⟩
     |cons y ys ih =>
      intro xs hl h;cases xs with
      |nil=>simp at hl
      |cons x xs =>
       obtain⟨as,e1,e2,e3⟩:=ih xs (by simpa using hl) λi y hy=>by simpa using h (i+1) y (by simpa using hy)
       obtain⟨q,t',z,f1,f2,f3,f4,f5,f6⟩:=h 0 y rfl;have:x=z:=by simpa using f1
       subst this;refine⟨((q,t'),x)::as,by simp[e1],by simp[e2,f2],λa ha=>?_⟩;rcases mem_cons.mp ha with rfl|ha
       ·exact⟨f5,f6⟩
       ·exact e3 a ha
    exact main ys zs hlen hys
   have hal:as.length=zs.length:=by rw[←e1,length_map]
   refine⟨p,as.map λa=>(a.1.1,(Sum.inl a.2.2.num:Key),V.ref a.1.2),rfl,?_,?_,?_,?_,λd hd=>?_⟩
   ·rw[hp',e2,map_map,map_map,map_map];rfl
   ·intro z hz;obtain⟨a,ha,rfl⟩:=mem_map.mp hz;exact(e3 a ha).1
   ·rw[length_map];omega
   ·rw[map_map];have:(as.map ((λx:Addr×Key×V=>x.2.1)∘λa=>(a.1.1,(Sum.inl a.2.2.num:Key),V.ref a.1.2)))=((nds zs).map (·.num)).map (Sum.inl:Int→Key):=by
     rw[←e1];unfold nds;simp only[map_map];rfl
    rw[this];unfold Nodup at hnd⊢;rw[pairwise_map];exact hnd.imp λh e=>h (by injection e)
   ·have sd:=af (o:=.dK ((as.map λa=>(a.1.1,(Sum.inl a.2.2.num:Key),V.ref a.1.2)).map (·.2))) hd;have ed:upd H' d (.dK ((as.map λa=>(a.1.1,(Sum.inl a.2.2.num:Key),V.ref a.1.2)).map (·.2))) d=some (.dK (fq (as.map λa=>(a.1.2,a.2)))):=by
     rw[ac];refine congrArg (λx=>some (HO.dK x)) ?_;unfold fq;simp only[map_map];rfl
    refine k d (as.map λa=>(a.1.2,a.2)) _ (s1.trans sd) (s1.free hd) ⟨.inl ed,by rw[map_map];exact e1,λa ha=>?_⟩ ed;obtain⟨b,hb,rfl⟩:=mem_map.mp ha;exact sd _ _ (e3 b hb).2
def unl(e:Addr×Row):Bool:=!decide (e.2.o=e.2.n)
def qm:Sp:=λvs H Q _=>∃l es,vs=[.ref l]∧H l=some (.lst (gP es))∧(∀e∈es,RowAt H e.1 e.2)∧es.length≤60∧∀c H',Same H H'→ChgAt H' c (es.filter unl)→Q (.ref c) H'
theorem zF:FnScope ["entries"] ["entries"] (aj cF):=fsc
theorem yB{f:Addr}{fd:FuncData}(F:Fun K "unlike_entries" "unlike_entries" cF f fd)(T:Txt mg):FnOk P w K mg base CX0 1 f fd ["entries"] qm:=by
 refine F.ok zF (λvs H Q E h=>?_) (λcdv A outer s H vs Q E hr h=>?_)
 ·obtain⟨l,es,rfl,_⟩:=h;rfl
 ·obtain⟨l,es,rfl,hl,he,hn,k⟩:=h;refine⟨_,am (ay (bJ cH rfl T.tuple rfl (aa (sv (N:=["entry"]) (cl:=[]) (k:=1) (js:=[]) (g:=cm 0) rfl (ji rfl (by decide +kernel) (by decide +kernel) (by decide +kernel)) rfl (λi j x h=>by simp at h)
   (iH (pv 0)) (λs H fp=>ci (i:=0) (show(["entry"]:List Str).Nodup by decide +kernel) rfl (Or.inl rfl) (Or.inr rfl))
   (λs H fp=>aL (xX (dj hr)) (aF (r:=lc K) aD (pv 0) ak (λ_ _=>rfl)) (aF (r:=lc K) aD (pv 0) ak (λ_ _=>rfl)) (aS _)) (λs H fp=>pv 0)) ae))),?_⟩
  refine⟨_,rfl,l,rfl,⟨_,SqL.of hl⟩,λp hp=>?_⟩;refine sV (fr:=[]) es (λe=>V.ref e.1) (by omega) hp (lr (SqL.of hl)) rfl unl (λe y _=>y=.ref e.1) (λe y H H' h _=>h) (λe H' k' me s1 _ hk=>?_) (λe H' k' me _ s1 _ hk=>⟨_,rfl,hk _ H' (Same.refl _) rfl⟩) (λys H' s1 hp' hys=>?_)
  ·obtain⟨⟨vo,vn,h1,h2,h3⟩,ok⟩:=(he e me).same s1;refine⟨_,rfl,e.1,_,_,_,rfl,rfl,SqT.of h1,rfl,_,rfl,e.1,_,_,_,rfl,rfl,SqT.of h1,rfl,_,_,h2.ot,h3.ot,_,rfl,?_⟩;have eb:(!decide (e.2.o.map bH=e.2.n.map bH))=unl e:=by
    unfold unl;have:=ok.eq
    by_cases z:e.2.o=e.2.n
    ·rw[decide_eq_true (this.mpr z),decide_eq_true z]
    ·rw[decide_eq_false (λq=>z (this.mp q)),decide_eq_false z]
   rw[eb];exact hk H' (Same.refl _)
  ·have ey:=fR (f:=λe:Addr×Row=>V.ref e.1) hys (λe y _ h=>h);refine⟨p,_,rfl,.inl ⟨SqL.of hp',λc hc=>?_⟩⟩;have s2:=s1.trans (af (o:=.tup ys) hc);exact k c _ s2 ⟨by rw[ac,ey];rfl,λe me=>(he e (mem_filter.mp me).1).same s2,le_trans (length_filter_le _ _) hn⟩
end
def cbS(i:Nat):Stmt:=(bo aO).getD i (.Pass ⟨0,0,0,0⟩)
def CN:List Str:=["one","other","before","after","numbers"]
theorem wu:FnScope CN ["one","other"] (aj aO):=fsc
abbrev CbX(P:Program)(w:World)(K:PySem.W.Frag)(mg:Str→Option Value)(base:Heap)(f:Addr)(cdv:Value)(A:Around)(outer:List Env)(s:Shared)(H:Hp)(E:XK):Cx:=(iE CX0 P w K mg base CN "change_between" (aj aO) f cdv A outer s H E).nox
section
variable{P:Program}{w:World}{K:PySem.W.Frag}{mg:Str→Option Value}{base:Heap}{f:Addr}{cdv:Value}{A:Around}{outer:List Env}{s:Shared}{H0:Hp}{E:XK}
theorem cb2(T:Txt mg):∃t,PS (CbX P w K mg base f cdv A outer s H0 E) (cbS 2) t∧∀(D:Ends)(H:Hp)(x0 x1 x4:Option V)(d d2:Addr)(as bs:List (Addr×(Addr×Nd)))(zs us:ZN),Book H d as zs→Book H d2 bs us→zs.length≤30→us.length≤30 →
   (∀(l:Addr)(ns:List Int)(H':Hp),Same H H'→H' l=some (.lst (ns.map V.int))→ns.Pairwise (· < ·)→ns.length≤60→(∀k,k∈ns↔k∈(nds zs).map (·.num)∨k∈(nds us).map (·.num))→D.nx [x0,x1,some (.ref d),some (.ref d2),some (.ref l)] H')→t D [x0,x1,some (.ref d),some (.ref d2),x4] H:=by
 refine⟨_,aM (i:=4) wu.nd rfl (Or.inl rfl) (aC (ju rfl) rfl T.sorted boot_sorted (aa (bd tQ (bJ iB rfl T.set rfl (aa (pv 2) ae)) (bJ iB rfl T.set rfl (aa (pv 3) ae))) ae)),?_⟩;intro D H x0 x1 x4 d d2 as bs zs us bk bk2 hl1 hl2 q;refine⟨_,rfl,d,_,(nds zs).map (·.num),rfl,bk.dict,jw bk.of,by rw[length_map,bi];omega,λm1 hn1 hm1 p1 hp1=>?_⟩;have s1:=af (o:=eJ (CbX P w K mg base f cdv A outer s H0 E).w p1 m1) hp1;have g1:upd H p1 (eJ (CbX P w K mg base f cdv A outer s H0 E).w p1 m1) p1=some (eJ (CbX P w K mg base f cdv A outer s H0 E).w p1 m1):=ac;generalize upd H p1 (eJ (CbX P w K mg base f cdv A outer s H0 E).w p1 m1)=H1 at s1 g1⊢;refine⟨_,rfl,d2,_,(nds us).map (·.num),rfl,(bk2.same s1).dict,jw bk2.of,by rw[length_map,bi];omega,λm2 hn2 hm2 p2 hp2=>?_⟩;have s2:=s1.trans (af (o:=eJ (CbX P w K mg base f cdv A outer s H0 E).w p2 m2) hp2);have g2:upd H1 p2 (eJ (CbX P w K mg base f cdv A outer s H0 E).w p2 m2) p2=some (eJ (CbX P w K mg base f cdv A outer s H0 E).w p2 m2):=ac;have g1':upd H1 p2 (eJ (CbX P w K mg base f cdv A outer s H0 E).w p2 m2) p1=some (eJ (CbX P w K mg base f cdv A outer s H0 E).w p1 m1):=bh hp2 g1;have hne:p1≠p2:=λe=>by rw[←e,g1]at hp2;cases hp2
 generalize upd H1 p2 (eJ (CbX P w K mg base f cdv A outer s H0 E).w p2 m2)=H2 at s2 g2 g1'⊢;have k1:m1.length≤30:=by
  have:=gM hn1 λx hx=>(hm1 x).mp hx;rw[length_map,bi]at this;omega
 have k2:m2.length≤30:=by
  have:=gM hn2 λx hx=>(hm2 x).mp hx;rw[length_map,bi]at this;omega
 refine⟨p1,p2,m1,m2,rfl,rfl,hne,g1',g2,by omega,λm3 hn3 hm3 p3 hp3=>?_⟩;have k3:m3.length≤60:=by
  have:=gM (m:=m1++m2) hn3 λx hx=>mem_append.mpr ((hm3 x).mp hx);rw[length_append]at this;omega
 have s3:=s2.trans (af (o:=eJ (CbX P w K mg base f cdv A outer s H0 E).w p3 m3) hp3);refine⟨p3,m3,rfl,ac,k3,λns hns hup l hl=>?_⟩;have s4:=s3.trans (af (o:=.lst (ns.map V.int)) hl);refine q l ns _ s4 ac hup (by rw[hns.length_eq];exact k3) λk=>?_;rw[hns.mem_iff,hm3 k,hm1 k,hm2 k]
theorem cb3(hr:Room 1 (A.deeper (PyProof.Rows.envOfC "change_between" (aj aO) s.heap.objs.size f cdv)))(CU:Has P w K mg base 1 "unlike_entries" ["entries"] qm):
  ∃t,PS (CbX P w K mg base f cdv A outer s H0 E) (cbS 3) t∧∀(D:Ends)(H:Hp)(x0 x1:Option V)(d d2 l:Addr)(as bs:List (Addr×(Addr×Nd)))(zs us:ZN)(ns:List Int),Book H d as zs→Book H d2 bs us→TW.Tree1 (nds zs)→TW.Tree1 (nds us)→H l=some (.lst (ns.map V.int))→ns.Pairwise (· < ·)→ns.length≤60→(∀k,k∈ns↔k∈(nds zs).map (·.num)∨k∈(nds us).map (·.num)) →
   (∀c es H',Same H H'→ChgAt H' c es→TW.Chg (nds zs) (nds us) (dP es)→D.rt (.ref c) H')→t D [x0,x1,some (.ref d),some (.ref d2),some (.ref l)] H:=by
 obtain⟨fU,fdU,GU,mU,kU,bU⟩:=CU;refine⟨_,ay (ar GU hr rfl mU kU bU .nil aU (aa (jW (N:=["number","after","before"]) (cl:=[("before",s.heap.objs.size+1),("after",s.heap.objs.size+2)]) (k:=1) (js:=[3,2]) (g:=cm 0) rfl
   (LcOk.mk' ["before","after"] rfl rfl (by decide +kernel) (by decide +kernel) ?hcl rfl (by decide +kernel)) rfl ?hj (iH (pv 4)) (λs H fp=>ci (i:=0) (show(["number","after","before"]:List Str).Nodup by decide +kernel) rfl (Or.inl rfl) (Or.inr rfl))
   (λs H fp=>aK (aa (pv 0) (aa (lW (dj hr) (pv 2) (pv 0) ⟨rfl,rfl,rfl,rfl⟩) (aa (lW (dj hr) (pv 1) (pv 0) ⟨rfl,rfl,rfl,rfl⟩) ae))))) ae)),?_⟩
 case hcl =>
  intro y hy;rcases mem_cons.mp hy with e|hy
  ·rw[e];rfl
  ·rcases mem_cons.mp hy with e|hy
   ·rw[e];rfl
   ·cases hy
 case hj =>
  intro i j x h1 h2
  match i,h1,h2 with
  |0,h1,h2 =>
   cases h1;cases h2;exact⟨rfl,Or.inr (Or.inl rfl),(show((aj aO).names.lookup ("after":Str)≠some NameKind.local)by decide +kernel),by first|exact Or.inl rfl|exact Or.inr rfl⟩
  |1,h1,h2 =>
   cases h1;cases h2;exact⟨rfl,Or.inr (Or.inl rfl),(show((aj aO).names.lookup ("before":Str)≠some NameKind.local)by decide +kernel),by first|exact Or.inl rfl|exact Or.inr rfl⟩
  |i+2,h1,h2=>simp at h1
 intro D H x0 x1 d d2 l as bs zs us ns bk bk2 T1 T2 hl hup hn hm q;refine⟨_,rfl,l,rfl,⟨_,SqL.of hl⟩,λp hp=>?_⟩;refine ls (fr:=[some (.ref d2),some (.ref d)]) ns V.int (by omega) hp (lr (SqL.of hl)) rfl (λk y H'=>∃c vo vn,y=.ref c∧c≠p∧H' c=some (.tup [.int k,vo,vn])∧gf H' vo (TW.bc (nds zs) k)∧gf H' vn (TW.bc (nds us) k)∧vo≠.ref p∧vn≠.ref p) (λk y H H' h ex=>?_) (λk H' kk mk s1 hpl hk=>?_) (λys H' s1 hp' hys=>?_)
 ·obtain⟨c,vo,vn,e,ne,h1,h2,h3,n1,n2⟩:=h;have ov:∀{v:V}{o:Option Nd},v≠.ref p→gf H v o→gf H' v o:=λhv h=>by
   rcases h with h|⟨q,n,e,h,e2⟩
   ·exact .inl h
   ·exact .inr ⟨q,n,e,ex q _ (λz=>hv (by rw[e,z])) h,e2⟩
  exact⟨c,vo,vn,e,ne,ex c _ ne h1,ov n1 h2,ov n2 h3,n1,n2⟩
 ·obtain⟨r1,hr1,ho1⟩:=(bk.same s1).optV T1 k;obtain⟨r2,hr2,ho2⟩:=(bk2.same s1).optV T2 k;have np:∀{v:V}{o:Option Nd},gf H' v o→v≠.ref p:=λh e=>by
   rcases h with⟨h,_⟩|⟨q,n,e2,h,_⟩
   ·rw[h]at e;cases e
   ·rw[e2]at e;injection e with e
    obtain⟨ys,hy⟩:=hpl;rw[e,hy]at h;cases h
  refine⟨_,rfl,_,rfl,d,rfl,.inl ⟨_,(bk.same s1).dict⟩,_,rfl,r1,hr1,_,rfl,d2,rfl,.inl ⟨_,(bk2.same s1).dict⟩,_,rfl,r2,hr2,(show 3≤sizeLine from ap (by decide)),λc hc=>?_⟩;have s2:=af (o:=.tup [.int k,r1.getD .non,r2.getD .non]) hc;exact hk _ _ s2 ⟨c,_,_,rfl,jl hpl hc,ac,ho1.same s2,ho2.same s2,np ho1,np ho2⟩
 ·obtain⟨cs,e1,e2,e3⟩:=kd (val:=V.ref) (S:=λ(k:Int) (c:Addr)=>RowAt H' c (TW.gO (nds zs) (nds us) k)) hys (λk y _ ⟨c,vo,vn,e,_,h1,h2,h3,_⟩=>⟨c,e,⟨vo,vn,h1,h2,h3⟩,tR k⟩);have hcl:cs.length=ns.length:=by rw[←e1,length_map]
  have er:dP (cs.map λx=>(x.2,TW.gO (nds zs) (nds us) x.1))=ns.map (TW.gO (nds zs) (nds us)):=by
   unfold dP;rw[map_map,←e1,map_map];rfl
  refine⟨p,cs.map λx=>(x.2,TW.gO (nds zs) (nds us) x.1),rfl,by rw[hp',e2];unfold gP;rw[map_map];rfl,λe he=>?_,by rw[length_map];omega,λc H2 s2 hc=>?_⟩
  ·obtain⟨x,hx,rfl⟩:=mem_map.mp he;exact e3 x hx
  ·refine q c _ H2 (s1.trans s2) hc ?_;have:dP ((cs.map λx=>(x.2,TW.gO (nds zs) (nds us) x.1)).filter unl)=_:=nu er;rw[this];refine TW.xY hup λk hk=>.inl ((hm k).mpr ?_);rcases hk with h|h
   ·exact .inl (ku h)
   ·exact .inr (ku h)
def qp:Sp:=λvs H Q _=>∃t u zs us,vs=[.ref t,.ref u]∧Tre H t zs∧Tre H u us∧∀c es H',Same H H'→ChgAt H' c es→TW.Chg (nds zs) (nds us) (dP es)→Q (.ref c) H'
theorem yC{f:Addr}{fd:FuncData}(F:Fun K "change_between" "change_between" aO f fd)(T:Txt mg)(CP:Has P w K mg base 1 "parts_by_number" ["tree"] pj)(CU:Has P w K mg base 1 "unlike_entries" ["entries"] qm):FnOk P w K mg base CX0 2 f fd ["one","other"] qp:=by
 obtain⟨fP,fdP,GP,mP,kP,bP⟩:=CP;refine F.ok wu (λvs H Q E h=>?_) (λcdv A outer s H vs Q E hr h=>?_)
 ·obtain⟨t,u,zs,us,rfl,_⟩:=h;rfl
 ·obtain⟨t,u,zs,us,rfl,tr,tr2,q⟩:=h;have hr1:Room 1 _:=hr.mono (by decide);obtain⟨t2,p2,h2⟩:=cb2 (P:=P) (w:=w) (K:=K) (base:=base) (f:=f) (cdv:=cdv) (A:=A) (outer:=outer) (s:=s) (H0:=H) (E:=E) T;obtain⟨t3,p3,h3⟩:=cb3 (P:=P) (w:=w) (base:=base) (f:=f) (cdv:=cdv) (A:=A) (outer:=outer) (s:=s) (H0:=H) (E:=E) hr1 CU;refine⟨_,ag (aM (i:=2) wu.nd rfl (Or.inr rfl) (ar GP hr1 rfl mP kP bP .nil aU (aa (pv 0) ae)))
   (ag (aM (i:=3) wu.nd rfl (Or.inr rfl) (ar GP hr1 rfl mP kP bP .nil aU (aa (pv 1) ae))) (ag p2 (am p3))),?_⟩
  refine⟨_,rfl,t,zs,rfl,tr,λd as H1 s1 _ bk _=>?_⟩;refine⟨_,rfl,u,us,rfl,tr2.same s1,λd2 bs H2 s2 _ bk2 _=>?_⟩;refine h2 _ H2 _ _ _ d d2 as bs zs us (bk.same s2) bk2 tr.len tr2.len λl ns H3 s3 hl hup hn hm=>?_;exact h3 _ H3 _ _ d d2 l as bs zs us ns ((bk.same s2).same s3) (bk2.same s3) tr.tr tr2.tr hl hup hn hm λc es H4 s4 hc hch=>q c es H4 (((s1.trans s2).trans s3).trans s4) hc hch
end
end TK
namespace L2
open PySem PySem.Spec PyProof.Rows
def Rpr(K:PySem.W.Frag)(H:Hp)(v:V):Prop:=v=.non∨(∃i:Int,v=.int i∧0≤i∧i≤60)∨(∃x:Str,v=.str x∧(reprText x).length≤300)∨∃a x,v=.ref a∧SqT K H a [.str x]∧(tupleText [reprText x]).length≤300
section
variable{X:Cx}
theorem nI{k:Nat}{e:Expr}{te:TE}{b:Nat}{p:Pos}{ps:List Expr}{t:TJ}(hr:Room k X.A)(he:PE X e te)(h:PJ X ps b t):PJ X (.FormattedValue e 114 none p::ps) (300+b) (λσ H k=>te σ H λv H1=>Rpr X.K H1 v∧t σ H1 k):=by
 intro out pins s σ H Q I hb hq;refine joinParts_cons (cU (thn (he pins _ σ H _ I hq) λv s1 hpt=>?_));obtain⟨y,H1,I1,r1,q1⟩:=hpt;obtain⟨hR,q⟩:=q1;rcases hR with rfl|⟨i,rfl,h0,h1⟩|⟨x,rfl,hx⟩|⟨a,x,rfl,hs,hx⟩
 ·cases r1;have hl:(out++("None":Str)).length=out.length+("None":Str).length:=strLen_append ..;have hn:("None":Str).length≤300:=by decide +kernel
  refine pyReprObj_none (formatField_str (λt' tk'=>⟨le_of_lt (ao (by omega)),?_⟩) (le_of_lt (ao (by omega))));exact h _ pins _ σ H1 Q (I1.tok _) (by omega) q
 ·obtain⟨tk,rfl⟩:=r1;have h2:=fQ i h0 h1;have hl:(out++ofString (toString i)).length=out.length+(ofString (toString i)).length:=strLen_append ..;refine pyReprObj_int (lt_of_le_of_lt (log2_le_self _) (by omega)) (formatField_str (λt' tk'=>⟨le_of_lt (ao (by omega)),?_⟩) (le_of_lt (ao (by omega))));exact h _ pins _ σ H1 Q (I1.tok _) (by omega) q
 ·obtain⟨tk,rfl⟩:=r1;have hl:(out++reprText x).length=out.length+(reprText x).length:=strLen_append ..;refine wpAny_pyReprObj_str (formatField_str (λt' tk'=>⟨le_of_lt (ao (by omega)),?_⟩) (le_of_lt (ao (by omega)))) (le_of_lt (ao (by omega)));exact h _ pins _ σ H1 Q (I1.tok _) (by omega) q
 ·cases r1;obtain⟨its,vs,pl,hz⟩:=I1.tuple hs;obtain⟨o,ho,hc,n,hd⟩:=pl;have hl:(out++tupleText [reprText x]).length=out.length+(tupleText [reprText x]).length:=strLen_append ..;have hrx:(reprText x).length≤(tupleText [reprText x]).length:=by
   have e1:tupleText [reprText x]=("(":Str)++Str.join ", " [reprText x]++(",)":Str):=rfl;rw[e1,strLen_append,strLen_append];show(reprText x).length≤_+(reprText x).length+_;omega
  have hT:ReprAll X.prog X.w its.toArray.toList [reprText x]:=by
   show ReprAll X.prog X.w its [reprText x];cases vs with
   |cons hv ht =>
    cases ht;obtain⟨tk,rfl⟩:=hv;exact .cons (ReprIs.str x tk (le_of_lt (ao (by omega)))) .nil
  refine wpAny_pyReprObj_tuple ⟨o,ho,hc⟩ hr.gd (λc hc=>by cases hc) hr.units0 ho hd hT (λu tk'=>?_) (le_of_lt (ao (by omega)));refine formatField_str (λt' tk'=>⟨le_of_lt (ao (by omega)),?_⟩) (le_of_lt (ao (by omega)));exact h _ pins _ σ H1 Q ((I1.tok _).tok _) (by omega) q
end
end L2
namespace TW
section
variable{S:Type}
variable{pre:List (Nd S)}{f:Nat→Nd S}{b:Nat}
theorem uw:Tree1 ([]:List (Nd S)):=⟨⟨Pairwise.nil,nodup_nil,λn h=>by cases h⟩,λn h=>by cases h⟩
theorem ux{x:Nd S}(h1:1≤x.num)(h0:x.par=0):Tree1 [x]:=made uw (List.Perm.refl _) (List.pairwise_singleton _ _) h1 (.inl h0) λm h=>by cases h
theorem uy{x y:Nd S}{u:List (Nd S)}(h1:1≤x.num)(h0:x.par=0)(hs:x.st=none)(hy:1≤y.num)(hp:y.par=x.num)(hu:u.Perm (y::[x]))(hr:dy u):Tree1 u:=by
 refine made (ux h1 h0) hu hr hy (.inr ⟨x,mem_singleton.mpr rfl,hs,hp.symm⟩) λm hm=>?_;have:m=x:=by simpa using hm
 subst this;intro ⟨e,_⟩;omega
end
end TW
namespace TK
open PySem
def t0:List Nd:=[⟨1,0,"a",none⟩,⟨2,1,"b",some 5⟩,⟨3,0,"c",none⟩]
def t1:List Nd:=[⟨1,0,"a",none⟩,⟨2,1,"b",some 6⟩,⟨3,0,"c",none⟩]
def t2:List Nd:=[⟨1,0,"a",none⟩,⟨2,1,"b",some 6⟩]
theorem lH:TW.Tree1 t0:=by
 have h2:TW.Tree1 ([⟨1,0,"a",none⟩,⟨2,1,"b",some 5⟩]:List Nd):=TW.uy (x:=(⟨1,0,"a",none⟩:Nd)) (y:=(⟨2,1,"b",some 5⟩:Nd)) (by decide) rfl rfl (by decide) rfl (List.Perm.swap _ _ _) (by unfold TW.dy;simp);refine TW.made (n:=(⟨3,0,"c",none⟩:Nd)) h2 ?_ (by unfold t0 TW.dy;simp) (by decide) (.inl rfl) λm hm h=>?_
 ·exact(List.perm_append_comm (l₁:=([⟨1,0,"a",none⟩,⟨2,1,"b",some 5⟩]:List Nd)) (l₂:=[(⟨3,0,"c",none⟩:Nd)]))
 ·rcases mem_cons.mp hm with e|hm
  ·rw[e]at h;exact absurd h.2 (show ¬(("a":Str)="c")by decide +kernel)
  ·have e:m=_:=mem_singleton.mp hm;rw[e]at h;exact absurd h.1 (by decide)
theorem uz:TW.Told t0 (.write 2 6) (.inr t1) :=
 TW.Told.wrote (t:=t0) (n:=2) (st:=6) (y:=(⟨2,1,"b",some 5⟩:Nd)) (by unfold t0;simp) rfl (by simp)
theorem qq:TW.Tree1 t1:=uz.tree lH (trivial)
theorem Av{k:Int}(h:TW.Und t1 3 k):k≠0∧k≠1∧k≠2:=by
 induction h with
 |here=>decide
 |@up n hn _ ih =>
  unfold t1 at hn;simp only[mem_cons,not_mem_nil,or_false]at hn;rcases hn with rfl|rfl|rfl
  ·exact absurd rfl ih.1
  ·exact absurd rfl ih.2.1
  ·exact absurd rfl ih.1
theorem yD:TW.Told t1 (.drop 3) (.inr t2):=by
 have:=TW.Told.dropped (t:=t1) (n:=3) (f:=λm=>decide (m.num≠3)) ⟨(⟨3,0,"c",none⟩:Nd),by unfold t1;simp,rfl⟩ (λm hm=>?_)
 ·exact this
 ·rw[decide_eq_true_iff];refine⟨λh hu=>?_,λh e=>h (by rw[e];exact .here)⟩;have u:=Av hu;unfold t1 at hm;simp only[mem_cons,not_mem_nil,or_false]at hm;rcases hm with rfl|rfl|rfl
  ·exact absurd rfl u.2.1
  ·exact absurd rfl u.2.2
  ·exact absurd rfl h
theorem Aw:TW.dl t1 1:=⟨(⟨1,0,"a",none⟩:Nd),by unfold t1;simp,rfl⟩
theorem Ax:TW.dl t1 2:=⟨(⟨2,1,"b",some 6⟩:Nd),by unfold t1;simp,rfl⟩
theorem zG:TW.dl t1 3:=⟨(⟨3,0,"c",none⟩:Nd),by unfold t1;simp,rfl⟩
theorem wv:TW.Told t1 (.make 2 0 "d" none) (.inl .known):=.mKnown Ax
theorem uA{k:Int}(h:k=1∨k=3):TW.Told t1 (.write k 4) (.inl .notFile):=by
 rcases h with rfl|rfl
 ·exact .wFold (y:=(⟨1,0,"a",none⟩:Nd)) (by unfold t1;simp) rfl rfl
 ·exact .wFold (y:=(⟨3,0,"c",none⟩:Nd)) (by unfold t1;simp) rfl rfl
theorem zH:TW.Told t1 (.move 1 1 "d") (.inl .inside):=.vIn Aw (.inr ⟨(⟨1,0,"a",none⟩:Nd),by unfold t1;simp,rfl,rfl⟩) (by decide) .here
theorem uB:TW.Told t1 (.move 3 0 "a") (.inl .taken):=.vTaken (m:=(⟨1,0,"a",none⟩:Nd)) zG (.inl rfl) (λh=>absurd rfl h) (by unfold t1;simp) (by decide) rfl rfl
theorem ww:TW.Told t1 (.move 3 2 "z") (.inl .notFolder):=.vFile (m:=(⟨2,1,"b",some 6⟩:Nd)) zG (by decide) (by unfold t1;simp) rfl (by simp)
theorem wx:TW.Told t1 (.drop 9) (.inl .noNode):=.dNo λ⟨m,hm,e⟩=>by
 unfold t1 at hm;simp only[mem_cons,not_mem_nil,or_false]at hm;rcases hm with rfl|rfl|rfl<;>exact absurd e (by decide)
def r87:List (TW.Row Str):=[⟨2,some ⟨2,1,"b",some 5⟩,some ⟨2,1,"b",some 6⟩⟩,⟨3,some ⟨3,0,"c",none⟩,none⟩]
theorem yE:TW.Chg t0 t2 r87:=by
 refine⟨by unfold r87;simp,λr=>⟨λh=>?_,λh=>?_⟩⟩
 ·unfold r87 at h;simp only[mem_cons,not_mem_nil,or_false]at h;rcases h with rfl|rfl
  ·refine⟨rfl,rfl,by simp⟩
  ·refine⟨rfl,rfl,by simp⟩
 ·obtain⟨k,o,n⟩:=r;obtain⟨h1,h2,h3⟩:=h;simp only[]at h1 h2 h3
  by_cases e1:k=1
  ·subst e1;exact absurd (h1.trans (show TW.bc t0 1=TW.bc t2 1 from rfl) |>.trans h2.symm) h3
  by_cases e2:k=2
  ·subst e2;rw[h1,h2];exact mem_cons_self
  by_cases e3:k=3
  ·subst e3;rw[h1,h2];exact mem_cons_of_mem _ mem_cons_self
  have f0:TW.bc t0 k=none:=by
   unfold TW.bc t0;simp[symm e1,symm e2,symm e3]
  have f2:TW.bc t2 k=none:=by
   unfold TW.bc t2;simp[symm e1,symm e2,symm e3]
  rw[h1,h2,f0,f2]at h3;exact absurd rfl h3
end TK
namespace TK
open PySem L2
theorem uC{X:Cx}{e:Expr}:PT X e (λ_ _ _=>False):=λ_ _ _ _ _ _ h=>h.elim
def Odd(H:Hp)(v:V):Prop:=v=.non∨v=.int 5∨(∃x:Str,v=.str x∧cO x=false∧x.length≤100∧(reprText x).length≤300)∨∃a,v=.ref a∧H a=some (.tup [.str "a"])
theorem Odd.keep{H H':Hp}{v:V}(h:Odd H v)(s:∀a xs,H a=some (.tup xs)→H' a=some (.tup xs)):Odd H' v:=by
 rcases h with h|h|h|⟨a,e,h⟩
 ·exact .inl h
 ·exact .inr (.inl h)
 ·exact .inr (.inr (.inl h))
 ·exact .inr (.inr (.inr ⟨a,e,s _ _ h⟩))
theorem Odd.same{H H':Hp}{v:V}(h:Odd H v)(s:Same H H'):Odd H' v:=h.keep λa xs e=>s _ _ e
theorem Odd.rpr{K:PySem.W.Frag}{H:Hp}{v:V}(h:Odd H v):Rpr K H v:=by
 rcases h with h|h|⟨x,e,_,_,h⟩|⟨a,e,h⟩
 ·exact .inl h
 ·exact .inr (.inl ⟨5,h,by decide,by decide⟩)
 ·exact .inr (.inr (.inl ⟨x,e,h⟩))
 ·exact .inr (.inr (.inr ⟨a,"a",e,SqT.of h,by decide +kernel⟩))
section
variable{P:Program}{w:World}{K:PySem.W.Frag}{mg:Str→Option Value}{base:Heap}
theorem _root_.L2.FnOk.or{CX:CXT}{k:Nat}{f:Addr}{fd:FuncData}{ps:List Str}{sp sp':Sp}(F:FnOk P w K mg base CX k f fd ps sp)(F':FnOk P w K mg base CX k f fd ps sp'):FnOk P w K mg base CX k f fd ps (λvs H Q E=>sp vs H Q E∨sp' vs H Q E) :=
 ⟨λvs H Q E q=>q.elim (F.len vs H Q E) (F'.len vs H Q E),λA outer s H args us vs Q E hr he hb hv hs=>hs.elim (F.run A outer s H args us vs Q E hr he hb hv) (F'.run A outer s H args us vs Q E hr he hb hv)⟩
def gU:Sp:=λvs H Q _=>∃v,vs=[v]∧Odd H v∧∀H',Same H H'→Q (.bl false) H'
def wy:Sp:=λvs H Q _=>∃v t,vs=[v]∧TyOf K H v t∧kitOne K t (.type "str")=some false∧Q (.bl false) H
theorem uD{f:Addr}{fd:FuncData}(F:Fun K "is_name" "is_name" mX f fd)(T:Txt mg):FnOk P w K mg base CX0 1 f fd ["thing"] (wy (K:=K)):=by
 refine F.ok ul (λvs H Q E h=>?_) (λcdv A outer s H vs Q E hr h=>?_)
 ·obtain⟨v,t,rfl,_⟩:=h;rfl
 ·obtain⟨v,t,rfl,ty,e,q⟩:=h;refine⟨_,ag (bw (PW.pt (pw_or (dW (fz (aC iy rfl T.isin boot_isinstance (aa (pv 0) (aa (kS (v:=.ty "str") rfl T.str boot_str rfl) ae))) (λ_=>rfl)))
    (pw_or1 uC))) (am (ay ir)) aJ) dc,?_⟩
  exact⟨_,rfl,v,_,t,_,rfl,ty,e,_,rfl,bX (bX q)⟩
theorem nJ{f:Addr}{fd:FuncData}(F:Fun K "is_name" "is_name" mX f fd)(T:Txt mg):FnOk P w K mg base CX0 1 f fd ["thing"] gU:=by
 refine((jH F T).or (uD F T)).imp λvs H Q E h=>?_;obtain⟨v,rfl,o,q⟩:=h;rcases o with rfl|rfl|⟨x,rfl,hb,hx,_⟩|⟨a,rfl,ha⟩
 ·exact .inr ⟨_,_,rfl,.non,(by kernel_rfl:_=some false),q H (Same.refl _)⟩
 ·exact .inr ⟨_,_,rfl,.int 5,(by kernel_rfl:_=some false),q H (Same.refl _)⟩
 ·exact .inl ⟨x,rfl,hx,λH' s=>by rw[hb];exact q H' s⟩
 ·exact .inr ⟨_,_,rfl,.tup ha,(by kernel_rfl:_=some false),q H (Same.refl _)⟩
def fi(CT:Addr):Sp:=λvs H _ E=>∃p v,vs=[.ref p,v]∧Odd H v∧∀H',Same H H'→E (.ref CT) none H'
theorem uE{f CT:Addr}{fd:FuncData}(F:Fun K "tag" "Ledger.tag" du f fd)(O:fu "NoTag" mg base CT)(CN:Has P w K mg base 1 "is_name" ["thing"] gU):FnOk P w K mg base (CX1 P w) 2 f fd ["self","name"] (fi CT):=by
 obtain⟨fN,fdN,GN,mN,kN,bN⟩:=CN;refine F.okX lG (λvs H Q E h=>?_) (λcdv A outer s H vs Q E hr h=>?_)
 ·obtain⟨p,v,rfl,_⟩:=h;rfl
 ·obtain⟨p,v,rfl,o,qE⟩:=h;refine⟨_,ag (bw (dW (fz (ar GN hr rfl mN kN bN .nil aU (aa (pv 1) ae)) (λ_=>rfl))) (am (bA aV O hr.hd rfl (db (nI hr (pv 1) (cj (c:=100) (by decide +kernel) dY)) (by decide)))) aJ) dc,?_⟩;exact⟨_,rfl,v,rfl,o,λH1 s1=>⟨_,rfl,bX ⟨_,rfl,(o.same s1).rpr,λy=>⟨ap (show 1≤1000 by decide),qE H1 s1⟩⟩⟩⟩
def cR(C CT:Addr):Sp:=λvs H _ E=>∃p v ft t d pl al zf z gs es as,vs=[.ref p,v]∧LAt C H p ft t d pl al zf z gs es as∧(Odd H v∨∃x:Str,v=.str x∧cO x=true∧x.length≤100∧(reprText x).length≤300∧x∉gs.map (·.1))∧∀H',Same H H'→E (.ref CT) none H'
theorem wz{f C CT:Addr}{fd:FuncData}(F:Fun K "tagged" "Ledger.tagged" cz f fd)(T:LCls K mg C)(O:fu "NoTag" mg base CT)(CN:Has P w K mg base 1 "is_name" ["thing"] (λvs H Q E=>gU vs H Q E∨fg vs H Q E)):FnOk P w K mg base (CX1 P w) 2 f fd ["self","name"] (cR C CT):=by
 obtain⟨fN,fdN,GN,mN,kN,bN⟩:=CN;refine F.okX uu (λvs H Q E h=>?_) (λcdv A outer s H vs Q E hr h=>?_)
 ·obtain⟨p,v,ft,t,d,pl,al,zf,z,gs,es,as,rfl,_⟩:=h;rfl
 ·obtain⟨p,v,ft,t,d,pl,al,zf,z,gs,es,as,rfl,L,ho,qE⟩:=h;obtain⟨dx,hp⟩:=L.ob;refine⟨_,ag (bw (PW.pt (pw_or (dW (fz (ar GN hr rfl mN kN bN .nil aU (aa (pv 1) ae)) (λ_=>rfl))) (pw_or1 (gZ (dH (dj hr) (pv 1) (aX (pv 0) rfl))))))
   (am (bA aV O hr.hd rfl (db (cj (c:=100) (by decide +kernel) (nI hr (pv 1) dY)) (by decide)))) aJ) dc,?_⟩
  rcases ho with o|⟨x,rfl,hb,hx,hrx,hn⟩
  ·exact⟨_,rfl,.inl ⟨v,rfl,o,λH1 s1=>⟨_,rfl,bX (bX ⟨_,rfl,(o.same s1).rpr,λy=>⟨ap (show 1≤1000 by decide),qE H1 s1⟩⟩)⟩⟩⟩
  ·refine⟨_,rfl,.inr ⟨x,rfl,hx,λH1 s1=>?_⟩⟩;rw[hb];have L1:=L.same s1;have hp1:=s1 _ _ hp;have vn:aZ (cQ gs) (Sum.inr x:Key)=none:=by
    have:=L.tg.val x;rw[decide_eq_false hn]at this;cases hv:aZ (cQ gs) (Sum.inr x:Key)with
    |none=>rfl
    |some u=>rw[hv]at this;cases this
   have dg:dG H1 d (kV (Sum.inr x)) none:=.inl ⟨_,_,L1.tg.dct,rfl,vn.symm⟩;refine⟨true,rfl,bv ⟨_,rfl,_,rfl,p,C,dx,_,_,rfl,hp1,T.cl,T.n2,gR,d,_,rfl,dg,_,rfl,bX ?_⟩⟩;exact⟨_,rfl,.inr (.inr (.inl ⟨x,rfl,hrx⟩)),λy=>⟨ap (show 1≤1000 by decide),qE H1 s1⟩⟩
def eW(C CT:Addr):Sp:=cR C CT
theorem wZ:FnScope ["self","name"] ["self","name"] (aj bY):=fsc
theorem wA{f C CT fG:Addr}{fd fdG:FuncData}(F:Fun K "from_tag" "Ledger.from_tag" bY f fd)(T:LCls K mg C)(CC:Has P w K mg base 2 "change_between" ["one","other"] qp)(MG:Meth K C "tagged" fG)(GG:FnOk P w K mg base (CX1 P w) 2 fG fdG ["self","name"] (cR C CT))(bG:aq K fdG ["self","name"] []):FnOk P w K mg base (CX1 P w) 3 f fd ["self","name"] (eW C CT):=by
 obtain⟨fC,fdC,GC,mC,kC,bC⟩:=CC;refine F.okX wZ (λvs H Q E h=>?_) (λcdv A outer s H vs Q E hr h=>?_)
 ·obtain⟨p,v,ft,t,d,pl,al,zf,z,gs,es,as,rfl,_⟩:=h;rfl
 ·refine⟨_,am (ay (ar GC hr rfl mC kC bC .nil aU (aa (ba (E:=E) (pv 0) T.cl MG GG hr bG .nil (aW aV) (aa (pv 1) ae)) (aa (aX (pv 0) rfl) ae)))),?_⟩;obtain⟨p,v,ft,t,d,pl,al,zf,z,gs,es,as,rfl,L,ho,qE⟩:=h;obtain⟨dx,hp⟩:=L.ob;exact⟨_,rfl,p,dx,_,rfl,hp,cf (by decide +kernel) (by decide +kernel) (by decide +kernel) (by decide +kernel) (by decide +kernel),_,rfl,p,v,ft,t,d,pl,al,zf,z,gs,es,as,rfl,L,ho,qE⟩
def jJ(C:Addr):Sp:=λvs H Q _=>∃p ft t d pl al zf z gs es as,vs=[.ref p]∧LAt C H p ft t d pl al zf z gs es as∧Q (.ref ft) H
theorem yF:FnScope ["self"] ["self"] (aj eB):=fsc
theorem wB{f C:Addr}{fd:FuncData}(F:Fun K "base" "Ledger.base" eB f fd)(T:LCls K mg C):FnOk P w K mg base CX0 1 f fd ["self"] (jJ C):=by
 refine F.ok yF (λvs H Q E h=>?_) (λcdv A outer s H vs Q E hr h=>?_)
 ·obtain⟨p,ft,t,d,pl,al,zf,z,gs,es,as,rfl,_⟩:=h;rfl
 ·obtain⟨p,ft,t,d,pl,al,zf,z,gs,es,as,rfl,L,q⟩:=h;obtain⟨dx,hp⟩:=L.ob;exact⟨_,am (ay (aX (pv 0) rfl)),_,rfl,p,C,dx,_,_,rfl,hp,T.cl,T.n0,zA,q⟩
def nK(C:Addr):Sp:=λvs H Q _=>∃p ft t d pl al zf z gs es as g,vs=[.ref p,.str g.1]∧LAt C H p ft t d pl al zf z gs es as∧g.1.length≤100∧cO g.1=true∧g∈gs∧∀c rs H',Same H H'→ChgAt H' c rs→TW.Chg (nds g.2.2) (nds z) (dP rs)→Q (.ref c) H'
theorem yG{f C fG:Addr}{fd fdG:FuncData}(F:Fun K "from_tag" "Ledger.from_tag" bY f fd)(T:LCls K mg C)(CC:Has P w K mg base 2 "change_between" ["one","other"] qp)(MG:Meth K C "tagged" fG)(GG:FnOk P w K mg base CX0 2 fG fdG ["self","name"] (pi C))(bG:aq K fdG ["self","name"] []):FnOk P w K mg base CX0 3 f fd ["self","name"] (nK C):=by
 obtain⟨fC,fdC,GC,mC,kC,bC⟩:=CC;refine F.ok wZ (λvs H Q E h=>?_) (λcdv A outer s H vs Q E hr h=>?_)
 ·obtain⟨p,ft,t,d,pl,al,zf,z,gs,es,as,g,rfl,_⟩:=h;rfl
 ·obtain⟨p,ft,t,d,pl,al,zf,z,gs,es,as,g,rfl,L,hx,hn,hg,q⟩:=h;obtain⟨dx,hp⟩:=L.ob;refine⟨_,am (ay (ar GC hr rfl mC kC bC .nil aU (aa (ba (pv 0) T.cl MG GG hr bG .nil aU (aa (pv 1) ae)) (aa (aX (pv 0) rfl) ae)))),?_⟩;refine⟨_,rfl,p,dx,_,rfl,hp,cf (by decide +kernel) (by decide +kernel) (by decide +kernel) (by decide +kernel) (by decide +kernel),_,rfl,p,ft,t,d,pl,al,zf,z,gs,es,as,g,rfl,L,hx,hn,hg,λH1 s1=>?_⟩;have L1:=L.same s1;exact⟨_,rfl,p,C,dx,_,_,rfl,s1 _ _ hp,T.cl,T.n1,jF,g.2.1,t,g.2.2,z,rfl,L1.tg.at' g hg,L1.tr,λc rs H2 s2 hc hch=>q c rs H2 (s1.trans s2) hc hch⟩
def pk(C:Addr):Sp:=λvs H Q E=>∃d k zs,vs=[.ref d,.int k]∧lx H d zs∧((nds zs).map (·.num)).Nodup∧-1≤k∧k≤99∧(∀z∈zs,z.2.num=k→Q (.ref z.1) H)∧((∀z∈zs,z.2.num≠k)→E (.ref C) none H)
theorem yH:FnScope ["nodes","number"] ["nodes","number"] (aj tw):=fsc
theorem wC{f C:Addr}{fd:FuncData}(F:Fun K "node_of" "node_of" tw f fd)(O:nA mg base C):FnOk P w K mg base (CX1 P w) 1 f fd ["nodes","number"] (pk C):=by
 refine F.okX yH (λvs H Q E h=>?_) (λcdv A outer s H vs Q E hr h=>?_)
 ·obtain⟨d,k,zs,rfl,_⟩:=h;rfl
 ·obtain⟨d,k,zs,rfl,hd,hnd,h0,h1,q1,q2⟩:=h;refine⟨_,ag (bw (gZ (dH (dj hr) (pv 1) (pv 0))) (am (bA aV O hr.hd rfl (db (cj (c:=100) (by decide +kernel) (qj (pv 1) dY)) (by decide)))) aJ) (am (ay (lh (dj hr) (pv 0) (pv 1) (λ_ _=>rfl)))),?_⟩
  by_cases hk:∀z∈zs,z.2.num≠k
  ·refine⟨_,rfl,_,rfl,d,_,rfl,hd.not hk,_,rfl,?_⟩;exact bX ⟨_,rfl,k,rfl,h0,h1,λy=>⟨ap (show 1≤1000 by decide),q2 hk⟩⟩
  ·obtain⟨z,hz,e⟩:∃z∈zs,z.2.num=k:=by
    by_cases h:∃z∈zs,z.2.num=k
    ·exact h
    ·exact absurd (λz hz e=>h ⟨z,hz,e⟩) hk
   subst e;refine⟨_,rfl,_,rfl,d,_,rfl,hd.get hnd hz,_,rfl,?_⟩;exact bv ⟨_,rfl,_,rfl,d,_,rfl,hd.get hnd hz,q1 z hz rfl⟩
def lI(CN CF:Addr):Sp:=λvs H _ E=>∃d p zs,vs=[.ref d,.int p]∧lx H d zs∧At H zs∧((nds zs).map (·.num)).Nodup∧-1≤p∧p≤99∧p≠0 ∧
 (((∀z∈zs,z.2.num≠p)∧E (.ref CN) none H)∨((∃z∈zs,z.2.num=p∧z.2.st≠none)∧E (.ref CF) none H))
theorem yI:FnScope ["nodes","number"] ["nodes","number"] (aj tz):=fsc
theorem wD{f CN CF:Addr}{fd:FuncData}(F:Fun K "check_folder" "check_folder" tz f fd)(T:Txt mg)(O:fu "NotFolder" mg base CF)(CNo:cy P w K mg base 1 "node_of" ["nodes","number"] (pk CN)):
  FnOk P w K mg base (CX1 P w) 2 f fd ["nodes","number"] (lI CN CF):=by
 obtain⟨fN,fdN,GN,mN,kN,bN⟩:=CNo;obtain⟨tt,hT⟩:=T.top;refine F.okX yI (λvs H Q E h=>?_) (λcdv A outer s H vs Q E hr h=>?_)
 ·obtain⟨d,p,zs,rfl,_⟩:=h;rfl
 ·obtain⟨d,p,zs,rfl,hd,hA,hnd,h0,h1,hp0,q⟩:=h;refine⟨_,am (bw (PW.pt (pw_and (aL iS (pv 1) (bg (v:=.int 0) rfl hT ⟨_,rfl⟩) (aS _)) (pw_and1 (aL pD (aF aD (ar (E:=E) GN hr rfl mN kN bN .nil (aW aV) (aa (pv 0) (aa (pv 1) ae))) ak (λ_ _=>rfl)) dU (aS _)))))
   (am (bA aV O hr.hd rfl (db (cj (c:=100) (by decide +kernel) (qj (pv 1) (cj (c:=100) (by decide +kernel) dY))) (by decide)))) aJ),?_⟩
  refine⟨_,rfl,rfl,_,rfl,?_⟩;have:decide (V.int p=V.int 0)=false:=by simp[hp0]
  rw[this];refine bX ⟨_,rfl,_,rfl,d,p,zs,rfl,hd,hnd,h0,h1,λz hz e=>?_,λhk=>?_⟩
  ·refine⟨z.1,_,_,_,rfl,rfl,SqT.of (hA z hz),at3 z.2,rfl,_,rfl,?_⟩;rw[pY];rcases q with⟨hno,_⟩|⟨⟨y,hy,ey,hs⟩,q⟩
   ·exact absurd e (hno z hz)
   ·have e2:y.2=z.2:=by
     have key:∀l:List Nd,(l.map (·.num)).Nodup→∀a∈l,∀b∈l,a.num=b.num→a=b:=by
      intro l
      induction l with
      |nil=>intro _ a ha;cases ha
      |cons x r ih =>
       intro hn a ha b hb e;rw[map_cons,nodup_cons]at hn;rcases mem_cons.mp ha with ea|ha'<;>rcases mem_cons.mp hb with eb|hb'
       ·rw[ea,eb]
       ·exact absurd (mem_map.mpr ⟨b,hb',by rw[←e,ea]⟩) hn.1
       ·exact absurd (mem_map.mpr ⟨a,ha',by rw[e,eb]⟩) hn.1
       ·exact ih hn.2 a ha' b hb' e
     exact key _ hnd _ (bO hy) _ (bO hz) (ey.trans e.symm)
    rw[e2]at hs;cases hs':z.2.st with
    |none=>exact absurd hs' hs
    |some i=>exact bX ⟨_,rfl,p,rfl,h0,h1,λy=>⟨ap (show 1≤1000 by decide),q⟩⟩
  ·rcases q with⟨_,q⟩|⟨⟨y,hy,ey,hs⟩,q⟩
   ·exact q
   ·exact absurd ey (hk y hy)
def br(CN CF:Addr):Sp:=λvs H _ E=>∃t k zs,vs=[.ref t,.int k]∧Tre H t zs∧-1≤k∧k≤99∧k≠0 ∧
 (((∀z∈zs,z.2.num≠k)∧∀H',Same H H'→E (.ref CN) none H')∨((∃z∈zs,z.2.num=k∧z.2.st≠none)∧∀H',Same H H'→E (.ref CF) none H'))
theorem xa:FnScope ["tree","number","nodes","stamps","of_files"] ["tree","number"] (aj ly):=fsc
theorem wE{f CN CF:Addr}{fd:FuncData}(F:Fun K "total" "total" ly f fd)(CB:Has P w K mg base 1 "by_number" ["tree"] gQ)(CFo:cy P w K mg base 2 "check_folder" ["nodes","number"] (lI CN CF)):FnOk P w K mg base (CX1 P w) 3 f fd ["tree","number"] (br CN CF):=by
 obtain⟨fB,fdB,GB,mB,kB,bB⟩:=CB;obtain⟨fF,fdF,GF,mF,kF,bF⟩:=CFo;refine F.okX xa (λvs H Q E h=>?_) (λcdv A outer s H vs Q E hr h=>?_)
 ·obtain⟨t,k,zs,rfl,_⟩:=h;rfl
 ·obtain⟨t,k,zs,rfl,tr,k0,k1,kn,q⟩:=h;have hr1:Room 1 _:=hr.mono (by decide);have hl:=tr.len;have hnd:=cJ tr.tr;refine⟨_,ag (aM (i:=2) xa.nd rfl (Or.inr rfl) (ar GB hr1 rfl mB kB bB .nil aU (aa (pv 0) ae)))
   (ag (aB (ar (E:=E) GF hr rfl mF kF bF .nil (aW aV) (aa (pv 2) (aa (pv 1) ae)))) dc),?_⟩
  refine⟨_,rfl,t,zs,rfl,tr.tup,tr.nod,by omega,hnd,λd H1 s1 nd1=>⟨_,rfl,_,rfl,d,k,zs,rfl,nd1,tr.nod.same s1,hnd,k0,k1,kn,?_⟩⟩;rcases q with⟨h,q⟩|⟨h,q⟩
  ·exact .inl ⟨h,q H1 s1⟩
  ·exact .inr ⟨h,q H1 s1⟩
theorem xb:FnScope ["tree","number","nodes","start"] ["tree","number"] (aj lz):=fsc
theorem wF{f CN CF:Addr}{fd:FuncData}(F:Fun K "shape" "shape" lz f fd)(CB:Has P w K mg base 1 "by_number" ["tree"] gQ)(CFo:cy P w K mg base 2 "check_folder" ["nodes","number"] (lI CN CF)):FnOk P w K mg base (CX1 P w) 3 f fd ["tree","number"] (br CN CF):=by
 obtain⟨fB,fdB,GB,mB,kB,bB⟩:=CB;obtain⟨fF,fdF,GF,mF,kF,bF⟩:=CFo;refine F.okX xb (λvs H Q E h=>?_) (λcdv A outer s H vs Q E hr h=>?_)
 ·obtain⟨t,k,zs,rfl,_⟩:=h;rfl
 ·obtain⟨t,k,zs,rfl,tr,k0,k1,kn,q⟩:=h;have hr1:Room 1 _:=hr.mono (by decide);have hl:=tr.len;have hnd:=cJ tr.tr;refine⟨_,ag (aM (i:=2) xb.nd rfl (Or.inr rfl) (ar GB hr1 rfl mB kB bB .nil aU (aa (pv 0) ae)))
   (ag (aB (ar (E:=E) GF hr rfl mF kF bF .nil (aW aV) (aa (pv 2) (aa (pv 1) ae)))) dc),?_⟩
  refine⟨_,rfl,t,zs,rfl,tr.tup,tr.nod,by omega,hnd,λd H1 s1 nd1=>⟨_,rfl,_,rfl,d,k,zs,rfl,nd1,tr.nod.same s1,hnd,k0,k1,kn,?_⟩⟩;rcases q with⟨h,q⟩|⟨h,q⟩
  ·exact .inl ⟨h,q H1 s1⟩
  ·exact .inr ⟨h,q H1 s1⟩
end
end TK
namespace L2
open PySem PySem.Spec PyProof.Rows
section
variable{X:Cx}
theorem wG(hu:X.A.units+4<cLine):OpR X (compareOp .NotEq) (λx y H Q=>∃a b xs ys,x=.ref a∧y=.ref b∧kH H xs ys∧H a=some (.tup xs)∧H b=some (.tup ys)∧Q (.bl false) H):=by
 intro pins s σ H x y v u Q I rx ry h;obtain⟨a,b,xs,ys,rfl,rfl,hx,ha,hb,q⟩:=h;cases rx;cases ry;obtain⟨_,us,r1,t1⟩:=I.hok a _ ha;obtain⟨_,ws,r2,t2⟩:=I.hok b _ hb;have hl:=hx.1;have l1:=r1.length;have l2:=r2.length;refine RcNeAt.tuples (e:=λ_=>true) t1 t2 (by omega) (λj h1 h2=>?_) _ _ _ _ ⟨.bl false,H,I,?_,q⟩
 ·have h1':j<xs.length:=by rw[l1];simpa using h1
  have h2':j<ys.length:=by rw[l2];simpa using h2
  obtain⟨u',hu1,hu2⟩:=r1.get (getElem?_eq_getElem h1');obtain⟨v',hv1,hv2⟩:=r2.get (getElem?_eq_getElem h2');rw[iM h1 hu1,iM h2 hv1];exact rp I 3 hu2 hv2 (hx.2 j _ _ (getElem?_eq_getElem h1') (getElem?_eq_getElem h2')) (by simp[Around.in1_units];omega)
 ·show _=Value.bool false;have:us.toArray.size=ws.toArray.size:=by simp only[size_toArray];omega
  simp[this]
end
theorem Inv.freezeL{X:Cx}{pins:List (Addr×Obj)}{σ:St}{H:Hp}{s:Shared}{d:Addr}{xs:List V}(I:Inv X pins σ H s)(hH:H d=some (.lst xs)):∃o,Inv X pins σ (upd H d (.frz o (.lst xs))) s:=by
 obtain⟨hz,its,n,rel,ho⟩:=I.hok d _ hH;exact⟨_,I.write (t':=s.toks) (x:=d) (e:=d) (by rw[hH];trivial) (.inl rfl) (λ_ _ _ q=>q) ⟨_,ho⟩ ⟨ho,hz,its,n,rel,ho⟩⟩
def Ay(t:TS):TS:=λD σ H=>t D σ H∨∃d xs,Rd H d (.lst xs)∧∀H1 o,(∀b u,H b=some u→b≠d→H1 b=some u)→H1 d=some (.frz o (.lst xs))→t D σ H1
theorem yJ{X:Cx}{st:Stmt}{t:TS}(hs:PS X st t):PS X st (Ay t):=λpins s σ H D I h=>by
 rcases h with h|⟨d,xs,h|⟨o,h⟩,ht⟩
 ·exact hs pins s σ H D I h
 ·obtain⟨o,I2⟩:=I.freezeL h;exact hs pins s σ _ D I2 (ht _ o (λb u e n=>by rw[ai n];exact e) ac)
 ·exact hs pins s σ H D I (ht H o (λb u e _=>e) h)
end L2
namespace TK
open PySem L2
def cC:Str:=("law"++".<locals>.")++"<lambda>"
theorem lk1{n x:Str}{c c':Addr}(h:[(n,c)].lookup x=some c'):x=n∧c'=c:=by
 by_cases e:x=n
 ·subst e;rw[lookup_cons,beq_self_eq_true]at h;exact⟨rfl,(Option.some.inj h).symm⟩
 ·rw[lookup_cons,show(x==n)=false by simpa using e]at h
  cases h
theorem lk2{n m x:Str}{c d c':Addr}(h:[(n,c),(m,d)].lookup x=some c'):(x=n∧c'=c)∨(x=m∧c'=d):=by
 by_cases e:x=n
 ·subst e;rw[lookup_cons,beq_self_eq_true]at h;exact .inl ⟨rfl,(Option.some.inj h).symm⟩
 ·rw[lookup_cons,show(x==n)=false by simpa using e]at h
  exact .inr (lk1 h)
theorem wH{n m x y:Str}{z i j:Nat}{c:Addr}(hij:i≠j)(h1:[(n,(z+i:Addr)),(m,(z+j:Addr))].lookup x=some c)(h2:[(n,(z+i:Addr)),(m,(z+j:Addr))].lookup y=some c):x=y:=by
 rcases lk2 h1 with⟨a,b⟩|⟨a,b⟩<;>rcases lk2 h2 with⟨a',b'⟩|⟨a',b'⟩
 ·exact a.trans a'.symm
 ·exact absurd (Nat.add_left_cancel (b.symm.trans b':z+i=z+j)) hij
 ·exact absurd (Nat.add_left_cancel (b'.symm.trans b:z+i=z+j)) hij
 ·exact a.trans a'.symm
theorem ax.ne{Pt:Addr}{q:Str}{H H':Hp}(T:cg H Pt q)(o:ax Pt H H'){b:Addr}{u:HO}(e:H b=some u)(n:∀ps,u≠.tbl ps):H' b=some u:=o b u (λz=>by
 obtain⟨ps,h1,_⟩:=T;rw[z,h1]at e;exact n ps (Option.some.inj e).symm) e
theorem ax.tre{Pt t:Addr}{q:Str}{H H':Hp}{z:ZN}(T:cg H Pt q)(o:ax Pt H H')(h:Tre H t z):Tre H' t z:=⟨ax.ne T o h.tup λps h=>(by cases h),λy hy=>ax.ne T o (h.nod y hy) λps h=>(by cases h),h.tr,h.len⟩
theorem uF{H:Hp}{Pt l:Addr}{q:Str}{xs ys:List V}(h:cg H Pt q)(e:H l=some (.lst xs)):cg (upd H l (.lst ys)) Pt q:=by
 obtain⟨ps,h1,h2,h3⟩:=h;have k:∀b o,H b=some o→(∀xs,o≠.lst xs)→upd H l (.lst ys) b=some o:=λb o e' n=>by
  rw[ai λz=>by rw[z,e]at e';exact n xs (Option.some.inj e').symm];exact e'
 exact⟨ps,k _ _ h1 λxs e=>(by cases e),h2,λpos cv e=>let⟨c,e1,e2⟩:=h3 pos cv e;⟨c,e1,k _ _ e2 λxs e=>(by cases e)⟩⟩
theorem dR{H H':Hp}{Pt:Addr}{qual:Str}(h:cg H Pt qual)(s:Same H H'):cg H' Pt qual:=by
 obtain⟨ps,h1,h2,h3⟩:=h;exact⟨ps,s _ _ h1,h2,λpos cv e=>let⟨c,e1,e2⟩:=h3 pos cv e;⟨c,e1,s _ _ e2⟩⟩
theorem lk3{n m o x:Str}{c d e c':Addr}(h:[(n,c),(m,d),(o,e)].lookup x=some c'):(x=n∧c'=c)∨(x=m∧c'=d)∨(x=o∧c'=e):=by
 by_cases e:x=n
 ·subst e;rw[lookup_cons,beq_self_eq_true]at h;exact .inl ⟨rfl,(Option.some.inj h).symm⟩
 ·rw[lookup_cons,show(x==n)=false by simpa using e]at h
  exact .inr (lk2 h)
theorem zI{n m o x y:Str}{z i j k:Nat}{c:Addr}(hij:i≠j)(hik:i≠k)(hjk:j≠k)(h1:[(n,(z+i:Addr)),(m,(z+j:Addr)),(o,(z+k:Addr))].lookup x=some c)(h2:[(n,(z+i:Addr)),(m,(z+j:Addr)),(o,(z+k:Addr))].lookup y=some c):x=y:=by
 have no:∀{p q:Nat},p≠q→c=z+p→c=z+q→False:=λhn e1 e2=>hn (Nat.add_left_cancel (e1.symm.trans e2:z+_=z+_));rcases lk3 h1 with⟨a,b⟩|⟨a,b⟩|⟨a,b⟩<;>rcases lk3 h2 with⟨a',b'⟩|⟨a',b'⟩|⟨a',b'⟩<;>first|exact a.trans a'.symm|exact(no hij b b').elim|exact(no hij b' b).elim|exact(no hik b b').elim|exact(no hik b' b).elim|exact(no hjk b b').elim|exact(no hjk b' b).elim
def gk(c:Addr)(inner:Hp→VK→XK→Prop):Sp:=λvs H Q E=>vs=[]∧H c=some (.ext (cdφ c cC))∧inner H Q E
theorem dS{P:Program}{w:World}{K:PySem.W.Frag}{mg:Str→Option Value}{base:Heap}{N:List Str}{qual:Str}{scope:Scope}{f:Addr}{cd:Value}{cl:List (Str×Addr)}{A:Around}{outer:List Env}{s:Shared}{H:Hp}{E:XK} :
  Lv (tT (CX1 P w) P w K mg base N qual scope f cd cl A outer s H E) E:=⟨rfl,rfl,rfl,rfl⟩
def MonoE(inner:Hp→VK→XK→Prop):Prop:=∀(H:Hp)(Q:VK)(E E':XK),(∀c v H',E c v H'→E' c v H')→inner H Q E→inner H Q E'
def dC(inner:Hp→VK→XK→Prop)(C:Addr)(H:Hp):Prop:=∀(Q:VK)(E:XK),(∀H',Same H H'→E (.ref C) none H')→inner H Q E
theorem uG{f c Dd:Addr}{B:Nat→Addr}{K:PySem.W.Frag}{i:Nat}{x:Str}{inner:Hp→VK→XK→Prop}{H:Hp}{Q:VK}(hR:dC inner (B i) H)(O:One12 K B Dd i)(hx:W12[i]?=some x)(hc:H c=some (.ext (cdφ c cC)))(q:∀H2,Same H H2→Q (.str x) H2):ce f (gk c inner) B Dd K [.ref f] H Q E0 :=
 ⟨rfl,rfl,hc,hR _ _ λH' s'=>⟨i,x,rfl,O,hx,λH2 s2=>q H2 (s'.trans s2)⟩⟩
theorem bu{PL Dd:Addr}{B:Nat→Addr}{K:PySem.W.Frag}{i:Nat}{x:Str}{js:List Nat}{fv:List V}{inner:List V→Hp→VK→XK→Prop}{σ:St}{H:Hp}{Q:VK}(T:cg H PL cC)(hv:ya js σ fv)(hR:∀H',ax PL H H'→dC (inner fv) (B i) H')(O:One12 K B Dd i)(hx:W12[i]?=some x)(q:∀H',ax PL H H'→cg H' PL cC→Q (.str x) H'):zr PL cC js (λf c fv=>ce f (gk c (inner fv)) B Dd K) σ H Q :=
 ⟨T,fv,hv,λf c H' off tq hc _=>uG (hR H' off) O hx hc λH2 s2=>q H2 (λb o n e=>s2 _ _ (off b o n e)) (dR tq s2)⟩
structure Mid(PL:Addr)(Hs H:Hp)(l:Addr)(ws:List Str):Prop where
 off:ax PL Hs H
 tab:cg H PL cC
 lst:H l=some (.lst (ws.map V.str))
 nl:Hs l=none
theorem Mid.next{PL:Addr}{Hs H H':Hp}{l:Addr}{ws:List Str}(x:Str)(M:Mid PL Hs H l ws)(off:ax PL H H')(tab:cg H' PL cC):Mid PL Hs (upd H' l (.lst (ws.map V.str++[.str x]))) l (ws++[x]):=by
 have hl:=ax.ne M.tab off M.lst λps h=>by cases h
 refine⟨λb o nb e=>?_,uF tab hl,by rw[ac,map_append];rfl,M.nl⟩;rw[ai λz=>by rw[z,M.nl]at e;cases e];exact off _ _ nb (M.off b o nb e)
structure Tol(K:PySem.W.Frag)(mg:Str→Option Value)(base:Heap)(cL PL g fC Dd:Addr)(fdg fdC:FuncData)(B:Nat→Addr):Prop where
 KB:K.In base
 T:Txt mg
 C0:CodeHd base cL PL
 Bm:BmB base mg
 FT:Fun K "_law_told" "_law_told" eE g fdg
 mT:mg "_law_told"=some (.ref g)
 bT:aq K fdg ["_law_deed"] []
 FC:Fun K "_law_class" "_law_class" dv fC fdC
 mC:mg "_law_class"=some (.ref fC)
 bC:aq K fdC ["_law_kept"] []
 L:Clss12 mg K B Dd
section
variable{C CT:Addr}{cls:TW.Wd→Addr}{sp:Sp}{m:Str}{vs:List V}
def inA(C CT:Addr)(fv:List V):Hp→VK→XK→Prop:=λH Q E=>∃p nv dx fl,fv=[.ref p,nv]∧H p=some (.ins C dx fl)∧fl.lookup ("tag":Str)=none∧fi CT [.ref p,nv] H Q E
def inB(C:Addr)(m:Str)(sp:Sp)(fv:List V):Hp→VK→XK→Prop:=λH Q E=>∃(k:Nat) (p:Addr) (nv v:V) (dx:Addr) (fl:List (Str×V)),fv=[.int k,.ref p,nv]∧[nv,.str "two"][k % 2]?=some v∧H p=some (.ins C dx fl)∧fl.lookup m=none∧∀l,H l=none→sp [.ref p,v] (upd H l (.lst [nv,.str "two"])) Q E
def inC(C:Addr)(cls:TW.Wd→Addr)(vs:List V)(fv:List V):Hp→VK→XK→Prop:=λH Q E=>∃p dx fl,fv=[.ref p]∧H p=some (.ins C dx fl)∧fl.lookup ("do":Str)=none∧∀o,H o=none→cT C cls [.ref p,.ref o] (upd H o (.tup vs)) Q E
def inD(C:Addr)(cls:TW.Wd→Addr)(fv:List V):Hp→VK→XK→Prop:=λH Q E=>∃(k:Nat) (p:Addr) (n:Int) (dx:Addr) (fl:List (Str×V)),fv=[.int k,.ref p]∧[V.int 1,.int 3][k % 2]?=some (.int n)∧H p=some (.ins C dx fl)∧fl.lookup ("do":Str)=none∧∀l,H l=none→∀o,upd H l (.lst [.int 1,.int 3]) o=none→cT C cls [.ref p,.ref o] (upd (upd H l (.lst [.int 1,.int 3])) o (.tup [.str "write",.int n,.int 4])) Q E
def inE(sp:Sp)(fv:List V):Hp→VK→XK→Prop:=λH Q E=>∃(k:Nat) (t:Addr) (n:Int),fv=[.int k,.ref t]∧[V.int 9,.int 4,.int 55,.int (-1)][k]?=some (.int n)∧∀l,H l=none→sp [.ref t,.int n] (upd H l (.lst [.int 9,.int 4,.int 55,.int (-1)])) Q E
def inF(sp:Sp)(fv:List V):Hp→VK→XK→Prop:=λH Q E=>∃t,fv=[.ref t]∧sp [.ref t,.int 2] H Q E
def kK(sp:Sp):Prop:=∀vs,MonoE (sp vs)
theorem nM:kK (cR C CT):=λvs H Q E E' hm h=>by
 obtain⟨p,v,ft,t,d,pl,al,zf,z,gs,es,as,e,L,ho,q⟩:=h;exact⟨p,v,ft,t,d,pl,al,zf,z,gs,es,as,e,L,ho,λH' s=>hm _ _ _ (q H' s)⟩
theorem nN:kK (cT C cls):=λvs H Q E E' hm h=>by
 obtain⟨p,ft,t,d,pl,al,zf,z,gs,es,as,sa,d2,e,a1,a2,a3,a4,a5,a6,a7⟩:=h;exact⟨p,ft,t,d,pl,al,zf,z,gs,es,as,sa,d2,e,a1,a2,a3,a4,a5,a6,λwd H' s h=>hm _ _ _ (a7 wd H' s h)⟩
theorem gW{CN CF:Addr}:kK (br CN CF):=λvs H Q E E' hm h=>by
 obtain⟨t,k,zs,e,tr,k0,k1,kn,q⟩:=h;refine⟨t,k,zs,e,tr,k0,k1,kn,?_⟩;rcases q with⟨a,q⟩|⟨a,q⟩
 ·exact .inl ⟨a,λH' s=>hm _ _ _ (q H' s)⟩
 ·exact .inr ⟨a,λH' s=>hm _ _ _ (q H' s)⟩
theorem uH{fv:List V}:MonoE (inA C CT fv):=λH Q E E' hm h=>by
 obtain⟨p,nv,dx,fl,e,hp,hn,q,v,e2,o,h⟩:=h;exact⟨p,nv,dx,fl,e,hp,hn,q,v,e2,o,λH' s=>hm _ _ _ (h H' s)⟩
theorem nO{fv:List V}(hs:kK sp):MonoE (inB C m sp fv):=λH Q E E' hm h=>by
 obtain⟨k,p,nv,v,dx,fl,e,hv,hp,hn,h⟩:=h;exact⟨k,p,nv,v,dx,fl,e,hv,hp,hn,λl hl=>hs _ _ _ _ _ hm (h l hl)⟩
theorem eX{fv:List V}:MonoE (inC C cls vs fv):=λH Q E E' hm h=>by
 obtain⟨p,dx,fl,e,hp,hn,h⟩:=h;exact⟨p,dx,fl,e,hp,hn,λo ho=>nN _ _ _ _ _ hm (h o ho)⟩
theorem uI{fv:List V}:MonoE (inD C cls fv):=λH Q E E' hm h=>by
 obtain⟨k,p,n,dx,fl,e,hv,hp,hn,h⟩:=h;exact⟨k,p,n,dx,fl,e,hv,hp,hn,λl hl o ho=>nN _ _ _ _ _ hm (h l hl o ho)⟩
theorem nP{fv:List V}(hs:kK sp):MonoE (inE sp fv):=λH Q E E' hm h=>by
 obtain⟨k,t,n,e,hv,h⟩:=h;exact⟨k,t,n,e,hv,λl hl=>hs _ _ _ _ _ hm (h l hl)⟩
theorem nQ{fv:List V}(hs:kK sp):MonoE (inF sp fv):=λH Q E E' hm h=>by
 obtain⟨t,e,h⟩:=h;exact⟨t,e,hs _ _ _ _ _ hm h⟩
end
def GN:List Str:=["_law_script","_law_here","_law_told_here","_law_due","_law_k","_law_ledger","_law_name","_law_tree"]
theorem scG:FnScope GN ["_law_script"] (aj oM):=fsc
abbrev GX(P:Program)(w:World)(K:PySem.W.Frag)(mg:Str→Option Value)(base:Heap)(f cL:Addr)(A:Around)(outer:List Env)(s:Shared)(H:Hp)(E:XK):Cx:=(iE CX0 P w K mg base GN "law" (aj oM) f (.ref cL) A outer s H E).nox
def gS(i:Nat):Stmt:=(bo oM).getD i (.Pass ⟨0,0,0,0⟩)
def gbS(i:Nat):Stmt:=match gS 7 with
 |.For _ _ b _ _=>b.getD i (.Pass ⟨0,0,0,0⟩)
 |_=>.Pass ⟨0,0,0,0⟩
abbrev gσ(a:Addr)(x1 x2 x3 x4 x5 x6 x7:Option V):St:=[some (.ref a),x1,x2,x3,x4,x5,x6,x7]
abbrev R7(A:Around)(s:Shared)(f cL:Addr):=Room 7 (A.deeper (PyProof.Rows.envOfC "law" (aj oM) s.heap.objs.size f (.ref cL)))
end TK
namespace L2
open PySem PySem.Spec PyProof.Rows
section
variable{X:Cx}
theorem uJ{es rest:List Expr}{k:Nat}{p:Pos}{env:Env}:starEach (.Tuple es k p::rest) env=(false,eval (.Tuple es k p) env)::starEach rest env:=rfl
theorem cD{es rest:List Expr}{k:Nat}{p:Pos}{te:TE}{t:TA}(ha:PE X (.Tuple es k p) te)(hr:PA X rest t):PA X (.Tuple es k p::rest) (aE te t):=aa ha hr uJ
theorem uK{es:List Expr}{k l:Nat}{p:Pos}{x:Option Expr}{env:Env}:swapsWith (.Tuple es k p) x l env=pure false:=rfl
abbrev n4(a b:Int)(c:Str)(d:V):TE:=iD (aE (tC (.int a)) (aE (tC (.int b)) (aE (tC (.str c)) (aE (tC d) dF))))
theorem uL{a b:Int}{c:Str}{k k1 k2 k3 k4:Nat}{p1 p2 p3 p4 p5:Pos}:PE X (.Tuple [.Constant (.int a) k1 p1,.Constant (.int b) k2 p2,.Constant (.str c) k3 p3,.Constant .none k4 p4] k p5) (n4 a b c .non):=aK (aa ak (aa ak (aa au (aa dU ae))))
theorem yK{a b d:Int}{c:Str}{k k1 k2 k3 k4:Nat}{p1 p2 p3 p4 p5:Pos}:PE X (.Tuple [.Constant (.int a) k1 p1,.Constant (.int b) k2 p2,.Constant (.str c) k3 p3,.Constant (.int d) k4 p4] k p5) (n4 a b c (.int d)):=aK (aa ak (aa ak (aa au (aa ak ae))))
abbrev n3(b:Int)(c:Str)(d:V):TE:=iD (aE (tC (.int b)) (aE (tC (.str c)) (aE (tC d) dF)))
theorem yL{b:Int}{c:Str}{k k2 k3 k4:Nat}{p2 p3 p4 p5:Pos}:PE X (.Tuple [.Constant (.int b) k2 p2,.Constant (.str c) k3 p3,.Constant .none k4 p4] k p5) (n3 b c .non):=aK (aa ak (aa au (aa dU ae)))
theorem uM{b d:Int}{c:Str}{k k2 k3 k4:Nat}{p2 p3 p4 p5:Pos}:PE X (.Tuple [.Constant (.int b) k2 p2,.Constant (.str c) k3 p3,.Constant (.int d) k4 p4] k p5) (n3 b c (.int d)):=aK (aa ak (aa au (aa ak ae)))
theorem zJ{a:Int}{e1 e2:List Expr}{k k0 k1 k2:Nat}{p0 p1 p2 p5:Pos}{t1 t2:TE}(h1:PE X (.Tuple e1 k1 p1) t1)(h2:PE X (.Tuple e2 k2 p2) t2):PE X (.Tuple [.Constant (.int a) k0 p0,.Tuple e1 k1 p1,.Tuple e2 k2 p2] k p5) (iD (aE (tC (.int a)) (aE t1 (aE t2 dF)))):=aK (aa ak (cD h1 (cD h2 ae)))
theorem zK{a:Int}{e1:List Expr}{k k0 k1 k2:Nat}{p0 p1 p2 p5:Pos}{t1:TE}(h1:PE X (.Tuple e1 k1 p1) t1):PE X (.Tuple [.Constant (.int a) k0 p0,.Tuple e1 k1 p1,.Constant .none k2 p2] k p5) (iD (aE (tC (.int a)) (aE t1 (aE (tC .non) dF)))):=aK (aa ak (cD h1 (aa dU ae)))
theorem zL{e1 e2:List Expr}{k k1 k2:Nat}{p1 p2 p5:Pos}{t1 t2:TE}(h1:PE X (.Tuple e1 k1 p1) t1)(h2:PE X (.Tuple e2 k2 p2) t2):PE X (.Tuple [.Tuple e1 k1 p1,.Tuple e2 k2 p2] k p5) (iD (aE t1 (aE t2 dF))):=aK (cD h1 (cD h2 ae))
theorem zM{e1 e2 e3:List Expr}{k k1 k2 k3:Nat}{p1 p2 p3 p5:Pos}{t1 t2 t3:TE}(h1:PE X (.Tuple e1 k1 p1) t1)(h2:PE X (.Tuple e2 k2 p2) t2)(h3:PE X (.Tuple e3 k3 p3) t3):PE X (.Tuple [.Tuple e1 k1 p1,.Tuple e2 k2 p2,.Tuple e3 k3 p3] k p5) (iD (aE t1 (aE t2 (aE t3 dF)))):=aK (cD h1 (cD h2 (cD h3 ae)))
end
end L2
namespace TK
open PySem L2
def Scr(K:PySem.W.Frag)(H:Hp)(a:Addr):Prop:=(∀H',fo K H' a)∨∃o,∃ns:List Int,H a=some (.frz o (.lst (ns.map V.int)))
theorem Scr.at{K:PySem.W.Frag}{H:Hp}{a:Addr}(h:Scr K H a):fo K H a:=by
 rcases h with h|⟨o,ns,h⟩
 ·exact h H
 ·exact⟨ns,.inl (.inr ⟨o,h⟩)⟩
theorem Scr.by{K:PySem.W.Frag}{H H':Hp}{a:Addr}(h:Scr K H a)(k:∀o u,H a=some (.frz o u)→H' a=some (.frz o u)):Scr K H' a:=by
 rcases h with h|⟨o,ns,h⟩
 ·exact .inl h
 ·exact .inr ⟨o,ns,k o _ h⟩
theorem Scr.stay{K:PySem.W.Frag}{H H':Hp}{a:Addr}(h:Scr K H a)(s:ck H H'):Scr K H' a:=h.by λ_ _ e=>s _ _ e (λ_ h=>by cases h) (λ_ _ _ h=>by cases h)
theorem rC{Pt:Addr}{q:Str}{H H':Hp}(T:cg H Pt q)(s:ck H H'):cg H' Pt q:=by
 obtain⟨ps,h1,h2,h3⟩:=T;refine⟨ps,s _ _ h1 (λ_ h=>by cases h) (λ_ _ _ h=>by cases h),h2,λpos cv e=>?_⟩;obtain⟨c,e1,e2⟩:=h3 pos cv e;exact⟨c,e1,s _ _ e2 (λ_ h=>by cases h) (λ_ _ _ h=>by cases h)⟩
section
variable{Pt:Addr}{q:Str}{H H':Hp}
theorem ax.tup(T:cg H Pt q)(o:ax Pt H H'){b:Addr}{xs:List V}(h:H b=some (.tup xs)):H' b=some (.tup xs):=ax.ne T o h λps h=>(by cases h)
theorem ax.tags(T:cg H Pt q)(o:ax Pt H H'){d:Addr}{gs:TG}(h:Tags H d gs):Tags H' d gs:=by
 refine⟨?_,λg hg=>ax.tre T o (h.at' g hg),h.nd,h.len⟩;rcases h.dct with e|⟨u,e⟩
 ·exact .inl (ax.ne T o e λps h=>(by cases h))
 ·exact .inr ⟨u,ax.ne T o e λps h=>(by cases h)⟩
theorem ax.ent(T:cg H Pt q)(o:ax Pt H H'){e:Ent}(h:EntAt H e):EntAt H' e:=⟨ax.tup T o h.ob,ax.tup T o h.st,ax.tre T o h.tr,ax.tags T o h.tg⟩
theorem ax.lat(T:cg H Pt q)(o:ax Pt H H'){C p ft t d pl al:Addr}{zf z:ZN}{gs:TG}{es as:List Ent}(h:LAt C H p ft t d pl al zf z gs es as):LAt C H' p ft t d pl al zf z gs es as :=
 ⟨let⟨dx,e⟩:=h.ob;⟨dx,ax.ne T o e λps h=>(by cases h)⟩,ax.tre T o h.tf,ax.tre T o h.tr,ax.tags T o h.tg,ax.ne T o h.ps λps h=>(by cases h),ax.ne T o h.ah λps h=>(by cases h),h.ne,λe he=>ax.ent T o (h.ep e he),λe he=>ax.ent T o (h.ea e he)⟩
end
def eI:TW.Wd→Nat
 |.inside=>0
 |.known=>1
 |.noNode=>5
 |.notFile=>7
 |.notFolder=>8
 |.taken=>11
abbrev wI(B:Nat→Addr):TW.Wd→Addr:=λwd=>B (eI wd)
structure Wv(C:Addr)(H:Hp)(p ft t d pl al:Addr)(zf z:ZN)(g:Addr×ZN)(es:List Ent)(e:Ent)(h lt u:Addr):Prop where
 L:LAt C H p ft t d pl al zf z [(("one":Str),g)] es [e]
 n0:nds zf=t0
 n1:nds z=t1
 ng:nds g.2=t0
 l2:es.length=2
 ex:e.xs[0]?=some (.str "drop")
 ez:nds e.z=t2
 eg:e.gs=[(("one":Str),g)]
 hh:H h=some (.tup [.ref t,.ref lt,.ref u])
 hl:H lt=some (.lst [.str "one"])
 hu:H u=some (.tup [.int 2,.int 1])
theorem Wv.off{Pt:Addr}{q:Str}{H H':Hp}{C p ft t d pl al:Addr}{zf z:ZN}{g:Addr×ZN}{es:List Ent}{e:Ent}{h lt u:Addr}(W:Wv C H p ft t d pl al zf z g es e h lt u)(T:cg H Pt q)(o:ax Pt H H'):Wv C H' p ft t d pl al zf z g es e h lt u :=
 ⟨ax.lat T o W.L,W.n0,W.n1,W.ng,W.l2,W.ex,W.ez,W.eg,ax.tup T o W.hh,ax.ne T o W.hl λps h=>(by cases h),ax.tup T o W.hu⟩
theorem pq{z:ZN}{l:List Nd}(h:nds z=l)(n:Nat)(hl:l.length≤n):z.length≤n:=by
 have:=congrArg length h;unfold nds at this;rw[length_map]at this;omega
theorem nR{α:Type}{l m:List α}{a b:α}(h:l++[a]=m++[b]):l=m∧a=b:=by
 have:=List.append_inj' h rfl;exact⟨this.1,by simpa using this.2⟩
section
variable{P:Program}{w:World}{K:PySem.W.Frag}{mg:Str→Option Value}{base:Heap}{f cL PL:Addr}{B:Nat→Addr}{A:Around}{outer:List Env}{s:Shared}{H0:Hp}{E:XK}
abbrev tT0:TE:=iD (aE (n4 1 0 "a" .non) (aE (n4 2 1 "b" (.int 5)) (aE (n4 3 0 "c" .non) dF)))
theorem Az:∃p1 p18 e,(∀X,PE X e tT0)∧(∀x l env,swapsWith e x l env=pure false)∧gS 0=.Assign [.Name "_law_tree" p1] e p18:=⟨_,_,_,λX=>zM uL yK uL,λ_ _ _=>uK,rfl⟩
theorem g0x:PS (GX P w K mg base f cL A outer s H0 E) (gS 0) (nV tT0 (cm 7)):=by
 obtain⟨p1,p18,e,h1,h2,h⟩:=Az;rw[h];exact aM (i:=7) scG.nd rfl (Or.inr rfl) (h1 _) (h2 _ _ _)
theorem g0y:∀(D:Ends)(H:Hp)(a:Addr)(x1 x2 x3 x4 x5 x6 x7:Option V),
   (∀t z H',Same H H'→Tre H' t z→nds z=t0→D.nx (gσ a x1 x2 x3 x4 x5 x6 (some (.ref t))) H')→nV tT0 (cm 7) D (gσ a x1 x2 x3 x4 x5 x6 x7) H:=by
 intro D H a x1 x2 x3 x4 x5 x6 x7 q;have l4:4≤sizeLine:=ap (by decide);refine⟨l4,λc1 h1=>?_⟩;have u1:=af (o:=.tup [.int 1,.int 0,.str "a",.non]) h1;have g1:upd H c1 (.tup [.int 1,.int 0,.str "a",.non]) c1=some (.tup [.int 1,.int 0,.str "a",.non]):=ac;generalize upd H c1 (.tup [.int 1,.int 0,.str "a",.non])=H2 at u1 g1⊢;refine⟨l4,λc2 h2=>?_⟩;have u2:=af (o:=.tup [.int 2,.int 1,.str "b",.int 5]) h2;have g2:upd H2 c2 (.tup [.int 2,.int 1,.str "b",.int 5]) c2=some (.tup [.int 2,.int 1,.str "b",.int 5]):=ac;generalize upd H2 c2 (.tup [.int 2,.int 1,.str "b",.int 5])=H3 at u2 g2⊢;refine⟨l4,λc3 h3=>?_⟩;have u3:=af (o:=.tup [.int 3,.int 0,.str "c",.non]) h3;have g3:upd H3 c3 (.tup [.int 3,.int 0,.str "c",.non]) c3=some (.tup [.int 3,.int 0,.str "c",.non]):=ac;generalize upd H3 c3 (.tup [.int 3,.int 0,.str "c",.non])=H4 at u3 g3⊢;refine⟨(show 3≤sizeLine from ap (by decide)),λy hy=>?_⟩;have u4:=af (o:=.tup [.ref c1,.ref c2,.ref c3]) hy;have g4:upd H4 y (.tup [.ref c1,.ref c2,.ref c3]) y=some (.tup [.ref c1,.ref c2,.ref c3]):=ac;generalize upd H4 y (.tup [.ref c1,.ref c2,.ref c3])=H5 at u4 g4⊢;refine q y [(c1,⟨1,0,"a",none⟩),(c2,⟨2,1,"b",some 5⟩),(c3,⟨3,0,"c",none⟩)] H5 (((u1.trans u2).trans u3).trans u4) ⟨g4,λz hz=>?_,lH,(show 3≤30 by decide)⟩ rfl;rcases mem_cons.mp hz with e|h
 ·subst e;exact u4 _ _ (u3 _ _ (u2 _ _ g1))
 ·rcases mem_cons.mp h with e|h
  ·subst e;exact u4 _ _ (u3 _ _ g2)
  ·rcases mem_cons.mp h with e|h
   ·subst e;exact u4 _ _ g3
   ·cases h
theorem g0(hr:R7 A s f cL):∃rd,PS (GX P w K mg base f cL A outer s H0 E) (gS 0) rd∧∀(D:Ends)(H:Hp)(a:Addr)(x1 x2 x3 x4 x5 x6 x7:Option V),
   (∀t z H',Same H H'→Tre H' t z→nds z=t0→D.nx (gσ a x1 x2 x3 x4 x5 x6 (some (.ref t))) H')→rd D (gσ a x1 x2 x3 x4 x5 x6 x7) H:=⟨nV tT0 (cm 7),@g0x P w K mg base f cL A outer s H0 E,g0y⟩
theorem g1{C fI:Addr}{fdI:FuncData}(hr:R7 A s f cL)(T:LCls K mg C)(M:Mk K C fI)(GI:FnOk P w K mg base CX0 1 fI fdI ["self","tree"] (jG C))(bI:aq K fdI ["self","tree"] []):∃rd,PS (GX P w K mg base f cL A outer s H0 E) (gS 1) rd∧∀(D:Ends)(H:Hp)(a ft:Addr)(zf:ZN)(x1 x2 x3 x4 x5 x6:Option V),Tre H ft zf →
   (∀p d pl al H',Same H H'→LAt C H' p ft ft d pl al zf zf [] [] []→D.nx (gσ a x1 x2 x3 x4 (some (.ref p)) x6 (some (.ref ft))) H')→rd D (gσ a x1 x2 x3 x4 x5 x6 (some (.ref ft))) H:=by
 have hr2:Room 2 _:=hr.mono (by decide);refine⟨_,aM (i:=5) scG.nd rfl (Or.inr rfl) (uV M GI hr2 rfl T.mgC bI .nil aU (aa (pv 7) ae)),?_⟩;intro D H a ft zf x1 x2 x3 x4 x5 x6 tr q;refine⟨_,rfl,λp dx hp hdx ne=>?_⟩;have sA:Same H (upd (upd H dx (.own p)) p (.ins C dx [])):=λb o e=>by rw[ai (av e hp),ai (av e hdx)];exact e
 have gp:upd (upd H dx (.own p)) p (.ins C dx []) p=some (.ins C dx []):=ac;generalize upd (upd H dx (.own p)) p (.ins C dx [])=H1 at sA gp⊢;refine⟨p,dx,ft,zf,rfl,gp,tr.same sA,λd pl al H2 _ _ _ L o=>⟨rfl,?_⟩⟩;exact q p d pl al H2 (λb u e=>o b u (sA _ _ e) λz=>by
  have e':b=p:=by simpa using z
  rw[e',hp]at e;cases e) L
theorem qr{ft t d pl al:Addr}:(flL ft t d pl al).lookup ("tag":Str)=none:=cf (by decide +kernel) (by decide +kernel) (by decide +kernel) (by decide +kernel) (by decide +kernel)
theorem lJ{ft t d pl al:Addr}:(flL ft t d pl al).lookup ("do":Str)=none:=cf (by decide +kernel) (by decide +kernel) (by decide +kernel) (by decide +kernel) (by decide +kernel)
theorem uN{ft t d pl al:Addr}:(flL ft t d pl al).lookup ("back":Str)=none:=cf (by decide +kernel) (by decide +kernel) (by decide +kernel) (by decide +kernel) (by decide +kernel)
theorem rD{ft t d pl al:Addr}:(flL ft t d pl al).lookup ("forth":Str)=none:=cf (by decide +kernel) (by decide +kernel) (by decide +kernel) (by decide +kernel) (by decide +kernel)
theorem qt{ft t d pl al:Addr}:(flL ft t d pl al).lookup ("now":Str)=none:=cf (by decide +kernel) (by decide +kernel) (by decide +kernel) (by decide +kernel) (by decide +kernel)
theorem nS{ft t d pl al:Addr}:(flL ft t d pl al).lookup ("tags":Str)=none:=cf (by decide +kernel) (by decide +kernel) (by decide +kernel) (by decide +kernel) (by decide +kernel)
theorem kO{ft t d pl al:Addr}:(flL ft t d pl al).lookup ("sizes":Str)=none:=cf (by decide +kernel) (by decide +kernel) (by decide +kernel) (by decide +kernel) (by decide +kernel)
theorem pr{ft t d pl al:Addr}:(flL ft t d pl al).lookup ("tagged":Str)=none:=cf (by decide +kernel) (by decide +kernel) (by decide +kernel) (by decide +kernel) (by decide +kernel)
theorem gX{ft t d pl al:Addr}:(flL ft t d pl al).lookup ("from_tag":Str)=none:=cf (by decide +kernel) (by decide +kernel) (by decide +kernel) (by decide +kernel) (by decide +kernel)
theorem uO{ft t d pl al:Addr}:(flL ft t d pl al).lookup ("base":Str)=none:=cf (by decide +kernel) (by decide +kernel) (by decide +kernel) (by decide +kernel) (by decide +kernel)
theorem g2{C CT fT:Addr}{fdT:FuncData}(hr:R7 A s f cL)(T:LCls K mg C)(MT:Meth K C "tag" fT)(GT:FnOk P w K mg base (CX1 P w) 2 fT fdT ["self","name"] (jI C CT))(bT:aq K fdT ["self","name"] []):∃rd,PS (GX P w K mg base f cL A outer s H0 E) (gS 2) rd∧∀(D:Ends)(H:Hp)(a p ft d pl al:Addr)(zf:ZN)(x1 x2 x3 x4 x6 x7:Option V),LAt C H p ft ft d pl al zf zf [] [] [] →
   (∀d' al' e H',ck H H'→LAt C H' p ft ft d' pl al' zf zf [(("one":Str),(ft,zf))] [e] []→(∃y,e.xs[0]?=some y)→D.nx (gσ a x1 x2 x3 x4 (some (.ref p)) x6 x7) H')→rd D (gσ a x1 x2 x3 x4 (some (.ref p)) x6 x7) H:=by
 have hr2:Room 2 _:=hr.mono (by decide);refine⟨_,aB (ba (pv 5) T.cl MT GT hr2 bT .nil mG (aa au ae)),?_⟩;intro D H a p ft d pl al zf x1 x2 x3 x4 x6 x7 L q;obtain⟨dx,hp⟩:=L.ob;refine⟨_,rfl,p,dx,_,rfl,hp,qr,p,ft,ft,d,pl,al,zf,zf,[],[],[],"one",rfl,L,by decide +kernel,by decide +kernel,by decide,by decide,λ_ q' sa d' al' H' _ L' k o=>?_,λh=>absurd h (by decide +kernel)⟩;exact q d' al' _ H' k L' ⟨_,rfl⟩
theorem g3{C fT:Addr}{fdT:FuncData}{cls:TW.Wd→Addr}(hr:R7 A s f cL)(T:LCls K mg C)(MT:Meth K C "do" fT)(GT:FnOk P w K mg base (CX1 P w) 5 fT fdT ["self","deed"] (cT C cls))(bT:aq K fdT ["self","deed"] []):∃rd,PS (GX P w K mg base f cL A outer s H0 E) (gS 3) rd∧∀(D:Ends)(H:Hp)(a p ft d pl al:Addr)(zf:ZN)(e1:Ent)(x1 x2 x3 x4 x6 x7:Option V),LAt C H p ft ft d pl al zf zf [(("one":Str),(ft,zf))] [e1] []→nds zf=t0→(∃y,e1.xs[0]?=some y) →
   (∀t z al' e2 H',ck H H'→LAt C H' p ft t d pl al' zf z [(("one":Str),(ft,zf))] [e1,e2] []→nds z=t1→(∃y,e2.xs[0]?=some y)→D.nx (gσ a x1 x2 x3 x4 (some (.ref p)) x6 x7) H')→rd D (gσ a x1 x2 x3 x4 (some (.ref p)) x6 x7) H:=by
 have hr5:Room 5 _:=hr.mono (by decide);refine⟨_,aB (ba (pv 5) T.cl MT GT hr5 bT .nil mG (aa (aK (aa au (aa ak (aa ak ae)))) ae)),?_⟩;intro D H a p ft d pl al zf e1 x1 x2 x3 x4 x6 x7 L hn hy q;obtain⟨dx,hp⟩:=L.ob;refine⟨_,rfl,p,dx,_,rfl,hp,lJ,ap (show 3≤1000 by decide),λo ho=>?_⟩;have s1:=af (o:=.tup [.str "write",.int 2,.int 6]) ho;have g1:upd H o (.tup [.str "write",.int 2,.int 6]) o=some (.tup (gI (.write 2 6))):=ac;generalize upd H o (.tup [.str "write",.int 2,.int 6])=H1 at s1 g1⊢;have one:∀r,TW.Told (nds zf) (.write 2 6) r→r=.inr t1:=λr h=>by rw[hn]at h;exact h.one lH uz
 refine⟨p,ft,ft,d,pl,al,zf,zf,_,[e1],[],o,.write 2 6,rfl,L.same s1,pq hn 29 (by decide),g1,⟨by decide,by decide⟩,(show 1≤200 by decide),λt us e al' H' _ told L' k _=>?_,λwd H' _ told=>by cases one _ told⟩;exact q t us al' _ H' ((bz s1).trans k) L' (Sum.inr.inj (one _ told)) ⟨_,rfl⟩
theorem g4{C fT:Addr}{fdT:FuncData}{cls:TW.Wd→Addr}(hr:R7 A s f cL)(T:LCls K mg C)(MT:Meth K C "do" fT)(GT:FnOk P w K mg base (CX1 P w) 5 fT fdT ["self","deed"] (cT C cls))(bT:aq K fdT ["self","deed"] []):∃rd,PS (GX P w K mg base f cL A outer s H0 E) (gS 4) rd∧∀(D:Ends)(H:Hp)(a p ft t d pl al:Addr)(zf z:ZN)(e1 e2:Ent)(x1 x2 x3 x4 x6 x7:Option V),LAt C H p ft t d pl al zf z [(("one":Str),(ft,zf))] [e1,e2] []→nds z=t1 →
   (∀t' z' al' e3 H',ck H H'→LAt C H' p ft t' d pl al' zf z' [(("one":Str),(ft,zf))] [e1,e2,e3] []→nds z'=t2→e3.ta=t→e3.z=z→e3.da=d→e3.gs=[(("one":Str),(ft,zf))]→e3.xs[0]?=some (.str "drop")→D.nx (gσ a x1 x2 x3 x4 (some (.ref p)) x6 x7) H')→rd D (gσ a x1 x2 x3 x4 (some (.ref p)) x6 x7) H:=by
 have hr5:Room 5 _:=hr.mono (by decide);refine⟨_,aB (ba (pv 5) T.cl MT GT hr5 bT .nil mG (aa (aK (aa au (aa ak ae))) ae)),?_⟩;intro D H a p ft t d pl al zf z e1 e2 x1 x2 x3 x4 x6 x7 L hn q;obtain⟨dx,hp⟩:=L.ob;refine⟨_,rfl,p,dx,_,rfl,hp,lJ,le2,λo ho=>?_⟩;have s1:=af (o:=.tup [.str "drop",.int 3]) ho;have g1:upd H o (.tup [.str "drop",.int 3]) o=some (.tup (gI (.drop 3))):=ac;generalize upd H o (.tup [.str "drop",.int 3])=H1 at s1 g1⊢;have one:∀r,TW.Told (nds z) (.drop 3) r→r=.inr t2:=λr h=>by rw[hn]at h;exact h.one qq yD
 refine⟨p,ft,t,d,pl,al,zf,z,_,[e1,e2],[],o,.drop 3,rfl,L.same s1,pq hn 29 (by decide),g1,⟨by decide,by decide⟩,(show 2≤200 by decide),λt' us e al' H' _ told L' k _=>?_,λwd H' _ told=>by cases one _ told⟩;exact q t' us al' _ H' ((bz s1).trans k) L' (Sum.inr.inj (one _ told)) rfl rfl rfl rfl rfl
theorem g5{C CB fT:Addr}{fdT:FuncData}(hr:R7 A s f cL)(T:LCls K mg C)(MT:Meth K C "back" fT)(GT:FnOk P w K mg base (CX1 P w) 2 fT fdT ["self"] (nG C CB))(bT:aq K fdT ["self"] []):∃rd,PS (GX P w K mg base f cL A outer s H0 E) (gS 5) rd∧∀(D:Ends)(H:Hp)(a p ft t t' d pl al:Addr)(zf z z':ZN)(e1 e2 e3:Ent)(x1 x2 x3 x4 x6 x7:Option V),LAt C H p ft t' d pl al zf z' [(("one":Str),(ft,zf))] [e1,e2,e3] []→nds z'=t2→e3.ta=t→e3.z=z→e3.da=d→e3.gs=[(("one":Str),(ft,zf))]→e3.xs[0]?=some (.str "drop")→(∃y,e1.xs[0]?=some y)→(∃y,e2.xs[0]?=some y) →
   (∀e H',ck H H'→LAt C H' p ft t d pl al zf z [(("one":Str),(ft,zf))] [e1,e2] [e]→nds e.z=t2→e.gs=[(("one":Str),(ft,zf))]→e.xs[0]?=some (.str "drop")→D.nx (gσ a x1 x2 x3 x4 (some (.ref p)) x6 x7) H')→rd D (gσ a x1 x2 x3 x4 (some (.ref p)) x6 x7) H:=by
 have hr2:Room 2 _:=hr.mono (by decide);refine⟨_,aB (cu (pv 5) T.cl MT GT hr2 bT .nil mG),?_⟩;intro D H a p ft t t' d pl al zf z z' e1 e2 e3 x1 x2 x3 x4 x6 x7 L hn h1 h2 h3 h4 h5 y1 y2 q;obtain⟨dx,hp⟩:=L.ob;refine⟨_,rfl,p,dx,_,rfl,hp,uN,p,ft,t',d,pl,al,zf,z',_,[e1,e2,e3],[],rfl,L,λe he=>?_,by decide,λes' e y q' H' he hy L' k o=>?_,λh=>by cases h⟩
 ·simp only[mem_cons,not_mem_nil,or_false]at he;rcases he with rfl|rfl|rfl
  ·exact y1
  ·exact y2
  ·exact⟨_,h5⟩
 ·obtain⟨e4,e5⟩:=nR (l:=[e1,e2]) (a:=e3) he;subst e4 e5;rw[h1,h2,h3,h4]at L';exact q _ H' k L' hn rfl h5
theorem g6{C fN fT fS:Addr}{fdN fdT fdS:FuncData}(hr:R7 A s f cL)(T:LCls K mg C)(MN:Meth K C "now" fN)(GN':FnOk P w K mg base CX0 1 fN fdN ["self"] (ip C))(bN:aq K fdN ["self"] [])(MT:Meth K C "tags" fT)(GT:FnOk P w K mg base CX0 1 fT fdT ["self"] (ff C))(bT:aq K fdT ["self"] [])(MS:Meth K C "sizes" fS)(GS:FnOk P w K mg base CX0 1 fS fdS ["self"] (iq C))(bS:aq K fdS ["self"] []):
  ∃rd,PS (GX P w K mg base f cL A outer s H0 E) (gS 6) rd∧∀(D:Ends)(H:Hp)(a p ft t d pl al:Addr)(zf z:ZN)(es:List Ent)(e:Ent)(x1 x2 x3 x4 x6 x7:Option V),LAt C H p ft t d pl al zf z [(("one":Str),(ft,zf))] es [e]→nds zf=t0→nds z=t1→es.length=2→nds e.z=t2→e.gs=[(("one":Str),(ft,zf))]→e.xs[0]?=some (.str "drop") →
   (∀h lt u H',Same H H'→Wv C H' p ft t d pl al zf z (ft,zf) es e h lt u→D.nx (gσ a (some (.ref h)) x2 x3 x4 (some (.ref p)) x6 x7) H')→rd D (gσ a x1 x2 x3 x4 (some (.ref p)) x6 x7) H:=by
 have hr1:Room 1 _:=hr.mono (by decide);refine⟨_,aM (i:=1) scG.nd rfl (Or.inl rfl) (aK (aa (cu (pv 5) T.cl MN GN' hr1 bN .nil aU) (aa (cu (pv 5) T.cl MT GT hr1 bT .nil aU) (aa (cu (pv 5) T.cl MS GS hr1 bS .nil aU) ae)))),?_⟩;intro D H a p ft t d pl al zf z es e x1 x2 x3 x4 x6 x7 L n0 n1 l2 ez eg ex q;obtain⟨dx,hp⟩:=L.ob;refine⟨_,rfl,p,dx,_,rfl,hp,qt,p,ft,t,d,pl,al,zf,z,_,es,[e],rfl,L,?_⟩;refine⟨_,rfl,p,dx,_,rfl,hp,nS,p,ft,t,d,pl,al,zf,z,_,es,[e],rfl,L,λms hm hr' lt hlt=>?_⟩;have em:ms=([("one":Str)]:List Str):=List.perm_singleton.mp hm;subst em;have s1:=af (o:=.lst (([("one":Str)]:List Str).map V.str)) hlt;have k1:upd H lt (.lst (([("one":Str)]:List Str).map V.str)) lt=some (.lst [.str "one"]):=ac;generalize upd H lt (.lst (([("one":Str)]:List Str).map V.str))=H1 at s1 k1⊢;refine⟨_,rfl,p,dx,_,rfl,s1 _ _ hp,kO,p,ft,t,d,pl,al,zf,z,_,es,[e],rfl,L.same s1,λu hu=>?_⟩;have s2:=af (o:=.tup [.int (es.length:Int),.int (([e]:List Ent).length:Int)]) hu;have k2:upd H1 u (.tup [.int (es.length:Int),.int (([e]:List Ent).length:Int)]) u=some (.tup [.int 2,.int 1]):=by rw[ac,l2];rfl
 generalize upd H1 u (.tup [.int (es.length:Int),.int (([e]:List Ent).length:Int)])=H2 at s2 k2⊢;refine⟨ap (show 3≤1000 by decide),λh hh=>?_⟩;have s3:=af (o:=.tup [.ref t,.ref lt,.ref u]) hh;have s13:=(s1.trans s2).trans s3;exact q h lt u _ s13 ⟨L.same s13,n0,n1,n0,l2,ex,ez,eg,ac,s3 _ _ (s2 _ _ k1),s3 _ _ k2⟩
end
section
variable{P:Program}{w:World}{K:PySem.W.Frag}{mg:Str→Option Value}{base:Heap}{f cL PL g fC Dd:Addr}{fdg fdC:FuncData}{B:Nat→Addr}{A:Around}{outer:List Env}{s:Shared}{H0:Hp}{E:XK}
theorem gb1{C CT fT:Addr}{fdT:FuncData}(hr:R7 A s f cL)(O:Tol K mg base cL PL g fC Dd fdg fdC B)(O1:One12 K B Dd 9)(T:LCls K mg C)(MT:Meth K C "tag" fT)(bT:aq K fdT ["self","name"] [])(CN:∀base',K.In base'→BmB base' mg→FnOk P w K mg base' (CX1 P w) 2 fT fdT ["self","name"] (fi CT)):∃rd,PS (GX P w K mg base f cL A outer s H0 E) (gbS 1) rd∧∀(D:Ends)(Hs H:Hp)(a:Addr)(kv lv nv tv:V)(x1 x2 x3:Option V),ax PL Hs H→cg H PL cC→cg Hs PL cC→(∀H',ax PL Hs H'→dC (inA C CT [lv,nv]) (B 9) H') →
   (∀l H',Mid PL Hs H' l ["no tag"]→D.nx (gσ a x1 (some (.ref l)) x3 (some kv) (some lv) (some nv) (some tv)) H')→rd D (gσ a x1 x2 x3 (some kv) (some lv) (some nv) (some tv)) H:=by
 have kT:=O.FT.kp;refine⟨_,aM (i:=2) scG.nd rfl (Or.inl rfl) (aY (aa (aQ (k:=7) (cl:=[("_law_name",s.heap.objs.size+3),("_law_ledger",s.heap.objs.size+2)]) (fs:=["_law_ledger","_law_name"]) (js:=[5,6]) (qual:=cC) (spG:=λf c fv=>ce f (gk c (inA C CT fv)) B Dd K) O.C0 rfl O.Bm rfl rfl rfl ?O ?hG hr rfl O.mT kT O.bT) ae)),?_⟩
 case O=>exact⟨rfl,λx c h=>by rcases lk2 h with⟨rfl,rfl⟩|⟨rfl,rfl⟩<;>rfl,λi j x h1 h2=>by
  match i,h1,h2 with
  |0,h1,h2=>cases h1;cases h2;exact⟨rfl,rfl,rfl,_,rfl⟩
  |1,h1,h2=>cases h1;cases h2;exact⟨rfl,rfl,rfl,_,rfl⟩
  | i+2,h1,h2=>simp at h1,λ_=>rfl⟩
 case hG =>
  intro base' f' c pm ctv fv sub ho C';obtain⟨v0,v1,rfl⟩:∃v0 v1,fv=[v0,v1]:=by
   have:=C'.len
   match fv,this with
   |[v0,v1],_=>exact⟨v0,v1,rfl⟩
  have GT:=CN base' (O.KB.keeps sub) (O.Bm.sub sub);refine cb O.FT O.L ho (ca (k:=5) (ps:=[]) (fs:=["_law_ledger","_law_name"]) (fv:=[v0,v1]) ho (λvs H Q E h=>h.2.1) ⟨rfl,rfl,rfl,by decide +kernel,(λx hx=>by cases hx),nodup_nil,λx h=>?_,λx y c h1 h2=>wH (by decide) h1 h2⟩ C' (λvs H Q E h=>by obtain⟨rfl,_⟩:=h;rfl) (λA outer s H vs Q E hr h=>?_)) (.all λus hl=>match us,hl with | [],_=>rfl) (cG O.FC O.T O.L) O.mC O.FC.kp O.bC (λH Q E E' hm h=>?_)
  ·have:=(by decide +kernel:∀y∈_,y.2=NameKind.free→y.1=("_law_ledger":Str)∨y.1=("_law_name":Str)) _ (PySem.mem_of_lookup h) rfl;have e:x=("_law_ledger":Str)∨x=("_law_name":Str):=this;rcases e with rfl|rfl
   ·exact⟨_,rfl⟩
   ·exact⟨_,rfl⟩
  ·obtain⟨rfl,hc,p,nv,dx,fl,efv,hp,hn,h⟩:=h;have e0:v0=.ref p:=by injection efv
   have e1:v1=nv:=by injection efv with _ h;injection h
   subst e0 e1;have hr2:Room 2 _:=hr.mono (by decide);exact⟨_,ba (E:=E) (pv 0) T.cl MT GT hr2 bT .nil (aW dS) (aa (pv 1) ae),_,rfl,p,dx,fl,rfl,hp,hn,_,rfl,h⟩
  ·exact⟨h.1,h.2.1,uH _ _ _ _ hm h.2.2⟩
 intro D Hs H a kv lv nv tv x1 x2 x3 off tab tab0 hR q;refine bu (fv:=[lv,nv]) (inner:=inA C CT) tab rfl (λH' o'=>hR H' (off.trans o')) O1 rfl λH1 off1 tab1=>?_;refine⟨(show 1≤sizeLine from ap (by decide)),λl hl=>?_⟩;have s1:=af (o:=.lst [.str "no tag"]) hl;refine q l _ ⟨λb o n e=>s1 _ _ (off1 b o n (off b o n e)),dR tab1 s1,ac,?_⟩;cases e:Hs l with
 |none=>rfl
 |some o =>
  by_cases el:l=PL
  ·obtain⟨ps,h1,_⟩:=tab1;rw[el,h1]at hl;cases hl
  ·have:=off1 l o el (off l o el e);rw[hl]at this;cases this
theorem gb2{C CT fT:Addr}{fdT:FuncData}(hr:R7 A s f cL)(O:Tol K mg base cL PL g fC Dd fdg fdC B)(O1:One12 K B Dd 9)(T:LCls K mg C)(MT:Meth K C "tagged" fT)(bT:aq K fdT ["self","name"] [])(CN:∀base',K.In base'→BmB base' mg→FnOk P w K mg base' (CX1 P w) 2 fT fdT ["self","name"] (cR C CT)):∃rd,PS (GX P w K mg base f cL A outer s H0 E) (gbS 2) rd∧∀(D:Ends)(Hs H:Hp)(a l:Addr)(ws:List Str)(kv lv nv tv:V)(x1 x3:Option V),Mid PL Hs H l ws→ws.length≤20→(∀H',ax PL Hs H'→dC (inB C "tagged" (cR C CT) [kv,lv,nv]) (B 9) H') →
   (∀H',Mid PL Hs H' l (ws++([("no tag":Str)]:List Str))→D.nx (gσ a x1 (some (.ref l)) x3 (some kv) (some lv) (some nv) (some tv)) H')→rd D (gσ a x1 (some (.ref l)) x3 (some kv) (some lv) (some nv) (some tv)) H:=by
 have kT:=O.FT.kp;refine⟨_,aB (cp plainAttrs_list PySem.F.slot_list_append PySem.F.type_list_append aH (pv 2) (aa (aQ (k:=7) (cl:=[("_law_name",s.heap.objs.size+3),("_law_ledger",s.heap.objs.size+2),("_law_k",s.heap.objs.size+1)]) (fs:=["_law_k","_law_ledger","_law_name"]) (js:=[4,5,6]) (qual:=cC) (spG:=λf c fv=>ce f (gk c (inB C "tagged" (cR C CT) fv)) B Dd K) O.C0 rfl O.Bm rfl rfl rfl ?O ?hG hr rfl O.mT kT O.bT) ae)),?_⟩
 case O=>exact⟨rfl,λx c h=>by rcases lk3 h with⟨rfl,rfl⟩|⟨rfl,rfl⟩|⟨rfl,rfl⟩<;>rfl,λi j x h1 h2=>by
  match i,h1,h2 with
  |0,h1,h2=>cases h1;cases h2;exact⟨rfl,rfl,rfl,_,rfl⟩
  |1,h1,h2=>cases h1;cases h2;exact⟨rfl,rfl,rfl,_,rfl⟩
  |2,h1,h2=>cases h1;cases h2;exact⟨rfl,rfl,rfl,_,rfl⟩
  | i+3,h1,h2=>simp at h1,λ_=>rfl⟩
 case hG =>
  intro base' f' c pm ctv fv sub ho C';obtain⟨v0,v1,v2,rfl⟩:∃v0 v1 v2,fv=[v0,v1,v2]:=by
   have:=C'.len
   match fv,this with
   |[v0,v1,v2],_=>exact⟨v0,v1,v2,rfl⟩
  have GT:=CN base' (O.KB.keeps sub) (O.Bm.sub sub);refine cb O.FT O.L ho (ca (k:=5) (ps:=[]) (fs:=["_law_k","_law_ledger","_law_name"]) (fv:=[v0,v1,v2]) ho (λvs H Q E h=>h.2.1) ⟨rfl,rfl,rfl,by decide +kernel,(λx hx=>by cases hx),nodup_nil,λx h=>?_,λx y c h1 h2=>zI (by decide) (by decide) (by decide) h1 h2⟩ C' (λvs H Q E h=>by obtain⟨rfl,_⟩:=h;rfl) (λA outer s H vs Q E hr h=>?_)) (.all λus hl=>match us,hl with | [],_=>rfl) (cG O.FC O.T O.L) O.mC O.FC.kp O.bC (λH Q E E' hm h=>?_)
  ·have:=(by decide +kernel:∀y∈_,y.2=NameKind.free→y.1=("_law_k":Str)∨y.1=("_law_ledger":Str)∨y.1=("_law_name":Str)) _ (PySem.mem_of_lookup h) rfl;have e:x=("_law_k":Str)∨x=("_law_ledger":Str)∨x=("_law_name":Str):=this;rcases e with rfl|rfl|rfl
   ·exact⟨_,rfl⟩
   ·exact⟨_,rfl⟩
   ·exact⟨_,rfl⟩
  ·obtain⟨rfl,hc,k,p,nv,v,dx,fl,efv,hv,hp,hn,h⟩:=h;have e0:v0=.int k:=by injection efv
   have e1:v1=.ref p:=by injection efv with _ h;injection h
   have e2:v2=nv:=by injection efv with _ h;injection h with _ h;injection h
   subst e0 e1 e2;have hr2:Room 2 _:=hr.mono (by decide);refine⟨_,ba (E:=E) (pv 1) T.cl MT GT hr2 bT .nil (aW dS) (aa (aF (r:=jL K) cW (aY (aa (pv 2) (aa au ae))) (bd eK (pv 0) ak) (λ_ _=>rfl)) ae),_,rfl,p,dx,fl,rfl,hp,hn,_,rfl,ap (show 2≤1000 by decide),λl hl=>⟨_,rfl,_,_,rfl,rfl,(show(0:Int)<2 by decide),?_⟩⟩;show jL K (V.ref l) (V.int ((k:Int) % 2)) _ _;rw[show((k:Int) % 2)=((k % 2:Nat):Int)by omega];exact⟨l,_,_,_,rfl,rfl,SqL.of ac,cV hv,h l hl⟩
  ·exact⟨h.1,h.2.1,nO nM _ _ _ _ hm h.2.2⟩
 intro D Hs H a l ws kv lv nv tv x1 x3 M hn hR q;refine⟨_,rfl,.inl ⟨rfl,_,SqL.of M.lst⟩,bu (fv:=[kv,lv,nv]) (inner:=inB C "tagged" (cR C CT)) M.tab rfl (λH' o'=>hR H' (M.off.trans o')) O1 rfl λH1 off1 tab1=>?_⟩;have hl:=ax.ne M.tab off1 M.lst λps h=>by cases h
 exact⟨l,_,_,rfl,rfl,hl,ao (by rw[length_map];omega),q _ (M.next _ off1 tab1)⟩
theorem gb3{C CT fT:Addr}{fdT:FuncData}(hr:R7 A s f cL)(O:Tol K mg base cL PL g fC Dd fdg fdC B)(O1:One12 K B Dd 9)(T:LCls K mg C)(MT:Meth K C "from_tag" fT)(bT:aq K fdT ["self","name"] [])(CN:∀base',K.In base'→BmB base' mg→FnOk P w K mg base' (CX1 P w) 3 fT fdT ["self","name"] (eW C CT)):∃rd,PS (GX P w K mg base f cL A outer s H0 E) (gbS 3) rd∧∀(D:Ends)(Hs H:Hp)(a l:Addr)(ws:List Str)(kv lv nv tv:V)(x1 x3:Option V),Mid PL Hs H l ws→ws.length≤20→(∀H',ax PL Hs H'→dC (inB C "from_tag" (eW C CT) [kv,lv,nv]) (B 9) H') →
   (∀H',Mid PL Hs H' l (ws++([("no tag":Str)]:List Str))→D.nx (gσ a x1 (some (.ref l)) x3 (some kv) (some lv) (some nv) (some tv)) H')→rd D (gσ a x1 (some (.ref l)) x3 (some kv) (some lv) (some nv) (some tv)) H:=by
 have kT:=O.FT.kp;refine⟨_,aB (cp plainAttrs_list PySem.F.slot_list_append PySem.F.type_list_append aH (pv 2) (aa (aQ (k:=7) (cl:=[("_law_name",s.heap.objs.size+3),("_law_ledger",s.heap.objs.size+2),("_law_k",s.heap.objs.size+1)]) (fs:=["_law_k","_law_ledger","_law_name"]) (js:=[4,5,6]) (qual:=cC) (spG:=λf c fv=>ce f (gk c (inB C "from_tag" (eW C CT) fv)) B Dd K) O.C0 rfl O.Bm rfl rfl rfl ?O ?hG hr rfl O.mT kT O.bT) ae)),?_⟩
 case O=>exact⟨rfl,λx c h=>by rcases lk3 h with⟨rfl,rfl⟩|⟨rfl,rfl⟩|⟨rfl,rfl⟩<;>rfl,λi j x h1 h2=>by
  match i,h1,h2 with
  |0,h1,h2=>cases h1;cases h2;exact⟨rfl,rfl,rfl,_,rfl⟩
  |1,h1,h2=>cases h1;cases h2;exact⟨rfl,rfl,rfl,_,rfl⟩
  |2,h1,h2=>cases h1;cases h2;exact⟨rfl,rfl,rfl,_,rfl⟩
  | i+3,h1,h2=>simp at h1,λ_=>rfl⟩
 case hG =>
  intro base' f' c pm ctv fv sub ho C';obtain⟨v0,v1,v2,rfl⟩:∃v0 v1 v2,fv=[v0,v1,v2]:=by
   have:=C'.len
   match fv,this with
   |[v0,v1,v2],_=>exact⟨v0,v1,v2,rfl⟩
  have GT:=CN base' (O.KB.keeps sub) (O.Bm.sub sub);refine cb O.FT O.L ho (ca (k:=5) (ps:=[]) (fs:=["_law_k","_law_ledger","_law_name"]) (fv:=[v0,v1,v2]) ho (λvs H Q E h=>h.2.1) ⟨rfl,rfl,rfl,by decide +kernel,(λx hx=>by cases hx),nodup_nil,λx h=>?_,λx y c h1 h2=>zI (by decide) (by decide) (by decide) h1 h2⟩ C' (λvs H Q E h=>by obtain⟨rfl,_⟩:=h;rfl) (λA outer s H vs Q E hr h=>?_)) (.all λus hl=>match us,hl with | [],_=>rfl) (cG O.FC O.T O.L) O.mC O.FC.kp O.bC (λH Q E E' hm h=>?_)
  ·have:=(by decide +kernel:∀y∈_,y.2=NameKind.free→y.1=("_law_k":Str)∨y.1=("_law_ledger":Str)∨y.1=("_law_name":Str)) _ (PySem.mem_of_lookup h) rfl;have e:x=("_law_k":Str)∨x=("_law_ledger":Str)∨x=("_law_name":Str):=this;rcases e with rfl|rfl|rfl
   ·exact⟨_,rfl⟩
   ·exact⟨_,rfl⟩
   ·exact⟨_,rfl⟩
  ·obtain⟨rfl,hc,k,p,nv,v,dx,fl,efv,hv,hp,hn,h⟩:=h;have e0:v0=.int k:=by injection efv
   have e1:v1=.ref p:=by injection efv with _ h;injection h
   have e2:v2=nv:=by injection efv with _ h;injection h with _ h;injection h
   subst e0 e1 e2;have hr2:Room 3 _:=hr.mono (by decide);refine⟨_,ba (E:=E) (pv 1) T.cl MT GT hr2 bT .nil (aW dS) (aa (aF (r:=jL K) cW (aY (aa (pv 2) (aa au ae))) (bd eK (pv 0) ak) (λ_ _=>rfl)) ae),_,rfl,p,dx,fl,rfl,hp,hn,_,rfl,ap (show 2≤1000 by decide),λl hl=>⟨_,rfl,_,_,rfl,rfl,(show(0:Int)<2 by decide),?_⟩⟩;show jL K (V.ref l) (V.int ((k:Int) % 2)) _ _;rw[show((k:Int) % 2)=((k % 2:Nat):Int)by omega];exact⟨l,_,_,_,rfl,rfl,SqL.of ac,cV hv,h l hl⟩
  ·exact⟨h.1,h.2.1,nO nM _ _ _ _ hm h.2.2⟩
 intro D Hs H a l ws kv lv nv tv x1 x3 M hn hR q;refine⟨_,rfl,.inl ⟨rfl,_,SqL.of M.lst⟩,bu (fv:=[kv,lv,nv]) (inner:=inB C "from_tag" (eW C CT)) M.tab rfl (λH' o'=>hR H' (M.off.trans o')) O1 rfl λH1 off1 tab1=>?_⟩;have hl:=ax.ne M.tab off1 M.lst λps h=>by cases h
 exact⟨l,_,_,rfl,rfl,hl,ao (by rw[length_map];omega),q _ (M.next _ off1 tab1)⟩
theorem gb4{C fT:Addr}{fdT:FuncData}{cls:TW.Wd→Addr}(hr:R7 A s f cL)(O:Tol K mg base cL PL g fC Dd fdg fdC B)(O1:One12 K B Dd 1)(T:LCls K mg C)(MT:Meth K C "do" fT)(bT:aq K fdT ["self","deed"] [])(CN:∀base',K.In base'→BmB base' mg→FnOk P w K mg base' (CX1 P w) 5 fT fdT ["self","deed"] (cT C cls)):∃rd,PS (GX P w K mg base f cL A outer s H0 E) (gbS 4) rd∧∀(D:Ends)(Hs H:Hp)(a l:Addr)(ws:List Str)(kv lv nv tv:V)(x1 x3:Option V),Mid PL Hs H l ws→ws.length≤20→(∀H',ax PL Hs H'→dC (inC C cls [.str "make",.int 2,.int 0,.str "d",.non] [lv]) (B 1) H') →
   (∀H',Mid PL Hs H' l (ws++([("known":Str)]:List Str))→D.nx (gσ a x1 (some (.ref l)) x3 (some kv) (some lv) (some nv) (some tv)) H')→rd D (gσ a x1 (some (.ref l)) x3 (some kv) (some lv) (some nv) (some tv)) H:=by
 have kT:=O.FT.kp;refine⟨_,aB (cp plainAttrs_list PySem.F.slot_list_append PySem.F.type_list_append aH (pv 2) (aa (aQ (k:=7) (cl:=[("_law_ledger",s.heap.objs.size+2)]) (fs:=["_law_ledger"]) (js:=[5]) (qual:=cC) (spG:=λf c fv=>ce f (gk c (inC C cls [.str "make",.int 2,.int 0,.str "d",.non] fv)) B Dd K) O.C0 rfl O.Bm rfl rfl rfl ?O ?hG hr rfl O.mT kT O.bT) ae)),?_⟩
 case O=>exact⟨rfl,λx c h=>by obtain⟨rfl,rfl⟩:=lk1 h;rfl,λi j x h1 h2=>by
  match i,h1,h2 with
  |0,h1,h2=>cases h1;cases h2;exact⟨rfl,rfl,rfl,_,rfl⟩
  | i+1,h1,h2=>simp at h1,λ_=>rfl⟩
 case hG =>
  intro base' f' c pm ctv fv sub ho C';obtain⟨v0,rfl⟩:∃v0,fv=[v0]:=by
   have:=C'.len
   match fv,this with
   |[v0],_=>exact⟨v0,rfl⟩
  have GT:=CN base' (O.KB.keeps sub) (O.Bm.sub sub);refine cb O.FT O.L ho (ca (k:=5) (ps:=[]) (fs:=["_law_ledger"]) (fv:=[v0]) ho (λvs H Q E h=>h.2.1) ⟨rfl,rfl,rfl,by decide +kernel,(λx hx=>by cases hx),nodup_nil,λx h=>?_,λx y c h1 h2=>(lk1 h1).1.trans (lk1 h2).1.symm⟩ C' (λvs H Q E h=>by obtain⟨rfl,_⟩:=h;rfl) (λA outer s H vs Q E hr h=>?_)) (.all λus hl=>match us,hl with | [],_=>rfl) (cG O.FC O.T O.L) O.mC O.FC.kp O.bC (λH Q E E' hm h=>?_)
  ·have:=(by decide +kernel:∀y∈_,y.2=NameKind.free→y.1=("_law_ledger":Str)) _ (PySem.mem_of_lookup h) rfl;have e:x=("_law_ledger":Str):=this;rcases e with rfl
   exact⟨_,rfl⟩
  ·obtain⟨rfl,hc,p,dx,fl,efv,hp,hn,h⟩:=h;have e0:v0=.ref p:=by injection efv
   subst e0;exact⟨_,ba (E:=E) (pv 0) T.cl MT GT hr bT .nil (aW dS) (aa (aK (aa au (aa ak (aa ak (aa au (aa dU ae)))))) ae),_,rfl,p,dx,fl,rfl,hp,hn,ap (show 5≤1000 by decide),λo ho=>h o ho⟩
  ·exact⟨h.1,h.2.1,eX _ _ _ _ hm h.2.2⟩
 intro D Hs H a l ws kv lv nv tv x1 x3 M hn hR q;refine⟨_,rfl,.inl ⟨rfl,_,SqL.of M.lst⟩,bu (fv:=[lv]) (inner:=inC C cls [.str "make",.int 2,.int 0,.str "d",.non]) M.tab rfl (λH' o'=>hR H' (M.off.trans o')) O1 rfl λH1 off1 tab1=>?_⟩;have hl:=ax.ne M.tab off1 M.lst λps h=>by cases h
 exact⟨l,_,_,rfl,rfl,hl,ao (by rw[length_map];omega),q _ (M.next _ off1 tab1)⟩
theorem gb5{C fT:Addr}{fdT:FuncData}{cls:TW.Wd→Addr}(hr:R7 A s f cL)(O:Tol K mg base cL PL g fC Dd fdg fdC B)(O1:One12 K B Dd 7)(T:LCls K mg C)(MT:Meth K C "do" fT)(bT:aq K fdT ["self","deed"] [])(CN:∀base',K.In base'→BmB base' mg→FnOk P w K mg base' (CX1 P w) 5 fT fdT ["self","deed"] (cT C cls)):∃rd,PS (GX P w K mg base f cL A outer s H0 E) (gbS 5) rd∧∀(D:Ends)(Hs H:Hp)(a l:Addr)(ws:List Str)(kv lv nv tv:V)(x1 x3:Option V),Mid PL Hs H l ws→ws.length≤20→(∀H',ax PL Hs H'→dC (inD C cls [kv,lv]) (B 7) H') →
   (∀H',Mid PL Hs H' l (ws++([("not file":Str)]:List Str))→D.nx (gσ a x1 (some (.ref l)) x3 (some kv) (some lv) (some nv) (some tv)) H')→rd D (gσ a x1 (some (.ref l)) x3 (some kv) (some lv) (some nv) (some tv)) H:=by
 have kT:=O.FT.kp;refine⟨_,aB (cp plainAttrs_list PySem.F.slot_list_append PySem.F.type_list_append aH (pv 2) (aa (aQ (k:=7) (cl:=[("_law_ledger",s.heap.objs.size+2),("_law_k",s.heap.objs.size+1)]) (fs:=["_law_k","_law_ledger"]) (js:=[4,5]) (qual:=cC) (spG:=λf c fv=>ce f (gk c (inD C cls fv)) B Dd K) O.C0 rfl O.Bm rfl rfl rfl ?O ?hG hr rfl O.mT kT O.bT) ae)),?_⟩
 case O=>exact⟨rfl,λx c h=>by rcases lk2 h with⟨rfl,rfl⟩|⟨rfl,rfl⟩<;>rfl,λi j x h1 h2=>by
  match i,h1,h2 with
  |0,h1,h2=>cases h1;cases h2;exact⟨rfl,rfl,rfl,_,rfl⟩
  |1,h1,h2=>cases h1;cases h2;exact⟨rfl,rfl,rfl,_,rfl⟩
  | i+2,h1,h2=>simp at h1,λ_=>rfl⟩
 case hG =>
  intro base' f' c pm ctv fv sub ho C';obtain⟨v0,v1,rfl⟩:∃v0 v1,fv=[v0,v1]:=by
   have:=C'.len
   match fv,this with
   |[v0,v1],_=>exact⟨v0,v1,rfl⟩
  have GT:=CN base' (O.KB.keeps sub) (O.Bm.sub sub);refine cb O.FT O.L ho (ca (k:=5) (ps:=[]) (fs:=["_law_k","_law_ledger"]) (fv:=[v0,v1]) ho (λvs H Q E h=>h.2.1) ⟨rfl,rfl,rfl,by decide +kernel,(λx hx=>by cases hx),nodup_nil,λx h=>?_,λx y c h1 h2=>wH (by decide) h1 h2⟩ C' (λvs H Q E h=>by obtain⟨rfl,_⟩:=h;rfl) (λA outer s H vs Q E hr h=>?_)) (.all λus hl=>match us,hl with | [],_=>rfl) (cG O.FC O.T O.L) O.mC O.FC.kp O.bC (λH Q E E' hm h=>?_)
  ·have:=(by decide +kernel:∀y∈_,y.2=NameKind.free→y.1=("_law_k":Str)∨y.1=("_law_ledger":Str)) _ (PySem.mem_of_lookup h) rfl;have e:x=("_law_k":Str)∨x=("_law_ledger":Str):=this;rcases e with rfl|rfl
   ·exact⟨_,rfl⟩
   ·exact⟨_,rfl⟩
  ·obtain⟨rfl,hc,k,p,n,dx,fl,efv,hv,hp,hn,h⟩:=h;have e0:v0=.int k:=by injection efv
   have e1:v1=.ref p:=by injection efv with _ h;injection h
   subst e0 e1;refine⟨_,ba (E:=E) (pv 1) T.cl MT GT hr bT .nil (aW dS) (aa (aK (aa au (aa (aF (r:=jL K) cW (aY (aa ak (aa ak ae))) (bd eK (pv 0) ak) (λ_ _=>rfl)) (aa ak ae)))) ae),_,rfl,p,dx,fl,rfl,hp,hn,ap (show 2≤1000 by decide),λl hl=>⟨_,rfl,_,_,rfl,rfl,(show(0:Int)<2 by decide),?_⟩⟩;show jL K (V.ref l) (V.int ((k:Int) % 2)) _ _;rw[show((k:Int) % 2)=((k % 2:Nat):Int)by omega];exact⟨l,_,_,_,rfl,rfl,SqL.of ac,cV hv,ap (show 3≤1000 by decide),λo ho=>h l hl o ho⟩
  ·exact⟨h.1,h.2.1,uI _ _ _ _ hm h.2.2⟩
 intro D Hs H a l ws kv lv nv tv x1 x3 M hn hR q;refine⟨_,rfl,.inl ⟨rfl,_,SqL.of M.lst⟩,bu (fv:=[kv,lv]) (inner:=inD C cls) M.tab rfl (λH' o'=>hR H' (M.off.trans o')) O1 rfl λH1 off1 tab1=>?_⟩;have hl:=ax.ne M.tab off1 M.lst λps h=>by cases h
 exact⟨l,_,_,rfl,rfl,hl,ao (by rw[length_map];omega),q _ (M.next _ off1 tab1)⟩
theorem gb6{C fT:Addr}{fdT:FuncData}{cls:TW.Wd→Addr}(hr:R7 A s f cL)(O:Tol K mg base cL PL g fC Dd fdg fdC B)(O1:One12 K B Dd 0)(T:LCls K mg C)(MT:Meth K C "do" fT)(bT:aq K fdT ["self","deed"] [])(CN:∀base',K.In base'→BmB base' mg→FnOk P w K mg base' (CX1 P w) 5 fT fdT ["self","deed"] (cT C cls)):∃rd,PS (GX P w K mg base f cL A outer s H0 E) (gbS 6) rd∧∀(D:Ends)(Hs H:Hp)(a l:Addr)(ws:List Str)(kv lv nv tv:V)(x1 x3:Option V),Mid PL Hs H l ws→ws.length≤20→(∀H',ax PL Hs H'→dC (inC C cls [.str "move",.int 1,.int 1,.str "d"] [lv]) (B 0) H') →
   (∀H',Mid PL Hs H' l (ws++([("inside":Str)]:List Str))→D.nx (gσ a x1 (some (.ref l)) x3 (some kv) (some lv) (some nv) (some tv)) H')→rd D (gσ a x1 (some (.ref l)) x3 (some kv) (some lv) (some nv) (some tv)) H:=by
 have kT:=O.FT.kp;refine⟨_,aB (cp plainAttrs_list PySem.F.slot_list_append PySem.F.type_list_append aH (pv 2) (aa (aQ (k:=7) (cl:=[("_law_ledger",s.heap.objs.size+2)]) (fs:=["_law_ledger"]) (js:=[5]) (qual:=cC) (spG:=λf c fv=>ce f (gk c (inC C cls [.str "move",.int 1,.int 1,.str "d"] fv)) B Dd K) O.C0 rfl O.Bm rfl rfl rfl ?O ?hG hr rfl O.mT kT O.bT) ae)),?_⟩
 case O=>exact⟨rfl,λx c h=>by obtain⟨rfl,rfl⟩:=lk1 h;rfl,λi j x h1 h2=>by
  match i,h1,h2 with
  |0,h1,h2=>cases h1;cases h2;exact⟨rfl,rfl,rfl,_,rfl⟩
  | i+1,h1,h2=>simp at h1,λ_=>rfl⟩
 case hG =>
  intro base' f' c pm ctv fv sub ho C';obtain⟨v0,rfl⟩:∃v0,fv=[v0]:=by
   have:=C'.len
   match fv,this with
   |[v0],_=>exact⟨v0,rfl⟩
  have GT:=CN base' (O.KB.keeps sub) (O.Bm.sub sub);refine cb O.FT O.L ho (ca (k:=5) (ps:=[]) (fs:=["_law_ledger"]) (fv:=[v0]) ho (λvs H Q E h=>h.2.1) ⟨rfl,rfl,rfl,by decide +kernel,(λx hx=>by cases hx),nodup_nil,λx h=>?_,λx y c h1 h2=>(lk1 h1).1.trans (lk1 h2).1.symm⟩ C' (λvs H Q E h=>by obtain⟨rfl,_⟩:=h;rfl) (λA outer s H vs Q E hr h=>?_)) (.all λus hl=>match us,hl with | [],_=>rfl) (cG O.FC O.T O.L) O.mC O.FC.kp O.bC (λH Q E E' hm h=>?_)
  ·have:=(by decide +kernel:∀y∈_,y.2=NameKind.free→y.1=("_law_ledger":Str)) _ (PySem.mem_of_lookup h) rfl;have e:x=("_law_ledger":Str):=this;rcases e with rfl
   exact⟨_,rfl⟩
  ·obtain⟨rfl,hc,p,dx,fl,efv,hp,hn,h⟩:=h;have e0:v0=.ref p:=by injection efv
   subst e0;exact⟨_,ba (E:=E) (pv 0) T.cl MT GT hr bT .nil (aW dS) (aa (aK (aa au (aa ak (aa ak (aa au ae))))) ae),_,rfl,p,dx,fl,rfl,hp,hn,ap (show 4≤1000 by decide),λo ho=>h o ho⟩
  ·exact⟨h.1,h.2.1,eX _ _ _ _ hm h.2.2⟩
 intro D Hs H a l ws kv lv nv tv x1 x3 M hn hR q;refine⟨_,rfl,.inl ⟨rfl,_,SqL.of M.lst⟩,bu (fv:=[lv]) (inner:=inC C cls [.str "move",.int 1,.int 1,.str "d"]) M.tab rfl (λH' o'=>hR H' (M.off.trans o')) O1 rfl λH1 off1 tab1=>?_⟩;have hl:=ax.ne M.tab off1 M.lst λps h=>by cases h
 exact⟨l,_,_,rfl,rfl,hl,ao (by rw[length_map];omega),q _ (M.next _ off1 tab1)⟩
theorem gb7{C fT:Addr}{fdT:FuncData}{cls:TW.Wd→Addr}(hr:R7 A s f cL)(O:Tol K mg base cL PL g fC Dd fdg fdC B)(O1:One12 K B Dd 11)(T:LCls K mg C)(MT:Meth K C "do" fT)(bT:aq K fdT ["self","deed"] [])(CN:∀base',K.In base'→BmB base' mg→FnOk P w K mg base' (CX1 P w) 5 fT fdT ["self","deed"] (cT C cls)):∃rd,PS (GX P w K mg base f cL A outer s H0 E) (gbS 7) rd∧∀(D:Ends)(Hs H:Hp)(a l:Addr)(ws:List Str)(kv lv nv tv:V)(x1 x3:Option V),Mid PL Hs H l ws→ws.length≤20→(∀H',ax PL Hs H'→dC (inC C cls [.str "move",.int 3,.int 0,.str "a"] [lv]) (B 11) H') →
   (∀H',Mid PL Hs H' l (ws++([("taken":Str)]:List Str))→D.nx (gσ a x1 (some (.ref l)) x3 (some kv) (some lv) (some nv) (some tv)) H')→rd D (gσ a x1 (some (.ref l)) x3 (some kv) (some lv) (some nv) (some tv)) H:=by
 have kT:=O.FT.kp;refine⟨_,aB (cp plainAttrs_list PySem.F.slot_list_append PySem.F.type_list_append aH (pv 2) (aa (aQ (k:=7) (cl:=[("_law_ledger",s.heap.objs.size+2)]) (fs:=["_law_ledger"]) (js:=[5]) (qual:=cC) (spG:=λf c fv=>ce f (gk c (inC C cls [.str "move",.int 3,.int 0,.str "a"] fv)) B Dd K) O.C0 rfl O.Bm rfl rfl rfl ?O ?hG hr rfl O.mT kT O.bT) ae)),?_⟩
 case O=>exact⟨rfl,λx c h=>by obtain⟨rfl,rfl⟩:=lk1 h;rfl,λi j x h1 h2=>by
  match i,h1,h2 with
  |0,h1,h2=>cases h1;cases h2;exact⟨rfl,rfl,rfl,_,rfl⟩
  | i+1,h1,h2=>simp at h1,λ_=>rfl⟩
 case hG =>
  intro base' f' c pm ctv fv sub ho C';obtain⟨v0,rfl⟩:∃v0,fv=[v0]:=by
   have:=C'.len
   match fv,this with
   |[v0],_=>exact⟨v0,rfl⟩
  have GT:=CN base' (O.KB.keeps sub) (O.Bm.sub sub);refine cb O.FT O.L ho (ca (k:=5) (ps:=[]) (fs:=["_law_ledger"]) (fv:=[v0]) ho (λvs H Q E h=>h.2.1) ⟨rfl,rfl,rfl,by decide +kernel,(λx hx=>by cases hx),nodup_nil,λx h=>?_,λx y c h1 h2=>(lk1 h1).1.trans (lk1 h2).1.symm⟩ C' (λvs H Q E h=>by obtain⟨rfl,_⟩:=h;rfl) (λA outer s H vs Q E hr h=>?_)) (.all λus hl=>match us,hl with | [],_=>rfl) (cG O.FC O.T O.L) O.mC O.FC.kp O.bC (λH Q E E' hm h=>?_)
  ·have:=(by decide +kernel:∀y∈_,y.2=NameKind.free→y.1=("_law_ledger":Str)) _ (PySem.mem_of_lookup h) rfl;have e:x=("_law_ledger":Str):=this;rcases e with rfl
   exact⟨_,rfl⟩
  ·obtain⟨rfl,hc,p,dx,fl,efv,hp,hn,h⟩:=h;have e0:v0=.ref p:=by injection efv
   subst e0;exact⟨_,ba (E:=E) (pv 0) T.cl MT GT hr bT .nil (aW dS) (aa (aK (aa au (aa ak (aa ak (aa au ae))))) ae),_,rfl,p,dx,fl,rfl,hp,hn,ap (show 4≤1000 by decide),λo ho=>h o ho⟩
  ·exact⟨h.1,h.2.1,eX _ _ _ _ hm h.2.2⟩
 intro D Hs H a l ws kv lv nv tv x1 x3 M hn hR q;refine⟨_,rfl,.inl ⟨rfl,_,SqL.of M.lst⟩,bu (fv:=[lv]) (inner:=inC C cls [.str "move",.int 3,.int 0,.str "a"]) M.tab rfl (λH' o'=>hR H' (M.off.trans o')) O1 rfl λH1 off1 tab1=>?_⟩;have hl:=ax.ne M.tab off1 M.lst λps h=>by cases h
 exact⟨l,_,_,rfl,rfl,hl,ao (by rw[length_map];omega),q _ (M.next _ off1 tab1)⟩
theorem gb8{C fT:Addr}{fdT:FuncData}{cls:TW.Wd→Addr}(hr:R7 A s f cL)(O:Tol K mg base cL PL g fC Dd fdg fdC B)(O1:One12 K B Dd 8)(T:LCls K mg C)(MT:Meth K C "do" fT)(bT:aq K fdT ["self","deed"] [])(CN:∀base',K.In base'→BmB base' mg→FnOk P w K mg base' (CX1 P w) 5 fT fdT ["self","deed"] (cT C cls)):∃rd,PS (GX P w K mg base f cL A outer s H0 E) (gbS 8) rd∧∀(D:Ends)(Hs H:Hp)(a l:Addr)(ws:List Str)(kv lv nv tv:V)(x1 x3:Option V),Mid PL Hs H l ws→ws.length≤20→(∀H',ax PL Hs H'→dC (inC C cls [.str "move",.int 3,.int 2,.str "z"] [lv]) (B 8) H') →
   (∀H',Mid PL Hs H' l (ws++([("not folder":Str)]:List Str))→D.nx (gσ a x1 (some (.ref l)) x3 (some kv) (some lv) (some nv) (some tv)) H')→rd D (gσ a x1 (some (.ref l)) x3 (some kv) (some lv) (some nv) (some tv)) H:=by
 have kT:=O.FT.kp;refine⟨_,aB (cp plainAttrs_list PySem.F.slot_list_append PySem.F.type_list_append aH (pv 2) (aa (aQ (k:=7) (cl:=[("_law_ledger",s.heap.objs.size+2)]) (fs:=["_law_ledger"]) (js:=[5]) (qual:=cC) (spG:=λf c fv=>ce f (gk c (inC C cls [.str "move",.int 3,.int 2,.str "z"] fv)) B Dd K) O.C0 rfl O.Bm rfl rfl rfl ?O ?hG hr rfl O.mT kT O.bT) ae)),?_⟩
 case O=>exact⟨rfl,λx c h=>by obtain⟨rfl,rfl⟩:=lk1 h;rfl,λi j x h1 h2=>by
  match i,h1,h2 with
  |0,h1,h2=>cases h1;cases h2;exact⟨rfl,rfl,rfl,_,rfl⟩
  | i+1,h1,h2=>simp at h1,λ_=>rfl⟩
 case hG =>
  intro base' f' c pm ctv fv sub ho C';obtain⟨v0,rfl⟩:∃v0,fv=[v0]:=by
   have:=C'.len
   match fv,this with
   |[v0],_=>exact⟨v0,rfl⟩
  have GT:=CN base' (O.KB.keeps sub) (O.Bm.sub sub);refine cb O.FT O.L ho (ca (k:=5) (ps:=[]) (fs:=["_law_ledger"]) (fv:=[v0]) ho (λvs H Q E h=>h.2.1) ⟨rfl,rfl,rfl,by decide +kernel,(λx hx=>by cases hx),nodup_nil,λx h=>?_,λx y c h1 h2=>(lk1 h1).1.trans (lk1 h2).1.symm⟩ C' (λvs H Q E h=>by obtain⟨rfl,_⟩:=h;rfl) (λA outer s H vs Q E hr h=>?_)) (.all λus hl=>match us,hl with | [],_=>rfl) (cG O.FC O.T O.L) O.mC O.FC.kp O.bC (λH Q E E' hm h=>?_)
  ·have:=(by decide +kernel:∀y∈_,y.2=NameKind.free→y.1=("_law_ledger":Str)) _ (PySem.mem_of_lookup h) rfl;have e:x=("_law_ledger":Str):=this;rcases e with rfl
   exact⟨_,rfl⟩
  ·obtain⟨rfl,hc,p,dx,fl,efv,hp,hn,h⟩:=h;have e0:v0=.ref p:=by injection efv
   subst e0;exact⟨_,ba (E:=E) (pv 0) T.cl MT GT hr bT .nil (aW dS) (aa (aK (aa au (aa ak (aa ak (aa au ae))))) ae),_,rfl,p,dx,fl,rfl,hp,hn,ap (show 4≤1000 by decide),λo ho=>h o ho⟩
  ·exact⟨h.1,h.2.1,eX _ _ _ _ hm h.2.2⟩
 intro D Hs H a l ws kv lv nv tv x1 x3 M hn hR q;refine⟨_,rfl,.inl ⟨rfl,_,SqL.of M.lst⟩,bu (fv:=[lv]) (inner:=inC C cls [.str "move",.int 3,.int 2,.str "z"]) M.tab rfl (λH' o'=>hR H' (M.off.trans o')) O1 rfl λH1 off1 tab1=>?_⟩;have hl:=ax.ne M.tab off1 M.lst λps h=>by cases h
 exact⟨l,_,_,rfl,rfl,hl,ao (by rw[length_map];omega),q _ (M.next _ off1 tab1)⟩
theorem gb9{C fT:Addr}{fdT:FuncData}{cls:TW.Wd→Addr}(hr:R7 A s f cL)(O:Tol K mg base cL PL g fC Dd fdg fdC B)(O1:One12 K B Dd 5)(T:LCls K mg C)(MT:Meth K C "do" fT)(bT:aq K fdT ["self","deed"] [])(CN:∀base',K.In base'→BmB base' mg→FnOk P w K mg base' (CX1 P w) 5 fT fdT ["self","deed"] (cT C cls)):∃rd,PS (GX P w K mg base f cL A outer s H0 E) (gbS 9) rd∧∀(D:Ends)(Hs H:Hp)(a l:Addr)(ws:List Str)(kv lv nv tv:V)(x1 x3:Option V),Mid PL Hs H l ws→ws.length≤20→(∀H',ax PL Hs H'→dC (inC C cls [.str "drop",.int 9] [lv]) (B 5) H') →
   (∀H',Mid PL Hs H' l (ws++([("no node":Str)]:List Str))→D.nx (gσ a x1 (some (.ref l)) x3 (some kv) (some lv) (some nv) (some tv)) H')→rd D (gσ a x1 (some (.ref l)) x3 (some kv) (some lv) (some nv) (some tv)) H:=by
 have kT:=O.FT.kp;refine⟨_,aB (cp plainAttrs_list PySem.F.slot_list_append PySem.F.type_list_append aH (pv 2) (aa (aQ (k:=7) (cl:=[("_law_ledger",s.heap.objs.size+2)]) (fs:=["_law_ledger"]) (js:=[5]) (qual:=cC) (spG:=λf c fv=>ce f (gk c (inC C cls [.str "drop",.int 9] fv)) B Dd K) O.C0 rfl O.Bm rfl rfl rfl ?O ?hG hr rfl O.mT kT O.bT) ae)),?_⟩
 case O=>exact⟨rfl,λx c h=>by obtain⟨rfl,rfl⟩:=lk1 h;rfl,λi j x h1 h2=>by
  match i,h1,h2 with
  |0,h1,h2=>cases h1;cases h2;exact⟨rfl,rfl,rfl,_,rfl⟩
  | i+1,h1,h2=>simp at h1,λ_=>rfl⟩
 case hG =>
  intro base' f' c pm ctv fv sub ho C';obtain⟨v0,rfl⟩:∃v0,fv=[v0]:=by
   have:=C'.len
   match fv,this with
   |[v0],_=>exact⟨v0,rfl⟩
  have GT:=CN base' (O.KB.keeps sub) (O.Bm.sub sub);refine cb O.FT O.L ho (ca (k:=5) (ps:=[]) (fs:=["_law_ledger"]) (fv:=[v0]) ho (λvs H Q E h=>h.2.1) ⟨rfl,rfl,rfl,by decide +kernel,(λx hx=>by cases hx),nodup_nil,λx h=>?_,λx y c h1 h2=>(lk1 h1).1.trans (lk1 h2).1.symm⟩ C' (λvs H Q E h=>by obtain⟨rfl,_⟩:=h;rfl) (λA outer s H vs Q E hr h=>?_)) (.all λus hl=>match us,hl with | [],_=>rfl) (cG O.FC O.T O.L) O.mC O.FC.kp O.bC (λH Q E E' hm h=>?_)
  ·have:=(by decide +kernel:∀y∈_,y.2=NameKind.free→y.1=("_law_ledger":Str)) _ (PySem.mem_of_lookup h) rfl;have e:x=("_law_ledger":Str):=this;rcases e with rfl
   exact⟨_,rfl⟩
  ·obtain⟨rfl,hc,p,dx,fl,efv,hp,hn,h⟩:=h;have e0:v0=.ref p:=by injection efv
   subst e0;exact⟨_,ba (E:=E) (pv 0) T.cl MT GT hr bT .nil (aW dS) (aa (aK (aa au (aa ak ae))) ae),_,rfl,p,dx,fl,rfl,hp,hn,ap (show 2≤1000 by decide),λo ho=>h o ho⟩
  ·exact⟨h.1,h.2.1,eX _ _ _ _ hm h.2.2⟩
 intro D Hs H a l ws kv lv nv tv x1 x3 M hn hR q;refine⟨_,rfl,.inl ⟨rfl,_,SqL.of M.lst⟩,bu (fv:=[lv]) (inner:=inC C cls [.str "drop",.int 9]) M.tab rfl (λH' o'=>hR H' (M.off.trans o')) O1 rfl λH1 off1 tab1=>?_⟩;have hl:=ax.ne M.tab off1 M.lst λps h=>by cases h
 exact⟨l,_,_,rfl,rfl,hl,ao (by rw[length_map];omega),q _ (M.next _ off1 tab1)⟩
theorem AA{CN CF:Addr}(hr:R7 A s f cL)(O:Tol K mg base cL PL g fC Dd fdg fdC B)(O1:One12 K B Dd 5)(CC:∀base',K.In base'→BmB base' mg→cy P w K mg base' 3 "total" ["tree","number"] (br CN CF)):∃rd,PS (GX P w K mg base f cL A outer s H0 E) (gbS 10) rd∧∀(D:Ends)(Hs H:Hp)(a l:Addr)(ws:List Str)(kv lv nv tv:V)(x1 x3:Option V),Mid PL Hs H l ws→ws.length≤20→(∀H',ax PL Hs H'→dC (inE (br CN CF) [kv,tv]) (B 5) H') →
   (∀H',Mid PL Hs H' l (ws++([("no node":Str)]:List Str))→D.nx (gσ a x1 (some (.ref l)) x3 (some kv) (some lv) (some nv) (some tv)) H')→rd D (gσ a x1 (some (.ref l)) x3 (some kv) (some lv) (some nv) (some tv)) H:=by
 have kT:=O.FT.kp;refine⟨_,aB (cp plainAttrs_list PySem.F.slot_list_append PySem.F.type_list_append aH (pv 2) (aa (aQ (k:=7) (cl:=[("_law_tree",s.heap.objs.size+4),("_law_k",s.heap.objs.size+1)]) (fs:=["_law_k","_law_tree"]) (js:=[4,7]) (qual:=cC) (spG:=λf c fv=>ce f (gk c (inE (br CN CF) fv)) B Dd K) O.C0 rfl O.Bm rfl rfl rfl ?O ?hG hr rfl O.mT kT O.bT) ae)),?_⟩
 case O=>exact⟨rfl,λx c h=>by rcases lk2 h with⟨rfl,rfl⟩|⟨rfl,rfl⟩<;>rfl,λi j x h1 h2=>by
  match i,h1,h2 with
  |0,h1,h2=>cases h1;cases h2;exact⟨rfl,rfl,rfl,_,rfl⟩
  |1,h1,h2=>cases h1;cases h2;exact⟨rfl,rfl,rfl,_,rfl⟩
  | i+2,h1,h2=>simp at h1,λ_=>rfl⟩
 case hG =>
  intro base' f' c pm ctv fv sub ho C';obtain⟨v0,v1,rfl⟩:∃v0 v1,fv=[v0,v1]:=by
   have:=C'.len
   match fv,this with
   |[v0,v1],_=>exact⟨v0,v1,rfl⟩
  obtain⟨fN,fdN,GN',mN,kN,bN⟩:=CC base' (O.KB.keeps sub) (O.Bm.sub sub);refine cb O.FT O.L ho (ca (k:=5) (ps:=[]) (fs:=["_law_k","_law_tree"]) (fv:=[v0,v1]) ho (λvs H Q E h=>h.2.1) ⟨rfl,rfl,rfl,by decide +kernel,(λx hx=>by cases hx),nodup_nil,λx h=>?_,λx y c h1 h2=>wH (by decide) h1 h2⟩ C' (λvs H Q E h=>by obtain⟨rfl,_⟩:=h;rfl) (λA outer s H vs Q E hr h=>?_)) (.all λus hl=>match us,hl with | [],_=>rfl) (cG O.FC O.T O.L) O.mC O.FC.kp O.bC (λH Q E E' hm h=>?_)
  ·have:=(by decide +kernel:∀y∈_,y.2=NameKind.free→y.1=("_law_k":Str)∨y.1=("_law_tree":Str)) _ (PySem.mem_of_lookup h) rfl;have e:x=("_law_k":Str)∨x=("_law_tree":Str):=this;rcases e with rfl|rfl
   ·exact⟨_,rfl⟩
   ·exact⟨_,rfl⟩
  ·obtain⟨rfl,hc,k,t,n,efv,hv,h⟩:=h;have e0:v0=.int k:=by injection efv
   have e1:v1=.ref t:=by injection efv with _ h;injection h
   subst e0 e1;have hr3:Room 3 _:=hr.mono (by decide);exact⟨_,ar (E:=E) GN' hr3 rfl mN kN bN .nil (aW dS) (aa (pv 1) (aa (aF (r:=jL K) cW (aY (aa ak (aa ak (aa ak (aa (wL rO ak) ae))))) (pv 0) (λ_ _=>rfl)) ae)),_,rfl,⟨_,rfl,ap (show 4≤1000 by decide),λl hl=>⟨_,rfl,l,_,_,_,rfl,rfl,SqL.of ac,cV hv,h l hl⟩⟩⟩
  ·exact⟨h.1,h.2.1,nP gW _ _ _ _ hm h.2.2⟩
 intro D Hs H a l ws kv lv nv tv x1 x3 M hn hR q;refine⟨_,rfl,.inl ⟨rfl,_,SqL.of M.lst⟩,bu (fv:=[kv,tv]) (inner:=inE (br CN CF)) M.tab rfl (λH' o'=>hR H' (M.off.trans o')) O1 rfl λH1 off1 tab1=>?_⟩;have hl:=ax.ne M.tab off1 M.lst λps h=>by cases h
 exact⟨l,_,_,rfl,rfl,hl,ao (by rw[length_map];omega),q _ (M.next _ off1 tab1)⟩
theorem AB{CN CF:Addr}(hr:R7 A s f cL)(O:Tol K mg base cL PL g fC Dd fdg fdC B)(O1:One12 K B Dd 5)(CC:∀base',K.In base'→BmB base' mg→cy P w K mg base' 3 "shape" ["tree","number"] (br CN CF)):∃rd,PS (GX P w K mg base f cL A outer s H0 E) (gbS 11) rd∧∀(D:Ends)(Hs H:Hp)(a l:Addr)(ws:List Str)(kv lv nv tv:V)(x1 x3:Option V),Mid PL Hs H l ws→ws.length≤20→(∀H',ax PL Hs H'→dC (inE (br CN CF) [kv,tv]) (B 5) H') →
   (∀H',Mid PL Hs H' l (ws++([("no node":Str)]:List Str))→D.nx (gσ a x1 (some (.ref l)) x3 (some kv) (some lv) (some nv) (some tv)) H')→rd D (gσ a x1 (some (.ref l)) x3 (some kv) (some lv) (some nv) (some tv)) H:=by
 have kT:=O.FT.kp;refine⟨_,aB (cp plainAttrs_list PySem.F.slot_list_append PySem.F.type_list_append aH (pv 2) (aa (aQ (k:=7) (cl:=[("_law_tree",s.heap.objs.size+4),("_law_k",s.heap.objs.size+1)]) (fs:=["_law_k","_law_tree"]) (js:=[4,7]) (qual:=cC) (spG:=λf c fv=>ce f (gk c (inE (br CN CF) fv)) B Dd K) O.C0 rfl O.Bm rfl rfl rfl ?O ?hG hr rfl O.mT kT O.bT) ae)),?_⟩
 case O=>exact⟨rfl,λx c h=>by rcases lk2 h with⟨rfl,rfl⟩|⟨rfl,rfl⟩<;>rfl,λi j x h1 h2=>by
  match i,h1,h2 with
  |0,h1,h2=>cases h1;cases h2;exact⟨rfl,rfl,rfl,_,rfl⟩
  |1,h1,h2=>cases h1;cases h2;exact⟨rfl,rfl,rfl,_,rfl⟩
  | i+2,h1,h2=>simp at h1,λ_=>rfl⟩
 case hG =>
  intro base' f' c pm ctv fv sub ho C';obtain⟨v0,v1,rfl⟩:∃v0 v1,fv=[v0,v1]:=by
   have:=C'.len
   match fv,this with
   |[v0,v1],_=>exact⟨v0,v1,rfl⟩
  obtain⟨fN,fdN,GN',mN,kN,bN⟩:=CC base' (O.KB.keeps sub) (O.Bm.sub sub);refine cb O.FT O.L ho (ca (k:=5) (ps:=[]) (fs:=["_law_k","_law_tree"]) (fv:=[v0,v1]) ho (λvs H Q E h=>h.2.1) ⟨rfl,rfl,rfl,by decide +kernel,(λx hx=>by cases hx),nodup_nil,λx h=>?_,λx y c h1 h2=>wH (by decide) h1 h2⟩ C' (λvs H Q E h=>by obtain⟨rfl,_⟩:=h;rfl) (λA outer s H vs Q E hr h=>?_)) (.all λus hl=>match us,hl with | [],_=>rfl) (cG O.FC O.T O.L) O.mC O.FC.kp O.bC (λH Q E E' hm h=>?_)
  ·have:=(by decide +kernel:∀y∈_,y.2=NameKind.free→y.1=("_law_k":Str)∨y.1=("_law_tree":Str)) _ (PySem.mem_of_lookup h) rfl;have e:x=("_law_k":Str)∨x=("_law_tree":Str):=this;rcases e with rfl|rfl
   ·exact⟨_,rfl⟩
   ·exact⟨_,rfl⟩
  ·obtain⟨rfl,hc,k,t,n,efv,hv,h⟩:=h;have e0:v0=.int k:=by injection efv
   have e1:v1=.ref t:=by injection efv with _ h;injection h
   subst e0 e1;have hr3:Room 3 _:=hr.mono (by decide);exact⟨_,ar (E:=E) GN' hr3 rfl mN kN bN .nil (aW dS) (aa (pv 1) (aa (aF (r:=jL K) cW (aY (aa ak (aa ak (aa ak (aa (wL rO ak) ae))))) (pv 0) (λ_ _=>rfl)) ae)),_,rfl,⟨_,rfl,ap (show 4≤1000 by decide),λl hl=>⟨_,rfl,l,_,_,_,rfl,rfl,SqL.of ac,cV hv,h l hl⟩⟩⟩
  ·exact⟨h.1,h.2.1,nP gW _ _ _ _ hm h.2.2⟩
 intro D Hs H a l ws kv lv nv tv x1 x3 M hn hR q;refine⟨_,rfl,.inl ⟨rfl,_,SqL.of M.lst⟩,bu (fv:=[kv,tv]) (inner:=inE (br CN CF)) M.tab rfl (λH' o'=>hR H' (M.off.trans o')) O1 rfl λH1 off1 tab1=>?_⟩;have hl:=ax.ne M.tab off1 M.lst λps h=>by cases h
 exact⟨l,_,_,rfl,rfl,hl,ao (by rw[length_map];omega),q _ (M.next _ off1 tab1)⟩
theorem AC{CN CF:Addr}(hr:R7 A s f cL)(O:Tol K mg base cL PL g fC Dd fdg fdC B)(O1:One12 K B Dd 8)(CC:∀base',K.In base'→BmB base' mg→cy P w K mg base' 3 "total" ["tree","number"] (br CN CF)):∃rd,PS (GX P w K mg base f cL A outer s H0 E) (gbS 12) rd∧∀(D:Ends)(Hs H:Hp)(a l:Addr)(ws:List Str)(kv lv nv tv:V)(x1 x3:Option V),Mid PL Hs H l ws→ws.length≤20→(∀H',ax PL Hs H'→dC (inF (br CN CF) [tv]) (B 8) H') →
   (∀H',Mid PL Hs H' l (ws++([("not folder":Str)]:List Str))→D.nx (gσ a x1 (some (.ref l)) x3 (some kv) (some lv) (some nv) (some tv)) H')→rd D (gσ a x1 (some (.ref l)) x3 (some kv) (some lv) (some nv) (some tv)) H:=by
 have kT:=O.FT.kp;refine⟨_,aB (cp plainAttrs_list PySem.F.slot_list_append PySem.F.type_list_append aH (pv 2) (aa (aQ (k:=7) (cl:=[("_law_tree",s.heap.objs.size+4)]) (fs:=["_law_tree"]) (js:=[7]) (qual:=cC) (spG:=λf c fv=>ce f (gk c (inF (br CN CF) fv)) B Dd K) O.C0 rfl O.Bm rfl rfl rfl ?O ?hG hr rfl O.mT kT O.bT) ae)),?_⟩
 case O=>exact⟨rfl,λx c h=>by obtain⟨rfl,rfl⟩:=lk1 h;rfl,λi j x h1 h2=>by
  match i,h1,h2 with
  |0,h1,h2=>cases h1;cases h2;exact⟨rfl,rfl,rfl,_,rfl⟩
  | i+1,h1,h2=>simp at h1,λ_=>rfl⟩
 case hG =>
  intro base' f' c pm ctv fv sub ho C';obtain⟨v0,rfl⟩:∃v0,fv=[v0]:=by
   have:=C'.len
   match fv,this with
   |[v0],_=>exact⟨v0,rfl⟩
  obtain⟨fN,fdN,GN',mN,kN,bN⟩:=CC base' (O.KB.keeps sub) (O.Bm.sub sub);refine cb O.FT O.L ho (ca (k:=5) (ps:=[]) (fs:=["_law_tree"]) (fv:=[v0]) ho (λvs H Q E h=>h.2.1) ⟨rfl,rfl,rfl,by decide +kernel,(λx hx=>by cases hx),nodup_nil,λx h=>?_,λx y c h1 h2=>(lk1 h1).1.trans (lk1 h2).1.symm⟩ C' (λvs H Q E h=>by obtain⟨rfl,_⟩:=h;rfl) (λA outer s H vs Q E hr h=>?_)) (.all λus hl=>match us,hl with | [],_=>rfl) (cG O.FC O.T O.L) O.mC O.FC.kp O.bC (λH Q E E' hm h=>?_)
  ·have:=(by decide +kernel:∀y∈_,y.2=NameKind.free→y.1=("_law_tree":Str)) _ (PySem.mem_of_lookup h) rfl;have e:x=("_law_tree":Str):=this;rcases e with rfl
   exact⟨_,rfl⟩
  ·obtain⟨rfl,hc,t,efv,h⟩:=h;have e0:v0=.ref t:=by injection efv
   subst e0;have hr3:Room 3 _:=hr.mono (by decide);exact⟨_,ar (E:=E) GN' hr3 rfl mN kN bN .nil (aW dS) (aa (pv 0) (aa ak ae)),_,rfl,h⟩
  ·exact⟨h.1,h.2.1,nQ gW _ _ _ _ hm h.2.2⟩
 intro D Hs H a l ws kv lv nv tv x1 x3 M hn hR q;refine⟨_,rfl,.inl ⟨rfl,_,SqL.of M.lst⟩,bu (fv:=[tv]) (inner:=inF (br CN CF)) M.tab rfl (λH' o'=>hR H' (M.off.trans o')) O1 rfl λH1 off1 tab1=>?_⟩;have hl:=ax.ne M.tab off1 M.lst λps h=>by cases h
 exact⟨l,_,_,rfl,rfl,hl,ao (by rw[length_map];omega),q _ (M.next _ off1 tab1)⟩
theorem AD{CN CF:Addr}(hr:R7 A s f cL)(O:Tol K mg base cL PL g fC Dd fdg fdC B)(O1:One12 K B Dd 8)(CC:∀base',K.In base'→BmB base' mg→cy P w K mg base' 3 "shape" ["tree","number"] (br CN CF)):∃rd,PS (GX P w K mg base f cL A outer s H0 E) (gbS 13) rd∧∀(D:Ends)(Hs H:Hp)(a l:Addr)(ws:List Str)(kv lv nv tv:V)(x1 x3:Option V),Mid PL Hs H l ws→ws.length≤20→(∀H',ax PL Hs H'→dC (inF (br CN CF) [tv]) (B 8) H') →
   (∀H',Mid PL Hs H' l (ws++([("not folder":Str)]:List Str))→D.nx (gσ a x1 (some (.ref l)) x3 (some kv) (some lv) (some nv) (some tv)) H')→rd D (gσ a x1 (some (.ref l)) x3 (some kv) (some lv) (some nv) (some tv)) H:=by
 have kT:=O.FT.kp;refine⟨_,aB (cp plainAttrs_list PySem.F.slot_list_append PySem.F.type_list_append aH (pv 2) (aa (aQ (k:=7) (cl:=[("_law_tree",s.heap.objs.size+4)]) (fs:=["_law_tree"]) (js:=[7]) (qual:=cC) (spG:=λf c fv=>ce f (gk c (inF (br CN CF) fv)) B Dd K) O.C0 rfl O.Bm rfl rfl rfl ?O ?hG hr rfl O.mT kT O.bT) ae)),?_⟩
 case O=>exact⟨rfl,λx c h=>by obtain⟨rfl,rfl⟩:=lk1 h;rfl,λi j x h1 h2=>by
  match i,h1,h2 with
  |0,h1,h2=>cases h1;cases h2;exact⟨rfl,rfl,rfl,_,rfl⟩
  | i+1,h1,h2=>simp at h1,λ_=>rfl⟩
 case hG =>
  intro base' f' c pm ctv fv sub ho C';obtain⟨v0,rfl⟩:∃v0,fv=[v0]:=by
   have:=C'.len
   match fv,this with
   |[v0],_=>exact⟨v0,rfl⟩
  obtain⟨fN,fdN,GN',mN,kN,bN⟩:=CC base' (O.KB.keeps sub) (O.Bm.sub sub);refine cb O.FT O.L ho (ca (k:=5) (ps:=[]) (fs:=["_law_tree"]) (fv:=[v0]) ho (λvs H Q E h=>h.2.1) ⟨rfl,rfl,rfl,by decide +kernel,(λx hx=>by cases hx),nodup_nil,λx h=>?_,λx y c h1 h2=>(lk1 h1).1.trans (lk1 h2).1.symm⟩ C' (λvs H Q E h=>by obtain⟨rfl,_⟩:=h;rfl) (λA outer s H vs Q E hr h=>?_)) (.all λus hl=>match us,hl with | [],_=>rfl) (cG O.FC O.T O.L) O.mC O.FC.kp O.bC (λH Q E E' hm h=>?_)
  ·have:=(by decide +kernel:∀y∈_,y.2=NameKind.free→y.1=("_law_tree":Str)) _ (PySem.mem_of_lookup h) rfl;have e:x=("_law_tree":Str):=this;rcases e with rfl
   exact⟨_,rfl⟩
  ·obtain⟨rfl,hc,t,efv,h⟩:=h;have e0:v0=.ref t:=by injection efv
   subst e0;have hr3:Room 3 _:=hr.mono (by decide);exact⟨_,ar (E:=E) GN' hr3 rfl mN kN bN .nil (aW dS) (aa (pv 0) (aa ak ae)),_,rfl,h⟩
  ·exact⟨h.1,h.2.1,nQ gW _ _ _ _ hm h.2.2⟩
 intro D Hs H a l ws kv lv nv tv x1 x3 M hn hR q;refine⟨_,rfl,.inl ⟨rfl,_,SqL.of M.lst⟩,bu (fv:=[tv]) (inner:=inF (br CN CF)) M.tab rfl (λH' o'=>hR H' (M.off.trans o')) O1 rfl λH1 off1 tab1=>?_⟩;have hl:=ax.ne M.tab off1 M.lst λps h=>by cases h
 exact⟨l,_,_,rfl,rfl,hl,ao (by rw[length_map];omega),q _ (M.next _ off1 tab1)⟩
end
section
variable{PL C:Addr}{B:Nat→Addr}{H:Hp}{p ft t d pl al:Addr}{zf z:ZN}{g:Addr×ZN}{es:List Ent}{e:Ent}{h lt u:Addr}
theorem AE(W:Wv C H p ft t d pl al zf z g es e h lt u){nv:V}(o:Odd H nv):dC (inA C (B 9) [.ref p,nv]) (B 9) H:=λQ E q=>by
 obtain⟨dx,hp⟩:=W.L.ob;exact⟨p,nv,dx,_,rfl,hp,qr,p,nv,rfl,o,q⟩
theorem pw:cO ("two":Str)=true∧("two":Str).length≤100∧(reprText ("two":Str)).length≤300:=by
 refine⟨by decide +kernel,by decide +kernel,by decide +kernel⟩
theorem zN(W:Wv C H p ft t d pl al zf z g es e h lt u){nv:V}(o:Odd H nv){m:Str}{k:Nat}(hm:(flL ft t d pl al).lookup m=none):dC (inB C m (cR C (B 9)) [.int k,.ref p,nv]) (B 9) H:=λQ E q=>by
 obtain⟨dx,hp⟩:=W.L.ob;obtain⟨v,hv,ho⟩:∃v,[nv,.str "two"][k % 2]?=some v∧(v=nv∨v=.str "two"):=by
  have:k % 2<2:=mod_lt _ (by decide)
  match k % 2,this with
  |0,_=>exact⟨nv,rfl,.inl rfl⟩
  |1,_=>exact⟨_,rfl,.inr rfl⟩
 refine⟨k,p,nv,v,dx,_,rfl,hv,hp,hm,λl hl=>?_⟩;have s1:=af (o:=.lst [nv,.str "two"]) hl;refine⟨p,v,ft,t,d,pl,al,zf,z,_,es,[e],rfl,W.L.same s1,?_,λH2 s2=>q H2 (s1.trans s2)⟩;rcases ho with rfl|rfl
 ·exact .inl (o.same s1)
 ·exact .inr ⟨_,rfl,pw.1,pw.2.1,pw.2.2,by
   show("two":Str)∉[("one":Str)]
   decide +kernel⟩
theorem xf(W:Wv C H p ft t d pl al zf z g es e h lt u){dd:TW.Deed Str}{wd:TW.Wd}(hd:dq dd)(told:TW.Told t1 dd (.inl wd)){H':Hp}{o:Addr}(s:Same H H')(ho:H' o=some (.tup (gI dd))){Q:VK}{E:XK}(q:∀H2,Same H H2→E (.ref (B (eI wd))) none H2):cT C (wI B) [.ref p,.ref o] H' Q E:=by
 have one:∀r,TW.Told (nds z) dd r→r=.inl wd:=λr h=>by rw[W.n1]at h;exact h.one qq told
 refine⟨p,ft,t,d,pl,al,zf,z,_,es,[e],o,dd,rfl,W.L.same s,pq W.n1 29 (by decide),ho,hd,by rw[W.l2];decide,λt' us q' al' H2 _ td=>?_,λwd' H2 s2 td=>?_⟩
 ·exact absurd (one _ td) (by intro h;cases h)
 ·have:wd'=wd:=Sum.inl.inj (one _ td);subst this;exact q H2 (s.trans s2)
theorem uP(W:Wv C H p ft t d pl al zf z g es e h lt u){dd:TW.Deed Str}{wd:TW.Wd}(hd:dq dd)(told:TW.Told t1 dd (.inl wd)):dC (inC C (wI B) (gI dd) [.ref p]) (B (eI wd)) H:=λQ E q=>by
 obtain⟨dx,hp⟩:=W.L.ob;exact⟨p,dx,_,rfl,hp,lJ,λo ho=>xf W hd told (af ho) ac q⟩
theorem AF(W:Wv C H p ft t d pl al zf z g es e h lt u){k:Nat}:dC (inD C (wI B) [.int k,.ref p]) (B 7) H:=λQ E q=>by
 obtain⟨dx,hp⟩:=W.L.ob;obtain⟨n,hv,hn⟩:∃n:Int,[V.int 1,.int 3][k % 2]?=some (.int n)∧(n=1∨n=3):=by
  have:k % 2<2:=mod_lt _ (by decide)
  match k % 2,this with
  |0,_=>exact⟨1,rfl,.inl rfl⟩
  |1,_=>exact⟨3,rfl,.inr rfl⟩
 have hd:dq (.write n 4):=by rcases hn with rfl|rfl<;>exact⟨by decide,by decide⟩
 exact⟨k,p,n,dx,_,rfl,hv,hp,lJ,λl hl o ho=>xf (dd:=.write n 4) W hd (uA hn) ((af hl).trans (af ho)) ac q⟩
theorem yM{z:ZN}(h:nds z=t0){y:Addr×Nd}(hy:y∈z):y.2.num=1∨y.2.num=2∨y.2.num=3:=by
 have:=bO hy;rw[h]at this;unfold t0 at this;simp only[mem_cons,not_mem_nil,or_false]at this;rcases this with e|e|e<;>rw[e]
 ·exact .inl rfl
 ·exact .inr (.inl rfl)
 ·exact .inr (.inr rfl)
theorem zO(W:Wv C H p ft t d pl al zf z g es e h lt u){k:Nat}(hk:k<4):dC (inE (br (B 5) (B 8)) [.int k,.ref ft]) (B 5) H:=λQ E q=>by
 obtain⟨n,hv,hn⟩:∃n:Int,[V.int 9,.int 4,.int 55,.int (-1)][k]?=some (.int n)∧(n=9∨n=4∨n=55∨n=-1):=by
  match k,hk with
  |0,_=>exact⟨9,rfl,.inl rfl⟩
  |1,_=>exact⟨4,rfl,.inr (.inl rfl)⟩
  |2,_=>exact⟨55,rfl,.inr (.inr (.inl rfl))⟩
  |3,_=>exact⟨-1,rfl,.inr (.inr (.inr rfl))⟩
 refine⟨k,ft,n,rfl,hv,λl hl=>?_⟩;have s1:=af (o:=.lst [.int 9,.int 4,.int 55,.int (-1)]) hl;exact⟨ft,n,zf,rfl,W.L.tf.same s1,by omega,by omega,by omega,.inl ⟨λy hy=>by have:=yM W.n0 hy;omega,λH2 s2=>q H2 (s1.trans s2)⟩⟩
theorem zP(W:Wv C H p ft t d pl al zf z g es e h lt u):dC (inF (br (B 5) (B 8)) [.ref ft]) (B 8) H:=λQ E q=>by
 have h2:(⟨2,1,"b",some 5⟩:Nd)∈nds zf:=by rw[W.n0];unfold t0;simp
 obtain⟨y,hy,ey⟩:=jp h2;exact⟨ft,rfl,ft,2,zf,rfl,W.L.tf,by decide,by decide,by decide,.inr ⟨⟨y,hy,by rw[ey],by rw[ey];simp⟩,q⟩⟩
end
abbrev vN(c:Addr):List V:=[.non,.str "",.str "A",.str "abcdef",.int 5,.ref c,.str "a b",.str "a1"]
theorem yN{c:Addr}{H:Hp}(hc:H c=some (.tup [.str "a"])){i:Nat}(hi:i<8):∃v,(vN c)[i]?=some v∧Odd H v:=by
 match i,hi with
 |0,_=>exact⟨_,rfl,.inl rfl⟩
 |1,_=>exact⟨_,rfl,.inr (.inr (.inl ⟨_,rfl,by decide +kernel,by decide +kernel,by decide +kernel⟩))⟩
 |2,_=>exact⟨_,rfl,.inr (.inr (.inl ⟨_,rfl,by decide +kernel,by decide +kernel,by decide +kernel⟩))⟩
 |3,_=>exact⟨_,rfl,.inr (.inr (.inl ⟨_,rfl,by decide +kernel,by decide +kernel,by decide +kernel⟩))⟩
 |4,_=>exact⟨_,rfl,.inr (.inl rfl)⟩
 |5,_=>exact⟨_,rfl,.inr (.inr (.inr ⟨c,rfl,hc⟩))⟩
 |6,_=>exact⟨_,rfl,.inr (.inr (.inl ⟨_,rfl,by decide +kernel,by decide +kernel,by decide +kernel⟩))⟩
 |7,_=>exact⟨_,rfl,.inr (.inr (.inl ⟨_,rfl,by decide +kernel,by decide +kernel,by decide +kernel⟩))⟩
abbrev D5:List V:=[.str "known",.str "not file",.str "inside",.str "taken",.str "not folder"]
abbrev W3:List V:=(replicate (toNat 3) [V.str "no tag"]).flatten
abbrev D8:List V:=W3++D5
abbrev N3:List V:=(replicate (toNat 3) [V.str "no node"]).flatten
abbrev F2:List V:=(replicate (toNat 2) [V.str "not folder"]).flatten
section
variable{P:Program}{w:World}{K:PySem.W.Frag}{mg:Str→Option Value}{base:Heap}{f cL PL:Addr}{A:Around}{outer:List Env}{s:Shared}{H0:Hp}{E:XK}
theorem gb0(hr:R7 A s f cL)(CP:Has P w K mg base 2 "_law_pick" ["_law_script","_law_k","_law_many"] (gh K)):
  ∃rd,PS (GX P w K mg base f cL A outer s H0 E) (gbS 0) rd∧∀(D:Ends)(H:Hp)(a:Addr)(k:Nat)(x1 x2 x3 x5 x6 x7:Option V),fo K H a →
   (∀v H',Same H H'→Odd H' v→D.nx (gσ a x1 x2 x3 (some (.int k)) x5 (some v) x7) H')→rd D (gσ a x1 x2 x3 (some (.int k)) x5 x6 x7) H:=by
 obtain⟨fP,fdP,GP,mP,kP,bP⟩:=CP;have hr2:Room 2 _:=hr.mono (by decide);refine⟨_,aM (i:=6) scG.nd rfl (Or.inr rfl) (aF cW (aY (aa dU (aa au (aa au (aa au (aa ak (cD (aK (aa au ae)) (aa au (aa au ae))))))))) (bd eK (bd iQ (ar GP hr2 rfl mP kP bP .nil aU (aa (pv 0) (aa ak (aa ak ae)))) (bd iR ak (pv 4))) ak) (λ_ _=>rfl)),?_⟩;intro D H a k x1 x2 x3 x5 x6 x7 hS q;refine⟨ap (show 1≤1000 by decide),λc hc=>?_⟩;have s0:=af (o:=.tup [.str "a"]) hc;have g0:upd H c (.tup [.str "a"]) c=some (.tup [.str "a"]):=ac;generalize upd H c (.tup [.str "a"])=H0' at s0 g0⊢;refine⟨ap (show 8≤1000 by decide),λl hl=>?_⟩;have s1:=af (o:=.lst (vN c)) hl;have g1:upd H0' l (.lst (vN c)) l=some (.lst (vN c)):=ac;generalize upd H0' l (.lst (vN c))=H1 at s1 g1⊢;refine⟨_,rfl,a,_,_,rfl,by decide,by decide,(hS.same s0).same s1,λr H2 r0 r1 s2=>?_⟩;refine⟨_,rfl,_,_,rfl,rfl,.inl ⟨by decide,by decide⟩,_,_,rfl,rfl,_,_,rfl,rfl,(show(0:Int)<8 by decide),?_⟩;obtain⟨i,hi,hi8⟩:∃i:Nat,(r+3*(k:Int)) % 8=i∧i<8:=⟨((r+3*(k:Int)) % 8).toNat,by omega,by omega⟩;show jL K (V.ref l) (V.int ((r+3*(k:Int)) % 8)) H2 _;rw[hi];obtain⟨v,hv,ho⟩:=yN (s2 _ _ (s1 _ _ g0)) hi8;exact⟨l,_,_,_,rfl,rfl,SqL.of (s2 _ _ g1),cV hv,q v H2 ((s0.trans s1).trans s2) ho⟩
theorem AG(hr:R7 A s f cL):∃rd,PS (GX P w K mg base f cL A outer s H0 E) (gbS 14) rd∧∀(D:Ends)(H:Hp)(a:Addr)(x1 x2 x3 x4 x5 x6 x7:Option V),
   (∀l H',Same H H'→H' l=some (.lst D8)→D.nx (gσ a x1 x2 (some (.ref l)) x4 x5 x6 x7) H')→rd D (gσ a x1 x2 x3 x4 x5 x6 x7) H:=by
 refine⟨_,aM (i:=3) scG.nd rfl (Or.inl rfl) (bd fH (bd oz (aY (aa au ae)) ak) (aY (aa au (aa au (aa au (aa au (aa au ae))))))),?_⟩;intro D H a x1 x2 x3 x4 x5 x6 x7 q;refine⟨(show 1≤sizeLine from ap (by decide)),λl1 h1=>?_⟩;have s1:=af (o:=.lst [.str "no tag"]) h1;have g1:upd H l1 (.lst [.str "no tag"]) l1=some (.lst [.str "no tag"]):=ac;generalize upd H l1 (.lst [.str "no tag"])=H1 at s1 g1⊢;refine⟨l1,_,_,rfl,rfl,g1,by decide,by decide,ap (show _≤1000 by decide),λl2 h2=>?_⟩;have s2:=s1.trans (af (o:=.lst W3) h2);have g2:upd H1 l2 (.lst W3) l2=some (.lst W3):=ac;refine⟨ap (show 5≤1000 by decide),λl3 h3=>?_⟩;have s3:=s2.trans (af (o:=.lst D5) h3);refine⟨l2,l3,W3,D5,rfl,rfl,bh h3 g2,ac,ap (show 8≤1000 by decide),λl4 h4=>?_⟩;exact q l4 _ (s3.trans (af h4)) ac
theorem AH(hr:R7 A s f cL):∃rd,PS (GX P w K mg base f cL A outer s H0 E) (gbS 15) rd∧∀(D:Ends)(H:Hp)(a l l8:Addr)(x1 x4 x5 x6 x7:Option V),H l=some (.lst (D8++N3++F2))→H l8=some (.lst D8) →
   (∀H',Same H H'→D.nx (gσ a x1 (some (.ref l)) (some (.ref l8)) x4 x5 x6 x7) H')→rd D (gσ a x1 (some (.ref l)) (some (.ref l8)) x4 x5 x6 x7) H:=by
 refine⟨_,bw (aL (sQ (jo hr)) (pv 2) (bd fH (bd fH (pv 3) (bd oz (aY (aa au ae)) ak)) (bd oz (aY (aa au ae)) ak)) (aS _)) (am (ay ir)) aJ,?_⟩;intro D H a l l8 x1 x4 x5 x6 x7 hl h8 q;refine⟨_,rfl,_,rfl,(show 1≤sizeLine from ap (by decide)),λl1 h1=>?_⟩;have s1:=af (o:=.lst [.str "no node"]) h1;have g1:upd H l1 (.lst [.str "no node"]) l1=some (.lst [.str "no node"]):=ac;generalize upd H l1 (.lst [.str "no node"])=H1 at s1 g1⊢;refine⟨l1,_,_,rfl,rfl,g1,by decide,by decide,ap (show _≤1000 by decide),λl2 h2=>?_⟩;have s2:=s1.trans (af (o:=.lst N3) h2);have g2:upd H1 l2 (.lst N3) l2=some (.lst N3):=ac;refine⟨l8,l2,D8,N3,rfl,rfl,s2 _ _ h8,g2,ap (show 11≤1000 by decide),λl3 h3=>?_⟩;have s3:=s2.trans (af (o:=.lst (D8++N3)) h3);have g3:upd (upd H1 l2 (.lst N3)) l3 (.lst (D8++N3)) l3=some (.lst (D8++N3)):=ac;generalize upd (upd H1 l2 (.lst N3)) l3 (.lst (D8++N3))=H3 at s3 g3⊢;refine⟨(show 1≤sizeLine from ap (by decide)),λl4 h4=>?_⟩;have s4:=s3.trans (af (o:=.lst [.str "not folder"]) h4);have g4:upd H3 l4 (.lst [.str "not folder"]) l4=some (.lst [.str "not folder"]):=ac;have g34:=bh (o:=.lst [.str "not folder"]) h4 g3;generalize upd H3 l4 (.lst [.str "not folder"])=H4 at s4 g4 g34⊢;refine⟨l4,_,_,rfl,rfl,g4,by decide,by decide,ap (show _≤1000 by decide),λl5 h5=>?_⟩;have s5:=s4.trans (af (o:=.lst F2) h5);have g5:upd H4 l5 (.lst F2) l5=some (.lst F2):=ac;refine⟨l3,l5,D8++N3,F2,rfl,rfl,bh h5 g34,g5,ap (show 13≤1000 by decide),λl6 h6=>?_⟩;have s6:=s5.trans (af (o:=.lst (D8++N3++F2)) h6);refine .inr ⟨l,l6,D8++N3++F2,D8++N3++F2,rfl,rfl,jB (by decide +kernel),.inl ⟨s6 _ _ hl,ac⟩,_,rfl,bv (q _ s6)⟩
end
abbrev wJ:TE:=iD (aE (iD (aE (tC (.int 2)) (aE (n3 1 "b" (.int 5)) (aE (n3 1 "b" (.int 6)) dF)))) (aE (iD (aE (tC (.int 3)) (aE (n3 0 "c" .non) (aE (tC .non) dF)))) dF))
theorem AI:∃p1 p18 e,(∀X,PE X e wJ)∧(∀x l env,swapsWith e x l env=pure false)∧gS 9=.Assign [.Name "_law_due" p1] e p18:=⟨_,_,_,λX=>zL (zJ uM uM) (zK yL),λ_ _ _=>uK,rfl⟩
def kQ(H:Hp)(c:Addr):Prop:=∃es:ZR,ChgAt H c es∧dP es=r87
theorem kQ.same{H H':Hp}{c:Addr}(h:kQ H c)(s:Same H H'):kQ H' c:=let⟨es,a,b⟩:=h;⟨es,a.same s,b⟩
theorem nT{H:Hp}{t:Addr}{z:ZN}(T:Tre H t z):jA H 3 (.ref t) (.ref t):=.inr ⟨t,t,be z,be z,rfl,rfl,.inl ⟨T.tup,T.tup⟩,rfl,λi x y hx hy=>by
 rw[hx]at hy;cases hy;rw[←eS,getElem?_map]at hx;cases hz:z[i]? with
 |none=>rw[hz]at hx;cases hx
 |some y =>
  rw[hz]at hx;cases hx;exact .inr ⟨y.1,y.1,vals y.2,vals y.2,rfl,rfl,.inl ⟨T.nod y (mem_of_getElem? hz),T.nod y (mem_of_getElem? hz)⟩,rfl,λi x y' hx hy=>by
   rw[hx]at hy;cases hy;refine nD ⟨rfl,?_⟩;have:(vals y.2).all cn=true:=by unfold vals;cases y.2.st<;>rfl
   exact all_eq_true.mp this _ (mem_of_getElem? hx)⟩⟩
theorem nU{H:Hp}{t l1 l2 u1 u2:Addr}{z:ZN}(T:Tre H t z)(h1:H l1=some (.lst [.str "one"]))(h2:H l2=some (.lst [.str "one"]))(h3:H u1=some (.tup [.int 2,.int 1]))(h4:H u2=some (.tup [.int 2,.int 1])):kH H [.ref t,.ref l1,.ref u1] [.ref t,.ref l2,.ref u2]:=by
 refine⟨rfl,λi x y hx hy=>?_⟩
 match i,hx,hy with
 |0,hx,hy=>cases hx;cases hy;exact nT T
 |1,hx,hy =>
  cases hx;cases hy;exact .inr ⟨l1,l2,_,_,rfl,rfl,.inr ⟨h1,h2⟩,rfl,λi x y hx hy=>by
   match i,hx,hy with
   |0,hx,hy=>cases hx;cases hy;exact .inl ⟨rfl,rfl⟩
   | i+1,hx,hy=>simp at hx⟩
 |2,hx,hy =>
  cases hx;cases hy;exact .inr ⟨u1,u2,_,_,rfl,rfl,.inl ⟨h3,h4⟩,rfl,λi x y hx hy=>by
   match i,hx,hy with
   |0,hx,hy=>cases hx;cases hy;exact .inl ⟨rfl,rfl⟩
   |1,hx,hy=>cases hx;cases hy;exact .inl ⟨rfl,rfl⟩
   | i+2,hx,hy=>simp at hx⟩
 |i+3,hx,hy=>simp at hx
section
variable{P:Program}{w:World}{K:PySem.W.Frag}{mg:Str→Option Value}{base:Heap}{f cL PL:Addr}{A:Around}{outer:List Env}{s:Shared}{H0:Hp}{E:XK}
theorem g8{C CB fN fT fS fF:Addr}{fdN fdT fdS fdF:FuncData}(hr:R7 A s f cL)(T:LCls K mg C)(MN:Meth K C "now" fN)(GN':FnOk P w K mg base CX0 1 fN fdN ["self"] (ip C))(bN:aq K fdN ["self"] [])(MT:Meth K C "tags" fT)(GT:FnOk P w K mg base CX0 1 fT fdT ["self"] (ff C))(bT:aq K fdT ["self"] [])(MS:Meth K C "sizes" fS)(GS:FnOk P w K mg base CX0 1 fS fdS ["self"] (iq C))(bS:aq K fdS ["self"] [])(MF:Meth K C "forth" fF)(GF:FnOk P w K mg base (CX1 P w) 2 fF fdF ["self"] (nH C CB))(bF:aq K fdF ["self"] []):
  ∃rd,PS (GX P w K mg base f cL A outer s H0 E) (gS 8) rd∧∀(D:Ends)(H:Hp)(a p ft t d pl al:Addr)(zf z:ZN)(g:Addr×ZN)(es:List Ent)(e:Ent)(h lt u:Addr)(x2 x3 x4 x6 x7:Option V),Wv C H p ft t d pl al zf z g es e h lt u →
   (∀t' d' es' as' z' H',LAt C H' p ft t' d' pl al zf z' [(("one":Str),g)] es' as'→nds z'=t2→nds g.2=t0→nds zf=t0→D.nx (gσ a (some (.ref h)) x2 x3 x4 (some (.ref p)) x6 x7) H')→rd D (gσ a (some (.ref h)) x2 x3 x4 (some (.ref p)) x6 x7) H:=by
 have hr1:Room 1 _:=hr.mono (by decide);have hr2:Room 2 _:=hr.mono (by decide);refine⟨_,bw (PW.pt (pw_or (aL (wG (jo hr)) (aK (aa (cu (pv 5) T.cl MN GN' hr1 bN .nil aU) (aa (cu (pv 5) T.cl MT GT hr1 bT .nil aU) (aa (cu (pv 5) T.cl MS GS hr1 bS .nil aU) ae)))) (pv 1) (aS _)) (pw_or (aL (sQ (jo hr)) (aF aD (pv 1) ak (λ_ _=>rfl)) (aK (aa ak (aa ak ae))) (aS _)) (pw_or1 (aL iS (cu (pv 5) T.cl MF GF hr2 bF .nil mG) au (aS _)))))) (am (ay ir)) aJ,?_⟩;intro D H a p ft t d pl al zf z g es e h lt u x2 x3 x4 x6 x7 W q;have L:=W.L;obtain⟨dx,hp⟩:=L.ob;refine⟨_,rfl,p,dx,_,rfl,hp,qt,p,ft,t,d,pl,al,zf,z,_,es,[e],rfl,L,?_⟩;refine⟨_,rfl,p,dx,_,rfl,hp,nS,p,ft,t,d,pl,al,zf,z,_,es,[e],rfl,L,λms hm hr' l2 hl2=>?_⟩;have em:ms=([("one":Str)]:List Str):=List.perm_singleton.mp hm;subst em;have s1:=af (o:=.lst (([("one":Str)]:List Str).map V.str)) hl2;have k1:upd H l2 (.lst (([("one":Str)]:List Str).map V.str)) l2=some (.lst [.str "one"]):=ac;generalize upd H l2 (.lst (([("one":Str)]:List Str).map V.str))=H1 at s1 k1⊢;refine⟨_,rfl,p,dx,_,rfl,s1 _ _ hp,kO,p,ft,t,d,pl,al,zf,z,_,es,[e],rfl,L.same s1,λu2 hu2=>?_⟩;have s2:=af (o:=.tup [.int (es.length:Int),.int (([e]:List Ent).length:Int)]) hu2;have k2:upd H1 u2 (.tup [.int (es.length:Int),.int (([e]:List Ent).length:Int)]) u2=some (.tup [.int 2,.int 1]):=by rw[ac,W.l2];rfl
 generalize upd H1 u2 (.tup [.int (es.length:Int),.int (([e]:List Ent).length:Int)])=H2 at s2 k2⊢;refine⟨ap (show 3≤1000 by decide),λh2 hh2=>?_⟩;have s3:=af (o:=.tup [.ref t,.ref l2,.ref u2]) hh2;have k3:upd H2 h2 (.tup [.ref t,.ref l2,.ref u2]) h2=some (.tup [.ref t,.ref l2,.ref u2]):=ac;generalize upd H2 h2 (.tup [.ref t,.ref l2,.ref u2])=H3 at s3 k3⊢;have s13:=(s1.trans s2).trans s3;refine⟨_,rfl,h2,h,_,_,rfl,rfl,nU (L.tr.same s13) (s3 _ _ (s2 _ _ k1)) (s13 _ _ W.hl) (s3 _ _ k2) (s13 _ _ W.hu),k3,s13 _ _ W.hh,_,rfl,bv ?_⟩;refine⟨_,rfl,h,_,_,_,rfl,rfl,SqT.of (s13 _ _ W.hh),rfl,le2,λc hc=>?_⟩;have s4:=af (o:=.tup [.int 2,.int 1]) hc;have k4:upd H3 c (.tup [.int 2,.int 1]) c=some (.tup [.int 2,.int 1]):=ac;generalize upd H3 c (.tup [.int 2,.int 1])=H4 at s4 k4⊢;have s14:=s13.trans s4;refine .inr ⟨u,c,[.int 2,.int 1],[.int 2,.int 1],rfl,rfl,jB (by decide +kernel),.inr ⟨s14 _ _ W.hu,k4⟩,_,rfl,bv ?_⟩;refine⟨_,rfl,p,dx,_,rfl,s14 _ _ hp,rD,p,ft,t,d,pl,al,zf,z,_,es,[e],rfl,L.same s14,λe' he=>?_,by rw[W.l2];decide,λes' e' y q' H5 he hy L5 k o=>?_,λh=>by cases h⟩
 ·have:e'=e:=mem_singleton.mp he;subst this;exact⟨_,W.ex⟩
 ·obtain⟨e4,e5⟩:=nR (l:=[]) (a:=e) he;subst e4 e5;have ey:y=.str "drop":=by rw[W.ex]at hy;exact(Option.some.inj hy).symm
  subst ey;rw[W.eg]at L5;exact⟨rfl,_,rfl,bv (q _ _ _ _ _ H5 L5 W.ez W.ng W.n0)⟩
theorem g9x:PS (GX P w K mg base f cL A outer s H0 E) (gS 9) (nV wJ (cm 3)):=by
 obtain⟨p1,p18,e,h1,h2,h⟩:=AI;rw[h];exact aM (i:=3) scG.nd rfl (Or.inl rfl) (h1 _) (h2 _ _ _)
theorem g9y:∀(D:Ends)(H:Hp)(a:Addr)(x1 x2 x3 x4 x5 x6 x7:Option V),
   (∀c H',Same H H'→kQ H' c→D.nx (gσ a x1 x2 (some (.ref c)) x4 x5 x6 x7) H')→nV wJ (cm 3) D (gσ a x1 x2 x3 x4 x5 x6 x7) H:=by
 intro D H a x1 x2 x3 x4 x5 x6 x7 q;have l3:3≤sizeLine:=ap (by decide);refine⟨l3,λc1 h1=>?_⟩;have u1:=af (o:=.tup [.int 1,.str "b",.int 5]) h1;have k1:upd H c1 (.tup [.int 1,.str "b",.int 5]) c1=some (.tup [.int 1,.str "b",.int 5]):=ac;generalize upd H c1 (.tup [.int 1,.str "b",.int 5])=H1 at u1 k1⊢;refine⟨l3,λc2 h2=>?_⟩;have u2:=af (o:=.tup [.int 1,.str "b",.int 6]) h2;have k2:upd H1 c2 (.tup [.int 1,.str "b",.int 6]) c2=some (.tup [.int 1,.str "b",.int 6]):=ac;generalize upd H1 c2 (.tup [.int 1,.str "b",.int 6])=H2 at u2 k2⊢;refine⟨l3,λc3 h3=>?_⟩;have u3:=af (o:=.tup [.int 2,.ref c1,.ref c2]) h3;have k3:upd H2 c3 (.tup [.int 2,.ref c1,.ref c2]) c3=some (.tup [.int 2,.ref c1,.ref c2]):=ac;generalize upd H2 c3 (.tup [.int 2,.ref c1,.ref c2])=H3 at u3 k3⊢;refine⟨l3,λc4 h4=>?_⟩;have u4:=af (o:=.tup [.int 0,.str "c",.non]) h4;have k4:upd H3 c4 (.tup [.int 0,.str "c",.non]) c4=some (.tup [.int 0,.str "c",.non]):=ac;generalize upd H3 c4 (.tup [.int 0,.str "c",.non])=H4 at u4 k4⊢;refine⟨l3,λc5 h5=>?_⟩;have u5:=af (o:=.tup [.int 3,.ref c4,.non]) h5;have k5:upd H4 c5 (.tup [.int 3,.ref c4,.non]) c5=some (.tup [.int 3,.ref c4,.non]):=ac;generalize upd H4 c5 (.tup [.int 3,.ref c4,.non])=H5 at u5 k5⊢;refine⟨le2,λc6 h6=>?_⟩;have u6:=af (o:=.tup [.ref c3,.ref c5]) h6;have k6:upd H5 c6 (.tup [.ref c3,.ref c5]) c6=some (.tup [.ref c3,.ref c5]):=ac;generalize upd H5 c6 (.tup [.ref c3,.ref c5])=H6 at u6 k6⊢;refine q c6 H6 (((((u1.trans u2).trans u3).trans u4).trans u5).trans u6) ⟨[(c3,⟨2,some ⟨2,1,"b",some 5⟩,some ⟨2,1,"b",some 6⟩⟩),(c5,⟨3,some ⟨3,0,"c",none⟩,none⟩)],⟨k6,λy hy=>?_,(show 2≤60 by decide)⟩,rfl⟩;rcases mem_cons.mp hy with e|hy
 ·subst e;exact⟨⟨.ref c1,.ref c2,u6 _ _ (u5 _ _ (u4 _ _ k3)),.inr ⟨c1,⟨2,1,"b",some 5⟩,rfl,u6 _ _ (u5 _ _ (u4 _ _ (u3 _ _ (u2 _ _ k1)))),rfl⟩,.inr ⟨c2,⟨2,1,"b",some 6⟩,rfl,u6 _ _ (u5 _ _ (u4 _ _ (u3 _ _ k2))),rfl⟩⟩,⟨λn h=>by cases h;rfl,λn h=>by cases h;rfl⟩⟩
 ·rcases mem_cons.mp hy with e|hy
  ·subst e;exact⟨⟨.ref c4,.non,u6 _ _ k5,.inr ⟨c4,⟨3,0,"c",none⟩,rfl,u6 _ _ (u5 _ _ k4),rfl⟩,.inl ⟨rfl,rfl⟩⟩,⟨λn h=>by cases h;rfl,λn h=>by cases h⟩⟩
  ·cases hy
theorem g9(hr:R7 A s f cL):∃rd,PS (GX P w K mg base f cL A outer s H0 E) (gS 9) rd∧∀(D:Ends)(H:Hp)(a:Addr)(x1 x2 x3 x4 x5 x6 x7:Option V),
   (∀c H',Same H H'→kQ H' c→D.nx (gσ a x1 x2 (some (.ref c)) x4 x5 x6 x7) H')→rd D (gσ a x1 x2 x3 x4 x5 x6 x7) H:=⟨nV wJ (cm 3),@g9x P w K mg base f cL A outer s H0 E,g9y⟩
theorem g10{C fT fB:Addr}{fdT fdB:FuncData}(hr:R7 A s f cL)(T:LCls K mg C)(MT:Meth K C "from_tag" fT)(GT:FnOk P w K mg base CX0 3 fT fdT ["self","name"] (nK C))(bT:aq K fdT ["self","name"] [])(MB:Meth K C "base" fB)(GB:FnOk P w K mg base CX0 1 fB fdB ["self"] (jJ C))(bB:aq K fdB ["self"] []):
  ∃rd,PS (GX P w K mg base f cL A outer s H0 E) (gS 10) rd∧∀(D:Ends)(H:Hp)(a p ft t d pl al c:Addr)(zf z:ZN)(g:Addr×ZN)(es as:List Ent)(x1 x2 x4 x6:Option V),LAt C H p ft t d pl al zf z [(("one":Str),g)] es as→nds z=t2→nds g.2=t0→kQ H c →
   (∀H',D.rt (.bl true) H')→rd D (gσ a x1 x2 (some (.ref c)) x4 (some (.ref p)) x6 (some (.ref ft))) H:=by
 have hr1:Room 1 _:=hr.mono (by decide);have hr3:Room 3 _:=hr.mono (by decide);refine⟨_,ay (xo (kZ (sU (jo hr)) (ba (pv 5) T.cl MT GT hr3 bT .nil aU (aa au ae)) (pv 3) (aS _)) (xn (kZ (sU (jo hr)) (cu (pv 5) T.cl MB GB hr1 bB .nil aU) (pv 7) (aS _)))),?_⟩;intro D H a p ft t d pl al c zf z g es as x1 x2 x4 x6 L hz hg hd q;obtain⟨dx,hp⟩:=L.ob;refine⟨_,rfl,p,dx,_,rfl,hp,gX,p,ft,t,d,pl,al,zf,z,_,es,as,(("one":Str),g),rfl,L,(show("one":Str).length≤100 by decide +kernel),(show cO ("one":Str)=true by decide +kernel),mem_cons_self,λc2 rs H1 s1 hc2 hch=>?_⟩;obtain⟨fs,hc,er⟩:=hd.same s1;have e2:dP rs=dP fs:=by
  rw[er];have h':TW.Chg t0 t2 (dP rs):=by rw[←hg,←hz];exact hch
  exact h'.uniq yE
 refine⟨_,rfl,.inr ⟨c2,c,gP rs,gP fs,rfl,rfl,oQ e2 hc2.at' hc.at',.inr ⟨hc2.tup,hc.tup⟩,true,rfl,?_⟩⟩;have L1:=L.same s1;refine⟨_,rfl,p,dx,_,rfl,s1 _ _ hp,uO,p,ft,t,d,pl,al,zf,z,_,es,as,rfl,L1,?_⟩;exact⟨_,rfl,.inr ⟨ft,ft,be zf,be zf,rfl,rfl,nw rfl L1.tf.nod L1.tf.nod,.inr ⟨L1.tf.tup,L1.tf.tup⟩,q _⟩⟩
end
structure Cals(P:Program)(w:World)(K:PySem.W.Frag)(mg:Str→Option Value)(base:Heap)(C fTg fDo fTd fFt:Addr)(fdTg fdDo fdTd fdFt:FuncData)(B:Nat→Addr):Prop where
 tgO:FnOk P w K mg base (CX1 P w) 2 fTg fdTg ["self","name"] (fi (B 9))
 tdO:FnOk P w K mg base (CX1 P w) 2 fTd fdTd ["self","name"] (cR C (B 9))
 ftO:FnOk P w K mg base (CX1 P w) 3 fFt fdFt ["self","name"] (eW C (B 9))
 dO:FnOk P w K mg base (CX1 P w) 5 fDo fdDo ["self","deed"] (cT C (wI B))
 tot:cy P w K mg base 3 "total" ["tree","number"] (br (B 5) (B 8))
 shp:cy P w K mg base 3 "shape" ["tree","number"] (br (B 5) (B 8))
section
variable{P:Program}{w:World}{K:PySem.W.Frag}{mg:Str→Option Value}{base:Heap}{f cL PL g fC Dd C fTg fDo fTd fFt:Addr}{fd fdg fdC fdTg fdDo fdTd fdFt:FuncData}{B:Nat→Addr}{A:Around}{outer:List Env}{s:Shared}{H0:Hp}{E:XK}
theorem yO(hr:R7 A s f cL)(O:Tol K mg base cL PL g fC Dd fdg fdC B)(Os:∀i,i∈[0,1,5,7,8,9,11]→One12 K B Dd i)(T:LCls K mg C)(MTg:Meth K C "tag" fTg)(bTg:aq K fdTg ["self","name"] [])(MDo:Meth K C "do" fDo)(bDo:aq K fdDo ["self","deed"] [])(MTd:Meth K C "tagged" fTd)(bTd:aq K fdTd ["self","name"] [])(MFt:Meth K C "from_tag" fFt)(bFt:aq K fdFt ["self","name"] [])(CP:Has P w K mg base 2 "_law_pick" ["_law_script","_law_k","_law_many"] (gh K))(CA:∀base',K.In base'→BmB base' mg→Cals P w K mg base' C fTg fDo fTd fFt fdTg fdDo fdTd fdFt B):
  ∃rd,PSs (GX P w K mg base f cL A outer s H0 E) [gbS 0,gbS 1,gbS 2,gbS 3,gbS 4,gbS 5,gbS 6,gbS 7,gbS 8,gbS 9,gbS 10,gbS 11,gbS 12,gbS 13,gbS 14,gbS 15] rd∧∀(D:Ends)(H:Hp)(a p ft t d pl al:Addr)(zf z:ZN)(gg:Addr×ZN)(es:List Ent)(e:Ent)(h lt u:Addr)(k:Nat)(x2 x3 x6:Option V),k<4→fo K H a→Wv C H p ft t d pl al zf z gg es e h lt u→cg H PL cC →
   (∀y2 y3 y6 H',ax PL H H'→cg H' PL cC→D.nx (gσ a (some (.ref h)) y2 y3 (some (.int k)) (some (.ref p)) y6 (some (.ref ft))) H')→rd D (gσ a (some (.ref h)) x2 x3 (some (.int k)) (some (.ref p)) x6 (some (.ref ft))) H:=by
 have O9:=Os 9 (by decide);have O5:=Os 5 (by decide);have O8:=Os 8 (by decide);obtain⟨r0,p0,h0⟩:=gb0 (outer:=outer) (H0:=H0) (E:=E) (cL:=cL) hr CP;obtain⟨r1,p1,h1⟩:=gb1 (outer:=outer) (H0:=H0) (E:=E) hr O O9 T MTg bTg λb k m=>(CA b k m).tgO;obtain⟨r2,p2,h2⟩:=gb2 (outer:=outer) (H0:=H0) (E:=E) hr O O9 T MTd bTd λb k m=>(CA b k m).tdO;obtain⟨r3,p3,h3⟩:=gb3 (outer:=outer) (H0:=H0) (E:=E) hr O O9 T MFt bFt λb k m=>(CA b k m).ftO;obtain⟨r4,p4,h4⟩:=gb4 (outer:=outer) (H0:=H0) (E:=E) hr O (Os 1 (by decide)) T MDo bDo λb k m=>(CA b k m).dO;obtain⟨r5,p5,h5⟩:=gb5 (outer:=outer) (H0:=H0) (E:=E) hr O (Os 7 (by decide)) T MDo bDo λb k m=>(CA b k m).dO;obtain⟨r6,p6,h6⟩:=gb6 (outer:=outer) (H0:=H0) (E:=E) hr O (Os 0 (by decide)) T MDo bDo λb k m=>(CA b k m).dO;obtain⟨r7,p7,h7⟩:=gb7 (outer:=outer) (H0:=H0) (E:=E) hr O (Os 11 (by decide)) T MDo bDo λb k m=>(CA b k m).dO;obtain⟨r8,p8,h8⟩:=gb8 (outer:=outer) (H0:=H0) (E:=E) hr O O8 T MDo bDo λb k m=>(CA b k m).dO;obtain⟨r9,p9,h9⟩:=gb9 (outer:=outer) (H0:=H0) (E:=E) hr O O5 T MDo bDo λb k m=>(CA b k m).dO;obtain⟨r10,p10,h10⟩:=AA (outer:=outer) (H0:=H0) (E:=E) hr O O5 λb k m=>(CA b k m).tot;obtain⟨r11,p11,h11⟩:=AB (outer:=outer) (H0:=H0) (E:=E) hr O O5 λb k m=>(CA b k m).shp;obtain⟨r12,p12,h12⟩:=AC (outer:=outer) (H0:=H0) (E:=E) hr O O8 λb k m=>(CA b k m).tot;obtain⟨r13,p13,h13⟩:=AD (outer:=outer) (H0:=H0) (E:=E) hr O O8 λb k m=>(CA b k m).shp;obtain⟨r14,p14,h14⟩:=AG (P:=P) (w:=w) (K:=K) (mg:=mg) (base:=base) (outer:=outer) (H0:=H0) (E:=E) hr;obtain⟨r15,p15,h15⟩:=AH (P:=P) (w:=w) (K:=K) (mg:=mg) (base:=base) (outer:=outer) (H0:=H0) (E:=E) hr;generalize gbS=st at p0 p1 p2 p3 p4 p5 p6 p7 p8 p9 p10 p11 p12 p13 p14 p15⊢;refine⟨_,ag p0 (ag p1 (ag p2 (ag p3 (ag p4 (ag p5 (ag p6 (ag p7 (ag p8 (ag p9 (ag p10 (ag p11 (ag p12 (ag p13 (ag p14 (am p15))))))))))))))),?_⟩;intro D H a p ft t d pl al zf z gg es e h lt u k x2 x3 x6 hk hS W TL q;refine h0 _ H a k _ _ _ _ _ _ hS λnv H1 s1 odd=>?_;have TL1:cg H1 PL cC:=dR TL s1;have o1:ax PL H H1:=λb o _ e=>s1 _ _ e;have W1:Wv C H1 p ft t d pl al zf z gg es e h lt u:=W.off TL o1;have Wf:∀H',ax PL H1 H'→Wv C H' p ft t d pl al zf z gg es e h lt u:=λH' o=>W1.off TL1 o;have of:∀H',ax PL H1 H'→Odd H' nv:=λH' o=>odd.keep λb xs e=>ax.tup TL1 o e;refine h1 _ H1 H1 a (.int k) (.ref p) nv (.ref ft) _ _ _ (ax.refl _ _) TL1 TL1 (λH' o=>AE (Wf H' o) (of H' o)) λl H2 M1=>?_;refine h2 _ H1 H2 a l _ (.int k) (.ref p) nv (.ref ft) _ _ M1 (by decide) (λH' o=>zN (Wf H' o) (of H' o) pr) λH3 M2=>?_;refine h3 _ H1 H3 a l _ (.int k) (.ref p) nv (.ref ft) _ _ M2 (by decide) (λH' o=>zN (Wf H' o) (of H' o) gX) λH4 M3=>?_;refine h4 _ H1 H4 a l _ (.int k) (.ref p) nv (.ref ft) _ _ M3 (by decide) (λH' o=>uP (Wf H' o) (dd:=.make 2 0 "d" none) ⟨by decide,by decide,by decide,by decide,by decide +kernel⟩ wv) λH5 M4=>?_;refine h5 _ H1 H5 a l _ (.int k) (.ref p) nv (.ref ft) _ _ M4 (by decide) (λH' o=>AF (Wf H' o)) λH6 M5=>?_;refine h6 _ H1 H6 a l _ (.int k) (.ref p) nv (.ref ft) _ _ M5 (by decide) (λH' o=>uP (Wf H' o) (dd:=.move 1 1 "d") ⟨by decide,by decide,by decide,by decide,by decide +kernel⟩ zH) λH7 M6=>?_;refine h7 _ H1 H7 a l _ (.int k) (.ref p) nv (.ref ft) _ _ M6 (by decide) (λH' o=>uP (Wf H' o) (dd:=.move 3 0 "a") ⟨by decide,by decide,by decide,by decide,by decide +kernel⟩ uB) λH8 M7=>?_;refine h8 _ H1 H8 a l _ (.int k) (.ref p) nv (.ref ft) _ _ M7 (by decide) (λH' o=>uP (Wf H' o) (dd:=.move 3 2 "z") ⟨by decide,by decide,by decide,by decide,by decide +kernel⟩ ww) λH9 M8=>?_;refine h9 _ H1 H9 a l _ (.int k) (.ref p) nv (.ref ft) _ _ M8 (by decide) (λH' o=>uP (Wf H' o) (dd:=.drop 9) ⟨by decide,by decide⟩ wx) λH10 M9=>?_;refine h10 _ H1 H10 a l _ (.int k) (.ref p) nv (.ref ft) _ _ M9 (by decide) (λH' o=>zO (Wf H' o) hk) λH11 M10=>?_;refine h11 _ H1 H11 a l _ (.int k) (.ref p) nv (.ref ft) _ _ M10 (by decide) (λH' o=>zO (Wf H' o) hk) λH12 M11=>?_;refine h12 _ H1 H12 a l _ (.int k) (.ref p) nv (.ref ft) _ _ M11 (by decide) (λH' o=>zP (Wf H' o)) λH13 M12=>?_;refine h13 _ H1 H13 a l _ (.int k) (.ref p) nv (.ref ft) _ _ M12 (by decide) (λH' o=>zP (Wf H' o)) λH14 M13=>?_;refine h14 _ H14 a _ _ _ _ _ _ _ λl8 H15 s15 hl8=>?_;have hl13:H15 l=some (.lst (D8++N3++F2)):=s15 _ _ M13.lst;refine h15 _ H15 a l l8 _ _ _ _ _ hl13 hl8 λH16 s16=>?_;exact q _ _ _ H16 (λb o n e=>s16 _ _ (s15 _ _ (M13.off b o n (o1 b o n e)))) (dR (dR M13.tab s15) s16)
theorem yP:∃p1 p2 p3 p4 p5 k,gS 7=.For (.Name "_law_k" p1) (.Call (.Name "range" p2) [.Constant (.int 4) k p3] [] p4) [gbS 0,gbS 1,gbS 2,gbS 3,gbS 4,gbS 5,gbS 6,gbS 7,gbS 8,gbS 9,gbS 10,gbS 11,gbS 12,gbS 13,gbS 14,gbS 15] [] p5:=⟨_,_,_,_,_,_,rfl⟩
theorem g7(hr:R7 A s f cL)(O:Tol K mg base cL PL g fC Dd fdg fdC B)(Os:∀i,i∈[0,1,5,7,8,9,11]→One12 K B Dd i)(T:LCls K mg C)(MTg:Meth K C "tag" fTg)(bTg:aq K fdTg ["self","name"] [])(MDo:Meth K C "do" fDo)(bDo:aq K fdDo ["self","deed"] [])(MTd:Meth K C "tagged" fTd)(bTd:aq K fdTd ["self","name"] [])(MFt:Meth K C "from_tag" fFt)(bFt:aq K fdFt ["self","name"] [])(CP:Has P w K mg base 2 "_law_pick" ["_law_script","_law_k","_law_many"] (gh K))(CA:∀base',K.In base'→BmB base' mg→Cals P w K mg base' C fTg fDo fTd fFt fdTg fdDo fdTd fdFt B):
  ∃rd,PS (GX P w K mg base f cL A outer s H0 E) (gS 7) rd∧∀(D:Ends)(H:Hp)(a p ft t d pl al:Addr)(zf z:ZN)(gg:Addr×ZN)(es:List Ent)(e:Ent)(h lt u:Addr)(x2 x3 x4 x6:Option V),Scr K H a→Wv C H p ft t d pl al zf z gg es e h lt u→cg H PL cC →
   (∀y2 y3 y4 y6 H',ax PL H H'→cg H' PL cC→D.nx (gσ a (some (.ref h)) y2 y3 y4 (some (.ref p)) y6 (some (.ref ft))) H')→rd D (gσ a (some (.ref h)) x2 x3 x4 (some (.ref p)) x6 (some (.ref ft))) H:=by
 have Tx:=O.T;obtain⟨rb,pb,hb⟩:=yO (outer:=outer) (H0:=H0) (E:=E) hr O Os T MTg bTg MDo bDo MTd bTd MFt bFt CP CA;obtain⟨p1,p2,p3,p4,p5,k,h⟩:=yP;generalize [gbS 0,gbS 1,gbS 2,gbS 3,gbS 4,gbS 5,gbS 6,gbS 7,gbS 8,gbS 9,gbS 10,gbS 11,gbS 12,gbS 13,gbS 14,gbS 15]=b at pb h;rw[h];refine⟨_,kY PassesOwn.never rfl (qA rfl Tx.range (aa ak ae)) (ci (i:=4) scG.nd rfl (Or.inr rfl)) pb,?_⟩;intro D H a p ft t d pl al zf z gg es e h lt u x2 x3 x4 x6 hS W TL q;refine⟨4,rfl,by decide,by decide,qC (n:=4) (λi σ H'=>∃y2 y3 y4 y6,σ=gσ a (some (.ref h)) y2 y3 y4 (some (.ref p)) y6 (some (.ref ft))∧ax PL H H'∧cg H' PL cC) ⟨_,_,_,_,rfl,ax.refl _ _,TL⟩ (λi σ H2 hi h=>?_) (λσ H2 h=>?_)⟩
 ·obtain⟨y2,y3,y4,y6,rfl,off,TL2⟩:=h;have hS2:fo K H2 a:=(hS.by λo u e=>ax.ne TL off e λps h=>by cases h).at;rw[show(0:Int)+(i:Int)=i by omega];exact hb _ H2 a p ft t d pl al zf z gg es e _ lt u i _ _ _ hi hS2 (W.off TL off) TL2 λz2 z3 z6 H3 off3 TL3=>⟨_,_,_,_,rfl,off.trans off3,TL3⟩
 ·obtain⟨y2,y3,y4,y6,rfl,off,TL2⟩:=h;exact q _ _ _ _ H2 off TL2
def qu(PL:Addr)(K:PySem.W.Frag):Sp:=λvs H Q _=>∃(a:Addr) (ns:List Int),vs=[.ref a]∧SqL K H a (ns.map V.int)∧ns.length≤63∧H PL=some (.tbl #[])∧∀H',Q (.bl true) H'
theorem yQ:bo oM=[gS 0,gS 1,gS 2,gS 3,gS 4,gS 5,gS 6,gS 7,gS 8,gS 9,gS 10]:=rfl
theorem yR{fI fN fTs fSz fBk fFo fBs:Addr}{fdI fdN fdTs fdSz fdBk fdFo fdBs:FuncData}(F:Fun K "law" "law" oM f fd)(hc:fd.code=.ref cL)(O:Tol K mg base cL PL g fC Dd fdg fdC B)(Os:∀i,i∈[0,1,5,7,8,9,11]→One12 K B Dd i)(T:LCls K mg C)(MTg:Meth K C "tag" fTg)(bTg:aq K fdTg ["self","name"] [])(MDo:Meth K C "do" fDo)(bDo:aq K fdDo ["self","deed"] [])(MTd:Meth K C "tagged" fTd)(bTd:aq K fdTd ["self","name"] [])(MFt:Meth K C "from_tag" fFt)(bFt:aq K fdFt ["self","name"] [])(CP:Has P w K mg base 2 "_law_pick" ["_law_script","_law_k","_law_many"] (gh K))(CA:∀base',K.In base'→BmB base' mg→Cals P w K mg base' C fTg fDo fTd fFt fdTg fdDo fdTd fdFt B)(M:Mk K C fI)(GI:FnOk P w K mg base CX0 1 fI fdI ["self","tree"] (jG C))(bI:aq K fdI ["self","tree"] [])(GTg:FnOk P w K mg base (CX1 P w) 2 fTg fdTg ["self","name"] (jI C (B 9)))(GFt:FnOk P w K mg base CX0 3 fFt fdFt ["self","name"] (nK C))(MN:Meth K C "now" fN)(GN':FnOk P w K mg base CX0 1 fN fdN ["self"] (ip C))(bN:aq K fdN ["self"] [])(MTs:Meth K C "tags" fTs)(GTs:FnOk P w K mg base CX0 1 fTs fdTs ["self"] (ff C))(bTs:aq K fdTs ["self"] [])(MS:Meth K C "sizes" fSz)(GS:FnOk P w K mg base CX0 1 fSz fdSz ["self"] (iq C))(bS:aq K fdSz ["self"] [])(MBk:Meth K C "back" fBk)(GBk:FnOk P w K mg base (CX1 P w) 2 fBk fdBk ["self"] (nG C (B 2)))(bBk:aq K fdBk ["self"] [])(MFo:Meth K C "forth" fFo)(GFo:FnOk P w K mg base (CX1 P w) 2 fFo fdFo ["self"] (nH C (B 2)))(bFo:aq K fdFo ["self"] [])(MBs:Meth K C "base" fBs)(GBs:FnOk P w K mg base CX0 1 fBs fdBs ["self"] (jJ C))(bBs:aq K fdBs ["self"] []):
  FnOk P w K mg base CX0 8 f fd ["_law_script"] (qu PL K):=by
 have CA0:=CA base O.KB O.Bm;refine F.okT hc scG (λvs H Q E h=>?_) (λA outer s H vs Q E hr h=>?_)
 ·obtain⟨a,ns,rfl,_⟩:=h;rfl
 ·obtain⟨a,ns,rfl,hS,hn,hPL,q⟩:=h;obtain⟨r0,p0,h0⟩:=g0 (P:=P) (w:=w) (K:=K) (mg:=mg) (base:=base) (outer:=outer) (H0:=H) (E:=E) hr;obtain⟨r1,p1,h1⟩:=g1 (outer:=outer) (H0:=H) (E:=E) (cL:=cL) hr T M GI bI;obtain⟨r2,p2,h2⟩:=g2 (outer:=outer) (H0:=H) (E:=E) (cL:=cL) hr T MTg GTg bTg;obtain⟨r3,p3,h3⟩:=g3 (outer:=outer) (H0:=H) (E:=E) (cL:=cL) hr T MDo CA0.dO bDo;obtain⟨r4,p4,h4⟩:=g4 (outer:=outer) (H0:=H) (E:=E) (cL:=cL) hr T MDo CA0.dO bDo;obtain⟨r5,p5,h5⟩:=g5 (outer:=outer) (H0:=H) (E:=E) (cL:=cL) hr T MBk GBk bBk;obtain⟨r6,p6,h6⟩:=g6 (outer:=outer) (H0:=H) (E:=E) (cL:=cL) hr T MN GN' bN MTs GTs bTs MS GS bS;obtain⟨r7,p7,h7⟩:=g7 (outer:=outer) (H0:=H) (E:=E) hr O Os T MTg bTg MDo bDo MTd bTd MFt bFt CP CA;obtain⟨r8,p8,h8⟩:=g8 (outer:=outer) (H0:=H) (E:=E) (cL:=cL) hr T MN GN' bN MTs GTs bTs MS GS bS MFo GFo bFo;obtain⟨r9,p9,h9⟩:=g9 (P:=P) (w:=w) (K:=K) (mg:=mg) (base:=base) (outer:=outer) (H0:=H) (E:=E) hr;obtain⟨r10,p10,h10⟩:=g10 (outer:=outer) (H0:=H) (E:=E) (cL:=cL) hr T MFt GFt bFt MBs GBs bBs;rw[yQ];generalize gS=st at p0 p1 p2 p3 p4 p5 p6 p7 p8 p9 p10⊢;refine⟨_,ag (yJ p0) (ag p1 (ag p2 (ag p3 (ag p4 (ag p5 (ag p6 (ag p7 (ag p8 (ag p9 (am p10)))))))))),?_⟩;have ne:∀{b:Addr}{u:HO},H b=some (.tbl #[])→H a=some u→(∀ps,u≠.tbl ps)→b≠a:=λh1 h2 n z=>by rw[z,h2]at h1;cases h1;exact n _ rfl
  have go:∀(H1:Hp),Scr K H1 a→H1 PL=some (.tbl #[])→fA r0 (fA r1 (fA r2 (fA r3 (fA r4 (fA r5 (fA r6 (fA r7 (fA r8 (fA r9 r10))))))))) {nx:=λ_ H'=>Q .non H',rt:=Q} (start GN [.ref a]) H1:=λH1 hS1 hP1=>by
   refine h0 _ H1 a _ _ _ _ _ _ _ λft zf H2 s2 tr n0=>?_;refine h1 _ H2 a ft zf _ _ _ _ _ _ tr λp d pl al H3 s3 L3=>?_;refine h2 _ H3 a p ft d pl al zf _ _ _ _ _ _ L3 λd2 al2 e1 H4 k4 L4 y1=>?_;refine h3 _ H4 a p ft d2 pl al2 zf e1 _ _ _ _ _ _ L4 n0 y1 λt3 z3 al3 e2 H5 k5 L5 n3 y2=>?_;refine h4 _ H5 a p ft t3 d2 pl al3 zf z3 e1 e2 _ _ _ _ _ _ L5 n3 λt4 z4 al4 e3 H6 k6 L6 n4 a1 a2 a3 a4 a5=>?_;refine h5 _ H6 a p ft t3 t4 d2 pl al4 zf z3 z4 e1 e2 e3 _ _ _ _ _ _ L6 n4 a1 a2 a3 a4 a5 y1 y2 λe H7 k7 L7 b1 b2 b3=>?_;refine h6 _ H7 a p ft t3 d2 pl al4 zf z3 [e1,e2] e _ _ _ _ _ _ L7 n0 n3 rfl b1 b2 b3 λhh lt u H8 s8 W=>?_;have kA:ck H1 H8:=((((((bz s2).trans (bz s3)).trans k4).trans k5).trans k6).trans k7).trans (bz s8);have TL8:cg H8 PL cC:=rC (.start hP1) kA;refine h7 _ H8 a p ft t3 d2 pl al4 zf z3 (ft,zf) [e1,e2] e hh lt u _ _ _ _ (hS1.stay kA) W TL8 λw2 w3 w4 w6 H9 off9 TL9=>?_;have W9:=W.off TL8 off9;refine h8 _ H9 a p ft t3 d2 pl al4 zf z3 (ft,zf) [e1,e2] e hh lt u _ _ _ _ _ W9 λt5 d5 es5 as5 z5 H10 L10 m1 m2 m3=>?_;refine h9 _ H10 a _ _ _ _ _ _ _ λc H11 s11 hD=>?_;exact h10 _ H11 a p ft t5 d5 pl al4 c zf z5 (ft,zf) es5 as5 _ _ _ _ (L10.same s11) m1 m2 hD q
  rcases hS with (h|⟨o,h⟩)|h
  ·refine .inr ⟨a,_,.inl h,λH1 o keep hf=>?_⟩;exact go H1 (.inr ⟨o,ns,hf⟩) (keep _ _ hPL (ne hPL h λ_ h=>by cases h))
  ·exact .inl (go H (.inr ⟨o,ns,h⟩) hPL)
  ·exact .inl (go H (.inl λH'=>⟨ns,.inr h⟩) hPL)
end
theorem zQ{K:PySem.W.Frag}{B:Nat→Addr}{D:Addr}(h0:One12 K B D 0)(h1:One12 K B D 1)(h5:One12 K B D 5)(h7:One12 K B D 7)(h8:One12 K B D 8)(h9:One12 K B D 9)(h11:One12 K B D 11):∀i,i∈[0,1,5,7,8,9,11]→One12 K B D i:=λi hi=>by
 simp only[mem_cons,not_mem_nil,or_false]at hi;rcases hi with rfl|rfl|rfl|rfl|rfl|rfl|rfl<;>assumption
end TK
namespace TK
open PySem PySem.W PyProof.Rows L2
theorem eY{K:PySem.W.Frag}{h:Heap}{mg:Str→Option Value}{x:Str}{C:Addr}{bB:List Value}{nid:String}(X:K.In h)(hb:mg x=some (.ref C))(q:excIn K C bB nid=true):OwnCls x C bB nid mg h:=by
 have hobj:∃bm N nm q' bs hdct sn sub ab col dd k0 k1 k2 k3 k5 mN,h.get? C=some (excClassObj nm q' C N bs bm hdct sn sub ab col dd k0 k1 k2 k3 k5 nid)∧h.Ns N mN∧mN "__init__"=none∧OwnTail h bB bm:=by
  unfold excIn at q
  split at q
  case h_2=>exact absurd q (by simp)
  case h_1 d0 c0 s0 hK =>
   split at q
   case h_2=>exact absurd q (by simp)
   case h_1 C1 b1 u0 u1 u2 u3 u4 u5 e1 e2 =>
    rw[and_eq_true,and_eq_true,and_eq_true,and_eq_true,and_eq_true]at q;obtain⟨⟨⟨⟨⟨y1,y2⟩,y3⟩,g4⟩,g5⟩,y6⟩:=q;have g1:C1=C:=beq_iff_eq.mp y1;have g2:u4=nid:=beq_iff_eq.mp y2;have g3:c0.hasDel=false:=by simpa using y3
    have g6:nsIn K c0.ns "__init__"=some none:=beq_iff_eq.mp y6;clear y1 y2 y3 y6;cases c0;cases s0;dsimp only at e1 e2 g3 g5 g6;subst g1 g2 g3 e1 e2;exact⟨_,_,_,_,_,_,_,_,_,_,_,_,_,_,_,_,_,X _ _ hK,Heap.Ns.of_isNs (PySem.W.isNs_of_in X g5),PySem.W.nsMap_none_of_in X g5 g6,PySem.W.tail_of_in X g4⟩
 exact⟨hb,hobj⟩
theorem AJ{α:Type}{P:List α→Prop}{us:List α}(hl:us.length=0)(h:P []):P us:=by cases us with|nil=>exact h|cons a r=>cases hl
theorem zR{α:Type}{P:List α→Prop}{us:List α}(hl:us.length=1)(h:∀a0,P [a0]):P us:=by cases us with|nil=>cases hl|cons a r=>exact AJ (P:=λr=>P (a::r)) (Nat.succ.inj hl) (h a)
theorem zS{α:Type}{P:List α→Prop}{us:List α}(hl:us.length=2)(h:∀a0 a1,P [a0,a1]):P us:=by cases us with|nil=>cases hl|cons a r=>exact zR (P:=λr=>P (a::r)) (Nat.succ.inj hl) (h a)
theorem zT{α:Type}{P:List α→Prop}{us:List α}(hl:us.length=3)(h:∀a0 a1 a2,P [a0,a1,a2]):P us:=by cases us with|nil=>cases hl|cons a r=>exact zS (P:=λr=>P (a::r)) (Nat.succ.inj hl) (h a)
theorem zU{α:Type}{P:List α→Prop}{us:List α}(hl:us.length=4)(h:∀a0 a1 a2 a3,P [a0,a1,a2,a3]):P us:=by cases us with|nil=>cases hl|cons a r=>exact zT (P:=λr=>P (a::r)) (Nat.succ.inj hl) (h a)
theorem AK{α:Type}{P:List α→Prop}{us:List α}(hl:us.length=5)(h:∀a0 a1 a2 a3 a4,P [a0,a1,a2,a3,a4]):P us:=by cases us with|nil=>cases hl|cons a r=>exact zU (P:=λr=>P (a::r)) (Nat.succ.inj hl) (h a)
abbrev gA(K:PySem.W.Frag)(x:Str)(f:Addr):Prop:=nsIn K mainGlobals x=some (some (.ref f))
abbrev gN(K:PySem.W.Frag)(x:Str):Prop:=nsIn K mainGlobals x=some none
theorem fh{P:Program}{w:World}{K:PySem.W.Frag}{mg:Str→Option Value}{base h:Heap}{k:Nat}{x q:Str}{st:Stmt}{f:Addr}{fd:FuncData}{ps:List Str}{sp:Sp}(X:K.In h)(G:h.Ns mainGlobals mg)(F:Fun K x q st f fd)(a:gA K x f)(b:aq K fd ps [])(O:FnOk P w K mg base CX0 k f fd ps sp):Has P w K mg base k x ps sp:=⟨f,fd,O,mg_of X G a,F.kp,b⟩
theorem fhX{P:Program}{w:World}{K:PySem.W.Frag}{mg:Str→Option Value}{base h:Heap}{k:Nat}{x q:Str}{st:Stmt}{f:Addr}{fd:FuncData}{ps:List Str}{sp:Sp}(X:K.In h)(G:h.Ns mainGlobals mg)(F:Fun K x q st f fd)(a:gA K x f)(b:aq K fd ps [])(O:FnOk P w K mg base (CX1 P w) k f fd ps sp):cy P w K mg base k x ps sp:=⟨f,fd,O,mg_of X G a,F.kp,b⟩
theorem fb1{K:PySem.W.Frag}{x q a0:Str}{st:Stmt}{f:Addr}{fd:FuncData}(F:Fun K x q st f fd)(h:∀(kV doc pm:Value) (an:Option Addr) (cdv ct v0:Value),bindArgs (fnOf x q (cY st) (bo st) (aj st) .none kV doc pm an cdv ct) ⟨[v0],[]⟩=pure (List.zip [a0] [v0]):=by intros;rfl):aq K fd [a0] []:=F.binds λkV doc pm an cdv ct us hl=>zR (P:=λus=>bindArgs _ ⟨us,[]⟩=pure (List.zip _ us)) hl (h kV doc pm an cdv ct)
theorem fb2{K:PySem.W.Frag}{x q a0 a1:Str}{st:Stmt}{f:Addr}{fd:FuncData}(F:Fun K x q st f fd)(h:∀(kV doc pm:Value) (an:Option Addr) (cdv ct v0 v1:Value),bindArgs (fnOf x q (cY st) (bo st) (aj st) .none kV doc pm an cdv ct) ⟨[v0,v1],[]⟩=pure (List.zip [a0,a1] [v0,v1]):=by intros;rfl):aq K fd [a0,a1] []:=F.binds λkV doc pm an cdv ct us hl=>zS (P:=λus=>bindArgs _ ⟨us,[]⟩=pure (List.zip _ us)) hl (h kV doc pm an cdv ct)
theorem fb3{K:PySem.W.Frag}{x q a0 a1 a2:Str}{st:Stmt}{f:Addr}{fd:FuncData}(F:Fun K x q st f fd)(h:∀(kV doc pm:Value) (an:Option Addr) (cdv ct v0 v1 v2:Value),bindArgs (fnOf x q (cY st) (bo st) (aj st) .none kV doc pm an cdv ct) ⟨[v0,v1,v2],[]⟩=pure (List.zip [a0,a1,a2] [v0,v1,v2]):=by intros;rfl):aq K fd [a0,a1,a2] []:=F.binds λkV doc pm an cdv ct us hl=>zT (P:=λus=>bindArgs _ ⟨us,[]⟩=pure (List.zip _ us)) hl (h kV doc pm an cdv ct)
theorem fb4{K:PySem.W.Frag}{x q a0 a1 a2 a3:Str}{st:Stmt}{f:Addr}{fd:FuncData}(F:Fun K x q st f fd)(h:∀(kV doc pm:Value) (an:Option Addr) (cdv ct v0 v1 v2 v3:Value),bindArgs (fnOf x q (cY st) (bo st) (aj st) .none kV doc pm an cdv ct) ⟨[v0,v1,v2,v3],[]⟩=pure (List.zip [a0,a1,a2,a3] [v0,v1,v2,v3]):=by intros;rfl):aq K fd [a0,a1,a2,a3] []:=F.binds λkV doc pm an cdv ct us hl=>zU (P:=λus=>bindArgs _ ⟨us,[]⟩=pure (List.zip _ us)) hl (h kV doc pm an cdv ct)
theorem fb5{K:PySem.W.Frag}{x q a0 a1 a2 a3 a4:Str}{st:Stmt}{f:Addr}{fd:FuncData}(F:Fun K x q st f fd)(h:∀(kV doc pm:Value) (an:Option Addr) (cdv ct v0 v1 v2 v3 v4:Value),bindArgs (fnOf x q (cY st) (bo st) (aj st) .none kV doc pm an cdv ct) ⟨[v0,v1,v2,v3,v4],[]⟩=pure (List.zip [a0,a1,a2,a3,a4] [v0,v1,v2,v3,v4]):=by intros;rfl):aq K fd [a0,a1,a2,a3,a4] []:=F.binds λkV doc pm an cdv ct us hl=>AK (P:=λus=>bindArgs _ ⟨us,[]⟩=pure (List.zip _ us)) hl (h kV doc pm an cdv ct)
theorem yS{l:PySem.W.OpenLaw}{w:World}{K:PySem.W.Frag}{h:Heap}{mg:Str→Option Value}{fa f1 f2 f3 f4 f5 f6 f7 f8 f9 f10 f11 f12 f13 f14 f15 f16 f17 f18 f19 f20 f21 f22 f23 f24 f25 f26 f27 f28 f29 f30 f31 f32 f33 f34 f35 f36 OLedger:Addr}(X:K.In h)(G:h.Ns mainGlobals mg)(hfa:mg "law"=some (.ref fa)){d1 d2 d3 d4 d5 d6 d7 d8 d9 d10 d11 d12 d13 d14 d15 d16 d17 d18 d19 d20 d21 d22 d23 d24 d25 d26 d27 d28 d29 d30 d31 d32 d33 d34 d35 d36:FuncData}{t1:Tok}(a1:gA K "is_name" f1)(F1:Fun K "is_name" "is_name" mX f1 d1)(a2:gA K "numbers_inside" f2)(F2:Fun K "numbers_inside" "numbers_inside" xQ f2 d2)(a3:gA K "by_number" f3)(F3:Fun K "by_number" "by_number" xR f3 d3)(a4:gA K "node_of" f4)(F4:Fun K "node_of" "node_of" tw f4 d4)(a5:gA K "check_folder" f5)(F5:Fun K "check_folder" "check_folder" tz f5 d5)(a6:gA K "below" f6)(F6:Fun K "below" "below" xS f6 d6)(a7:gA K "parts_by_number" f7)(F7:Fun K "parts_by_number" "parts_by_number" cB f7 d7)(a8:gA K "unlike_entries" f8)(F8:Fun K "unlike_entries" "unlike_entries" cF f8 d8)(a9:gA K "change_between" f9)(F9:Fun K "change_between" "change_between" aO f9 d9)(a10:gA K "check_place" f10)(F10:Fun K "check_place" "check_place" xT f10 d10)(a11:gA K "with_node" f11)(F11:Fun K "with_node" "with_node" pZ f11 d11)(a12:gA K "make" f12)(F12:Fun K "make" "make" tD f12 d12)(a13:gA K "write" f13)(F13:Fun K "write" "write" oK f13 d13)(a14:gA K "move" f14)(F14:Fun K "move" "move" tE f14 d14)(a15:gA K "drop" f15)(F15:Fun K "drop" "drop" qa f15 d15)(a16:gA K "done" f16)(F16:Fun K "done" "done" tF f16 d16)(a17:gA K "total" f17)(F17:Fun K "total" "total" ly f17 d17)(a18:gA K "shape" f18)(F18:Fun K "shape" "shape" lz f18 d18)(a19:PySem.W.findIn K (.ref OLedger) "__init__"=some (some (.ref f19)))(i19:isFn K (.ref f19)=true)(F19:Fun K "__init__" "Ledger.__init__" eu f19 d19)(a20:PySem.W.findIn K (.ref OLedger) "base"=some (some (.ref f20)))(i20:isFn K (.ref f20)=true)(F20:Fun K "base" "Ledger.base" eB f20 d20)(a21:PySem.W.findIn K (.ref OLedger) "now"=some (some (.ref f21)))(i21:isFn K (.ref f21)=true)(F21:Fun K "now" "Ledger.now" eT f21 d21)(a22:PySem.W.findIn K (.ref OLedger) "sizes"=some (some (.ref f22)))(i22:isFn K (.ref f22)=true)(F22:Fun K "sizes" "Ledger.sizes" dB f22 d22)(a23:PySem.W.findIn K (.ref OLedger) "tags"=some (some (.ref f23)))(i23:isFn K (.ref f23)=true)(F23:Fun K "tags" "Ledger.tags" eA f23 d23)(a24:PySem.W.findIn K (.ref OLedger) "go_on"=some (some (.ref f24)))(i24:isFn K (.ref f24)=true)(F24:Fun K "go_on" "Ledger.go_on" dz f24 d24)(a25:PySem.W.findIn K (.ref OLedger) "do"=some (some (.ref f25)))(i25:isFn K (.ref f25)=true)(F25:Fun K "do" "Ledger.do" fY f25 d25)(a26:PySem.W.findIn K (.ref OLedger) "tagged"=some (some (.ref f26)))(i26:isFn K (.ref f26)=true)(F26:Fun K "tagged" "Ledger.tagged" cz f26 d26)(a27:PySem.W.findIn K (.ref OLedger) "tag"=some (some (.ref f27)))(i27:isFn K (.ref f27)=true)(F27:Fun K "tag" "Ledger.tag" du f27 d27)(a28:PySem.W.findIn K (.ref OLedger) "from_tag"=some (some (.ref f28)))(i28:isFn K (.ref f28)=true)(F28:Fun K "from_tag" "Ledger.from_tag" bY f28 d28)(a29:PySem.W.findIn K (.ref OLedger) "pass_over"=some (some (.ref f29)))(i29:isFn K (.ref f29)=true)(F29:Fun K "pass_over" "Ledger.pass_over" cA f29 d29)(a30:PySem.W.findIn K (.ref OLedger) "back"=some (some (.ref f30)))(i30:isFn K (.ref f30)=true)(F30:Fun K "back" "Ledger.back" eD f30 d30)(a31:PySem.W.findIn K (.ref OLedger) "forth"=some (some (.ref f31)))(i31:isFn K (.ref f31)=true)(F31:Fun K "forth" "Ledger.forth" dA f31 d31)(a32:gA K "_law_cell" f32)(F32:Fun K "_law_cell" "_law_cell" tG f32 d32)(a33:gA K "_law_pick" f33)(F33:Fun K "_law_pick" "_law_pick" tH f33 d33)(a34:gA K "_law_class" f34)(F34:Fun K "_law_class" "_law_class" dv f34 d34)(a35:gA K "_law_told" f35)(F35:Fun K "_law_told" "_law_told" eE f35 d35)(a36:gA K "law" f36)(F36:Fun K "law" "law" oM f36 d36)(z1:gN K "isinstance")(z2:gN K "dict")(z3:gN K "len")(z4:gN K "tuple")(z5:gN K "list")(z6:gN K "range")(z7:gN K "sorted")(z8:gN K "reversed")(z9:gN K "ValueError")(z10:gN K "str")(z11:gN K "set")(z12:gN K "max")(z13:gN K "min")(z14:gN K "sum")(z15:gN K "zip")(z16:gN K "enumerate")(z17:gN K "all")(z18:gN K "int")(z19:gN K "bool")(v1t:nsIn K mainGlobals "TOP"=some (some (.int 0 t1))){t2:Tok}(v2t:nsIn K mainGlobals "LETTERS"=some (some (.str "abcdefghijklmnopqrstuvwxyz" t2))){t3:Tok}(v3t:nsIn K mainGlobals "LONGEST_NAME"=some (some (.int 5 t3))){cL PL:Addr}(kL:d36.code=.ref cL)(eL:codeHdIn K cL PL=true){DT B0 B1 B2 B3 B4 B5 B6 B7 B8 B9 B10 B11:Addr}(xD:nsIn K mainGlobals "TreeError"=some (some (.ref DT)))(gD:PySem.W.ktsIn K DT "BaseException"=true)(x0:nsIn K mainGlobals "Inside"=some (some (.ref B0)))(x1:nsIn K mainGlobals "Known"=some (some (.ref B1)))(x2:nsIn K mainGlobals "NoBack"=some (some (.ref B2)))(x3:nsIn K mainGlobals "NoMark"=some (some (.ref B3)))(x4:nsIn K mainGlobals "NoMatch"=some (some (.ref B4)))(x5:nsIn K mainGlobals "NoNode"=some (some (.ref B5)))(x6:nsIn K mainGlobals "NoReader"=some (some (.ref B6)))(x7:nsIn K mainGlobals "NotFile"=some (some (.ref B7)))(x8:nsIn K mainGlobals "NotFolder"=some (some (.ref B8)))(x9:nsIn K mainGlobals "NoTag"=some (some (.ref B9)))(x10:nsIn K mainGlobals "NoText"=some (some (.ref B10)))(x11:nsIn K mainGlobals "Taken"=some (some (.ref B11)))(q0:excIn K B0 bmV "ValueError.__new__"=true)(e0_0:kitOne K (.ref B0) (.ref B0)=some true)(e0_1:kitOne K (.ref B0) (.ref B1)=some false)(e0_2:kitOne K (.ref B0) (.ref B2)=some false)(e0_3:kitOne K (.ref B0) (.ref B3)=some false)(e0_4:kitOne K (.ref B0) (.ref B4)=some false)(e0_5:kitOne K (.ref B0) (.ref B5)=some false)(e0_6:kitOne K (.ref B0) (.ref B6)=some false)(e0_7:kitOne K (.ref B0) (.ref B7)=some false)(e0_8:kitOne K (.ref B0) (.ref B8)=some false)(e0_9:kitOne K (.ref B0) (.ref B9)=some false)(e0_10:kitOne K (.ref B0) (.ref B10)=some false)(e0_11:kitOne K (.ref B0) (.ref B11)=some false)(v0:kitOne K (.ref B0) (.type "ValueError")=some true)(s0:subIn K (.ref B0) (.ref DT)=some true)(g01:PySem.W.ktsIn K B0 "object"=true)(g02:PySem.W.findIn K (.ref B0) "__getattribute__"=some (some (.builtin "BaseException.__getattribute__")))(g03:PySem.W.findIn K (.ref B0) "__getattr__"=some none)(g04:PySem.W.findIn K (.ref B0) "__class__"=some (some (.builtin "object.__class__")))(q1:excIn K B1 bmV "ValueError.__new__"=true)(e1_0:kitOne K (.ref B1) (.ref B0)=some false)(e1_1:kitOne K (.ref B1) (.ref B1)=some true)(e1_2:kitOne K (.ref B1) (.ref B2)=some false)(e1_3:kitOne K (.ref B1) (.ref B3)=some false)(e1_4:kitOne K (.ref B1) (.ref B4)=some false)(e1_5:kitOne K (.ref B1) (.ref B5)=some false)(e1_6:kitOne K (.ref B1) (.ref B6)=some false)(e1_7:kitOne K (.ref B1) (.ref B7)=some false)(e1_8:kitOne K (.ref B1) (.ref B8)=some false)(e1_9:kitOne K (.ref B1) (.ref B9)=some false)(e1_10:kitOne K (.ref B1) (.ref B10)=some false)(e1_11:kitOne K (.ref B1) (.ref B11)=some false)(v1:kitOne K (.ref B1) (.type "ValueError")=some true)(s1:subIn K (.ref B1) (.ref DT)=some true)(g11:PySem.W.ktsIn K B1 "object"=true)(g12:PySem.W.findIn K (.ref B1) "__getattribute__"=some (some (.builtin "BaseException.__getattribute__")))(g13:PySem.W.findIn K (.ref B1) "__getattr__"=some none)(g14:PySem.W.findIn K (.ref B1) "__class__"=some (some (.builtin "object.__class__")))(q2:excIn K B2 bmV "ValueError.__new__"=true)(e2_0:kitOne K (.ref B2) (.ref B0)=some false)(e2_1:kitOne K (.ref B2) (.ref B1)=some false)(e2_2:kitOne K (.ref B2) (.ref B2)=some true)(e2_3:kitOne K (.ref B2) (.ref B3)=some false)(e2_4:kitOne K (.ref B2) (.ref B4)=some false)(e2_5:kitOne K (.ref B2) (.ref B5)=some false)(e2_6:kitOne K (.ref B2) (.ref B6)=some false)(e2_7:kitOne K (.ref B2) (.ref B7)=some false)(e2_8:kitOne K (.ref B2) (.ref B8)=some false)(e2_9:kitOne K (.ref B2) (.ref B9)=some false)(e2_10:kitOne K (.ref B2) (.ref B10)=some false)(e2_11:kitOne K (.ref B2) (.ref B11)=some false)(v2:kitOne K (.ref B2) (.type "ValueError")=some true)(s2:subIn K (.ref B2) (.ref DT)=some true)(g21:PySem.W.ktsIn K B2 "object"=true)(g22:PySem.W.findIn K (.ref B2) "__getattribute__"=some (some (.builtin "BaseException.__getattribute__")))(g23:PySem.W.findIn K (.ref B2) "__getattr__"=some none)(g24:PySem.W.findIn K (.ref B2) "__class__"=some (some (.builtin "object.__class__")))(q5:excIn K B5 bmV "ValueError.__new__"=true)(e5_0:kitOne K (.ref B5) (.ref B0)=some false)(e5_1:kitOne K (.ref B5) (.ref B1)=some false)(e5_2:kitOne K (.ref B5) (.ref B2)=some false)(e5_3:kitOne K (.ref B5) (.ref B3)=some false)(e5_4:kitOne K (.ref B5) (.ref B4)=some false)(e5_5:kitOne K (.ref B5) (.ref B5)=some true)(e5_6:kitOne K (.ref B5) (.ref B6)=some false)(e5_7:kitOne K (.ref B5) (.ref B7)=some false)(e5_8:kitOne K (.ref B5) (.ref B8)=some false)(e5_9:kitOne K (.ref B5) (.ref B9)=some false)(e5_10:kitOne K (.ref B5) (.ref B10)=some false)(e5_11:kitOne K (.ref B5) (.ref B11)=some false)(v5:kitOne K (.ref B5) (.type "ValueError")=some true)(s5:subIn K (.ref B5) (.ref DT)=some true)(g51:PySem.W.ktsIn K B5 "object"=true)(g52:PySem.W.findIn K (.ref B5) "__getattribute__"=some (some (.builtin "BaseException.__getattribute__")))(g53:PySem.W.findIn K (.ref B5) "__getattr__"=some none)(g54:PySem.W.findIn K (.ref B5) "__class__"=some (some (.builtin "object.__class__")))(q7:excIn K B7 bmV "ValueError.__new__"=true)(e7_0:kitOne K (.ref B7) (.ref B0)=some false)(e7_1:kitOne K (.ref B7) (.ref B1)=some false)(e7_2:kitOne K (.ref B7) (.ref B2)=some false)(e7_3:kitOne K (.ref B7) (.ref B3)=some false)(e7_4:kitOne K (.ref B7) (.ref B4)=some false)(e7_5:kitOne K (.ref B7) (.ref B5)=some false)(e7_6:kitOne K (.ref B7) (.ref B6)=some false)(e7_7:kitOne K (.ref B7) (.ref B7)=some true)(e7_8:kitOne K (.ref B7) (.ref B8)=some false)(e7_9:kitOne K (.ref B7) (.ref B9)=some false)(e7_10:kitOne K (.ref B7) (.ref B10)=some false)(e7_11:kitOne K (.ref B7) (.ref B11)=some false)(v7:kitOne K (.ref B7) (.type "ValueError")=some true)(s7:subIn K (.ref B7) (.ref DT)=some true)(g71:PySem.W.ktsIn K B7 "object"=true)(g72:PySem.W.findIn K (.ref B7) "__getattribute__"=some (some (.builtin "BaseException.__getattribute__")))(g73:PySem.W.findIn K (.ref B7) "__getattr__"=some none)(g74:PySem.W.findIn K (.ref B7) "__class__"=some (some (.builtin "object.__class__")))(q8:excIn K B8 bmV "ValueError.__new__"=true)(e8_0:kitOne K (.ref B8) (.ref B0)=some false)(e8_1:kitOne K (.ref B8) (.ref B1)=some false)(e8_2:kitOne K (.ref B8) (.ref B2)=some false)(e8_3:kitOne K (.ref B8) (.ref B3)=some false)(e8_4:kitOne K (.ref B8) (.ref B4)=some false)(e8_5:kitOne K (.ref B8) (.ref B5)=some false)(e8_6:kitOne K (.ref B8) (.ref B6)=some false)(e8_7:kitOne K (.ref B8) (.ref B7)=some false)(e8_8:kitOne K (.ref B8) (.ref B8)=some true)(e8_9:kitOne K (.ref B8) (.ref B9)=some false)(e8_10:kitOne K (.ref B8) (.ref B10)=some false)(e8_11:kitOne K (.ref B8) (.ref B11)=some false)(v8:kitOne K (.ref B8) (.type "ValueError")=some true)(s8:subIn K (.ref B8) (.ref DT)=some true)(g81:PySem.W.ktsIn K B8 "object"=true)(g82:PySem.W.findIn K (.ref B8) "__getattribute__"=some (some (.builtin "BaseException.__getattribute__")))(g83:PySem.W.findIn K (.ref B8) "__getattr__"=some none)(g84:PySem.W.findIn K (.ref B8) "__class__"=some (some (.builtin "object.__class__")))(q9:excIn K B9 bmV "ValueError.__new__"=true)(e9_0:kitOne K (.ref B9) (.ref B0)=some false)(e9_1:kitOne K (.ref B9) (.ref B1)=some false)(e9_2:kitOne K (.ref B9) (.ref B2)=some false)(e9_3:kitOne K (.ref B9) (.ref B3)=some false)(e9_4:kitOne K (.ref B9) (.ref B4)=some false)(e9_5:kitOne K (.ref B9) (.ref B5)=some false)(e9_6:kitOne K (.ref B9) (.ref B6)=some false)(e9_7:kitOne K (.ref B9) (.ref B7)=some false)(e9_8:kitOne K (.ref B9) (.ref B8)=some false)(e9_9:kitOne K (.ref B9) (.ref B9)=some true)(e9_10:kitOne K (.ref B9) (.ref B10)=some false)(e9_11:kitOne K (.ref B9) (.ref B11)=some false)(v9:kitOne K (.ref B9) (.type "ValueError")=some true)(s9:subIn K (.ref B9) (.ref DT)=some true)(g91:PySem.W.ktsIn K B9 "object"=true)(g92:PySem.W.findIn K (.ref B9) "__getattribute__"=some (some (.builtin "BaseException.__getattribute__")))(g93:PySem.W.findIn K (.ref B9) "__getattr__"=some none)(g94:PySem.W.findIn K (.ref B9) "__class__"=some (some (.builtin "object.__class__")))(q11:excIn K B11 bmV "ValueError.__new__"=true)(e11_0:kitOne K (.ref B11) (.ref B0)=some false)(e11_1:kitOne K (.ref B11) (.ref B1)=some false)(e11_2:kitOne K (.ref B11) (.ref B2)=some false)(e11_3:kitOne K (.ref B11) (.ref B3)=some false)(e11_4:kitOne K (.ref B11) (.ref B4)=some false)(e11_5:kitOne K (.ref B11) (.ref B5)=some false)(e11_6:kitOne K (.ref B11) (.ref B6)=some false)(e11_7:kitOne K (.ref B11) (.ref B7)=some false)(e11_8:kitOne K (.ref B11) (.ref B8)=some false)(e11_9:kitOne K (.ref B11) (.ref B9)=some false)(e11_10:kitOne K (.ref B11) (.ref B10)=some false)(e11_11:kitOne K (.ref B11) (.ref B11)=some true)(v11:kitOne K (.ref B11) (.type "ValueError")=some true)(s11:subIn K (.ref B11) (.ref DT)=some true)(g111:PySem.W.ktsIn K B11 "object"=true)(g112:PySem.W.findIn K (.ref B11) "__getattribute__"=some (some (.builtin "BaseException.__getattribute__")))(g113:PySem.W.findIn K (.ref B11) "__getattr__"=some none)(g114:PySem.W.findIn K (.ref B11) "__class__"=some (some (.builtin "object.__class__")))(aLedger:nsIn K mainGlobals "Ledger"=some (some (.ref OLedger)))(pgLedger:plainGet K OLedger empty=true)(hdLedger:hasDictIn K OLedger=true)(poLedger:plainOver K OLedger=true)(saLedger:PySem.W.findIn K (.ref OLedger) "__setattr__"=some (some (.builtin "object.__setattr__")))(mkLedger:makesIn K OLedger=true)(kcLedger:keepIn K (.ref OLedger)=true)(naLedger0:PySem.W.findIn K (.ref OLedger) "first_tree"=some none)(naLedger1:PySem.W.findIn K (.ref OLedger) "tree"=some none)(naLedger2:PySem.W.findIn K (.ref OLedger) "tag_trees"=some none)(naLedger3:PySem.W.findIn K (.ref OLedger) "past"=some none)(naLedger4:PySem.W.findIn K (.ref OLedger) "ahead"=some none):
  ∃fd:FuncData,(∀(s:Shared)(v:Value),BindsTo s fd ⟨[v],[]⟩ [("_law_script",v)])∧∀base:Heap,K.In base→base.Ns mainGlobals mg→BmB base mg→FnOk l.prog w K mg base CX0 8 fa fd ["_law_script"] (qu PL K):=by
 have e:=hfa.symm.trans (mg_of X G a36);cases e;have T:Txt mg:=⟨mg_none_of X G z1,mg_none_of X G z2,mg_none_of X G z3,mg_none_of X G z4,mg_none_of X G z5,mg_none_of X G z6,mg_none_of X G z7,mg_none_of X G z8,mg_none_of X G z9,mg_none_of X G z10,mg_none_of X G z11,mg_none_of X G z12,mg_none_of X G z13,mg_none_of X G z14,mg_none_of X G z15,mg_none_of X G z16,mg_none_of X G z17,mg_none_of X G z18,mg_none_of X G z19,⟨_,mg_of X G v1t⟩,⟨_,mg_of X G v2t⟩,⟨_,mg_of X G v3t⟩⟩
 let B:Nat→Addr:=λi=>match i with | 0=>B0 | 1=>B1 | 2=>B2 | 3=>B3 | 4=>B4 | 5=>B5 | 6=>B6 | 7=>B7 | 8=>B8 | 9=>B9 | 10=>B10 | _=>B11
 have L:Clss12 mg K B DT:=⟨λi hi=>match i,hi with | 0,_=>mg_of X G x0 | 1,_=>mg_of X G x1 | 2,_=>mg_of X G x2 | 3,_=>mg_of X G x3 | 4,_=>mg_of X G x4 | 5,_=>mg_of X G x5 | 6,_=>mg_of X G x6 | 7,_=>mg_of X G x7 | 8,_=>mg_of X G x8 | 9,_=>mg_of X G x9 | 10,_=>mg_of X G x10 | 11,_=>mg_of X G x11,mg_of X G xD,gD⟩
 have O0:One12 K B DT 0:=⟨by decide,(by show XI.dJ K B0=true;unfold XI.dJ;rw[g01,g02,g03,g04];rfl),λj hj=>match j,hj with | 0,_=>e0_0 | 1,_=>e0_1 | 2,_=>e0_2 | 3,_=>e0_3 | 4,_=>e0_4 | 5,_=>e0_5 | 6,_=>e0_6 | 7,_=>e0_7 | 8,_=>e0_8 | 9,_=>e0_9 | 10,_=>e0_10 | 11,_=>e0_11,v0,s0⟩
 have O1:One12 K B DT 1:=⟨by decide,(by show XI.dJ K B1=true;unfold XI.dJ;rw[g11,g12,g13,g14];rfl),λj hj=>match j,hj with | 0,_=>e1_0 | 1,_=>e1_1 | 2,_=>e1_2 | 3,_=>e1_3 | 4,_=>e1_4 | 5,_=>e1_5 | 6,_=>e1_6 | 7,_=>e1_7 | 8,_=>e1_8 | 9,_=>e1_9 | 10,_=>e1_10 | 11,_=>e1_11,v1,s1⟩
 have O2:One12 K B DT 2:=⟨by decide,(by show XI.dJ K B2=true;unfold XI.dJ;rw[g21,g22,g23,g24];rfl),λj hj=>match j,hj with | 0,_=>e2_0 | 1,_=>e2_1 | 2,_=>e2_2 | 3,_=>e2_3 | 4,_=>e2_4 | 5,_=>e2_5 | 6,_=>e2_6 | 7,_=>e2_7 | 8,_=>e2_8 | 9,_=>e2_9 | 10,_=>e2_10 | 11,_=>e2_11,v2,s2⟩
 have O5:One12 K B DT 5:=⟨by decide,(by show XI.dJ K B5=true;unfold XI.dJ;rw[g51,g52,g53,g54];rfl),λj hj=>match j,hj with | 0,_=>e5_0 | 1,_=>e5_1 | 2,_=>e5_2 | 3,_=>e5_3 | 4,_=>e5_4 | 5,_=>e5_5 | 6,_=>e5_6 | 7,_=>e5_7 | 8,_=>e5_8 | 9,_=>e5_9 | 10,_=>e5_10 | 11,_=>e5_11,v5,s5⟩
 have O7:One12 K B DT 7:=⟨by decide,(by show XI.dJ K B7=true;unfold XI.dJ;rw[g71,g72,g73,g74];rfl),λj hj=>match j,hj with | 0,_=>e7_0 | 1,_=>e7_1 | 2,_=>e7_2 | 3,_=>e7_3 | 4,_=>e7_4 | 5,_=>e7_5 | 6,_=>e7_6 | 7,_=>e7_7 | 8,_=>e7_8 | 9,_=>e7_9 | 10,_=>e7_10 | 11,_=>e7_11,v7,s7⟩
 have O8:One12 K B DT 8:=⟨by decide,(by show XI.dJ K B8=true;unfold XI.dJ;rw[g81,g82,g83,g84];rfl),λj hj=>match j,hj with | 0,_=>e8_0 | 1,_=>e8_1 | 2,_=>e8_2 | 3,_=>e8_3 | 4,_=>e8_4 | 5,_=>e8_5 | 6,_=>e8_6 | 7,_=>e8_7 | 8,_=>e8_8 | 9,_=>e8_9 | 10,_=>e8_10 | 11,_=>e8_11,v8,s8⟩
 have O9:One12 K B DT 9:=⟨by decide,(by show XI.dJ K B9=true;unfold XI.dJ;rw[g91,g92,g93,g94];rfl),λj hj=>match j,hj with | 0,_=>e9_0 | 1,_=>e9_1 | 2,_=>e9_2 | 3,_=>e9_3 | 4,_=>e9_4 | 5,_=>e9_5 | 6,_=>e9_6 | 7,_=>e9_7 | 8,_=>e9_8 | 9,_=>e9_9 | 10,_=>e9_10 | 11,_=>e9_11,v9,s9⟩
 have O11:One12 K B DT 11:=⟨by decide,(by show XI.dJ K B11=true;unfold XI.dJ;rw[g111,g112,g113,g114];rfl),λj hj=>match j,hj with | 0,_=>e11_0 | 1,_=>e11_1 | 2,_=>e11_2 | 3,_=>e11_3 | 4,_=>e11_4 | 5,_=>e11_5 | 6,_=>e11_6 | 7,_=>e11_7 | 8,_=>e11_8 | 9,_=>e11_9 | 10,_=>e11_10 | 11,_=>e11_11,v11,s11⟩
 have O:∀wd,One12 K B DT (eI wd):=λwd=>match wd with | .inside=>O0 | .known=>O1 | .noNode=>O5 | .notFile=>O7 | .notFolder=>O8 | .taken=>O11
 have TLedger:LCls K mg OLedger:=⟨⟨pgLedger,hdLedger,poLedger,saLedger⟩,naLedger0,naLedger1,naLedger2,naLedger3,naLedger4,mg_of X G aLedger⟩;have MkLedger:Mk K OLedger f19:=⟨mkLedger,a19,i19,kcLedger⟩;have M_Ledger___init__:Meth K OLedger "__init__" f19:=⟨a19,i19,F19.kp⟩;have b_Ledger___init__:aq K d19 ["self","tree"] []:=fb2 F19;have M_Ledger_base:Meth K OLedger "base" f20:=⟨a20,i20,F20.kp⟩;have b_Ledger_base:aq K d20 ["self"] []:=fb1 F20;have M_Ledger_now:Meth K OLedger "now" f21:=⟨a21,i21,F21.kp⟩;have b_Ledger_now:aq K d21 ["self"] []:=fb1 F21;have M_Ledger_sizes:Meth K OLedger "sizes" f22:=⟨a22,i22,F22.kp⟩;have b_Ledger_sizes:aq K d22 ["self"] []:=fb1 F22;have M_Ledger_tags:Meth K OLedger "tags" f23:=⟨a23,i23,F23.kp⟩;have b_Ledger_tags:aq K d23 ["self"] []:=fb1 F23;have M_Ledger_go_on:Meth K OLedger "go_on" f24:=⟨a24,i24,F24.kp⟩;have b_Ledger_go_on:aq K d24 ["self","step","tree","tag_trees"] []:=fb4 F24;have M_Ledger_do:Meth K OLedger "do" f25:=⟨a25,i25,F25.kp⟩;have b_Ledger_do:aq K d25 ["self","deed"] []:=fb2 F25;have M_Ledger_tagged:Meth K OLedger "tagged" f26:=⟨a26,i26,F26.kp⟩;have b_Ledger_tagged:aq K d26 ["self","name"] []:=fb2 F26;have M_Ledger_tag:Meth K OLedger "tag" f27:=⟨a27,i27,F27.kp⟩;have b_Ledger_tag:aq K d27 ["self","name"] []:=fb2 F27;have M_Ledger_from_tag:Meth K OLedger "from_tag" f28:=⟨a28,i28,F28.kp⟩;have b_Ledger_from_tag:aq K d28 ["self","name"] []:=fb2 F28;have M_Ledger_pass_over:Meth K OLedger "pass_over" f29:=⟨a29,i29,F29.kp⟩;have b_Ledger_pass_over:aq K d29 ["self","source","target"] []:=fb3 F29;have M_Ledger_back:Meth K OLedger "back" f30:=⟨a30,i30,F30.kp⟩;have b_Ledger_back:aq K d30 ["self"] []:=fb1 F30;have M_Ledger_forth:Meth K OLedger "forth" f31:=⟨a31,i31,F31.kp⟩;have b_Ledger_forth:aq K d31 ["self"] []:=fb1 F31;have hb:∀(s:Shared)(v:Value),BindsTo s d36 ⟨[v],[]⟩ [("_law_script",v)]:=by
  obtain⟨_,_,_,_,_,_,_,_,_,e,_,_⟩:=F36.ex;subst e;exact λs v=>.of_eq rfl
 have all:∀base:Heap,K.In base→BmB base mg→(Has l.prog w K mg base 2 "_law_pick" ["_law_script","_law_k","_law_many"] (gh K))∧(FnOk l.prog w K mg base (CX1 l.prog w) 2 f27 d27 ["self","name"] (fi (B 9)))∧(FnOk l.prog w K mg base (CX1 l.prog w) 2 f26 d26 ["self","name"] (cR OLedger (B 9)))∧(FnOk l.prog w K mg base (CX1 l.prog w) 3 f28 d28 ["self","name"] (eW OLedger (B 9)))∧(FnOk l.prog w K mg base (CX1 l.prog w) 5 f25 d25 ["self","deed"] (cT OLedger λwd=>B (eI wd)))∧(cy l.prog w K mg base 3 "total" ["tree","number"] (br (B 5) (B 8)))∧(cy l.prog w K mg base 3 "shape" ["tree","number"] (br (B 5) (B 8)))∧(FnOk l.prog w K mg base CX0 1 f19 d19 ["self","tree"] (jG OLedger))∧(FnOk l.prog w K mg base (CX1 l.prog w) 2 f27 d27 ["self","name"] (jI OLedger (B 9)))∧(FnOk l.prog w K mg base CX0 3 f28 d28 ["self","name"] (nK OLedger))∧(FnOk l.prog w K mg base CX0 1 f21 d21 ["self"] (ip OLedger))∧(FnOk l.prog w K mg base CX0 1 f23 d23 ["self"] (ff OLedger))∧(FnOk l.prog w K mg base CX0 1 f22 d22 ["self"] (iq OLedger))∧(FnOk l.prog w K mg base (CX1 l.prog w) 2 f30 d30 ["self"] (nG OLedger (B 2)))∧(FnOk l.prog w K mg base (CX1 l.prog w) 2 f31 d31 ["self"] (nH OLedger (B 2)))∧(FnOk l.prog w K mg base CX0 1 f20 d20 ["self"] (jJ OLedger)):=λbase KB Bm=>by
  let H:=Has l.prog w K mg base
  let HX:=cy l.prog w K mg base
  have OB:fu "NoBack" mg base (B 2):=eY KB (mg_of X G x2) q2;have OG:fu "NoTag" mg base (B 9):=eY KB (mg_of X G x9) q9;have W6:vH mg base (λwd=>B (eI wd)):=λwd=>match wd with | .inside=>eY KB (mg_of X G x0) q0 | .known=>eY KB (mg_of X G x1) q1 | .noNode=>eY KB (mg_of X G x5) q5 | .notFile=>eY KB (mg_of X G x7) q7 | .notFolder=>eY KB (mg_of X G x8) q8 | .taken=>eY KB (mg_of X G x11) q11
  have C_is_name:H 1 "is_name" ["thing"] fg:=fh X G F1 a1 (fb1 F1) (jH F1 T);have C_is_name_O:H 1 "is_name" ["thing"] gU:=fh X G F1 a1 (fb1 F1) (nJ F1 T);have C_is_name_E:H 1 "is_name" ["thing"] (λvs H Q E=>gU vs H Q E∨fg vs H Q E):=fh X G F1 a1 (fb1 F1) ((nJ F1 T).or (jH F1 T));have C_numbers_inside:H 1 "numbers_inside" ["nodes","folder"] qd:=fh X G F2 a2 (fb2 F2) (yd F2 T);have C_by_number:H 1 "by_number" ["tree"] gQ:=fh X G F3 a3 (fb1 F3) (ye F3 T);have C_node_of:HX 1 "node_of" ["nodes","number"] (jy (B 5)):=fhX X G F4 a4 (fb2 F4) (yf F4 (W6 .noNode));have C_node_of_W:HX 1 "node_of" ["nodes","number"] (pk (B 5)):=fhX X G F4 a4 (fb2 F4) (wC F4 (W6 .noNode));have C_check_folder:HX 2 "check_folder" ["nodes","number"] (qf (B 5) (B 8)):=fhX X G F5 a5 (fb2 F5) (yh F5 T (W6 .notFolder) C_node_of);have C_check_folder_R:HX 2 "check_folder" ["nodes","number"] (lI (B 5) (B 8)):=fhX X G F5 a5 (fb2 F5) (wD F5 T (W6 .notFolder) C_node_of_W);have C_below:HX 2 "below" ["tree","number"] (qe (B 5)):=fhX X G F6 a6 (fb2 F6) (yg F6 T C_by_number C_node_of C_numbers_inside);have C_parts_by_number:H 1 "parts_by_number" ["tree"] pj:=fh X G F7 a7 (fb1 F7) (wt F7 T);have C_unlike_entries:H 1 "unlike_entries" ["entries"] qm:=fh X G F8 a8 (fb1 F8) (yB F8 T);have C_change_between:H 2 "change_between" ["one","other"] qp:=fh X G F9 a9 (fb2 F9) (yC F9 T C_parts_by_number C_unlike_entries);have C_check_place:HX 1 "check_place" ["tree","number","parent","name"] (nB (B 11)):=fhX X G F10 a10 (fb4 F10) (yi F10 (W6 .taken));have C_with_node:H 1 "with_node" ["tree","changed"] jz:=fh X G F11 a11 (fb2 F11) (vY F11 T);have C_make:HX 3 "make" ["tree","number","parent","name","stamp"] (oW λwd=>B (eI wd)):=fhX X G F12 a12 (fb5 F12) (vZ F12 T W6 C_by_number C_check_folder C_check_place);have C_write:HX 2 "write" ["tree","number","stamp"] (lF λwd=>B (eI wd)):=fhX X G F13 a13 (fb3 F13) (ue F13 W6 C_by_number C_node_of C_with_node);have C_move:HX 3 "move" ["tree","number","parent","name"] (oX λwd=>B (eI wd)):=fhX X G F14 a14 (fb4 F14) (wa F14 W6 C_by_number C_node_of C_check_folder C_below C_check_place C_with_node);have C_drop:HX 3 "drop" ["tree","number"] (oZ λwd=>B (eI wd)):=fhX X G F15 a15 (fb2 F15) (wb F15 T C_by_number C_node_of C_below);have C_done:HX 4 "done" ["tree","deed"] (pc λwd=>B (eI wd)):=fhX X G F16 a16 (fb2 F16) (wc F16 C_make C_write C_move C_drop);have C_total:HX 3 "total" ["tree","number"] (br (B 5) (B 8)):=fhX X G F17 a17 (fb2 F17) (wE F17 C_by_number C_check_folder_R);have C_shape:HX 3 "shape" ["tree","number"] (br (B 5) (B 8)):=fhX X G F18 a18 (fb2 F18) (wF F18 C_by_number C_check_folder_R);have G_Ledger___init__:FnOk l.prog w K mg base CX0 1 f19 d19 ["self","tree"] (jG OLedger):=we F19 TLedger;have G_Ledger_base:FnOk l.prog w K mg base CX0 1 f20 d20 ["self"] (jJ OLedger):=wB F20 TLedger;have G_Ledger_now:FnOk l.prog w K mg base CX0 1 f21 d21 ["self"] (ip OLedger):=wf F21 TLedger;have G_Ledger_sizes:FnOk l.prog w K mg base CX0 1 f22 d22 ["self"] (iq OLedger):=wg F22 T TLedger;have G_Ledger_tags:FnOk l.prog w K mg base CX0 1 f23 d23 ["self"] (ff OLedger):=um F23 T TLedger;have G_Ledger_go_on:FnOk l.prog w K mg base CX0 1 f24 d24 ["self","step","tree","tag_trees"] (qi OLedger):=yx F24 TLedger;have G_Ledger_do:FnOk l.prog w K mg base (CX1 l.prog w) 5 f25 d25 ["self","deed"] (cT OLedger λwd=>B (eI wd)):=yy F25 TLedger C_done M_Ledger_go_on G_Ledger_go_on b_Ledger_go_on;have G_Ledger_tagged:FnOk l.prog w K mg base CX0 2 f26 d26 ["self","name"] (pi OLedger):=wp F26 TLedger C_is_name;have G_Ledger_tagged_O:FnOk l.prog w K mg base (CX1 l.prog w) 2 f26 d26 ["self","name"] (cR OLedger (B 9)):=wz F26 TLedger OG C_is_name_E;have G_Ledger_tag:FnOk l.prog w K mg base (CX1 l.prog w) 2 f27 d27 ["self","name"] (jI OLedger (B 9)):=wq F27 T TLedger OG C_is_name M_Ledger_go_on G_Ledger_go_on b_Ledger_go_on;have G_Ledger_tag_O:FnOk l.prog w K mg base (CX1 l.prog w) 2 f27 d27 ["self","name"] (fi (B 9)):=uE F27 OG C_is_name_O;have G_Ledger_from_tag:FnOk l.prog w K mg base CX0 3 f28 d28 ["self","name"] (nK OLedger):=yG F28 TLedger C_change_between M_Ledger_tagged G_Ledger_tagged b_Ledger_tagged;have G_Ledger_from_tag_O:FnOk l.prog w K mg base (CX1 l.prog w) 3 f28 d28 ["self","name"] (eW OLedger (B 9)):=wA F28 TLedger C_change_between M_Ledger_tagged G_Ledger_tagged_O b_Ledger_tagged;have G_Ledger_pass_over:FnOk l.prog w K mg base (CX1 l.prog w) 1 f29 d29 ["self","source","target"] (ql OLedger (B 2)):=yz F29 TLedger OB;have G_Ledger_back:FnOk l.prog w K mg base (CX1 l.prog w) 2 f30 d30 ["self"] (nG OLedger (B 2)):=uv F30 TLedger M_Ledger_pass_over G_Ledger_pass_over b_Ledger_pass_over;have G_Ledger_forth:FnOk l.prog w K mg base (CX1 l.prog w) 2 f31 d31 ["self"] (nH OLedger (B 2)):=rB F31 TLedger M_Ledger_pass_over G_Ledger_pass_over b_Ledger_pass_over;have C__law_cell:H 1 "_law_cell" ["_law_script","_law_k"] (oU K):=fh X G F32 a32 (fb2 F32) (vW F32 T);have C__law_pick:H 2 "_law_pick" ["_law_script","_law_k","_law_many"] (gh K):=fh X G F33 a33 (fb3 F33) (vX F33 T C__law_cell);exact⟨C__law_pick,G_Ledger_tag_O,G_Ledger_tagged_O,G_Ledger_from_tag_O,G_Ledger_do,C_total,C_shape,G_Ledger___init__,G_Ledger_tag,G_Ledger_from_tag,G_Ledger_now,G_Ledger_tags,G_Ledger_sizes,G_Ledger_back,G_Ledger_forth,G_Ledger_base⟩
 refine⟨d36,hb,λbase KB _ Bm=>?_⟩;obtain⟨C__law_pick,G_Ledger_tag_O,G_Ledger_tagged_O,G_Ledger_from_tag_O,G_Ledger_do,C_total,C_shape,G_Ledger___init__,G_Ledger_tag,G_Ledger_from_tag,G_Ledger_now,G_Ledger_tags,G_Ledger_sizes,G_Ledger_back,G_Ledger_forth,G_Ledger_base⟩:=all base KB Bm;exact yR F36 kL ⟨KB,T,codeHd_of_K KB eL,Bm,F35,mg_of X G a35,fb1 F35,F34,mg_of X G a34,fb1 F34,L⟩ (zQ O0 O1 O5 O7 O8 O9 O11) TLedger M_Ledger_tag b_Ledger_tag M_Ledger_do b_Ledger_do M_Ledger_tagged b_Ledger_tagged M_Ledger_from_tag b_Ledger_from_tag C__law_pick (λb k m=>⟨(all b k m).2.1,(all b k m).2.2.1,(all b k m).2.2.2.1,(all b k m).2.2.2.2.1,(all b k m).2.2.2.2.2.1,(all b k m).2.2.2.2.2.2.1⟩) MkLedger G_Ledger___init__ b_Ledger___init__ G_Ledger_tag G_Ledger_from_tag M_Ledger_now G_Ledger_now b_Ledger_now M_Ledger_tags G_Ledger_tags b_Ledger_tags M_Ledger_sizes G_Ledger_sizes b_Ledger_sizes M_Ledger_back G_Ledger_back b_Ledger_back M_Ledger_forth G_Ledger_forth b_Ledger_forth M_Ledger_base G_Ledger_base b_Ledger_base
theorem walk{l:PySem.W.OpenLaw}{q:Program}{loose:List Str}{XP:(Str→Option Value)→Heap→Prop}{YP:World→Heap→Prop}{d:DefRec}{K:Params→PySem.W.Frag}(PL:Addr)(hn:l.most=some 63)(hdf:d.params.defaults=[])(hY:∀(w:World) (h:Heap),YP w h→(K w.params).In h){ts:List Addr}(hT:∀(w:World) (h:Heap),YP w h→∀t∈ts,h.get? t=some (tabObj #[]))(mL:PL∈ts)(cL:Addr)(eL:∀w:World,codeHdIn (K w.params) cL PL=true)(nL:∀w:World,(K w.params).lookup PL=none)(F:∀(w:World) (mg:Str→Option Value) (fa:Addr) (h:Heap),(K w.params).In h→h.Ns mainGlobals mg→mg d.name=some (.ref fa) →
   ∃fd:FuncData,(∀(s:Shared) (u:Value),BindsTo s fd ⟨[u],[]⟩ [("_law_script",u)])∧∀base:Heap,(K w.params).In base→base.Ns mainGlobals mg→BmB base mg→FnOk l.prog w (K w.params) mg base CX0 8 fa fd ["_law_script"] (qu PL (K w.params))):
  PySem.W.WalkO q loose XP YP l.row.toRowW d [] (λf vs=>PySem.call f vs) :=
 L2.tX (tabs:=[PL]) (n:=63) (k:=8) (x:="_law_script") (sp:=λw=>qu PL (K w.params)) hn (by decide) hdf ⟨rfl,by decide,by decide,rfl⟩ hY
  (λw h Y=>List.forall_mem_cons.mpr ⟨hT w h Y _ mL,λ_ h=>nomatch h⟩)
  (λw=>List.forall_mem_cons.mpr ⟨⟨⟨cL,eL w⟩,nL w⟩,λ_ h=>nomatch h⟩)
  F (λw H a ns hl hS hT=>⟨a,ns,rfl,hS,hl,hT PL (by simp),λ_=>rfl⟩)
end TK
end
open PySem PySem.W PyProof.Rows
def PySem.W.Fast.tw6526968424644230025:Unit:=()
def PySem.W.Fast.tw13865032194105480264:Unit:=()
def PySem.W.Fast.tw14092871590663402002:Unit:=()
def PySem.W.Fast.tw8008969556270979242:Unit:=()
def PySem.W.Fast.tw8814698564309110187:Unit:=()
def PySem.W.Fast.tw3363892087707522954:Unit:=()
def PySem.W.Fast.tw12468544328470176938:Unit:=()
def PySem.W.Fast.tw7085082027970988145:Unit:=()
def PySem.W.Fast.tw12789668865297959480:Unit:=()
def PySem.W.Fast.tw6501761222500503815:Unit:=()
def PySem.W.Fast.tw2538629705566980540:Unit:=()
def PySem.W.Fast.tw11127528981466584788:Unit:=()
def PySem.W.Fast.tw2069520090495000315:Unit:=()
def PySem.W.Fast.tw3749077822659820658:Unit:=()
def PySem.W.Fast.tw5673190406134193582:Unit:=()
def PySem.W.Fast.tw14419840163551769184:Unit:=()
def PySem.W.Fast.tw5210810315179375633:Unit:=()
def PySem.W.Fast.tw2099482301430836695:Unit:=()
def PySem.W.Fast.tw12990774147600240205:Unit:=()
def PySem.W.Fast.tw1175339007703156834:Unit:=()
def PySem.W.Fast.tw16817345795847390509:Unit:=()
def PySem.W.Fast.tw8697792633714522401:Unit:=()
def PySem.W.Fast.tw1938150700510862963:Unit:=()
def PySem.W.Fast.tw10143808002387431016:Unit:=()
def PySem.W.Fast.tw4287270543084643031:Unit:=()
def PySem.W.Fast.tw12364723004032846889:Unit:=()
def PySem.W.Fast.tw14546188632145799414:Unit:=()
def PySem.W.Fast.tw17539737211305466916:Unit:=()
def PySem.W.Fast.tw16434198679708912274:Unit:=()
def PySem.W.Fast.tw12147940356556373990:Unit:=()
def PySem.W.Fast.tw8835511759099034042:Unit:=()
def PySem.W.Fast.tw14804695517723868065:Unit:=()
def PySem.W.Fast.tw1647671459849057160:Unit:=()
def PySem.W.Fast.tw15644282403336585200:Unit:=()
def PySem.W.Fast.tw8306223318335527026:Unit:=()
def PySem.W.Fast.tw9295820387408996819:Unit:=()
def PySem.W.Fast.tw5418546578926205310:Unit:=()
def PySem.W.Fast.tw3651517837537966526:Unit:=()
def PySem.W.Fast.tw12165723099475942926:Unit:=()
def PySem.W.Fast.tw1003079363215764749:Unit:=()
def PySem.W.Fast.tw3936317872988427108:Unit:=()
def PySem.W.Fast.tw18372520350296276476:Unit:=()
def PySem.W.Fast.tw15162646993217352502:Unit:=()
def PySem.W.Fast.tw2880435480631773662:Unit:=()
def PySem.W.Fast.tw12275285451299538528:Unit:=()
def PySem.W.Fast.tw2529244354091748709:Unit:=()
def PySem.W.Fast.tw4670628006453930879:Unit:=()
def PySem.W.Fast.tw7153842534519895633:Unit:=()
def PySem.W.Fast.tw5726702489507250476:Unit:=()
def PySem.W.Fast.tw8549707585136061228:Unit:=()
def PySem.W.Fast.tw4427998379407456211:Unit:=()
def PySem.W.Fast.tw543517645404259894:Unit:=()
def PySem.W.Fast.tw15551030124409141476:Unit:=()
def PySem.W.Fast.tw7296172629703836643:Unit:=()
def PySem.W.Fast.tw1678247967938382238:Unit:=()
def PySem.W.Fast.tw1998644904639794552:Unit:=()
def PySem.W.Fast.tw7440300178254092637:Unit:=()
def PySem.W.Fast.tw10470787404125973220:Unit:=()
set_option maxRecDepth 100000 in
set_option maxHeartbeats 0 in
theorem PySem.Challenge.cw_treewatch_k87_ledgers_refused_holds : PySem.Challenge.rw_treewatch_k87_ledgers_refused.Holds := by
 w_on; o_law; k_head; (case hw=>w_witness2)
 k_fill
 refine TK.walk (l:=PySem.Challenge.rw_treewatch_k87_ledgers_refused) 442 rfl rfl (λw h Y=>PySem.W.km_in_of Y) (λw h Y=>PySem.W.km_tabs_of Y) (by decide) 446 (λw=>by kernel_rfl) (λw=>by kernel_rfl) ?F
 case F =>
  intro w mg fa h KX G hmg
  refine' TK.yS KX G hmg ?a1 ?F1 ?a2 ?F2 ?a3 ?F3 ?a4 ?F4 ?a5 ?F5 ?a6 ?F6 ?a7 ?F7 ?a8 ?F8 ?a9 ?F9 ?a10 ?F10 ?a11 ?F11 ?a12 ?F12 ?a13 ?F13 ?a14 ?F14 ?a15 ?F15 ?a16 ?F16 ?a17 ?F17 ?a18 ?F18 ?a19 ?i19 ?F19 ?a20 ?i20 ?F20 ?a21 ?i21 ?F21 ?a22 ?i22 ?F22 ?a23 ?i23 ?F23 ?a24 ?i24 ?F24 ?a25 ?i25 ?F25 ?a26 ?i26 ?F26 ?a27 ?i27 ?F27 ?a28 ?i28 ?F28 ?a29 ?i29 ?F29 ?a30 ?i30 ?F30 ?a31 ?i31 ?F31 ?a32 ?F32 ?a33 ?F33 ?a34 ?F34 ?a35 ?F35 ?a36 ?F36 ?z1 ?z2 ?z3 ?z4 ?z5 ?z6 ?z7 ?z8 ?z9 ?z10 ?z11 ?z12 ?z13 ?z14 ?z15 ?z16 ?z17 ?z18 ?z19 ?v1t ?v2t ?v3t ?kL ?eL ?xD ?gD ?x0 ?x1 ?x2 ?x3 ?x4 ?x5 ?x6 ?x7 ?x8 ?x9 ?x10 ?x11 ?q0 ?e0_0 ?e0_1 ?e0_2 ?e0_3 ?e0_4 ?e0_5 ?e0_6 ?e0_7 ?e0_8 ?e0_9 ?e0_10 ?e0_11 ?v0 ?s0 ?g01 ?g02 ?g03 ?g04 ?q1 ?e1_0 ?e1_1 ?e1_2 ?e1_3 ?e1_4 ?e1_5 ?e1_6 ?e1_7 ?e1_8 ?e1_9 ?e1_10 ?e1_11 ?v1 ?s1 ?g11 ?g12 ?g13 ?g14 ?q2 ?e2_0 ?e2_1 ?e2_2 ?e2_3 ?e2_4 ?e2_5 ?e2_6 ?e2_7 ?e2_8 ?e2_9 ?e2_10 ?e2_11 ?v2 ?s2 ?g21 ?g22 ?g23 ?g24 ?q5 ?e5_0 ?e5_1 ?e5_2 ?e5_3 ?e5_4 ?e5_5 ?e5_6 ?e5_7 ?e5_8 ?e5_9 ?e5_10 ?e5_11 ?v5 ?s5 ?g51 ?g52 ?g53 ?g54 ?q7 ?e7_0 ?e7_1 ?e7_2 ?e7_3 ?e7_4 ?e7_5 ?e7_6 ?e7_7 ?e7_8 ?e7_9 ?e7_10 ?e7_11 ?v7 ?s7 ?g71 ?g72 ?g73 ?g74 ?q8 ?e8_0 ?e8_1 ?e8_2 ?e8_3 ?e8_4 ?e8_5 ?e8_6 ?e8_7 ?e8_8 ?e8_9 ?e8_10 ?e8_11 ?v8 ?s8 ?g81 ?g82 ?g83 ?g84 ?q9 ?e9_0 ?e9_1 ?e9_2 ?e9_3 ?e9_4 ?e9_5 ?e9_6 ?e9_7 ?e9_8 ?e9_9 ?e9_10 ?e9_11 ?v9 ?s9 ?g91 ?g92 ?g93 ?g94 ?q11 ?e11_0 ?e11_1 ?e11_2 ?e11_3 ?e11_4 ?e11_5 ?e11_6 ?e11_7 ?e11_8 ?e11_9 ?e11_10 ?e11_11 ?v11 ?s11 ?g111 ?g112 ?g113 ?g114 ?aLedger ?pgLedger ?hdLedger ?poLedger ?saLedger ?mkLedger ?kcLedger ?naLedger0 ?naLedger1 ?naLedger2 ?naLedger3 ?naLedger4
  (case aLedger=>k_is)
  (case a1|a2|a3|a4|a5|a6|a7|a8|a9|a10|a11|a12|a13|a14|a15|a16|a17|a18=>unfold TK.gA; k_is)
  (case F1|F2|F3|F4|F5|F6|F7|F8|F9|F10|F11|F12|F13|F14|F15|F16|F17|F18=>apply L2.cw <;> k_is)
  (case a19|i19=>k_is)
  (case F19=>apply L2.cw <;> k_is)
  (case a20|i20=>k_is)
  (case F20=>apply L2.cw <;> k_is)
  (case a21|i21=>k_is)
  (case F21=>apply L2.cw <;> k_is)
  (case a22|i22=>k_is)
  (case F22=>apply L2.cw <;> k_is)
  (case a23|i23=>k_is)
  (case F23=>apply L2.cw <;> k_is)
  (case a24|i24=>k_is)
  (case F24=>apply L2.cw <;> k_is)
  (case a25|i25=>k_is)
  (case F25=>apply L2.cw <;> k_is)
  (case a26|i26=>k_is)
  (case F26=>apply L2.cw <;> k_is)
  (case a27|i27=>k_is)
  (case F27=>apply L2.cw <;> k_is)
  (case a28|i28=>k_is)
  (case F28=>apply L2.cw <;> k_is)
  (case a29|i29=>k_is)
  (case F29=>apply L2.cw <;> k_is)
  (case a30|i30=>k_is)
  (case F30=>apply L2.cw <;> k_is)
  (case a31|i31=>k_is)
  (case a32|a33|a34|a35|a36=>unfold TK.gA; k_is)
  (case F31|F32|F33|F34|F35|F36=>apply L2.cw <;> k_is)
  (case z1|z2|z3|z4|z5|z6|z7|z8|z9|z10|z11|z12|z13|z14|z15|z16|z17|z18|z19=>unfold TK.gN; k_is)
  (case v1t|v2t|v3t=>k_is)
  (case kL=>exact rfl)
  (case eL=>kernel_rfl)
  (case xD=>k_is)
  (case gD=>kts_isx)
  (case x0|x1|x2|x3|x4|x5|x6|x7|x8|x9|x10|x11=>k_is)
  (case q0=>k_exc)
  (case e0_0|e0_1|e0_2|e0_3|e0_4|e0_5|e0_6|e0_7|e0_8|e0_9|e0_10|e0_11|v0=>kit_is)
  (case s0=>k_is)
  (case g01=>kts_isx)
  (case g02|g03|g04=>k_is)
  (case q1=>k_exc)
  (case e1_0|e1_1|e1_2|e1_3|e1_4|e1_5|e1_6|e1_7|e1_8|e1_9|e1_10|e1_11|v1=>kit_is)
  (case s1=>k_is)
  (case g11=>kts_isx)
  (case g12|g13|g14=>k_is)
  (case q2=>k_exc)
  (case e2_0|e2_1|e2_2|e2_3|e2_4|e2_5|e2_6|e2_7|e2_8|e2_9|e2_10|e2_11|v2=>kit_is)
  (case s2=>k_is)
  (case g21=>kts_isx)
  (case g22|g23|g24=>k_is)
  (case q5=>k_exc)
  (case e5_0|e5_1|e5_2|e5_3|e5_4|e5_5|e5_6|e5_7|e5_8|e5_9|e5_10|e5_11|v5=>kit_is)
  (case s5=>k_is)
  (case g51=>kts_isx)
  (case g52|g53|g54=>k_is)
  (case q7=>k_exc)
  (case e7_0|e7_1|e7_2|e7_3|e7_4|e7_5|e7_6|e7_7|e7_8|e7_9|e7_10|e7_11|v7=>kit_is)
  (case s7=>k_is)
  (case g71=>kts_isx)
  (case g72|g73|g74=>k_is)
  (case q8=>k_exc)
  (case e8_0|e8_1|e8_2|e8_3|e8_4|e8_5|e8_6|e8_7|e8_8|e8_9|e8_10|e8_11|v8=>kit_is)
  (case s8=>k_is)
  (case g81=>kts_isx)
  (case g82|g83|g84=>k_is)
  (case q9=>k_exc)
  (case e9_0|e9_1|e9_2|e9_3|e9_4|e9_5|e9_6|e9_7|e9_8|e9_9|e9_10|e9_11|v9=>kit_is)
  (case s9=>k_is)
  (case g91=>kts_isx)
  (case g92|g93|g94=>k_is)
  (case q11=>k_exc)
  (case e11_0|e11_1|e11_2|e11_3|e11_4|e11_5|e11_6|e11_7|e11_8|e11_9|e11_10|e11_11|v11=>kit_is)
  (case s11=>k_is)
  (case g111=>kts_isx)
  (case g112|g113|g114|pgLedger|hdLedger|poLedger|saLedger|mkLedger|kcLedger|naLedger0|naLedger1|naLedger2|naLedger3|naLedger4=>k_is)
